import PyProof.Rows.All
import Wide.All
import OpenK.AllK
import Wide.FinOn
import HandS.ForMost
import HandS.IsInst
import HandS.Lambda
import HandS.RaiseMore
import HandS.Property
import HandS.Zip
import HandS.Conv
import HandS.SetFor
import HandS.Strs
import HandS.SortInts
import PyProof.ReprRoads
import KE.GoesMore
import KE.KxText
import HandS.TupAny
import HandS.TupSets
import HandS.Star
import HandS.TupLe
import HandS.TupMul
import HandS.MakeKwOnly
import HandS.TryMany
import HandS.ExcInit
import HandS.ExcField
import KE.KNestM
import HandS.EndTab
import HandS.FStr
import HandS.Style
import PyProof.NeKinds
import HandS.NoneIn
import HandS.Wide
import PySem.Challenge.RW_handedworld_k60_charts_judged
set_option Elab.async false
set_option linter.all false
set_option maxRecDepth 100000
set_option maxHeartbeats 4000000
/-! a layer of data over the hand layer: values as data (D), the visible heap, readings by data -/
namespace DL
open PySem PySem.Spec PyProof.Rows L2

/-- a value as data -/
inductive D where
  | non | bl (b : Bool) | int (i : Int) | str (x : Str)
  | lst (xs : List D) | tup (xs : List D)
  | dic (kvs : List (Key × D))
  | obj (C : Addr) (fs : List (Str × D))
  | raw (v : V)
abbrev Dl := List D

mutual
inductive Rep (K : PySem.W.Frag) (G : Hp) : V → D → Prop
  | non : Rep K G .non .non
  | bl (b : Bool) : Rep K G (.bl b) (.bl b)
  | int (i : Int) : Rep K G (.int i) (.int i)
  | str (x : Str) : Rep K G (.str x) (.str x)
  | lst {a : Addr} {xs : List V} {ds : List D} : SqL K G a xs → RepL K G xs ds → Rep K G (.ref a) (.lst ds)
  | tup {a : Addr} {xs : List V} {ds : List D} : SqT K G a xs → RepL K G xs ds → Rep K G (.ref a) (.tup ds)
  | dic {a : Addr} {xs : List (Key × V)} {ds : List (Key × D)} : Rd G a (.dK xs) → RepK K G xs ds → Rep K G (.ref a) (.dic ds)
  | obj {a C dx : Addr} {xs : List (Str × V)} {ds : List (Str × D)} : G a = some (.ins C dx xs) → RepS K G xs ds → Rep K G (.ref a) (.obj C ds)
  | raw (v : V) : Rep K G v (.raw v)
inductive RepL (K : PySem.W.Frag) (G : Hp) : List V → List D → Prop
  | nil : RepL K G [] []
  | cons {v : V} {vs : List V} {d : D} {ds : List D} : Rep K G v d → RepL K G vs ds → RepL K G (v :: vs) (d :: ds)
inductive RepK (K : PySem.W.Frag) (G : Hp) : List (Key × V) → List (Key × D) → Prop
  | nil : RepK K G [] []
  | cons {k : Key} {v : V} {vs : List (Key × V)} {d : D} {ds : List (Key × D)} : Rep K G v d → RepK K G vs ds → RepK K G ((k, v) :: vs) ((k, d) :: ds)
inductive RepS (K : PySem.W.Frag) (G : Hp) : List (Str × V) → List (Str × D) → Prop
  | nil : RepS K G [] []
  | cons {k : Str} {v : V} {vs : List (Str × V)} {d : D} {ds : List (Str × D)} : Rep K G v d → RepS K G vs ds → RepS K G ((k, v) :: vs) ((k, d) :: ds)
end

section
variable {K : PySem.W.Frag} {G G' : Hp}
theorem rd_mono (e : Same G G') {a : Addr} {u : HO} (h : Rd G a u) : Rd G' a u := by
  rcases h with h | ⟨o, h⟩
  · exact .inl (e _ _ h)
  · exact .inr ⟨o, e _ _ h⟩
theorem sqt_mono (e : Same G G') {a : Addr} {xs : List V} (h : SqT K G a xs) : SqT K G' a xs := by
  rcases h with h | h
  · exact .inl (rd_mono e h)
  · exact .inr h
mutual
theorem Rep.mono (e : Same G G') : ∀ {v : V} {d : D}, Rep K G v d → Rep K G' v d
  | _, _, .non => .non
  | _, _, .bl b => .bl b
  | _, _, .int i => .int i
  | _, _, .str x => .str x
  | _, _, .lst h r => .lst (e.seq h) (RepL.mono e r)
  | _, _, .tup h r => .tup (sqt_mono e h) (RepL.mono e r)
  | _, _, .dic h r => .dic (rd_mono e h) (RepK.mono e r)
  | _, _, .obj h r => .obj (e _ _ h) (RepS.mono e r)
  | _, _, .raw v => .raw v
theorem RepL.mono (e : Same G G') : ∀ {v : List V} {d : List D}, RepL K G v d → RepL K G' v d
  | _, _, .nil => .nil
  | _, _, .cons a b => .cons (Rep.mono e a) (RepL.mono e b)
theorem RepK.mono (e : Same G G') : ∀ {v : List (Key × V)} {d : List (Key × D)}, RepK K G v d → RepK K G' v d
  | _, _, .nil => .nil
  | _, _, .cons a b => .cons (Rep.mono e a) (RepK.mono e b)
theorem RepS.mono (e : Same G G') : ∀ {v : List (Str × V)} {d : List (Str × D)}, RepS K G v d → RepS K G' v d
  | _, _, .nil => .nil
  | _, _, .cons a b => .cons (Rep.mono e a) (RepS.mono e b)
end
theorem RepL.length : ∀ {v : List V} {d : List D}, RepL K G v d → v.length = d.length
  | _, _, .nil => rfl
  | _, _, .cons _ b => congrArg (· + 1) (RepL.length b)
theorem RepL.append : ∀ {v w : List V} {d e : List D}, RepL K G v d → RepL K G w e → RepL K G (v ++ w) (d ++ e)
  | _, _, _, _, .nil, b => b
  | _, _, _, _, .cons a b, c => .cons a (RepL.append b c)
theorem RepL.get : ∀ {v : List V} {d : List D} {i : Nat} {x : D}, RepL K G v d → d[i]? = some x → ∃ u, v[i]? = some u ∧ Rep K G u x
  | _, _, _, _, .nil, h => by simp at h
  | _, _, 0, _, .cons a _, h => by simp at h; subst h; exact ⟨_, rfl, a⟩
  | _, _, i + 1, _, .cons _ b, h => by
    obtain ⟨u, e, r⟩ := RepL.get (i := i) b (by simpa using h)
    exact ⟨u, by simpa using e, r⟩
theorem RepL.get' : ∀ {v : List V} {d : List D} {i : Nat} {u : V}, RepL K G v d → v[i]? = some u → ∃ x, d[i]? = some x ∧ Rep K G u x
  | _, _, _, _, .nil, h => by simp at h
  | _, _, 0, _, .cons a _, h => by simp at h; subst h; exact ⟨_, rfl, a⟩
  | _, _, i + 1, _, .cons _ b, h => by
    obtain ⟨u, e, r⟩ := RepL.get' (i := i) b (by simpa using h)
    exact ⟨u, by simpa using e, r⟩
theorem RepL.take : ∀ {v : List V} {d : List D} (n : Nat), RepL K G v d → RepL K G (v.take n) (d.take n)
  | _, _, 0, _ => .nil
  | _, _, _ + 1, .nil => .nil
  | _, _, n + 1, .cons a b => .cons a (RepL.take n b)
theorem RepL.drop : ∀ {v : List V} {d : List D} (n : Nat), RepL K G v d → RepL K G (v.drop n) (d.drop n)
  | _, _, 0, r => r
  | _, _, _ + 1, .nil => .nil
  | _, _, n + 1, .cons _ b => RepL.drop n b
theorem RepL.set {x : V} {d : D} (r : Rep K G x d) : ∀ {v : List V} {ds : List D} (i : Nat), RepL K G v ds → RepL K G (v.set i x) (ds.set i d)
  | _, _, _, .nil => .nil
  | _, _, 0, .cons _ b => .cons r b
  | _, _, i + 1, .cons a b => .cons a (RepL.set r i b)
theorem RepL.strs : ∀ (l : List Str), RepL K G (l.map V.str) (l.map D.str)
  | [] => .nil
  | x :: r => .cons (.str x) (RepL.strs r)
theorem RepL.of_strs : ∀ {l : List Str} {v : List V}, RepL K G v (l.map D.str) → v = l.map V.str
  | [], _, h => by cases h; rfl
  | x :: r, _, h => by
    cases h with
    | cons a b => cases a; rw [RepL.of_strs b]; rfl
theorem RepL.of_ints : ∀ {l : List Int} {v : List V}, RepL K G v (l.map D.int) → v = l.map V.int
  | [], _, h => by cases h; rfl
  | x :: r, _, h => by
    cases h with
    | cons a b => cases a; rw [RepL.of_ints b]; rfl
theorem RepL.ints : ∀ (l : List Int), RepL K G (l.map V.int) (l.map D.int)
  | [] => .nil
  | x :: r => .cons (.int x) (RepL.ints r)
theorem RepL.of_bls : ∀ {l : List Bool} {v : List V}, RepL K G v (l.map D.bl) → v = l.map V.bl
  | [], _, h => by cases h; rfl
  | x :: r, _, h => by
    cases h with
    | cons a b => cases a; rw [RepL.of_bls b]; rfl
end

/-! ### what may change beside: mutable objects by address -/
inductive MO where
  | die
  | lst (xs : List D)
  | dic (kvs : List (Key × D))
  | ins (C : Addr) (fs : List (Str × D))
  | tab (q : Str)
abbrev Mem := Addr → Option MO
abbrev Fm := Addr → Bool
inductive RepO (K : PySem.W.Frag) (G : Hp) : HO → MO → Prop
  | die (i j k : Int) : RepO K G (.lst [.int i, .int j, .int k]) .die
  | lst {xs : List V} {ds : List D} : RepL K G xs ds → RepO K G (.lst xs) (.lst ds)
  | dic {xs : List (Key × V)} {ds : List (Key × D)} : RepK K G xs ds → RepO K G (.dK xs) (.dic ds)
  | ins {C dx : Addr} {xs : List (Str × V)} {ds : List (Str × D)} : RepS K G xs ds → RepO K G (.ins C dx xs) (.ins C ds)
  | tab {q : Str} {ps : Array Value} : TriplesOk ps.toList → (∀ (pos : Pos) (cv : Value), codeAmong pos ps.toList = some cv → ∃ c, cv = .ref c ∧ G c = some (LamX.CodeO c q)) → RepO K G (.tbl ps) (.tab q)
def vis (H : Hp) (M : Mem) (F : Fm) : Hp := fun b => if F b || (M b).isSome then none else H b
def mup (M : Mem) (a : Addr) (o : MO) : Mem := fun b => if b = a then some o else M b
theorem mup_same {M : Mem} {a : Addr} {o : MO} : mup M a o a = some o := by unfold mup; rw [if_pos rfl]
theorem mup_ne {M : Mem} {a b : Addr} {o : MO} (h : b ≠ a) : mup M a o b = M b := by unfold mup; rw [if_neg h]
theorem mup_mup {M : Mem} {a : Addr} {o u : MO} : mup (mup M a o) a u = mup M a u := by
  funext b; unfold mup; split <;> rfl
theorem mup_self {M : Mem} {a : Addr} {o : MO} (h : M a = some o) : mup M a o = M := by
  funext b; unfold mup; split
  · subst_vars; exact h.symm
  · rfl
section
variable {K : PySem.W.Frag} {H H' H1 H2 : Hp} {M M' M1 M2 : Mem} {F : Fm} {a b p : Addr} {o u : HO} {m : MO}
theorem vis_of (h : vis H M F b = some o) : H b = some o ∧ F b = false ∧ M b = none := by
  unfold vis at h
  split at h
  · cases h
  · rename_i q
    simp only [Bool.or_eq_true, not_or, Bool.not_eq_true] at q
    refine ⟨h, q.1, ?_⟩
    cases e : M b with
    | none => rfl
    | some _ => rw [e] at q; exact nomatch q.2
theorem vis_mk (h : H b = some o) (f : F b = false) (n : M b = none) : vis H M F b = some o := by
  unfold vis
  rw [f, n]
  exact h
theorem vis_at (f : F b = false) (n : M b = none) : vis H M F b = H b := by
  unfold vis
  rw [f, n]
  rfl
theorem vis_le : Same (vis H M F) H := fun _ _ h => (vis_of h).1
structure MOk (K : PySem.W.Frag) (F : Fm) (M : Mem) (H : Hp) : Prop where
  fr : ∀ b, F b = true → H b ≠ none ∧ M b = none
  mo : ∀ a m, M a = some m → ∃ ho, H a = some ho ∧ RepO K (vis H M F) ho m
  tb : ∀ b ps, H b = some (.tbl ps) → F b = true ∨ ∃ m, M b = some m
structure Go (K : PySem.W.Frag) (F : Fm) (M : Mem) (H : Hp) (M' : Mem) (H' : Hp) : Prop where
  ok : MOk K F M' H'
  ex : Same (vis H M F) (vis H' M' F)
  fr : ∀ b, F b = true → H' b = H b
theorem Go.refl (k : MOk K F M H) : Go K F M H M H := ⟨k, Same.refl _, fun _ _ => rfl⟩
theorem Go.trans (a : Go K F M H M1 H1) (b : Go K F M1 H1 M2 H2) : Go K F M H M2 H2 := ⟨b.ok, a.ex.trans b.ex, fun c h => (b.fr c h).trans (a.fr c h)⟩
theorem RepO.mono (e : Same H H') (r : RepO K H o m) : RepO K H' o m := by
  cases r with
  | die i j k => exact .die i j k
  | lst r => exact .lst (r.mono e)
  | dic r => exact .dic (r.mono e)
  | ins r => exact .ins (r.mono e)
  | tab a b => exact .tab a fun pos cv h => let ⟨c, e1, e2⟩ := b pos cv h; ⟨c, e1, e _ _ e2⟩
theorem MOk.new (k : MOk K F M H) (h : H p = none) : F p = false ∧ M p = none := by
  constructor
  · cases e : F p with
    | false => rfl
    | true => exact absurd h (k.fr p e).1
  · cases e : M p with
    | none => rfl
    | some m =>
      obtain ⟨ho, q, _⟩ := k.mo p m e
      rw [h] at q; cases q
/-- a new object, seen -/
theorem go_new (k : MOk K F M H) (h : H p = none) (nt : ∀ ps, o ≠ .tbl ps := by intro _ z; cases z) : Go K F M H M (upd H p o) ∧ vis (upd H p o) M F p = some o := by
  obtain ⟨f, n⟩ := k.new h
  have ex : Same (vis H M F) (vis (upd H p o) M F) := fun b u e => by
    obtain ⟨e1, e2, e3⟩ := vis_of e
    exact vis_mk (by rw [upd_ne (ne_of_none e1 h)]; exact e1) e2 e3
  refine ⟨⟨⟨fun b hb => ?_, fun a m hm => ?_, fun b ps hb => ?_⟩, ex, fun b hb => ?_⟩, vis_mk upd_same f n⟩
  · have hne : b ≠ p := fun e => by subst e; rw [f] at hb; cases hb
    rw [upd_ne hne]; exact k.fr b hb
  · obtain ⟨ho, q, r⟩ := k.mo a m hm
    exact ⟨ho, by rw [upd_ne (ne_of_none q h)]; exact q, r.mono ex⟩
  · by_cases e : b = p
    · subst e
      rw [upd_same] at hb; cases hb
      exact absurd rfl (nt ps)
    · rw [upd_ne e] at hb; exact k.tb b ps hb
  · have hne : b ≠ p := fun e => by subst e; rw [f] at hb; cases hb
    exact upd_ne hne
/-- a new object that may change -/
theorem go_newM (k : MOk K F M H) (h : H p = none) (r : RepO K (vis H M F) o m) : Go K F M H (mup M p m) (upd H p o) := by
  obtain ⟨f, n⟩ := k.new h
  have ex : Same (vis H M F) (vis (upd H p o) (mup M p m) F) := fun b u e => by
    obtain ⟨e1, e2, e3⟩ := vis_of e
    have hne := ne_of_none e1 h
    exact vis_mk (by rw [upd_ne hne]; exact e1) e2 (by rw [mup_ne hne]; exact e3)
  refine ⟨⟨fun b hb => ?_, fun a m' hm => ?_, fun b ps hb => ?_⟩, ex, fun b hb => ?_⟩
  · have hne : b ≠ p := fun e => by subst e; rw [f] at hb; cases hb
    rw [upd_ne hne, mup_ne hne]; exact k.fr b hb
  · by_cases e : a = p
    · subst e
      rw [mup_same] at hm; cases hm
      exact ⟨o, upd_same, r.mono ex⟩
    · rw [mup_ne e] at hm
      obtain ⟨ho, q, r'⟩ := k.mo a m' hm
      exact ⟨ho, by rw [upd_ne e]; exact q, r'.mono ex⟩
  · by_cases e : b = p
    · subst e; exact .inr ⟨m, mup_same⟩
    · rw [upd_ne e] at hb
      rw [mup_ne e]; exact k.tb b ps hb
  · have hne : b ≠ p := fun e => by subst e; rw [f] at hb; cases hb
    exact upd_ne hne
/-- a mutable object changed -/
theorem go_mut {m0 : MO} (k : MOk K F M H) (h : M p = some m0) (r : RepO K (vis H M F) o m) : Go K F M H (mup M p m) (upd H p o) := by
  obtain ⟨h0, e0, _⟩ := k.mo p m0 h
  have ex : Same (vis H M F) (vis (upd H p o) (mup M p m) F) := fun b u e => by
    obtain ⟨e1, e2, e3⟩ := vis_of e
    have hne : b ≠ p := fun z => by subst z; rw [h] at e3; cases e3
    exact vis_mk (by rw [upd_ne hne]; exact e1) e2 (by rw [mup_ne hne]; exact e3)
  have fne : ∀ b, F b = true → b ≠ p := fun b hb e => by
    subst e
    have := (k.fr b hb).2
    rw [h] at this; cases this
  refine ⟨⟨fun b hb => ?_, fun a m' hm => ?_, fun b ps hb => ?_⟩, ex, fun b hb => upd_ne (fne b hb)⟩
  · rw [upd_ne (fne b hb), mup_ne (fne b hb)]; exact k.fr b hb
  · by_cases e : a = p
    · subst e
      rw [mup_same] at hm; cases hm
      exact ⟨o, upd_same, r.mono ex⟩
    · rw [mup_ne e] at hm
      obtain ⟨ho, q, r'⟩ := k.mo a m' hm
      exact ⟨ho, by rw [upd_ne e]; exact q, r'.mono ex⟩
  · by_cases e : b = p
    · subst e; exact .inr ⟨m, mup_same⟩
    · rw [upd_ne e] at hb
      rw [mup_ne e]; exact k.tb b ps hb
/-- the die turned: the same memory -/
theorem go_die (k : MOk K F M H) (h : M p = some .die) (i j l : Int) : Go K F M H M (upd H p (.lst [.int i, .int j, .int l])) := by
  have g := go_mut (m := .die) k h (.die i j l)
  rw [mup_self h] at g
  exact g
/-- a mutable list seen from now on as data -/
def mdel (M : Mem) (a : Addr) : Mem := fun b => if b = a then none else M b
theorem mdel_ne {a b : Addr} (h : b ≠ a) : mdel M a b = M b := by unfold mdel; rw [if_neg h]
theorem mdel_same {a : Addr} : mdel M a a = none := by unfold mdel; rw [if_pos rfl]
theorem mdel_mup {a : Addr} {o : MO} (h : M a = none) : mdel (mup M a o) a = M := by
  funext b; unfold mdel mup; split
  · subst_vars; exact h.symm
  · rfl
theorem go_frz (k : MOk K F M H) (h : M p = some m) (nt : ∀ q, m ≠ .tab q := by intro _ z; cases z) : Go K F M H (mdel M p) H ∧ F p = false := by
  have ex : Same (vis H M F) (vis H (mdel M p) F) := fun b u e => by
    obtain ⟨e1, e2, e3⟩ := vis_of e
    have hne : b ≠ p := fun z => by subst z; rw [h] at e3; cases e3
    exact vis_mk e1 e2 (by rw [mdel_ne hne]; exact e3)
  have fne : ∀ b, F b = true → b ≠ p := fun b hb e => by
    subst e
    have := (k.fr b hb).2
    rw [h] at this; cases this
  refine ⟨⟨⟨fun b hb => ?_, fun a m' hm => ?_, fun b ps hb => ?_⟩, ex, fun _ _ => rfl⟩, ?_⟩
  · rw [mdel_ne (fne b hb)]; exact k.fr b hb
  · by_cases e : a = p
    · subst e; rw [mdel_same] at hm; cases hm
    · rw [mdel_ne e] at hm
      obtain ⟨ho, q, r'⟩ := k.mo a m' hm
      exact ⟨ho, q, r'.mono ex⟩
  · rcases k.tb b ps hb with z | ⟨m2, z⟩
    · exact .inl z
    · by_cases e : b = p
      · subst e
        rw [h] at z; cases z
        obtain ⟨ho, q, r'⟩ := k.mo b m h
        rw [hb] at q; cases q
        cases r' with
        | tab a b => exact absurd rfl (nt _)
      · exact .inr ⟨m2, by rw [mdel_ne e]; exact z⟩
  · cases e : F p with
    | false => rfl
    | true => exact absurd rfl (fne p e)
end
/-- a part hidden more: D, where it is seen -/
def fadd (F : Fm) (p : Addr) : Fm := fun b => F b || (b == p)
section
variable {K : PySem.W.Frag} {H H' H1 H2 : Hp} {M M' M1 M2 : Mem} {F : Fm} {a b p : Addr} {o u : HO} {m : MO}
theorem fadd_of (h : fadd F p b = true) : F b = true ∨ b = p := by
  unfold fadd at h
  rcases Bool.or_eq_true_iff.mp h with h | h
  · exact .inl h
  · exact .inr (by simpa using h)
theorem fadd_no (h : fadd F p b = false) : F b = false ∧ b ≠ p := by
  unfold fadd at h
  obtain ⟨h1, h2⟩ := Bool.or_eq_false_iff.mp h
  exact ⟨h1, by simpa using h2⟩
theorem fadd_self : fadd F p p = true := by unfold fadd; simp
theorem fadd_mk (h : F b = true) : fadd F p b = true := by unfold fadd; rw [h]; rfl
theorem fadd_mkno (h : F b = false) (e : b ≠ p) : fadd F p b = false := by unfold fadd; rw [h]; simpa using e
theorem tb_put {xs : List V} (k : ∀ b ps, H b = some (.tbl ps) → F b = true ∨ ∃ m, M b = some m) : ∀ b ps, upd H p (.lst xs) b = some (.tbl ps) → F b = true ∨ ∃ m, M b = some m := fun b ps hb => by
  by_cases e : b = p
  · subst e; rw [upd_same] at hb; cases hb
  · rw [upd_ne e] at hb; exact k b ps hb
theorem tb_add {xs : List V} (k : ∀ b ps, H b = some (.tbl ps) → F b = true ∨ ∃ m, M b = some m) : ∀ b ps, upd H p (.lst xs) b = some (.tbl ps) → fadd F p b = true ∨ ∃ m, M b = some m := fun b ps hb => (tb_put k b ps hb).imp fadd_mk id
theorem tb_back {xs : List V} (k : ∀ b ps, H b = some (.tbl ps) → fadd F p b = true ∨ ∃ m, M b = some m) (h : H p = some (.lst xs)) : ∀ b ps, H b = some (.tbl ps) → F b = true ∨ ∃ m, M b = some m := fun b ps hb => by
  rcases k b ps hb with z | z
  · rcases fadd_of z with z | rfl
    · exact .inl z
    · rw [h] at hb; cases hb
  · exact .inr z
end

/-! ### slots -/
abbrev Sg := L2.St
abbrev En := List (Option D)
def EnvR (K : PySem.W.Frag) (G : Hp) (σ : Sg) (δ : En) : Prop := σ.length = δ.length ∧ ∀ (i : Nat) (d : D), δ[i]? = some (some d) → ∃ v, σ[i]? = some (some v) ∧ Rep K G v d
section
variable {K : PySem.W.Frag} {G G' : Hp} {σ : Sg} {δ : En} {v : V} {d : D} {i : Nat}
theorem EnvR.mono (e : Same G G') (r : EnvR K G σ δ) : EnvR K G' σ δ := ⟨r.1, fun i d h => let ⟨v, q, z⟩ := r.2 i d h; ⟨v, q, z.mono e⟩⟩
theorem EnvR.set (r : EnvR K G σ δ) (x : Rep K G v d) (i : Nat) : EnvR K G (σ.set i (some v)) (δ.set i (some d)) := by
  refine ⟨by rw [List.length_set, List.length_set]; exact r.1, fun j e h => ?_⟩
  by_cases hj : i = j
  · subst hj
    by_cases hl : i < δ.length
    · rw [List.getElem?_set_self hl] at h
      cases h
      exact ⟨v, List.getElem?_set_self (by have := r.1; omega), x⟩
    · rw [List.getElem?_eq_none (by rw [List.length_set]; omega)] at h; cases h
  · rw [List.getElem?_set_ne hj] at h
    rw [List.getElem?_set_ne hj]
    exact r.2 j e h
theorem EnvR.unset (r : EnvR K G σ δ) (i : Nat) : EnvR K G (σ.set i none) (δ.set i none) := by
  refine ⟨by rw [List.length_set, List.length_set]; exact r.1, fun j e h => ?_⟩
  by_cases hj : i = j
  · subst hj
    by_cases hl : i < δ.length
    · rw [List.getElem?_set_self hl] at h; cases h
    · rw [List.getElem?_eq_none (by rw [List.length_set]; omega)] at h; cases h
  · rw [List.getElem?_set_ne hj] at h
    rw [List.getElem?_set_ne hj]
    exact r.2 j e h
def wipeD (δ : En) : List Nat → En
  | [] => δ
  | v :: vs => (wipeD δ vs).set v none
theorem EnvR.wipe (r : EnvR K G σ δ) : ∀ vs : List Nat, EnvR K G (wipe σ vs) (wipeD δ vs)
  | [] => r
  | v :: vs => (EnvR.wipe r vs).unset v
theorem EnvR.start {N : List Str} {vs : List V} {ds : List D} (r : RepL K G vs ds) : EnvR K G (L2.start N vs) (ds.map some ++ List.replicate (N.length - ds.length) none) := by
  have hl := r.length
  refine ⟨by unfold L2.start; simp [hl], fun i d h => ?_⟩
  unfold L2.start
  by_cases hi : i < ds.length
  · rw [List.getElem?_append_left (by simpa using hi), List.getElem?_map] at h
    cases q : ds[i]? with
    | none => rw [q] at h; cases h
    | some e =>
      rw [q] at h; cases h
      obtain ⟨u, e1, r1⟩ := r.get q
      refine ⟨u, ?_, r1⟩
      rw [List.getElem?_append_left (by simp; omega), List.getElem?_map, e1]
      rfl
  · rw [List.getElem?_append_right (by simp; omega), List.getElem?_replicate] at h
    split at h <;> cases h
end
theorem wipe_wipe (σ : Sg) : ∀ (vs us : List Nat), (∀ j ∈ us, j ∈ vs) → wipe (wipe σ vs) us = wipe σ vs := by
  have one : ∀ (vs : List Nat) (j : Nat), j ∈ vs → (wipe σ vs).set j none = wipe σ vs := by
    intro vs
    induction vs with
    | nil => intro j h; cases h
    | cons v vs ih =>
      intro j h
      show ((wipe σ vs).set v none).set j none = (wipe σ vs).set v none
      by_cases e : v = j
      · subst e; rw [List.set_set]
      · rw [List.set_comm _ _ e, ih j (by
          rcases List.mem_cons.mp h with h | h
          · exact absurd h.symm e
          · exact h)]
  intro vs us
  induction us with
  | nil => intro _; rfl
  | cons u us ih =>
    intro h
    show (wipe (wipe σ vs) us).set u none = wipe σ vs
    rw [ih fun j hj => h j (List.mem_cons_of_mem _ hj)]
    exact one vs u (h u List.mem_cons_self)
theorem wipe_set (σ : Sg) (j : Nat) (x : Option V) : ∀ (vs : List Nat), j ∈ vs → wipe (σ.set j x) vs = wipe σ vs
  | [], h => by cases h
  | v :: vs, h => by
    show (wipe (σ.set j x) vs).set v none = (wipe σ vs).set v none
    by_cases hm : j ∈ vs
    · rw [wipe_set σ j x vs hm]
    · have e : j = v := by
        rcases List.mem_cons.mp h with h | h
        · exact h
        · exact absurd h hm
      subst e
      have go : ∀ (us : List Nat), (wipe (σ.set j x) us).set j none = (wipe σ us).set j none := by
        intro us
        induction us with
        | nil => show (σ.set j x).set j none = σ.set j none; rw [List.set_set]
        | cons u us ih =>
          show ((wipe (σ.set j x) us).set u none).set j none = ((wipe σ us).set u none).set j none
          by_cases eu : u = j
          · subst eu; rw [List.set_set, List.set_set]; exact ih
          · rw [List.set_comm _ _ eu, ih, List.set_comm _ _ (Ne.symm eu)]
      exact go vs
end DL

set_option Elab.async false
set_option linter.all false
set_option maxRecDepth 100000
set_option maxHeartbeats 4000000
/-! readings by data: expressions, tests, arguments, statements, loops, calls -/
namespace DL
open PySem PySem.Spec PyProof.Rows L2

def DE (K : PySem.W.Frag) (te : TE) (δ : En) (M : Mem) (Q : D → Mem → Prop) : Prop :=
  ∀ (F : Fm) (σ : Sg) (H : Hp), EnvR K (vis H M F) σ δ → MOk K F M H → ∀ QV : VK, (∀ d M' v H', Q d M' → Go K F M H M' H' → Rep K (vis H' M' F) v d → QV v H') → te σ H QV
def DT (K : PySem.W.Frag) (tt : TT) (δ : En) (M : Mem) (Q : Bool → Mem → Prop) : Prop :=
  ∀ (F : Fm) (σ : Sg) (H : Hp), EnvR K (vis H M F) σ δ → MOk K F M H → ∀ QV : Bool → Hp → Prop, (∀ b M' H', Q b M' → Go K F M H M' H' → QV b H') → tt σ H QV
def DA (K : PySem.W.Frag) (ta : TA) (δ : En) (M : Mem) (Q : List D → Mem → Prop) : Prop :=
  ∀ (F : Fm) (σ : Sg) (H : Hp), EnvR K (vis H M F) σ δ → MOk K F M H → ∀ QV : List V → Hp → Prop, (∀ ds M' vs H', Q ds M' → Go K F M H M' H' → RepL K (vis H' M' F) vs ds → QV vs H') → ta σ H QV
/-- a two-place operation on data, a one-place one, a built-in's call -/
def DR (K : PySem.W.Frag) (r : R2) (d e : D) (M : Mem) (Q : D → Mem → Prop) : Prop :=
  ∀ (F : Fm) (H : Hp) (v u : V), MOk K F M H → Rep K (vis H M F) v d → Rep K (vis H M F) u e → ∀ QV : VK, (∀ x M' z H', Q x M' → Go K F M H M' H' → Rep K (vis H' M' F) z x → QV z H') → r v u H QV
def DU (K : PySem.W.Frag) (r : V → Hp → VK → Prop) (d : D) (M : Mem) (Q : D → Mem → Prop) : Prop :=
  ∀ (F : Fm) (H : Hp) (v : V), MOk K F M H → Rep K (vis H M F) v d → ∀ QV : VK, (∀ x M' z H', Q x M' → Go K F M H M' H' → Rep K (vis H' M' F) z x → QV z H') → r v H QV
def DC (K : PySem.W.Frag) (r : List V → Hp → VK → Prop) (ds : List D) (M : Mem) (Q : D → Mem → Prop) : Prop :=
  ∀ (F : Fm) (H : Hp) (vs : List V), MOk K F M H → RepL K (vis H M F) vs ds → ∀ QV : VK, (∀ x M' z H', Q x M' → Go K F M H M' H' → Rep K (vis H' M' F) z x → QV z H') → r vs H QV
/-- a built-in's method: the object, its arguments -/
def DM (K : PySem.W.Frag) (r : V → List V → Hp → VK → Prop) (d : D) (ds : List D) (M : Mem) (Q : D → Mem → Prop) : Prop :=
  ∀ (F : Fm) (H : Hp) (v : V) (vs : List V), MOk K F M H → Rep K (vis H M F) v d → RepL K (vis H M F) vs ds → ∀ QV : VK, (∀ x M' z H', Q x M' → Go K F M H M' H' → Rep K (vis H' M' F) z x → QV z H') → r v vs H QV

section
variable {K : PySem.W.Frag} {δ : En} {M : Mem} {Q : D → Mem → Prop} {ta tb tc te : TE} {tt tu : TT} {d e : D}
theorem DE.imp {Q' : D → Mem → Prop} (h : DE K te δ M Q) (k : ∀ d M', Q d M' → Q' d M') : DE K te δ M Q' := fun F σ H e m QV q => h F σ H e m QV fun d M' v H' z => q d M' v H' (k d M' z)
theorem DT.imp {R R' : Bool → Mem → Prop} (h : DT K tt δ M R) (k : ∀ d M', R d M' → R' d M') : DT K tt δ M R' := fun F σ H e m QV q => h F σ H e m QV fun d M' H' z => q d M' H' (k d M' z)
/-! ### names, constants -/
theorem de_var {i : Nat} (h : δ[i]? = some (some d)) (q : Q d M) : DE K (tVar i) δ M Q := fun F σ H en m QV k => by
  obtain ⟨v, hv, r⟩ := en.2 i d h
  exact ⟨v, hv, k d M v H q (Go.refl m) r⟩
theorem de_c {v : V} (h : ∀ G, Rep K G v d) (q : Q d M) : DE K (tC v) δ M Q := fun F σ H en m QV k => k d M v H q (Go.refl m) (h _)
theorem de_int {i : Int} (q : Q (.int i) M) : DE K (tC (.int i)) δ M Q := de_c (fun _ => .int i) q
theorem de_bl {b : Bool} (q : Q (.bl b) M) : DE K (tC (.bl b)) δ M Q := de_c (fun _ => .bl b) q
theorem de_non (q : Q .non M) : DE K (tC .non) δ M Q := de_c (fun _ => .non) q
theorem de_str {x : Str} (q : Q (.str x) M) : DE K (tC (.str x)) δ M Q := de_c (fun _ => .str x) q
theorem de_raw {v : V} (q : Q (.raw v) M) : DE K (tC v) δ M Q := de_c (fun _ => .raw v) q
/-! ### operators -/
theorem de_op {r : R2} (h : DE K ta δ M fun d M1 => DE K tb δ M1 fun e M2 => DR K r d e M2 Q) : DE K (tOp r ta tb) δ M Q := fun F σ H en m QV k => by
  refine h F σ H en m _ fun d M1 v H1 hb g1 r1 => ?_
  refine hb F σ H1 (en.mono g1.ex) g1.ok _ fun e M2 u H2 hr g2 r2 => ?_
  exact hr F H2 v u g2.ok (r1.mono g2.ex) r2 _ fun x M3 z H3 q g3 r3 => k x M3 z H3 q ((g1.trans g2).trans g3) r3
theorem de_un {r : V → Hp → VK → Prop} (h : DE K ta δ M fun d M1 => DU K r d M1 Q) : DE K (tUn r ta) δ M Q := fun F σ H en m QV k => by
  refine h F σ H en m _ fun d M1 v H1 hb g1 r1 => ?_
  exact hb F H1 v g1.ok r1 _ fun x M3 z H3 q g3 r3 => k x M3 z H3 q (g1.trans g3) r3
theorem dr_I0 {f : Int → Int → Int} {i j : Int} (q : Q (.int (f i j)) M) : DR K (rI0 fun i j => .int (f i j)) (.int i) (.int j) M Q := fun F H v u m a b QV k => by
  cases a; cases b
  exact ⟨i, j, rfl, rfl, k _ M _ H q (Go.refl m) (.int _)⟩
theorem dr_B0 {f : Int → Int → Bool} {i j : Int} (q : Q (.bl (f i j)) M) : DR K (rI0 fun i j => .bl (f i j)) (.int i) (.int j) M Q := fun F H v u m a b QV k => by
  cases a; cases b
  exact ⟨i, j, rfl, rfl, k _ M _ H q (Go.refl m) (.bl _)⟩
theorem dr_I {C : Int → Int → Prop} {f : Int → Int → Int} {i j : Int} (hc : C i j) (q : Q (.int (f i j)) M) : DR K (rI C fun i j => .int (f i j)) (.int i) (.int j) M Q := fun F H v u m a b QV k => by
  cases a; cases b
  exact ⟨i, j, rfl, rfl, hc, k _ M _ H q (Go.refl m) (.int _)⟩
theorem du_I {f : Int → Int} {i : Int} (q : Q (.int (f i)) M) : DU K (rU fun i => .int (f i)) (.int i) M Q := fun F H v m a QV k => by
  cases a
  exact ⟨i, rfl, k _ M _ H q (Go.refl m) (.int _)⟩
/-- scalars -/
def vOf : D → Option V
  | .non => some .non | .bl b => some (.bl b) | .int i => some (.int i) | .str x => some (.str x) | .raw v => some v | _ => none
theorem vOf_rep {G : Hp} {v x : V} (r : Rep K G v d) (h : vOf d = some x) : v = x := by
  cases r <;> first | cases h; rfl | cases h
theorem dr_eq {x y : V} (hx : vOf d = some x) (hy : vOf e = some y) (hs : scal x y = true) (q : Q (.bl (decide (x = y))) M) : DR K rEq d e M Q := fun F H v u m a b QV k => by
  obtain rfl := vOf_rep a hx
  obtain rfl := vOf_rep b hy
  exact ⟨hs, k _ M _ H q (Go.refl m) (.bl _)⟩
theorem dr_ne {x y : V} (hx : vOf d = some x) (hy : vOf e = some y) (hs : scal x y = true) (q : Q (.bl (!decide (x = y))) M) : DR K rNe d e M Q := fun F H v u m a b QV k => by
  obtain rfl := vOf_rep a hx
  obtain rfl := vOf_rep b hy
  exact ⟨hs, k _ M _ H q (Go.refl m) (.bl _)⟩
theorem dr_or1 {r r' : R2} (h : DR K r d e M Q) : DR K (fun x y H Q => r x y H Q ∨ r' x y H Q) d e M Q := fun F H v u m a b QV k => .inl (h F H v u m a b QV k)
theorem dr_or2 {r r' : R2} (h : DR K r' d e M Q) : DR K (fun x y H Q => r x y H Q ∨ r' x y H Q) d e M Q := fun F H v u m a b QV k => .inr (h F H v u m a b QV k)
/-! data without dicts and objects, as the library says it -/
mutual
def toPy : D → Option PyData
  | .non => some .none | .bl b => some (.bool b) | .int i => some (.int i) | .str x => some (.str x)
  | .lst xs => (toPyL xs).map .list | .tup xs => (toPyL xs).map .tuple
  | _ => none
def toPyL : List D → Option (List PyData)
  | [] => some []
  | x :: r => match toPy x, toPyL r with | some a, some b => some (a :: b) | _, _ => none
end
mutual
theorem toPy_dp {G : Hp} : ∀ {v : V} {d : D} {p : PyData}, Rep K G v d → toPy d = some p → Dp K G v p
  | _, _, _, .non, h => by cases h; exact .non
  | _, _, _, .bl b, h => by cases h; exact .bl b
  | _, _, _, .int b, h => by cases h; exact .int b
  | _, _, _, .str b, h => by cases h; exact .str b
  | _, _, _, .lst (ds := ds) s r, h => by
    cases e : toPyL ds with
    | none => rw [toPy, e] at h; cases h
    | some l => rw [toPy, e] at h; cases h; exact .lst s (toPyL_dp r e)
  | _, _, _, .tup (ds := ds) s r, h => by
    cases e : toPyL ds with
    | none => rw [toPy, e] at h; cases h
    | some l => rw [toPy, e] at h; cases h; exact .tup s (toPyL_dp r e)
  | _, _, _, .dic _ _, h => by cases h
  | _, _, _, .obj _ _, h => by cases h
  | _, _, _, .raw _, h => by cases h
theorem toPyL_dp {G : Hp} : ∀ {v : List V} {d : List D} {p : List PyData}, RepL K G v d → toPyL d = some p → DpAll K G v p
  | _, _, _, .nil, h => by cases h; exact .nil
  | _, _, _, .cons (d := d) (ds := ds) a b, h => by
    cases e1 : toPy d with
    | none => rw [toPyL, e1] at h; cases h
    | some x =>
      cases e2 : toPyL ds with
      | none => rw [toPyL, e1, e2] at h; cases h
      | some l => rw [toPyL, e1, e2] at h; cases h; exact .cons (toPy_dp a e1) (toPyL_dp b e2)
end
theorem dr_eqD {x y : PyData} (hx : toPy d = some x) (hy : toPy e = some y) (sx : SeqAt.shaped x = true) (sy : SeqAt.shaped y = true) (q : Q (.bl (PyData.eqv x y)) M) : DR K (rEqD K) d e M Q := fun F H v u m a b QV k =>
  ⟨x, y, toPy_dp (a.mono vis_le) hx, toPy_dp (b.mono vis_le) hy, sx, sy, k _ M _ H q (Go.refl m) (.bl _)⟩
theorem dr_neD {x y : PyData} (hx : toPy d = some x) (hy : toPy e = some y) (sx : SeqAt.shaped x = true) (sy : SeqAt.shaped y = true) (q : Q (.bl (!PyData.eqv x y)) M) : DR K (rNeD K) d e M Q := fun F H v u m a b QV k =>
  ⟨x, y, toPy_dp (a.mono vis_le) hx, toPy_dp (b.mono vis_le) hy, sx, sy, k _ M _ H q (Go.refl m) (.bl _)⟩
/-! ### tests -/
end
section
variable {K : PySem.W.Frag} {δ : En} {M : Mem} {Q : D → Mem → Prop} {R : Bool → Mem → Prop} {ta tb tc te : TE} {tt tu : TT} {d e : D}
/-- d is a bool, then R -/
def isB (R : Bool → Mem → Prop) (d : D) (M : Mem) : Prop := ∃ b, d = .bl b ∧ R b M
theorem isB_mk {b : Bool} (h : R b M) : isB R (.bl b) M := ⟨b, rfl, h⟩
theorem dt_test' (h : DE K te δ M (isB R)) : DT K (tTest te) δ M R := fun F σ H en m QV k => by
  refine h F σ H en m _ fun d M1 v H1 hb g1 r1 => ?_
  obtain ⟨b, rfl, q⟩ := hb
  cases r1
  exact ⟨b, rfl, k b M1 H1 q g1⟩
theorem dt_B (h : DE K te δ M (isB R)) : DT K (tB te) δ M R := fun F σ H en m QV k => by
  refine h F σ H en m _ fun d M1 v H1 hb g1 r1 => ?_
  obtain ⟨b, rfl, q⟩ := hb
  cases r1
  exact ⟨b, rfl, k b M1 H1 q g1⟩
theorem dt_not (h : DT K tt δ M fun b M1 => R (!b) M1) : DT K (tNot tt) δ M R := fun F σ H en m QV k => h F σ H en m _ fun b M1 H1 q g => k (!b) M1 H1 q g
theorem dt_and (h : DT K tt δ M fun b M1 => if b = true then DT K tu δ M1 R else R false M1) : DT K (tAnd tt tu) δ M R := fun F σ H en m QV k => by
  refine h F σ H en m _ fun b M1 H1 q g => ?_
  cases b with
  | true =>
    show tu σ H1 QV
    rw [if_pos rfl] at q
    exact q F σ H1 (en.mono g.ex) g.ok _ fun b2 M2 H2 q2 g2 => k b2 M2 H2 q2 (g.trans g2)
  | false =>
    rw [if_neg Bool.false_ne_true] at q
    exact k false M1 H1 q g
theorem dt_or (h : DT K tt δ M fun b M1 => if b = true then R true M1 else DT K tu δ M1 R) : DT K (tOr tt tu) δ M R := fun F σ H en m QV k => by
  refine h F σ H en m _ fun b M1 H1 q g => ?_
  cases b with
  | false =>
    show tu σ H1 QV
    rw [if_neg Bool.false_ne_true] at q
    exact q F σ H1 (en.mono g.ex) g.ok _ fun b2 M2 H2 q2 g2 => k b2 M2 H2 q2 (g.trans g2)
  | true =>
    rw [if_pos rfl] at q
    exact k true M1 H1 q g
/-- a value's truth -/
def tTru (K : PySem.W.Frag) (ta : TE) : TT := fun σ H Q => ta σ H fun x H' => ∃ k, TruV K x H' k ∧ Q k H'
theorem pt_tru {X : Cx} {a : Expr} (ha : PE X a ta) (he : ∀ whole, isTrue a X.env whole = (do let v ← whole; standAt a.pos; holding [v] (truthy v))) : PT X a (tTru X.K ta) := pt_truth ha he
/-- the truth of data: its size where it has one -/
def truD : D → Option Bool
  | .non => some false | .bl b => some b | .int i => some (i != 0) | .str x => some ((x.length : Int) != 0)
  | .lst xs => some (!xs.isEmpty) | .tup xs => some (!xs.isEmpty) | _ => none
theorem dt_tru (h : DE K te δ M fun d M1 => ∃ b, truD d = some b ∧ (∀ x, d = .str x → x.length ≤ sizeLine) ∧ R b M1) : DT K (tTru K te) δ M R := fun F σ H en m QV k => by
  refine h F σ H en m _ fun d M1 v H1 hb g1 r1 => ?_
  obtain ⟨b, hd, hz, q⟩ := hb
  refine ⟨b, ?_, k b M1 H1 q g1⟩
  cases r1 with
  | non => cases hd; rfl
  | bl _ => cases hd; rfl
  | int _ => cases hd; rfl
  | str x => cases hd; exact ⟨hz x rfl, rfl⟩
  | lst s r =>
    cases hd
    refine .inl ⟨_, vis_le.seq s, ?_⟩
    cases r <;> rfl
  | tup s r =>
    cases hd
    refine .inr (.inl ⟨_, sqt_mono vis_le s, ?_⟩)
    cases r <;> rfl
  | dic _ _ => cases hd
  | obj _ _ => cases hd
  | raw _ => cases hd
theorem de_chain {r r' : R2} (h : DE K ta δ M fun d M1 => DE K tb δ M1 fun e M2 => DR K r d e M2 (isB fun b M3 => if b = true then DE K tc δ M3 (fun z M4 => DR K r' e z M4 Q) else Q (.bl false) M3)) : DE K (tChain r r' ta tb tc) δ M Q := fun F σ H en m QV k => by
  refine h F σ H en m _ fun d M1 v H1 hb g1 r1 => ?_
  refine hb F σ H1 (en.mono g1.ex) g1.ok _ fun e M2 u H2 hr g2 r2 => ?_
  refine hr F H2 v u g2.ok (r1.mono g2.ex) r2 _ fun x M3 z H3 q g3 r3 => ?_
  obtain ⟨b, rfl, q⟩ := q
  cases r3
  refine ⟨b, rfl, ?_⟩
  have g := (g1.trans g2).trans g3
  cases b with
  | true =>
    rw [if_pos rfl] at q
    rw [if_pos rfl]
    refine q F σ H3 (en.mono g.ex) g3.ok _ fun x M4 w H4 q4 g4 r4 => ?_
    exact q4 F H4 u w g4.ok ((r2.mono g3.ex).mono g4.ex) r4 _ fun y M5 w5 H5 q5 g5 r5 => k y M5 w5 H5 q5 ((g.trans g4).trans g5) r5
  | false =>
    rw [if_neg Bool.false_ne_true] at q
    rw [if_neg Bool.false_ne_true]
    exact k _ M3 _ H3 q g (.bl false)
theorem de_if (h : DT K tt δ M fun b M1 => if b = true then DE K ta δ M1 Q else DE K tb δ M1 Q) : DE K (tIf tt ta tb) δ M Q := fun F σ H en m QV k => by
  refine h F σ H en m _ fun b M1 H1 q g => ?_
  cases b with
  | true =>
    show ta σ H1 QV
    rw [if_pos rfl] at q
    exact q F σ H1 (en.mono g.ex) g.ok _ fun d M2 v H2 q2 g2 r2 => k d M2 v H2 q2 (g.trans g2) r2
  | false =>
    show tb σ H1 QV
    rw [if_neg Bool.false_ne_true] at q
    exact q F σ H1 (en.mono g.ex) g.ok _ fun d M2 v H2 q2 g2 r2 => k d M2 v H2 q2 (g.trans g2) r2
theorem de_andV (h : DE K ta δ M (isB fun b M1 => if b = true then DE K tb δ M1 Q else Q (.bl false) M1)) : DE K (tAndV ta tb) δ M Q := fun F σ H en m QV k => by
  refine h F σ H en m _ fun d M1 v H1 hb g r1 => ?_
  obtain ⟨b, rfl, q⟩ := hb
  cases r1
  refine ⟨b, rfl, ?_⟩
  cases b with
  | true =>
    rw [if_pos rfl] at q
    rw [if_pos rfl]
    exact q F σ H1 (en.mono g.ex) g.ok _ fun d M2 v H2 q2 g2 r2 => k d M2 v H2 q2 (g.trans g2) r2
  | false =>
    rw [if_neg Bool.false_ne_true] at q
    rw [if_neg Bool.false_ne_true]
    exact k _ M1 _ H1 q g (.bl false)
theorem de_orV (h : DE K ta δ M (isB fun b M1 => if b = true then Q (.bl true) M1 else DE K tb δ M1 Q)) : DE K (tOrV ta tb) δ M Q := fun F σ H en m QV k => by
  refine h F σ H en m _ fun d M1 v H1 hb g r1 => ?_
  obtain ⟨b, rfl, q⟩ := hb
  cases r1
  refine ⟨b, rfl, ?_⟩
  cases b with
  | false =>
    rw [if_neg Bool.false_ne_true] at q
    rw [if_neg Bool.false_ne_true]
    exact q F σ H1 (en.mono g.ex) g.ok _ fun d M2 v H2 q2 g2 r2 => k d M2 v H2 q2 (g.trans g2) r2
  | true =>
    rw [if_pos rfl] at q
    rw [if_pos rfl]
    exact k _ M1 _ H1 q g (.bl true)
theorem de_notV (h : DE K ta δ M (isB fun b M1 => Q (.bl (!b)) M1)) : DE K (tNotV ta) δ M Q := fun F σ H en m QV k => by
  refine h F σ H en m _ fun d M1 v H1 hb g r1 => ?_
  obtain ⟨b, rfl, q⟩ := hb
  cases r1
  exact ⟨b, rfl, k _ M1 _ H1 q g (.bl _)⟩
/-! ### arguments, displays -/
variable {A : List D → Mem → Prop} {tr : TA}
theorem da_nil (q : A [] M) : DA K tNil δ M A := fun F σ H en m QV k => k [] M [] H q (Go.refl m) .nil
theorem da_cons (h : DE K te δ M fun d M1 => DA K tr δ M1 fun ds M2 => A (d :: ds) M2) : DA K (tCons te tr) δ M A := fun F σ H en m QV k => by
  refine h F σ H en m _ fun d M1 v H1 hb g1 r1 => ?_
  refine hb F σ H1 (en.mono g1.ex) g1.ok _ fun ds M2 vs H2 q g2 r2 => ?_
  exact k (d :: ds) M2 (v :: vs) H2 q (g1.trans g2) (.cons (r1.mono g2.ex) r2)
theorem de_tup (h : DA K tr δ M fun ds M1 => ds.length ≤ sizeLine ∧ Q (.tup ds) M1) : DE K (tTup tr) δ M Q := fun F σ H en m QV k => by
  refine h F σ H en m _ fun ds M1 vs H1 q g r => ⟨by rw [r.length]; exact q.1, fun p hp => ?_⟩
  obtain ⟨g2, e⟩ := go_new (o := .tup vs) g.ok hp
  exact k (.tup ds) M1 _ _ q.2 (g.trans g2) (.tup (.inl (.inl e)) (r.mono g2.ex))
theorem de_lst (h : DA K tr δ M fun ds M1 => ds.length ≤ sizeLine ∧ Q (.lst ds) M1) : DE K (tLst tr) δ M Q := fun F σ H en m QV k => by
  refine h F σ H en m _ fun ds M1 vs H1 q g r => ⟨by rw [r.length]; exact q.1, fun p hp => ?_⟩
  obtain ⟨g2, e⟩ := go_new (o := .lst vs) g.ok hp
  exact k (.lst ds) M1 _ _ q.2 (g.trans g2) (.lst (.inl (.inl e)) (r.mono g2.ex))
/-- a list that will change -/
theorem de_lstM (h : DA K tr δ M fun ds M1 => ds.length ≤ sizeLine ∧ ∀ p, M1 p = none → Q (.raw (.ref p)) (mup M1 p (.lst ds))) : DE K (tLst tr) δ M Q := fun F σ H en m QV k => by
  refine h F σ H en m _ fun ds M1 vs H1 q g r => ⟨by rw [r.length]; exact q.1, fun p hp => ?_⟩
  have g2 := go_newM (o := .lst vs) (m := .lst ds) g.ok hp (.lst r)
  exact k _ _ _ _ (q.2 p (g.ok.new hp).2) (g.trans g2) (.raw _)
/-- the die's list -/
theorem de_lstD (h : DA K tr δ M fun ds M1 => (∃ i j k : Int, ds = [.int i, .int j, .int k]) ∧ ∀ p, M1 p = none → Q (.raw (.ref p)) (mup M1 p .die)) : DE K (tLst tr) δ M Q := fun F σ H en m QV k => by
  refine h F σ H en m _ fun ds M1 vs H1 q g r => ?_
  obtain ⟨⟨i, j, l, rfl⟩, q⟩ := q
  obtain rfl := RepL.of_ints (l := [i, j, l]) r
  refine ⟨by show 3 ≤ sizeLine; decide, fun p hp => ?_⟩
  have g2 := go_newM (o := .lst [.int i, .int j, .int l]) (m := .die) g.ok hp (.die i j l)
  exact k _ _ _ _ (q p (g.ok.new hp).2) (g.trans g2) (.raw _)
/-! ### calls -/
/-- a promise by data -/
def spD (K : PySem.W.Frag) (f : List D → Mem → (D → Mem → Prop) → Prop) : Sp := fun vs H Q _ => ∃ (F : Fm) (M : Mem) (ds : List D) (R : D → Mem → Prop), RepL K (vis H M F) vs ds ∧ MOk K F M H ∧ f ds M R ∧
  ∀ d M' v H', R d M' → Go K F M H M' H' → Rep K (vis H' M' F) v d → Q v H'
theorem de_call {f : List D → Mem → (D → Mem → Prop) → Prop} {E : XK} (h : DA K tr δ M fun ds M1 => f ds M1 Q) : DE K (tCall (spD K f) [] E tr) δ M Q := fun F σ H en m QV k => by
  refine h F σ H en m _ fun ds M1 vs H1 q g r => ?_
  show spD K f (vs ++ []) H1 QV E
  rw [List.append_nil]
  exact ⟨F, M1, ds, Q, r, g.ok, q, fun d M2 v H2 q2 g2 r2 => k d M2 v H2 q2 (g.trans g2) r2⟩
theorem de_CB {r : List V → Hp → VK → Prop} (h : DA K tr δ M fun ds M1 => DC K r ds M1 Q) : DE K (tCB r tr) δ M Q := fun F σ H en m QV k => by
  refine h F σ H en m _ fun ds M1 vs H1 q g r => ?_
  exact q F H1 vs g.ok r _ fun d M2 v H2 q2 g2 r2 => k d M2 v H2 q2 (g.trans g2) r2
end
end DL

set_option Elab.async false
set_option linter.all false
set_option maxRecDepth 100000
set_option maxHeartbeats 4000000
/-! readings by data: statements, targets, what is walked, loops, comprehensions, a def -/
namespace DL
open PySem PySem.Spec PyProof.Rows L2

structure DK where
  nx : En → Mem → Prop
  rt : D → Mem → Prop
  bk : En → Mem → Prop := fun _ _ => False
  ct : En → Mem → Prop := fun _ _ => False
def DS (K : PySem.W.Frag) (ts : TS) (δ : En) (M : Mem) (q : DK) : Prop :=
  ∀ (F : Fm) (σ : Sg) (H : Hp), EnvR K (vis H M F) σ δ → MOk K F M H → ∀ E : Ends,
    (∀ δ' M' σ' H', q.nx δ' M' → Go K F M H M' H' → EnvR K (vis H' M' F) σ' δ' → E.nx σ' H') →
    (∀ d M' v H', q.rt d M' → Go K F M H M' H' → Rep K (vis H' M' F) v d → E.rt v H') →
    (∀ δ' M' σ' H', q.bk δ' M' → Go K F M H M' H' → EnvR K (vis H' M' F) σ' δ' → E.bk σ' H') →
    (∀ δ' M' σ' H', q.ct δ' M' → Go K F M H M' H' → EnvR K (vis H' M' F) σ' δ' → E.ct σ' H') → ts E σ H
/-- a target: js the slots that it stores -/
def DG (K : PySem.W.Frag) (js : List Nat) (g : TG) (d : D) (δ : En) (M : Mem) (Q : En → Mem → Prop) : Prop :=
  ∀ (F : Fm) (σ : Sg) (H : Hp) (v : V), EnvR K (vis H M F) σ δ → MOk K F M H → Rep K (vis H M F) v d → ∀ QG : Sg → Hp → Prop,
    (∀ δ' M' σ' H', Q δ' M' → Go K F M H M' H' → EnvR K (vis H' M' F) σ' δ' → (∀ vs : List Nat, (∀ j ∈ js, j ∈ vs) → wipe σ' vs = wipe σ vs) → QG σ' H') → g v σ H QG
def DGs (K : PySem.W.Frag) (js : List Nat) (g : TGs) (ds : List D) (δ : En) (M : Mem) (Q : En → Mem → Prop) : Prop :=
  ∀ (F : Fm) (σ : Sg) (H : Hp) (vs : List V), EnvR K (vis H M F) σ δ → MOk K F M H → RepL K (vis H M F) vs ds → ∀ QG : Sg → Hp → Prop,
    (∀ δ' M' σ' H', Q δ' M' → Go K F M H M' H' → EnvR K (vis H' M' F) σ' δ' → (∀ vs : List Nat, (∀ j ∈ js, j ∈ vs) → wipe σ' vs = wipe σ vs) → QG σ' H') → g vs σ H QG
/-- what is walked gives these items, whatever becomes of the rest -/
structure Sq (K : PySem.W.Frag) (F : Fm) (M0 : Mem) (H0 : Hp) (J : It) (ds : List D) : Prop where
  go : ∀ i M H, i < ds.length → MOk K F M H → Same (vis H0 M0 F) (vis H M F) → J.go i H
  stop : ∀ i M H, i = ds.length → MOk K F M H → Same (vis H0 M0 F) (vis H M F) → J.stop i H
  yl : ∀ i M H x H' d, ds[i]? = some d → MOk K F M H → Same (vis H0 M0 F) (vis H M F) → J.yld i H x H' → Go K F M H M H' ∧ Rep K (vis H' M F) x d
def DI (K : PySem.W.Frag) (wi : TI) (δ : En) (M : Mem) (Q : List D → Mem → Prop) : Prop :=
  ∀ (F : Fm) (σ : Sg) (H : Hp), EnvR K (vis H M F) σ δ → MOk K F M H → ∀ R : It → Hp → Prop,
    (∀ ds M' J H', Q ds M' → Go K F M H M' H' → (∀ p o, H' p = none → Sq K (fadd F p) M' (upd H' p o) J ds) → Sq K F M' H' J ds → R J H') → wi σ H R

section
variable {K : PySem.W.Frag} {δ : En} {M : Mem} {Q : D → Mem → Prop} {R : Bool → Mem → Prop} {ta tb tc te : TE} {tt tu : TT} {d e : D} {t u : TS} {q : DK} {g : TG} {gs : TGs} {G : En → Mem → Prop} {js : List Nat}
theorem DS.imp {q' : DK} (h : DS K t δ M q) (h1 : ∀ δ M, q.nx δ M → q'.nx δ M) (h2 : ∀ d M, q.rt d M → q'.rt d M) (h3 : ∀ δ M, q.bk δ M → q'.bk δ M) (h4 : ∀ δ M, q.ct δ M → q'.ct δ M) : DS K t δ M q' :=
  fun F σ H en m E n r b c => h F σ H en m E (fun _ _ _ _ z => n _ _ _ _ (h1 _ _ z)) (fun _ _ _ _ z => r _ _ _ _ (h2 _ _ z)) (fun _ _ _ _ z => b _ _ _ _ (h3 _ _ z)) (fun _ _ _ _ z => c _ _ _ _ (h4 _ _ z))
theorem ds_next (h : q.nx δ M) : DS K tNext δ M q := fun F σ H en m E n r b c => n δ M σ H h (Go.refl m) en
theorem ds_seq (h : DS K t δ M { q with nx := fun δ1 M1 => DS K u δ1 M1 q }) : DS K (tSeq t u) δ M q := fun F σ H en m E n r b c =>
  h F σ H en m { E with nx := u E } (fun δ1 M1 σ1 H1 z g en1 => z F σ1 H1 en1 g.ok E (fun _ _ _ _ z2 g2 => n _ _ _ _ z2 (g.trans g2)) (fun _ _ _ _ z2 g2 => r _ _ _ _ z2 (g.trans g2)) (fun _ _ _ _ z2 g2 => b _ _ _ _ z2 (g.trans g2)) (fun _ _ _ _ z2 g2 => c _ _ _ _ z2 (g.trans g2))) r b c
theorem ds_brk (h : q.bk δ M) : DS K tBreak δ M q := fun F σ H en m E n r b c => b δ M σ H h (Go.refl m) en
theorem ds_cont (h : q.ct δ M) : DS K tCont δ M q := fun F σ H en m E n r b c => c δ M σ H h (Go.refl m) en
theorem ds_drop (h : DE K te δ M fun _ M1 => q.nx δ M1) : DS K (tDrop te) δ M q := fun F σ H en m E n r b c =>
  h F σ H en m _ fun d M1 v H1 z g _ => n δ M1 σ H1 z g (en.mono g.ex)
theorem ds_ret (h : DE K te δ M q.rt) : DS K (tRet te) δ M q := fun F σ H en m E n r b c => h F σ H en m _ fun d M1 v H1 z g rp => r d M1 v H1 z g rp
theorem ds_retN (h : q.rt .non M) : DS K tRetN δ M q := fun F σ H en m E n r b c => r .non M .non H h (Go.refl m) .non
theorem ds_if (h : DT K tt δ M fun b M1 => if b = true then DS K t δ M1 q else DS K u δ M1 q) : DS K (tIfS tt t u) δ M q := fun F σ H en m E n r b c => by
  refine h F σ H en m _ fun k M1 H1 z g => ?_
  cases k with
  | true =>
    rw [if_pos rfl] at z
    rw [if_pos rfl]
    exact z F σ H1 (en.mono g.ex) g.ok E (fun _ _ _ _ z2 g2 => n _ _ _ _ z2 (g.trans g2)) (fun _ _ _ _ z2 g2 => r _ _ _ _ z2 (g.trans g2)) (fun _ _ _ _ z2 g2 => b _ _ _ _ z2 (g.trans g2)) (fun _ _ _ _ z2 g2 => c _ _ _ _ z2 (g.trans g2))
  | false =>
    rw [if_neg Bool.false_ne_true] at z
    rw [if_neg Bool.false_ne_true]
    exact z F σ H1 (en.mono g.ex) g.ok E (fun _ _ _ _ z2 g2 => n _ _ _ _ z2 (g.trans g2)) (fun _ _ _ _ z2 g2 => r _ _ _ _ z2 (g.trans g2)) (fun _ _ _ _ z2 g2 => b _ _ _ _ z2 (g.trans g2)) (fun _ _ _ _ z2 g2 => c _ _ _ _ z2 (g.trans g2))
theorem ds_asg (h : DE K te δ M fun d M1 => DG K js g d δ M1 q.nx) : DS K (tAsg te g) δ M q := fun F σ H en m E n r b c => by
  refine h F σ H en m _ fun d M1 v H1 z g1 r1 => ?_
  exact z F σ H1 v (en.mono g1.ex) g1.ok r1 _ fun δ' M' σ' H' z2 g2 en2 _ => n δ' M' σ' H' z2 (g1.trans g2) en2
theorem ds_asgx (h : DE K te δ M fun d M1 => ∃ js, DG K js g d δ M1 q.nx) : DS K (tAsg te g) δ M q := fun F σ H en m E n r b c => by
  refine h F σ H en m _ fun d M1 v H1 z g1 r1 => ?_
  obtain ⟨js, z⟩ := z
  exact z F σ H1 v (en.mono g1.ex) g1.ok r1 _ fun δ' M' σ' H' z2 g2 en2 _ => n δ' M' σ' H' z2 (g1.trans g2) en2
theorem ds_set {i : Nat} (h : DE K te δ M fun d M1 => q.nx (δ.set i (some d)) M1) : DS K (tAsg te (gName i)) δ M q := fun F σ H en m E n r b c => by
  refine h F σ H en m _ fun d M1 v H1 z g1 r1 => ?_
  exact n _ M1 _ H1 z g1 ((en.mono g1.ex).set r1 i)
theorem dg_name {i : Nat} (h : G (δ.set i (some d)) M) : DG K [i] (gName i) d δ M G := fun F σ H v en m r QG k =>
  k _ M _ H h (Go.refl m) (en.set r i) fun vs hv => wipe_set σ i _ vs (hv i (by simp))
theorem dgs_nil (h : G δ M) : DGs K [] gNil [] δ M G := fun F σ H vs en m r QG k => by
  cases r
  exact ⟨rfl, k δ M σ H h (Go.refl m) en fun _ _ => rfl⟩
theorem dgs_cons {js1 js2 : List Nat} {d : D} {ds : List D} (h : DG K js1 g d δ M fun δ1 M1 => DGs K js2 gs ds δ1 M1 G) : DGs K (js1 ++ js2) (gCons g gs) (d :: ds) δ M G := fun F σ H vs en m r QG k => by
  cases r with
  | cons a b =>
    refine ⟨_, _, rfl, h F σ H _ en m a _ fun δ1 M1 σ1 H1 z g1 en1 w1 => ?_⟩
    refine z F σ1 H1 _ en1 g1.ok (b.mono g1.ex) _ fun δ2 M2 σ2 H2 z2 g2 en2 w2 => ?_
    exact k δ2 M2 σ2 H2 z2 (g1.trans g2) en2 fun vs hv => (w2 vs fun j hj => hv j (List.mem_append_right _ hj)).trans (w1 vs fun j hj => hv j (List.mem_append_left _ hj))
theorem dg_tup {n : Nat} {ds : List D} (hl : ds.length = n) (h : DGs K js gs ds δ M G) : DG K js (gTup K n gs) (.tup ds) δ M G := fun F σ H v en m r QG k => by
  cases r with
  | tup s r => exact ⟨_, _, rfl, sqt_mono vis_le s, by rw [r.length, hl], h F σ H _ en m r QG k⟩
theorem dg_drop (h : DG K js g d δ M G) (js' : List Nat) (hj : ∀ j ∈ js, j ∈ js') : DG K js' g d δ M G := fun F σ H v en m r QG k =>
  h F σ H v en m r QG fun δ' M' σ' H' z g1 e w => k δ' M' σ' H' z g1 e fun vs hv => w vs fun j hm => hv j (hj j hm)
theorem ds_par {i j : Nat} {tr : TA} (h : DA K tr δ M fun ds M1 => ∃ x y, ds = [x, y] ∧ q.nx ((δ.set i (some x)).set j (some y)) M1) : DS K (tPar i j tr) δ M q := fun F σ H en m E n r b c => by
  refine h F σ H en m _ fun ds M1 vs H1 z g1 r1 => ?_
  obtain ⟨x, y, rfl, z⟩ := z
  cases r1 with
  | cons a b =>
    cases b with
    | cons b c =>
      cases c
      exact ⟨_, _, rfl, n _ M1 _ H1 z g1 (((en.mono g1.ex).set a i).set b j)⟩
theorem ds_aug {i : Nat} {f : Int → Int → Int} {x : Int} (hx : δ[i]? = some (some (.int x))) (h : DE K te δ M fun d M1 => ∃ y, d = .int y ∧ q.nx (δ.set i (some (.int (f x y)))) M1) : DS K (tAug i te (ipI f)) δ M q := fun F σ H en m E n r b c => by
  obtain ⟨v, hv, rv⟩ := en.2 i _ hx
  cases rv
  refine ⟨_, hv, h F σ H en m _ fun d M1 w H1 z g1 r1 => ?_⟩
  obtain ⟨y, rfl, z⟩ := z
  cases r1
  exact ⟨x, y, rfl, rfl, n _ M1 _ H1 z g1 ((en.mono g1.ex).set (.int _) i)⟩
/-- what stands behind may be known less -/
theorem ds_weak {δ' : En} (h : DS K t δ' M q) (hl : δ'.length = δ.length) (w : ∀ (i : Nat) d, δ'[i]? = some (some d) → δ[i]? = some (some d)) : DS K t δ M q := fun F σ H en m E n r b c =>
  h F σ H ⟨en.1.trans hl.symm, fun i d hd => en.2 i d (w i d hd)⟩ m E n r b c
/-- a mutable list is seen as data from now on, at slot i -/
theorem ds_frz {i : Nat} {p : Addr} {ds : List D} (hi : δ[i]? = some (some (.raw (.ref p)))) (hp : M p = some (.lst ds)) (h : DS K t (δ.set i (some (.lst ds))) (mdel M p) q) : DS K t δ M q := fun F σ H en m E n r b c => by
  obtain ⟨g1, f⟩ := go_frz m hp
  obtain ⟨v, hv, rv⟩ := en.2 i _ hi
  have rl : Rep K (vis H (mdel M p) F) (.ref p) (.lst ds) := by
    obtain ⟨ho, e, ro⟩ := m.mo p _ hp
    cases ro with
    | lst ro => exact .lst (.inl (.inl (vis_mk e f mdel_same))) (ro.mono g1.ex)
  have en2 : EnvR K (vis H (mdel M p) F) σ (δ.set i (some (.lst ds))) := by
    refine ⟨by rw [List.length_set]; exact en.1, fun j d hd => ?_⟩
    by_cases hj : i = j
    · subst hj
      have hl : i < δ.length := (List.getElem?_eq_some_iff.mp hi).1
      rw [List.getElem?_set_self hl] at hd
      cases hd
      refine ⟨v, hv, ?_⟩
      cases rv
      exact rl
    · rw [List.getElem?_set_ne hj] at hd
      obtain ⟨w, hw, rw'⟩ := en.2 j d hd
      exact ⟨w, hw, rw'.mono g1.ex⟩
  exact h F σ H en2 g1.ok E (fun _ _ _ _ z2 g2 => n _ _ _ _ z2 (g1.trans g2)) (fun _ _ _ _ z2 g2 => r _ _ _ _ z2 (g1.trans g2)) (fun _ _ _ _ z2 g2 => b _ _ _ _ z2 (g1.trans g2)) (fun _ _ _ _ z2 g2 => c _ _ _ _ z2 (g1.trans g2))

/-! ### what is walked -/
variable {I : List D → Mem → Prop}
theorem sq_sub {F : Fm} {M0 : Mem} {H0 : Hp} {J : It} {ds : List D} (h : ∀ M H, MOk K F M H → Same (vis H0 M0 F) (vis H M F) → ∀ i, (i < ds.length → J.go i H) ∧ (i = ds.length → J.stop i H) ∧ ∀ x H' d, ds[i]? = some d → J.yld i H x H' → Go K F M H M H' ∧ Rep K (vis H' M F) x d) : Sq K F M0 H0 J ds :=
  ⟨fun i M H l m e => (h M H m e i).1 l, fun i M H l m e => (h M H m e i).2.1 l, fun i M H x H' d hd m e y => (h M H m e i).2.2 x H' d hd y⟩
/-- hidden more: what is seen ahead of a new object is seen with it hidden -/
theorem vis_new {F : Fm} {H : Hp} {p : Addr} {o : HO} (hn : H p = none) : Same (vis H M F) (vis (upd H p o) M (fadd F p)) := fun b u h => by
  obtain ⟨h1, h2, h3⟩ := vis_of h
  have hne := ne_of_none h1 hn
  exact vis_mk (by rw [upd_ne hne]; exact h1) (fadd_mkno h2 hne) h3
theorem sqAt {xs : List V} {ds : List D} {H : Hp} (r : RepL K H xs ds) {i : Nat} {d : D} (hd : ds[i]? = some d) : ∃ x, xs[i]? = some x ∧ Rep K H x d := r.get hd
theorem sq_list {F : Fm} {H : Hp} {a : Addr} {xs : List V} {ds : List D} (s : SqL K (vis H M F) a xs) (r : RepL K (vis H M F) xs ds) : Sq K F M H (Itl K a) ds := by
  refine sq_sub fun M' H' m e i => ⟨fun hl => ?_, fun hl => ?_, fun x H2 d hd y => ?_⟩
  · have hx : i < xs.length := by rw [r.length]; exact hl
    exact ⟨xs, xs[i], vis_le.seq (e.seq s), by simp [hx]⟩
  · exact ⟨xs, vis_le.seq (e.seq s), by rw [r.length]; omega⟩
  · obtain ⟨rfl, f⟩ := y
    have h1 := f xs (vis_le.seq (e.seq s))
    obtain ⟨x2, h2, r2⟩ := r.get hd
    rw [h1] at h2; cases h2
    exact ⟨Go.refl m, r2.mono e⟩
theorem sq_tup {F : Fm} {H : Hp} {a : Addr} {xs : List V} {ds : List D} (s : SqT K (vis H M F) a xs) (r : RepL K (vis H M F) xs ds) : Sq K F M H (Itt K a) ds := by
  refine sq_sub fun M' H' m e i => ⟨fun hl => ?_, fun hl => ?_, fun x H2 d hd y => ?_⟩
  · have hx : i < xs.length := by rw [r.length]; exact hl
    exact ⟨xs, xs[i], sqt_mono vis_le (sqt_mono e s), by simp [hx]⟩
  · exact ⟨xs, sqt_mono vis_le (sqt_mono e s), by rw [r.length]; omega⟩
  · obtain ⟨rfl, f⟩ := y
    have h1 := f xs (sqt_mono vis_le (sqt_mono e s))
    obtain ⟨x2, h2, r2⟩ := r.get hd
    rw [h1] at h2; cases h2
    exact ⟨Go.refl m, r2.mono e⟩
theorem di_list (h : DE K te δ M fun d M1 => ∃ ds, d = .lst ds ∧ I ds M1) : DI K (iList K te) δ M I := fun F σ H en m R k => by
  refine h F σ H en m _ fun d M1 v H1 z g1 r1 => ?_
  obtain ⟨ds, rfl, z⟩ := z
  cases r1 with
  | lst s r =>
    refine ⟨_, rfl, ⟨_, vis_le.seq s⟩, k ds M1 _ H1 z g1 (fun p o hp => ?_) (sq_list s r)⟩
    exact sq_list ((vis_new hp).seq s) (r.mono (vis_new hp))
theorem di_tup (h : DE K te δ M fun d M1 => ∃ ds, d = .tup ds ∧ I ds M1) : DI K (iTup K te) δ M I := fun F σ H en m R k => by
  refine h F σ H en m _ fun d M1 v H1 z g1 r1 => ?_
  obtain ⟨ds, rfl, z⟩ := z
  cases r1 with
  | tup s r =>
    refine ⟨_, rfl, ⟨_, sqt_mono vis_le s⟩, k ds M1 _ H1 z g1 (fun p o hp => ?_) (sq_tup s r)⟩
    exact sq_tup (sqt_mono (vis_new hp) s) (r.mono (vis_new hp))
/-- the items of range(lo, lo + n) -/
def rngD (lo : Int) (n : Nat) : List D := (List.range n).map fun (i : Nat) => D.int (lo + (i : Int))
theorem rngD_get {lo : Int} {n i : Nat} {d : D} (h : (rngD lo n)[i]? = some d) : i < n ∧ d = .int (lo + i) := by
  unfold rngD at h
  rw [List.getElem?_map] at h
  cases e : (List.range n)[i]? with
  | none => rw [e] at h; cases h
  | some j =>
    rw [e] at h; cases h
    obtain ⟨h1, h2⟩ := List.getElem?_eq_some_iff.mp e
    rw [List.getElem_range] at h2
    subst h2
    exact ⟨by simpa using h1, rfl⟩
theorem rngD_len (lo : Int) (n : Nat) : (rngD lo n).length = n := by unfold rngD; simp
theorem sq_rng {F : Fm} {H : Hp} {lo : Int} {n : Nat} : Sq K F M H (Itr lo n) (rngD lo n) := by
  refine sq_sub fun M' H' m e i => ⟨fun hl => ?_, fun hl => ?_, fun x H2 d hd y => ?_⟩
  · rw [rngD_len] at hl; exact hl
  · rw [rngD_len] at hl; show n ≤ i; omega
  · obtain ⟨rfl, rfl⟩ := y
    obtain ⟨_, rfl⟩ := rngD_get hd
    exact ⟨Go.refl m, .int _⟩
theorem di_rng1 {tr : TA} (h : DA K tr δ M fun ds M1 => ∃ j : Int, ds = [.int j] ∧ -(2 ^ 62) ≤ j ∧ j < 2 ^ 62 ∧ I (rngD 0 j.toNat) M1) : DI K (iRng1 tr) δ M I := fun F σ H en m R k => by
  refine h F σ H en m _ fun ds M1 vs H1 z g1 r1 => ?_
  obtain ⟨j, rfl, h1, h2, z⟩ := z
  obtain rfl := RepL.of_ints (l := [j]) r1
  exact ⟨j, rfl, h1, h2, k _ M1 _ H1 z g1 (fun _ _ _ => sq_rng) sq_rng⟩
theorem di_rng2 {tr : TA} (h : DA K tr δ M fun ds M1 => ∃ i j : Int, ds = [.int i, .int j] ∧ (-(2 ^ 62) ≤ i ∧ i < 2 ^ 62 ∧ -(2 ^ 62) ≤ j ∧ j < 2 ^ 62) ∧ I (rngD i (j - i).toNat) M1) : DI K (iRng2 tr) δ M I := fun F σ H en m R k => by
  refine h F σ H en m _ fun ds M1 vs H1 z g1 r1 => ?_
  obtain ⟨i, j, rfl, h1, z⟩ := z
  obtain rfl := RepL.of_ints (l := [i, j]) r1
  exact ⟨i, j, rfl, h1, k _ M1 _ H1 z g1 (fun _ _ _ => sq_rng) sq_rng⟩
/-- a text's signs -/
def sigs (x : Str) : List D := x.cps.toList.map fun c => D.str ⟨#[c]⟩
theorem sigs_len (x : Str) : (sigs x).length = x.cps.size := by unfold sigs; simp
theorem sq_str {F : Fm} {H : Hp} {x : Str} : Sq K F M H (Its x) (sigs x) := by
  refine sq_sub fun M' H' m e i => ⟨fun hl => ?_, fun hl => ?_, fun v H2 d hd y => ?_⟩
  · rw [sigs_len] at hl; exact hl
  · rw [sigs_len] at hl; show x.cps.size ≤ i; omega
  · obtain ⟨rfl, c, hc, rfl⟩ := y
    unfold sigs at hd
    rw [List.getElem?_map, Array.getElem?_toList, hc] at hd
    cases hd
    exact ⟨Go.refl m, .str _⟩
theorem di_str (h : DE K te δ M fun d M1 => ∃ x, d = .str x ∧ I (sigs x) M1) : DI K (iStr te) δ M I := fun F σ H en m R k => by
  refine h F σ H en m _ fun d M1 v H1 z g1 r1 => ?_
  obtain ⟨x, rfl, z⟩ := z
  cases r1
  exact ⟨x, rfl, k _ M1 _ H1 z g1 (fun _ _ _ => sq_str) sq_str⟩

/-! ### loops -/
theorem ds_for {wi : TI} (h : DI K wi δ M fun ds M1 => ∃ Pv : Nat → En → Mem → Prop, Pv 0 δ M1 ∧
      (∀ i d δ' M', ds[i]? = some d → Pv i δ' M' → DG K js g d δ' M' fun δ2 M2 => DS K t δ2 M2 { q with nx := Pv (i + 1), ct := Pv (i + 1), bk := q.nx }) ∧ ∀ δ' M', Pv ds.length δ' M' → q.nx δ' M') :
    DS K (tFor wi g t) δ M q := fun F σ H en m E n r b c => by
  refine h F σ H en m _ fun ds M1 J H1 z g1 _ S => ?_
  obtain ⟨Pv, p0, pt, pe⟩ := z
  refine ⟨fun i k σ' H' => i ≤ ds.length ∧ k = ds.length - i ∧ ∃ δ' M', Pv i δ' M' ∧ Go K F M1 H1 M' H' ∧ EnvR K (vis H' M' F) σ' δ', ⟨ds.length, Nat.zero_le _, rfl, δ, M1, p0, Go.refl g1.ok, en.mono g1.ex⟩, ?_⟩
  rintro i k σ' H' ⟨hi, rfl, δ', M', pv, g2, en2⟩
  by_cases hl : i < ds.length
  · refine .inr ⟨S.go i M' H' hl g2.ok g2.ex, fun σ3 H3 => ∃ δ3 M3, Pv (i + 1) δ3 M3 ∧ Go K F M1 H1 M3 H3 ∧ EnvR K (vis H3 M3 F) σ3 δ3, fun σ3 H3 w => ⟨ds.length - (i + 1), by omega, by omega, rfl, w⟩, fun x H3 y => ?_⟩
    have hd : ds[i]? = some ds[i] := List.getElem?_eq_getElem hl
    obtain ⟨g3, rx⟩ := S.yl i M' H' x H3 _ hd g2.ok g2.ex y
    have gg := g2.trans g3
    refine pt i _ δ' M' hd pv F σ' H3 x (en2.mono g3.ex) g3.ok rx _ fun δ4 M4 σ4 H4 z4 g4 en4 _ => ?_
    have gh := gg.trans g4
    refine z4 F σ4 H4 en4 g4.ok _ ?_ ?_ ?_ ?_
    · exact fun δ5 M5 σ5 H5 z5 g5 en5 => ⟨δ5, M5, z5, gh.trans g5, en5⟩
    · exact fun d5 M5 v5 H5 z5 g5 r5 => r d5 M5 v5 H5 z5 (g1.trans (gh.trans g5)) r5
    · exact fun δ5 M5 σ5 H5 z5 g5 en5 => n δ5 M5 σ5 H5 z5 (g1.trans (gh.trans g5)) en5
    · exact fun δ5 M5 σ5 H5 z5 g5 en5 => ⟨δ5, M5, z5, gh.trans g5, en5⟩
  · have hi' : i = ds.length := by omega
    subst hi'
    exact .inl ⟨S.stop _ M' H' rfl g2.ok g2.ex, n δ' M' σ' H' (pe δ' M' pv) (g1.trans g2) en2⟩
theorem ds_while (Pv : Nat → En → Mem → Prop) (k : Nat) (h0 : Pv k δ M)
    (hs : ∀ k δ' M', Pv k δ' M' → DT K tt δ' M' fun b M1 => if b = true then DS K t δ' M1 { q with nx := fun δ2 M2 => ∃ k', k' < k ∧ Pv k' δ2 M2, ct := fun δ2 M2 => ∃ k', k' < k ∧ Pv k' δ2 M2, bk := q.nx } else q.nx δ' M1) : DS K (tWhile tt t) δ M q := fun F σ H en m E n r b c => by
  refine ⟨fun k' σ' H' => ∃ δ' M', Pv k' δ' M' ∧ Go K F M H M' H' ∧ EnvR K (vis H' M' F) σ' δ', ⟨k, δ, M, h0, Go.refl m, en⟩, ?_⟩
  rintro k' σ' H' ⟨δ', M', pv, g1, en1⟩
  refine hs k' δ' M' pv F σ' H' en1 g1.ok _ fun z M2 H2 z2 g2 => ?_
  cases z with
  | true =>
    rw [if_pos rfl] at z2
    rw [if_pos rfl]
    refine ⟨fun σ3 H3 => ∃ k3, k3 < k' ∧ ∃ δ3 M3, Pv k3 δ3 M3 ∧ Go K F M H M3 H3 ∧ EnvR K (vis H3 M3 F) σ3 δ3, fun σ3 H3 w => w, ?_⟩
    refine z2 F σ' H2 (en1.mono g2.ex) g2.ok _ ?_ ?_ ?_ ?_
    · exact fun δ5 M5 σ5 H5 ⟨k5, l5, z5⟩ g5 en5 => ⟨k5, l5, δ5, M5, z5, (g1.trans g2).trans g5, en5⟩
    · exact fun d5 M5 v5 H5 z5 g5 r5 => r d5 M5 v5 H5 z5 ((g1.trans g2).trans g5) r5
    · exact fun δ5 M5 σ5 H5 z5 g5 en5 => n δ5 M5 σ5 H5 z5 ((g1.trans g2).trans g5) en5
    · exact fun δ5 M5 σ5 H5 ⟨k5, l5, z5⟩ g5 en5 => ⟨k5, l5, δ5, M5, z5, (g1.trans g2).trans g5, en5⟩
  | false =>
    rw [if_neg Bool.false_ne_true] at z2
    rw [if_neg Bool.false_ne_true]
    exact n δ' M2 σ' H2 z2 (g1.trans g2) (en1.mono g2.ex)

/-! ### comprehensions: the memory stays -/
theorem dt_yes (h : R true M) : DT K tYes δ M R := fun F σ H en m QV k => k true M H h (Go.refl m)
theorem de_lc {wi : TI} {vs : List Nat} (hj : ∀ j ∈ js, j ∈ vs) (h : DI K wi δ M fun ds M1 => ∃ Ac : Nat → List D → Prop, Ac 0 [] ∧
      (∀ i d acc, ds[i]? = some d → Ac i acc → DG K js g d (wipeD δ vs) M1 fun δ2 M2 => M2 = M1 ∧ DT K tt δ2 M1 fun b M3 => M3 = M1 ∧ if b = true then DE K te δ2 M1 (fun e M4 => M4 = M1 ∧ acc.length < sizeLine ∧ Ac (i + 1) (acc ++ [e])) else Ac (i + 1) acc) ∧
      ∀ acc, Ac ds.length acc → Q (.lst acc) M1) : DE K (tLc wi g tt te vs) δ M Q := fun F σ H en m QV k => by
  refine h F σ H en m _ fun ds M1 J H1 z g1 Sn S0 => ?_
  obtain ⟨Ac, a0, at', ae⟩ := z
  intro Dl hD
  have S := Sn Dl (.lst []) hD
  obtain ⟨fD, mD⟩ := g1.ok.new hD
  have vn : Same (vis H1 M1 F) (vis (upd H1 Dl (.lst [])) M1 (fadd F Dl)) := vis_new hD
  have ok0 : MOk K (fadd F Dl) M1 (upd H1 Dl (.lst [])) := by
    obtain ⟨g, _⟩ := go_new (o := .lst []) g1.ok hD
    refine ⟨fun b hb => ?_, fun a mo hm => ?_, tb_add g1.ok.tb⟩
    · rcases fadd_of hb with hb | rfl
      · exact g.ok.fr b hb
      · exact ⟨by rw [upd_same]; simp, mD⟩
    · obtain ⟨ho, e, ro⟩ := g1.ok.mo a mo hm
      exact ⟨ho, by rw [upd_ne (ne_of_none e hD)]; exact e, ro.mono vn⟩
  refine ⟨fun i n H' => i ≤ ds.length ∧ n = ds.length - i ∧ ∃ acc xs, Ac i acc ∧ MOk K (fadd F Dl) M1 H' ∧ Same (vis (upd H1 Dl (.lst [])) M1 (fadd F Dl)) (vis H' M1 (fadd F Dl)) ∧ (∀ b, F b = true → H' b = H1 b) ∧ H' Dl = some (.lst xs) ∧ RepL K (vis H' M1 (fadd F Dl)) xs acc,
    ⟨ds.length, Nat.zero_le _, rfl, [], [], a0, ok0, Same.refl _, fun b hb => upd_ne (fun e => by subst e; rw [fD] at hb; cases hb), upd_same, .nil⟩, ?_⟩
  rintro i n H' ⟨hi, rfl, acc, xs, ac, ok, ex, fr, hDl, rl⟩
  by_cases hl : i < ds.length
  · refine .inr ⟨S.go i M1 H' hl ok ex, fun H3 => ∃ acc xs, Ac (i + 1) acc ∧ MOk K (fadd F Dl) M1 H3 ∧ Same (vis (upd H1 Dl (.lst [])) M1 (fadd F Dl)) (vis H3 M1 (fadd F Dl)) ∧ (∀ b, F b = true → H3 b = H1 b) ∧ H3 Dl = some (.lst xs) ∧ RepL K (vis H3 M1 (fadd F Dl)) xs acc, fun H3 w => ⟨ds.length - (i + 1), by omega, by omega, rfl, w⟩, fun x H3 y => ?_⟩
    have hd : ds[i]? = some ds[i] := List.getElem?_eq_getElem hl
    obtain ⟨g3, rx⟩ := S.yl i M1 H' x H3 _ hd ok ex y
    have en3 : EnvR K (vis H3 M1 (fadd F Dl)) (wipe σ vs) (wipeD δ vs) := ((((en.mono g1.ex).mono vn).mono ex).mono g3.ex).wipe vs
    have back : ∀ H5, Go K (fadd F Dl) M1 H3 M1 H5 → Same (vis (upd H1 Dl (.lst [])) M1 (fadd F Dl)) (vis H5 M1 (fadd F Dl)) ∧ (∀ b, F b = true → H5 b = H1 b) ∧ H5 Dl = some (.lst xs) ∧ RepL K (vis H5 M1 (fadd F Dl)) xs acc := fun H5 g5 =>
      ⟨(ex.trans g3.ex).trans g5.ex, fun b hb => ((g5.fr b (fadd_mk hb)).trans (g3.fr b (fadd_mk hb))).trans (fr b hb), ((g5.fr Dl fadd_self).trans (g3.fr Dl fadd_self)).trans hDl, (rl.mono g3.ex).mono g5.ex⟩
    refine at' i _ acc hd ac (fadd F Dl) (wipe σ vs) H3 x en3 g3.ok rx _ fun δ4 M4 σ4 H4 z4 g4 en4 w4 => ⟨?_, ?_⟩
    · rw [w4 vs hj, wipe_wipe σ vs vs fun _ h => h]
    · obtain ⟨rfl, z4⟩ := z4
      refine z4 (fadd F Dl) σ4 H4 en4 g4.ok _ fun bb M5 H5 z5 g5 => ?_
      obtain ⟨rfl, z5⟩ := z5
      have g45 := g4.trans g5
      cases bb with
      | false =>
        rw [if_neg Bool.false_ne_true] at z5
        rw [if_neg Bool.false_ne_true]
        obtain ⟨b1, b2, b3, b4⟩ := back H5 g45
        exact ⟨acc, xs, z5, g45.ok, b1, b2, b3, b4⟩
      | true =>
        rw [if_pos rfl] at z5
        rw [if_pos rfl]
        refine z5 (fadd F Dl) σ4 H5 (en4.mono g5.ex) g5.ok _ fun e M6 v H6 z6 g6 r6 => ?_
        obtain ⟨rfl, hz, z6⟩ := z6
        have g456 := g45.trans g6
        obtain ⟨b1, b2, b3, b4⟩ := back H6 g456
        have hv : ∀ o, Same (vis H6 M6 (fadd F Dl)) (vis (upd H6 Dl o) M6 (fadd F Dl)) := fun o b u hb => by
          obtain ⟨h1, h2, h3⟩ := vis_of hb
          have hne := (fadd_no h2).2
          exact vis_mk (by rw [upd_ne hne]; exact h1) h2 h3
        refine ⟨xs, b3, by rw [b4.length]; exact hz, acc ++ [e], xs ++ [v], z6, ⟨fun b hb => ?_, fun a mo hm => ?_, tb_put g456.ok.tb⟩, b1.trans (hv _), fun b hb => ?_, upd_same, (b4.mono (hv _)).append (.cons (r6.mono (hv _)) .nil)⟩
        · rcases fadd_of hb with hb' | rfl
          · have hne : b ≠ Dl := fun e => by subst e; rw [fD] at hb'; cases hb'
            rw [upd_ne hne]; exact g456.ok.fr b hb
          · exact ⟨by rw [upd_same]; simp, mD⟩
        · obtain ⟨ho, e1, ro⟩ := g456.ok.mo a mo hm
          have hne : a ≠ Dl := fun z => by subst z; rw [mD] at hm; cases hm
          exact ⟨ho, by rw [upd_ne hne]; exact e1, ro.mono (hv _)⟩
        · have hne : b ≠ Dl := fun e => by subst e; rw [fD] at hb; cases hb
          rw [upd_ne hne]; exact b2 b hb
  · have hi' : i = ds.length := by omega
    subst hi'
    refine .inl ⟨S.stop _ M1 H' rfl ok ex, ?_⟩
    have sv : Same (vis H' M1 (fadd F Dl)) (vis H' M1 F) := fun b u hb => by
      obtain ⟨h1, h2, h3⟩ := vis_of hb
      exact vis_mk h1 (fadd_no h2).1 h3
    have g2 : Go K F M1 H1 M1 H' := by
      refine ⟨⟨fun b hb => ok.fr b (fadd_mk hb), fun a mo hm => ?_, tb_back ok.tb hDl⟩, (vn.trans ex).trans sv, fr⟩
      obtain ⟨ho, e1, ro⟩ := ok.mo a mo hm
      exact ⟨ho, e1, ro.mono sv⟩
    exact k (.lst acc) M1 _ H' (ae acc ac) (g1.trans g2) (.lst (.inl (.inl (vis_mk hDl fD mD))) (rl.mono sv))
end
end DL

set_option Elab.async false
set_option linter.all false
set_option maxRecDepth 100000
set_option maxHeartbeats 4000000
/-! built-ins by data -/
namespace DL
open PySem PySem.Spec PyProof.Rows L2

section
variable {X : Cx}
/-- list + list, either of them also one of the module -/
def rCatS (K : PySem.W.Frag) : R2 := fun x y H Q => ∃ l b xs zs, x = .ref l ∧ y = .ref b ∧ SqL K H l xs ∧ SqL K H b zs ∧ xs.length + zs.length ≤ sizeLine ∧ ∀ p, H p = none → Q (.ref p) (upd H p (.lst (xs ++ zs)))
theorem op_catS : OpR X (binaryOp .Add) (rCatS X.K) := by
  intro pins s σ H x y v u Q I rx ry h
  obtain ⟨l, b, xs, zs, rfl, rfl, hH, hB, hz, q⟩ := h
  cases rx
  cases ry
  obtain ⟨its, r, pl, _⟩ := I.list hH
  obtain ⟨its2, r2, pl2, _⟩ := I.list hB
  have hl := r.length
  have hl2 := r2.length
  obtain ⟨⟨cls, dd, data, sl⟩, ho, hc, n, hd⟩ := pl.isList
  obtain ⟨⟨cls2, dd2, data2, sl2⟩, ho2, hc2, n2, hd2⟩ := pl2.isList
  simp only at hc hd hc2 hd2
  subst hc hd hc2 hd2
  have e : its.toArray ++ its2.toArray = (its ++ its2).toArray := by simp
  refine concat_meets ⟨_, ho, rfl⟩ ⟨_, ho2, rfl⟩ noFill_list_add seq_list_add PySem.F.slot_list_add PySem.F.entry_list_add (PySem.F.args_list_add_2 _ _) (list_addW l b its.toArray its2.toArray n n2 dd dd2 sl sl2 (by simp only [List.size_toArray]; omega)) ⟨ho, ho2, ?_⟩
  rw [e]
  exact ⟨.ref _, _, I.lnew (t' := s.toks) (r.append r2) (by rw [List.length_append]; omega), rfl, q _ I.fresh⟩
/-- + of ints, texts, lists, tuples -/
def rAddA (K : PySem.W.Frag) : R2 := fun x y H Q => rI0 (fun i j => .int (i + j)) x y H Q ∨ ((∃ i j, x = .str i ∧ y = .str j ∧ i.length + j.length ≤ sizeLine ∧ Q (.str (i ++ j)) H) ∨ (rCatS K x y H Q ∨ rCatT K x y H Q))
theorem op_addA : OpR X (binaryOp .Add) (rAddA X.K) := op_add.or (op_add_str.or (op_catS.or op_catT))
theorem op_powN : OpR X (binaryOp .Pow) (rI (fun i j => 0 ≤ j ∧ (Builtin.Int.intBits i : Int) * j ≤ 2 ^ 27) fun i j => .int (i ^ j.toNat)) := opI fun _ _ _ _ _ _ _ hc q => pow_int hc.1 hc.2 q
theorem call_repr_bl : CallR X (.builtin "repr") (fun xs H Q => ∃ b : Bool, xs = [.bl b] ∧ Q (.str (if b then "True" else "False")) H) := by
  intro pins s σ H xs us Q I r h
  obtain ⟨b, rfl, q⟩ := h
  cases r with
  | cons r1 r2 =>
    cases r2
    cases r1
    exact PySem.P.repr_of_bool ⟨.str _, H, I.tok _, ⟨_, rfl⟩, q⟩
end

section
variable {K : PySem.W.Frag} {δ : En} {M : Mem} {Q : D → Mem → Prop} {R : Bool → Mem → Prop} {te : TE} {d e : D} {A : List D → Mem → Prop} {tr : TA}
/-! ### + -/
theorem dr_addI {i j : Int} (q : Q (.int (i + j)) M) : DR K (rAddA K) (.int i) (.int j) M Q := dr_or1 (dr_I0 q)
theorem dr_addS {i j : Str} (hz : i.length + j.length ≤ sizeLine) (q : Q (.str (i ++ j)) M) : DR K (rAddA K) (.str i) (.str j) M Q := dr_or2 (dr_or1 fun F H v u m a b QV k => by
  cases a; cases b
  exact ⟨i, j, rfl, rfl, hz, k _ M _ H q (Go.refl m) (.str _)⟩)
theorem dr_addL {xs ys : List D} (hz : xs.length + ys.length ≤ sizeLine) (q : Q (.lst (xs ++ ys)) M) : DR K (rAddA K) (.lst xs) (.lst ys) M Q := dr_or2 (dr_or2 (dr_or1 fun F H v u m a b QV k => by
  cases a with
  | lst s r =>
    cases b with
    | lst s2 r2 =>
      refine ⟨_, _, _, _, rfl, rfl, vis_le.seq s, vis_le.seq s2, by rw [r.length, r2.length]; exact hz, fun p hp => ?_⟩
      obtain ⟨g, e⟩ := go_new (o := .lst _) m hp
      exact k _ M _ _ q g (.lst (.inl (.inl e)) ((r.mono g.ex).append (r2.mono g.ex)))))
theorem dr_addT {xs ys : List D} (hn : xs ≠ []) (hz : xs.length + ys.length ≤ sizeLine) (q : Q (.tup (xs ++ ys)) M) : DR K (rAddA K) (.tup xs) (.tup ys) M Q := dr_or2 (dr_or2 (dr_or2 fun F H v u m a b QV k => by
  cases a with
  | @tup a1 vs1 _ s r =>
    cases b with
    | @tup a2 vs2 _ s2 r2 =>
      refine ⟨a1, a2, vs1, vs2, rfl, rfl, sqt_mono vis_le s, sqt_mono vis_le s2, ?_, by rw [r.length, r2.length]; exact hz, ?_⟩
      · intro z; subst z; cases r; exact hn rfl
      · refine ⟨fun hy => ?_, fun hy p hp => ?_⟩
        · subst hy
          cases r2
          rw [List.append_nil] at q
          exact k _ M _ H q (Go.refl m) (.tup s r)
        · obtain ⟨g, e⟩ := go_new (o := .tup _) m hp
          exact k _ M _ _ q g (.tup (.inl (.inl e)) ((r.mono g.ex).append (r2.mono g.ex)))))
/-! ### items -/
theorem atI_rep {G : Hp} {xs : List V} {ds : List D} {i : Int} (r : RepL K G xs ds) (h : atI ds i = some d) : ∃ v, atI xs i = some v ∧ Rep K G v d := by
  unfold atI at h ⊢
  rw [r.length]
  cases e : ixN ds.length i with
  | none => rw [e] at h; cases h
  | some j =>
    rw [e] at h
    obtain ⟨u, hu, ru⟩ := r.get (show ds[j]? = some d from h)
    exact ⟨u, hu, ru⟩
theorem dr_ixL {xs : List D} {i : Int} (h : atI xs i = some d) (q : Q d M) : DR K (rIx K) (.lst xs) (.int i) M Q := dr_or1 fun F H v u m a b QV k => by
  cases b
  cases a with
  | lst s r =>
    obtain ⟨w, hw, rw'⟩ := atI_rep r h
    exact ⟨_, _, i, w, rfl, rfl, vis_le.seq s, hw, k d M w H q (Go.refl m) rw'⟩
theorem dr_ixT {xs : List D} {i : Int} (h : atI xs i = some d) (q : Q d M) : DR K (rIx K) (.tup xs) (.int i) M Q := dr_or2 (dr_or1 fun F H v u m a b QV k => by
  cases b
  cases a with
  | tup s r =>
    obtain ⟨w, hw, rw'⟩ := atI_rep r h
    exact ⟨_, _, i, w, rfl, rfl, sqt_mono vis_le s, hw, k d M w H q (Go.refl m) rw'⟩)
theorem dr_ixS {x : Str} {i : Int} {c : Nat} (hz : x.length ≤ sizeLine) (h : atI x.cps.toList i = some c) (q : Q (.str ⟨#[c]⟩) M) : DR K (rIx K) (.str x) (.int i) M Q := dr_or2 (dr_or2 fun F H v u m a b QV k => by
  cases a; cases b
  exact ⟨x, i, c, rfl, rfl, hz, h, k _ M _ H q (Go.refl m) (.str _)⟩)
/-- the die's item -/
theorem dr_ixD {p : Addr} {j : Nat} (hp : M p = some .die) (hj : j < 3) (q : ∀ i : Int, Q (.int i) M) : DR K (rIx K) (.raw (.ref p)) (.int (j : Int)) M Q := dr_or1 fun F H v u m a b QV k => by
  cases a; cases b
  obtain ⟨ho, e, r⟩ := m.mo p _ hp
  cases r with
  | die x y z =>
    have h3 : ∃ i : Int, atI [V.int x, V.int y, V.int z] (j : Int) = some (.int i) := by
      match j, hj with
      | 0, _ => exact ⟨x, rfl⟩
      | 1, _ => exact ⟨y, rfl⟩
      | 2, _ => exact ⟨z, rfl⟩
    obtain ⟨i, hi⟩ := h3
    exact ⟨p, _, _, _, rfl, rfl, SqL.of e, hi, k _ M _ H (q i) (Go.refl m) (.int _)⟩
theorem dr_ixD0 {p : Addr} (hp : M p = some .die) (q : ∀ i : Int, Q (.int i) M) : DR K (rIx K) (.raw (.ref p)) (.int 0) M Q := dr_ixD (j := 0) hp (by decide) q
theorem dr_ixD1 {p : Addr} (hp : M p = some .die) (q : ∀ i : Int, Q (.int i) M) : DR K (rIx K) (.raw (.ref p)) (.int 1) M Q := dr_ixD (j := 1) hp (by decide) q
theorem dr_ixD2 {p : Addr} (hp : M p = some .die) (q : ∀ i : Int, Q (.int i) M) : DR K (rIx K) (.raw (.ref p)) (.int 2) M Q := dr_ixD (j := 2) hp (by decide) q
/-- a store into the die -/
theorem dg_die {js : List Nat} {to ti : TE} {G : En → Mem → Prop} {p : Addr} {x : Int} {j : Nat} (hj : j < 3) (h : DE K to δ M fun o M1 => o = .raw (.ref p) ∧ DE K ti δ M1 fun i M2 => i = .int (j : Int) ∧ M2 p = some .die ∧ G δ M2) : DG K js (gSub to ti rSetL) (.int x) δ M G := fun F σ H v en m r QG k => by
  cases r
  refine h F σ H en m _ fun o M1 w H1 z g1 r1 => ?_
  obtain ⟨rfl, z⟩ := z
  cases r1
  refine z F σ H1 (en.mono g1.ex) g1.ok _ fun i M2 w2 H2 z2 g2 r2 => ?_
  obtain ⟨rfl, hd, z2⟩ := z2
  cases r2
  obtain ⟨ho, e, ro⟩ := g2.ok.mo p _ hd
  cases ro with
  | die a b c =>
    have h3 : ∃ a' b' c' : Int, ixN [V.int a, V.int b, V.int c].length (j : Int) = some j ∧ [V.int a, V.int b, V.int c].set j (.int x) = [.int a', .int b', .int c'] := by
      match j, hj with
      | 0, _ => exact ⟨x, b, c, rfl, rfl⟩
      | 1, _ => exact ⟨a, x, c, rfl, rfl⟩
      | 2, _ => exact ⟨a, b, x, rfl, rfl⟩
    obtain ⟨a', b', c', h4, h5⟩ := h3
    refine ⟨p, _, _, j, rfl, rfl, e, h4, ?_⟩
    rw [h5]
    have g3 := go_die g2.ok hd a' b' c'
    exact k δ M2 σ _ z2 ((g1.trans g2).trans g3) (((en.mono g1.ex).mono g2.ex).mono g3.ex) fun _ _ => rfl
/-- a store into a list that changes -/
theorem dg_setL {js : List Nat} {to ti : TE} {G : En → Mem → Prop} {x : D} (h : DE K to δ M fun o M1 => DE K ti δ M1 fun i M2 => ∃ (p : Addr) (xs : List D) (n : Int) (j : Nat), o = .raw (.ref p) ∧ i = .int n ∧ M2 p = some (.lst xs) ∧ ixN xs.length n = some j ∧ G δ (mup M2 p (.lst (xs.set j x)))) : DG K js (gSub to ti rSetL) x δ M G := fun F σ H v en m r QG k => by
  refine h F σ H en m _ fun o M1 w H1 z g1 r1 => ?_
  refine z F σ H1 (en.mono g1.ex) g1.ok _ fun i M2 w2 H2 z2 g2 r2 => ?_
  obtain ⟨p, xs, n, j, rfl, rfl, hd, hj, z2⟩ := z2
  cases r1
  cases r2
  obtain ⟨ho, e, ro⟩ := g2.ok.mo p _ hd
  cases ro with
  | lst rl =>
    refine ⟨p, _, n, j, rfl, rfl, e, by rw [rl.length]; exact hj, ?_⟩
    have g3 := go_mut (m := .lst (xs.set j x)) g2.ok hd (.lst (rl.set ((r.mono g1.ex).mono g2.ex) j))
    exact k δ _ σ _ z2 ((g1.trans g2).trans g3) (((en.mono g1.ex).mono g2.ex).mono g3.ex) fun _ _ => rfl
/-- the items of a list, a tuple, a text -/
def itemsD : D → Option (List D)
  | .lst xs => some xs | .tup xs => some xs | .str x => some (sigs x) | _ => none
/-! ### slices -/
def DO (K : PySem.W.Frag) (to : TO) (δ : En) (M : Mem) (Q : Option Int → Mem → Prop) : Prop :=
  ∀ (F : Fm) (σ : Sg) (H : Hp), EnvR K (vis H M F) σ δ → MOk K F M H → ∀ QV : Option Int → Hp → Prop, (∀ o M' H', Q o M' → Go K F M H M' H' → QV o H') → to σ H QV
theorem do_no {O : Option Int → Mem → Prop} (q : O none M) : DO K tNoPart δ M O := fun F σ H en m QV k => k none M H q (Go.refl m)
theorem do_pt {O : Option Int → Mem → Prop} (h : DE K te δ M fun d M1 => ∃ i, d = .int i ∧ O (some i) M1) : DO K (tPart te) δ M O := fun F σ H en m QV k => by
  refine h F σ H en m _ fun d M1 v H1 z g r => ?_
  obtain ⟨i, rfl, z⟩ := z
  cases r
  exact ⟨i, rfl, k _ M1 H1 z g⟩
theorem de_slS {tl th : TO} (h : DE K te δ M fun d M1 => ∃ x, d = .str x ∧ x.length ≤ sizeLine ∧ DO K tl δ M1 fun l M2 => DO K th δ M2 fun u M3 => Q (.str (cutS x l u)) M3) : DE K (tSl rSlS te tl th) δ M Q := fun F σ H en m QV k => by
  refine h F σ H en m _ fun d M1 v H1 z g1 r => ?_
  obtain ⟨x, rfl, hz, z⟩ := z
  cases r
  refine z F σ H1 (en.mono g1.ex) g1.ok _ fun l M2 H2 z2 g2 => ?_
  refine z2 F σ H2 ((en.mono g1.ex).mono g2.ex) g2.ok _ fun u M3 H3 z3 g3 => ?_
  exact ⟨x, rfl, hz, k _ M3 _ H3 z3 ((g1.trans g2).trans g3) (.str _)⟩
/-! ### built-in functions -/
theorem dc_one {r : List V → Hp → VK → Prop} {x : D} (h : DU K (fun v H Q => r [v] H Q) x M Q) : DC K r [x] M Q := fun F H vs m rl QV k => by
  cases rl with
  | cons a b =>
    cases b
    exact h F H _ m a QV k
def lenD : D → Option Nat
  | .str x => some x.length | .lst xs => some xs.length | .tup xs => some xs.length | _ => none
theorem dc_len {n : Nat} (h : lenD d = some n) (hz : ∀ x, d = .str x → x.length ≤ sizeLine) (q : Q (.int (n : Int)) M) : DC K (fun xs H Q => ∃ x n, xs = [x] ∧ LenV K x H n ∧ Q (.int n) H) [d] M Q := fun F H vs m r QV k => by
  cases r with
  | cons a b =>
    cases b
    refine ⟨_, n, rfl, ?_, k _ M _ H q (Go.refl m) (.int _)⟩
    cases a <;> first | cases h; done | skip
    · cases h; exact ⟨hz _ rfl, rfl⟩
    · rename_i s r
      cases h
      exact .inl ⟨_, vis_le.seq s, r.length.symm⟩
    · rename_i s r
      cases h
      exact .inr ⟨_, sqt_mono vis_le s, r.length.symm⟩
theorem dc_abs {i : Int} (q : Q (.int (if i < 0 then -i else i)) M) : DC K (fun xs H Q => ∃ i, xs = [.int i] ∧ Q (.int (if i < 0 then -i else i)) H) [.int i] M Q := fun F H vs m r QV k => by
  obtain rfl := RepL.of_ints (l := [i]) r
  exact ⟨i, rfl, k _ M _ H q (Go.refl m) (.int _)⟩
theorem dc_max2 {i j : Int} (q : Q (.int (if j > i then j else i)) M) : DC K (fun xs H Q => ∃ i j, xs = [.int i, .int j] ∧ Q (.int (if j > i then j else i)) H) [.int i, .int j] M Q := fun F H vs m r QV k => by
  obtain rfl := RepL.of_ints (l := [i, j]) r
  exact ⟨i, j, rfl, k _ M _ H q (Go.refl m) (.int _)⟩
theorem dc_min2 {i j : Int} (q : Q (.int (if j < i then j else i)) M) : DC K (fun xs H Q => ∃ i j, xs = [.int i, .int j] ∧ Q (.int (if j < i then j else i)) H) [.int i, .int j] M Q := fun F H vs m r QV k => by
  obtain rfl := RepL.of_ints (l := [i, j]) r
  exact ⟨i, j, rfl, k _ M _ H q (Go.refl m) (.int _)⟩
theorem dc_intI {i : Int} (q : Q (.int i) M) : DC K (fun xs H Q => (∃ i, xs = [.int i] ∧ Q (.int i) H) ∨ ∃ k, xs = [.bl k] ∧ Q (.int (if k then 1 else 0)) H) [.int i] M Q := fun F H vs m r QV k => by
  obtain rfl := RepL.of_ints (l := [i]) r
  exact .inl ⟨i, rfl, k _ M _ H q (Go.refl m) (.int _)⟩
theorem dc_intB {b : Bool} (q : Q (.int (if b then 1 else 0)) M) : DC K (fun xs H Q => (∃ i, xs = [.int i] ∧ Q (.int i) H) ∨ ∃ k, xs = [.bl k] ∧ Q (.int (if k then 1 else 0)) H) [.bl b] M Q := fun F H vs m r QV k => by
  obtain rfl := RepL.of_bls (l := [b]) r
  exact .inr ⟨b, rfl, k _ M _ H q (Go.refl m) (.int _)⟩
theorem dc_reprB {b : Bool} (q : Q (.str (if b then "True" else "False")) M) : DC K (fun xs H Q => ∃ b : Bool, xs = [.bl b] ∧ Q (.str (if b then "True" else "False")) H) [.bl b] M Q := fun F H vs m r QV k => by
  obtain rfl := RepL.of_bls (l := [b]) r
  exact ⟨b, rfl, k _ M _ H q (Go.refl m) (.str _)⟩
theorem dc_all {bs : List Bool} (h : d = .lst (bs.map D.bl)) (q : Q (.bl (bs.all id)) M) : DC K (rAll K) [d] M Q := fun F H vs m r QV k => by
  subst h
  cases r with
  | cons a b =>
    cases b
    cases a with
    | lst s r =>
      obtain rfl := RepL.of_bls r
      exact ⟨_, bs, rfl, vis_le.seq s, k _ M _ H q (Go.refl m) (.bl _)⟩
theorem dc_any {bs : List Bool} (h : d = .lst (bs.map D.bl)) (q : Q (.bl (bs.any id)) M) : DC K (rAny K) [d] M Q := fun F H vs m r QV k => by
  subst h
  cases r with
  | cons a b =>
    cases b
    cases a with
    | lst s r =>
      obtain rfl := RepL.of_bls r
      exact ⟨_, bs, rfl, vis_le.seq s, k _ M _ H q (Go.refl m) (.bl _)⟩
/-- a value's built-in type -/
def tyD : D → Option String
  | .non => some "NoneType" | .bl _ => some "bool" | .int _ => some "int" | .str _ => some "str" | .lst _ => some "list" | .tup _ => some "tuple" | .dic _ => some "dict" | _ => none
theorem tyX_of {F : Fm} {H : Hp} {v : V} {T : String} (r : Rep K (vis H M F) v d) (h : tyD d = some T) : TyX K H v (.type T) := by
  cases r with
  | non => cases h; exact .base .non
  | bl b => cases h; exact .base (.bl b)
  | int b => cases h; exact .base (.int b)
  | str b => cases h; exact .base (.str b)
  | lst s r =>
    cases h
    rcases s with (s | ⟨o, s⟩) | ⟨o, its, n, s, hc, _⟩
    · exact .base (.lst (vis_le _ _ s))
    · exact .base (.frz (vis_le _ _ s))
    · exact .kList s hc
  | tup s r =>
    cases h
    rcases s with (s | ⟨o, s⟩) | ⟨o, its, n, s, hc, _⟩
    · exact .base (.tup (vis_le _ _ s))
    · exact .fTuple (vis_le _ _ s)
    · exact .kTuple s hc
  | dic s r =>
    cases h
    rcases s with s | ⟨o, s⟩
    · exact .base (.dK (vis_le _ _ s))
    · exact .fDict (vis_le _ _ s)
  | obj _ _ => cases h
  | raw _ => cases h
theorem dc_isi {T U : String} {b : Bool} (h : tyD d = some T) (hb : kitB T U = some b) (q : Q (.bl b) M) : DC K (rIsi K) [d, .raw (.ty U)] M Q := fun F H vs m r QV k => by
  cases r with
  | cons a r =>
    cases r with
    | cons c r =>
      cases r
      cases c
      exact ⟨_, _, .type T, .type U, b, rfl, .ty U, tyX_of a h, kit_ty hb, k _ M _ H q (Go.refl m) (.bl _)⟩
/-! ### methods of built-ins -/
theorem de_M0 {r : V → List V → Hp → VK → Prop} (h : DE K te δ M fun d M1 => (∃ x, d = .str x) ∧ DM K r d [] M1 Q) : DE K (tM0 r te) δ M Q := fun F σ H en m QV k => by
  refine h F σ H en m _ fun d M1 v H1 z g1 r1 => ?_
  obtain ⟨⟨x, rfl⟩, z⟩ := z
  refine ⟨⟨x, by cases r1; rfl⟩, z F H1 v [] g1.ok r1 .nil _ fun x M2 z H2 q g2 r2 => k x M2 z H2 q (g1.trans g2) r2⟩
theorem de_M1 {r : V → List V → Hp → VK → Prop} {ta : TE} (h : DE K te δ M fun d M1 => (∃ x, d = .str x) ∧ DE K ta δ M1 fun a M2 => DM K r d [a] M2 Q) : DE K (tM1 r te ta) δ M Q := fun F σ H en m QV k => by
  refine h F σ H en m _ fun d M1 v H1 z g1 r1 => ?_
  obtain ⟨⟨x, rfl⟩, z⟩ := z
  refine ⟨⟨x, by cases r1; rfl⟩, z F σ H1 (en.mono g1.ex) g1.ok _ fun a M2 u H2 z2 g2 r2 => ?_⟩
  exact z2 F H2 v [u] g2.ok (r1.mono g2.ex) (.cons r2 .nil) _ fun x M3 z H3 q g3 r3 => k x M3 z H3 q ((g1.trans g2).trans g3) r3
theorem dm_upper {x : Str} (hz : x.length ≤ 5592405) (q : Q (.str (Txt.upper x)) M) : DM K (fun x xs H Q => ∃ a, x = .str a ∧ xs = [] ∧ a.length ≤ 5592405 ∧ Q (.str (Txt.upper a)) H) (.str x) [] M Q := fun F H v vs m a r QV k => by
  cases a; cases r
  exact ⟨x, rfl, rfl, hz, k _ M _ H q (Go.refl m) (.str _)⟩
theorem dm_join {x : Str} {ys : List Str} (hz : (ys.map (·.length)).sum + ys.length * x.length ≤ 16777216) (q : Q (.str (Txt.join x ys)) M) : DM K (fun x xs H Q => ∃ a p, ∃ ys : List Str, x = .str a ∧ xs = [.ref p] ∧ (SqL K H p (ys.map V.str) ∨ SqT K H p (ys.map V.str)) ∧
    (ys.map (·.length)).sum + ys.length * a.length ≤ 16777216 ∧ Q (.str (Txt.join a ys)) H) (.str x) [.lst (ys.map D.str)] M Q := fun F H v vs m a r QV k => by
  cases a
  cases r with
  | cons b r =>
    cases r
    cases b with
    | lst s r =>
      obtain rfl := RepL.of_strs r
      exact ⟨x, _, ys, rfl, rfl, .inl (vis_le.seq s), hz, k _ M _ H q (Go.refl m) (.str _)⟩
/-! ### texts compared -/
theorem dr_leS {x y : Str} (q : Q (.bl (!decide (y.cps.toList < x.cps.toList))) M) : DR K (fun x y H Q => ∃ i j, x = .str i ∧ y = .str j ∧ Q (.bl (!decide (j.cps.toList < i.cps.toList))) H) (.str x) (.str y) M Q := fun F H v u m a b QV k => by
  cases a; cases b
  exact ⟨x, y, rfl, rfl, k _ M _ H q (Go.refl m) (.bl _)⟩
theorem dr_inS {c : Nat} {y : Str} (q : Q (.bl (decide (c ∈ y.cps.toList))) M) : DR K (fun x y H Q => ∃ (c : Nat) (z : Str), x = .str ⟨#[c]⟩ ∧ y = .str z ∧ Q (.bl (decide (c ∈ z.cps.toList))) H) (.str ⟨#[c]⟩) (.str y) M Q := fun F H v u m a b QV k => by
  cases a; cases b
  exact ⟨c, y, rfl, rfl, k _ M _ H q (Go.refl m) (.bl _)⟩
/-- {} -/
theorem de_dnew (q : Q (.dic []) M) : DE K tDNewK δ M Q := fun F σ H en m QV k => fun p hp => by
  obtain ⟨g, e⟩ := go_new (o := .dK []) m hp
  exact k _ M _ _ q g (.dic (.inl e) .nil)
end
end DL

set_option Elab.async false
set_option linter.all false
set_option maxRecDepth 100000
set_option maxHeartbeats 4000000
/-! a def by data, called where no repr is under way -/
namespace DL
open PySem PySem.Spec PyProof.Rows L2
abbrev PT0 := List D → Mem → (D → Mem → Prop) → Prop
/-- the def at f keeps the promise p, called where no repr is under way; it raises nothing -/
structure FnG (P : Program) (w : World) (K : PySem.W.Frag) (mg : Str → Option Value) (base : Heap) (k : Nat) (f : Addr) (fd : FuncData) (ps : List Str) (p : PT0) : Prop where
  len : ∀ ds M R, p ds M R → ds.length = ps.length
  run : ∀ (A : Around) (ou : List Env) (s : Shared) (H : Hp) (as : Args) (us : List Value) (vs : List V) (Q : VK), Room k A → A.guards = some [] → Env0 P w K mg base A ou s H → BindsTo s fd as (ps.zip us) → Vals vs us → spD K p vs H Q E0 →
    codeAny (model P w) A (.call (.ref f) as) (CR CX0 ou P w H s Q E0) s
theorem spD_len {K : PySem.W.Frag} {p : PT0} {n : Nat} (len : ∀ ds M R, p ds M R → ds.length = n) {vs : List V} {H : Hp} {Q : VK} {E : XK} (h : spD K p vs H Q E) : vs.length = n := by
  obtain ⟨F, M, ds, R, r, _, hp, _⟩ := h
  rw [r.length]
  exact len ds M R hp
/-- a def by its body -/
theorem g_of {P : Program} {w : World} {K : PySem.W.Frag} {mg : Str → Option Value} {base : Heap} {x qual : Str} {st : Stmt} {f : Addr} {fd : FuncData} {N ps : List Str} {k : Nat} {p : PT0} (Fu : Fun K x qual st f fd) (Sc : FnScope N ps (defScope st)) (len : ∀ ds M R, p ds M R → ds.length = ps.length)
    (body : ∀ (cdv : Value) (A : Around) (ou : List Env) (s : Shared) (H : Hp), Room k (A.deeper (envOfC qual (defScope st) s.heap.objs.size f cdv)) → (A.deeper (envOfC qual (defScope st) s.heap.objs.size f cdv)).guards = some [] →
      ∃ t, PSs (cxOf CX0 P w K mg base N qual (defScope st) f cdv A ou s H E0).nox (defBody st) t ∧ ∀ ds M R, p ds M R → DS K t (ds.map some ++ List.replicate (N.length - ds.length) none) M { nx := fun _ M' => R .non M', rt := R }) :
    FnG P w K mg base (k + 1) f fd ps p := by
  obtain ⟨oc, od, kV, doc, pm, an, cdv, ct, osl, rfl, lk, hcd⟩ := Fu.ex
  refine ⟨len, fun A ou s H as us vs Q room gd e0 bt rel hp => ?_⟩
  have hlen := spD_len len hp
  have inK : K.In s.heap := e0.mod.kin.keeps fun a ob z => (e0.bs a ob z).1
  have noL : s.heap.NoLimit := e0.mod.nolimit.keeps fun a ob z => (e0.bs a ob z).1
  have kinds : ∀ y ∈ ps.zip us, (defScope st).names.lookup y.1 = some .local ∨ ((defScope st).names.lookup y.1 = some .cell ∧ ((cellsFrom (s.heap.objs.size + 1) (defScope st).names []).lookup y.1).isSome = true) := by
    rintro ⟨n, z⟩ hy
    rcases Sc.par n (List.of_mem_zip hy).1 with q | q
    · exact .inl q
    · exact .inr ⟨q, PySem.W.cellsFrom_some _ _ _ (.inl q)⟩
  refine codeAny_call_function room.depth (inK _ _ lk) rfl Sc.co Sc.gen rfl (PySem.W.codeRec_of inK hcd) (bt _ _ _ _ ?_)
  refine wpAny_newFunctionEnv_cells Sc.kind kinds fun env he s1 ic => ?_
  subst he
  refine ⟨noL.keeps ic.toInCall.keep, codeAny_func ?_⟩
  obtain ⟨t, ht, hd⟩ := body cdv A ou s H (room.deeper _) gd
  have J0 : Inv (cxOf CX0 P w K mg base N qual (defScope st) f cdv A ou s H E0) [] (start N vs) H s1 := inv_start Sc room.hd e0 hlen rel ic
  have hq : t { nx := fun _ H' => Q .non H', rt := Q } (start N vs) H := by
    obtain ⟨F, M, ds, R, r, m, hpp, q⟩ := hp
    refine hd ds M R hpp F _ H (EnvR.start r) m _ ?_ ?_ ?_ ?_
    · exact fun δ' M' σ' H' z g _ => q _ _ _ _ z g .non
    · exact fun d M' v H' z g rp => q _ _ _ _ z g rp
    · exact fun _ _ _ _ z => z.elim
    · exact fun _ _ _ _ z => z.elim
  refine wpAny_mono (ht.nox.run [] s1 (start N vs) H _ J0 hq) (fun fl s2 hs => ?_) fun e s2 hs => hs
  have done : ∀ {σ' : Sg} {H' : Hp} {v : V} {u : Value}, Inv (cxOf CX0 P w K mg base N qual (defScope st) f cdv A ou s H E0) [] σ' H' s2 → RelV v u → Q v H' → CE ou P w H s Q u s2 :=
    fun {_ H' v _} J rv q => ⟨v, H', J.os, J.bare, J.base, J.hok, rv, q⟩
  cases fl with
  | ret u =>
    obtain ⟨v, σ', H', J, rv, q⟩ := hs
    exact done J rv q
  | next =>
    obtain ⟨σ', H', J, q⟩ := hs
    exact done (v := V.non) (u := Value.none) J rfl q
  | brk => exact (let ⟨_, _, _, q⟩ := hs; False.elim q)
  | cont => exact (let ⟨_, _, _, q⟩ := hs; False.elim q)
section
variable {X : Cx} {k : Nat} {f C : Addr} {fd : FuncData} {ps : List Str} {p : PT0} {pins : List (Addr × Obj)} {σ : Sg} {H : Hp} {s : Shared} {Q : VK}
theorem back_of {r : Result} {s' : Shared} {E : Value → Shared → Prop} (I : Inv X pins σ H s) (hq : CR CX0 X.stack X.prog X.w H s Q E0 r s') : ∃ u, r = .ok (.ret u) ∧ EP X pins σ Q u s' := by
  match r, hq with
  | .ok (.ret u), hq => exact ⟨u, rfl, I.after hq⟩
  | .ok .next, hq => exact False.elim hq
  | .ok .brk, hq => exact False.elim hq
  | .ok .cont, hq => exact False.elim hq
  | .error _, hq => exact False.elim hq
theorem run_g {us : List Value} {vs : List V} (F : FnG X.prog X.w X.K X.mg X.base k f fd ps p) (hr : Room k X.A) (gd : X.A.guards = some []) (hb : Binds X.K fd ps []) (I : Inv X pins σ H s) (rel : Vals vs us) (hp : spD X.K p vs H Q E0) :
    wpAny (model X.prog X.w) X.A (call (.ref f) us) (EP X pins σ Q) X.xe s := by
  have hl : (us ++ ([] : List Value)).length = ps.length := by rw [List.append_nil, ← rel.length, spD_len F.len hp]
  have bt := hb s us I.kIn hl
  rw [List.append_nil] at bt
  refine wpAny_call (codeAny_mono (F.run X.A X.stack s H ⟨us, []⟩ us vs Q hr gd I.env0 bt rel hp) fun r s2 hq => ?_)
  obtain ⟨u, rfl, q⟩ := back_of (E := X.xe) I hq
  exact q
end
/-! ### the law's end: nothing is tracked but the script -/
def p_law : PT0 := fun ds M R => ∃ ns : List Int, ds = [.lst (ns.map D.int)] ∧ ns.length ≤ 63 ∧ (∀ a, M a = none) ∧ ∀ M', R (.bl true) M'
theorem law_g {P : Program} {w : World} {K : PySem.W.Frag} {mg mb : Str → Option Value} {k : Nat} {fa a : Addr} {fd : FuncData} {x : Str} {s1 : Shared} {vs : List Value} {ns : List Int}
    (inK : K.In s1.heap) (nsg : s1.heap.Ns mainGlobals mg) (nsb : s1.heap.Ns builtinsNs mb) (nsx : ∀ x : Str, x ≠ "__name__" → mb x = bootBuiltins x) (noL : s1.heap.NoLimit) (ng : s1.gens = #[])
    (oa : s1.heap.get? a = some { cls := .type "list", data := .seq vs.toArray }) (ia : IntsAre vs ns) (la : ns.length ≤ 63) (hr : Room k callerA)
    (F : ∀ base : Heap, K.In base → base.Ns mainGlobals mg → FnG P w K mg base k fa fd [x] p_law) (hbind : ∀ (s : Shared) (u : Value), BindsTo s fd ⟨[u], []⟩ [(x, u)]) :
    codeAny (model P w) callerA (.call (.ref fa) ⟨[.ref a], []⟩) (fun r s' => r = .ok (.ret (.bool true)) ∧ OldK s1.heap s'.heap ∧ s'.os = s1.os ∧ AllBare s'.gens) s1 := by
  have rel := vals_ints ia
  have nlen := ia.length
  have la2 : ns.length ≤ sizeLine := by rw [sizeLine_eq]; omega
  -- whatever of it is tracked
  have main : ∀ H : Hp, Only H → SqL K H a (ns.map V.int) → HOk P w H s1.heap → (∀ b, H b ≠ none → b = a) → (H a ≠ none → K.lookup a = none) →
      codeAny (model P w) callerA (.call (.ref fa) ⟨[.ref a], []⟩) (fun r s' => r = .ok (.ret (.bool true)) ∧ OldK s1.heap s'.heap ∧ s'.os = s1.os ∧ AllBare s'.gens) s1 := by
    intro H only sq ok one nk
    have off : ∀ {b : Addr}, b ≠ a → H b = none := fun {b} hb => by
      cases q : H b with
      | none => rfl
      | some u => exact absurd (one b (by rw [q]; simp)) hb
    have dct : ∀ {b : Addr} {o : Obj} {es : Array DictEntry} {n : Nat}, s1.heap.get? b = some o → o.data = .dict es n → H b = none := fun {b o es n} e d => off fun z => by
      subst z
      rw [oa] at e
      cases e
      exact nomatch d
    have nsv : ∀ {b : Addr} {m : Str → Option Value}, s1.heap.Ns b m → (hidT s1.heap H).Ns b m := fun {b m} z => by
      obtain ⟨o, es, n, e, d, rest⟩ := z
      exact ⟨o, es, n, hidT_get e (dct e d), d, rest⟩
    have inB : K.In (hidT s1.heap H) := fun b o e => hidT_get (inK b o e) (by
      by_cases hb : b = a
      · subst hb
        cases q : H b with
        | none => rfl
        | some u =>
          rw [nk (by rw [q]; simp)] at e
          cases e
      · exact off hb)
    have md : Mod K mg (hidT s1.heap H) := by
      obtain ⟨mc, c1, c2⟩ := noL
      exact ⟨inB, nsv nsg, ⟨mb, nsv nsb, nsx⟩, mc, nsv c1, c2⟩
    have e0 : Env0 P w K mg (hidT s1.heap H) callerA [] s1 H :=
      { frames := rfl, mod := md, bs := fun b o e => of_hidT e, bsz := Nat.le_of_eq (hidT_size _ _), funs := trivial, frf := fun b hb => (nomatch hb), hok := ok, bare := .of_eq ng }
    have em : Same H (vis H (fun _ => none) (fun _ => false)) := fun b o e => vis_mk e rfl rfl
    have hp : spD K p_law [.ref a] H (fun v _ => v = .bl true) E0 := by
      refine ⟨fun _ => false, fun _ => none, [.lst (ns.map D.int)], fun d _ => d = .bl true, .cons (.lst (em.seq sq) (RepL.ints ns)) .nil, ⟨fun b hb => (nomatch hb), fun a m hm => (nomatch hm), fun b ps hb => by
        rcases only b with z | ⟨o, xs, z⟩ <;> (rw [z] at hb; cases hb)⟩, ⟨ns, rfl, la, fun _ => rfl, fun _ => rfl⟩, fun d M' v H' hd _ r => ?_⟩
      subst hd
      cases r
      rfl
    refine codeAny_mono ((F _ inB (nsv nsg)).run callerA [] s1 H ⟨[.ref a], []⟩ [.ref a] [.ref a] _ hr rfl e0 (hbind s1 (.ref a)) (.cons rfl .nil) hp) fun r s2 hq => ?_
    match r, hq with
    | .error _, hq => exact False.elim hq
    | .ok .next, hq => exact False.elim hq
    | .ok .brk, hq => exact False.elim hq
    | .ok .cont, hq => exact False.elim hq
    | .ok (.ret u), hq =>
      obtain ⟨v, H2, os2, bare2, un, ok2, rv, qv⟩ := hq
      have qv : v = .bl true := qv
      subst qv
      obtain rfl : u = Value.bool true := rv
      refine ⟨rfl, OldK.of_keep fun b o e => ?_, os2, bare2⟩
      rcases only b with z | ⟨ob, ys, z⟩
      · exact un.keep b o e z (fun h => (nomatch h)) (fun h => (nomatch h))
      · obtain ⟨y1, _⟩ := ok b _ z
        obtain ⟨y2, _⟩ := ok2 b _ (un.frzs b ob _ z)
        rw [e] at y1
        cases y1
        exact y2
  cases hk : K.lookup a with
  | some o =>
    have e := inK a o hk
    rw [oa] at e
    cases e
    exact main (fun _ => none) (fun _ => .inl rfl) (.inr ⟨_, vs.toArray, _, hk, rfl, rfl, rfl, (by rw [List.size_toArray, nlen]; exact la2), (by simpa using rel)⟩) (fun b u z => (nomatch z)) (fun b z => absurd rfl z) fun z => absurd rfl z
  | none =>
    obtain ⟨Hx, here, there⟩ : ∃ Hx : Hp, Hx a = some (.frz { cls := .type "list", data := .seq vs.toArray } (.lst (ns.map V.int))) ∧ ∀ b, b ≠ a → Hx b = none := ⟨fun b => if b = a then some (.frz { cls := .type "list", data := .seq vs.toArray } (.lst (ns.map V.int))) else none, if_pos rfl, fun b hb => if_neg hb⟩
    refine main Hx (fun b => ?_) (.inl (.inr ⟨_, here⟩)) (fun b u z => ?_) (fun b z => ?_) fun _ => hk
    · by_cases hb : b = a
      · subst hb; exact .inr ⟨_, _, here⟩
      · exact .inl (there b hb)
    · by_cases hb : b = a
      · subst hb
        rw [here] at z
        cases z
        exact ⟨oa, by rw [List.length_map]; exact la2, vs, _, rel, oa⟩
      · rw [there b hb] at z; cases z
    · by_cases hb : b = a
      · exact hb
      · exact absurd (there b hb) z
/-- the goal that the head leaves -/
theorem walk_g {l : PySem.W.OpenLaw} {k : Nat} {q : Program} {loose : List Str} {XP : (Str → Option Value) → Heap → Prop} {YP : World → Heap → Prop} {d : DefRec} {K : Params → PySem.W.Frag} {x : Str}
    (hn : l.most = some 63) (hdf : d.params.defaults = []) (hr : Room k callerA) (hY : ∀ (w : World) (h : Heap), YP w h → (K w.params).In h)
    (F : ∀ (w : World) (mg : Str → Option Value) (fa : Addr) (h : Heap), (K w.params).In h → h.Ns mainGlobals mg → mg d.name = some (.ref fa) →
      ∃ fd : FuncData, (∀ (s : Shared) (u : Value), BindsTo s fd ⟨[u], []⟩ [(x, u)]) ∧ ∀ base : Heap, (K w.params).In base → base.Ns mainGlobals mg → FnG l.prog w (K w.params) mg base k fa fd [x] p_law) :
    PySem.W.WalkO q loose XP YP l.row.toRowW d [] (fun f vs => PySem.call f vs) := by
  refine Att.attach_call hn hdf fun w s0 s1 mg mb fa o pm cd doc a vs ns G Y ho hd hcd hmg hobj hints hlen hg => ?_
  have inK := hY w _ Y
  obtain ⟨fd, hb, hF⟩ := F w mg fa _ inK G.T.g hmg
  exact law_g inK G.T.g G.T.b G.T.builtins G.T.nolimit hg hobj hints hlen hr hF hb
end DL

set_option Elab.async false
set_option linter.all false
set_option maxRecDepth 100000
set_option maxHeartbeats 4000000
/-! defs of the text with their promises, the law's end -/
namespace DL
open PySem PySem.Spec PyProof.Rows L2
/-- the def x of the text stands behind the top -/
structure Tx (K : PySem.W.Frag) (mg : Str → Option Value) (x : Str) (st : Stmt) : Prop where
  ex : ∃ (f : Addr) (fd : FuncData), Fun K x x st f fd ∧ mg x = some (.ref f)
/-- it keeps its promise -/
structure Df (P : Program) (w : World) (K : PySem.W.Frag) (mg : Str → Option Value) (base : Heap) (k : Nat) (x : Str) (ps : List Str) (p : PT0) : Prop where
  ex : ∃ (f : Addr) (fd : FuncData), FnG P w K mg base k f fd ps p ∧ mg x = some (.ref f) ∧ PySem.W.keepIn K (.ref f) = true ∧ Binds K fd ps [] ∧ ∃ oc od osl, K.lookup f = some ⟨oc, od, .func fd, osl⟩
theorem tx_mk {K : PySem.W.Frag} {mg : Str → Option Value} {x : Str} {st : Stmt} {f : Addr} {oc : Value} {od an : Option Addr} {osl : Array (Option Value)} {kV doc pm cdv ct : Value} (l : K.lookup f = some ⟨oc, od, .func (PySem.W.fnOf x x (defArgs st) (defBody st) (defScope st) .none kV doc pm an cdv ct), osl⟩)
    (c : PySem.W.codeIn K cdv x = true) (k : PySem.W.keepIn K (.ref f) = true) (g : mg x = some (.ref f)) : Tx K mg x st := ⟨f, _, fun_mk l c k, g⟩
section
variable {P : Program} {w : World} {K : PySem.W.Frag} {mg : Str → Option Value} {base : Heap}
theorem df_ok {x : Str} {st : Stmt} {N ps : List Str} {k : Nat} {p : PT0} (T : Tx K mg x st) (S : FnScope N ps (defScope st)) (len : ∀ ds M R, p ds M R → ds.length = ps.length)
    (hb : ∀ (kV doc pm : Value) (an : Option Addr) (cdv ct : Value) (us : List Value), us.length = ps.length → bindArgs (PySem.W.fnOf x x (defArgs st) (defBody st) (defScope st) .none kV doc pm an cdv ct) ⟨us, []⟩ = pure (ps.zip us))
    (body : ∀ (cdv : Value) (A : Around) (ou : List Env) (s : Shared) (H : Hp) {f : Addr}, Room k (A.deeper (envOfC x (defScope st) s.heap.objs.size f cdv)) → (A.deeper (envOfC x (defScope st) s.heap.objs.size f cdv)).guards = some [] →
      ∃ t, PSs (cxOf CX0 P w K mg base N x (defScope st) f cdv A ou s H E0).nox (defBody st) t ∧ ∀ ds M R, p ds M R → DS K t (ds.map some ++ List.replicate (N.length - ds.length) none) M { nx := fun _ M' => R .non M', rt := R }) :
    Df P w K mg base (k + 1) x ps p := by
  obtain ⟨f, fd, Fu, g⟩ := T.ex
  have b := Fu.binds (ps := ps) hb
  have kp := Fu.kp
  have G := g_of (P := P) (w := w) (mg := mg) (base := base) (k := k) (p := p) Fu S len fun cdv A ou s H hr gd => body cdv A ou s H hr gd
  obtain ⟨oc, od, kV, doc, pm, an, cdv, ct, osl, rfl, lk, _⟩ := Fu.ex
  exact ⟨f, _, G, g, kp, b, oc, od, osl, lk⟩
end
section
variable {X : Cx} {K : PySem.W.Frag} {P : Program} {w : World} {mg : Str → Option Value} {base : Heap} {k : Nat} {x : Str} {ps : List Str} {p : PT0} {e a b l : Expr} {es : List Expr} {t : TA} {ta tb tl : TE} {pp pos : Pos}
/-- the context is one over these -/
structure Is (X : Cx) (P : Program) (w : World) (K : PySem.W.Frag) (mg : Str → Option Value) (base : Heap) : Prop where
  p : X.prog = P
  w : X.w = w
  k : X.K = K
  m : X.mg = mg
  b : X.base = base
theorem pe_callD (h : Df P w K mg base k x ps p) (hr : Room k X.A) (gd : X.A.guards = some []) (hg : Gl X x) (ha : PA X (e :: es) t) (hX : Is X P w K mg base := by exact ⟨rfl, rfl, rfl, rfl, rfl⟩) (hd : (x == ("__debug__" : Str)) = false := by decide) (hpl : (backTo pos (starEach es X.env)).any (·.1) = false := by rfl)
    (hne : starEach (e :: es) X.env = (false, eval e X.env) :: starEach es X.env := by rfl) : PE X (.Call (.Name x pp) (e :: es) [] pos) (tCall (spD K p) [] E0 t) := by
  obtain ⟨rfl, rfl, rfl, rfl, rfl⟩ := hX
  obtain ⟨f, fd, G, g, kp, b, _⟩ := h.ex
  refine ⟨fun pins s σ H Q I z => wpAny_Call_Name_kw (ld_glob I hg g ?_ hd)⟩
  refine PySem.W.callWith_K (h₀ := X.base) I.ok.mod.kin kp (wpAny_mono (ha.run pos pins s σ H _ I z) (fun us s1 hs => ?_) fun _ _ hs => hs) hne hpl
  obtain ⟨vs, H1, I1, r, q⟩ := hs
  rw [List.append_nil] at q
  exact ⟨I1.kIn, run_g G hr gd b I1 r q⟩
theorem pe_callD0 (h : Df P w K mg base k x ps p) (hr : Room k X.A) (gd : X.A.guards = some []) (hg : Gl X x) (hX : Is X P w K mg base := by exact ⟨rfl, rfl, rfl, rfl, rfl⟩) (hd : (x == ("__debug__" : Str)) = false := by decide) : PE X (.Call (.Name x pp) [] [] pos) (tCall (spD K p) [] E0 tNil) := by
  obtain ⟨rfl, rfl, rfl, rfl, rfl⟩ := hX
  obtain ⟨f, fd, G, g, kp, b, _⟩ := h.ex
  exact ⟨fun pins s σ H Q I z => wpAny_Call_Name_kw (ld_glob I hg g (PySem.W.callWith_K0 I.kIn kp (run_g (us := []) G hr gd b I .nil z)) hd)⟩
/-! rules that name the written part, with its name given -/
theorem op_addK (K : PySem.W.Frag) (h : X.K = K := by rfl) : OpR X (binaryOp .Add) (rAddA K) := by subst h; exact op_addA
theorem op_eqK (K : PySem.W.Frag) (hu : X.A.units + 64 < cLine) (h : X.K = K := by rfl) : OpR X (compareOp .Eq) (rEqD K) := by subst h; exact op_eqD hu
theorem op_neK (K : PySem.W.Frag) (hu : X.A.units + 64 < cLine) (h : X.K = K := by rfl) : OpR X (compareOp .NotEq) (rNeD K) := by subst h; exact op_neD hu
theorem op_inK (K : PySem.W.Frag) (h : X.K = K := by rfl) : OpR X (compareOp .In) (rIn K false) := by subst h; exact op_in_seq
theorem op_ninK (K : PySem.W.Frag) (h : X.K = K := by rfl) : OpR X (compareOp .NotIn) (rIn K true) := by subst h; exact op_notIn_seq
theorem ix_K (K : PySem.W.Frag) (h : X.K = K := by rfl) : IxR X (rIx K) := by subst h; exact ix_seq
theorem call_lenK (K : PySem.W.Frag) (h : X.K = K := by rfl) : CallR X (.builtin "len") (fun xs H Q => ∃ x n, xs = [x] ∧ LenV K x H n ∧ Q (.int n) H) := by subst h; exact call_len
theorem call_isiKK (K : PySem.W.Frag) (h : X.K = K := by rfl) : CallR X (.builtin "isinstance") (rIsi K) := by subst h; exact call_isi
theorem call_allK (K : PySem.W.Frag) (hc : X.calm = true := by rfl) (h : X.K = K := by rfl) : CallR X (.builtin "all") (rAll K) := by subst h; exact cr_all hc
theorem call_anyK (K : PySem.W.Frag) (hc : X.calm = true := by rfl) (h : X.K = K := by rfl) : CallR X (.builtin "any") (rAny K) := by subst h; exact cr_any hc
theorem pi_listK (K : PySem.W.Frag) {tg : Expr} (hl : PE X l tl) (h : X.K = K := by rfl) : PI X tg l (iList K tl) := by subst h; exact pi_list hl
theorem pi_tupK (K : PySem.W.Frag) {tg : Expr} (hl : PE X l tl) (h : X.K = K := by rfl) : PI X tg l (iTup K tl) := by subst h; exact pi_tup hl
theorem pg_tupK (K : PySem.W.Frag) {gs : List Expr} {n : Nat} {kk : Nat} {tt : TGs} (hc : X.calm = true) (hs : PGs X gs tt) (hn : (assignEach gs X.env).length = n := by rfl) (hst : (assignEach gs X.env).findIdx? (·.1) = none := by rfl) (h : X.K = K := by rfl) : PG X (.Tuple gs kk pos) (gTup K n tt) := by subst h; exact pg_tup hc hs hn hst
theorem pt_truK (K : PySem.W.Frag) (ha : PE X a ta) (he : ∀ whole, isTrue a X.env whole = (do let v ← whole; standAt a.pos; holding [v] (truthy v))) (h : X.K = K := by rfl) : PT X a (tTru K ta) := by subst h; exact pt_tru ha he
theorem pe_joinK (K : PySem.W.Frag) {apos : Pos} (ho : PE X a ta) (he : PE X b tb) (hs : starEach [b] X.env = [(false, eval b X.env)] := by rfl) (hbase : attributeBase a "join" X.env (eval a X.env) = eval a X.env := by rfl) (hline : (apos.endLine == pos.line) = true := by rfl) (h : X.K = K := by rfl) :
    PE X (.Call (.Attribute a "join" apos) [b] [] pos) (tM1 (fun x xs H Q => ∃ a p, ∃ ys : List Str, x = .str a ∧ xs = [.ref p] ∧ (SqL K H p (ys.map V.str) ∨ SqT K H p (ys.map V.str)) ∧
      (ys.map (·.length)).sum + ys.length * a.length ≤ 16777216 ∧ Q (.str (Txt.join a ys)) H) ta tb) := by subst h; exact pe_join ho he hs hbase hline
end
/-- a constant of the module -/
def GlK (mg : Str → Option Value) (x : Str) (v : V) : Prop := ∃ u, mg x = some u ∧ RelV v u
theorem pe_globK {X : Cx} {mg : Str → Option Value} {x : Str} {v : V} {pos : Pos} (h : GlK mg x v) (hg : Gl X x) (hm : X.mg = mg := by rfl) (hd : (x == ("__debug__" : Str)) = false := by decide) : PE X (.Name x pos) (tC v) := by
  subst hm
  obtain ⟨u, h1, h2⟩ := h
  exact pe_glob hg h1 h2 hd
theorem law_fn {P : Program} {w : World} {K : PySem.W.Frag} {mg : Str → Option Value} {base : Heap} {k : Nat} {x : Str} {ps : List Str} {p : PT0} {f : Addr} {fd : FuncData} {oc : Value} {od : Option Addr} {osl : Array (Option Value)} (h : Df P w K mg base k x ps p) (g : mg x = some (.ref f))
    (l : K.lookup f = some ⟨oc, od, .func fd, osl⟩) : FnG P w K mg base k f fd ps p := by
  obtain ⟨f', fd', G, g', _, _, oc', od', osl', l'⟩ := h.ex
  rw [g] at g'
  cases g'
  rw [l] at l'
  cases l'
  exact G
theorem sz_and {n : Nat} {P : Prop} (h : n ≤ 1000000) (q : P) : n ≤ sizeLine ∧ P := ⟨by rw [sizeLine_eq]; omega, q⟩
theorem ex_str {a : Str} {P : Str → Prop} (h : P a) : ∃ x, D.str a = .str x ∧ P x := ⟨a, rfl, h⟩
theorem ex_lst {a : List D} {P : List D → Prop} (h : P a) : ∃ x, D.lst a = .lst x ∧ P x := ⟨a, rfl, h⟩
theorem ex_tup {a : List D} {P : List D → Prop} (h : P a) : ∃ x, D.tup a = .tup x ∧ P x := ⟨a, rfl, h⟩
theorem ex_int {a : Int} {P : Int → Prop} (h : P a) : ∃ x, D.int a = .int x ∧ P x := ⟨a, rfl, h⟩
theorem ex_i1 {a : Int} {P : Int → Prop} (h : P a) : ∃ x, [D.int a] = [.int x] ∧ P x := ⟨a, rfl, h⟩
theorem ex_i2 {a b : Int} {P : Int → Int → Prop} (h : P a b) : ∃ x y, [D.int a, D.int b] = [.int x, .int y] ∧ P x y := ⟨a, b, rfl, h⟩
theorem ex_p2 {a b : D} {P : D → D → Prop} (h : P a b) : ∃ x y, [a, b] = [x, y] ∧ P x y := ⟨a, b, rfl, h⟩
theorem ex_s0 {a : Str} : ∃ x, D.str a = .str x := ⟨a, rfl⟩
theorem tru_bl {b : Bool} {P : Bool → Prop} (h : P b) : ∃ k, truD (.bl b) = some k ∧ (∀ x, D.bl b = .str x → x.length ≤ sizeLine) ∧ P k := ⟨b, rfl, (fun _ e => nomatch e), h⟩
theorem tru_int {b : Int} {P : Bool → Prop} (h : P (b != 0)) : ∃ k, truD (.int b) = some k ∧ (∀ x, D.int b = .str x → x.length ≤ sizeLine) ∧ P k := ⟨_, rfl, (fun _ e => nomatch e), h⟩
theorem tru_non {P : Bool → Prop} (h : P false) : ∃ k, truD .non = some k ∧ (∀ x, D.non = .str x → x.length ≤ sizeLine) ∧ P k := ⟨_, rfl, (fun _ e => nomatch e), h⟩
theorem tru_lst {b : List D} {P : Bool → Prop} (h : P (!b.isEmpty)) : ∃ k, truD (.lst b) = some k ∧ (∀ x, D.lst b = .str x → x.length ≤ sizeLine) ∧ P k := ⟨_, rfl, (fun _ e => nomatch e), h⟩
theorem tru_tup {b : List D} {P : Bool → Prop} (h : P (!b.isEmpty)) : ∃ k, truD (.tup b) = some k ∧ (∀ x, D.tup b = .str x → x.length ≤ sizeLine) ∧ P k := ⟨_, rfl, (fun _ e => nomatch e), h⟩
theorem dg_ex {K : PySem.W.Frag} {js : List Nat} {g : TG} {d : D} {δ : En} {M : Mem} {G : En → Mem → Prop} (h : DG K js g d δ M G) : ∃ js, DG K js g d δ M G := ⟨js, h⟩
theorem atI_in {α : Type} {l : List α} {i : Int} (a : 0 ≤ i) (b : i < (l.length : Int)) : ∃ x, atI l i = some x ∧ x ∈ l := by
  obtain ⟨j, rfl⟩ := Int.eq_ofNat_of_zero_le a
  have hl : j < l.length := by omega
  exact ⟨l[j], atI_nat (List.getElem?_eq_getElem hl), List.getElem_mem hl⟩
/-! ### steps -/
section
variable {K : PySem.W.Frag} {δ : En} {M : Mem} {Q : D → Mem → Prop} {d e : D}
theorem de_varE {i : Nat} (h : ∃ d, δ[i]? = some (some d) ∧ Q d M) : DE K (tVar i) δ M Q := let ⟨_, a, b⟩ := h; de_var a b
theorem dr_IE {C : Int → Int → Prop} {f : Int → Int → Int} {i j : Int} (h : C i j ∧ Q (.int (f i j)) M) : DR K (rI C fun i j => .int (f i j)) (.int i) (.int j) M Q := dr_I h.1 h.2
theorem dr_ixDE0 {p : Addr} (h : M p = some .die ∧ ∀ i : Int, Q (.int i) M) : DR K (rIx K) (.raw (.ref p)) (.int 0) M Q := dr_ixD0 h.1 h.2
theorem dr_ixDE1 {p : Addr} (h : M p = some .die ∧ ∀ i : Int, Q (.int i) M) : DR K (rIx K) (.raw (.ref p)) (.int 1) M Q := dr_ixD1 h.1 h.2
theorem dr_ixDE2 {p : Addr} (h : M p = some .die ∧ ∀ i : Int, Q (.int i) M) : DR K (rIx K) (.raw (.ref p)) (.int 2) M Q := dr_ixD2 h.1 h.2
theorem dc_lenE (h : ∃ n : Nat, lenD d = some n ∧ (∀ x, d = .str x → x.length ≤ sizeLine) ∧ Q (.int (n : Int)) M) : DC K (fun xs H Q => ∃ x n, xs = [x] ∧ LenV K x H n ∧ Q (.int n) H) [d] M Q := let ⟨_, a, b, c⟩ := h; dc_len a b c
theorem dc_len_lst {xs : List D} (h : Q (.int (xs.length : Int)) M) : DC K (fun xs H Q => ∃ x n, xs = [x] ∧ LenV K x H n ∧ Q (.int n) H) [.lst xs] M Q := dc_len (n := xs.length) rfl (fun _ e => nomatch e) h
theorem dc_len_tup {xs : List D} (h : Q (.int (xs.length : Int)) M) : DC K (fun xs H Q => ∃ x n, xs = [x] ∧ LenV K x H n ∧ Q (.int n) H) [.tup xs] M Q := dc_len (n := xs.length) rfl (fun _ e => nomatch e) h
theorem dc_len_str {x : Str} (h : x.length ≤ sizeLine ∧ Q (.int (x.length : Int)) M) : DC K (fun xs H Q => ∃ x n, xs = [x] ∧ LenV K x H n ∧ Q (.int n) H) [.str x] M Q := dc_len (n := x.length) rfl (fun _ e => by cases e; exact h.1) h.2
theorem dr_ixLE {xs : List D} {i : Int} (h : ∃ d, atI xs i = some d ∧ Q d M) : DR K (rIx K) (.lst xs) (.int i) M Q := let ⟨_, a, b⟩ := h; dr_ixL a b
theorem dr_ixTE {xs : List D} {i : Int} (h : ∃ d, atI xs i = some d ∧ Q d M) : DR K (rIx K) (.tup xs) (.int i) M Q := let ⟨_, a, b⟩ := h; dr_ixT a b
theorem dr_ixSE {x : Str} {i : Int} (h : ∃ c, x.length ≤ sizeLine ∧ atI x.cps.toList i = some c ∧ Q (.str ⟨#[c]⟩) M) : DR K (rIx K) (.str x) (.int i) M Q := let ⟨_, a, b, c⟩ := h; dr_ixS a b c
theorem dr_addSE {i j : Str} (h : i.length + j.length ≤ sizeLine ∧ Q (.str (i ++ j)) M) : DR K (rAddA K) (.str i) (.str j) M Q := dr_addS h.1 h.2
theorem dr_addLE {xs ys : List D} (h : xs.length + ys.length ≤ sizeLine ∧ Q (.lst (xs ++ ys)) M) : DR K (rAddA K) (.lst xs) (.lst ys) M Q := dr_addL h.1 h.2
theorem dr_eqDE (h : ∃ x y, toPy d = some x ∧ toPy e = some y ∧ SeqAt.shaped x = true ∧ SeqAt.shaped y = true ∧ Q (.bl (PyData.eqv x y)) M) : DR K (rEqD K) d e M Q := let ⟨_, _, a, b, c, f, g⟩ := h; dr_eqD a b c f g
theorem dr_neDE (h : ∃ x y, toPy d = some x ∧ toPy e = some y ∧ SeqAt.shaped x = true ∧ SeqAt.shaped y = true ∧ Q (.bl (!PyData.eqv x y)) M) : DR K (rNeD K) d e M Q := let ⟨_, _, a, b, c, f, g⟩ := h; dr_neD a b c f g
theorem dc_isiE {U : String} (h : ∃ T b, tyD d = some T ∧ kitB T U = some b ∧ Q (.bl b) M) : DC K (rIsi K) [d, .raw (.ty U)] M Q := let ⟨_, _, a, b, c⟩ := h; dc_isi a b c
theorem dc_allE {d : D} (h : ∃ bs : List Bool, d = .lst (bs.map D.bl) ∧ Q (.bl (bs.all id)) M) : DC K (rAll K) [d] M Q := let ⟨_, a, b⟩ := h; dc_all a b
end
theorem ite_b {b : Bool} {A B : Prop} (h1 : b = true → A) (h2 : b = false → B) : if b = true then A else B := by
  cases b with
  | true => rw [if_pos rfl]; exact h1 rfl
  | false => rw [if_neg Bool.false_ne_true]; exact h2 rfl
theorem ite_d {p : Prop} [Decidable p] {A B : Prop} (h1 : p → A) (h2 : ¬ p → B) : if decide p = true then A else B := ite_b (fun h => h1 (of_decide_eq_true h)) fun h => h2 (of_decide_eq_false h)
theorem ite_dn {p : Prop} [Decidable p] {A B : Prop} (h1 : ¬ p → A) (h2 : p → B) : if (!decide p) = true then A else B := ite_b (fun h => h1 (of_decide_eq_false (by simpa using h))) fun h => h2 (of_decide_eq_true (by simpa using h))
theorem ite_nn {b : Bool} {A B : Prop} (h : if b = true then B else A) : if (!b) = true then A else B := by cases b <;> exact h
theorem ite_1 {A B : Prop} (h : A) : if true = true then A else B := by rw [if_pos rfl]; exact h
theorem ite_0 {A B : Prop} (h : B) : if false = true then A else B := by rw [if_neg Bool.false_ne_true]; exact h
end DL

set_option Elab.async false
set_option linter.all false
set_option maxRecDepth 100000
set_option maxHeartbeats 4000000
/-! comprehensions and loops in the usual forms -/
namespace DL
open PySem PySem.Spec PyProof.Rows L2
section
variable {K : PySem.W.Frag} {δ : En} {M : Mem} {Q : D → Mem → Prop} {te : TE} {tt : TT} {wi : TI} {vs : List Nat} {j : Nat} {t : TS} {q : DK}
theorem take_snoc {α : Type} {l : List α} {i : Nat} {x : α} (h : l[i]? = some x) : l.take (i + 1) = l.take i ++ [x] := by
  rw [List.take_add_one, h]
  rfl
theorem take_lt {α : Type} {l : List α} {i : Nat} {x : α} (h : l[i]? = some x) : i < l.length := (List.getElem?_eq_some_iff.mp h).1
theorem mem_of_get {α : Type} {l : List α} {i : Nat} {x : α} (h : l[i]? = some x) : x ∈ l := List.mem_of_getElem? h
/-- [e for x in xs], e a function of x -/
theorem de_map (hj : j ∈ vs) (h : DI K wi δ M fun ds M1 => ds.length < sizeLine ∧ ∃ f : D → D, (∀ d, d ∈ ds → DE K te ((wipeD δ vs).set j (some d)) M1 fun e M4 => M4 = M1 ∧ e = f d) ∧ Q (.lst (ds.map f)) M1) : DE K (tLc wi (gName j) tYes te vs) δ M Q := by
  refine de_lc (js := [j]) (fun i hi => by rw [List.mem_singleton] at hi; rw [hi]; exact hj) ?_
  intro F σ H en m R k
  refine h F σ H en m R fun ds M1 J H1 z => k ds M1 J H1 ?_
  obtain ⟨hz, f, hf, q⟩ := z
  refine ⟨fun i acc => acc = (ds.take i).map f, rfl, fun i d acc hd hacc => dg_name ⟨rfl, dt_yes ⟨rfl, ?_⟩⟩, fun acc hacc => ?_⟩
  · rw [if_pos rfl]
    refine (hf d (mem_of_get hd)).imp fun e M4 he => ⟨he.1, ?_, ?_⟩
    · have := take_lt hd
      rw [hacc, List.length_map, List.length_take]; omega
    · dsimp only at hacc ⊢
      rw [hacc, he.2, take_snoc hd, List.map_append]; rfl
  · dsimp only at hacc
    rw [hacc, List.take_length]; exact q
/-- .. one of several values -/
theorem de_rel (hj : j ∈ vs) (h : DI K wi δ M fun ds M1 => ds.length < sizeLine ∧ ∃ r : D → D → Prop, (∀ d, d ∈ ds → DE K te ((wipeD δ vs).set j (some d)) M1 fun e M4 => M4 = M1 ∧ r d e) ∧ ∀ es, Paired r ds es → Q (.lst es) M1) : DE K (tLc wi (gName j) tYes te vs) δ M Q := by
  refine de_lc (js := [j]) (fun i hi => by rw [List.mem_singleton] at hi; rw [hi]; exact hj) ?_
  intro F σ H en m R k
  refine h F σ H en m R fun ds M1 J H1 z => k ds M1 J H1 ?_
  obtain ⟨hz, r, hf, q⟩ := z
  refine ⟨fun i acc => Paired r (ds.take i) acc, .nil, fun i d acc hd hacc => dg_name ⟨rfl, dt_yes ⟨rfl, ?_⟩⟩, fun acc hacc => ?_⟩
  · rw [if_pos rfl]
    refine (hf d (mem_of_get hd)).imp fun e M4 he => ⟨he.1, ?_, ?_⟩
    · have := take_lt hd
      have := Paired.length hacc
      rw [List.length_take] at this; omega
    · dsimp only at hacc ⊢
      rw [take_snoc hd]
      exact pair_snoc hacc he.2
  · dsimp only at hacc
    rw [List.take_length] at hacc; exact q acc hacc
where
  pair_snoc {α β : Type} {r : α → β → Prop} : ∀ {xs : List α} {ys : List β} {x : α} {y : β}, Paired r xs ys → r x y → Paired r (xs ++ [x]) (ys ++ [y])
    | _, _, _, _, .nil, h => .cons h .nil
    | _, _, _, _, .cons a b, h => .cons a (pair_snoc b h)
/-- [e for x in xs if c] -/
theorem de_filt (hj : j ∈ vs) (h : DI K wi δ M fun ds M1 => ds.length < sizeLine ∧ ∃ (c : D → Bool) (f : D → D), (∀ d, d ∈ ds → DT K tt ((wipeD δ vs).set j (some d)) M1 fun b M3 => M3 = M1 ∧ b = c d) ∧ (∀ d, d ∈ ds → c d = true → DE K te ((wipeD δ vs).set j (some d)) M1 fun e M4 => M4 = M1 ∧ e = f d) ∧ Q (.lst ((ds.filter c).map f)) M1) : DE K (tLc wi (gName j) tt te vs) δ M Q := by
  refine de_lc (js := [j]) (fun i hi => by rw [List.mem_singleton] at hi; rw [hi]; exact hj) ?_
  intro F σ H en m R k
  refine h F σ H en m R fun ds M1 J H1 z => k ds M1 J H1 ?_
  obtain ⟨hz, c, f, hc, hf, q⟩ := z
  refine ⟨fun i acc => acc = ((ds.take i).filter c).map f, rfl, fun i d acc hd hacc => dg_name ⟨rfl, (hc d (mem_of_get hd)).imp fun b M3 hb => ⟨hb.1, ?_⟩⟩, fun acc hacc => ?_⟩
  · obtain ⟨_, hb⟩ := hb
    cases b with
    | true =>
      rw [if_pos rfl]
      refine (hf d (mem_of_get hd) hb.symm).imp fun e M4 he => ⟨he.1, ?_, ?_⟩
      · have := take_lt hd
        have h2 := List.length_filter_le c (ds.take i)
        rw [List.length_take] at h2
        rw [hacc, List.length_map]; omega
      · dsimp only at hacc ⊢
        rw [hacc, he.2, take_snoc hd, List.filter_append, List.map_append]
        simp [← hb]
    | false =>
      rw [if_neg Bool.false_ne_true]
      dsimp only at hacc ⊢
      rw [hacc, take_snoc hd, List.filter_append, List.map_append]
      simp [← hb]
  · dsimp only at hacc
    rw [hacc, List.take_length]; exact q
/-- a loop that keeps a word; the slot of its target and all that it stores beside: known no more, unless the word says so -/
theorem ds_forN (h : DI K wi δ M fun ds M1 => ∃ Pv : Nat → En → Mem → Prop, Pv 0 δ M1 ∧ (∀ i d δ' M', ds[i]? = some d → Pv i δ' M' → DS K t (δ'.set j (some d)) M' { q with nx := Pv (i + 1), ct := Pv (i + 1), bk := q.nx }) ∧ ∀ δ' M', Pv ds.length δ' M' → q.nx δ' M') : DS K (tFor wi (gName j) t) δ M q := by
  refine ds_for (js := [j]) ?_
  intro F σ H en m R k
  refine h F σ H en m R fun ds M1 J H1 z => k ds M1 J H1 ?_
  obtain ⟨Pv, p0, pt, pe⟩ := z
  exact ⟨Pv, p0, fun i d δ' M' hd pv => dg_name (pt i d δ' M' hd pv), pe⟩
theorem weakD {G : Hp} {σ : Sg} {δ : En} (r : EnvR K G σ δ) : ∀ js : List Nat, EnvR K G σ (wipeD δ js) := by
  have one : ∀ (δ : En) (j : Nat), EnvR K G σ δ → EnvR K G σ (δ.set j none) := fun δ j r => by
    refine ⟨by rw [List.length_set]; exact r.1, fun i d h => ?_⟩
    by_cases hj : j = i
    · subst hj
      by_cases hl : j < δ.length
      · rw [List.getElem?_set_self hl] at h; cases h
      · rw [List.getElem?_eq_none (by rw [List.length_set]; omega)] at h; cases h
    · rw [List.getElem?_set_ne hj] at h
      exact r.2 i d h
  intro js
  induction js with
  | nil => exact r
  | cons j js ih => exact one _ j ih
/-- slots may be forgotten behind a statement -/
theorem ds_fgt (js : List Nat) (h : DS K t δ M { q with nx := fun δ2 M2 => q.nx (wipeD δ2 js) M2, ct := fun δ2 M2 => q.ct (wipeD δ2 js) M2, bk := fun δ2 M2 => q.bk (wipeD δ2 js) M2 }) : DS K t δ M q := fun F σ H en m E n r b c =>
  h F σ H en m E (fun δ' M' σ' H' z g e => n _ M' σ' H' z g (weakD e js)) r (fun δ' M' σ' H' z g e => b _ M' σ' H' z g (weakD e js)) (fun δ' M' σ' H' z g e => c _ M' σ' H' z g (weakD e js))
/-- .. ahead of one -/
theorem ds_fgt0 (js : List Nat) (h : DS K t (wipeD δ js) M q) : DS K t δ M q := fun F σ H en m E n r b c => h F σ H (weakD en js) m E n r b c
/-- a loop whose turns store in the slots js alone what nobody asks later, and change nothing else -/
theorem ds_for1 (js : List Nat) (h : DI K wi (wipeD δ js) M fun ds M1 => (∀ d, d ∈ ds → DS K t ((wipeD δ js).set j (some d)) M1 { q with nx := fun δ2 M2 => wipeD δ2 js = wipeD δ js ∧ M2 = M1, ct := fun δ2 M2 => wipeD δ2 js = wipeD δ js ∧ M2 = M1, bk := fun δ2 M2 => q.nx (wipeD δ2 js) M2 }) ∧ q.nx (wipeD δ js) M1) : DS K (tFor wi (gName j) t) δ M q := by
  refine ds_fgt0 js (ds_forN ?_)
  intro F σ H en m R k
  refine h F σ H en m R fun ds M1 J H1 z => k ds M1 J H1 ?_
  obtain ⟨ht, he⟩ := z
  refine ⟨fun i δ' M' => δ' = wipeD δ js ∧ M' = M1, ⟨rfl, rfl⟩, fun i d δ' M' hd pv => ?_, fun δ' M' pv => ?_⟩
  · obtain ⟨rfl, rfl⟩ := pv
    exact ds_fgt js ((ht d (mem_of_get hd)).imp (fun _ _ z => z) (fun _ _ z => z) (fun _ _ z => z) (fun _ _ z => z))
  · obtain ⟨rfl, rfl⟩ := pv
    exact he
/-- .. that keep a word about the memory -/
theorem ds_forM (js : List Nat) (W : Mem → Prop) (h : DI K wi (wipeD δ js) M fun ds M1 => W M1 ∧ (∀ d, d ∈ ds → ∀ M2, W M2 → DS K t ((wipeD δ js).set j (some d)) M2 { q with nx := fun δ2 M3 => wipeD δ2 js = wipeD δ js ∧ W M3, ct := fun δ2 M3 => wipeD δ2 js = wipeD δ js ∧ W M3, bk := fun δ2 M3 => q.nx (wipeD δ2 js) M3 }) ∧ ∀ M2, W M2 → q.nx (wipeD δ js) M2) : DS K (tFor wi (gName j) t) δ M q := by
  refine ds_fgt0 js (ds_forN ?_)
  intro F σ H en m R k
  refine h F σ H en m R fun ds M1 J H1 z => k ds M1 J H1 ?_
  obtain ⟨w0, ht, he⟩ := z
  refine ⟨fun i δ' M' => δ' = wipeD δ js ∧ W M', ⟨rfl, w0⟩, fun i d δ' M' hd pv => ?_, fun δ' M' pv => ?_⟩
  · obtain ⟨rfl, w⟩ := pv
    exact ds_fgt js ((ht d (mem_of_get hd) M' w).imp (fun _ _ z => z) (fun _ _ z => z) (fun _ _ z => z) (fun _ _ z => z))
  · obtain ⟨rfl, w⟩ := pv
    exact he M' w
end
end DL

set_option Elab.async false
set_option linter.all false
set_option maxRecDepth 100000
set_option maxHeartbeats 4000000
/-! objects by data: attributes, methods, properties, new ones, own containment -/
namespace DL
open PySem PySem.Spec PyProof.Rows L2
section
variable {K : PySem.W.Frag} {G : Hp}
theorem RepS.look : ∀ {xs : List (Str × V)} {ds : List (Str × D)} {f : Str} {d : D}, RepS K G xs ds → ds.lookup f = some d → ∃ v, xs.lookup f = some v ∧ Rep K G v d
  | _, _, _, _, .nil, h => by cases h
  | _, _, f, _, .cons (k := k) a b, h => by
    by_cases e : (f == k) = true
    · simp only [List.lookup, e] at h ⊢
      cases h
      exact ⟨_, rfl, a⟩
    · have e : (f == k) = false := by simpa using e
      simp only [List.lookup, e] at h ⊢
      exact RepS.look b h
theorem RepS.none : ∀ {xs : List (Str × V)} {ds : List (Str × D)} {f : Str}, RepS K G xs ds → ds.lookup f = Option.none → xs.lookup f = Option.none
  | _, _, _, .nil, _ => rfl
  | _, _, f, .cons (k := k) a b, h => by
    by_cases e : (f == k) = true
    · simp only [List.lookup, e] at h; cases h
    · have e : (f == k) = false := by simpa using e
      simp only [List.lookup, e] at h ⊢
      exact RepS.none b h
theorem RepS.length : ∀ {xs : List (Str × V)} {ds : List (Str × D)}, RepS K G xs ds → xs.length = ds.length
  | _, _, .nil => rfl
  | _, _, .cons _ b => congrArg (· + 1) (RepS.length b)
def putD (f : Str) (v : D) : List (Str × D) → List (Str × D)
  | [] => [(f, v)]
  | (k, x) :: r => if k = f then (k, v) :: r else (k, x) :: putD f v r
theorem RepS.put {f : Str} {v : V} {d : D} (h : Rep K G v d) : ∀ {xs : List (Str × V)} {ds : List (Str × D)}, RepS K G xs ds → RepS K G (putF f v xs) (putD f d ds)
  | _, _, .nil => .cons h .nil
  | _, _, .cons (k := k) (v := y) (vs := ys) a b => by
    show RepS K G (if k = f then (k, v) :: ys else (k, y) :: putF f v ys) (if k = f then _ else _)
    by_cases e : k = f
    · rw [if_pos e, if_pos e]; exact .cons h b
    · rw [if_neg e, if_neg e]; exact .cons a (RepS.put h b)
end
section
variable {K : PySem.W.Frag} {δ : En} {M : Mem} {Q : D → Mem → Prop} {te ta tv : TE} {tr : TA} {q : DK} {C : Addr} {f m : Str} {d : D}
/-- d has the attribute f -/
def FldOf (K : PySem.W.Frag) (f : Str) (d : D) (M : Mem) (Q : D → Mem → Prop) : Prop := ∃ (C : Addr) (fs : List (Str × D)) (v : D), (d = .obj C fs ∨ ∃ p, d = .raw (.ref p) ∧ M p = some (.ins C fs)) ∧ Cls K C ∧ NoAttr K C f ∧ fs.lookup f = some v ∧ Q v M
theorem fld_obj {fs : List (Str × D)} {v : D} (c : Cls K C) (n : NoAttr K C f) (h : fs.lookup f = some v) (q : Q v M) : FldOf K f (.obj C fs) M Q := ⟨C, fs, v, .inl rfl, c, n, h, q⟩
theorem fld_mut {p : Addr} {fs : List (Str × D)} {v : D} (hp : M p = some (.ins C fs)) (c : Cls K C) (n : NoAttr K C f) (h : fs.lookup f = some v) (q : Q v M) : FldOf K f (.raw (.ref p)) M Q := ⟨C, fs, v, .inr ⟨p, rfl, hp⟩, c, n, h, q⟩
theorem de_fld (h : DE K te δ M fun d M1 => FldOf K f d M1 Q) : DE K (tFld K te f) δ M Q := fun F σ H en m QV k => by
  refine h F σ H en m _ fun d M1 v H1 z g1 r1 => ?_
  obtain ⟨C, fs, u, ho, c, n, hl, z⟩ := z
  rcases ho with rfl | ⟨p, rfl, hp⟩
  · cases r1 with
    | obj e r =>
      obtain ⟨w, hw, rw'⟩ := r.look hl
      exact ⟨_, C, _, _, w, rfl, vis_le _ _ e, c, n, hw, k u M1 w H1 z g1 rw'⟩
  · cases r1
    obtain ⟨ho, e, ro⟩ := g1.ok.mo p _ hp
    cases ro with
    | ins ro =>
      obtain ⟨w, hw, rw'⟩ := ro.look hl
      exact ⟨p, C, _, _, w, rfl, e, c, n, hw, k u M1 w H1 z g1 rw'⟩
theorem ds_fld (h : DE K tv δ M fun d M1 => DE K ta δ M1 fun o M2 => ∃ p C fs, o = .raw (.ref p) ∧ M2 p = some (.ins C fs) ∧ Cls K C ∧ NoAttr K C f ∧ fs.length < 1000 ∧ q.nx δ (mup M2 p (.ins C (putD f d fs)))) : DS K (sFld K ta tv f) δ M q := fun F σ H en m E n r b c => by
  refine h F σ H en m _ fun d M1 v H1 z g1 r1 => ?_
  refine z F σ H1 (en.mono g1.ex) g1.ok _ fun o M2 w H2 z2 g2 r2 => ?_
  obtain ⟨p, C, fs, rfl, hp, hc, hn, hl, z2⟩ := z2
  cases r2
  obtain ⟨ho, e, ro⟩ := g2.ok.mo p _ hp
  cases ro with
  | @ins _ dx xs _ ro =>
    refine ⟨p, C, dx, xs, rfl, e, hc, hn, by rw [ro.length]; exact hl, ?_⟩
    have g3 := go_mut (m := .ins C (putD f d fs)) g2.ok hp (.ins (dx := dx) (ro.put (r1.mono g2.ex)))
    exact n δ _ σ _ z2 ((g1.trans g2).trans g3) (((en.mono g1.ex).mono g2.ex).mono g3.ex)
theorem de_meth {p : PT0} {E : XK} (h : DE K te δ M fun d M1 => ∃ fs, d = .obj C fs ∧ fs.lookup m = none ∧ DA K tr δ M1 fun ds M2 => p (d :: ds) M2 Q) : DE K (tMeth C m (spD K p) [] E te tr) δ M Q := fun F σ H en mm QV k => by
  refine h F σ H en mm _ fun d M1 v H1 z g1 r1 => ?_
  obtain ⟨fs, rfl, hl, z⟩ := z
  cases r1 with
  | @obj a _ dx xs _ e r =>
    refine ⟨a, dx, xs, rfl, vis_le _ _ e, r.none hl, z F σ H1 (en.mono g1.ex) g1.ok _ fun ds M2 vs H2 z2 g2 r2 => ?_⟩
    rw [List.append_nil]
    exact ⟨F, M2, .obj C fs :: ds, Q, .cons (.obj (g2.ex _ _ e) (r.mono g2.ex)) r2, g2.ok, z2, fun d M3 u H3 q3 g3 r3 => k d M3 u H3 q3 ((g1.trans g2).trans g3) r3⟩
theorem de_prop {p : PT0} {E : XK} (h : DE K te δ M fun d M1 => (∃ fs, d = .obj C fs) ∧ p [d] M1 Q) : DE K (tProp C (spD K p) [] E te) δ M Q := fun F σ H en mm QV k => by
  refine h F σ H en mm _ fun d M1 v H1 z g1 r1 => ?_
  obtain ⟨⟨fs, rfl⟩, z⟩ := z
  have r0 := r1
  cases r1 with
  | @obj a _ dx xs _ e r =>
    exact ⟨a, dx, xs, rfl, vis_le _ _ e, F, M1, [.obj C fs], Q, .cons r0 .nil, g1.ok, z, fun d M3 u H3 q3 g3 r3 => k d M3 u H3 q3 (g1.trans g3) r3⟩
/-- a new object: behind __init__ it is data -/
theorem de_make {p : PT0} {E : XK} (h : DA K tr δ M fun ds M1 => ∀ x, M1 x = none → p (.raw (.ref x) :: ds) (mup M1 x (.ins C [])) fun d M2 => ∃ fs, d = .non ∧ M2 = mup M1 x (.ins C fs) ∧ Q (.obj C fs) M1) : DE K (tMake C (spD K p) [] E tr) δ M Q := fun F σ H en m QV k => by
  refine h F σ H en m _ fun ds M1 vs H1 z g1 r1 x dx hx hdx hne => ?_
  rw [List.append_nil]
  obtain ⟨g2, _⟩ := go_new (o := .own x) g1.ok hdx
  have hx2 : upd H1 dx (.own x) x = none := by rw [upd_ne hne.symm]; exact hx
  have g3 := go_newM (o := .ins C dx []) (m := .ins C []) g2.ok hx2 (.ins .nil)
  have g := (g1.trans g2).trans g3
  have mx := (g1.ok.new hx).2
  refine ⟨F, mup M1 x (.ins C []), .raw (.ref x) :: ds, _, .cons (.raw _) ((r1.mono g2.ex).mono g3.ex), g3.ok, z x mx, fun d M2 u H2 hq g4 r4 => ?_⟩
  obtain ⟨fs, rfl, rfl, q⟩ := hq
  cases r4
  refine ⟨rfl, ?_⟩
  obtain ⟨g5, f5⟩ := go_frz g4.ok (mup_same (M := M1) (a := x) (o := .ins C fs))
  have em : mdel (mup M1 x (.ins C fs)) x = M1 := mdel_mup mx
  rw [em] at g5
  refine k _ M1 _ H2 q ((g.trans g4).trans g5) ?_
  obtain ⟨ho, e, ro⟩ := g4.ok.mo x _ (mup_same (M := M1) (a := x) (o := .ins C fs))
  cases ro with
  | ins ro => exact .obj (vis_mk e f5 mx) (ro.mono g5.ex)
end

/-! ### facts of a class, its methods -/
/-- the class x stands at C -/
structure Kc (K : PySem.W.Frag) (mg : Str → Option Value) (x : Str) (C : Addr) : Prop where
  g : mg x = some (.ref C)
  c : Cls K C
structure MTx (K : PySem.W.Frag) (C : Addr) (m qual : Str) (st : Stmt) : Prop where
  ex : ∃ (f : Addr) (fd : FuncData), Fun K m qual st f fd ∧ Meth K C m f
/-- a property's getter -/
structure PTx (K : PySem.W.Frag) (C : Addr) (m qual : Str) (st : Stmt) : Prop where
  ex : ∃ (f p : Addr) (fd : FuncData), Fun K m qual st f fd ∧ PropOf K C m p f
structure Dm (P : Program) (w : World) (K : PySem.W.Frag) (mg : Str → Option Value) (base : Heap) (k : Nat) (C : Addr) (m : Str) (ps : List Str) (p : PT0) : Prop where
  ex : ∃ (f : Addr) (fd : FuncData), FnG P w K mg base k f fd ps p ∧ Meth K C m f ∧ Binds K fd ps []
structure Dpr (P : Program) (w : World) (K : PySem.W.Frag) (mg : Str → Option Value) (base : Heap) (k : Nat) (C : Addr) (m : Str) (ps : List Str) (p : PT0) : Prop where
  ex : ∃ (f pr : Addr) (fd : FuncData), FnG P w K mg base k f fd ps p ∧ PropOf K C m pr f ∧ Binds K fd ps []
section
variable {P : Program} {w : World} {K : PySem.W.Frag} {mg : Str → Option Value} {base : Heap} {C : Addr}
theorem fb_ok {x qual : Str} {st : Stmt} {N ps : List Str} {k : Nat} {p : PT0} {f : Addr} {fd : FuncData} (Fu : Fun K x qual st f fd) (S : FnScope N ps (defScope st)) (len : ∀ ds M R, p ds M R → ds.length = ps.length)
    (hb : ∀ (kV doc pm : Value) (an : Option Addr) (cdv ct : Value) (us : List Value), us.length = ps.length → bindArgs (PySem.W.fnOf x qual (defArgs st) (defBody st) (defScope st) .none kV doc pm an cdv ct) ⟨us, []⟩ = pure (ps.zip us))
    (body : ∀ (cdv : Value) (A : Around) (ou : List Env) (s : Shared) (H : Hp) {f : Addr}, Room k (A.deeper (envOfC qual (defScope st) s.heap.objs.size f cdv)) → (A.deeper (envOfC qual (defScope st) s.heap.objs.size f cdv)).guards = some [] →
      ∃ t, PSs (cxOf CX0 P w K mg base N qual (defScope st) f cdv A ou s H E0).nox (defBody st) t ∧ ∀ ds M R, p ds M R → DS K t (ds.map some ++ List.replicate (N.length - ds.length) none) M { nx := fun _ M' => R .non M', rt := R }) :
    FnG P w K mg base (k + 1) f fd ps p ∧ Binds K fd ps [] :=
  ⟨g_of (P := P) (w := w) (mg := mg) (base := base) (k := k) (p := p) Fu S len fun cdv A ou s H hr gd => body cdv A ou s H hr gd, Fu.binds (ps := ps) hb⟩
theorem dm_ok {m qual : Str} {st : Stmt} {N ps : List Str} {k : Nat} {p : PT0} (T : MTx K C m qual st) (S : FnScope N ps (defScope st)) (len : ∀ ds M R, p ds M R → ds.length = ps.length)
    (hb : ∀ (kV doc pm : Value) (an : Option Addr) (cdv ct : Value) (us : List Value), us.length = ps.length → bindArgs (PySem.W.fnOf m qual (defArgs st) (defBody st) (defScope st) .none kV doc pm an cdv ct) ⟨us, []⟩ = pure (ps.zip us))
    (body : ∀ (cdv : Value) (A : Around) (ou : List Env) (s : Shared) (H : Hp) {f : Addr}, Room k (A.deeper (envOfC qual (defScope st) s.heap.objs.size f cdv)) → (A.deeper (envOfC qual (defScope st) s.heap.objs.size f cdv)).guards = some [] →
      ∃ t, PSs (cxOf CX0 P w K mg base N qual (defScope st) f cdv A ou s H E0).nox (defBody st) t ∧ ∀ ds M R, p ds M R → DS K t (ds.map some ++ List.replicate (N.length - ds.length) none) M { nx := fun _ M' => R .non M', rt := R }) :
    Dm P w K mg base (k + 1) C m ps p := by
  obtain ⟨f, fd, Fu, h⟩ := T.ex
  obtain ⟨G, b⟩ := fb_ok (P := P) (w := w) (mg := mg) (base := base) (k := k) (p := p) Fu S len hb body
  exact ⟨f, fd, G, h, b⟩
theorem dp_ok {m qual : Str} {st : Stmt} {N ps : List Str} {k : Nat} {p : PT0} (T : PTx K C m qual st) (S : FnScope N ps (defScope st)) (len : ∀ ds M R, p ds M R → ds.length = ps.length)
    (hb : ∀ (kV doc pm : Value) (an : Option Addr) (cdv ct : Value) (us : List Value), us.length = ps.length → bindArgs (PySem.W.fnOf m qual (defArgs st) (defBody st) (defScope st) .none kV doc pm an cdv ct) ⟨us, []⟩ = pure (ps.zip us))
    (body : ∀ (cdv : Value) (A : Around) (ou : List Env) (s : Shared) (H : Hp) {f : Addr}, Room k (A.deeper (envOfC qual (defScope st) s.heap.objs.size f cdv)) → (A.deeper (envOfC qual (defScope st) s.heap.objs.size f cdv)).guards = some [] →
      ∃ t, PSs (cxOf CX0 P w K mg base N qual (defScope st) f cdv A ou s H E0).nox (defBody st) t ∧ ∀ ds M R, p ds M R → DS K t (ds.map some ++ List.replicate (N.length - ds.length) none) M { nx := fun _ M' => R .non M', rt := R }) :
    Dpr P w K mg base (k + 1) C m ps p := by
  obtain ⟨f, pr, fd, Fu, h⟩ := T.ex
  obtain ⟨G, b⟩ := fb_ok (P := P) (w := w) (mg := mg) (base := base) (k := k) (p := p) Fu S len hb body
  exact ⟨f, pr, fd, G, h, b⟩
end
section
variable {X : Cx} {P : Program} {w : World} {K : PySem.W.Frag} {mg : Str → Option Value} {base : Heap} {C : Addr} {k : Nat} {m x : Str} {ps : List Str} {p : PT0} {o e : Expr} {es : List Expr} {ta : TE} {t : TA} {apos pos pp : Pos} {pl : Sem Bool}
theorem pe_methD (h : Dm P w K mg base k C m ps p) (c : Cls K C) (hr : Room k X.A) (gd : X.A.guards = some []) (he : PE X o ta) (ha : PA X (e :: es) t) (hX : Is X P w K mg base := by exact ⟨rfl, rfl, rfl, rfl, rfl⟩)
    (hst : starEach (e :: es) X.env = (false, eval e X.env) :: starEach es X.env := by rfl) (hpl : (backTo pos (starEach es X.env)).any (·.1) = false := by rfl)
    (ht : eval (.Call (.Attribute o m apos) (e :: es) [] pos) X.env = (do
      let ov ← eval o X.env
      standAt apos.atName
      let (f, first) ← holding [ov] (getMethod ov m pl)
      callWith pos f first (backTo pos (starEach (e :: es) X.env)) (backToKw pos (keywordEach [] X.env))) := by rfl) : PE X (.Call (.Attribute o m apos) (e :: es) [] pos) (tMeth C m (spD K p) [] E0 ta t) := by
  obtain ⟨rfl, rfl, rfl, rfl, rfl⟩ := hX
  obtain ⟨f, fd, G, hm, b⟩ := h.ex
  refine ⟨fun pins s σ H Q I z => PySem.W.methodCall_KW (pl := pl) (wpAny_mono (he.run pins s σ H _ I z) (fun u s1 hs => ?_) fun _ _ hs => hs) ht⟩
  obtain ⟨v, H1, I1, r1, a, dx, fs, rfl, ea, l, q⟩ := hs
  cases r1
  refine getmeth_ok I1 ea c hm l (PySem.W.callWith_K (first := [.ref a]) (h₀ := X.base) I.ok.mod.kin hm.kp (wpAny_mono (ha.run pos pins s1 σ H1 _ I1 q) (fun us s2 hs => ?_) fun _ _ hs => hs) hst hpl)
  obtain ⟨vs, H2, I2, r, q2⟩ := hs
  rw [List.append_nil] at q2
  exact ⟨I2.kIn, run_g (us := .ref a :: us) (vs := .ref a :: vs) G hr gd b I2 (.cons rfl r) q2⟩
theorem pe_methD0 (h : Dm P w K mg base k C m ps p) (c : Cls K C) (hr : Room k X.A) (gd : X.A.guards = some []) (he : PE X o ta) (hX : Is X P w K mg base := by exact ⟨rfl, rfl, rfl, rfl, rfl⟩)
    (ht : eval (.Call (.Attribute o m apos) [] [] pos) X.env = (do
      let ov ← eval o X.env
      standAt apos.atName
      let (f, first) ← holding [ov] (getMethod ov m pl)
      callWith pos f first (backTo pos (starEach [] X.env)) (backToKw pos (keywordEach [] X.env))) := by rfl) : PE X (.Call (.Attribute o m apos) [] [] pos) (tMeth C m (spD K p) [] E0 ta tNil) := by
  obtain ⟨rfl, rfl, rfl, rfl, rfl⟩ := hX
  obtain ⟨f, fd, G, hm, b⟩ := h.ex
  refine ⟨fun pins s σ H Q I z => PySem.W.methodCall_KW (pl := pl) (wpAny_mono (he.run pins s σ H _ I z) (fun u s1 hs => ?_) fun _ _ hs => hs) ht⟩
  obtain ⟨v, H1, I1, r1, a, dx, fs, rfl, ea, l, q⟩ := hs
  cases r1
  exact getmeth_ok I1 ea c hm l (PySem.W.callWith_K0 (first := [.ref a]) I1.kIn hm.kp (run_g (us := [.ref a]) (vs := [.ref a]) G hr gd b I1 (.cons rfl .nil) q))
theorem get_g {pins : List (Addr × Obj)} {σ : Sg} {H : Hp} {s : Shared} {Q : VK} {bb : Bool} {Z : Value → Shared → Prop} {X : Cx} {C pr g a dx : Addr} {fs : List (Str × V)} {f : Str} {fd : FuncData} {ps : List Str} {k : Nat} {p : PT0} (I : Inv X pins σ H s) (ea : H a = some (.ins C dx fs)) (c : Cls X.K C) (hp : PropOf X.K C f pr g)
    (F : FnG X.prog X.w X.K X.mg X.base k g fd ps p) (hr : Room (k + 1) X.A) (gd : X.A.guards = some []) (hb : Binds X.K fd ps []) (h : spD X.K p [.ref a] H Q E0) : wpAny (model X.prog X.w) X.A (getAttr (.ref a) f bb) (EP X pins σ Q) Z s := by
  obtain ⟨mA, O, _⟩ := ins_get I.hok ea
  obtain ⟨od, J, _⟩ := O.look
  obtain ⟨rest, hrec⟩ := hp.rec_
  have hl : ([Value.ref a] ++ ([] : List Value)).length = ps.length := by rw [← spD_len F.len h]; rfl
  have hc : (PySem.W.clsIn X.K C).isSome = true := by
    obtain ⟨cd, hc, _⟩ := PySem.W.any_some c.hd
    rw [hc]
    rfl
  have I1 := I.tok (s.toks + 1)
  have bt := hb { s with toks := s.toks + 1 } [.ref a] I1.kIn hl
  rw [List.append_nil] at bt
  refine PySem.W.get_bind I.kIn J (PySem.W.plainGet_of (c.get f)).1 (PySem.W.findObj_data hc hp.at_ hp.get hp.tak) (PySem.W.plainGet_of (c.get f)).2 (wpAny_call (PySem.W.prop_get (s := { s with toks := s.toks + 1 }) I.kIn hrec ?_))
  refine codeAny_mono (F.run X.A.in1 X.stack _ H ⟨[.ref a], []⟩ [.ref a] [.ref a] Q hr.in1 gd I1.env0.in1 bt (.cons rfl .nil) h) fun r s' hq => ?_
  obtain ⟨u, rfl, v, H', I3, rv, q3⟩ := back_of (E := Z) (I1.wish _) hq
  show wpAny _ _ (handedOut u) _ _ _
  rw [PySem.W.handedOut_of (handed_of rv)]
  exact wpAny_pure ⟨v, H', I3, rv, q3⟩
theorem pe_propD (h : Dpr P w K mg base k C m ps p) (c : Cls K C) (hr : Room (k + 1) X.A) (gd : X.A.guards = some []) (he : PE X o ta) (hab : attributeBase o m X.env (eval o X.env) = eval o X.env := by rfl) (hX : Is X P w K mg base := by exact ⟨rfl, rfl, rfl, rfl, rfl⟩) :
    PE X (.Attribute o m pos) (tProp C (spD K p) [] E0 ta) := by
  obtain ⟨rfl, rfl, rfl, rfl, rfl⟩ := hX
  obtain ⟨f, pr, fd, G, hm, b⟩ := h.ex
  refine ⟨fun pins s σ H Q I z => attr_of hab (wpAny_mono (he.run pins s σ H _ I z) (fun u s1 hs => ?_) fun _ _ hs => hs)⟩
  obtain ⟨v, H1, I1, r1, a, dx, fs, rfl, ea, q⟩ := hs
  cases r1
  exact get_g I1 ea c hm G hr gd b q
theorem pe_makeD (h : Dm P w K mg base k C "__init__" ps p) (hK : Kc K mg x C) (hmk : ∃ f, Mk K C f) (hr : Room (k + 1) X.A) (gd : X.A.guards = some []) (hg : Gl X x) (ha : PA X (e :: es) t) (hX : Is X P w K mg base := by exact ⟨rfl, rfl, rfl, rfl, rfl⟩) (hd : (x == ("__debug__" : Str)) = false := by decide)
    (hst : starEach (e :: es) X.env = (false, eval e X.env) :: starEach es X.env := by rfl) (hpl : (backTo pos (starEach es X.env)).any (·.1) = false := by rfl) : PE X (.Call (.Name x pp) (e :: es) [] pos) (tMake C (spD K p) [] E0 t) := by
  obtain ⟨rfl, rfl, rfl, rfl, rfl⟩ := hX
  obtain ⟨f, fd, G, hm, b⟩ := h.ex
  obtain ⟨f', mk⟩ := hmk
  have e1 := mk.init.symm.trans hm.at_
  obtain rfl : f' = f := by cases e1; rfl
  refine ⟨fun pins s σ H Q I z => wpAny_Call_Name_kw (ld_glob I hg hK.g ?_ hd)⟩
  refine PySem.W.callWith_K (h₀ := X.base) I.ok.mod.kin mk.kp (wpAny_mono (ha.run pos pins s σ H _ I z) (fun us s1 hs => ?_) fun _ _ hs => hs) hst hpl
  obtain ⟨vs, H1, I1, r, q⟩ := hs
  refine ⟨I1.kIn, ?_⟩
  have hq := q (s1.heap.objs.size + 1) s1.heap.objs.size (I1.hok.fresh (Nat.le_succ _)) (I1.hok.fresh (Nat.le_refl _)) (Nat.ne_of_lt (Nat.lt_succ_self _))
  rw [List.append_nil] at hq
  have I2 := Inv.made (C := C) I1
  have r2 : Vals (V.ref (s1.heap.objs.size + 1) :: vs) (Value.ref (s1.heap.objs.size + 1) :: us) := .cons rfl r
  have hl : (Value.ref (s1.heap.objs.size + 1) :: us ++ ([] : List Value)).length = ps.length := by rw [List.append_nil, ← r2.length, spD_len G.len hq]
  have bt := b _ (Value.ref (s1.heap.objs.size + 1) :: us) I2.kIn hl
  rw [List.append_nil] at bt
  refine wpAny_call (make_map (f := f') I1.kIn mk.makes mk.init (beq_iff_eq.mp mk.fn) (codeAny_mono (G.run _ X.stack _ _ ⟨_, []⟩ _ _ _ (hr.make C us []) gd (I2.env0.make C us []) bt r2 hq) fun r s' hs => ?_))
  obtain ⟨u, rfl, v, H', I3, rv, ev, q3⟩ := back_of (E := X.xe) I2 hs
  subst ev
  exact ⟨rv, ⟨V.ref (s1.heap.objs.size + 1), H', I3, rfl, q3⟩⟩
/-- x in o, o an object whose class says what is in it -/
def rInO (sp : Sp) (neg : Bool) (C : Addr) : R2 := fun x y H Q => ∃ a dx fs, y = .ref a ∧ H a = some (.ins C dx fs) ∧ sp [y, x] H (fun v H' => ∃ b, v = .bl b ∧ Q (.bl (if neg then !b else b)) H') E0
theorem op_inO (h : Dm P w K mg base k C "__contains__" ps p) (hr : Room k X.A) (gd : X.A.guards = some []) (hX : Is X P w K mg base := by exact ⟨rfl, rfl, rfl, rfl, rfl⟩) : OpR X (compareOp .In) (rInO (spD K p) false C) := by
  obtain ⟨rfl, rfl, rfl, rfl, rfl⟩ := hX
  obtain ⟨f, fd, G, hm, b⟩ := h.ex
  intro pins s σ H x y v u Q I rx ry hq
  obtain ⟨a, dx, fs, rfl, ea, hsp⟩ := hq
  cases ry
  obtain ⟨mA, J, _⟩ := ins_get I.hok ea
  obtain ⟨od, J, _⟩ := J.look
  obtain ⟨m', hF⟩ := I.fr
  refine PySem.W.in_K hF I.ok.mod.kin J hm.at_ hm.fn (thn (run_g (us := [.ref a, v]) (vs := [V.ref a, x]) G hr gd b I (.cons rfl (.cons rx .nil)) hsp) fun z s1 ⟨zv, H1, I1, rz, k, ek, q⟩ => ?_)
  subst ek
  cases rz
  exact wpAny_truthy_bool ⟨.bl _, H1, I1, rfl, q⟩
theorem op_ninO (h : Dm P w K mg base k C "__contains__" ps p) (hr : Room k X.A) (gd : X.A.guards = some []) (hX : Is X P w K mg base := by exact ⟨rfl, rfl, rfl, rfl, rfl⟩) : OpR X (compareOp .NotIn) (rInO (spD K p) true C) := by
  obtain ⟨rfl, rfl, rfl, rfl, rfl⟩ := hX
  obtain ⟨f, fd, G, hm, b⟩ := h.ex
  intro pins s σ H x y v u Q I rx ry hq
  obtain ⟨a, dx, fs, rfl, ea, hsp⟩ := hq
  cases ry
  obtain ⟨mA, J, _⟩ := ins_get I.hok ea
  obtain ⟨od, J, _⟩ := J.look
  obtain ⟨m', hF⟩ := I.fr
  refine PySem.W.notIn_K hF I.ok.mod.kin J hm.at_ hm.fn (thn (run_g (us := [.ref a, v]) (vs := [V.ref a, x]) G hr gd b I (.cons rfl (.cons rx .nil)) hsp) fun z s1 ⟨zv, H1, I1, rz, k, ek, q⟩ => ?_)
  subst ek
  cases rz
  exact wpAny_truthy_bool ⟨.bl _, H1, I1, rfl, q⟩
end
section
variable {K : PySem.W.Frag} {M : Mem} {Q : D → Mem → Prop} {d : D}
theorem dr_inO {p : PT0} {C : Addr} {fs : List (Str × D)} {neg : Bool} (h : p [.obj C fs, d] M fun r M1 => ∃ b, r = .bl b ∧ Q (.bl (if neg then !b else b)) M1) : DR K (rInO (spD K p) neg C) d (.obj C fs) M Q := fun F H v u m a b QV k => by
  have b0 := b
  cases b with
  | @obj ad _ dx xs _ e r =>
    refine ⟨ad, dx, xs, rfl, vis_le _ _ e, F, M, [.obj C fs, d], _, .cons b0 (.cons a .nil), m, h, fun r M1 v1 H1 hq g1 r1 => ?_⟩
    obtain ⟨bb, rfl, q⟩ := hq
    cases r1
    exact ⟨bb, rfl, k _ M1 _ H1 q g1 (.bl _)⟩
end
section
variable {X : Cx} {o e value : Expr} {ta tv : TE} {f : Str} {pos pos' : Pos}
theorem pe_fldK (K : PySem.W.Frag) (he : PE X e ta) (hb : attributeBase e f X.env (eval e X.env) = eval e X.env := by rfl) (h : X.K = K := by rfl) : PE X (.Attribute e f pos) (tFld K ta f) := by subst h; exact pe_fld he hb
theorem ps_fldK (K : PySem.W.Frag) (ha : PE X o ta) (hv : PE X value tv) (hs : swapsWith value (some (.Attribute o f pos')) pos.line X.env = pure false := by rfl) (h : X.K = K := by rfl) : PS X (.Assign [.Attribute o f pos'] value pos) (sFld K ta tv f) := by subst h; exact ps_fld ha hv hs
def putNew {ds : List (Str × D)} {f : Str} {v : D} (h : (ds.map (·.1)).contains f = false) : putD f v ds = ds ++ [(f, v)] := by
  induction ds with
  | nil => rfl
  | cons x r ih =>
    obtain ⟨k, y⟩ := x
    rw [List.map_cons, List.contains_cons, Bool.or_eq_false_iff] at h
    have hk : k ≠ f := fun z => by
      have := h.1
      rw [z] at this
      simp at this
    show (if k = f then (k, v) :: r else (k, y) :: putD f v r) = _
    rw [if_neg hk, ih h.2]; rfl
end
end DL

set_option Elab.async false
set_option linter.all false
set_option maxRecDepth 100000
set_option maxHeartbeats 4000000
/-! more built-ins by data: bits, list(..), tuple(..), sum, sorted, repr, append, pop -/
namespace DL
open PySem PySem.Spec PyProof.Rows L2
/-! ### bits of naturals -/
theorem and_nat (a b : Nat) : Builtin.bitAnd (a : Int) (b : Int) = ((a &&& b : Nat) : Int) := rfl
theorem or_nat (a b : Nat) : Builtin.bitOr (a : Int) (b : Int) = ((a ||| b : Nat) : Int) := by
  have h1 : ∀ n : Nat, Builtin.bitNot (n : Int) = Int.negSucc n := fun n => by show -(n : Int) - 1 = Int.negSucc n; omega
  have h2 : ∀ n : Nat, Builtin.bitNot (Int.negSucc n) = (n : Int) := fun n => by show -(Int.negSucc n) - 1 = (n : Int); omega
  unfold Builtin.bitOr
  rw [h1, h1]
  have e : Builtin.bitAnd (Int.negSucc a) (Int.negSucc b) = Builtin.bitNot (((Builtin.bitNot (Int.negSucc a)).toNat ||| (Builtin.bitNot (Int.negSucc b)).toNat : Nat) : Int) := rfl
  rw [e, h2, h2, h1, h2, Int.toNat_natCast, Int.toNat_natCast]
section
variable {K : PySem.W.Frag} {M : Mem} {Q : D → Mem → Prop}
theorem dr_orN {a b : Nat} (q : Q (.int ((a ||| b : Nat) : Int)) M) : DR K (rI0 fun i j => .int (Builtin.bitOr i j)) (.int (a : Int)) (.int (b : Int)) M Q := dr_I0 (by rw [or_nat]; exact q)
theorem dr_andN {a b : Nat} (q : Q (.int ((a &&& b : Nat) : Int)) M) : DR K (rI0 fun i j => .int (Builtin.bitAnd i j)) (.int (a : Int)) (.int (b : Int)) M Q := dr_I0 (by rw [and_nat]; exact q)
theorem dr_shlN {a b : Nat} (ha : a < 2 ^ 64) (hb : b ≤ 1000000) (q : Q (.int ((a * 2 ^ b : Nat) : Int)) M) : DR K (rI CPow fun i j => .int (i * 2 ^ j.toNat)) (.int (a : Int)) (.int (b : Int)) M Q :=
  dr_I ⟨by omega, by omega, by simpa using ha⟩ (by rw [Int.toNat_natCast]; push_cast at q; exact q)
theorem dr_shrN {a b : Nat} (q : Q (.int ((a / 2 ^ b : Nat) : Int)) M) : DR K (rI (fun _ j => 0 ≤ j) fun i j => .int (i / 2 ^ j.toNat)) (.int (a : Int)) (.int (b : Int)) M Q :=
  dr_I (by omega) (by rw [Int.toNat_natCast]; push_cast at q; exact q)
end
/-! ### list(..), tuple(..), sum, any, sorted -/
section
variable {K : PySem.W.Frag} {δ : En} {M : Mem} {Q : D → Mem → Prop} {te : TE} {tr : TA} {d : D} {xs : List D}
/-- list(x) and tuple(x), as the hand layer tells them -/
def rListO (K : PySem.W.Frag) : List V → Hp → VK → Prop := fun xs H Q => ∃ p ys, xs = [.ref p] ∧ (SqL K H p ys ∨ SqT K H p ys) ∧ ∀ l, H l = none → Q (.ref l) (upd H l (.lst ys))
def rTupO (K : PySem.W.Frag) : List V → Hp → VK → Prop := fun xs H Q => ∃ p ys, xs = [.ref p] ∧ ((SqL K H p ys ∧ ∀ l, H l = none → Q (.ref l) (upd H l (.tup ys))) ∨ (SqT K H p ys ∧ Q (.ref p) H))
theorem call_listK {X : Cx} (K : PySem.W.Frag) (h : X.K = K := by rfl) : CallR X (.type "list") (rListO K) := by subst h; exact call_list_of
theorem call_tupleK {X : Cx} (K : PySem.W.Frag) (h : X.K = K := by rfl) : CallR X (.type "tuple") (rTupO K) := by subst h; exact call_tuple_of
theorem call_sumK {X : Cx} (K : PySem.W.Frag) (hc : X.calm = true := by rfl) (h : X.K = K := by rfl) : CallR X (.builtin "sum") (rSum K) := by subst h; exact cr_sum hc
theorem call_sortedK {X : Cx} (K : PySem.W.Frag) (h : X.K = K := by rfl) : CallR X (.builtin "sorted") (rSortedI K) := by subst h; exact cr_sortedI
theorem vs1 {F : Fm} {H : Hp} {vs : List V} (r : RepL K (vis H M F) vs [d]) : ∃ v, vs = [v] ∧ Rep K (vis H M F) v d := by
  cases r with
  | cons a b => cases b; exact ⟨_, rfl, a⟩
theorem dc_listL (q : Q (.lst xs) M) : DC K (rListO K) [.lst xs] M Q := fun F H vs m r QV k => by
  obtain ⟨v, rfl, r1⟩ := vs1 r
  clear r
  cases r1 with
  | lst s r =>
    refine ⟨_, _, rfl, .inl (vis_le.seq s), fun l hl => ?_⟩
    obtain ⟨g, e⟩ := go_new (o := .lst _) m hl
    exact k _ M _ _ q g (.lst (.inl (.inl e)) (r.mono g.ex))
theorem dc_listT (q : Q (.lst xs) M) : DC K (rListO K) [.tup xs] M Q := fun F H vs m r QV k => by
  obtain ⟨v, rfl, r1⟩ := vs1 r
  clear r
  cases r1 with
  | tup s r =>
    refine ⟨_, _, rfl, .inr (sqt_mono vis_le s), fun l hl => ?_⟩
    obtain ⟨g, e⟩ := go_new (o := .lst _) m hl
    exact k _ M _ _ q g (.lst (.inl (.inl e)) (r.mono g.ex))
/-- .. one that may change -/
theorem dc_listLM (q : ∀ p, M p = none → Q (.raw (.ref p)) (mup M p (.lst xs))) : DC K (rListO K) [.lst xs] M Q := fun F H vs m r QV k => by
  obtain ⟨v, rfl, r1⟩ := vs1 r
  clear r
  cases r1 with
  | lst s r =>
    refine ⟨_, _, rfl, .inl (vis_le.seq s), fun l hl => ?_⟩
    exact k _ _ _ _ (q l (m.new hl).2) (go_newM (m := .lst xs) m hl (.lst r)) (.raw _)
theorem dc_listTM (q : ∀ p, M p = none → Q (.raw (.ref p)) (mup M p (.lst xs))) : DC K (rListO K) [.tup xs] M Q := fun F H vs m r QV k => by
  obtain ⟨v, rfl, r1⟩ := vs1 r
  clear r
  cases r1 with
  | tup s r =>
    refine ⟨_, _, rfl, .inr (sqt_mono vis_le s), fun l hl => ?_⟩
    exact k _ _ _ _ (q l (m.new hl).2) (go_newM (m := .lst xs) m hl (.lst r)) (.raw _)
theorem dc_tupL (q : Q (.tup xs) M) : DC K (rTupO K) [.lst xs] M Q := fun F H vs m r QV k => by
  obtain ⟨v, rfl, r1⟩ := vs1 r
  clear r
  cases r1 with
  | lst s r =>
    refine ⟨_, _, rfl, .inl ⟨vis_le.seq s, fun l hl => ?_⟩⟩
    obtain ⟨g, e⟩ := go_new (o := .tup _) m hl
    exact k _ M _ _ q g (.tup (.inl (.inl e)) (r.mono g.ex))
theorem dc_tupT (q : Q (.tup xs) M) : DC K (rTupO K) [.tup xs] M Q := fun F H vs m r QV k => by
  obtain ⟨v, rfl, r1⟩ := vs1 r
  clear r
  cases r1 with
  | tup s r => exact ⟨_, _, rfl, .inr ⟨sqt_mono vis_le s, k _ M _ H q (Go.refl m) (.tup s r)⟩⟩
/-- tuple(..) of a list that changes -/
theorem dc_tupM {p : Addr} (hp : M p = some (.lst xs)) (q : Q (.tup xs) M) : DC K (rTupO K) [.raw (.ref p)] M Q := fun F H vs m r QV k => by
  obtain ⟨v, rfl, r1⟩ := vs1 r
  clear r
  cases r1
  obtain ⟨ho, e, ro⟩ := m.mo p _ hp
  cases ro with
  | lst ro =>
    refine ⟨_, _, rfl, .inl ⟨SqL.of e, fun l hl => ?_⟩⟩
    obtain ⟨g, e2⟩ := go_new (o := .tup _) m hl
    exact k _ M _ _ q g (.tup (.inl (.inl e2)) (ro.mono g.ex))
theorem dc_sum {ns : List Int} (h : d = .lst (ns.map D.int)) (q : Q (.int ns.sum) M) : DC K (rSum K) [d] M Q := fun F H vs m r QV k => by
  subst h
  obtain ⟨v, rfl, r1⟩ := vs1 r
  clear r
  cases r1 with
  | lst s r =>
    obtain rfl := RepL.of_ints r
    exact ⟨_, ns, rfl, vis_le.seq s, k _ M _ H q (Go.refl m) (.int _)⟩
theorem dc_sorted {ns : List Int} (h : d = .lst (ns.map D.int)) (q : ∀ ns' : List Int, ns'.Perm ns → ns'.Pairwise (· ≤ ·) → Q (.lst (ns'.map D.int)) M) : DC K (rSortedI K) [d] M Q := fun F H vs m r QV k => by
  subst h
  obtain ⟨v, rfl, r1⟩ := vs1 r
  clear r
  cases r1 with
  | lst s r =>
    obtain rfl := RepL.of_ints r
    refine ⟨_, ns, rfl, vis_le.seq s, fun ns' l hp hs hl => ?_⟩
    obtain ⟨g, e⟩ := go_new (o := .lst (ns'.map V.int)) m hl
    exact k _ M _ _ (q ns' hp hs) g (.lst (.inl (.inl e)) (RepL.ints ns'))
end
/-! ### repr -/
mutual
theorem dp_noDict {K : PySem.W.Frag} {H : Hp} : ∀ {v : V} {p : PyData}, Dp K H v p → p.hasDict = false
  | _, _, .non => rfl
  | _, _, .bl _ => rfl
  | _, _, .int _ => rfl
  | _, _, .str _ => rfl
  | _, _, .lst _ a => by rw [PyData.hasDict]; exact dpAll_noDict a
  | _, _, .tup _ a => by rw [PyData.hasDict]; exact dpAll_noDict a
theorem dpAll_noDict {K : PySem.W.Frag} {H : Hp} : ∀ {v : List V} {p : List PyData}, DpAll K H v p → PyData.hasDictAll p = false
  | _, _, .nil => rfl
  | _, _, .cons a b => by rw [PyData.hasDictAll, dp_noDict a, dpAll_noDict b]; rfl
end
def rRepr (K : PySem.W.Frag) : List V → Hp → VK → Prop := fun xs H Q => ∃ (a : Addr) (p : PyData), xs = [.ref a] ∧ Dp K H (.ref a) p ∧ p.showable = true ∧ p.depth ≤ 50 ∧ p.shown.length ≤ sizeLine ∧ Q (.str p.shown) H
theorem call_reprK {X : Cx} (K : PySem.W.Frag) (gd : X.A.guards = some []) (hu : X.A.units + 64 < cLine) (h : X.K = K := by rfl) : CallR X (.builtin "repr") (rRepr K) := by
  subst h
  intro pins s σ H xs us Q I r h
  obtain ⟨a, p, rfl, hd, hs, hdp, hz, q⟩ := h
  obtain ⟨u, rfl, rx⟩ := vals1 r
  obtain ⟨as, rd⟩ := Dp.reads I p (.ref a) u hd rx
  cases rx
  exact PySem.repr_of_reads' rd hs (fun z => by rw [dp_noDict hd] at z; cases z) gd (by omega) (fun _ _ z => z) (fun h' t tk hk => ⟨.str _, H, I.kept hk, ⟨_, rfl⟩, q⟩) hz
section
variable {K : PySem.W.Frag} {M : Mem} {Q : D → Mem → Prop} {d : D}
def isSeq : D → Bool
  | .lst _ => true | .tup _ => true | _ => false
theorem dc_repr {p : PyData} (hs : isSeq d = true) (hp : toPy d = some p) (sh : p.showable = true) (dp : p.depth ≤ 50) (z : p.shown.length ≤ sizeLine) (q : Q (.str p.shown) M) : DC K (rRepr K) [d] M Q := fun F H vs m r QV k => by
  obtain ⟨v, rfl, r1⟩ := vs1 r
  clear r
  have hd := toPy_dp (r1.mono vis_le) hp
  cases r1 <;> first | (cases hs; done) | exact ⟨_, p, rfl, hd, sh, dp, z, k _ M _ H q (Go.refl m) (.str _)⟩
end
/-! ### lists that change: append, pop -/
section
variable {K : PySem.W.Frag} {δ : En} {M : Mem} {Q : D → Mem → Prop} {to : TE} {tr : TA}
theorem tyV_lst {H : Hp} {p : Addr} {ys : List V} (h : SqL K H p ys) : tyV K "list" (.ref p) H := .inl ⟨rfl, ys, h⟩
theorem de_append (h : DE K to δ M fun o M1 => ∃ p ys, o = .raw (.ref p) ∧ M1 p = some (.lst ys) ∧ DA K tr δ M1 fun ds M2 => ∃ d xs, ds = [d] ∧ M2 p = some (.lst xs) ∧ xs.length < sizeLine ∧ Q .non (mup M2 p (.lst (xs ++ [d])))) : DE K (tBM K "list" rAppend to tr) δ M Q := fun F σ H en m QV k => by
  refine h F σ H en m _ fun o M1 v H1 z g1 r1 => ?_
  obtain ⟨p, ys, rfl, hp, z⟩ := z
  cases r1
  obtain ⟨h1, e1, o1⟩ := g1.ok.mo p _ hp
  cases o1 with
  | lst o1 =>
    refine ⟨tyV_lst (SqL.of e1), z F σ H1 (en.mono g1.ex) g1.ok _ fun ds M2 vs H2 z2 g2 r2 => ?_⟩
    obtain ⟨d, xs, rfl, hp2, hz, q⟩ := z2
    obtain ⟨w, rfl, rw'⟩ := vs1 r2
    obtain ⟨h2, e2, o2⟩ := g2.ok.mo p _ hp2
    cases o2 with
    | lst o2 =>
      have g3 := go_mut (m := .lst (xs ++ [d])) g2.ok hp2 (.lst (o2.append (.cons rw' .nil)))
      exact ⟨p, _, w, rfl, rfl, e2, by rw [o2.length]; exact hz, k _ _ _ _ q ((g1.trans g2).trans g3) .non⟩
theorem RepL.erase {G : Hp} : ∀ {vs : List V} {ds : List D} (i : Nat), RepL K G vs ds → RepL K G (vs.eraseIdx i) (ds.eraseIdx i)
  | _, _, _, .nil => .nil
  | _, _, 0, .cons _ b => b
  | _, _, i + 1, .cons a b => .cons a (RepL.erase i b)
theorem de_popAt (h : DE K to δ M fun o M1 => ∃ p ys, o = .raw (.ref p) ∧ M1 p = some (.lst ys) ∧ DA K tr δ M1 fun ds M2 => ∃ (i : Nat) (xs : List D) (d : D), ds = [.int (i : Int)] ∧ M2 p = some (.lst xs) ∧ xs.length < 1000000 ∧ xs[i]? = some d ∧ Q d (mup M2 p (.lst (xs.eraseIdx i)))) : DE K (tBM K "list" rPopAt to tr) δ M Q := fun F σ H en m QV k => by
  refine h F σ H en m _ fun o M1 v H1 z g1 r1 => ?_
  obtain ⟨p, ys, rfl, hp, z⟩ := z
  cases r1
  obtain ⟨h1, e1, o1⟩ := g1.ok.mo p _ hp
  cases o1 with
  | lst o1 =>
    refine ⟨tyV_lst (SqL.of e1), z F σ H1 (en.mono g1.ex) g1.ok _ fun ds M2 vs H2 z2 g2 r2 => ?_⟩
    obtain ⟨i, xs, d, rfl, hp2, hz, hd, q⟩ := z2
    obtain rfl := RepL.of_ints (l := [(i : Int)]) r2
    obtain ⟨h2, e2, o2⟩ := g2.ok.mo p _ hp2
    cases o2 with
    | lst o2 =>
      have g3 := go_mut (m := .lst (xs.eraseIdx i)) g2.ok hp2 (.lst (o2.erase i))
      obtain ⟨w, hw, rw'⟩ := o2.get hd
      have hi : i < xs.length := (List.getElem?_eq_some_iff.mp hd).1
      refine ⟨p, _, (i : Int), i, w, rfl, rfl, e2, by omega, by omega, ?_, hw, k _ _ _ _ q ((g1.trans g2).trans g3) ((rw'.mono g3.ex))⟩
      rw [o2.length]
      unfold seqIndex?
      simp
      omega
end
/-! ### comprehensions whose turns change the memory -/
section
variable {K : PySem.W.Frag} {δ : En} {M : Mem} {Q : D → Mem → Prop} {te : TE} {tt : TT} {g : TG} {js : List Nat}
theorem de_lcM {wi : TI} {vs : List Nat} (hj : ∀ j ∈ js, j ∈ vs) (h : DI K wi δ M fun ds M1 => ∃ Ac : Nat → List D → Mem → Prop, Ac 0 [] M1 ∧
      (∀ i d acc M', ds[i]? = some d → Ac i acc M' → DG K js g d (wipeD δ vs) M' fun δ2 M2 => DT K tt δ2 M2 fun b M3 => if b = true then DE K te δ2 M3 (fun e M4 => acc.length < sizeLine ∧ Ac (i + 1) (acc ++ [e]) M4) else Ac (i + 1) acc M3) ∧
      ∀ acc M', Ac ds.length acc M' → Q (.lst acc) M') : DE K (tLc wi g tt te vs) δ M Q := fun F σ H en m QV k => by
  refine h F σ H en m _ fun ds M1 J H1 z g1 Sn S0 => ?_
  obtain ⟨Ac, a0, at', ae⟩ := z
  intro Dl hD
  have S := Sn Dl (.lst []) hD
  obtain ⟨fD, mD⟩ := g1.ok.new hD
  have vn : Same (vis H1 M1 F) (vis (upd H1 Dl (.lst [])) M1 (fadd F Dl)) := vis_new hD
  have ok0 : MOk K (fadd F Dl) M1 (upd H1 Dl (.lst [])) := by
    obtain ⟨g, _⟩ := go_new (o := .lst []) g1.ok hD
    refine ⟨fun b hb => ?_, fun a mo hm => ?_, tb_add g1.ok.tb⟩
    · rcases fadd_of hb with hb | rfl
      · exact g.ok.fr b hb
      · exact ⟨by rw [upd_same]; simp, mD⟩
    · obtain ⟨ho, e, ro⟩ := g1.ok.mo a mo hm
      exact ⟨ho, by rw [upd_ne (ne_of_none e hD)]; exact e, ro.mono vn⟩
  refine ⟨fun i n H' => i ≤ ds.length ∧ n = ds.length - i ∧ ∃ acc xs M', Ac i acc M' ∧ MOk K (fadd F Dl) M' H' ∧ Same (vis (upd H1 Dl (.lst [])) M1 (fadd F Dl)) (vis H' M' (fadd F Dl)) ∧ (∀ b, F b = true → H' b = H1 b) ∧ H' Dl = some (.lst xs) ∧ RepL K (vis H' M' (fadd F Dl)) xs acc,
    ⟨ds.length, Nat.zero_le _, rfl, [], [], M1, a0, ok0, Same.refl _, fun b hb => upd_ne (fun e => by subst e; rw [fD] at hb; cases hb), upd_same, .nil⟩, ?_⟩
  rintro i n H' ⟨hi, rfl, acc, xs, M', ac, ok, ex, fr, hDl, rl⟩
  by_cases hl : i < ds.length
  · refine .inr ⟨S.go i M' H' hl ok ex, fun H3 => ∃ acc xs M3, Ac (i + 1) acc M3 ∧ MOk K (fadd F Dl) M3 H3 ∧ Same (vis (upd H1 Dl (.lst [])) M1 (fadd F Dl)) (vis H3 M3 (fadd F Dl)) ∧ (∀ b, F b = true → H3 b = H1 b) ∧ H3 Dl = some (.lst xs) ∧ RepL K (vis H3 M3 (fadd F Dl)) xs acc, fun H3 w => ⟨ds.length - (i + 1), by omega, by omega, rfl, w⟩, fun x H3 y => ?_⟩
    have hd : ds[i]? = some ds[i] := List.getElem?_eq_getElem hl
    obtain ⟨g3, rx⟩ := S.yl i M' H' x H3 _ hd ok ex y
    have en3 : EnvR K (vis H3 M' (fadd F Dl)) (wipe σ vs) (wipeD δ vs) := ((((en.mono g1.ex).mono vn).mono ex).mono g3.ex).wipe vs
    have back : ∀ M5 H5, Go K (fadd F Dl) M' H3 M5 H5 → Same (vis (upd H1 Dl (.lst [])) M1 (fadd F Dl)) (vis H5 M5 (fadd F Dl)) ∧ (∀ b, F b = true → H5 b = H1 b) ∧ H5 Dl = some (.lst xs) ∧ RepL K (vis H5 M5 (fadd F Dl)) xs acc := fun M5 H5 g5 =>
      ⟨(ex.trans g3.ex).trans g5.ex, fun b hb => ((g5.fr b (fadd_mk hb)).trans (g3.fr b (fadd_mk hb))).trans (fr b hb), ((g5.fr Dl fadd_self).trans (g3.fr Dl fadd_self)).trans hDl, (rl.mono g3.ex).mono g5.ex⟩
    refine at' i _ acc M' hd ac (fadd F Dl) (wipe σ vs) H3 x en3 g3.ok rx _ fun δ4 M4 σ4 H4 z4 g4 en4 w4 => ⟨?_, ?_⟩
    · rw [w4 vs hj, wipe_wipe σ vs vs fun _ h => h]
    · refine z4 (fadd F Dl) σ4 H4 en4 g4.ok _ fun bb M5 H5 z5 g5 => ?_
      have g45 := g4.trans g5
      cases bb with
      | false =>
        rw [if_neg Bool.false_ne_true] at z5
        rw [if_neg Bool.false_ne_true]
        obtain ⟨b1, b2, b3, b4⟩ := back M5 H5 g45
        exact ⟨acc, xs, M5, z5, g45.ok, b1, b2, b3, b4⟩
      | true =>
        rw [if_pos rfl] at z5
        rw [if_pos rfl]
        refine z5 (fadd F Dl) σ4 H5 (en4.mono g5.ex) g5.ok _ fun e M6 v H6 z6 g6 r6 => ?_
        obtain ⟨hz, z6⟩ := z6
        have g456 := g45.trans g6
        obtain ⟨b1, b2, b3, b4⟩ := back M6 H6 g456
        have mD6 := (g456.ok.fr Dl fadd_self).2
        have hv : ∀ o, Same (vis H6 M6 (fadd F Dl)) (vis (upd H6 Dl o) M6 (fadd F Dl)) := fun o b u hb => by
          obtain ⟨h1, h2, h3⟩ := vis_of hb
          have hne := (fadd_no h2).2
          exact vis_mk (by rw [upd_ne hne]; exact h1) h2 h3
        refine ⟨xs, b3, by rw [b4.length]; exact hz, acc ++ [e], xs ++ [v], M6, z6, ⟨fun b hb => ?_, fun a mo hm => ?_, tb_put g456.ok.tb⟩, b1.trans (hv _), fun b hb => ?_, upd_same, (b4.mono (hv _)).append (.cons (r6.mono (hv _)) .nil)⟩
        · rcases fadd_of hb with hb' | rfl
          · have hne : b ≠ Dl := fun e => by subst e; rw [fD] at hb'; cases hb'
            rw [upd_ne hne]; exact g456.ok.fr b hb
          · exact ⟨by rw [upd_same]; simp, mD6⟩
        · obtain ⟨ho, e1, ro⟩ := g456.ok.mo a mo hm
          have hne : a ≠ Dl := fun z => by subst z; rw [mD6] at hm; cases hm
          exact ⟨ho, by rw [upd_ne hne]; exact e1, ro.mono (hv _)⟩
        · have hne : b ≠ Dl := fun e => by subst e; rw [fD] at hb; cases hb
          rw [upd_ne hne]; exact b2 b hb
  · have hi' : i = ds.length := by omega
    subst hi'
    refine .inl ⟨S.stop _ M' H' rfl ok ex, ?_⟩
    have mDe := (ok.fr Dl fadd_self).2
    have sv : Same (vis H' M' (fadd F Dl)) (vis H' M' F) := fun b u hb => by
      obtain ⟨h1, h2, h3⟩ := vis_of hb
      exact vis_mk h1 (fadd_no h2).1 h3
    have g2 : Go K F M1 H1 M' H' := by
      refine ⟨⟨fun b hb => ok.fr b (fadd_mk hb), fun a mo hm => ?_, tb_back ok.tb hDl⟩, (vn.trans ex).trans sv, fr⟩
      obtain ⟨ho, e1, ro⟩ := ok.mo a mo hm
      exact ⟨ho, e1, ro.mono sv⟩
    exact k (.lst acc) M' _ H' (ae acc M' ac) (g1.trans g2) (.lst (.inl (.inl (vis_mk hDl fD mDe))) (rl.mono sv))
end
end DL

set_option Elab.async false
set_option linter.all false
set_option maxRecDepth 100000
set_option maxHeartbeats 4000000
/-! t[::-1] of tuples, sorted(set(..)) of a list of ints, tuple(range(..)), enumerate(tuple) -/
namespace DQ
open PySem PySem.Spec PyProof.Rows L2
/-! ### t[::-1] -/
theorem down_places (n : Nat) : Builtin.Slice.slicePlaces ((n : Int) - 1) (-1) (-1) = n := by
  unfold Builtin.Slice.slicePlaces
  rw [if_neg (by decide)]
  by_cases h : (n : Int) - 1 > -1
  · rw [if_pos h, show (- -1 : Int) = 1 from rfl, Int.ediv_one]; omega
  · rw [if_neg h]; omega
theorem down_items {α : Type} (xs : Array α) : ((List.range xs.size).filterMap fun (m : Nat) => xs[(((xs.size : Int) - 1) + (m : Int) * (-1)).toNat]?).toArray = xs.toList.reverse.toArray := by
  congr 1
  have e : ∀ m, m ∈ List.range xs.size → xs[(((xs.size : Int) - 1) + (m : Int) * (-1)).toNat]? = xs.toList.reverse[m]? := fun m hm => by
    have hm := List.mem_range.mp hm
    have e1 : (((xs.size : Int) - 1) + (m : Int) * (-1)).toNat = xs.size - 1 - m := by omega
    rw [e1, List.getElem?_reverse (by rw [Array.length_toList]; exact hm), Array.length_toList, Array.getElem?_toList]
  have congr0 : ∀ l : List Nat, (∀ m, m ∈ l → m ∈ List.range xs.size) → l.filterMap (fun (m : Nat) => xs[(((xs.size : Int) - 1) + (m : Int) * (-1)).toNat]?) = l.filterMap fun m => xs.toList.reverse[m]? := fun l => by
    induction l with
    | nil => intro _; rfl
    | cons a r ih =>
      intro hl
      rw [List.filterMap_cons, List.filterMap_cons, e a (hl a List.mem_cons_self), ih fun m hm => hl m (List.mem_cons_of_mem _ hm)]
  rw [congr0 _ fun _ h => h]
  have key : ∀ l : List α, (List.range l.length).filterMap (fun m => l[m]?) = l := fun l => by
    refine List.ext_getElem? fun i => ?_
    induction l generalizing i with
    | nil => rfl
    | cons x r ih =>
      rw [List.length_cons, List.range_succ_eq_map, List.filterMap_cons]
      simp only [List.getElem?_cons_zero, List.filterMap_map]
      cases i with
      | zero => rfl
      | succ i =>
        rw [List.getElem?_cons_succ, List.getElem?_cons_succ]
        exact ih i
  have h2 := key xs.toList.reverse
  rw [List.length_reverse, Array.length_toList] at h2
  exact h2
section
variable {prog : Program} {w : World} {A : Around} {E : Value → Shared → Prop} {s : Shared}
theorem applied_down {sl : Addr} {vs : Value} {n : Nat} {Q : Int × Int × Nat → Shared → Prop} (hs : s.heap.IsSliceOf sl .none .none vs) (ps : IsPart vs (some (-1)))
    (h : Q ((n : Int) - 1, -1, n) s) : wpAny (model prog w) A (Builtin.Slice.sliceApplied (.ref sl) (pure (n : Int))) Q E s := by
  obtain ⟨ob, hob, _, dob⟩ := id hs
  unfold Builtin.Slice.sliceApplied Builtin.Slice.sliceFields
  refine wpAny_bind (wpAny_bind (wpAny_field hob dob (x := .none) rfl (wpAny_bind (wpAny_field hob dob (x := .none) rfl (wpAny_bind (wpAny_field hob dob (x := vs) rfl (wpAny_pure ?_)))))))
  refine wpAny_bind (HT.slicePart_ ps ?_)
  show wpAny _ _ (if (((-1 : Int)) == 0) = true then _ else _) _ _ s
  rw [if_neg (by decide)]
  refine wpAny_bind (HT.slicePart_ .none (wpAny_bind (HT.slicePart_ .none (wpAny_bind (wpAny_pure ?_)))))
  show wpAny _ _ (pure ((n : Int) - 1, (-1 : Int), Builtin.Slice.slicePlaces ((n : Int) - 1) (-1) (-1))) _ _ s
  rw [down_places]
  exact wpAny_pure h
theorem item_down {t sl : Addr} {items : Array Value} {vs : Value} {Q : Value → Shared → Prop} (ht : IsTup s.heap t items) (hs : s.heap.IsSliceOf sl .none .none vs) (ps : IsPart vs (some (-1)))
    (h : Q (.ref s.heap.objs.size) { s with heap := s.heap.push { cls := .type "tuple", data := .seq items.toList.reverse.toArray } })
    (hz : items.size ≤ sizeLine) : wpAny (model prog w) A (getItem (.ref t) (.ref sl)) Q E s := by
  obtain ⟨ob, hob, cob, dob⟩ := id hs
  have ty : s.TypeIs (.ref sl) "slice" := ⟨ob, hob, cob⟩
  have ok : sizeOk (.seq items.toList.reverse.toArray) := by
    show items.toList.reverse.toArray.size ≤ sizeLine
    rw [List.size_toArray, List.length_reverse, Array.length_toList]
    exact hz
  unfold getItem
  try with_reducible refine wpAny_holding ?_
  first | refine wpAny_bind (wpAny_pure ?_) | skip
  refine wpAny_bind (wpAny_sequenceKey ht.typeIs (by decide) ?_)
  refine wpAny_bind (wpAny_callSpecial?_slot (name := Str.ofString "__getitem__") ht.typeIs PyProof.Rows.slot_tuple_getitem (wpAny_call_entry PyProof.Rows.slot_tuple_getitem ht.typeIs entry_tuple_getitem ?_ (args_tuple_getitem _ _)))
  refine wpAny_bind (m := Builtin.Tuple.tupleItemsOf (.ref t)) (tupleItemsOf_ ht ?_)
  refine wpAny_bind (wpAny_typeOf ty ?_)
  rw [if_pos (by decide)]
  refine wpAny_bind (applied_down hs ps ?_)
  have no : ¬ ((((items.size : Int) - 1) == 0 && (-1 : Int) == 1 && items.size == items.size) = true) := by
    intro q
    rw [Bool.and_eq_true, Bool.and_eq_true] at q
    exact absurd (eq_of_beq q.1.2) (by decide)
  show wpAny _ _ (if (((items.size : Int) - 1) == 0 && (-1 : Int) == 1 && items.size == items.size) = true then _ else _) _ _ s
  rw [if_neg no, down_items]
  first
    | exact wpAny_bind (m := Builtin.Tuple.tupleExact _) (wpAny_newObj_type (wpAny_pure ⟨_, rfl, wpAny_pure h⟩) ok)
    | exact wpAny_bind (m := Builtin.Tuple.tupleExact _) (wpAny_newObj_type (wpAny_bind (wpAny_pure (wpAny_pure ⟨_, rfl, wpAny_pure h⟩))) ok)
end
end DQ
namespace DL
open PySem PySem.Spec PyProof.Rows L2
def tRevT (K : PySem.W.Frag) (te : TE) : TE := fun σ H Q => te σ H fun x H1 => ∃ a xs, x = .ref a ∧ SqT K H1 a xs ∧ ∀ p, H1 p = none → Q (.ref p) (upd H1 p (.tup xs.reverse))
theorem pe_revT {X : Cx} {e : Expr} {te : TE} {k : Nat} {p1 p2 p3 pos : Pos} (K : PySem.W.Frag) (he : PE X e te) (hK : X.K = K := by rfl) : PE X (.Subscript e (.Slice none none (some (.UnaryOp .USub (.Constant (.int 1) k p1) p2)) p3) pos) (tRevT K te) := by
  subst hK
  refine ⟨fun pins s σ H Q I z => Subscript_ (wpAny_mono (he.run pins s σ H _ I z) (fun v s1 hs => ?_) fun _ _ hs => hs)⟩
  obtain ⟨x, H1, I1, r1, a, xs, rfl, sq, q⟩ := hs
  cases r1
  have st : PO X (some (.UnaryOp .USub (.Constant (.int 1) k p1) p2)) (tPart (tUn (rU fun i => .int (-i)) (tC (.int 1)))) := po_some (pe_un un_neg pe_int)
  refine wpAny_Slice (wpAny_mono (po_none.run pins s1 σ H1 (fun o H2 => o = none ∧ H2 = H1) I1 ⟨rfl, rfl⟩) (fun vl s2 hs => ?_) fun _ _ hs => hs)
  obtain ⟨o2, H2, I2, pl, e2, f2⟩ := hs
  subst e2 f2
  refine wpAny_mono (po_none.run pins s2 σ _ (fun o H3 => o = none ∧ H3 = H2) I2 ⟨rfl, rfl⟩) (fun vu s3 hs => ?_) fun _ _ hs => hs
  obtain ⟨o3, H3, I3, pu, e3, f3⟩ := hs
  subst e3 f3
  refine wpAny_mono (st.run pins s3 σ _ (fun o H4 => o = some (-1) ∧ H4 = H3) I3 ⟨1, rfl, -1, rfl, rfl, rfl⟩) (fun vs s4 hs => ?_) fun _ _ hs => hs
  obtain ⟨o4, H4, I4, ps, e4, f4⟩ := hs
  subst e4 f4
  cases pl
  cases pu
  have I5 : Inv X pins σ H4 { s4 with heap := s4.heap.push { cls := .type "slice", data := .fields #[.none, .none, vs] } } := I4.kept (t' := s4.toks) fun b ob q => Heap.get?_push_of_some _ q
  obtain ⟨its, r, ht, hz⟩ := I5.tuple sq
  have hlen := r.length
  refine tail_any (ops := [.ref a, .ref s4.heap.objs.size]) ht.typeIs PyProof.Rows.slot_tuple_getitem.lookup ?_ (by with_unfolding_all rfl)
  refine DQ.item_down ht (Heap.IsSliceOf.new _ .none .none vs) ps ?_ (by rw [List.size_toArray]; omega)
  refine ⟨.ref _, _, I5.laid (t' := s4.toks) (o := .tup xs.reverse) (fun b ob q => Heap.get?_push_of_some _ q) (Nat.le_refl _) ?_, rfl, q _ (I5.hok.fresh (Nat.le_refl _))⟩
  exact ⟨by rw [List.length_reverse]; exact hz, _, r.reverse, IsTup.new _ _⟩
section
variable {K : PySem.W.Frag} {δ : En} {M : Mem} {Q : D → Mem → Prop} {te : TE}
theorem RepL.rev {G : Hp} {vs : List V} {ds : List D} (r : RepL K G vs ds) : RepL K G vs.reverse ds.reverse := by
  induction vs generalizing ds with
  | nil => cases r; exact .nil
  | cons v vs ih =>
    cases r with
    | cons a b => rw [List.reverse_cons, List.reverse_cons]; exact (ih b).append (.cons a .nil)
theorem de_revT (h : DE K te δ M fun d M1 => ∃ xs, d = .tup xs ∧ Q (.tup xs.reverse) M1) : DE K (tRevT K te) δ M Q := fun F σ H en m QV k => by
  refine h F σ H en m _ fun d M1 v H1 z g1 r1 => ?_
  obtain ⟨xs, rfl, q⟩ := z
  cases r1 with
  | tup s r =>
    refine ⟨_, _, rfl, sqt_mono vis_le s, fun p hp => ?_⟩
    obtain ⟨g, e⟩ := go_new (o := .tup _) g1.ok hp
    exact k _ M1 _ _ q (g1.trans g) (.tup (.inl (.inl e)) (r.rev.mono g.ex))
end
end DL

set_option Elab.async false
set_option linter.all false
set_option maxRecDepth 100000
set_option maxHeartbeats 8000000
/-! sorted(set(..)) of a list of ints -/
namespace DQ
open PySem PySem.Spec PyProof.Rows L2
/-- a set as it is born -/
abbrev born (w : World) : Obj := { cls := .type "set", dict := none, data := .set #[] 0 (.fresh 0 0 (!w.params.followText "set-order")) }
section
variable {P : Program} {w : World} {A : Around} {E : Value → Shared → Prop} {s : Shared}
/-- set(l), l a list of ints -/
theorem set_of_list {l : Addr} {us : Array Value} (ns : List Int) {Q : Value → Shared → Prop} (cool : A.handled = none) (isl : s.heap.IsList l us) (ni : IntsAre us.toList ns) (few : ns.length + 1 < scanBound)
    (fin : ∀ (g : Heap) (tk c : Nat), SetR w g s.heap.objs.size (fun j => decide (j ∈ ns)) c → c ≤ ns.length → (∀ b o, s.heap.get? b = some o → g.get? b = some o) → Q (.ref s.heap.objs.size) { s with heap := g, toks := tk }) :
    wpAny (model P w) A (call (.type "set") [.ref l]) Q E s := by
  have len : us.size = ns.length := by rw [← ni.length, Array.length_toList]
  obtain ⟨_, _, hmro⟩ := F.called_set.mro
  have m1 := F.called_set.made
  have m2 := F.called_set.sub
  refine wpAny_call (codeAny_of_tree (show wpAny _ _ (callAny (.type "set") _) _ _ _ from wpAny_pure ⟨Code.quiet_builtin _ (by decide +kernel), codeAny_builtin F.entry_type_call ?_⟩))
  rw [Around.under_plain (weight_type_call_type "set" [.ref l] []) rfl]
  have m3 := F.called_set.notType
  have m4 := F.called_set.canCreate
  have m5 := F.typeCall_set_1 (.ref l)
  repeat (any_goals (first | assumption | wp_step))
  refine codeAny_mono (code_set_led1 (.ref l) (E := E) (Q₁ := fun o z => o = .ref s.heap.objs.size ∧ z = { s with heap := s.heap.push (born w) }) ⟨rfl, rfl⟩) fun r z hr => ?_
  match r, hr with
  | .error _, hr => exact hr
  | .ok .next, hr => exact hr.elim
  | .ok .brk, hr => exact hr.elim
  | .ok .cont, hr => exact hr.elim
  | .ok (.ret o), hr =>
    obtain ⟨rfl, rfl⟩ := hr
    have at0 : (s.heap.push (born w)).get? s.heap.objs.size = some (born w) := Heap.get?_push_size _ rfl
    have ty0 : Shared.TypeIs { s with heap := s.heap.push (born w) } (.ref s.heap.objs.size) "set" := ⟨_, at0, rfl⟩
    have m6 := F.called_set.init.lookup
    have m7 := F.called_set.init.bind (.ref s.heap.objs.size)
    repeat (any_goals (first | assumption | wp_step))
    let Done : Value → Shared → Prop := fun r z => r = .none ∧ ∃ g tk c, z = { s with heap := g, toks := tk } ∧ SetR w g s.heap.objs.size (fun j => decide (j ∈ ns)) c ∧ c ≤ ns.length ∧ (∀ b o, s.heap.get? b = some o → g.get? b = some o)
    refine codeAny_mono (codeAny_call_builtin (R := wants Done E) F.called_set.init.plain F.entry_set_init (check_set_init_1 ty0 ?_)) fun r2 z2 hr2 => ?_
    · obtain ⟨⟨oc, od, odt, osl⟩, hol, c1, nl, c2⟩ := isl
      simp only at c1 c2
      subst c1
      subst c2
      have hol2 : (s.heap.push (born w)).get? l = some { cls := .type "list", dict := od, data := .seq us nl, slots := osl } := Heap.get?_push_of_some _ hol
      have m8 := F.sub_list_set
      have m9 := F.sub_list_frozenset
      have m10 : (Value.type "list" == Value.type "dict") = false := by decide
      have isl2 : (s.heap.push (born w)).IsList l us := ⟨_, hol2, rfl, nl, rfl⟩
      unfold Builtin.«set.__init__» noKeywords Builtin.Frozenset.updateFrom
      generalize hW : pyIter = W
      wp_walk
      subst hW
      refine wpAny_pyIter_list isl2 (wpAny_bind (wpAny_runValue ?_))
      have below : l < s.heap.objs.size := Heap.lt_size hol
      have sz : (s.heap.push (born w)).objs.size = s.heap.objs.size + 1 := Heap.size_push ..
      have apart : l ≠ (s.heap.push (born w)).objs.size := by rw [sz]; exact Nat.ne_of_lt (Nat.lt_succ_of_lt below)
      have out : s.heap.objs.size ∉ [(s.heap.push (born w)).objs.size, l] := by
        rw [sz]
        simp only [List.mem_cons, List.not_mem_nil, or_false, not_or]
        exact ⟨(Nat.ne_of_lt (Nat.lt_succ_self _)), (Nat.ne_of_lt below).symm⟩
      have vals : ∀ (i : Nat) (v : Value), us[i]? = some v → ∃ k t, ns[i]? = some k ∧ v = .int k t := fun i v hv => by
        have hi : i < ns.length := len ▸ (Array.getElem?_eq_some_iff.mp hv).1
        obtain ⟨t, e⟩ := PyProof.Rows.IntsAre.int_at ni i v (by rw [Array.getElem?_toList]; exact hv)
        have e2 : ns[i]? = some ns[i] := List.getElem?_eq_getElem hi
        rw [List.getD_eq_getElem?_getD, e2] at e
        exact ⟨_, t, e2, e⟩
      have cool3 : A.in1.in1.in1.handled = none := by simp [cool]
      refine set_update_ints ((Walks.list cool3 _ l apart us).toS) s.heap.objs.size out ns len few vals (us.size - 0) 0 _ (by omega) (Nat.zero_le _) ⟨⟨_, Heap.get?_push_size _ rfl, rfl, rfl⟩, isl2.push _⟩ ⟨0, Nat.le_refl 0, setR_new_at (Heap.get?_push_of_some _ at0)⟩ ?_
      intro z c mv lc rz
      obtain ⟨g, _, _, tk, _⟩ := z
      obtain rfl := mv.gens
      obtain rfl := mv.drawn
      obtain rfl := mv.os
      refine wpAny_pure (show wpAny _ _ (ret Value.none) _ _ _ from wpAny_pure ⟨rfl, g, tk, c, rfl, rz, len ▸ lc, fun b o e => ?_⟩)
      have lt := Heap.lt_size e
      refine mv.heap b o ?_ (Heap.get?_push_of_some _ (Heap.get?_push_of_some _ e))
      rw [sz]
      simp only [List.mem_cons, List.not_mem_nil, or_false, not_or]
      exact ⟨Nat.ne_of_lt lt, Nat.ne_of_lt (Nat.lt_succ_of_lt lt)⟩
    · match r2, hr2 with
      | .error _, hr2 => exact hr2
      | .ok .next, hr2 => exact hr2.elim
      | .ok .brk, hr2 => exact hr2.elim
      | .ok .cont, hr2 => exact hr2.elim
      | .ok (.ret v), hr2 =>
        obtain ⟨rfl, g, tk, c, rfl, rz, lc, old⟩ := hr2
        repeat (any_goals (first | assumption | wp_step))
        exact fin _ _ _ rz lc old
end
end DQ

set_option Elab.async false
set_option linter.all false
set_option maxRecDepth 100000
set_option maxHeartbeats 4000000
/-! enumerate(tuple) -/
namespace DQ
open PySem PySem.Spec PyProof.Rows L2
abbrev itT (t : Addr) : Obj := { cls := .type "tuple_iterator", data := .fields #[.ref t, .int 0 0] }
abbrev enT (i : Addr) : Obj := { cls := .type "enumerate", data := .fields #[.none, .bool false, .ref i, rawInt 0, .none, .none] }
theorem new_enumT (t : Addr) (us : Array Value) (n : Nat) (dct : Option Addr) (sl : Array (Option Value)) :
    Meets (Builtin.«enumerate.__new__» ⟨[.type "enumerate", .ref t], []⟩) (fun _ R s => s.heap.get? t = some { cls := .type "tuple", dict := dct, data := .seq us n, slots := sl } ∧
      R (.ok (.ret (.ref (s.heap.push (itT t)).objs.size))) { s with heap := (s.heap.push (itT t)).push (enT s.heap.objs.size) }) :=
  .of_wp fun prog w A R s h => by
    obtain ⟨hp, g, d, tk, os⟩ := s
    obtain ⟨hl, h⟩ := h
    have sub := sub_enumerate
    have ist : Heap.IsTuple (Shared.heap ⟨hp, g, d, tk, os⟩) t us := ⟨_, hl, rfl, n, rfl⟩
    wp_walk
    refine wpAny_stack_any fun st => wpAny_pure ?_
    split
    · rename_i c _ _ _ _ _
      cases (c == Value.type "enumerate") <;> (wp_walk using wpAny_pyIter_tuple ist; exact ⟨_, rfl, h⟩)
    · wp_walk using wpAny_pyIter_tuple ist
      exact ⟨_, rfl, h⟩
section
variable {prog : Program} {w : World} {A : Around} {E : Value → Shared → Prop} {s : Shared}
theorem call_enumT {t : Addr} {us : Array Value} {Q : Value → Shared → Prop} (ht : s.heap.IsTuple t us)
    (h : ∀ g, IsEnum g (s.heap.objs.size + 1) s.heap.objs.size 0 .none → g.IsTupleIter s.heap.objs.size t 0 → (∀ b o, s.heap.get? b = some o → g.get? b = some o) → Q (.ref (s.heap.objs.size + 1)) { s with heap := g }) :
    wpAny (model prog w) A (call (.type "enumerate") [.ref t]) Q E s := by
  obtain ⟨⟨c, dct, dt, sl⟩, hl, hc, n, hd⟩ := ht
  obtain rfl : c = .type "tuple" := hc
  obtain rfl : dt = .seq us n := hd
  refine callType_new F.called_enumerate (by decide) (F.typeCall_enumerate_1 _) (F.newCall_enumerate_1 _) (fun o => F.args_object_init_2 o _) F.entry_enumerate_new (new_enumT t us n dct sl) ⟨hl, ?_⟩
  have sz : (s.heap.push (itT t)).objs.size = s.heap.objs.size + 1 := Heap.size_push ..
  have e : IsEnum ((s.heap.push (itT t)).push (enT s.heap.objs.size)) (s.heap.objs.size + 1) s.heap.objs.size 0 .none := by
    have := Heap.get?_push_size (s.heap.push (itT t)) (o := enT s.heap.objs.size) rfl
    rw [sz] at this
    exact this
  show _ ∧ _
  rw [sz]
  exact ⟨⟨_, e, rfl⟩, h _ e ⟨_, Heap.get?_push_of_some _ (Heap.get?_push_size _ rfl), rfl, rfl⟩ fun b o z => Heap.get?_push_of_some _ (Heap.get?_push_of_some _ z)⟩
end
section
variable {prog : Program} {w : World} {A : Around} {E : Value → Shared → Prop} {s : Shared}
theorem en_end {e it t : Addr} {c : Int} {i : Nat} {us : Array Value} {old : Value} {Q : Option Value → Shared → Prop} (cool : A.handled = none) (he : IsEnum s.heap e it c old) (hi : s.heap.IsTupleIter it t i) (ht : s.heap.IsTuple t us) (stop : us[i]? = none)
    (fin : ∀ g, Heap.ExtBut it s.heap g → Q none { s with heap := g }) : wpAny (model prog w) A (pyNext (.ref e)) Q E s := by
  have ty : s.TypeIs (.ref e) "enumerate" := ⟨_, he, rfl⟩
  unfold pyNext
  refine wpAny_bind (wpAny_attempt (wpAny_callSpecial?_slot (name := Str.ofString "__next__") ty F.slot_enumerate_next (wpAny_call_entry F.slot_enumerate_next ty F.entry_enumerate_next ?_ (F.args_enumerate_next_1 _))))
  refine wpAny_bind (m := field (.ref e) 2) (wpAny_field he rfl (x := .ref it) rfl ?_)
  refine wpAny_bind (wpAny_nextOf_tuple_end cool hi ht stop fun g x k ⟨o, ho, hc⟩ => ?_)
  exact wpAny_bind (wpAny_isInstance (T := "StopIteration") (b := true) ⟨o, ho, hc⟩ isSubtype_stop (wpAny_pure (fin _ k)))
end
/-- the tuple at a, each item in a new pair -/
def Iet (K : PySem.W.Frag) (a : Addr) : It :=
  ⟨fun i H => ∃ (xs : List V) (x : V), SqT K H a xs ∧ xs[i]? = some x, fun i H v H' => ∃ T x, v = .ref T ∧ H T = none ∧ H' = upd H T (.tup [.int (i : Nat), x]) ∧ ∀ xs, SqT K H a xs → xs[i]? = some x, fun i H => ∃ xs : List V, SqT K H a xs ∧ xs.length ≤ i⟩
def Ent (e it a i : Nat) (h : Heap) : Prop := (∃ old, IsEnum h e it ((i : Nat) : Int) old) ∧ h.IsTupleIter it a i ∧ e ≠ it
theorem two_of {b e it : Addr} (h : b ∈ [e, it]) : b = e ∨ b = it := by simpa using h
theorem turn_enumT {P : Program} {w : World} {K : PySem.W.Frag} {elts : List Expr} {kk : Nat} {tpos : Pos} (a e it : Addr) : Turn P w K (.Tuple elts kk tpos) (Iet K a) [e, it] e (Ent e it a) where
  mem := List.mem_cons_self
  obj := fun i h st b hb => by
    obtain ⟨⟨old, he⟩, ⟨o, ho, _, hd⟩, _⟩ := st
    rcases two_of hb with rfl | rfl
    · exact ⟨_, he, fun v q => nomatch q⟩
    · exact ⟨o, ho, fun v q => by rw [hd] at q; cases q⟩
  keep := fun i h h' ⟨⟨old, he⟩, hi, hne⟩ k => ⟨⟨old, k e (by simp) _ he⟩, hi.at fun o q => k it (by simp) o q, hne⟩
  item := by
    intro X hP hw hK hc i pins s σ H E I hf st hg
    subst hP hw hK
    obtain ⟨⟨old, he⟩, hit, hne⟩ := st
    obtain ⟨xs, x, hq, hx⟩ := hg
    obtain ⟨us, rv, p, hz⟩ := I.tuple hq
    obtain ⟨u, hu, ru⟩ := rv.get hx
    have le : e < s.heap.objs.size := Heap.lt_size he
    have li : it < s.heap.objs.size := by obtain ⟨_, q, _⟩ := hit; exact Heap.lt_size q
    have iu : i < us.toArray.size := by
      rw [List.size_toArray]
      exact (List.getElem?_eq_some_iff.mp hu).1
    have pt : s.heap.IsTuple a us.toArray := p
    have nai : a ≠ it := fun z => by
      subst z
      obtain ⟨o1, e1, c1, _⟩ := pt
      obtain ⟨o2, e2, c2, _⟩ := hit
      rw [e1] at e2
      cases e2
      rw [c1] at c2
      exact absurd c2 (by decide)
    have nea : e ∉ [it, a] := fun z => by
      rcases two_of z with z | z
      · exact hne z
      · subst z
        obtain ⟨o1, e1, c1, _⟩ := pt
        have c2 : s.heap.get? e = some _ := he
        rw [e1] at c2
        cases c2
        have c3 : Value.type "enumerate" = Value.type "tuple" := c1
        exact absurd c3 (by decide)
    refine wpAny_pyNext_enum_itemD (Draws.tuple (show X.A.in1.handled = none from I.ok.hd hc) it a nai us.toArray) he ⟨hit, pt⟩ iu hne nea fun y g tk hy ho st2 hT hsz hk => ?_
    have ey : y = u := by
      have h2 : us.toArray[i]? = some u := by simpa using hu
      rw [h2] at hy
      exact (Option.some.inj hy).symm
    subst ey
    refine ⟨_, rfl, wpAny_letOwnedTupleGo_enum (s := { s with heap := g, toks := tk + 1 }) ho fun g2 he2 sb => ?_⟩
    have hT2 : g2.get? s.heap.objs.size = some { cls := .type "tuple", data := .seq #[.int i tk, y] } := (sb.2 _ (Nat.ne_of_gt le)).trans hT
    have new : ObjOk X.prog X.w (upd H s.heap.objs.size (.tup [.int (i : Nat), x])) g2 s.heap.objs.size (.tup [.int (i : Nat), x]) :=
      ⟨by show 2 ≤ sizeLine; decide, [.int i tk, y], .cons ⟨_, rfl⟩ (.cons ru .nil), ⟨_, hT2, rfl, _, rfl⟩⟩
    have I1 : Inv X pins σ (upd H s.heap.objs.size (.tup [.int (i : Nat), x])) { s with heap := g2, toks := tk + 1 } :=
      I.turnedNew (ch := [e, it]) (fun b ob hb q => (sb.2 b (fun z => hb (by simp [z]))).trans (hk b ob (fun z => hb (by simp [z])) (fun z => hb (by simp [z])) q)) hf (Nat.le_refl _) new
    refine ⟨.ref s.heap.objs.size, _, I1, rfl, ⟨_, x, rfl, I.hok.fresh (Nat.le_refl _), rfl, fun ys hy => by rw [I.tuple_inj hy hq]; exact hx⟩, ⟨⟨y, ?_⟩, st2.1.at fun o q => (sb.2 it (Ne.symm hne)).trans q, hne⟩, fun b hb => ?_⟩
    · rw [show ((i + 1 : Nat) : Int) = (i : Int) + 1 from by omega]
      exact he2
    · have lb : b < s.heap.objs.size := by
        rcases two_of hb with rfl | rfl
        · exact le
        · exact li
      rw [upd_ne (Nat.ne_of_lt lb)]
      exact (hf b hb).1
  done := by
    intro X hP hw hK hc i pins s σ H E I hf st hg
    subst hP hw hK
    obtain ⟨⟨old, he⟩, hit, hne⟩ := st
    obtain ⟨xs, hq, hx⟩ := hg
    obtain ⟨us, rv, p, hz⟩ := I.tuple hq
    obtain ⟨f0, f1, f2, f3, f4, f5⟩ := hf it (by simp)
    have pt : s.heap.IsTuple a us.toArray := p
    have lu := rv.length
    have stop : us.toArray[i]? = none := by simp; omega
    refine en_end (I.ok.hd hc) he hit pt stop fun g eb => ⟨rfl, I.turned (t' := s.toks) (fun b o hb q => eb b o hb q) f0 f1 f3 f4 f5⟩
  self := fun A i s Q E st h => let ⟨⟨_, he⟩, _⟩ := st; wpAny_pyIter_enum he h
end DQ
namespace DL
open PySem PySem.Spec PyProof.Rows L2
def iEnumT (K : PySem.W.Frag) (ta : TA) : TI := fun σ H R => ta σ H fun vs H1 => ∃ a xs, vs = [.ref a] ∧ SqT K H1 a xs ∧ R (DQ.Iet K a) H1
theorem pi_enumT {X : Cx} {e : Expr} {ta : TA} {p pos tpos : Pos} {elts : List Expr} {kk : Nat} (K : PySem.W.Frag) (hg : Gl X "enumerate") (hm : X.mg "enumerate" = none) (ha : PA X [e] ta) (hK : X.K = K := by rfl) (hs : starEach [e] X.env = [(false, eval e X.env)] := by rfl) :
    PI X (.Tuple elts kk tpos) (.Call (.Name "enumerate" p) [e] [] pos) (iEnumT K ta) := by
  subst hK
  refine ⟨fun pins s σ H R I h => Call_ (ld_blt I hg hm boot_enumerate (PyProof.Rows.callWith_type1 (wpAny_mono (ha.run pos pins s σ H _ I h) (fun us s1 hs => ?_) fun _ _ hs => hs) hs rfl))⟩
  obtain ⟨vs, H1, I1, r1, a, xs, rfl, hq, q⟩ := hs
  obtain ⟨u, rfl, ru⟩ := r1.one
  cases ru
  obtain ⟨its, rv, pt, hz⟩ := I1.tuple hq
  refine DQ.call_enumT (show s1.heap.IsTuple a its.toArray from pt) fun g he hit old => wpAny_pyIter_enum he ?_
  have I2 : Inv X pins σ H1 { s1 with heap := g } := I1.kept (t' := s1.toks) old
  refine ⟨s1.heap.objs.size + 1, [s1.heap.objs.size + 1, s1.heap.objs.size], _, _, H1, rfl, I2, DQ.turn_enumT a (s1.heap.objs.size + 1) s1.heap.objs.size, ⟨⟨.none, he⟩, hit, Nat.succ_ne_self _⟩, fun b hb => ?_, q⟩
  have le : s1.heap.objs.size ≤ b := by
    rcases DQ.two_of hb with rfl | rfl
    · exact Nat.le_add_right _ _
    · exact Nat.le_refl _
  exact I1.fpOk le (I1.hok.fresh le)
section
variable {K : PySem.W.Frag} {δ : En} {M : Mem} {I : List D → Mem → Prop} {tr : TA}
/-- the pairs of enumerate -/
def enumD (xs : List D) : List D := (List.range xs.length).map fun (i : Nat) => D.tup [.int (i : Int), xs.getD i .non]
theorem enumD_len (xs : List D) : (enumD xs).length = xs.length := by unfold enumD; simp
theorem enumD_get {xs : List D} {i : Nat} {d : D} (h : (enumD xs)[i]? = some d) : ∃ x, xs[i]? = some x ∧ d = .tup [.int (i : Int), x] := by
  unfold enumD at h
  rw [List.getElem?_map] at h
  cases e : (List.range xs.length)[i]? with
  | none => rw [e] at h; cases h
  | some j =>
    rw [e] at h
    obtain ⟨h1, h2⟩ := List.getElem?_eq_some_iff.mp e
    rw [List.getElem_range] at h2
    subst h2
    cases h
    have hl : i < xs.length := by simpa using h1
    exact ⟨xs[i], List.getElem?_eq_getElem hl, by show D.tup [D.int (i : Int), xs.getD i D.non] = _; rw [List.getD_eq_getElem?_getD, List.getElem?_eq_getElem hl]; rfl⟩
theorem sq_enumT {F : Fm} {H : Hp} {a : Addr} {xs : List V} {ds : List D} (s : SqT K (vis H M F) a xs) (r : RepL K (vis H M F) xs ds) : Sq K F M H (DQ.Iet K a) (enumD ds) := by
  refine sq_sub fun M' H' m e i => ⟨fun hl => ?_, fun hl => ?_, fun x H2 d hd y => ?_⟩
  · rw [enumD_len] at hl
    have hx : i < xs.length := by rw [r.length]; exact hl
    exact ⟨xs, xs[i], sqt_mono vis_le (sqt_mono e s), by simp [hx]⟩
  · rw [enumD_len] at hl
    exact ⟨xs, sqt_mono vis_le (sqt_mono e s), by rw [r.length]; omega⟩
  · obtain ⟨T, z, rfl, hT, rfl, f⟩ := y
    have h1 := f xs (sqt_mono vis_le (sqt_mono e s))
    obtain ⟨x, hx, rfl⟩ := enumD_get hd
    obtain ⟨z2, h2, r2⟩ := r.get hx
    rw [h1] at h2; cases h2
    obtain ⟨g, e2⟩ := go_new (o := .tup [.int (i : Nat), z]) m hT
    exact ⟨g, .tup (.inl (.inl e2)) (.cons (.int _) (.cons ((r2.mono e).mono g.ex) .nil))⟩
theorem di_enumT (h : DA K tr δ M fun ds M1 => ∃ xs, ds = [.tup xs] ∧ I (enumD xs) M1) : DI K (iEnumT K tr) δ M I := fun F σ H en m R k => by
  refine h F σ H en m _ fun ds M1 vs H1 z g1 r1 => ?_
  obtain ⟨xs, rfl, z⟩ := z
  obtain ⟨v, rfl, r2⟩ := vs1 r1
  cases r2 with
  | tup s r =>
    refine ⟨_, _, rfl, sqt_mono vis_le s, k _ M1 _ H1 z g1 (fun p o hp => ?_) (sq_enumT s r)⟩
    exact sq_enumT (sqt_mono (vis_new hp) s) (r.mono (vis_new hp))
end
end DL

set_option Elab.async false
set_option linter.all false
set_option maxRecDepth 100000
set_option maxHeartbeats 4000000
/-! sorted(set(..)), tuple(range(..)), zip, two generators -/
namespace DL
open PySem PySem.Spec PyProof.Rows L2
def rSetLO (K : PySem.W.Frag) (w : World) : List V → Hp → VK → Prop := fun xs H Q => ∃ (p : Addr) (ns : List Int), xs = [.ref p] ∧ SqL K H p (ns.map V.int) ∧ ns.length ≤ 1000 ∧ ∀ a c, c ≤ ns.length → H a = none → Q (.ref a) (upd H a (SetO w a (fun j => decide (j ∈ ns)) c))
theorem call_setK {X : Cx} (K : PySem.W.Frag) (w : World) (hc : X.calm = true := by rfl) (h : X.K = K := by rfl) (hw : X.w = w := by rfl) : CallR X (.type "set") (rSetLO K w) := by
  subst h hw
  intro pins s σ H xs us Q I r h
  obtain ⟨p, ns, rfl, sq, few, q⟩ := h
  obtain ⟨u, rfl, ru⟩ := r.one
  cases ru
  obtain ⟨its, rv, pl, hz⟩ := I.list sq
  refine DQ.set_of_list ns (I.ok.hd hc) pl.isList (ints_of_vals rv) (by unfold scanBound; omega) fun g tk c R lc old => ?_
  exact ⟨.ref s.heap.objs.size, _, I.laid (t' := tk) old (Nat.le_refl _) (setO_new R), rfl, q _ c lc (I.hok.fresh (Nat.le_refl _))⟩
theorem call_sortedSetK {X : Cx} (w : World) (hc : X.calm = true := by rfl) (hw : X.w = w := by rfl) : CallR X (.builtin "sorted") (rSortedSet w) := by subst hw; exact cr_sortedSet hc
section
variable {K : PySem.W.Frag} {w : World} {δ : En} {M : Mem} {Q : D → Mem → Prop} {te : TE} {tr : TA}
theorem de_sset (h : DA K tr δ M fun ds M1 => ∃ ns : List Int, ds = [.lst (ns.map D.int)] ∧ ns.length < 64 ∧ ∀ ns' : List Int, ns'.Pairwise (· < ·) → (∀ k, k ∈ ns' ↔ k ∈ ns) → Q (.lst (ns'.map D.int)) M1) : DE K (tCB (rSortedSet w) (tCons (tCB (rSetLO K w) tr) tNil)) δ M Q := fun F σ H en m QV k => by
  refine h F σ H en m _ fun ds M1 vs H1 z g1 r1 => ?_
  obtain ⟨ns, rfl, few, q⟩ := z
  obtain ⟨v, rfl, r2⟩ := vs1 r1
  cases r2 with
  | lst s r =>
    obtain rfl := RepL.of_ints r
    refine ⟨_, ns, rfl, vis_le.seq s, by omega, fun a c lc ha => ?_⟩
    obtain ⟨g2, _⟩ := go_new (o := SetO w a (fun j => decide (j ∈ ns)) c) g1.ok ha
    refine ⟨a, _, c, rfl, upd_same, by omega, fun ns' p hp hm hl hn => ?_⟩
    obtain ⟨g3, e3⟩ := go_new (o := .lst (ns'.map V.int)) g2.ok hn
    exact k _ M1 _ _ (q ns' hp fun k => (hm k).trans (decide_eq_true_iff)) ((g1.trans g2).trans g3) (.lst (.inl (.inl e3)) (RepL.ints ns'))
/-- tuple(range(n)) -/
theorem de_tupRg (h : DE K te δ M fun d M1 => ∃ n : Nat, d = .int (n : Int) ∧ n ≤ 1000000 ∧ Q (.tup (rngD 0 n)) M1) : DE K (tTupRg (tRg1 te)) δ M Q := fun F σ H en m QV k => by
  refine h F σ H en m _ fun d M1 v H1 z g1 r1 => ?_
  obtain ⟨n, rfl, hn, q⟩ := z
  cases r1
  refine ⟨(n : Int), rfl, RgOk.of_le (by omega) (by omega) (by omega) (by omega), fun p hp => ?_⟩
  obtain ⟨g, e⟩ := go_new (o := .tup (rgV 0 (n : Int))) g1.ok hp
  refine k _ M1 _ _ q (g1.trans g) (.tup (.inl (.inl e)) ?_)
  unfold rgV rngD
  rw [show ((n : Int) - 0).toNat = n from by omega]
  have : ∀ l : List Nat, RepL K (vis (upd H1 p (.tup (rgV 0 (n : Int)))) M1 F) (l.map fun i => V.int (0 + (i : Nat))) (l.map fun (i : Nat) => D.int (0 + (i : Int))) := fun l => by
    induction l with
    | nil => exact .nil
    | cons a r ih => exact .cons (.int _) ih
  exact this _
theorem pe_tupRgK {X : Cx} {e : Expr} {t : Sg → Hp → (Int → Int → Hp → Prop) → Prop} {p pos : Pos} (hg : Gl X "tuple") (hm : X.mg "tuple" = none) (he : PRg X e t) (hc : X.calm = true := by rfl) (na : starEach [e] X.env = (false, eval e X.env) :: starEach [] X.env := by rfl) : PE X (.Call (.Name "tuple" p) [e] [] pos) (tTupRg t) := pe_tupRg hc hg hm he na
/-! ### zip -/
theorem pi_zipK {X : Cx} {e e2 : Expr} {ta : TA} {p pos tpos : Pos} {elts : List Expr} {kk : Nat} (K : PySem.W.Frag) (hg : Gl X "zip") (hm : X.mg "zip" = none) (ha : PA X [e, e2] ta) (hK : X.K = K := by rfl)
    (hs : starEach [e, e2] X.env = (false, eval e X.env) :: starEach [e2] X.env := by rfl) (hpl : (backTo pos (starEach [e2] X.env)).any (·.1) = false := by rfl) : PI X (.Tuple elts kk tpos) (.Call (.Name "zip" p) [e, e2] [] pos) (RZ.iZipA K ta) := by
  subst hK
  exact RZ.pi_zipA hg hm ha hs hpl
def zipD : List D → List D → List D := List.zipWith fun x y => D.tup [x, y]
theorem zipD_get {xs ys : List D} {i : Nat} {d : D} (h : (zipD xs ys)[i]? = some d) : ∃ x y, xs[i]? = some x ∧ ys[i]? = some y ∧ d = .tup [x, y] := by
  unfold zipD at h
  rw [List.getElem?_zipWith] at h
  cases e1 : xs[i]? with
  | none => rw [e1] at h; cases h
  | some x =>
    cases e2 : ys[i]? with
    | none => rw [e1, e2] at h; cases h
    | some y => rw [e1, e2] at h; cases h; exact ⟨x, y, rfl, rfl, rfl⟩
theorem zipD_len (xs ys : List D) : (zipD xs ys).length = min xs.length ys.length := by unfold zipD; rw [List.length_zipWith]
theorem sq_zipT {F : Fm} {H : Hp} {a b : Addr} {xs ys : List V} {ds es : List D} (s : SqT K (vis H M F) a xs) (r : RepL K (vis H M F) xs ds) (s2 : SqT K (vis H M F) b ys) (r2 : RepL K (vis H M F) ys es) : Sq K F M H (RZ.ItzT K a b) (zipD ds es) := by
  refine sq_sub fun M' H' m e i => ⟨fun hl => ?_, fun hl => ?_, fun x H2 d hd y => ?_⟩
  · rw [zipD_len] at hl
    have h1 : i < xs.length := by rw [r.length]; omega
    have h2 : i < ys.length := by rw [r2.length]; omega
    exact ⟨xs, ys, xs[i], ys[i], sqt_mono vis_le (sqt_mono e s), sqt_mono vis_le (sqt_mono e s2), by simp [h1], by simp [h2]⟩
  · rw [zipD_len] at hl
    exact ⟨xs, ys, sqt_mono vis_le (sqt_mono e s), sqt_mono vis_le (sqt_mono e s2), by rw [r.length, r2.length]; omega⟩
  · obtain ⟨T, u, v, rfl, hT, rfl, f1, f2⟩ := y
    have q1 := f1 xs (sqt_mono vis_le (sqt_mono e s))
    have q2 := f2 ys (sqt_mono vis_le (sqt_mono e s2))
    obtain ⟨x, y, hx, hy, rfl⟩ := zipD_get hd
    obtain ⟨u2, hu, ru⟩ := r.get hx
    obtain ⟨v2, hv, rv⟩ := r2.get hy
    rw [q1] at hu; cases hu
    rw [q2] at hv; cases hv
    obtain ⟨g, e2⟩ := go_new (o := .tup [u, v]) m hT
    exact ⟨g, .tup (.inl (.inl e2)) (.cons ((ru.mono e).mono g.ex) (.cons ((rv.mono e).mono g.ex) .nil))⟩
theorem sq_zipL {F : Fm} {H : Hp} {a b : Addr} {xs ys : List V} {ds es : List D} (s : SqL K (vis H M F) a xs) (r : RepL K (vis H M F) xs ds) (s2 : SqL K (vis H M F) b ys) (r2 : RepL K (vis H M F) ys es) : Sq K F M H (Itz K a b) (zipD ds es) := by
  refine sq_sub fun M' H' m e i => ⟨fun hl => ?_, fun hl => ?_, fun x H2 d hd y => ?_⟩
  · rw [zipD_len] at hl
    have h1 : i < xs.length := by rw [r.length]; omega
    have h2 : i < ys.length := by rw [r2.length]; omega
    exact ⟨xs, ys, xs[i], ys[i], vis_le.seq (e.seq s), vis_le.seq (e.seq s2), by simp [h1], by simp [h2]⟩
  · rw [zipD_len] at hl
    exact ⟨xs, ys, vis_le.seq (e.seq s), vis_le.seq (e.seq s2), by rw [r.length, r2.length]; omega⟩
  · obtain ⟨T, u, v, rfl, hT, rfl, f1, f2⟩ := y
    have q1 := f1 xs (vis_le.seq (e.seq s))
    have q2 := f2 ys (vis_le.seq (e.seq s2))
    obtain ⟨x, y, hx, hy, rfl⟩ := zipD_get hd
    obtain ⟨u2, hu, ru⟩ := r.get hx
    obtain ⟨v2, hv, rv⟩ := r2.get hy
    rw [q1] at hu; cases hu
    rw [q2] at hv; cases hv
    obtain ⟨g, e2⟩ := go_new (o := .tup [u, v]) m hT
    exact ⟨g, .tup (.inl (.inl e2)) (.cons ((ru.mono e).mono g.ex) (.cons ((rv.mono e).mono g.ex) .nil))⟩
theorem di_zip {I : List D → Mem → Prop} (h : DA K tr δ M fun ds M1 => ∃ xs ys, (ds = [.tup xs, .tup ys] ∨ ds = [.lst xs, .lst ys]) ∧ I (zipD xs ys) M1) : DI K (RZ.iZipA K tr) δ M I := fun F σ H en m R k => by
  refine h F σ H en m _ fun ds M1 vs H1 z g1 r1 => ?_
  obtain ⟨xs, ys, e, z⟩ := z
  rcases e with rfl | rfl
  · cases r1 with
    | cons a b =>
      obtain ⟨_, rfl, c⟩ := vs1 b
      clear b
      cases a with
      | tup s r =>
        cases c with
        | tup s2 r2 =>
          refine ⟨_, _, _, _, rfl, .inr ⟨sqt_mono vis_le s, sqt_mono vis_le s2, k _ M1 _ H1 z g1 (fun p o hp => ?_) (sq_zipT s r s2 r2)⟩⟩
          exact sq_zipT (sqt_mono (vis_new hp) s) (r.mono (vis_new hp)) (sqt_mono (vis_new hp) s2) (r2.mono (vis_new hp))
  · cases r1 with
    | cons a b =>
      obtain ⟨_, rfl, c⟩ := vs1 b
      clear b
      cases a with
      | lst s r =>
        cases c with
        | lst s2 r2 =>
          refine ⟨_, _, _, _, rfl, .inl ⟨vis_le.seq s, vis_le.seq s2, k _ M1 _ H1 z g1 (fun p o hp => ?_) (sq_zipL s r s2 r2)⟩⟩
          exact sq_zipL ((vis_new hp).seq s) (r.mono (vis_new hp)) ((vis_new hp).seq s2) (r2.mono (vis_new hp))
end
end DL

set_option Elab.async false
set_option linter.all false
set_option maxRecDepth 100000
set_option maxHeartbeats 4000000
/-! comprehensions of two generators, the memory stays -/
namespace DL
open PySem PySem.Spec PyProof.Rows L2
section
variable {K : PySem.W.Frag} {δ : En} {M : Mem} {Q : D → Mem → Prop} {te : TE} {tt tt1 : TT} {g g1 : TG} {js js1 : List Nat}
theorem de_lc2 {wi wi1 : TI} {vs vs1 : List Nat} (hj : ∀ j ∈ js, j ∈ vs) (hj1 : ∀ j ∈ js1, j ∈ vs1) (hv : ∀ j ∈ vs1, j ∈ vs) (h : DI K wi δ M fun ds M1 => ∃ Ac : Nat → List D → Prop, Ac 0 [] ∧
      (∀ i d acc, ds[i]? = some d → Ac i acc → DG K js g d (wipeD δ vs) M1 fun δ2 M2 => M2 = M1 ∧ DT K tt δ2 M1 fun b M3 => M3 = M1 ∧ if b = true then
        DI K wi1 δ2 M1 (fun es M4 => M4 = M1 ∧ ∃ Bc : Nat → List D → Prop, Bc 0 acc ∧
          (∀ j e bcc, es[j]? = some e → Bc j bcc → DG K js1 g1 e (wipeD δ2 vs1) M1 fun δ3 M5 => M5 = M1 ∧ DT K tt1 δ3 M1 fun b M6 => M6 = M1 ∧ if b = true then DE K te δ3 M1 (fun x M7 => M7 = M1 ∧ bcc.length < sizeLine ∧ Bc (j + 1) (bcc ++ [x])) else Bc (j + 1) bcc) ∧
          ∀ bcc, Bc es.length bcc → Ac (i + 1) bcc) else Ac (i + 1) acc) ∧
      ∀ acc, Ac ds.length acc → Q (.lst acc) M1) : DE K (tLc2 wi g tt wi1 g1 tt1 te vs vs1) δ M Q := fun F σ H en m QV k => by
  refine h F σ H en m _ fun ds M1 J H1 z g1' Sn S0 => ?_
  obtain ⟨Ac, a0, at', ae⟩ := z
  intro Dl hD
  have S := Sn Dl (.lst []) hD
  obtain ⟨fD, mD⟩ := g1'.ok.new hD
  have vn : Same (vis H1 M1 F) (vis (upd H1 Dl (.lst [])) M1 (fadd F Dl)) := vis_new hD
  have ok0 : MOk K (fadd F Dl) M1 (upd H1 Dl (.lst [])) := by
    obtain ⟨g, _⟩ := go_new (o := .lst []) g1'.ok hD
    refine ⟨fun b hb => ?_, fun a mo hm => ?_, tb_add g1'.ok.tb⟩
    · rcases fadd_of hb with hb | rfl
      · exact g.ok.fr b hb
      · exact ⟨by rw [upd_same]; simp, mD⟩
    · obtain ⟨ho, e, ro⟩ := g1'.ok.mo a mo hm
      exact ⟨ho, by rw [upd_ne (ne_of_none e hD)]; exact e, ro.mono vn⟩
  -- the state: the list so far, the rest kept
  let Z : List D → Hp → Prop := fun acc H' => ∃ xs, MOk K (fadd F Dl) M1 H' ∧ Same (vis (upd H1 Dl (.lst [])) M1 (fadd F Dl)) (vis H' M1 (fadd F Dl)) ∧ (∀ b, F b = true → H' b = H1 b) ∧ H' Dl = some (.lst xs) ∧ RepL K (vis H' M1 (fadd F Dl)) xs acc
  have zgo : ∀ {acc : List D} {H3 H5 : Hp}, Z acc H3 → Go K (fadd F Dl) M1 H3 M1 H5 → Z acc H5 := fun {acc H3 H5} ⟨xs, ok, ex, fr, hDl, rl⟩ g5 =>
    ⟨xs, g5.ok, ex.trans g5.ex, fun b hb => (g5.fr b (fadd_mk hb)).trans (fr b hb), (g5.fr Dl fadd_self).trans hDl, rl.mono g5.ex⟩
  have zadd : ∀ {acc : List D} {H6 : Hp} {v : V} {x : D}, Z acc H6 → Rep K (vis H6 M1 (fadd F Dl)) v x → ∃ xs, H6 Dl = some (.lst xs) ∧ xs.length = acc.length ∧ Z (acc ++ [x]) (upd H6 Dl (.lst (xs ++ [v]))) ∧ Same (vis H6 M1 (fadd F Dl)) (vis (upd H6 Dl (.lst (xs ++ [v]))) M1 (fadd F Dl)) := fun {acc H6 v x} ⟨xs, ok, ex, fr, hDl, rl⟩ r6 => by
    have hv : ∀ o, Same (vis H6 M1 (fadd F Dl)) (vis (upd H6 Dl o) M1 (fadd F Dl)) := fun o b u hb => by
      obtain ⟨h1, h2, h3⟩ := vis_of hb
      have hne := (fadd_no h2).2
      exact vis_mk (by rw [upd_ne hne]; exact h1) h2 h3
    refine ⟨xs, hDl, rl.length, ⟨xs ++ [v], ⟨fun b hb => ?_, fun a mo hm => ?_, tb_put ok.tb⟩, ex.trans (hv _), fun b hb => ?_, upd_same, (rl.mono (hv _)).append (.cons (r6.mono (hv _)) .nil)⟩, hv _⟩
    · rcases fadd_of hb with hb' | rfl
      · have hne : b ≠ Dl := fun e => by subst e; rw [fD] at hb'; cases hb'
        rw [upd_ne hne]; exact ok.fr b hb
      · exact ⟨by rw [upd_same]; simp, mD⟩
    · obtain ⟨ho, e1, ro⟩ := ok.mo a mo hm
      have hne : a ≠ Dl := fun z => by subst z; rw [mD] at hm; cases hm
      exact ⟨ho, by rw [upd_ne hne]; exact e1, ro.mono (hv _)⟩
    · have hne : b ≠ Dl := fun e => by subst e; rw [fD] at hb; cases hb
      rw [upd_ne hne]; exact fr b hb
  refine ⟨fun i n H' => i ≤ ds.length ∧ n = ds.length - i ∧ ∃ acc, Ac i acc ∧ Z acc H',
    ⟨ds.length, Nat.zero_le _, rfl, [], a0, [], ok0, Same.refl _, fun b hb => upd_ne (fun e => by subst e; rw [fD] at hb; cases hb), upd_same, .nil⟩, ?_⟩
  rintro i n H' ⟨hi, rfl, acc, ac, zz⟩
  obtain ⟨_, ok, ex, _⟩ := id zz
  by_cases hl : i < ds.length
  · refine .inr ⟨S.go i M1 H' hl ok ex, fun H3 => ∃ acc, Ac (i + 1) acc ∧ Z acc H3, fun H3 w => ⟨ds.length - (i + 1), by omega, by omega, rfl, w⟩, fun x H3 y => ?_⟩
    have hd : ds[i]? = some ds[i] := List.getElem?_eq_getElem hl
    obtain ⟨g3, rx⟩ := S.yl i M1 H' x H3 _ hd ok ex y
    have z3 := zgo zz g3
    have en3 : EnvR K (vis H3 M1 (fadd F Dl)) (wipe σ vs) (wipeD δ vs) := ((((en.mono g1'.ex).mono vn).mono ex).mono g3.ex).wipe vs
    refine at' i _ acc hd ac (fadd F Dl) (wipe σ vs) H3 x en3 g3.ok rx _ fun δ4 M4 σ4 H4 z4 g4 en4 w4 => ⟨?_, ?_⟩
    · rw [w4 vs hj, wipe_wipe σ vs vs fun _ h => h]
    · obtain ⟨rfl, z4⟩ := z4
      refine z4 (fadd F Dl) σ4 H4 en4 g4.ok _ fun bb M5 H5 z5 g5 => ?_
      obtain ⟨rfl, z5⟩ := z5
      have z6 := zgo z3 (g4.trans g5)
      cases bb with
      | false =>
        rw [if_neg Bool.false_ne_true] at z5
        rw [if_neg Bool.false_ne_true]
        exact ⟨acc, z5, z6⟩
      | true =>
        rw [if_pos rfl] at z5
        rw [if_pos rfl]
        have en5 := en4.mono g5.ex
        refine z5 (fadd F Dl) σ4 H5 en5 g5.ok _ fun es M6 J1 H6 y6 g6 _ T => ?_
        obtain ⟨rfl, Bc, b0, bt, be⟩ := y6
        have z7 := zgo z6 g6
        have en6 := en5.mono g6.ex
        refine ⟨fun j n H' => j ≤ es.length ∧ n = es.length - j ∧ ∃ bcc, Bc j bcc ∧ Z bcc H' ∧ Same (vis H6 M6 (fadd F Dl)) (vis H' M6 (fadd F Dl)), ⟨es.length, Nat.zero_le _, rfl, acc, b0, z7, Same.refl _⟩, ?_⟩
        rintro j n H7 ⟨hj', rfl, bcc, bc, zb, ex7⟩
        obtain ⟨_, ok7, _⟩ := id zb
        by_cases hm : j < es.length
        · refine .inr ⟨T.go j M6 H7 hm ok7 ex7, fun H3 => ∃ bcc, Bc (j + 1) bcc ∧ Z bcc H3 ∧ Same (vis H6 M6 (fadd F Dl)) (vis H3 M6 (fadd F Dl)), fun H3 w => ⟨es.length - (j + 1), by omega, by omega, rfl, w⟩, fun x H8 y => ?_⟩
          have he : es[j]? = some es[j] := List.getElem?_eq_getElem hm
          obtain ⟨g8, rx8⟩ := T.yl j M6 H7 x H8 _ he ok7 ex7 y
          have z8 := zgo zb g8
          have en8 : EnvR K (vis H8 M6 (fadd F Dl)) (wipe σ4 vs1) (wipeD δ4 vs1) := ((en6.mono ex7).mono g8.ex).wipe vs1
          refine bt j _ bcc he bc (fadd F Dl) (wipe σ4 vs1) H8 x en8 g8.ok rx8 _ fun δ9 M9 σ9 H9 z9 g9 en9 w9 => ⟨?_, ?_⟩
          · rw [w9 vs1 hj1, wipe_wipe σ4 vs1 vs1 fun _ h => h]
          · obtain ⟨rfl, z9⟩ := z9
            refine z9 (fadd F Dl) σ9 H9 en9 g9.ok _ fun cc M10 H10 z10 g10 => ?_
            obtain ⟨rfl, z10⟩ := z10
            have g910 := g9.trans g10
            have z11 := zgo z8 g910
            have ex11 := (ex7.trans g8.ex).trans g910.ex
            cases cc with
            | false =>
              rw [if_neg Bool.false_ne_true] at z10
              rw [if_neg Bool.false_ne_true]
              exact ⟨bcc, z10, z11, ex11⟩
            | true =>
              rw [if_pos rfl] at z10
              rw [if_pos rfl]
              refine z10 (fadd F Dl) σ9 H10 (en9.mono g10.ex) g10.ok _ fun e M12 v H12 z12 g12 r12 => ?_
              obtain ⟨rfl, hz, z12⟩ := z12
              obtain ⟨xs, hx, hxl, zn, sm⟩ := zadd (zgo z11 g12) r12
              exact ⟨xs, hx, by rw [hxl]; exact hz, bcc ++ [e], z12, zn, (ex11.trans g12.ex).trans sm⟩
        · have hj2 : j = es.length := by omega
          subst hj2
          exact .inl ⟨T.stop _ M6 H7 rfl ok7 ex7, bcc, be bcc bc, zb⟩
  · have hi' : i = ds.length := by omega
    subst hi'
    refine .inl ⟨S.stop _ M1 H' rfl ok ex, ?_⟩
    obtain ⟨xs, ok, ex, fr, hDl, rl⟩ := zz
    have sv : Same (vis H' M1 (fadd F Dl)) (vis H' M1 F) := fun b u hb => by
      obtain ⟨h1, h2, h3⟩ := vis_of hb
      exact vis_mk h1 (fadd_no h2).1 h3
    have g2 : Go K F M1 H1 M1 H' := by
      refine ⟨⟨fun b hb => ok.fr b (fadd_mk hb), fun a mo hm => ?_, tb_back ok.tb hDl⟩, (vn.trans ex).trans sv, fr⟩
      obtain ⟨ho, e1, ro⟩ := ok.mo a mo hm
      exact ⟨ho, e1, ro.mono sv⟩
    exact k (.lst acc) M1 _ H' (ae acc ac) (g1'.trans g2) (.lst (.inl (.inl (vis_mk hDl fD mD))) (rl.mono sv))
end
end DL

set_option Elab.async false
set_option linter.all false
set_option maxRecDepth 100000
set_option maxHeartbeats 4000000
/-! plain data compared and told: ints below a thousand, bools, none, lists and tuples of such -/
namespace DL
open PySem PySem.Spec PyProof.Rows L2
mutual
def pyD : D → PyData
  | .bl b => .bool b | .int i => .int i | .str x => .str x
  | .lst xs => .list (pyL xs) | .tup xs => .tuple (pyL xs) | _ => .none
def pyL : List D → List PyData
  | [] => []
  | x :: r => pyD x :: pyL r
end
mutual
/-- its weight: above what its text takes; a million and more where it isn't plain -/
def wD : D → Nat
  | .non => 4 | .bl _ => 5 | .int i => if 0 ≤ i ∧ i < 1000 then 10 else 1000000
  | .lst xs => 4 + wL xs | .tup xs => 4 + wL xs | _ => 1000000
def wL : List D → Nat
  | [] => 0
  | x :: r => wD x + 2 + wL r
end
mutual
theorem toPy_pyD : ∀ d : D, wD d < 1000000 → toPy d = some (pyD d)
  | .non, _ => rfl
  | .bl _, _ => rfl
  | .int _, _ => rfl
  | .str _, h => by simp only [wD] at h; omega
  | .lst xs, h => by
    rw [wD] at h
    rw [toPy, toPyL_pyL xs (by omega), pyD]; rfl
  | .tup xs, h => by
    rw [wD] at h
    rw [toPy, toPyL_pyL xs (by omega), pyD]; rfl
  | .dic _, h => by simp only [wD] at h; omega
  | .obj _ _, h => by simp only [wD] at h; omega
  | .raw _, h => by simp only [wD] at h; omega
theorem toPyL_pyL : ∀ l : List D, wL l < 1000000 → toPyL l = some (pyL l)
  | [], _ => rfl
  | x :: r, h => by
    rw [wL] at h
    rw [toPyL, toPy_pyD x (by omega), toPyL_pyL r (by omega), pyL]
end
mutual
theorem lay_pyD : ∀ d : D, wD d < 1000000 → (pyD d).canLay0 = true
  | .non, _ => rfl
  | .bl _, _ => rfl
  | .int _, _ => rfl
  | .str _, h => by simp only [wD] at h; omega
  | .lst xs, h => by
    rw [wD] at h
    rw [pyD, PyData.canLay0, lay_pyL xs (by omega)]
  | .tup xs, h => by
    rw [wD] at h
    rw [pyD, PyData.canLay0, lay_pyL xs (by omega)]
  | .dic _, h => by simp only [wD] at h; omega
  | .obj _ _, h => by simp only [wD] at h; omega
  | .raw _, h => by simp only [wD] at h; omega
theorem lay_pyL : ∀ l : List D, wL l < 1000000 → PyData.canLayAll0 (pyL l) = true
  | [], _ => rfl
  | x :: r, h => by
    rw [wL] at h
    rw [pyL, PyData.canLayAll0, lay_pyD x (by omega), lay_pyL r (by omega)]; rfl
end
theorem log_small {i : Int} (h0 : 0 ≤ i) (h1 : i < 1000) : i.natAbs.log2 < 1920 := by
  have h : i.natAbs < 2 ^ 10 := by omega
  by_cases e : i.natAbs = 0
  · rw [e]; decide
  · have := (Nat.log2_lt e).mpr h
    omega
mutual
theorem show_pyD : ∀ d : D, wD d < 1000000 → (pyD d).showable = true
  | .non, _ => rfl
  | .bl _, _ => rfl
  | .int i, h => by
    rw [wD] at h
    split at h
    · rename_i q
      rw [pyD, PyData.showable]
      exact decide_eq_true (log_small q.1 q.2)
    · omega
  | .str _, h => by simp only [wD] at h; omega
  | .lst xs, h => by
    rw [wD] at h
    rw [pyD, PyData.showable, show_pyL xs (by omega)]
  | .tup xs, h => by
    rw [wD] at h
    rw [pyD, PyData.showable, show_pyL xs (by omega)]
  | .dic _, h => by simp only [wD] at h; omega
  | .obj _ _, h => by simp only [wD] at h; omega
  | .raw _, h => by simp only [wD] at h; omega
theorem show_pyL : ∀ l : List D, wL l < 1000000 → PyData.showableAll (pyL l) = true
  | [], _ => rfl
  | x :: r, h => by
    rw [wL] at h
    rw [pyL, PyData.showableAll, show_pyD x (by omega), show_pyL r (by omega)]; rfl
end
theorem listText_le (ts : List Str) : (listText ts).length ≤ piled ts + 2 := by
  cases ts with
  | nil => decide
  | cons t r =>
    have h := textFrom_length_pos r 1 (("[" : Str) ++ (if (0 : Nat) > 0 then ", " else "" : String) ++ t) (Nat.succ_pos 0)
    have e : ((("[" : Str) ++ (if (0 : Nat) > 0 then ", " else "" : String) ++ t)).length = 1 + t.length := by
      rw [strLen_append, strLen_append]; rfl
    have h1 : (listText (t :: r)).length = (textFrom 1 (("[" : Str) ++ (if (0 : Nat) > 0 then ", " else "" : String) ++ t) r).length + 1 := by
      show (textFrom 0 "[" (t :: r) ++ "]").length = _
      rw [strLen_append]; rfl
    rw [h1, h, e, piled_cons]; omega
theorem tupleText_le (ts : List Str) : (tupleText ts).length ≤ piled ts + 3 := by
  unfold tupleText
  rw [strLen_append, strLen_append]
  have e1 : ((("(" : String) : Str)).length = 1 := rfl
  have e3 : (((if ts.length == 1 then ",)" else ")" : String) : Str)).length ≤ 2 := by split <;> decide
  rw [e1]
  by_cases h : ts = []
  · subst h
    show 1 + 0 + _ ≤ _
    omega
  · have := join_length_add ts h
    omega
mutual
theorem len_pyD : ∀ d : D, wD d < 1000000 → (pyD d).shown.length ≤ wD d
  | .non, _ => by decide
  | .bl b, _ => by cases b <;> decide
  | .int i, h => by
    rw [wD] at h ⊢
    split at h
    · rename_i q
      rw [if_pos q, pyD, PyData.shown]
      exact toString_length_le q.1 (by decide) (by omega)
    · omega
  | .str _, h => by simp only [wD] at h; omega
  | .lst xs, h => by
    rw [wD] at h ⊢
    rw [pyD, PyData.shown]
    have h1 := listText_le (PyData.shownAll (pyL xs))
    have h2 := len_pyL xs (by omega)
    omega
  | .tup xs, h => by
    rw [wD] at h ⊢
    rw [pyD, PyData.shown]
    have h1 := tupleText_le (PyData.shownAll (pyL xs))
    have h2 := len_pyL xs (by omega)
    omega
  | .dic _, h => by simp only [wD] at h; omega
  | .obj _ _, h => by simp only [wD] at h; omega
  | .raw _, h => by simp only [wD] at h; omega
theorem len_pyL : ∀ l : List D, wL l < 1000000 → piled (PyData.shownAll (pyL l)) ≤ wL l
  | [], _ => Nat.le_refl _
  | x :: r, h => by
    rw [wL] at h ⊢
    rw [pyL, PyData.shownAll, piled_cons]
    have h1 := len_pyD x (by omega)
    have h2 := len_pyL r (by omega)
    omega
end
/-! ### the depth -/
mutual
def dD : D → Nat
  | .lst xs => dL xs + 1 | .tup xs => dL xs + 1 | _ => 0
def dL : List D → Nat
  | [] => 0
  | x :: r => max (dD x) (dL r)
end
mutual
theorem depth_pyD : ∀ d : D, (pyD d).depth = dD d
  | .non => rfl
  | .bl _ => rfl
  | .int _ => rfl
  | .str _ => rfl
  | .lst xs => by rw [pyD, PyData.depth, dD, depth_pyL xs]
  | .tup xs => by rw [pyD, PyData.depth, dD, depth_pyL xs]
  | .dic _ => rfl
  | .obj _ _ => rfl
  | .raw _ => rfl
theorem depth_pyL : ∀ l : List D, PyData.depthAll (pyL l) = dL l
  | [] => rfl
  | x :: r => by rw [pyL, PyData.depthAll, dL, depth_pyD x, depth_pyL r]
end
mutual
theorem eqv_self : ∀ d : D, wD d < 1000000 → PyData.eqv (pyD d) (pyD d) = true
  | .non, _ => by simp only [pyD, PyData.eqv]
  | .bl b, _ => by rw [pyD, PyData.eqv]; exact beq_self_eq_true b
  | .int i, _ => by rw [pyD, PyData.eqv]; exact beq_self_eq_true i
  | .str x, h => by simp only [wD] at h; omega
  | .lst xs, h => by
    rw [wD] at h
    rw [pyD, PyData.eqv]
    exact eqvL_self xs (by omega)
  | .tup xs, h => by
    rw [wD] at h
    rw [pyD, PyData.eqv]
    exact eqvL_self xs (by omega)
  | .dic _, h => by simp only [wD] at h; omega
  | .obj _ _, h => by simp only [wD] at h; omega
  | .raw _, h => by simp only [wD] at h; omega
theorem eqvL_self : ∀ l : List D, wL l < 1000000 → PyData.eqvAll (pyL l) (pyL l) = true
  | [], _ => by simp only [pyL, PyData.eqvAll]
  | x :: r, h => by
    rw [wL] at h
    rw [pyL, PyData.eqvAll, eqv_self x (by omega), eqvL_self r (by omega)]; rfl
end
/-! ### naturals -/
abbrev nD (a : Nat) : D := .int (a : Int)
def nL (l : List Nat) : List D := l.map nD
theorem nL_len (l : List Nat) : (nL l).length = l.length := List.length_map ..
theorem nL_get {l : List Nat} {i : Nat} {d : D} (h : (nL l)[i]? = some d) : ∃ a, l[i]? = some a ∧ d = nD a := by
  unfold nL at h
  rw [List.getElem?_map] at h
  cases e : l[i]? with
  | none => rw [e] at h; cases h
  | some a => rw [e] at h; cases h; exact ⟨a, rfl, rfl⟩
theorem nL_mem {l : List Nat} {d : D} (h : d ∈ nL l) : ∃ a, a ∈ l ∧ d = nD a := by
  obtain ⟨a, ha, rfl⟩ := List.mem_map.mp h
  exact ⟨a, ha, rfl⟩
theorem dL_nL : ∀ l : List Nat, dL (nL l) = 0
  | [] => rfl
  | x :: r => by
    show max (dD (nD x)) (dL (nL r)) = 0
    rw [dL_nL r]; rfl
theorem wL_nL : ∀ l : List Nat, (∀ a, a ∈ l → a < 1000) → wL (nL l) = 12 * l.length
  | [], _ => rfl
  | x :: r, h => by
    show wD (nD x) + 2 + wL (nL r) = _
    have hx := h x List.mem_cons_self
    rw [wL_nL r fun a ha => h a (List.mem_cons_of_mem _ ha), wD, if_pos (by omega), List.length_cons]; omega
theorem eqvL_nL : ∀ a b : List Nat, PyData.eqvAll (pyL (nL a)) (pyL (nL b)) = decide (a = b)
  | [], [] => by simp [nL, pyL, PyData.eqvAll]
  | [], _ :: _ => by simp [nL, pyL, PyData.eqvAll]
  | _ :: _, [] => by simp [nL, pyL, PyData.eqvAll]
  | x :: a, y :: b => by
    show PyData.eqvAll (pyD (nD x) :: pyL (nL a)) (pyD (nD y) :: pyL (nL b)) = _
    rw [PyData.eqvAll, eqvL_nL a b, pyD, pyD, PyData.eqv]
    by_cases h : x = y
    · subst h
      by_cases h2 : a = b
      · subst h2; simp
      · simp [h2]
    · have : ((x : Int) == (y : Int)) = false := by
        rw [beq_eq_false_iff_ne]
        intro z; exact h (by omega)
      rw [this]
      simp [h]
section
variable {K : PySem.W.Frag} {M : Mem} {Q : D → Mem → Prop} {d e : D}
/-- plain: it can be compared and told -/
def Pl (d : D) : Prop := wD d < 1000000 ∧ dD d ≤ 50
theorem Pl.shaped (h : Pl d) : SeqAt.shaped (pyD d) = true := by
  unfold SeqAt.shaped
  rw [lay_pyD d h.1, depth_pyD]
  exact decide_eq_true (by have := h.2; omega)
theorem dr_eqP (h : Pl d ∧ Pl e ∧ Q (.bl (PyData.eqv (pyD d) (pyD e))) M) : DR K (rEqD K) d e M Q := dr_eqD (toPy_pyD d h.1.1) (toPy_pyD e h.2.1.1) h.1.shaped h.2.1.shaped h.2.2
theorem dr_neP (h : Pl d ∧ Pl e ∧ Q (.bl (!PyData.eqv (pyD d) (pyD e))) M) : DR K (rNeD K) d e M Q := dr_neD (toPy_pyD d h.1.1) (toPy_pyD e h.2.1.1) h.1.shaped h.2.1.shaped h.2.2
theorem dr_eqS (h : Pl d ∧ Q (.bl true) M) : DR K (rEqD K) d d M Q := dr_eqP ⟨h.1, h.1, by rw [eqv_self d h.1.1]; exact h.2⟩
theorem dr_neS (h : Pl d ∧ Q (.bl false) M) : DR K (rNeD K) d d M Q := dr_neP ⟨h.1, h.1, by rw [eqv_self d h.1.1]; exact h.2⟩
theorem dc_reprP (h : isSeq d = true ∧ Pl d ∧ Q (.str (pyD d).shown) M) : DC K (rRepr K) [d] M Q :=
  dc_repr h.1 (toPy_pyD d h.2.1.1) (show_pyD d h.2.1.1) (by rw [depth_pyD]; exact h.2.1.2) (by have := len_pyD d h.2.1.1; have := h.2.1.1; rw [sizeLine_eq]; omega) h.2.2
theorem dr_eqNN {a b : Nat} (h : Q (.bl (decide (a = b))) M) : DR K (rEqD K) (.int (a : Int)) (.int (b : Int)) M Q := dr_eqD rfl rfl rfl rfl (by
  have e : PyData.eqv (.int (a : Int)) (.int (b : Int)) = decide (a = b) := by
    rw [PyData.eqv]
    by_cases h : a = b
    · subst h; simp
    · rw [decide_eq_false h, beq_eq_false_iff_ne]; intro z; exact h (by omega)
  rw [e]; exact h)
theorem dr_neNN {a b : Nat} (h : Q (.bl (!decide (a = b))) M) : DR K (rNeD K) (.int (a : Int)) (.int (b : Int)) M Q := dr_neD rfl rfl rfl rfl (by
  have e : PyData.eqv (.int (a : Int)) (.int (b : Int)) = decide (a = b) := by
    rw [PyData.eqv]
    by_cases h : a = b
    · subst h; simp
    · rw [decide_eq_false h, beq_eq_false_iff_ne]; intro z; exact h (by omega)
  rw [e]; exact h)
theorem dr_eqBB {a b : Bool} (h : Q (.bl (a == b)) M) : DR K (rEqD K) (.bl a) (.bl b) M Q := dr_eqD rfl rfl rfl rfl (by rw [PyData.eqv]; exact h)
theorem dr_eqTN {a b : List Nat} (h : (∀ x, x ∈ a → x < 1000) ∧ a.length < 1000 ∧ (∀ x, x ∈ b → x < 1000) ∧ b.length < 1000 ∧ Q (.bl (decide (a = b))) M) : DR K (rEqD K) (.tup (nL a)) (.tup (nL b)) M Q := by
  have pl : ∀ l : List Nat, (∀ x, x ∈ l → x < 1000) → l.length < 1000 → Pl (.tup (nL l)) := fun l h1 h2 => ⟨by rw [wD, wL_nL l h1]; omega, by rw [dD, dL_nL]; omega⟩
  refine dr_eqP ⟨pl a h.1 h.2.1, pl b h.2.2.1 h.2.2.2.1, ?_⟩
  rw [pyD, pyD, PyData.eqv, eqvL_nL]
  exact h.2.2.2.2
theorem pl_tup {l : List Nat} (h1 : ∀ x, x ∈ l → x < 1000) (h2 : l.length < 1000) : Pl (.tup (nL l)) := ⟨by rw [wD, wL_nL l h1]; omega, by rw [dD, dL_nL]; omega⟩
theorem dr_neTN {a b : List Nat} (h : (∀ x, x ∈ a → x < 1000) ∧ a.length < 1000 ∧ (∀ x, x ∈ b → x < 1000) ∧ b.length < 1000 ∧ Q (.bl (!decide (a = b))) M) : DR K (rNeD K) (.tup (nL a)) (.tup (nL b)) M Q := by
  refine dr_neP ⟨pl_tup h.1 h.2.1, pl_tup h.2.2.1 h.2.2.2.1, ?_⟩
  rw [pyD, pyD, PyData.eqv, eqvL_nL]
  exact h.2.2.2.2
/-- [..] != [], [..] == [] -/
theorem dr_neNil {xs : List D} (h : wL xs < 900000 ∧ dL xs ≤ 49 ∧ Q (.bl (!xs.isEmpty)) M) : DR K (rNeD K) (.lst xs) (.lst []) M Q := by
  refine dr_neP ⟨⟨by rw [wD]; omega, by rw [dD]; omega⟩, ⟨by decide, by decide⟩, ?_⟩
  have e : PyData.eqv (pyD (.lst xs)) (pyD (.lst [])) = xs.isEmpty := by
    rw [pyD, pyD, PyData.eqv]
    cases xs <;> (simp only [pyL, PyData.eqvAll]; rfl)
  rw [e]; exact h.2.2
theorem dr_eqNil {xs : List D} (h : wL xs < 900000 ∧ dL xs ≤ 49 ∧ Q (.bl xs.isEmpty) M) : DR K (rEqD K) (.lst xs) (.lst []) M Q := by
  refine dr_eqP ⟨⟨by rw [wD]; omega, by rw [dD]; omega⟩, ⟨by decide, by decide⟩, ?_⟩
  have e : PyData.eqv (pyD (.lst xs)) (pyD (.lst [])) = xs.isEmpty := by
    rw [pyD, pyD, PyData.eqv]
    cases xs <;> (simp only [pyL, PyData.eqvAll]; rfl)
  rw [e]; exact h.2.2
theorem dr_neStr {x y : Str} (h : Q (.bl (!decide (x = y))) M) : DR K rNe (.str x) (.str y) M Q := dr_ne (x := .str x) (y := .str y) rfl rfl rfl (by
  have e : decide (V.str x = V.str y) = decide (x = y) := by simp
  rw [e]; exact h)
theorem dr_eqStr {x y : Str} (h : Q (.bl (decide (x = y))) M) : DR K rEq (.str x) (.str y) M Q := dr_eq (x := .str x) (y := .str y) rfl rfl rfl (by
  have e : decide (V.str x = V.str y) = decide (x = y) := by simp
  rw [e]; exact h)
theorem dr_shl1 {b : Nat} (h : b ≤ 1000000 ∧ Q (.int ((2 ^ b : Nat) : Int)) M) : DR K (rI CPow fun i j => .int (i * 2 ^ j.toNat)) (.int 1) (.int (b : Int)) M Q := by
  have := dr_shlN (K := K) (M := M) (Q := Q) (a := 1) (b := b) (by decide) h.1 (by rw [Nat.one_mul]; exact h.2)
  exact this
theorem dr_and1 {a : Nat} (h : Q (.int ((a % 2 : Nat) : Int)) M) : DR K (rI0 fun i j => .int (Builtin.bitAnd i j)) (.int (a : Int)) (.int 1) M Q := by
  have := dr_andN (K := K) (M := M) (Q := Q) (a := a) (b := 1) (by rw [Nat.and_one_is_mod]; exact h)
  exact this
theorem de_free {δ : En} {te : TE} (h : DE K te δ M fun d M1 => ∃ p xs, M1 p = some (.lst xs) ∧ Q d (mdel M1 p)) : DE K te δ M Q := fun F σ H en mm QV k => h F σ H en mm _ fun d M1 v H1 ⟨p, m, hp, q⟩ g r => by
  obtain ⟨g2, _⟩ := go_frz g.ok hp
  exact k d _ v H1 q (g.trans g2) (r.mono g2.ex)
end
/-! ### isinstance of plain values -/
def isInt : D → Bool
  | .int _ => true | .bl _ => true | _ => false
def isBl : D → Bool
  | .bl _ => true | _ => false
def isTup : D → Bool
  | .tup _ => true | _ => false
def isLst : D → Bool
  | .lst _ => true | _ => false
def isStr : D → Bool
  | .str _ => true | _ => false
theorem kit_int {d : D} {T : String} (h : tyD d = some T) : kitB T "int" = some (isInt d) := by
  have ki_NoneType : kitB "NoneType" "int" = some false := by decide +kernel
  have ki_bool : kitB "bool" "int" = some true := by decide +kernel
  have ki_int : kitB "int" "int" = some true := by decide +kernel
  have ki_str : kitB "str" "int" = some false := by decide +kernel
  have ki_list : kitB "list" "int" = some false := by decide +kernel
  have ki_tuple : kitB "tuple" "int" = some false := by decide +kernel
  have ki_dict : kitB "dict" "int" = some false := by decide +kernel
  cases d <;> first | (cases h; done) | (cases h; assumption)
theorem kit_bool {d : D} {T : String} (h : tyD d = some T) : kitB T "bool" = some (isBl d) := by
  have kb_NoneType : kitB "NoneType" "bool" = some false := by decide +kernel
  have kb_bool : kitB "bool" "bool" = some true := by decide +kernel
  have kb_int : kitB "int" "bool" = some false := by decide +kernel
  have kb_str : kitB "str" "bool" = some false := by decide +kernel
  have kb_list : kitB "list" "bool" = some false := by decide +kernel
  have kb_tuple : kitB "tuple" "bool" = some false := by decide +kernel
  have kb_dict : kitB "dict" "bool" = some false := by decide +kernel
  cases d <;> first | (cases h; done) | (cases h; assumption)
theorem kit_tuple {d : D} {T : String} (h : tyD d = some T) : kitB T "tuple" = some (isTup d) := by
  have kt_NoneType : kitB "NoneType" "tuple" = some false := by decide +kernel
  have kt_bool : kitB "bool" "tuple" = some false := by decide +kernel
  have kt_int : kitB "int" "tuple" = some false := by decide +kernel
  have kt_str : kitB "str" "tuple" = some false := by decide +kernel
  have kt_list : kitB "list" "tuple" = some false := by decide +kernel
  have kt_tuple : kitB "tuple" "tuple" = some true := by decide +kernel
  have kt_dict : kitB "dict" "tuple" = some false := by decide +kernel
  cases d <;> first | (cases h; done) | (cases h; assumption)
theorem kit_list {d : D} {T : String} (h : tyD d = some T) : kitB T "list" = some (isLst d) := by
  have kl_NoneType : kitB "NoneType" "list" = some false := by decide +kernel
  have kl_bool : kitB "bool" "list" = some false := by decide +kernel
  have kl_int : kitB "int" "list" = some false := by decide +kernel
  have kl_str : kitB "str" "list" = some false := by decide +kernel
  have kl_list : kitB "list" "list" = some true := by decide +kernel
  have kl_tuple : kitB "tuple" "list" = some false := by decide +kernel
  have kl_dict : kitB "dict" "list" = some false := by decide +kernel
  cases d <;> first | (cases h; done) | (cases h; assumption)
theorem kit_str {d : D} {T : String} (h : tyD d = some T) : kitB T "str" = some (isStr d) := by
  have ks_NoneType : kitB "NoneType" "str" = some false := by decide +kernel
  have ks_bool : kitB "bool" "str" = some false := by decide +kernel
  have ks_int : kitB "int" "str" = some false := by decide +kernel
  have ks_str : kitB "str" "str" = some true := by decide +kernel
  have ks_list : kitB "list" "str" = some false := by decide +kernel
  have ks_tuple : kitB "tuple" "str" = some false := by decide +kernel
  have ks_dict : kitB "dict" "str" = some false := by decide +kernel
  cases d <;> first | (cases h; done) | (cases h; assumption)
/-- a value of a built-in type -/
def Tp (d : D) : Prop := ∃ T, tyD d = some T
section
variable {K : PySem.W.Frag} {M : Mem} {Q : D → Mem → Prop} {d : D}
theorem dc_isInt (h : Tp d ∧ Q (.bl (isInt d)) M) : DC K (rIsi K) [d, .raw (.ty "int")] M Q := let ⟨⟨_, t⟩, q⟩ := h; dc_isi t (kit_int t) q
theorem dc_isBl (h : Tp d ∧ Q (.bl (isBl d)) M) : DC K (rIsi K) [d, .raw (.ty "bool")] M Q := let ⟨⟨_, t⟩, q⟩ := h; dc_isi t (kit_bool t) q
theorem dc_isTup (h : Tp d ∧ Q (.bl (isTup d)) M) : DC K (rIsi K) [d, .raw (.ty "tuple")] M Q := let ⟨⟨_, t⟩, q⟩ := h; dc_isi t (kit_tuple t) q
theorem dc_isLst (h : Tp d ∧ Q (.bl (isLst d)) M) : DC K (rIsi K) [d, .raw (.ty "list")] M Q := let ⟨⟨_, t⟩, q⟩ := h; dc_isi t (kit_list t) q
theorem dc_isStr (h : Tp d ∧ Q (.bl (isStr d)) M) : DC K (rIsi K) [d, .raw (.ty "str")] M Q := let ⟨⟨_, t⟩, q⟩ := h; dc_isi t (kit_str t) q
theorem ite_bb {b : Bool} {A B : Prop} (h1 : b = true → A) (h2 : b = false → B) : if b = true then A else B := ite_b h1 h2
end
/-- a loop whose turns store in the slots js alone what nobody asks later, with a word about the turns done -/
theorem ds_forP {K : PySem.W.Frag} {δ : En} {M : Mem} {wi : TI} {j : Nat} {t : TS} {q : DK} (js : List Nat) (h : DI K wi (wipeD δ js) M fun ds M1 => ∃ W : Nat → Mem → Prop, W 0 M1 ∧ (∀ i d M2, ds[i]? = some d → W i M2 → DS K t ((wipeD δ js).set j (some d)) M2 { q with nx := fun δ2 M3 => wipeD δ2 js = wipeD δ js ∧ W (i + 1) M3, ct := fun δ2 M3 => wipeD δ2 js = wipeD δ js ∧ W (i + 1) M3, bk := fun δ2 M3 => q.nx (wipeD δ2 js) M3 }) ∧ ∀ M2, W ds.length M2 → q.nx (wipeD δ js) M2) : DS K (tFor wi (gName j) t) δ M q := by
  refine ds_fgt0 js (ds_forN ?_)
  intro F σ H en m R k
  refine h F σ H en m R fun ds M1 J H1 z => k ds M1 J H1 ?_
  obtain ⟨W, w0, ht, he⟩ := z
  refine ⟨fun i δ' M' => δ' = wipeD δ js ∧ W i M', ⟨rfl, w0⟩, fun i d δ' M' hd pv => ?_, fun δ' M' pv => ?_⟩
  · obtain ⟨rfl, w⟩ := pv
    exact ds_fgt js ((ht i d M' hd w).imp (fun _ _ z => z) (fun _ _ z => z) (fun _ _ z => z) (fun _ _ z => z))
  · obtain ⟨rfl, w⟩ := pv
    exact he M' w
section
variable {K : PySem.W.Frag} {M : Mem} {Q : D → Mem → Prop}
theorem dr_eqN1 {a : Nat} (h : Q (.bl (decide (a = 1))) M) : DR K (rEqD K) (.int (a : Int)) (.int 1) M Q := dr_eqNN (b := 1) h
theorem dr_eqN0 {a : Nat} (h : Q (.bl (decide (a = 0))) M) : DR K (rEqD K) (.int (a : Int)) (.int 0) M Q := dr_eqNN (b := 0) h
theorem dr_neN0 {a : Nat} (h : Q (.bl (!decide (a = 0))) M) : DR K (rNeD K) (.int (a : Int)) (.int 0) M Q := dr_neNN (b := 0) h
theorem pow_int8 {m : Nat} (h : m ≤ 8) : (0 : Int) ≤ ((2 ^ m : Nat) : Int) ∧ ((2 ^ m : Nat) : Int) ≤ 256 := ⟨Int.natCast_nonneg _, Int.ofNat_le.mpr (Nat.pow_le_pow_right (by decide) h)⟩
end
section
variable {K : PySem.W.Frag} {δ : En} {M : Mem} {Q : D → Mem → Prop} {te : TE}
theorem all_bl (n : Nat) : (List.replicate n true).all id = true := by
  rw [List.all_eq_true]
  intro x hx
  exact (List.mem_replicate.mp hx).2
theorem map_bl (n : Nat) : List.replicate n (D.bl true) = (List.replicate n true).map D.bl := by rw [List.map_replicate]
/-- all([..]), each of them true -/
theorem de_allT {wi : TI} {vs : List Nat} {j : Nat} (hj : j ∈ vs) (h : DI K wi δ M fun ds M1 => ds.length < sizeLine ∧ (∀ d, d ∈ ds → DE K te ((wipeD δ vs).set j (some d)) M1 fun e M4 => M4 = M1 ∧ e = .bl true) ∧ Q (.bl true) M1) : DE K (tCB (rAll K) (tCons (tLc wi (gName j) tYes te vs) tNil)) δ M Q := by
  refine de_CB (da_cons (de_map hj ?_))
  intro F σ H en m R k
  refine h F σ H en m R fun ds M1 J H1 z => k ds M1 J H1 ⟨z.1, fun _ => .bl true, z.2.1, da_nil (dc_all (bs := List.replicate ds.length true) ?_ ?_)⟩
  · rw [List.map_const']
    exact congrArg D.lst (map_bl _)
  · rw [all_bl]
    exact z.2.2
theorem de_allT2 {wi wi1 : TI} {vs vs1 : List Nat} {j j1 : Nat} (hj : j ∈ vs) (hj1 : j1 ∈ vs1) (hv : ∀ i ∈ vs1, i ∈ vs) (h : DI K wi δ M fun ds M1 => ds.length ≤ 1000 ∧ (∀ d, d ∈ ds → DI K wi1 ((wipeD δ vs).set j (some d)) M1 fun es M4 => M4 = M1 ∧ es.length ≤ 1000 ∧
      ∀ e, e ∈ es → DE K te ((wipeD ((wipeD δ vs).set j (some d)) vs1).set j1 (some e)) M1 fun x M7 => M7 = M1 ∧ x = .bl true) ∧ Q (.bl true) M1) : DE K (tCB (rAll K) (tCons (tLc2 wi (gName j) tYes wi1 (gName j1) tYes te vs vs1) tNil)) δ M Q := by
  refine de_CB (da_cons (de_lc2 (js := [j]) (js1 := [j1]) (fun i hi => by rw [List.mem_singleton.mp hi]; exact hj) (fun i hi => by rw [List.mem_singleton.mp hi]; exact hj1) hv ?_))
  intro F σ H en m R k
  refine h F σ H en m R fun ds M1 J H1 z => k ds M1 J H1 ?_
  obtain ⟨hl, ht, q⟩ := z
  refine ⟨fun i acc => ∃ n, n ≤ 1000 * i ∧ acc = List.replicate n (.bl true), ⟨0, by omega, rfl⟩, fun i d acc hd ⟨n, hn, ha⟩ => dg_name ⟨rfl, dt_yes ⟨rfl, ?_⟩⟩, fun acc ⟨n, hn, ha⟩ => ?_⟩
  · rw [if_pos rfl]
    have hi := take_lt hd
    intro F σ H en m R k
    refine ht d (mem_of_get hd) F σ H en m R fun es M4 J H1 z => k es M4 J H1 ?_
    obtain ⟨rfl, hes, he⟩ := z
    refine ⟨rfl, fun j acc => ∃ n, n ≤ 1000 * i + j ∧ acc = List.replicate n (.bl true), ⟨n, by omega, ha⟩, fun j e bcc hej ⟨n2, hn2, hb⟩ => dg_name ⟨rfl, dt_yes ⟨rfl, ?_⟩⟩, fun bcc ⟨n2, hn2, hb⟩ => ⟨n2, by omega, hb⟩⟩
    rw [if_pos rfl]
    have hj2 := take_lt hej
    refine (he e (mem_of_get hej)).imp fun x M7 hx => ⟨hx.1, ?_, n2 + 1, by omega, ?_⟩
    · rw [hb, List.length_replicate, sizeLine_eq]; omega
    · rw [hb, hx.2, List.replicate_succ']
  · refine da_nil (dc_all (bs := List.replicate n true) ?_ ?_)
    · rw [ha]
      exact congrArg D.lst (map_bl _)
    · rw [all_bl]
      exact q
end
section
variable {K : PySem.W.Frag} {M : Mem} {Q : D → Mem → Prop}
theorem dc_lenM {p : Addr} {xs : List D} (h : M p = some (.lst xs) ∧ Q (.int (xs.length : Int)) M) : DC K (fun xs H Q => ∃ x n, xs = [x] ∧ LenV K x H n ∧ Q (.int n) H) [.raw (.ref p)] M Q := fun F H vs m r QV k => by
  obtain ⟨v, rfl, r1⟩ := vs1 r
  clear r
  cases r1
  obtain ⟨ho, e, ro⟩ := m.mo p _ h.1
  cases ro with
  | lst ro => exact ⟨_, xs.length, rfl, .inl ⟨_, SqL.of e, ro.length.symm⟩, k _ M _ H h.2 (Go.refl m) (.int _)⟩
end
theorem pe_bmK {X : Cx} {T id : String} {name : Str} {r : V → List V → Hp → VK → Prop} {o e : Expr} {es : List Expr} {to : TE} {t : TA} {apos cpos : Pos} (K : PySem.W.Frag) (pa : PlainAttrs T) (slot : Slot T name id) (hty : typeOf (.builtin id) = pure (.type "method_descriptor")) (hm : MtR X id r) (ho : PE X o to) (ha : PA X (e :: es) t) (hK : X.K = K := by rfl)
    (hbase : attributeBase o name X.env (eval o X.env) = eval o X.env := by rfl)
    (hfew : ((backTo cpos (starEach (e :: es) X.env)).all (fun x => !x.1) && (backToKw cpos (keywordEach [] X.env)).all (fun x => x.1.isSome) && decide ((e :: es).length + ([] : List Keyword).length + (if ([] : List Keyword).isEmpty then 0 else 1) < 30)) = true := by rfl)
    (hline : (apos.endLine == cpos.line) = true := by rfl) (hs : starEach (e :: es) X.env = (false, eval e X.env) :: starEach es X.env := by rfl) (hplain : (backTo cpos (starEach es X.env)).any (·.1) = false := by rfl) :
    PE X (.Call (.Attribute o name apos) (e :: es) [] cpos) (tBM K T r to t) := by
  subst hK
  exact pe_bm pa slot hty hm ho ha hbase hfew hline hs hplain
section
variable {K : PySem.W.Frag} {δ : En} {M : Mem} {Q : D → Mem → Prop}
theorem wL_ones : ∀ l : List D, wL (l.map fun _ => D.int 1) = 12 * l.length
  | [] => rfl
  | x :: r => by
    show wD (D.int 1) + 2 + wL (r.map fun _ => D.int 1) = _
    rw [wL_ones r, wD, if_pos (by decide), List.length_cons]; omega
theorem dL_ones : ∀ l : List D, dL (l.map fun _ => D.int 1) = 0
  | [] => rfl
  | x :: r => by
    show max (dD (D.int 1)) (dL (r.map fun _ => D.int 1)) = 0
    rw [dL_ones r]; rfl
theorem ones_any (l : List D) (c : D → Bool) : (!((l.filter c).map fun _ => D.int 1).isEmpty) = l.any c := by
  rw [List.isEmpty_map]
  cases h : l.any c with
  | true =>
    obtain ⟨x, hx, hc⟩ := List.any_eq_true.mp h
    have : x ∈ l.filter c := List.mem_filter.mpr ⟨hx, hc⟩
    cases e : l.filter c with
    | nil => rw [e] at this; cases this
    | cons _ _ => rfl
  | false =>
    have : l.filter c = [] := List.filter_eq_nil_iff.mpr fun x hx hc => by
      rw [List.any_eq_true.mpr ⟨x, hx, hc⟩] at h; cases h
    rw [this]; rfl
theorem de_ones {wi : TI} {vs : List Nat} {j : Nat} {tt : TT} (hj : j ∈ vs) (h : DI K wi δ M fun ds M1 => ds.length ≤ 1000 ∧ ∃ c : D → Bool, (∀ d, d ∈ ds → DT K tt ((wipeD δ vs).set j (some d)) M1 fun b M3 => M3 = M1 ∧ b = c d) ∧ Q (.lst ((ds.filter c).map fun _ => D.int 1)) M1) : DE K (tLc wi (gName j) tt (tC (.int 1)) vs) δ M Q := by
  refine de_filt hj ?_
  intro F σ H en m R k
  refine h F σ H en m R fun ds M1 J H1 z => k ds M1 J H1 ?_
  obtain ⟨hl, c, hc, q⟩ := z
  exact ⟨by rw [sizeLine_eq]; omega, c, fun _ => D.int 1, hc, fun _ _ _ => de_int ⟨rfl, rfl⟩, q⟩
/-- [1 for x in xs if c] != [] -/
theorem de_some {wi : TI} {vs : List Nat} {j : Nat} {tt : TT} (hj : j ∈ vs) (h : DI K wi δ M fun ds M1 => ds.length ≤ 1000 ∧ ∃ c : D → Bool, (∀ d, d ∈ ds → DT K tt ((wipeD δ vs).set j (some d)) M1 fun b M3 => M3 = M1 ∧ b = c d) ∧ Q (.bl (ds.any c)) M1) : DE K (tOp (rNeD K) (tLc wi (gName j) tt (tC (.int 1)) vs) (tLst tNil)) δ M Q := by
  refine de_op (de_ones hj ?_)
  intro F σ H en m R k
  refine h F σ H en m R fun ds M1 J H1 z => k ds M1 J H1 ?_
  obtain ⟨hl, c, hc, q⟩ := z
  have := List.length_filter_le c ds
  refine ⟨hl, c, hc, de_lst (da_nil ⟨Nat.zero_le _, dr_neNil ⟨by rw [wL_ones]; omega, by rw [dL_ones]; omega, ?_⟩⟩)⟩
  rw [ones_any]
  exact q
/-- [1 for x in xs if c] == [] -/
theorem de_noone {wi : TI} {vs : List Nat} {j : Nat} {tt : TT} (hj : j ∈ vs) (h : DI K wi δ M fun ds M1 => ds.length ≤ 1000 ∧ ∃ c : D → Bool, (∀ d, d ∈ ds → DT K tt ((wipeD δ vs).set j (some d)) M1 fun b M3 => M3 = M1 ∧ b = c d) ∧ Q (.bl (!ds.any c)) M1) : DE K (tOp (rEqD K) (tLc wi (gName j) tt (tC (.int 1)) vs) (tLst tNil)) δ M Q := by
  refine de_op (de_ones hj ?_)
  intro F σ H en m R k
  refine h F σ H en m R fun ds M1 J H1 z => k ds M1 J H1 ?_
  obtain ⟨hl, c, hc, q⟩ := z
  have := List.length_filter_le c ds
  refine ⟨hl, c, hc, de_lst (da_nil ⟨Nat.zero_le _, dr_eqNil ⟨by rw [wL_ones]; omega, by rw [dL_ones]; omega, ?_⟩⟩)⟩
  rw [← ones_any, Bool.not_not] at q
  exact q
end
section
variable {K : PySem.W.Frag} {M : Mem} {Q : D → Mem → Prop}
theorem inV_nats (a : Nat) : ∀ l : List Nat, inV (.int (a : Int)) ((l.map fun (x : Nat) => (x : Int)).map V.int) = decide (a ∈ l)
  | [] => rfl
  | x :: r => by
    have ih := inV_nats a r
    unfold inV at ih ⊢
    rw [List.map_cons, List.map_cons, List.any_cons, ih]
    show ((x : Int) == (a : Int) || _) = _
    by_cases h : a = x
    · subst h; simp
    · have : ((x : Int) == (a : Int)) = false := by
        rw [beq_eq_false_iff_ne]; omega
      rw [this, Bool.false_or]
      exact decide_eq_decide.mpr (by simp [h])
theorem dr_inN {neg : Bool} {a : Nat} {l : List Nat} (h : Q (.bl (if neg then !decide (a ∈ l) else decide (a ∈ l))) M) : DR K (rIn K neg) (.int (a : Int)) (.lst (nL l)) M Q := fun F H v u m ra rb QV k => by
  cases ra
  cases rb with
  | lst s r =>
    have e : nL l = (l.map fun (x : Nat) => (x : Int)).map D.int := by unfold nL; rw [List.map_map]; rfl
    rw [e] at r
    obtain rfl := RepL.of_ints r
    refine ⟨_, _, rfl, .inl (vis_le.seq s), rfl, ?_, k _ M _ H (by rw [inV_nats]; exact h) (Go.refl m) (.bl _)⟩
    rw [List.all_eq_true]
    intro x hx
    obtain ⟨i, _, rfl⟩ := List.mem_map.mp hx
    rfl
end
section
variable {K : PySem.W.Frag} {M : Mem} {Q : D → Mem → Prop} {p : Addr} {ds : List D}
theorem dr_neMNil (h : M p = some (.lst ds) ∧ wL ds < 900000 ∧ dL ds ≤ 49 ∧ Q (.bl (!ds.isEmpty)) M) : DR K (rNeD K) (.raw (.ref p)) (.lst []) M Q := fun F H v u m a b QV k => by
  obtain ⟨hp, hw, hd, q⟩ := h
  cases a
  obtain ⟨ho, e, ro⟩ := m.mo p _ hp
  cases ro with
  | lst ro =>
    have pl : Pl (.lst ds) := ⟨by rw [wD]; omega, by rw [dD]; omega⟩
    have pn : Pl (.lst []) := ⟨by decide, by decide⟩
    have e2 : PyData.eqv (pyD (.lst ds)) (pyD (.lst [])) = ds.isEmpty := by
      rw [pyD, pyD, PyData.eqv]
      cases ds <;> (simp only [pyL, PyData.eqvAll]; rfl)
    refine ⟨pyD (.lst ds), pyD (.lst []), ?_, toPy_dp (b.mono vis_le) (toPy_pyD _ pn.1), pl.shaped, pn.shaped, k _ M _ H (by rw [e2]; exact q) (Go.refl m) (.bl _)⟩
    rw [pyD]
    exact .lst (SqL.of e) (toPyL_dp (ro.mono vis_le) (toPyL_pyL ds (by omega)))
theorem dr_ixM {i : Int} {d : D} (h : M p = some (.lst ds) ∧ atI ds i = some d ∧ Q d M) : DR K (rIx K) (.raw (.ref p)) (.int i) M Q := dr_or1 fun F H v u m a b QV k => by
  obtain ⟨hp, hi, q⟩ := h
  cases a; cases b
  obtain ⟨ho, e, ro⟩ := m.mo p _ hp
  cases ro with
  | lst ro =>
    obtain ⟨w, hw, rw'⟩ := atI_rep ro hi
    exact ⟨p, _, _, w, rfl, rfl, SqL.of e, hw, k d M w H q (Go.refl m) rw'⟩
end
end DL

set_option Elab.async false
set_option linter.all false
set_option maxRecDepth 100000
set_option maxHeartbeats 4000000
/-! more rules: tuples put together, what is in a tuple, extend, sorted tuples, objects that still change -/
namespace DL
open PySem PySem.Spec PyProof.Rows L2
section
variable {X : Cx}
theorem units65 {k : Nat} {A : Around} (r : Room k A) : A.units + 65 < cLine := by have := r.un; omega
theorem op_catAK (K : PySem.W.Frag) (h : X.K = K := by rfl) : OpR X (binaryOp .Add) (rCatA K) := by subst h; exact op_catA
/-- x in t, t a tuple of data -/
def rInT (K : PySem.W.Frag) (neg : Bool) : R2 := fun x y H Q => ∃ d ds, Dp K H x d ∧ Dp K H y (.tuple ds) ∧ SeqAt.shaped d = true ∧ SeqAt.shaped (.tuple ds) = true ∧ Q (.bl (if neg then !ds.any fun z => PyData.eqv z d else ds.any fun z => PyData.eqv z d)) H
theorem room_in_shapedT {A : Around} {d : PyData} {ds : List PyData} (sd : SeqAt.shaped d = true) (hu : A.units + 65 < cLine) : A.units + 1 + min (PyData.depthAll ds) d.depth < cLine := by
  have h1 := SeqAt.depth_of_shaped sd
  have h2 : min (PyData.depthAll ds) d.depth ≤ d.depth := Nat.min_le_right _ _
  omega
theorem op_inTK (K : PySem.W.Frag) (hu : X.A.units + 65 < cLine) (h : X.K = K := by rfl) : OpR X (compareOp .In) (rInT K false) := by
  subst h
  intro pins s σ H x y v u Q I rx ry h
  obtain ⟨d, ds, hd, he, sd, se, q⟩ := h
  obtain ⟨as, r1⟩ := Dp.reads I d x v hd rx
  obtain ⟨bs, r2⟩ := Dp.reads I (.tuple ds) y u he ry
  exact SeqAt.in_tuple_reads r2 r1 (SeqAt.canLay_of_shaped se) (SeqAt.canLay_of_shaped sd) (room_in_shapedT sd hu) ⟨.bl _, H, I, rfl, q⟩
theorem op_ninTK (K : PySem.W.Frag) (hu : X.A.units + 65 < cLine) (h : X.K = K := by rfl) : OpR X (compareOp .NotIn) (rInT K true) := by
  subst h
  intro pins s σ H x y v u Q I rx ry h
  obtain ⟨d, ds, hd, he, sd, se, q⟩ := h
  obtain ⟨as, r1⟩ := Dp.reads I d x v hd rx
  obtain ⟨bs, r2⟩ := Dp.reads I (.tuple ds) y u he ry
  exact SeqAt.notIn_tuple_reads r2 r1 (SeqAt.canLay_of_shaped se) (SeqAt.canLay_of_shaped sd) (room_in_shapedT sd hu) ⟨.bl _, H, I, rfl, q⟩
/-- list.extend over any list -/
theorem list_extendW (l : Addr) (xs : Array Value) (n : Nat) (b : Addr) (ys : Array Value) (n2 : Nat) (dd : Option Addr) (sl : Array (Option Value)) (h0 : ¬(!xs.isEmpty && Builtin.List.listTooLong (xs.size + ys.size)) = true) (h1 : xs.size ≤ sizeLine) (h2 : xs.size + ys.size ≤ sizeLine + 1) :
    Meets (Builtin.«list.extend» ⟨[.ref l, .ref b], []⟩) (fun _ R s => s.heap.get? l = some { cls := .type "list", dict := none, data := .seq xs n, slots := #[] } ∧ s.heap.get? b = some { cls := .type "list", dict := dd, data := .seq ys n2, slots := sl } ∧
      R (.ok (.ret Value.none)) { s with heap := s.heap.update l (Obj.mapSeq fun x => x ++ ys), toks := s.toks }) := by
  refine .of_wp fun prog w A R s h => ?_
  obtain ⟨hp, g, d, tk, os⟩ := s
  obtain ⟨hl, hb, h⟩ := h
  have f1 := AutoSeq1.idx_int
  have f2 := AutoSeq1.sub_tuple_tuple
  have f3 := AutoSeq1.sub_list_list
  have f4 := AutoSeq1.sub_tuple_list
  have f5 := AutoSeq1.sub_list_tuple
  have hz : (xs ++ ys).size ≤ sizeLine + 1 := by
    rw [Array.size_append]
    exact h2
  wp_walk using (wpAny_updateSeq hl rfl (hz := h1) (_hz' := hz)), wpAny_loadPart' hl, wpAny_loadPart' hb
  exact ⟨_, rfl, h⟩
/-- l.extend(m), m any list -/
def rExtS (K : PySem.W.Frag) : V → List V → Hp → VK → Prop := fun x vs H Q => ∃ l b xs zs, x = .ref l ∧ vs = [.ref b] ∧ H l = some (.lst xs) ∧ SqL K H b zs ∧ xs.length + zs.length ≤ sizeLine ∧ Q .non (upd H l (.lst (xs ++ zs)))
theorem mt_extS (K : PySem.W.Frag) (h : X.K = K := by rfl) : MtM X "list.extend" (rExtS K) := by
  subst h
  intro pins s σ H x vs v us Q I rx rv h
  obtain ⟨l, b, xs, zs, rfl, rfl, hH, hB, hz, q⟩ := h
  cases rx
  obtain ⟨u, rfl, ru⟩ := rv.one
  cases ru
  obtain ⟨z, its, n, r, hl, e⟩ := I.lstM hH
  obtain ⟨its2, r2, pl2, hl2⟩ := I.list hB
  obtain ⟨⟨cls2, dd2, data2, sl2⟩, ho2, hc2, n2, hd2⟩ := pl2.isList
  simp only at hc2 hd2
  subst hc2 hd2
  have e1 := r.length
  have e2 := r2.length
  have hsz : its.toArray.size + its2.toArray.size ≤ sizeLine := by rw [List.size_toArray, List.size_toArray]; omega
  have hlong : ¬ (!its.toArray.isEmpty && Builtin.List.listTooLong (its.toArray.size + its2.toArray.size)) = true := by
    rw [notLongL hsz, Bool.and_false]
    exact Bool.false_ne_true
  refine call_meets PySem.F.slot_list_extend ⟨_, e, rfl⟩ PySem.F.entry_list_extend (PySem.F.args_list_extend_2 _ _)
    (list_extendW l its.toArray n b its2.toArray n2 dd2 sl2 hlong (by rw [List.size_toArray]; omega) (by omega)) ⟨e, ho2, ?_⟩
  refine ⟨.non, _, I.lset (its' := its ++ its2) hH e (by simp) (r.append r2) ?_, rfl, q⟩
  rw [List.length_append]
  omega
end
theorem sl_tupK {X : Cx} (K : PySem.W.Frag) (h : X.K = K := by rfl) : SlR X (rSlA K) := by subst h; exact sl_tupA
theorem sl_listK {X : Cx} (K : PySem.W.Frag) (h : X.K = K := by rfl) : SlR X (rSlL K) := by subst h; exact sl_list
def rSortV (K : PySem.W.Frag) : List V → Hp → VK → Prop := fun vs H Q => ∃ (d : Nat) (B : Int), 1 ≤ d ∧ rSortU K d B vs H Q
theorem cr_sortVK {X : Cx} (K : PySem.W.Frag) (h : X.K = K := by rfl) : CallR X (.builtin "sorted") (rSortV K) := by
  subst h
  intro pins s σ H vs us Q I r ⟨d, B, hd, h⟩
  exact cr_sortT hd pins s σ H vs us Q I r h
theorem cr_sortTK {X : Cx} (K : PySem.W.Frag) (d : Nat) (B : Int) (hd : 1 ≤ d := by decide) (h : X.K = K := by rfl) : CallR X (.builtin "sorted") (rSortU K d B) := by subst h; exact cr_sortT hd
section
variable {K : PySem.W.Frag} {δ : En} {M : Mem} {Q : D → Mem → Prop} {R : Bool → Mem → Prop} {te to : TE} {d e : D} {tr : TA} {C : Addr} {m : Str}
theorem dr_catA {xs ys : List D} (h : xs.length + ys.length ≤ sizeLine ∧ Q (.tup (xs ++ ys)) M) : DR K (rCatA K) (.tup xs) (.tup ys) M Q := fun F H v u m a b QV k => by
  obtain ⟨hz, q⟩ := h
  cases a with
  | @tup a1 vs1 _ s r =>
    cases b with
    | @tup a2 vs2 _ s2 r2 =>
      refine ⟨a1, a2, vs1, vs2, rfl, rfl, sqt_mono vis_le s, sqt_mono vis_le s2, by rw [r.length, r2.length]; exact hz, fun hx => ?_, fun hx hy => ?_, fun hx hy p hp => ?_⟩
      · subst hx
        cases r
        exact k _ M _ H q (Go.refl m) (.tup s2 r2)
      · subst hy
        cases r2
        rw [List.append_nil] at q
        exact k _ M _ H q (Go.refl m) (.tup s r)
      · obtain ⟨g, e⟩ := go_new (o := .tup _) m hp
        exact k _ M _ _ q g (.tup (.inl (.inl e)) ((r.mono g.ex).append (r2.mono g.ex)))
/-- what a slice has -/
def cutD (xs : List D) (lo hi : Option Int) : List D := (xs.drop (HT.sIx xs.length 0 lo)).take (HT.sIx xs.length xs.length hi - HT.sIx xs.length 0 lo)
theorem RepL.cut {G : Hp} {vs : List V} {ds : List D} (r : RepL K G vs ds) (lo hi : Option Int) : RepL K G (cutV vs lo hi) (cutD ds lo hi) := by
  unfold cutV cutD
  rw [r.length]
  exact (r.drop _).take _
theorem cutD_all {ds : List D} {lo hi : Option Int} (h : HT.sIx ds.length 0 lo = 0 ∧ HT.sIx ds.length ds.length hi = ds.length) : cutD ds lo hi = ds := by
  unfold cutD
  rw [h.1, h.2, List.drop_zero, Nat.sub_zero, List.take_length]
theorem de_slT {tl th : TO} (h : DE K te δ M fun d M1 => ∃ xs, d = .tup xs ∧ DO K tl δ M1 fun l M2 => DO K th δ M2 fun u M3 => Q (.tup (cutD xs l u)) M3) : DE K (tSl (rSlA K) te tl th) δ M Q := fun F σ H en m QV k => by
  refine h F σ H en m _ fun d M1 v H1 z g1 r => ?_
  obtain ⟨xs, rfl, z⟩ := z
  cases r with
  | @tup a vs _ s r =>
    refine z F σ H1 (en.mono g1.ex) g1.ok _ fun l M2 H2 z2 g2 => ?_
    refine z2 F σ H2 ((en.mono g1.ex).mono g2.ex) g2.ok _ fun u M3 H3 z3 g3 => ?_
    have g := (g1.trans g2).trans g3
    have ex := g2.ex.trans g3.ex
    have s3 := sqt_mono ex s
    have r3 := r.mono ex
    refine ⟨a, vs, rfl, sqt_mono vis_le s3, fun hw => ?_, fun hw p hp => ?_⟩
    · rw [r.length] at hw
      have z4 : Q (.tup (cutD xs l u)) M3 := z3
      rw [cutD_all hw] at z4
      exact k _ M3 _ H3 z4 g (.tup s3 r3)
    · obtain ⟨g4, e⟩ := go_new (o := .tup _) g3.ok hp
      exact k _ M3 _ _ z3 (g.trans g4) (.tup (.inl (.inl e)) ((r3.mono g4.ex).cut l u))
theorem de_slL {tl th : TO} (h : DE K te δ M fun d M1 => ∃ xs, d = .lst xs ∧ DO K tl δ M1 fun l M2 => DO K th δ M2 fun u M3 => Q (.lst (cutD xs l u)) M3) : DE K (tSl (rSlL K) te tl th) δ M Q := fun F σ H en m QV k => by
  refine h F σ H en m _ fun d M1 v H1 z g1 r => ?_
  obtain ⟨xs, rfl, z⟩ := z
  cases r with
  | @lst a vs _ s r =>
    refine z F σ H1 (en.mono g1.ex) g1.ok _ fun l M2 H2 z2 g2 => ?_
    refine z2 F σ H2 ((en.mono g1.ex).mono g2.ex) g2.ok _ fun u M3 H3 z3 g3 => ?_
    have g := (g1.trans g2).trans g3
    have ex := g2.ex.trans g3.ex
    refine ⟨a, vs, rfl, vis_le.seq (ex.seq s), fun p hp => ?_⟩
    obtain ⟨g4, e⟩ := go_new (o := .lst _) g3.ok hp
    exact k _ M3 _ _ z3 (g.trans g4) (.lst (.inl (.inl e)) (((r.mono ex).mono g4.ex).cut l u))
theorem dr_inTP {neg : Bool} {ds : List D} (h : Pl d ∧ Pl (.tup ds) ∧ Q (.bl (if neg then !ds.any fun z => PyData.eqv (pyD z) (pyD d) else ds.any fun z => PyData.eqv (pyD z) (pyD d))) M) : DR K (rInT K neg) d (.tup ds) M Q := fun F H v u m a b QV k => by
  obtain ⟨h1, h2, q⟩ := h
  have pyL_any : ∀ l : List D, (pyL l).any (fun z => PyData.eqv z (pyD d)) = l.any fun z => PyData.eqv (pyD z) (pyD d) := fun l => by
    induction l with
    | nil => rfl
    | cons x r ih => rw [pyL, List.any_cons, List.any_cons, ih]
  refine ⟨pyD d, pyL ds, toPy_dp (a.mono vis_le) (toPy_pyD _ h1.1), toPy_dp (b.mono vis_le) (toPy_pyD (.tup ds) h2.1), h1.shaped, h2.shaped, ?_⟩
  rw [pyL_any ds]
  exact k _ M _ H q (Go.refl m) (.bl _)
/-- .. of naturals' tuples -/
def tL (L : List (List Nat)) : List D := L.map fun l => .tup (nL l)
theorem any_tL (a : List Nat) : ∀ L : List (List Nat), ((tL L).any fun z => PyData.eqv (pyD z) (pyD (.tup (nL a)))) = decide (a ∈ L)
  | [] => by simp [tL]
  | x :: r => by
    have ih := any_tL a r
    show (PyData.eqv (pyD (.tup (nL x))) (pyD (.tup (nL a))) || (tL r).any fun z => PyData.eqv (pyD z) (pyD (.tup (nL a)))) = _
    rw [ih, pyD, pyD, PyData.eqv, eqvL_nL]
    by_cases hx : x = a
    · subst hx; simp
    · have : ¬ a = x := fun z => hx z.symm
      simp [hx, this]
theorem dr_inTN {neg : Bool} {a : List Nat} {L : List (List Nat)} (h : Pl (.tup (nL a)) ∧ Pl (.tup (tL L)) ∧ Q (.bl (if neg then !decide (a ∈ L) else decide (a ∈ L))) M) : DR K (rInT K neg) (.tup (nL a)) (.tup (tL L)) M Q := by
  refine dr_inTP ⟨h.1, h.2.1, ?_⟩
  rw [any_tL]; exact h.2.2
/-! ### extend -/
theorem de_extend (h : DE K to δ M fun o M1 => ∃ p ys, o = .raw (.ref p) ∧ M1 p = some (.lst ys) ∧ DA K tr δ M1 fun ds M2 => ∃ zs xs, ds = [.lst zs] ∧ M2 p = some (.lst xs) ∧ xs.length + zs.length ≤ sizeLine ∧ Q .non (mup M2 p (.lst (xs ++ zs)))) : DE K (tBM K "list" (rExtS K) to tr) δ M Q := fun F σ H en m QV k => by
  refine h F σ H en m _ fun o M1 v H1 z g1 r1 => ?_
  obtain ⟨p, ys, rfl, hp, z⟩ := z
  cases r1
  obtain ⟨h1, e1, o1⟩ := g1.ok.mo p _ hp
  cases o1 with
  | lst o1 =>
    refine ⟨tyV_lst (SqL.of e1), z F σ H1 (en.mono g1.ex) g1.ok _ fun ds M2 vs H2 z2 g2 r2 => ?_⟩
    obtain ⟨zs, xs, rfl, hp2, hz, q⟩ := z2
    obtain ⟨w, rfl, rw'⟩ := vs1 r2
    cases rw' with
    | @lst b us _ s rz =>
      obtain ⟨h2, e2, o2⟩ := g2.ok.mo p _ hp2
      cases o2 with
      | lst o2 =>
        have g3 := go_mut (m := .lst (xs ++ zs)) g2.ok hp2 (.lst (o2.append rz))
        exact ⟨p, b, _, us, rfl, rfl, e2, vis_le.seq s, by rw [o2.length, rz.length]; exact hz, k _ _ _ _ q ((g1.trans g2).trans g3) .non⟩
/-! ### sorted tuples -/
theorem RepL.of_tL {G : Hp} : ∀ {L : List (List Nat)} {vs : List V}, RepL K G vs (tL L) → vs.length = L.length ∧ ∀ v, v ∈ vs → ∃ l, l ∈ L ∧ ∃ t, v = .ref t ∧ SqT K G t ((l.map fun (a : Nat) => (a : Int)).map V.int)
  | [], _, .nil => ⟨rfl, fun _ h => nomatch h⟩
  | l :: L, _, .cons a b => by
    obtain ⟨h1, h2⟩ := RepL.of_tL b
    refine ⟨by rw [List.length_cons, List.length_cons, h1], fun v hv => ?_⟩
    rcases List.mem_cons.mp hv with rfl | hv
    · cases a with
      | tup s r =>
        have e : nL l = (l.map fun (a : Nat) => (a : Int)).map D.int := by unfold nL; rw [List.map_map]; rfl
        rw [e] at r
        obtain rfl := RepL.of_ints r
        exact ⟨l, List.mem_cons_self, _, rfl, s⟩
    · obtain ⟨l2, hl, q⟩ := h2 v hv
      exact ⟨l2, List.mem_cons_of_mem _ hl, q⟩
end
/-- permuted values stand for permuted data -/
theorem RepL.perm {K : PySem.W.Frag} {G : Hp} {vs ws : List V} {ds : List D} (p : ws.Perm vs) : RepL K G vs ds → ∃ es, es.Perm ds ∧ RepL K G ws es := by
  induction p generalizing ds with
  | nil => exact fun r => ⟨ds, List.Perm.refl _, r⟩
  | cons x p ih =>
    intro r
    cases r with
    | cons a b =>
      obtain ⟨es, h1, h2⟩ := ih b
      exact ⟨_, h1.cons _, .cons a h2⟩
  | swap x y l =>
    intro r
    cases r with
    | cons a b =>
      cases b with
      | cons b c => exact ⟨_, List.Perm.swap _ _ _, .cons b (.cons a c)⟩
  | trans p1 p2 ih1 ih2 =>
    intro r
    obtain ⟨es, h1, h2⟩ := ih2 r
    obtain ⟨fs, h3, h4⟩ := ih1 h2
    exact ⟨fs, h3.trans h1, h4⟩
theorem perm_tL {es : List D} {L : List (List Nat)} (h : es.Perm (tL L)) : ∃ L', es = tL L' ∧ L'.Perm L := by
  obtain ⟨L', h1, h2⟩ : ∃ L', es = tL L' ∧ L'.Perm L := by
    unfold tL at h ⊢
    have hm : ∀ e, e ∈ es → ∃ l, e = D.tup (nL l) := fun e he => by
      obtain ⟨l, _, rfl⟩ := List.mem_map.mp (h.mem_iff.mp he)
      exact ⟨l, rfl⟩
    let f : D → List Nat := fun d => match d with | .tup xs => xs.map (fun x => match x with | .int i => i.toNat | _ => 0) | _ => []
    have hf : ∀ l, f (.tup (nL l)) = l := fun l => by
      show (nL l).map _ = l
      unfold nL
      rw [List.map_map]
      exact (List.map_congr_left fun a _ => Int.toNat_natCast a).trans (List.map_id _)
    refine ⟨es.map f, ?_, ?_⟩
    · rw [List.map_map]
      refine (List.map_id es).symm.trans (List.map_congr_left fun e he => ?_)
      obtain ⟨l, rfl⟩ := hm e he
      show D.tup (nL l) = D.tup (nL (f (.tup (nL l))))
      rw [hf]
    · have h2 := h.map f
      rw [List.map_map] at h2
      have e : L.map (f ∘ fun l => D.tup (nL l)) = L := (List.map_congr_left fun a _ => hf a).trans (List.map_id _)
      rwa [e] at h2
  exact ⟨L', h1, h2⟩
/-- the code of a tuple of naturals -/
def cdN (B : Int) (l : List Nat) : Int := TS.code B (l.map fun (a : Nat) => (a : Int))
section
variable {K : PySem.W.Frag} {δ : En} {M : Mem} {Q : D → Mem → Prop}
theorem pair_vals {G : Hp} {B : Int} : ∀ {vs : List V} {L : List (List Nat)}, RepL K G vs (tL L) → vs.Pairwise (fun x y => ∀ n m, TupI K G x n → TupI K G y m → TS.code B n ≤ TS.code B m) → L.Pairwise fun a b => cdN B a ≤ cdN B b
  | _, [], .nil, _ => .nil
  | v :: vs, l :: L, .cons a b, h => by
    obtain ⟨h1, h2⟩ := List.pairwise_cons.mp h
    have tup : ∀ {v : V} {l : List Nat}, Rep K G v (.tup (nL l)) → TupI K G v (l.map fun (a : Nat) => (a : Int)) := fun {v l} a => by
      cases a with
      | tup s r =>
        have e : nL l = (l.map fun (a : Nat) => (a : Int)).map D.int := by unfold nL; rw [List.map_map]; rfl
        rw [e] at r
        obtain rfl := RepL.of_ints r
        exact ⟨_, rfl, s⟩
    refine .cons (fun l2 hl2 => ?_) (pair_vals b h2)
    obtain ⟨i, hi⟩ := List.mem_iff_getElem?.mp hl2
    have hd : (tL L)[i]? = some (.tup (nL l2)) := by unfold tL; rw [List.getElem?_map, hi]; rfl
    obtain ⟨u, hu, ru⟩ := b.get hd
    exact h1 u (List.mem_of_getElem? hu) _ _ (tup a) (tup ru)
theorem dc_sortT {L : List (List Nat)} {k : Nat} {B : Int} (h64 : L.length < 64) (hL : ∀ l, l ∈ L → l.length = k ∧ ∀ a, a ∈ l → (a : Int) < B) (q : ∀ L' : List (List Nat), L'.Perm L → (L'.Pairwise fun a b => cdN B a ≤ cdN B b) → Q (.lst (tL L')) M) : DC K (rSortU K k B) [.lst (tL L)] M Q := fun F H vs m r QV kk => by
  obtain ⟨v, rfl, r1⟩ := vs1 r
  clear r
  cases r1 with
  | @lst a us _ s r =>
    obtain ⟨h1, h2⟩ := RepL.of_tL r
    have sqh := fun {t : Addr} {xs : List V} (z : SqT K (vis H M F) t xs) => sqt_mono (G' := H) (vis_le (H := H) (M := M) (F := F)) z
    refine ⟨a, us, rfl, vis_le.seq s, by omega, fun x hx => ?_, fun ys p hp hw hn => ?_⟩
    · obtain ⟨l, hl, t, rfl, st⟩ := h2 x hx
      obtain ⟨z1, z2⟩ := hL l hl
      refine ⟨_, ⟨t, rfl, sqh st⟩, by rw [List.length_map]; exact z1, fun i hi => ?_⟩
      obtain ⟨b, hb, rfl⟩ := List.mem_map.mp hi
      exact ⟨Int.natCast_nonneg b, z2 b hb⟩
    · obtain ⟨es, he, re⟩ := RepL.perm hp r
      obtain ⟨L', rfl, pl⟩ := perm_tL he
      obtain ⟨g, e⟩ := go_new (o := .lst ys) m hn
      refine kk _ M _ _ (q L' pl (pair_vals (re.mono vis_le) hw)) g (.lst (.inl (.inl e)) (re.mono g.ex))
theorem dc_sortV {L : List (List Nat)} (h : ∃ (k : Nat) (B : Int), 1 ≤ k ∧ L.length < 64 ∧ (∀ l, l ∈ L → l.length = k ∧ ∀ a, a ∈ l → (a : Int) < B) ∧ ∀ L' : List (List Nat), L'.Perm L → (L'.Pairwise fun a b => cdN B a ≤ cdN B b) → Q (.lst (tL L')) M) : DC K (rSortV K) [.lst (tL L)] M Q := by
  obtain ⟨k, B, h1, h2, h3, h4⟩ := h
  intro F H vs m r QV kk
  exact ⟨k, B, h1, dc_sortT h2 h3 h4 F H vs m r QV kk⟩
/-- ascending lists of the same are one -/
theorem asc_uniq {α : Type} {f : α → Int} : ∀ {a b : List α}, a.Perm b → (a.Pairwise fun x y => f x ≤ f y) → (b.Pairwise fun x y => f x < f y) → a = b
  | [], [], _, _, _ => rfl
  | [], y :: b, p, _, _ => by have := p.length_eq; simp at this
  | x :: a, [], p, _, _ => by have := p.length_eq; simp at this
  | x :: a, y :: b, p, ha, hb => by
    obtain ⟨h1, h2⟩ := List.pairwise_cons.mp ha
    obtain ⟨h3, h4⟩ := List.pairwise_cons.mp hb
    have e : x = y := by
      rcases List.mem_cons.mp (p.mem_iff.mp List.mem_cons_self) with z | z
      · exact z
      · rcases List.mem_cons.mp (p.mem_iff.mpr List.mem_cons_self) with z2 | z2
        · exact z2.symm
        · have := h1 y z2
          have := h3 x z
          omega
    subst e
    exact congrArg (x :: ·) (asc_uniq p.cons_inv h2 h4)
end
/-! ### comprehensions with any target -/
section
variable {K : PySem.W.Frag} {δ : En} {M : Mem} {Q : D → Mem → Prop} {te : TE} {tt : TT} {g : TG} {js : List Nat}
theorem DG.imp {d : D} {G G' : En → Mem → Prop} (h : DG K js g d δ M G) (i : ∀ δ M, G δ M → G' δ M) : DG K js g d δ M G' := fun F σ H v en m r QG k =>
  h F σ H v en m r QG fun δ' M' σ' H' z => k δ' M' σ' H' (i _ _ z)
theorem de_mapG {wi : TI} {vs : List Nat} (hj : ∀ j ∈ js, j ∈ vs) (h : DI K wi δ M fun ds M1 => ds.length < sizeLine ∧ ∃ f : D → D, (∀ d, d ∈ ds → DG K js g d (wipeD δ vs) M1 fun δ2 M2 => M2 = M1 ∧ DE K te δ2 M1 fun e M4 => M4 = M1 ∧ e = f d) ∧ Q (.lst (ds.map f)) M1) : DE K (tLc wi g tYes te vs) δ M Q := by
  refine de_lc (js := js) hj ?_
  intro F σ H en m R k
  refine h F σ H en m R fun ds M1 J H1 z => k ds M1 J H1 ?_
  obtain ⟨hz, f, hf, q⟩ := z
  refine ⟨fun i acc => acc = (ds.take i).map f, rfl, fun i d acc hd hacc => (hf d (mem_of_get hd)).imp fun δ2 M2 ⟨h1, h2⟩ => ⟨h1, dt_yes ⟨rfl, ?_⟩⟩, fun acc hacc => ?_⟩
  · rw [if_pos rfl]
    refine h2.imp fun e M4 he => ⟨he.1, ?_, ?_⟩
    · have := take_lt hd
      rw [hacc, List.length_map, List.length_take]; omega
    · dsimp only at hacc ⊢
      rw [hacc, he.2, take_snoc hd, List.map_append]; rfl
  · dsimp only at hacc
    rw [hacc, List.take_length]; exact q
theorem de_filtG {wi : TI} {vs : List Nat} (hj : ∀ j ∈ js, j ∈ vs) (h : DI K wi δ M fun ds M1 => ds.length < sizeLine ∧ ∃ (c : D → Bool) (f : D → D), (∀ d, d ∈ ds → DG K js g d (wipeD δ vs) M1 fun δ2 M2 => M2 = M1 ∧ DT K tt δ2 M1 fun b M3 => M3 = M1 ∧ b = c d ∧ (b = true → DE K te δ2 M1 fun e M4 => M4 = M1 ∧ e = f d)) ∧ Q (.lst ((ds.filter c).map f)) M1) : DE K (tLc wi g tt te vs) δ M Q := by
  refine de_lc (js := js) hj ?_
  intro F σ H en m R k
  refine h F σ H en m R fun ds M1 J H1 z => k ds M1 J H1 ?_
  obtain ⟨hz, c, f, hf, q⟩ := z
  refine ⟨fun i acc => acc = ((ds.take i).filter c).map f, rfl, fun i d acc hd hacc => (hf d (mem_of_get hd)).imp fun δ2 M2 ⟨h1, h2⟩ => ⟨h1, h2.imp fun b M3 ⟨e3, hb, he⟩ => ⟨e3, ?_⟩⟩, fun acc hacc => ?_⟩
  · cases b with
    | true =>
      rw [if_pos rfl]
      refine (he rfl).imp fun e M4 he => ⟨he.1, ?_, ?_⟩
      · have := take_lt hd
        have h2 := List.length_filter_le c (ds.take i)
        rw [List.length_take] at h2
        rw [hacc, List.length_map]; omega
      · dsimp only at hacc ⊢
        rw [hacc, he.2, take_snoc hd, List.filter_append, List.map_append]
        simp [← hb]
    | false =>
      rw [if_neg Bool.false_ne_true]
      dsimp only at hacc ⊢
      rw [hacc, take_snoc hd, List.filter_append, List.map_append]
      simp [← hb]
  · dsimp only at hacc
    rw [hacc, List.take_length]; exact q
/-- [e for x in xs for y in ys], ys the same at each x -/
theorem de_map2 {wi wi1 : TI} {vs vs1 : List Nat} {j j1 : Nat} (hj : j ∈ vs) (hj1 : j1 ∈ vs1) (hv : ∀ i ∈ vs1, i ∈ vs) (h : DI K wi δ M fun ds M1 => ∃ (es : List D) (f : D → D → D), ds.length * es.length < sizeLine ∧
      (∀ d, d ∈ ds → DI K wi1 ((wipeD δ vs).set j (some d)) M1 fun es' M4 => M4 = M1 ∧ es' = es ∧ ∀ e, e ∈ es → DE K te ((wipeD ((wipeD δ vs).set j (some d)) vs1).set j1 (some e)) M1 fun x M7 => M7 = M1 ∧ x = f d e) ∧
      Q (.lst (ds.flatMap fun d => es.map (f d))) M1) : DE K (tLc2 wi (gName j) tYes wi1 (gName j1) tYes te vs vs1) δ M Q := by
  refine de_lc2 (js := [j]) (js1 := [j1]) (fun i hi => by rw [List.mem_singleton] at hi; rw [hi]; exact hj) (fun i hi => by rw [List.mem_singleton] at hi; rw [hi]; exact hj1) hv ?_
  intro F σ H en m R k
  refine h F σ H en m R fun ds M1 J H1 z => k ds M1 J H1 ?_
  obtain ⟨es, f, hz, hf, q⟩ := z
  have len : ∀ i, ((ds.take i).flatMap fun d => es.map (f d)).length = min i ds.length * es.length := fun i => by
    rw [List.length_flatMap]
    have : ((ds.take i).map fun a => (es.map (f a)).length) = List.replicate (min i ds.length) es.length := by
      refine List.eq_replicate_iff.mpr ⟨by simp, fun b hb => ?_⟩
      obtain ⟨a, _, rfl⟩ := List.mem_map.mp hb
      exact List.length_map _
    rw [this, List.sum_replicate_nat]
  refine ⟨fun i acc => acc = (ds.take i).flatMap fun d => es.map (f d), rfl, fun i d acc hd hacc => dg_name ⟨rfl, dt_yes ⟨rfl, ?_⟩⟩, fun acc hacc => ?_⟩
  · rw [if_pos rfl]
    have hi := take_lt hd
    intro F σ H en m R k
    refine hf d (mem_of_get hd) F σ H en m R fun es' M4 J H1 z => k es' M4 J H1 ?_
    obtain ⟨e4, rfl, he⟩ := z
    refine ⟨e4, fun i2 bcc => bcc = acc ++ (es'.take i2).map (f d), (List.append_nil acc).symm, fun i2 e bcc hd2 hb => dg_name ⟨rfl, dt_yes ⟨rfl, ?_⟩⟩, fun bcc hb => ?_⟩
    · rw [if_pos rfl]
      refine (he e (mem_of_get hd2)).imp fun x M7 hx => ⟨hx.1, ?_, ?_⟩
      · dsimp only at hacc hb
        have h2 := take_lt hd2
        rw [hb, hacc, List.length_append, len i, List.length_map, List.length_take, Nat.min_eq_left (Nat.le_of_lt hi), Nat.min_eq_left (Nat.le_of_lt h2)]
        have : (i + 1) * es'.length ≤ ds.length * es'.length := Nat.mul_le_mul_right _ hi
        rw [Nat.succ_mul] at this
        omega
      · dsimp only at hb ⊢
        rw [hb, hx.2, take_snoc hd2, List.map_append, List.append_assoc]; rfl
    · dsimp only at hacc hb ⊢
      rw [hb, hacc, List.take_length, take_snoc hd, List.flatMap_append]
      simp
  · dsimp only at hacc
    rw [hacc, List.take_length]; exact q
end
/-! ### objects that still change -/
section
variable {K : PySem.W.Frag} {δ : En} {M : Mem} {Q : D → Mem → Prop} {te : TE} {tr : TA} {d : D} {C : Addr} {m : Str}
theorem mut_ins {F : Fm} {H : Hp} {p : Addr} {fs : List (Str × D)} (k : MOk K F M H) (hp : M p = some (.ins C fs)) : ∃ dx xs, H p = some (.ins C dx xs) ∧ RepS K (vis H M F) xs fs := by
  obtain ⟨ho, e, ro⟩ := k.mo p _ hp
  cases ro with
  | ins ro => exact ⟨_, _, e, ro⟩
theorem de_methM {p : PT0} {E : XK} (h : DE K te δ M fun d M1 => ∃ b fs, d = .raw (.ref b) ∧ M1 b = some (.ins C fs) ∧ fs.lookup m = none ∧ DA K tr δ M1 fun ds M2 => (∃ fs', M2 b = some (.ins C fs')) ∧ p (.raw (.ref b) :: ds) M2 Q) : DE K (tMeth C m (spD K p) [] E te tr) δ M Q := fun F σ H en mm QV k => by
  refine h F σ H en mm _ fun d M1 v H1 z g1 r1 => ?_
  obtain ⟨b, fs, rfl, hb, hl, z⟩ := z
  cases r1
  obtain ⟨dx, xs, e, rs⟩ := mut_ins g1.ok hb
  refine ⟨b, dx, xs, rfl, e, rs.none hl, z F σ H1 (en.mono g1.ex) g1.ok _ fun ds M2 vs H2 z2 g2 r2 => ?_⟩
  rw [List.append_nil]
  exact ⟨F, M2, .raw (.ref b) :: ds, Q, .cons (.raw _) r2, g2.ok, z2.2, fun d M3 u H3 q3 g3 r3 => k d M3 u H3 q3 ((g1.trans g2).trans g3) r3⟩
theorem de_propM {p : PT0} {E : XK} (h : DE K te δ M fun d M1 => ∃ b fs, d = .raw (.ref b) ∧ M1 b = some (.ins C fs) ∧ p [.raw (.ref b)] M1 Q) : DE K (tProp C (spD K p) [] E te) δ M Q := fun F σ H en mm QV k => by
  refine h F σ H en mm _ fun d M1 v H1 z g1 r1 => ?_
  obtain ⟨b, fs, rfl, hb, z⟩ := z
  cases r1
  obtain ⟨dx, xs, e, rs⟩ := mut_ins g1.ok hb
  exact ⟨b, dx, xs, rfl, e, F, M1, [.raw (.ref b)], Q, .cons (.raw _) .nil, g1.ok, z, fun d M3 u H3 q3 g3 r3 => k d M3 u H3 q3 (g1.trans g3) r3⟩
theorem dr_inOM {p : PT0} {b : Addr} {fs : List (Str × D)} {neg : Bool} (h : M b = some (.ins C fs) ∧ p [.raw (.ref b), d] M fun r M1 => ∃ b, r = .bl b ∧ Q (.bl (if neg then !b else b)) M1) : DR K (rInO (spD K p) neg C) d (.raw (.ref b)) M Q := fun F H v u m a c QV k => by
  obtain ⟨hb, h⟩ := h
  cases c
  obtain ⟨dx, xs, e, rs⟩ := mut_ins m hb
  refine ⟨b, dx, xs, rfl, e, F, M, [.raw (.ref b), d], _, .cons (.raw _) (.cons a .nil), m, h, fun r M1 v1 H1 hq g1 r1 => ?_⟩
  obtain ⟨bb, rfl, q⟩ := hq
  cases r1
  exact ⟨bb, rfl, k _ M1 _ H1 q g1 (.bl _)⟩
/-- d is an object of these fields, as data or one that still changes -/
def IsO (C : Addr) (M : Mem) (d : D) (fs : List (Str × D)) : Prop := d = .obj C fs ∨ ∃ b, d = .raw (.ref b) ∧ M b = some (.ins C fs)
theorem de_methA {p : PT0} {E : XK} (h : DE K te δ M fun d M1 => (∃ fs, IsO C M1 d fs ∧ fs.lookup m = none) ∧ DA K tr δ M1 fun ds M2 => p (d :: ds) M2 Q) : DE K (tMeth C m (spD K p) [] E te tr) δ M Q := fun F σ H en mm QV k => by
  refine h F σ H en mm _ fun d M1 v H1 z g1 r1 => ?_
  obtain ⟨⟨fs, ho, hl⟩, z⟩ := z
  rcases ho with rfl | ⟨b, rfl, hb⟩
  · cases r1 with
    | @obj a _ dx xs _ e r =>
      refine ⟨a, dx, xs, rfl, vis_le _ _ e, r.none hl, z F σ H1 (en.mono g1.ex) g1.ok _ fun ds M2 vs H2 z2 g2 r2 => ?_⟩
      rw [List.append_nil]
      exact ⟨F, M2, .obj C fs :: ds, Q, .cons (.obj (g2.ex _ _ e) (r.mono g2.ex)) r2, g2.ok, z2, fun d M3 u H3 q3 g3 r3 => k d M3 u H3 q3 ((g1.trans g2).trans g3) r3⟩
  · cases r1
    obtain ⟨dx, xs, e, rs⟩ := mut_ins g1.ok hb
    refine ⟨b, dx, xs, rfl, e, rs.none hl, z F σ H1 (en.mono g1.ex) g1.ok _ fun ds M2 vs H2 z2 g2 r2 => ?_⟩
    rw [List.append_nil]
    exact ⟨F, M2, .raw (.ref b) :: ds, Q, .cons (.raw _) r2, g2.ok, z2, fun d M3 u H3 q3 g3 r3 => k d M3 u H3 q3 ((g1.trans g2).trans g3) r3⟩
theorem dr_inOA {p : PT0} {o : D} {fs : List (Str × D)} {neg : Bool} (h : IsO C M o fs ∧ p [o, d] M fun r M1 => ∃ b, r = .bl b ∧ Q (.bl (if neg then !b else b)) M1) : DR K (rInO (spD K p) neg C) d o M Q := by
  obtain ⟨ho, h⟩ := h
  rcases ho with rfl | ⟨b, rfl, hb⟩
  · exact dr_inO h
  · exact dr_inOM ⟨hb, h⟩
/-- a new object that will change -/
theorem de_makeM {p : PT0} {E : XK} (h : DA K tr δ M fun ds M1 => ∀ x, M1 x = none → p (.raw (.ref x) :: ds) (mup M1 x (.ins C [])) fun d M2 => d = .non ∧ Q (.raw (.ref x)) M2) : DE K (tMake C (spD K p) [] E tr) δ M Q := fun F σ H en m QV k => by
  refine h F σ H en m _ fun ds M1 vs H1 z g1 r1 x dx hx hdx hne => ?_
  rw [List.append_nil]
  obtain ⟨g2, _⟩ := go_new (o := .own x) g1.ok hdx
  have hx2 : upd H1 dx (.own x) x = none := by rw [upd_ne hne.symm]; exact hx
  have g3 := go_newM (o := .ins C dx []) (m := .ins C []) g2.ok hx2 (.ins .nil)
  have g := (g1.trans g2).trans g3
  have mx := (g1.ok.new hx).2
  refine ⟨F, mup M1 x (.ins C []), .raw (.ref x) :: ds, _, .cons (.raw _) ((r1.mono g2.ex).mono g3.ex), g3.ok, z x mx, fun d M2 u H2 hq g4 r4 => ?_⟩
  obtain ⟨rfl, q⟩ := hq
  cases r4
  exact ⟨rfl, k _ M2 _ H2 q (g.trans g4) (.raw _)⟩
/-- an object seen as data from now on, at slot i -/
theorem ds_frzO {t : TS} {q : DK} {i : Nat} {p : Addr} {fs : List (Str × D)} (hi : δ[i]? = some (some (.raw (.ref p)))) (hp : M p = some (.ins C fs)) (h : DS K t (δ.set i (some (.obj C fs))) (mdel M p) q) : DS K t δ M q := fun F σ H en m E n r b c => by
  obtain ⟨g1, f⟩ := go_frz m hp
  obtain ⟨v, hv, rv⟩ := en.2 i _ hi
  have rl : Rep K (vis H (mdel M p) F) (.ref p) (.obj C fs) := by
    obtain ⟨ho, e, ro⟩ := m.mo p _ hp
    cases ro with
    | ins ro => exact .obj (vis_mk e f mdel_same) (ro.mono g1.ex)
  have en2 : EnvR K (vis H (mdel M p) F) σ (δ.set i (some (.obj C fs))) := by
    refine ⟨by rw [List.length_set]; exact en.1, fun j d hd => ?_⟩
    by_cases hj : i = j
    · subst hj
      have hl : i < δ.length := (List.getElem?_eq_some_iff.mp hi).1
      rw [List.getElem?_set_self hl] at hd
      cases hd
      refine ⟨v, hv, ?_⟩
      cases rv
      exact rl
    · rw [List.getElem?_set_ne hj] at hd
      obtain ⟨w, hw, rw'⟩ := en.2 j d hd
      exact ⟨w, hw, rw'.mono g1.ex⟩
  exact h F σ H en2 g1.ok E (fun _ _ _ _ z2 g2 => n _ _ _ _ z2 (g1.trans g2)) (fun _ _ _ _ z2 g2 => r _ _ _ _ z2 (g1.trans g2)) (fun _ _ _ _ z2 g2 => b _ _ _ _ z2 (g1.trans g2)) (fun _ _ _ _ z2 g2 => c _ _ _ _ z2 (g1.trans g2))
theorem dr_neBB {a b : Bool} (h : Q (.bl (!(a == b))) M) : DR K (rNeD K) (.bl a) (.bl b) M Q := dr_neD rfl rfl rfl rfl (by rw [PyData.eqv]; exact h)
theorem dr_isN {x : V} (hx : vOf d = some x) (q : Q (.bl (decide (x = .non))) M) : DR K (fun x y H Q => y = .non ∧ Q (.bl (decide (x = .non))) H) d .non M Q := fun F H v u m a b QV k => by
  obtain rfl := vOf_rep a hx
  cases b
  exact ⟨rfl, k _ M _ H q (Go.refl m) (.bl _)⟩
theorem dr_isNT {xs : List D} (q : Q (.bl false) M) : DR K (fun x y H Q => y = .non ∧ Q (.bl (decide (x = .non))) H) (.tup xs) .non M Q := fun F H v u m a b QV k => by
  cases a
  cases b
  exact ⟨rfl, k _ M _ H q (Go.refl m) (.bl _)⟩
theorem dr_isBB {a b : Bool} (q : Q (.bl (decide (a = b))) M) : DR K (fun x y H Q => ∃ a b, x = .bl a ∧ y = .bl b ∧ Q (.bl (decide (a = b))) H) (.bl a) (.bl b) M Q := fun F H v u m r s QV k => by
  cases r
  cases s
  exact ⟨a, b, rfl, rfl, k _ M _ H q (Go.refl m) (.bl _)⟩
theorem dr_isntBB {a b : Bool} (q : Q (.bl (!decide (a = b))) M) : DR K (fun x y H Q => ∃ a b, x = .bl a ∧ y = .bl b ∧ Q (.bl (!decide (a = b))) H) (.bl a) (.bl b) M Q := fun F H v u m r s QV k => by
  cases r
  cases s
  exact ⟨a, b, rfl, rfl, k _ M _ H q (Go.refl m) (.bl _)⟩
end
end DL

set_option Elab.async false
set_option linter.all false
set_option maxRecDepth 100000
set_option maxHeartbeats 8000000
/-! sets of tuples: set(t), len, sorted; sorted(t) of a tuple -/
namespace DQ
open PySem PySem.Spec PyProof.Rows L2
section
variable {P : Program} {w : World} {A : Around} {E : Value → Shared → Prop} {s : Shared}
/-- set(t), t a tuple of tuples of ints -/
theorem set_of_tup {l : Addr} {us : Array Value} (ks : List (Addr × List Int)) {Q : Value → Shared → Prop} (cool : A.handled = none) (isl : s.heap.IsTuple l us) (hit : us.toList = ks.map fun p => Value.ref p.1)
    (hk : ∀ p ∈ ks, IsT P w s.heap p.2 p.1) (few : ks.length < 64) (hu : A.units + 3 < cLine)
    (fin : ∀ (g : Heap) (tk : Nat) L es ep t, SetTR P w g s.heap.objs.size L es ep t → Got ks ks.length L → (∀ b o, s.heap.get? b = some o → g.get? b = some o) → Q (.ref s.heap.objs.size) { s with heap := g, toks := tk }) :
    wpAny (model P w) A (call (.type "set") [.ref l]) Q E s := by
  have len : us.size = ks.length := by rw [← Array.length_toList, hit, List.length_map]
  obtain ⟨_, _, hmro⟩ := F.called_set.mro
  have m1 := F.called_set.made
  have m2 := F.called_set.sub
  refine wpAny_call (codeAny_of_tree (show wpAny _ _ (callAny (.type "set") _) _ _ _ from wpAny_pure ⟨Code.quiet_builtin _ (by decide +kernel), codeAny_builtin F.entry_type_call ?_⟩))
  rw [Around.under_plain (weight_type_call_type "set" [.ref l] []) rfl]
  have m3 := F.called_set.notType
  have m4 := F.called_set.canCreate
  have m5 := F.typeCall_set_1 (.ref l)
  repeat (any_goals (first | assumption | wp_step))
  refine codeAny_mono (code_set_led1 (.ref l) (E := E) (Q₁ := fun o z => o = .ref s.heap.objs.size ∧ z = { s with heap := s.heap.push (born w) }) ⟨rfl, rfl⟩) fun r z hr => ?_
  match r, hr with
  | .error _, hr => exact hr
  | .ok .next, hr => exact hr.elim
  | .ok .brk, hr => exact hr.elim
  | .ok .cont, hr => exact hr.elim
  | .ok (.ret o), hr =>
    obtain ⟨rfl, rfl⟩ := hr
    have at0 : (s.heap.push (born w)).get? s.heap.objs.size = some (born w) := Heap.get?_push_size _ rfl
    have ty0 : Shared.TypeIs { s with heap := s.heap.push (born w) } (.ref s.heap.objs.size) "set" := ⟨_, at0, rfl⟩
    have m6 := F.called_set.init.lookup
    have m7 := F.called_set.init.bind (.ref s.heap.objs.size)
    repeat (any_goals (first | assumption | wp_step))
    let Done : Value → Shared → Prop := fun r z => r = .none ∧ ∃ g tk L es ep t, z = { s with heap := g, toks := tk } ∧ SetTR P w g s.heap.objs.size L es ep t ∧ Got ks ks.length L ∧ (∀ b o, s.heap.get? b = some o → g.get? b = some o)
    refine codeAny_mono (codeAny_call_builtin (R := wants Done E) F.called_set.init.plain F.entry_set_init (check_set_init_1 ty0 ?_)) fun r2 z2 hr2 => ?_
    · obtain ⟨⟨oc, od, odt, osl⟩, hol, c1, nl, c2⟩ := isl
      simp only at c1 c2
      subst c1
      subst c2
      have hol2 : (s.heap.push (born w)).get? l = some { cls := .type "tuple", dict := od, data := .seq us nl, slots := osl } := Heap.get?_push_of_some _ hol
      have m8 := F.sub_tuple_set
      have m9 := F.sub_tuple_frozenset
      have m10 : (Value.type "tuple" == Value.type "dict") = false := by decide
      have isl2 : (s.heap.push (born w)).IsTuple l us := ⟨_, hol2, rfl, nl, rfl⟩
      unfold Builtin.«set.__init__» noKeywords Builtin.Frozenset.updateFrom
      generalize hW : pyIter = W
      wp_walk
      subst hW
      refine wpAny_pyIter_tuple isl2 (wpAny_bind (wpAny_runValue ?_))
      have below : l < s.heap.objs.size := Heap.lt_size hol
      have sz : (s.heap.push (born w)).objs.size = s.heap.objs.size + 1 := Heap.size_push ..
      have apart : l ≠ (s.heap.push (born w)).objs.size := by rw [sz]; exact Nat.ne_of_lt (Nat.lt_succ_of_lt below)
      have out : s.heap.objs.size ∉ [(s.heap.push (born w)).objs.size, l] := by
        rw [sz]
        simp only [List.mem_cons, List.not_mem_nil, or_false, not_or]
        exact ⟨(Nat.ne_of_lt (Nat.lt_succ_self _)), (Nat.ne_of_lt below).symm⟩
      have vals : ∀ (i : Nat) (v : Value), us[i]? = some v → ∃ p, ks[i]? = some p ∧ v = .ref p.1 := fun i v hv => by
        have e : us.toList[i]? = some v := by rw [Array.getElem?_toList]; exact hv
        rw [hit, List.getElem?_map] at e
        cases hq : ks[i]? with
        | none => rw [hq] at e; cases e
        | some p => rw [hq] at e; exact ⟨p, rfl, (Option.some.inj e).symm⟩
      have new : ∀ b, s.heap.objs.size ≤ b → s.heap.get? b = none := fun b hb => by
        cases e : s.heap.get? b with
        | none => rfl
        | some o => exact absurd (Heap.lt_size e) (Nat.not_lt.mpr hb)
      have cool3 : A.in1.in1.in1.handled = none := by simp [cool]
      refine set_update_tups ((Walks.tuple cool3 _ l apart us).toS) s.heap.objs.size out ks len few vals s.heap hk (new _ (Nat.le_refl _)) (fun b hb => new b (by rw [List.mem_singleton.mp hb, sz]; omega)) hu (us.size - 0) 0 _ (by omega) (Nat.zero_le _)
        ⟨⟨_, Heap.get?_push_size _ rfl, rfl, rfl⟩, isl2.push _⟩ (fun b o e => Heap.get?_push_of_some _ (Heap.get?_push_of_some _ e)) ⟨[], #[], 0, _, setTR_fresh (Heap.get?_push_of_some _ at0), Got.zero ks⟩ ?_
      intro z L es ep t mv rz gz old
      obtain ⟨g, _, _, tk, _⟩ := z
      obtain rfl := mv.gens
      obtain rfl := mv.drawn
      obtain rfl := mv.os
      rw [len] at gz
      exact wpAny_pure (show wpAny _ _ (ret Value.none) _ _ _ from wpAny_pure ⟨rfl, g, tk, L, es, ep, t, rfl, rz, gz, old⟩)
    · match r2, hr2 with
      | .error _, hr2 => exact hr2
      | .ok .next, hr2 => exact hr2.elim
      | .ok .brk, hr2 => exact hr2.elim
      | .ok .cont, hr2 => exact hr2.elim
      | .ok (.ret v), hr2 =>
        obtain ⟨rfl, g, tk, L, es, ep, t, rfl, rz, gz, old⟩ := hr2
        repeat (any_goals (first | assumption | wp_step))
        exact fin _ _ _ _ _ _ rz gz old
end
end DQ

set_option Elab.async false
set_option linter.all false
set_option maxRecDepth 100000
set_option maxHeartbeats 8000000
/-! sets of tuples by data; sorted(t) of a tuple -/
namespace DQ
open PySem PySem.Spec PyProof.Rows L2 TS
section
variable {prog : Program} {w : World} {A : Around} {E : Value → Shared → Prop} {s : Shared}
theorem collect_tuple {l : Addr} {us : List Value} {Q : List Value → Shared → Prop} (isl : s.heap.IsTuple l us.toArray) (few : us.length ≤ sizeLine)
    (fin : Q us { s with heap := (s.heap.push (seqObj "list" #[] 0)).update s.heap.objs.size (Obj.mapSeq (· ++ us.toArray)) }) : wpAny (model prog w) A (collect (.ref l)) Q E s := by
  obtain ⟨o, ho, hc, n, hd⟩ := id isl
  unfold collect
  refine wpAny_bind (wpAny_runValue (codeAny_builtin entry_proto_collect' (show wpAny _ _ (do again (.builtin "list.__iadd__" ⟨[← newList [], .ref l], []⟩)) _ _ s from ?_)))
  refine wpAny_bind (wpAny_newList (wpAny_pure ⟨Code.quiet_builtin _ (by decide +kernel), codeAny_builtin entry_list_iadd' (show wpAny _ _ (Builtin.List.listExtendWith (.ref s.heap.objs.size) (.ref l) (.ref s.heap.objs.size)) _ _ { s with heap := s.heap.push (seqObj "list" #[] 0) } from ?_)⟩))
  unfold Builtin.List.listExtendWith
  have ho2 : (s.heap.push (seqObj "list" #[] 0)).get? l = some o := Heap.get?_push_of_some _ ho
  refine wpAny_bind (wpAny_typeOf (T := "tuple") ⟨o, ho2, hc⟩ ?_)
  rw [if_pos (show (Builtin.List.listSameRef (Value.ref s.heap.objs.size) (Value.ref l) || Value.type "tuple" == Value.type "list" || Value.type "tuple" == Value.type "tuple") = true from by rw [show (Value.type "tuple" == Value.type "tuple") = true from rfl]; simp)]
  refine wpAny_bind (listItems_at ho2 hd (wpAny_bind (listItems_at (xs := #[]) (n := 0) (Heap.get?_push_size _ rfl) rfl ?_)))
  rw [if_neg (show ¬ (!(#[] : Array Value).isEmpty && Builtin.List.listTooLong ((#[] : Array Value).size + us.toArray.size)) = true from by simp)]
  refine wpAny_bind (listUpdate_at (xs := #[]) (n := 0) (Heap.get?_push_size _ rfl) rfl (wpAny_pure ?_) (Nat.zero_le _) (show (#[] ++ us.toArray).size ≤ sizeLine + 1 from by rw [Array.size_append, List.size_toArray]; show 0 + us.length ≤ _; omega))
  refine (show wpAny (model prog w) A (do
      let o ← load s.heap.objs.size
      match o.data with
      | .seq xs _ => pure xs.toList
      | _ => unsupported "internal:collect") Q E { s with heap := (s.heap.push (seqObj "list" #[] 0)).update s.heap.objs.size (Obj.mapSeq (· ++ us.toArray)) } from ?_)
  refine wpAny_bind (wpAny_load (get?_update_seq (Heap.get?_push_size _ rfl) _) (show wpAny _ _ (pure ((#[] : Array Value) ++ us.toArray).toList) Q E _ from ?_))
  rw [show ((#[] : Array Value) ++ us.toArray).toList = us from by simp]
  exact wpAny_pure fin
/-- sorted(t), t a tuple of tuples of ints -/
theorem sorted_tupT {l : Addr} {us : List Value} {d : Nat} {B : Int} {Q : Value → Shared → Prop} (isl : s.heap.IsTuple l us.toArray) (few : us.length < 64) (hd : 1 ≤ d) (x : TupsOk s.heap d B us)
    (fin : ∀ out : Array Value, out.toList.Perm us → out.toList.Pairwise (fun u v => code B (intsOf s.heap u) ≤ code B (intsOf s.heap v)) → Q (.ref (s.heap.objs.size + 1)) { s with heap := sortedAll s.heap us out }) :
    wpAny (model prog w) A (call (.builtin "sorted") [.ref l]) Q E s := by
  have small : us.length ≤ sizeLine := by rw [sizeLine_eq]; omega
  refine Calls.call_function_entry kind_sorted plain_sorted entry_sorted (args_sorted1 _) (show wpAny _ _ (Builtin.«sorted» _) _ _ _ from ?_)
  unfold Builtin.«sorted»
  refine wpAny_bind (m := checkCount "sorted" 1 1 _) (wpAny_pure (wpAny_bind (collect_tuple isl small (wpAny_bind (wpAny_newList ?_ small)))))
  let g := (s.heap.push (seqObj "list" #[] 0)).update s.heap.objs.size (Obj.mapSeq (· ++ us.toArray))
  have gs : g.objs.size = s.heap.objs.size + 1 := by
    show ((s.heap.push (seqObj "list" #[] 0)).update s.heap.objs.size (Obj.mapSeq (· ++ us.toArray))).objs.size = _
    rw [Heap.size_update, size_push']
  have at1 : (g.push (seqObj "list" us.toArray 0)).get? (s.heap.objs.size + 1) = some (seqObj "list" us.toArray 0) := by rw [← gs]; exact Heap.get?_push_size _ rfl
  have old : ∀ b o, s.heap.get? b = some o → o.cls = .type "tuple" → (g.push (seqObj "list" us.toArray 0)).get? b = some o := fun b o q _ => by
    have lt : b < s.heap.objs.size := Heap.lt_size q
    rw [Heap.get?_push_ne _ _ _ (show b ≠ g.objs.size from by rw [gs]; exact Nat.ne_of_lt (Nat.lt_succ_of_lt lt))]
    show ((s.heap.push (seqObj "list" #[] 0)).update s.heap.objs.size (Obj.mapSeq (· ++ us.toArray))).get? b = _
    rw [Heap.get?_update_ne _ _ _ _ (Nat.ne_of_lt lt), Heap.get?_push_ne _ _ _ (Nat.ne_of_lt lt), q]
  refine (show wpAny _ _ _ _ _ { s with heap := g.push (seqObj "list" us.toArray 0) } from ?_)
  rw [gs]
  have key : ∀ v, v ∈ us → ∀ ns, TupInts s.heap v ns → intsOf s.heap v = ns := fun v _ ns t => t.ints
  refine wpAny_bind (wpAny_holding (wpAny_call_entry slot_list_sort ⟨_, at1, rfl⟩ entry_list_sort (sort_tups at1 few hd (x.keeps old) (fun v => code B (intsOf s.heap v)) (fun v hv ns t => ?_) fun out a1 a2 => ⟨_, rfl, wpAny_pure ⟨_, rfl, fin out a1 a2⟩⟩) (args_list_sort _)))
  obtain ⟨ns0, t0, _⟩ := x v hv
  have e : ns = ns0 := (TupInts.ints t).symm.trans (t0.keeps old).ints
  rw [e]
  exact congrArg (code B) t0.ints
end
end DQ
namespace DL
open PySem PySem.Spec PyProof.Rows L2
section
variable {X : Cx}
/-- set(x), x a list or a tuple of tuples of ints -/
def rSetA (K : PySem.W.Frag) (P : Program) (w : World) : List V → Hp → VK → Prop := fun xs H Q => ∃ (l : Addr) (ks : List (Addr × List Int)), xs = [V.ref l] ∧ (SqL K H l (ks.map fun p => V.ref p.1) ∨ SqT K H l (ks.map fun p => V.ref p.1)) ∧ (∀ p ∈ ks, SqT K H p.1 (p.2.map V.int)) ∧ ks.length < 64 ∧
  ∀ a L, H a = none → (∀ p ∈ L, p ∈ ks) → (∀ p ∈ ks, p.2 ∈ L.map (·.2)) → Q (.ref a) (upd H a (SetTO P w a L))
theorem call_setTK (K : PySem.W.Frag) (P : Program) (w : World) (hu : X.A.units + 64 < cLine) (hc : X.calm = true := by rfl) (h : X.K = K := by rfl) (hp : X.prog = P := by rfl) (hw : X.w = w := by rfl) : CallR X (.type "set") (rSetA K P w) := by
  subst h hp hw
  intro pins s σ H xs us Q I r h
  obtain ⟨l, ks, rfl, hl, hk, hf, q⟩ := h
  rcases hl with hl | hl
  · exact cr_setOfT hc hu pins s σ H _ us Q I r ⟨l, ks, rfl, hl, hk, hf, q⟩
  · rw [Vals.ref1 r]
    obtain ⟨its, rv, pl, hz⟩ := I.tuple hl
    have hn : H s.heap.objs.size = none := I.hok.fresh (Nat.le_refl _)
    refine DQ.set_of_tup (P := X.prog) (w := X.w) ks (I.ok.hd hc) pl (by simpa using refs_of_vals rv) (fun p hp => I.isT (hk p hp)) hf (by omega) fun g tk L es ep t R gt k => ?_
    refine ⟨.ref s.heap.objs.size, _, I.laid (t' := tk) k (Nat.le_refl _) (setTO_new R.t0), rfl, q _ L hn (fun p hp => List.mem_of_mem_take (gt.sub p hp)) fun p hp => ?_⟩
    exact gt.all p (by rw [List.take_length]; exact hp)
/-- len of it -/
def rLenTO (P : Program) (w : World) : List V → Hp → VK → Prop := fun xs H Q => ∃ (a : Addr) (L : List (Addr × List Int)), xs = [V.ref a] ∧ H a = some (SetTO P w a L) ∧ ((L.map (·.2)).Nodup → Q (.int (L.length : Int)) H)
theorem call_lenTO (P : Program) (w : World) (hp : X.prog = P := by rfl) (hw : X.w = w := by rfl) : CallR X (.builtin "len") (rLenTO P w) := by
  subst hp hw
  intro pins s σ H xs us Q I r h
  obtain ⟨a, L, rfl, ha, q⟩ := h
  have R0 : SetT0 X.prog X.w s.heap a L := (I.hok a _ ha).1
  rw [Vals.ref1 r]
  obtain ⟨es, ep, t, ⟨o, ho, hex, hd⟩, h2, h3, h4, h5, h6, h7, h8⟩ := R0.ex
  have sz : es.size = L.length := by
    rw [← Array.length_toList, h2]
    exact List.length_map _
  have fits : t.fits es.size = true := by
    have n1 := h3.sz
    rw [List.length_map] at n1
    simp only [SetTable.fits, SetTable.fill, h3.dm, Bool.and_eq_true, beq_iff_eq, decide_eq_true_eq]
    exact ⟨by rw [n1, sz], by show t.place.size + 0 ≤ t.mask; omega⟩
  exact call_len_set ho hex hd fits (by omega) ⟨.int (L.length : Int), H, I.tok _, ⟨_, by rw [sz]⟩, q h4⟩
theorem call_sortedTO (K : PySem.W.Frag) (P : Program) (w : World) (hc : X.calm = true := by rfl) (h : X.K = K := by rfl) (hp : X.prog = P := by rfl) (hw : X.w = w := by rfl) : CallR X (.builtin "sorted") (rSortedT K P w) := by subst h hp hw; exact cr_sortedT hc
/-- sorted(x), x a list or a tuple of tuples of ints -/
def rSortTu (K : PySem.W.Frag) (d : Nat) (B : Int) : List V → Hp → VK → Prop := fun vs H Q => ∃ (a : Addr) (xs : List V), vs = [V.ref a] ∧ SqT K H a xs ∧ xs.length < 64 ∧ (∀ x ∈ xs, ∃ ns, TupI K H x ns ∧ ns.length = d ∧ TS.Bd B ns) ∧
  ∀ (ys : List V) (p : Addr), ys.Perm xs → (ys.Pairwise fun x y => ∀ n m, TupI K H x n → TupI K H y m → TS.code B n ≤ TS.code B m) → H p = none → Q (.ref p) (upd H p (.lst ys))
theorem cr_sortTu {d : Nat} {B : Int} (hd : 1 ≤ d) : CallR X (.builtin "sorted") (rSortTu X.K d B) := by
  intro pins s σ H vs us Q I r h
  obtain ⟨a, xs, rfl, hs, few, hx, q⟩ := h
  obtain ⟨its, rv, hl, hz⟩ := I.tuple hs
  obtain ⟨e1, e2⟩ := bkV_refs rv fun x m => let ⟨ns, ⟨t, e, _⟩, _⟩ := hx x m; ⟨t, e⟩
  rw [Vals.ref1 r]
  refine DQ.sorted_tupT (d := d) (B := B) hl (show its.length < 64 from by rw [← rv.length]; exact few) hd (fun v hv => ?_) fun out p1 p2 => ?_
  · obtain ⟨t, rfl⟩ := e2 v hv
    have mm : V.ref t ∈ xs := by
      rw [e1]; exact List.mem_map.mpr ⟨Value.ref t, hv, rfl⟩
    obtain ⟨ns, ⟨t', e, ht⟩, hn, hb⟩ := hx _ mm
    cases e
    exact ⟨ns, tupI_raw I ht, hn, hb⟩
  · obtain ⟨ep, hg⟩ := PyProof.Rows.sortedAll_at s.heap its out
    have refs : ∀ u ∈ out.toList, ∃ a, u = Value.ref a := fun u hu => e2 u (p1.mem_iff.mp hu)
    have pm : (out.toList.map bkV).Perm xs := by rw [e1]; exact p1.map bkV
    have small : (out.toList.map bkV).length ≤ sizeLine := by rw [pm.length_eq]; exact hz
    refine ⟨.ref _, upd H (s.heap.objs.size + 1) (.lst (out.toList.map bkV)), I.laid (t' := s.toks) (fun b o => PyProof.Rows.sortedAll_old) (Nat.le_succ _) ⟨small, out.toList, ep, bkV_vals refs, hg⟩, rfl, q _ _ pm ?_ (I.hok.fresh (Nat.le_succ _))⟩
    refine List.pairwise_map.mpr (p2.imp fun {u v} huv n m hn hm => ?_)
    obtain ⟨t, et, ht⟩ := hn
    obtain ⟨t', et', ht'⟩ := hm
    rw [bkV_ref et, bkV_ref et'] at huv
    rwa [(tupI_raw I ht).ints, (tupI_raw I ht').ints] at huv
def rSortW (K : PySem.W.Frag) : List V → Hp → VK → Prop := fun vs H Q => rSortV K vs H Q ∨ ∃ (d : Nat) (B : Int), 1 ≤ d ∧ rSortTu K d B vs H Q
theorem cr_sortWK (K : PySem.W.Frag) (h : X.K = K := by rfl) : CallR X (.builtin "sorted") (rSortW K) := by
  subst h
  intro pins s σ H vs us Q I r h
  rcases h with h | ⟨d, B, hd, h⟩
  · exact cr_sortVK X.K rfl pins s σ H vs us Q I r h
  · exact cr_sortTu hd pins s σ H vs us Q I r h
end
section
variable {K : PySem.W.Frag} {δ : En} {M : Mem} {Q : D → Mem → Prop} {tr : TA} {P : Program} {w : World}
theorem dc_sortTu {L : List (List Nat)} (h : ∃ (k : Nat) (B : Int), 1 ≤ k ∧ L.length < 64 ∧ (∀ l, l ∈ L → l.length = k ∧ ∀ a, a ∈ l → (a : Int) < B) ∧ ∀ L' : List (List Nat), L'.Perm L → (L'.Pairwise fun a b => cdN B a ≤ cdN B b) → Q (.lst (tL L')) M) : DC K (rSortW K) [.tup (tL L)] M Q := fun F H vs m r QV kk => by
  obtain ⟨k, B, h1, h64, hL, q⟩ := h
  obtain ⟨v, rfl, r1⟩ := vs1 r
  clear r
  cases r1 with
  | @tup a us _ s r =>
    obtain ⟨e1, e2⟩ := RepL.of_tL r
    have sqh := fun {t : Addr} {xs : List V} (z : SqT K (vis H M F) t xs) => sqt_mono (G' := H) (vis_le (H := H) (M := M) (F := F)) z
    refine .inr ⟨k, B, h1, a, us, rfl, sqh s, by omega, fun x hx => ?_, fun ys p hp hw hn => ?_⟩
    · obtain ⟨l, hl, t, rfl, st⟩ := e2 x hx
      obtain ⟨z1, z2⟩ := hL l hl
      refine ⟨_, ⟨t, rfl, sqh st⟩, by rw [List.length_map]; exact z1, fun i hi => ?_⟩
      obtain ⟨b, hb, rfl⟩ := List.mem_map.mp hi
      exact ⟨Int.natCast_nonneg b, z2 b hb⟩
    · obtain ⟨es, he, re⟩ := RepL.perm hp r
      obtain ⟨L', rfl, pl⟩ := perm_tL he
      obtain ⟨g, e⟩ := go_new (o := .lst ys) m hn
      exact kk _ M _ _ (q L' pl (pair_vals (re.mono vis_le) hw)) g (.lst (.inl (.inl e)) (re.mono g.ex))
theorem dc_sortWL {L : List (List Nat)} (h : ∃ (k : Nat) (B : Int), 1 ≤ k ∧ L.length < 64 ∧ (∀ l, l ∈ L → l.length = k ∧ ∀ a, a ∈ l → (a : Int) < B) ∧ ∀ L' : List (List Nat), L'.Perm L → (L'.Pairwise fun a b => cdN B a ≤ cdN B b) → Q (.lst (tL L')) M) : DC K (rSortW K) [.lst (tL L)] M Q := fun F H vs m r QV kk => .inl (dc_sortV h F H vs m r QV kk)
abbrev iL (l : List Nat) : List Int := l.map fun (a : Nat) => (a : Int)
def nI (ns : List Int) : List Nat := ns.map Int.toNat
theorem nI_iL (l : List Nat) : nI (iL l) = l := by
  unfold nI iL
  rw [List.map_map]
  exact (List.map_congr_left fun a _ => Int.toNat_natCast a).trans (List.map_id _)
theorem rep_iL {G : Hp} {t : Addr} {l : List Nat} (s : SqT K G t ((iL l).map V.int)) : Rep K G (.ref t) (.tup (nL l)) := by
  have e : nL l = (iL l).map D.int := by unfold nL iL; rw [List.map_map]; rfl
  rw [e]
  exact .tup s (RepL.ints _)
theorem RepL.keys {G : Hp} : ∀ {L : List (List Nat)} {vs : List V}, RepL K G vs (tL L) → ∃ ks : List (Addr × List Int), vs = ks.map (fun p => V.ref p.1) ∧ (∀ p ∈ ks, SqT K G p.1 (p.2.map V.int)) ∧ ks.map (·.2) = L.map iL
  | [], _, .nil => ⟨[], rfl, (fun _ h => nomatch h), rfl⟩
  | l :: L, _, .cons a b => by
    obtain ⟨ks, e, h, z⟩ := RepL.keys b
    cases a with
    | @tup t us _ s r =>
      have en : nL l = (iL l).map D.int := by unfold nL iL; rw [List.map_map]; rfl
      rw [en] at r
      obtain rfl := RepL.of_ints r
      refine ⟨(t, iL l) :: ks, by rw [e]; rfl, fun p hp => ?_, by rw [List.map_cons, z]; rfl⟩
      rcases List.mem_cons.mp hp with rfl | hp
      · exact s
      · exact h p hp
/-- the lists of a set of these keys -/
theorem keys_set {ks S : List (Addr × List Int)} {L : List (List Nat)} (e : ks.map (·.2) = L.map iL) (h1 : ∀ p ∈ S, p ∈ ks) (h2 : ∀ p ∈ ks, p.2 ∈ S.map (·.2)) (nd : (S.map (·.2)).Nodup) :
    ∃ L' : List (List Nat), S.map (·.2) = L'.map iL ∧ L'.Nodup ∧ ∀ x, x ∈ L' ↔ x ∈ L := by
  have inL : ∀ p ∈ S, ∃ l, l ∈ L ∧ p.2 = iL l := fun p hp => by
    have : p.2 ∈ L.map iL := by rw [← e]; exact List.mem_map.mpr ⟨p, h1 p hp, rfl⟩
    obtain ⟨l, hl, he⟩ := List.mem_map.mp this
    exact ⟨l, hl, he.symm⟩
  have eS : S.map (·.2) = (S.map fun p => nI p.2).map iL := by
    rw [List.map_map]
    refine List.map_congr_left fun p hp => ?_
    obtain ⟨l, _, he⟩ := inL p hp
    show p.2 = iL (nI p.2)
    rw [he, nI_iL]
  refine ⟨S.map fun p => nI p.2, eS, ?_, fun x => ⟨fun hx => ?_, fun hx => ?_⟩⟩
  · rw [eS] at nd
    exact List.Pairwise.of_map iL (fun a b h e => h (congrArg iL e)) nd
  · obtain ⟨p, hp, rfl⟩ := List.mem_map.mp hx
    obtain ⟨l, hl, he⟩ := inL p hp
    rw [he, nI_iL]; exact hl
  · have : iL x ∈ ks.map (·.2) := by rw [e]; exact List.mem_map.mpr ⟨x, hx, rfl⟩
    obtain ⟨p, hp, he⟩ := List.mem_map.mp this
    obtain ⟨q, hq, he2⟩ := List.mem_map.mp (h2 p hp)
    refine List.mem_map.mpr ⟨q, hq, ?_⟩
    have he3 : q.2 = iL x := he2.trans he
    rw [he3, nI_iL]
theorem set_arg {F : Fm} {M : Mem} {H : Hp} {v : V} {L : List (List Nat)} {d : D} (hd : d = .tup (tL L) ∨ d = .lst (tL L)) (r : Rep K (vis H M F) v d) :
    ∃ (l : Addr) (ks : List (Addr × List Int)), v = .ref l ∧ (SqL K H l (ks.map fun p => V.ref p.1) ∨ SqT K H l (ks.map fun p => V.ref p.1)) ∧ (∀ p ∈ ks, SqT K (vis H M F) p.1 (p.2.map V.int)) ∧ ks.map (·.2) = L.map iL ∧ ks.length = L.length := by
  rcases hd with rfl | rfl
  · cases r with
    | tup s r =>
      obtain ⟨ks, rfl, h, e⟩ := r.keys
      refine ⟨_, ks, rfl, .inr (sqt_mono vis_le s), h, e, ?_⟩
      have := congrArg List.length e
      rwa [List.length_map, List.length_map] at this
  · cases r with
    | lst s r =>
      obtain ⟨ks, rfl, h, e⟩ := r.keys
      refine ⟨_, ks, rfl, .inl (vis_le.seq s), h, e, ?_⟩
      have := congrArg List.length e
      rwa [List.length_map, List.length_map] at this
/-- len(set(x)) -/
theorem de_lenset (h : DA K tr δ M fun ds M1 => ∃ (d : D) (L : List (List Nat)), ds = [d] ∧ (d = .tup (tL L) ∨ d = .lst (tL L)) ∧ L.length < 64 ∧ ∀ L' : List (List Nat), L'.Nodup → (∀ x, x ∈ L' ↔ x ∈ L) → Q (.int (L'.length : Int)) M1) : DE K (tCB (rLenTO P w) (tCons (tCB (rSetA K P w) tr) tNil)) δ M Q := fun F σ H en m QV k => by
  refine h F σ H en m _ fun ds M1 vs H1 z g1 r1 => ?_
  obtain ⟨d, L, rfl, hd, few, q⟩ := z
  obtain ⟨v, rfl, r2⟩ := vs1 r1
  obtain ⟨l, ks, rfl, hl, hk, e, el⟩ := set_arg hd r2
  refine ⟨l, ks, rfl, hl, fun p hp => sqt_mono vis_le (hk p hp), by omega, fun a S ha s1 s2 => ?_⟩
  obtain ⟨g2, _⟩ := go_new (o := SetTO P w a S) g1.ok ha
  refine ⟨a, S, rfl, upd_same, fun nd => ?_⟩
  obtain ⟨L', e2, nd2, mm⟩ := keys_set e s1 s2 nd
  have q2 := q L' nd2 mm
  have : S.length = L'.length := by
    have := congrArg List.length e2
    rwa [List.length_map, List.length_map] at this
  rw [← this] at q2
  exact k _ M1 _ _ q2 (g1.trans g2) (.int _)
/-- sorted(set(x)) -/
theorem de_ssetT (h : DA K tr δ M fun ds M1 => ∃ (d : D) (L : List (List Nat)) (n : Nat) (B : Int), ds = [d] ∧ (d = .tup (tL L) ∨ d = .lst (tL L)) ∧ L.length < 64 ∧ 1 ≤ n ∧ (∀ l, l ∈ L → l.length = n ∧ ∀ a, a ∈ l → (a : Int) < B) ∧ ∀ L' : List (List Nat), L'.Nodup → (∀ x, x ∈ L' ↔ x ∈ L) → (L'.Pairwise fun a b => cdN B a ≤ cdN B b) → Q (.lst (tL L')) M1) :
    DE K (tCB (rSortedT K P w) (tCons (tCB (rSetA K P w) tr) tNil)) δ M Q := fun F σ H en m QV k => by
  refine h F σ H en m _ fun ds M1 vs H1 z g1 r1 => ?_
  obtain ⟨d, L, n, B, rfl, hd, few, hn, hB, q⟩ := z
  obtain ⟨v, rfl, r2⟩ := vs1 r1
  obtain ⟨l, ks, rfl, hl, hk, e, el⟩ := set_arg hd r2
  refine ⟨l, ks, rfl, hl, fun p hp => sqt_mono vis_le (hk p hp), by omega, fun a S ha s1 s2 => ?_⟩
  obtain ⟨g2, _⟩ := go_new (o := SetTO P w a S) g1.ok ha
  have kS : ∀ p ∈ S, SqT K (vis (upd H1 a (SetTO P w a S)) M1 F) p.1 (p.2.map V.int) := fun p hp => sqt_mono g2.ex (hk p (s1 p hp))
  have inL : ∀ p ∈ S, ∃ l, l ∈ L ∧ p.2 = iL l := fun p hp => by
    have : p.2 ∈ L.map iL := by rw [← e]; exact List.mem_map.mpr ⟨p, s1 p hp, rfl⟩
    obtain ⟨l, hl, he⟩ := List.mem_map.mp this
    exact ⟨l, hl, he.symm⟩
  refine ⟨a, S, n, B, rfl, upd_same, fun p hp => sqt_mono vis_le (kS p hp), hn, fun p hp => ?_, fun T p pm nd few2 asc hp => ?_⟩
  · obtain ⟨l, hl, he⟩ := inL p hp
    obtain ⟨z1, z2⟩ := hB l hl
    rw [he]
    refine ⟨by rw [List.length_map]; exact z1, fun i hi => ?_⟩
    obtain ⟨b, hb, rfl⟩ := List.mem_map.mp hi
    exact ⟨Int.natCast_nonneg b, z2 b hb⟩
  · obtain ⟨g3, e3⟩ := go_new (o := .lst (T.map fun q => V.ref q.1)) g2.ok hp
    have kT : ∀ p ∈ T, p ∈ S := fun p hp => pm.mem_iff.mp hp
    obtain ⟨L', e2, nd2, mm⟩ := keys_set (S := T) e (fun p hp => s1 p (kT p hp)) (fun p hp => (pm.map (·.2)).mem_iff.mpr (s2 p hp)) nd
    have asc2 : L'.Pairwise fun a b => cdN B a ≤ cdN B b := by
      have a1 : (T.map (·.2)).Pairwise fun x y => TS.code B x ≤ TS.code B y := List.pairwise_map.mpr asc
      rw [e2] at a1
      exact (List.pairwise_map.mp a1).imp fun h => h
    refine k _ M1 _ _ (q L' nd2 mm asc2) ((g1.trans g2).trans g3) (.lst (.inl (.inl e3)) ?_)
    have go : ∀ (G : Hp) (T : List (Addr × List Int)) (L' : List (List Nat)), T.map (·.2) = L'.map iL → (∀ p ∈ T, SqT K G p.1 (p.2.map V.int)) → RepL K G (T.map fun q => V.ref q.1) (tL L') := fun G T => by
      induction T with
      | nil =>
        intro L' e _
        cases L' with
        | nil => exact .nil
        | cons _ _ => cases e
      | cons p T ih =>
        intro L' e hs
        cases L' with
        | nil => cases e
        | cons l L' =>
          rw [List.map_cons, List.map_cons] at e
          injection e with e1 e2
          have hp := hs p List.mem_cons_self
          rw [show p.2 = iL l from e1] at hp
          exact .cons (rep_iL hp) (ih L' e2 fun q hq => hs q (List.mem_cons_of_mem _ hq))
    exact go _ T L' e2 fun p hp => sqt_mono g3.ex (kS p (kT p hp))
end
end DL

set_option Elab.async false
set_option linter.all false
set_option maxRecDepth 100000
set_option maxHeartbeats 4000000
/-! defs with a star parameter -/
namespace DL
open PySem PySem.Spec PyProof.Rows L2 StX
/-- the function at f keeps the promise p over the given values (by place, then those by the names sh) -/
structure FnP (P : Program) (w : World) (K : PySem.W.Frag) (mg : Str → Option Value) (base : Heap) (k : Nat) (f : Addr) (sh : List Str) (p : PT0) : Prop where
  run : ∀ (A : Around) (ou : List Env) (s : Shared) (H : Hp) (us ws : List Value) (vs : List V) (Q : VK), Room k A → A.guards = some [] → Env0 P w K mg base A ou s H → ws.length = sh.length → Vals vs (us ++ ws) → spD K p vs H Q E0 →
    codeAny (model P w) A (.call (.ref f) ⟨us, sh.zip ws⟩) (CR CX0 ou P w H s Q E0) s
/-- a promise over what is given, the rest in a tuple -/
def pstar (n : Nat) (p : PT0) : PT0 := fun ds M R => ∃ ws rest : List D, ds = ws ++ rest ∧ ws.length = n ∧ rest.length ≤ sizeLine ∧ p (ws ++ [.tup rest]) M R
theorem RepL.split {K : PySem.W.Frag} {G : Hp} : ∀ {as bs : List D} {vs : List V}, RepL K G vs (as ++ bs) → ∃ us ws, vs = us ++ ws ∧ RepL K G us as ∧ RepL K G ws bs
  | [], _, vs, r => ⟨[], vs, rfl, .nil, r⟩
  | _ :: as, bs, _, .cons a b => by
    obtain ⟨us, ws, rfl, h1, h2⟩ := RepL.split (as := as) b
    exact ⟨_ :: us, ws, rfl, .cons a h1, h2⟩
theorem gp_star {P : Program} {w : World} {K : PySem.W.Frag} {mg : Str → Option Value} {base : Heap} {x qual pv : Str} {st : Stmt} {f : Addr} {fd : FuncData} {N ps : List Str} {k : Nat} {p : PT0} (Fu : Fun K x qual st f fd) (Sc : FnScope N (ps ++ [pv]) (defScope st))
    (hb : ∀ (kV doc pm : Value) (an : Option Addr) (cdv ct : Value) (us rest : List Value), us.length = ps.length → bindArgs (PySem.W.fnOf x qual (defArgs st) (defBody st) (defScope st) .none kV doc pm an cdv ct) ⟨us ++ rest, []⟩ = (newTuple rest >>= fun t => pure (ps.zip us ++ [(pv, t)])))
    (body : ∀ (cdv : Value) (A : Around) (ou : List Env) (s : Shared) (H : Hp), Room k (A.deeper (envOfC qual (defScope st) s.heap.objs.size f cdv)) → (A.deeper (envOfC qual (defScope st) s.heap.objs.size f cdv)).guards = some [] →
      ∃ t, PSs (cxOf CX0 P w K mg base N qual (defScope st) f cdv A ou s H E0).nox (defBody st) t ∧ ∀ ds M R, p ds M R → DS K t (ds.map some ++ List.replicate (N.length - ds.length) none) M { nx := fun _ M' => R .non M', rt := R }) :
    FnP P w K mg base (k + 1) f [] (pstar ps.length p) := by
  obtain ⟨oc, od, kV, doc, pm, an, cdv, ct, osl, rfl, lk, hcd⟩ := Fu.ex
  refine ⟨fun A ou s H us ws vs Q room gd e0 hws r hp => ?_⟩
  obtain rfl : ws = [] := List.length_eq_zero_iff.mp hws
  rw [List.append_nil] at r
  obtain ⟨F, M, ds, R, rl, m, ⟨as, rest, rfl, hn, hz, hpp⟩, q⟩ := hp
  obtain ⟨v1, v2, rfl, l1, l2⟩ := RepL.split rl
  obtain ⟨u1, u2, rfl, r1, r2⟩ := vals_split r
  have n1 : u1.length = ps.length := by rw [← r1.length, l1.length, hn]
  have z2 : v2.length ≤ sizeLine := by rw [l2.length]; exact hz
  have fresh : H s.heap.objs.size = none := e0.hok.fresh (Nat.le_refl _)
  refine run_bnd lk hcd Sc room e0 (G := fun xs H2 => ∃ b, H b = none ∧ xs = v1 ++ [V.ref b] ∧ H2 = upd H b (.tup v2)) (fun A' Ex Q' h => ?_) fun s2 H2 xs ⟨b, hbn, ex, eH⟩ room2 => ?_
  · show wpAny _ _ (bindArgs _ ⟨u1 ++ u2, []⟩) _ _ _
    rw [hb kV doc pm an cdv ct u1 u2 n1]
    refine wpAny_bind (wpAny_newTuple (wpAny_pure ?_) (by rw [← r2.length]; exact z2))
    have ob : ObjOk P w (upd H s.heap.objs.size (.tup v2)) (s.heap.push ({ cls := .type "tuple", data := .seq u2.toArray } : Obj)) s.heap.objs.size (.tup v2) := ⟨z2, u2, r2, ⟨_, Heap.get?_push_size _ rfl, rfl, _, rfl⟩⟩
    have un := un_laid (fs := frs ou) (s := s) (o := ({ cls := .type "tuple", data := .seq u2.toArray } : Obj)) (u := .tup v2) fresh
    have z := h _ _ (v1 ++ [V.ref s.heap.objs.size]) (u1 ++ [Value.ref s.heap.objs.size]) (env0_laid e0 ob) un rfl (fun _ _ z => z) (r1.append (.cons rfl .nil)) (by rw [List.length_append, List.length_append, l1.length, hn]; rfl) ⟨_, fresh, rfl, rfl⟩
    rw [List.zip_append n1.symm] at z
    exact z
  · subst ex eH
    obtain ⟨t, ht, hd⟩ := body cdv A ou s2 (upd H b (.tup v2)) room2 gd
    refine ⟨t, ht.nox, ?_⟩
    obtain ⟨g, e⟩ := go_new (o := .tup v2) m hbn
    have rr : RepL K (vis (upd H b (.tup v2)) M F) (v1 ++ [V.ref b]) (as ++ [.tup rest]) := (l1.mono g.ex).append (.cons (.tup (.inl (.inl e)) (l2.mono g.ex)) .nil)
    refine hd _ M R hpp F _ _ (EnvR.start rr) g.ok _ ?_ ?_ ?_ ?_
    · exact fun δ' M' σ' H' z g2 _ => q _ _ _ _ z (g.trans g2) .non
    · exact fun d M' v H' z g2 rp => q _ _ _ _ z (g.trans g2) rp
    · exact fun _ _ _ _ z => z.elim
    · exact fun _ _ _ _ z => z.elim
structure DmP (P : Program) (w : World) (K : PySem.W.Frag) (mg : Str → Option Value) (base : Heap) (k : Nat) (C : Addr) (m : Str) (sh : List Str) (p : PT0) : Prop where
  ex : ∃ f : Addr, FnP P w K mg base k f sh p ∧ Meth K C m f
theorem dms_ok {P : Program} {w : World} {K : PySem.W.Frag} {mg : Str → Option Value} {base : Heap} {C : Addr} {m qual pv : Str} {st : Stmt} {N ps : List Str} {k : Nat} {p : PT0} (T : MTx K C m qual st) (Sc : FnScope N (ps ++ [pv]) (defScope st))
    (hb : ∀ (kV doc pm : Value) (an : Option Addr) (cdv ct : Value) (us rest : List Value), us.length = ps.length → bindArgs (PySem.W.fnOf m qual (defArgs st) (defBody st) (defScope st) .none kV doc pm an cdv ct) ⟨us ++ rest, []⟩ = (newTuple rest >>= fun t => pure (ps.zip us ++ [(pv, t)])))
    (body : ∀ (cdv : Value) (A : Around) (ou : List Env) (s : Shared) (H : Hp) {f : Addr}, Room k (A.deeper (envOfC qual (defScope st) s.heap.objs.size f cdv)) → (A.deeper (envOfC qual (defScope st) s.heap.objs.size f cdv)).guards = some [] →
      ∃ t, PSs (cxOf CX0 P w K mg base N qual (defScope st) f cdv A ou s H E0).nox (defBody st) t ∧ ∀ ds M R, p ds M R → DS K t (ds.map some ++ List.replicate (N.length - ds.length) none) M { nx := fun _ M' => R .non M', rt := R }) :
    DmP P w K mg base (k + 1) C m [] (pstar ps.length p) := by
  obtain ⟨f, fd, Fu, h⟩ := T.ex
  exact ⟨f, gp_star Fu Sc hb fun cdv A ou s H hr gd => body cdv A ou s H hr gd, h⟩
section
variable {X : Cx} {P : Program} {w : World} {K : PySem.W.Frag} {mg : Str → Option Value} {base : Heap} {C : Addr} {k : Nat} {m x : Str} {sh : List Str} {p : PT0} {o e : Expr} {es : List Expr} {ta : TE} {t : TA} {apos pos pp : Pos} {pl : Sem Bool} {f : Addr} {pins : List (Addr × Obj)} {σ : Sg} {H : Hp} {s : Shared} {Q : VK}
theorem run_p {us : List Value} {vs : List V} (G : FnP X.prog X.w X.K X.mg X.base k f [] p) (hr : Room k X.A) (gd : X.A.guards = some []) (I : Inv X pins σ H s) (rel : Vals vs us) (hp : spD X.K p vs H Q E0) :
    wpAny (model X.prog X.w) X.A (call (.ref f) us) (EP X pins σ Q) X.xe s := by
  refine wpAny_call (codeAny_mono (G.run X.A X.stack s H us [] vs Q hr gd I.env0 rfl (by rw [List.append_nil]; exact rel) hp) fun r s2 hq => ?_)
  obtain ⟨u, rfl, q⟩ := back_of (E := X.xe) I hq
  exact q
theorem pe_methP (h : DmP P w K mg base k C m [] p) (c : Cls K C) (hr : Room k X.A) (gd : X.A.guards = some []) (he : PE X o ta) (ha : PA X (e :: es) t) (hX : Is X P w K mg base := by exact ⟨rfl, rfl, rfl, rfl, rfl⟩)
    (hst : starEach (e :: es) X.env = (false, eval e X.env) :: starEach es X.env := by rfl) (hpl : (backTo pos (starEach es X.env)).any (·.1) = false := by rfl)
    (ht : eval (.Call (.Attribute o m apos) (e :: es) [] pos) X.env = (do
      let ov ← eval o X.env
      standAt apos.atName
      let (f, first) ← holding [ov] (getMethod ov m pl)
      callWith pos f first (backTo pos (starEach (e :: es) X.env)) (backToKw pos (keywordEach [] X.env))) := by rfl) : PE X (.Call (.Attribute o m apos) (e :: es) [] pos) (tMeth C m (spD K p) [] E0 ta t) := by
  obtain ⟨rfl, rfl, rfl, rfl, rfl⟩ := hX
  obtain ⟨f, G, hm⟩ := h.ex
  refine ⟨fun pins s σ H Q I z => PySem.W.methodCall_KW (pl := pl) (wpAny_mono (he.run pins s σ H _ I z) (fun u s1 hs => ?_) fun _ _ hs => hs) ht⟩
  obtain ⟨v, H1, I1, r1, a, dx, fs, rfl, ea, l, q⟩ := hs
  cases r1
  refine getmeth_ok I1 ea c hm l (PySem.W.callWith_K (first := [.ref a]) (h₀ := X.base) I1.ok.mod.kin hm.kp (wpAny_mono (ha.run pos pins s1 σ H1 _ I1 q) (fun us s2 hs => ?_) fun _ _ hs => hs) hst hpl)
  obtain ⟨vs, H2, I2, r, q2⟩ := hs
  rw [List.append_nil] at q2
  exact ⟨I2.kIn, run_p (us := .ref a :: us) (vs := .ref a :: vs) G hr gd I2 (.cons rfl r) q2⟩
end
section
variable {K : PySem.W.Frag} {δ : En} {M : Mem} {Q : D → Mem → Prop} {p : PT0} {d : D} {rest : List D}
theorem use_star1 (hz : rest.length ≤ sizeLine) (h : p [d, .tup rest] M Q) : pstar 1 p (d :: rest) M Q := ⟨[d], rest, rfl, rfl, hz, h⟩
end
end DL

set_option Elab.async false
set_option linter.all false
set_option maxRecDepth 100000
set_option maxHeartbeats 4000000
/-! enumerate of a list; two generators with tests; comprehensions whose tests are drawn -/
namespace DL
open PySem PySem.Spec PyProof.Rows L2
section
variable {K : PySem.W.Frag} {δ : En} {M : Mem} {I : List D → Mem → Prop} {tr : TA}
theorem pi_enumK {X : Cx} {e : Expr} {ta : TA} {p pos tpos : Pos} {elts : List Expr} {kk : Nat} (K : PySem.W.Frag) (hg : Gl X "enumerate") (hm : X.mg "enumerate" = none) (ha : PA X [e] ta) (h : X.K = K := by rfl) (hs : starEach [e] X.env = [(false, eval e X.env)] := by rfl) :
    PI X (.Tuple elts kk tpos) (.Call (.Name "enumerate" p) [e] [] pos) (iEnum K ta) := by subst h; exact pi_enum hg hm ha hs
theorem sq_enumL {F : Fm} {H : Hp} {a : Addr} {xs : List V} {ds : List D} (s : SqL K (vis H M F) a xs) (r : RepL K (vis H M F) xs ds) : Sq K F M H (Ite K a) (enumD ds) := by
  refine sq_sub fun M' H' m e i => ⟨fun hl => ?_, fun hl => ?_, fun x H2 d hd y => ?_⟩
  · rw [enumD_len] at hl
    have hx : i < xs.length := by rw [r.length]; exact hl
    exact ⟨xs, xs[i], vis_le.seq (e.seq s), by simp [hx]⟩
  · rw [enumD_len] at hl
    exact ⟨xs, vis_le.seq (e.seq s), by rw [r.length]; omega⟩
  · obtain ⟨T, z, rfl, hT, rfl, f⟩ := y
    have h1 := f xs (vis_le.seq (e.seq s))
    obtain ⟨x, hx, rfl⟩ := enumD_get hd
    obtain ⟨z2, h2, r2⟩ := r.get hx
    rw [h1] at h2; cases h2
    obtain ⟨g, e2⟩ := go_new (o := .tup [.int (i : Nat), z]) m hT
    exact ⟨g, .tup (.inl (.inl e2)) (.cons (.int _) (.cons ((r2.mono e).mono g.ex) .nil))⟩
theorem di_enumL (h : DA K tr δ M fun ds M1 => ∃ xs, ds = [.lst xs] ∧ I (enumD xs) M1) : DI K (iEnum K tr) δ M I := fun F σ H en m R k => by
  refine h F σ H en m _ fun ds M1 vs H1 z g1 r1 => ?_
  obtain ⟨xs, rfl, z⟩ := z
  obtain ⟨v, rfl, r2⟩ := vs1 r1
  cases r2 with
  | lst s r =>
    refine ⟨_, _, rfl, vis_le.seq s, k _ M1 _ H1 z g1 (fun p o hp => ?_) (sq_enumL s r)⟩
    exact sq_enumL ((vis_new hp).seq s) (r.mono (vis_new hp))
end
section
variable {K : PySem.W.Frag} {δ : En} {M : Mem} {Q : D → Mem → Prop} {te : TE} {tt tt1 : TT} {g : TG} {js : List Nat}
/-- [x for x in xs if c], c any of both each time -/
theorem de_sub {wi : TI} {vs : List Nat} {j : Nat} (hj : j ∈ vs) (h : DI K wi δ M fun ds M1 => ds.length < sizeLine ∧ (∀ d, d ∈ ds → DT K tt ((wipeD δ vs).set j (some d)) M1 fun b M3 => M3 = M1 ∧ (b = true → DE K te ((wipeD δ vs).set j (some d)) M1 fun e M4 => M4 = M1 ∧ e = d)) ∧ ∀ es : List D, es.Sublist ds → Q (.lst es) M1) : DE K (tLc wi (gName j) tt te vs) δ M Q := by
  refine de_lc (js := [j]) (fun i hi => by rw [List.mem_singleton] at hi; rw [hi]; exact hj) ?_
  intro F σ H en m R k
  refine h F σ H en m R fun ds M1 J H1 z => k ds M1 J H1 ?_
  obtain ⟨hz, hf, q⟩ := z
  refine ⟨fun i acc => acc.Sublist (ds.take i), List.Sublist.refl _, fun i d acc hd hacc => dg_name ⟨rfl, (hf d (mem_of_get hd)).imp fun b M3 ⟨e3, he⟩ => ⟨e3, ?_⟩⟩, fun acc hacc => ?_⟩
  · cases b with
    | true =>
      rw [if_pos rfl]
      refine (he rfl).imp fun e M4 he => ⟨he.1, ?_, ?_⟩
      · have := take_lt hd
        have h2 := List.Sublist.length_le hacc
        rw [List.length_take] at h2
        omega
      · dsimp only at hacc ⊢
        rw [he.2, take_snoc hd]
        exact hacc.append (List.Sublist.refl _)
    | false =>
      rw [if_neg Bool.false_ne_true]
      dsimp only at hacc ⊢
      rw [take_snoc hd]
      exact hacc.trans (List.sublist_append_left _ _)
  · dsimp only at hacc
    rw [List.take_length] at hacc; exact q acc hacc
/-- [e for x in xs for y in ys if c], ys the same at each x -/
theorem de_filt2 {wi wi1 : TI} {vs vs1 : List Nat} {j j1 : Nat} (hj : j ∈ vs) (hj1 : j1 ∈ vs1) (hv : ∀ i ∈ vs1, i ∈ vs) (h : DI K wi δ M fun ds M1 => ∃ (es : List D) (c : D → D → Bool) (f : D → D → D), ds.length * es.length < sizeLine ∧
      (∀ d, d ∈ ds → DI K wi1 ((wipeD δ vs).set j (some d)) M1 fun es' M4 => M4 = M1 ∧ es' = es ∧ ∀ e, e ∈ es → DT K tt1 ((wipeD ((wipeD δ vs).set j (some d)) vs1).set j1 (some e)) M1 fun b M6 => M6 = M1 ∧ b = c d e ∧ (b = true → DE K te ((wipeD ((wipeD δ vs).set j (some d)) vs1).set j1 (some e)) M1 fun x M7 => M7 = M1 ∧ x = f d e)) ∧
      Q (.lst (ds.flatMap fun d => (es.filter (c d)).map (f d))) M1) : DE K (tLc2 wi (gName j) tYes wi1 (gName j1) tt1 te vs vs1) δ M Q := by
  refine de_lc2 (js := [j]) (js1 := [j1]) (fun i hi => by rw [List.mem_singleton] at hi; rw [hi]; exact hj) (fun i hi => by rw [List.mem_singleton] at hi; rw [hi]; exact hj1) hv ?_
  intro F σ H en m R k
  refine h F σ H en m R fun ds M1 J H1 z => k ds M1 J H1 ?_
  obtain ⟨es, c, f, hz, hf, q⟩ := z
  have len : ∀ i, i ≤ ds.length → ((ds.take i).flatMap fun d => (es.filter (c d)).map (f d)).length ≤ i * es.length := fun i => by
    induction i with
    | zero => intro _; simp
    | succ i ih =>
      intro hi
      have hd : ds[i]? = some ds[i] := List.getElem?_eq_getElem hi
      rw [take_snoc hd, List.flatMap_append, List.length_append, Nat.succ_mul]
      have h1 := ih (Nat.le_of_succ_le hi)
      have h2 := List.length_filter_le (c ds[i]) es
      simp only [List.flatMap_cons, List.flatMap_nil, List.append_nil, List.length_map]
      omega
  refine ⟨fun i acc => acc = (ds.take i).flatMap fun d => (es.filter (c d)).map (f d), rfl, fun i d acc hd hacc => dg_name ⟨rfl, dt_yes ⟨rfl, ?_⟩⟩, fun acc hacc => ?_⟩
  · rw [if_pos rfl]
    have hi := take_lt hd
    intro F σ H en m R k
    refine hf d (mem_of_get hd) F σ H en m R fun es' M4 J H1 z => k es' M4 J H1 ?_
    obtain ⟨e4, rfl, he⟩ := z
    refine ⟨e4, fun i2 bcc => bcc = acc ++ ((es'.take i2).filter (c d)).map (f d), (List.append_nil acc).symm, fun i2 e bcc hd2 hb => dg_name ⟨rfl, (he e (mem_of_get hd2)).imp fun b M6 ⟨e6, hc, hx⟩ => ⟨e6, ?_⟩⟩, fun bcc hb => ?_⟩
    · cases b with
      | true =>
        rw [if_pos rfl]
        refine (hx rfl).imp fun x M7 hx => ⟨hx.1, ?_, ?_⟩
        · dsimp only at hacc hb
          have h2 := take_lt hd2
          have l1 := len i (Nat.le_of_lt hi)
          have l2 := List.length_filter_le (c d) (es'.take i2)
          rw [List.length_take] at l2
          rw [hb, List.length_append, List.length_map, hacc]
          have : (i + 1) * es'.length ≤ ds.length * es'.length := Nat.mul_le_mul_right _ hi
          rw [Nat.succ_mul] at this
          omega
        · dsimp only at hb ⊢
          rw [hb, hx.2, take_snoc hd2, List.filter_append, List.map_append, List.append_assoc]
          simp [← hc]
      | false =>
        rw [if_neg Bool.false_ne_true]
        dsimp only at hb ⊢
        rw [hb, take_snoc hd2, List.filter_append, List.map_append]
        simp [← hc]
    · dsimp only at hacc hb ⊢
      rw [hb, hacc, List.take_length, take_snoc hd, List.flatMap_append]
      simp
  · dsimp only at hacc
    rw [hacc, List.take_length]; exact q
theorem op_repTK {X : Cx} (K : PySem.W.Frag) (h : X.K = K := by rfl) : OpR X (binaryOp .Mult) (rRepT K) := by subst h; exact op_repT
theorem RepL.rep {G : Hp} {vs : List V} {ds : List D} (r : RepL K G vs ds) : ∀ n : Nat, RepL K G (List.replicate n vs).flatten (List.replicate n ds).flatten
  | 0 => .nil
  | n + 1 => by
    rw [List.replicate_succ, List.replicate_succ, List.flatten_cons, List.flatten_cons]
    exact r.append (RepL.rep r n)
theorem dr_repT {xs : List D} {k : Int} (h : xs ≠ [] ∧ 2 ≤ k ∧ k ≤ 1000 ∧ xs.length ≤ 1000 ∧ Q (.tup (List.replicate k.toNat xs).flatten) M) : DR K (rRepT K) (.tup xs) (.int k) M Q := fun F H v u m a b QV kk => by
  obtain ⟨h1, h2, h3, h4, q⟩ := h
  cases b
  cases a with
  | @tup t vs _ s r =>
    refine ⟨t, k, vs, rfl, rfl, sqt_mono vis_le s, fun e => ?_, h2, h3, by rw [r.length]; exact h4, fun p hp => ?_⟩
    · subst e; cases r; exact h1 rfl
    · obtain ⟨g, e⟩ := go_new (o := .tup _) m hp
      exact kk _ M _ _ q g (.tup (.inl (.inl e)) ((r.mono g.ex).rep _))
/-- [e for x, .. in xs if c] != [], == [] of 1s -/
theorem de_onesG {wi : TI} {vs : List Nat} (hj : ∀ j ∈ js, j ∈ vs) (h : DI K wi δ M fun ds M1 => ds.length ≤ 1000 ∧ ∃ c : D → Bool, (∀ d, d ∈ ds → DG K js g d (wipeD δ vs) M1 fun δ2 M2 => M2 = M1 ∧ DT K tt δ2 M1 fun b M3 => M3 = M1 ∧ b = c d) ∧ Q (.lst ((ds.filter c).map fun _ => .int 1)) M1) : DE K (tLc wi g tt (tC (.int 1)) vs) δ M Q := by
  refine de_filtG (js := js) hj ?_
  intro F σ H en m R k
  refine h F σ H en m R fun ds M1 J H1 z => k ds M1 J H1 ?_
  obtain ⟨hz, c, hf, q⟩ := z
  refine ⟨by rw [sizeLine_eq]; omega, c, fun _ => .int 1, fun d hd => (hf d hd).imp fun δ2 M2 ⟨h1, h2⟩ => ⟨h1, h2.imp fun b M3 ⟨h3, h4⟩ => ⟨h3, h4, fun _ => de_int ⟨rfl, rfl⟩⟩⟩, q⟩
end
end DL

set_option Elab.async false
set_option linter.all false
set_option maxRecDepth 100000
set_option maxHeartbeats 4000000
/-! defs with keyword-only parameters that have defaults -/
namespace DL
open PySem PySem.Spec PyProof.Rows L2
/-- such a def keeps its promise over all its values -/
structure DfK (P : Program) (w : World) (K : PySem.W.Frag) (mg : Str → Option Value) (base : Heap) (k : Nat) (x : Str) (ps : List Str) (st : Stmt) (kws : List (Str × V)) (p : PT0) : Prop where
  ex : ∃ (f : Addr) (fd : FuncData), FnG P w K mg base k f fd ps p ∧ mg x = some (.ref f) ∧ PySem.W.keepIn K (.ref f) = true ∧ FunD K x x (defArgs st) (defBody st) (defScope st) [] kws f fd
/-- it stands behind the top -/
structure TxK (K : PySem.W.Frag) (mg : Str → Option Value) (x : Str) (st : Stmt) (kws : List (Str × V)) : Prop where
  ex : ∃ (f : Addr) (fd : FuncData), FunD K x x (defArgs st) (defBody st) (defScope st) [] kws f fd ∧ mg x = some (.ref f)
section
variable {P : Program} {w : World} {K : PySem.W.Frag} {mg : Str → Option Value} {base : Heap}
theorem fun_ofD {x qual : Str} {st : Stmt} {kws : List (Str × V)} {f : Addr} {fd : FuncData} (F : FunD K x qual (defArgs st) (defBody st) (defScope st) [] kws f fd) : Fun K x qual st f fd := by
  obtain ⟨oc, od, dV, kV, doc, pm, an, cdv, ct, osl, e, lk, hcd, hD, _⟩ := F.ex
  rcases hD with ⟨_, rfl⟩ | ⟨h, _⟩
  · exact ⟨⟨oc, od, kV, doc, pm, an, cdv, ct, osl, e, lk, hcd⟩, F.kp⟩
  · exact absurd rfl h
theorem dfk_ok {x : Str} {st : Stmt} {kws : List (Str × V)} {N ps : List Str} {k : Nat} {p : PT0} (T : TxK K mg x st kws) (S : FnScope N ps (defScope st)) (len : ∀ ds M R, p ds M R → ds.length = ps.length)
    (body : ∀ (cdv : Value) (A : Around) (ou : List Env) (s : Shared) (H : Hp) {f : Addr}, Room k (A.deeper (envOfC x (defScope st) s.heap.objs.size f cdv)) → (A.deeper (envOfC x (defScope st) s.heap.objs.size f cdv)).guards = some [] →
      ∃ t, PSs (cxOf CX0 P w K mg base N x (defScope st) f cdv A ou s H E0).nox (defBody st) t ∧ ∀ ds M R, p ds M R → DS K t (ds.map some ++ List.replicate (N.length - ds.length) none) M { nx := fun _ M' => R .non M', rt := R }) :
    DfK P w K mg base (k + 1) x ps st kws p := by
  obtain ⟨f, fd, Fu, g⟩ := T.ex
  exact ⟨f, fd, g_of (P := P) (w := w) (mg := mg) (base := base) (k := k) (p := p) (fun_ofD Fu) S len fun cdv A ou s H hr gd => body cdv A ou s H hr gd, g, Fu.kp, Fu⟩
end
/-- a call: the values by place, then those by name; gD: all of them in the parameters' order -/
def tCallK (n m : Nat) (sp : Sp) (gV : List V → List V → List V) (t tk : TA) : TE := fun σ H Q => t σ H fun vs H1 => tk σ H1 fun zs H2 => vs.length = n ∧ zs.length = m ∧ sp (gV vs zs) H2 Q E0
section
variable {X : Cx} {P : Program} {w : World} {K : PySem.W.Frag} {mg : Str → Option Value} {base : Heap} {k n : Nat} {x : Str} {ps ks : List Str} {st : Stmt} {kws : List (Str × V)} {p : PT0} {e : Expr} {es : List Expr} {kw : List Keyword} {t tk : TA} {pp pos : Pos}
theorem run_gK {f : Addr} {fd : FuncData} {pins : List (Addr × Obj)} {σ : Sg} {H : Hp} {s : Shared} {Q : VK} {us ws : List Value} {vs zs : List V} {g : List Value → List Value → List Value} {gV : List V → List V → List V} (F : FnG X.prog X.w X.K X.mg X.base k f fd ps p) (hr : Room k X.A) (gd : X.A.guards = some []) (hb : KBn X.K fd ps n ks g gV) (I : Inv X pins σ H s)
    (r : Vals vs us) (rz : Vals zs ws) (l1 : vs.length = n) (l2 : zs.length = ks.length) (hp : spD X.K p (gV vs zs) H Q E0) : wpAny (model X.prog X.w) X.A (call (.ref f) us (ks.zip ws)) (EP X pins σ Q) X.xe s := by
  refine wpAny_call (codeAny_mono (F.run X.A X.stack s H ⟨us, ks.zip ws⟩ (g us ws) (gV vs zs) Q hr gd I.env0 (hb.to s us ws I.kIn (r.length.symm.trans l1) (rz.length.symm.trans l2)) (hb.rel r rz) hp) fun r2 s2 hq => ?_)
  obtain ⟨u, rfl, q⟩ := back_of (E := X.xe) I hq
  exact q
/-- f(e, .., k = v, ..): ks the names that are given, ms what lacks, g all values in the parameters' order -/
theorem pe_callKw (h : DfK P w K mg base k x ps st kws p) (hr : Room k X.A) (gd : X.A.guards = some []) (hg : Gl X x) (ha : PA X (e :: es) t) (hkw : PK X kw tk) (n : Nat) (ms : List (Str × V)) (g : {α : Type} → List α → List α → List α → List α) (hk : kws ≠ []) (hms : ∀ q ∈ ms, q ∈ kws)
    (hrel : ∀ {vs mz zs : List V} {us mv ws : List Value}, Vals vs us → Vals mz mv → Vals zs ws → Vals (g vs mz zs) (g us mv ws))
    (hch : ∀ (D : Addr) (doc pm : Value) (an : Option Addr) (cdv ct : Value) (us mv ws : List Value), us.length = n → mv.length = ms.length → ws.length = ks.length →
      KwChain D ((ms.map (·.1)).zip mv) (bindArgs (PySem.W.fnOf x x (defArgs st) (defBody st) (defScope st) .none (.ref D) doc pm an cdv ct) ⟨us, ks.zip ws⟩) (ps.zip (g us mv ws)))
    (hX : Is X P w K mg base := by exact ⟨rfl, rfl, rfl, rfl, rfl⟩) (hall : (backToKw pos (keywordEach kw X.env)).all (·.1.isSome) = true := by rfl) (hks : (backToKw pos (keywordEach kw X.env)).filterMap (·.1) = ks := by rfl)
    (hd : (x == ("__debug__" : Str)) = false := by decide) (hst : starEach (e :: es) X.env = (false, eval e X.env) :: starEach es X.env := by rfl)
    (hpl : ((backTo pos (starEach (e :: es) X.env)).any (·.1) || (backToKw pos (keywordEach kw X.env)).any (·.1.isNone)) = false := by rfl) :
    PE X (.Call (.Name x pp) (e :: es) kw pos) (tCallK n ks.length (spD K p) (fun vs zs => g vs (ms.map (·.2)) zs) t tk) := by
  obtain ⟨rfl, rfl, rfl, rfl, rfl⟩ := hX
  obtain ⟨f, fd, G, gl, kp, Fu⟩ := h.ex
  obtain ⟨mv, hb⟩ := FunD.kbinds0 Fu n ks ms (ps := ps) g hk hms hrel hch
  refine ⟨fun pins s σ H Q I z => wpAny_Call_Name_kw (ld_glob I hg gl ?_ hd)⟩
  refine PySem.W.callWith_KW (h₀ := X.base) I.ok.mod.kin kp hall (wpAny_mono (ha.run pos pins s σ H _ I z) (fun us s1 hs => ?_) fun _ _ hs => hs) hpl hst
  obtain ⟨vs, H1, I1, r, q⟩ := hs
  refine wpAny_mono (hkw.run pos pins s1 σ H1 _ I1 q) (fun ws s2 hs => ?_) fun _ _ hs => hs
  obtain ⟨zs, H2, I2, rz, l1, l2, q2⟩ := hs
  refine ⟨I2.kIn, ?_⟩
  rw [hks]
  exact run_gK G hr gd hb I2 r rz l1 l2 q2
/-- f(e, ..), all that have defaults lack -/
theorem pe_callKw0 (h : DfK P w K mg base k x ps st kws p) (hr : Room k X.A) (gd : X.A.guards = some []) (hg : Gl X x) (ha : PA X (e :: es) t) (n : Nat) (hk : kws ≠ [])
    (hch : ∀ (D : Addr) (doc pm : Value) (an : Option Addr) (cdv ct : Value) (us mv ws : List Value), us.length = n → mv.length = kws.length → ws.length = ([] : List Str).length →
      KwChain D ((kws.map (·.1)).zip mv) (bindArgs (PySem.W.fnOf x x (defArgs st) (defBody st) (defScope st) .none (.ref D) doc pm an cdv ct) ⟨us, ([] : List Str).zip ws⟩) (ps.zip (us ++ mv)))
    (hX : Is X P w K mg base := by exact ⟨rfl, rfl, rfl, rfl, rfl⟩) (hd : (x == ("__debug__" : Str)) = false := by decide) (hst : starEach (e :: es) X.env = (false, eval e X.env) :: starEach es X.env := by rfl) (hpl : (backTo pos (starEach es X.env)).any (·.1) = false := by rfl) :
    PE X (.Call (.Name x pp) (e :: es) [] pos) (tCallK n 0 (spD K p) (fun vs _ => vs ++ kws.map (·.2)) t tNil) := by
  obtain ⟨rfl, rfl, rfl, rfl, rfl⟩ := hX
  obtain ⟨f, fd, G, gl, kp, Fu⟩ := h.ex
  obtain ⟨mv, hb⟩ := FunD.kbinds0 Fu n [] kws (ps := ps) (fun us mv _ => us ++ mv) hk (fun q h => h) (fun a b _ => a.append b) hch
  refine ⟨fun pins s σ H Q I z => wpAny_Call_Name_kw (ld_glob I hg gl ?_ hd)⟩
  refine PySem.W.callWith_K (h₀ := X.base) I.ok.mod.kin kp (wpAny_mono (ha.run pos pins s σ H _ I z) (fun us s1 hs => ?_) fun _ _ hs => hs) hst hpl
  obtain ⟨vs, H1, I1, r, q⟩ := hs
  obtain ⟨l1, _, q2⟩ := q
  exact ⟨I1.kIn, run_gK (ws := []) (zs := []) G hr gd hb I1 r .nil l1 rfl q2⟩
end
section
variable {K : PySem.W.Frag} {δ : En} {M : Mem} {Q : D → Mem → Prop} {p : PT0} {t tk : TA} {n m : Nat} {gV : List V → List V → List V}
theorem de_callK (gD : List D → List D → List D) (hrel : ∀ {G : Hp} {vs zs : List V} {ds es : List D}, RepL K G vs ds → RepL K G zs es → RepL K G (gV vs zs) (gD ds es)) (h : DA K t δ M fun ds M1 => DA K tk δ M1 fun es M2 => ds.length = n ∧ es.length = m ∧ p (gD ds es) M2 Q) :
    DE K (tCallK n m (spD K p) gV t tk) δ M Q := fun F σ H en mm QV k => by
  refine h F σ H en mm _ fun ds M1 vs H1 z g1 r1 => ?_
  refine z F σ H1 (en.mono g1.ex) g1.ok _ fun es M2 zs H2 z2 g2 r2 => ?_
  obtain ⟨l1, l2, hp⟩ := z2
  refine ⟨by rw [r1.length, l1], by rw [r2.length, l2], F, M2, gD ds es, Q, hrel (r1.mono g2.ex) r2, g2.ok, hp, fun d M3 u H3 q3 g3 r3 => k d M3 u H3 q3 ((g1.trans g2).trans g3) r3⟩
end
end DL
namespace DL
open PySem PySem.Spec PyProof.Rows L2
theorem vals_rev : ∀ {vs : List V} {us : List Value}, Vals vs us → Vals vs.reverse us.reverse
  | _, _, .nil => .nil
  | _, _, .cons a b => by
    rw [List.reverse_cons, List.reverse_cons]
    exact (vals_rev b).append (.cons a .nil)
end DL

set_option Elab.async false
set_option linter.all false
set_option maxRecDepth 100000
set_option maxHeartbeats 4000000
/-! a lambda made: its table of code objects is a part of the memory -/
namespace DL
open PySem PySem.Spec PyProof.Rows L2 LamX
/-- what the making of a lambda of the name q, its table at P, does to what is tracked; c' holds its code -/
def LamGo (q : Str) (P c' : Addr) (H H1 : Hp) : Prop := (H1 = H ∧ ∃ ps pos, H P = some (.tbl ps) ∧ codeAmong pos ps.toList = some (.ref c')) ∨
  ∃ ps ps' : Array Value, H P = some (.tbl ps) ∧ H c' = none ∧ H1 = upd (upd H P (.tbl ps')) c' (CodeO c' q) ∧ TriplesOk ps'.toList ∧ ∀ pos cv, codeAmong pos ps'.toList = some cv → codeAmong pos ps.toList = some cv ∨ cv = .ref c'
section
variable {K : PySem.W.Frag} {H H1 : Hp} {M : Mem} {F : Fm} {P c' : Addr} {q : Str}
/-- .. in the memory: nothing -/
theorem go_lam (k : MOk K F M H) (hm : M P = some (.tab q)) (g : LamGo q P c' H H1) : Go K F M H M H1 ∧ vis H1 M F c' = some (CodeO c' q) := by
  obtain ⟨ho, hP, ro⟩ := k.mo P _ hm
  cases ro with
  | tab t0 al =>
    rename_i ps0
    rcases g with ⟨rfl, ps, pos, e1, e2⟩ | ⟨ps, ps', e1, e2, rfl, e3, e4⟩
    · rw [hP] at e1; cases e1
      obtain ⟨c, e5, e6⟩ := al pos _ e2
      cases e5
      exact ⟨Go.refl k, e6⟩
    · rw [hP] at e1; cases e1
      obtain ⟨fc, mc⟩ := k.new e2
      have ne : P ≠ c' := ne_of_none hP e2
      have fP : ∀ b, F b = true → b ≠ P := fun b hb z => by
        subst z
        have := (k.fr b hb).2
        rw [hm] at this; cases this
      have fC : ∀ b, F b = true → b ≠ c' := fun b hb z => by subst z; rw [fc] at hb; cases hb
      have at_ : ∀ b, b ≠ P → b ≠ c' → upd (upd H P (.tbl ps')) c' (CodeO c' q) b = H b := fun b z1 z2 => by rw [upd_ne z2, upd_ne z1]
      have ex : Same (vis H M F) (vis (upd (upd H P (.tbl ps')) c' (CodeO c' q)) M F) := fun b u e => by
        obtain ⟨z1, z2, z3⟩ := vis_of e
        have n1 : b ≠ P := fun z => by subst z; rw [hm] at z3; cases z3
        exact vis_mk (by rw [at_ b n1 (ne_of_none z1 e2)]; exact z1) z2 z3
      have vc : vis (upd (upd H P (.tbl ps')) c' (CodeO c' q)) M F c' = some (CodeO c' q) := vis_mk upd_same fc mc
      refine ⟨⟨⟨fun b hb => ?_, fun a m ha => ?_, fun b ps2 hb => ?_⟩, ex, fun b hb => at_ b (fP b hb) (fC b hb)⟩, vc⟩
      · rw [at_ b (fP b hb) (fC b hb)]; exact k.fr b hb
      · by_cases z : a = P
        · subst z
          rw [hm] at ha; cases ha
          refine ⟨.tbl ps', by rw [upd_ne ne, upd_same], .tab e3 fun pos cv hcv => ?_⟩
          rcases e4 pos cv hcv with y | y
          · obtain ⟨c, y1, y2⟩ := al pos cv y
            exact ⟨c, y1, ex _ _ y2⟩
          · exact ⟨c', y, vc⟩
        · obtain ⟨ho2, y1, y2⟩ := k.mo a m ha
          exact ⟨ho2, by rw [at_ a z (ne_of_none y1 e2)]; exact y1, y2.mono ex⟩
      · by_cases z : b = P
        · subst z; exact .inr ⟨_, hm⟩
        · by_cases z2 : b = c'
          · subst z2
            rw [upd_same] at hb
            exact absurd (Option.some.inj hb) (codeO_ne ps2)
          · rw [at_ b z z2] at hb; exact k.tb b ps2 hb
end
section
variable {X : Cx} {pins : List (Addr × Obj)} {σ : L2.St} {H : Hp} {s : Shared}
/-- a lambda is made: only its own table changes -/
theorem lam_new {c P : Addr} {ps : Array Value} {params : Arguments} {body : Expr} {scope : Scope} {pos : Pos} {E : Value → Shared → Prop} {Q : Value → Shared → Prop} (I : Inv X pins σ H s) (B : TabB X.base X.mg c P) (hcode : X.env.code = .ref c)
    (hP : H P = some (.tbl ps)) (t0 : TriplesOk ps.toList) (al : ∀ (pos : Pos) (cv : Value), codeAmong pos ps.toList = some cv → ∃ c', cv = .ref c' ∧ H c' = some (CodeO c' (X.env.qual ++ "<lambda>")))
    (hdef : defaultsOf params X.env = ([], [])) (hfree : ∀ y ∈ scope.names, y.2 = .free → ∃ c, X.env.cells.lookup y.1 = some c)
    (h : ∀ (f c' : Addr) (pm ctv : Value) (H1 : Hp) (s' : Shared), Inv X pins σ H1 s' → LamGo (X.env.qual ++ "<lambda>") P c' H H1 → H1 c' = some (CodeO c' (X.env.qual ++ "<lambda>")) → H1 f = none → f ∉ frs X.stack →
      s'.heap.get? f = some (PySem.W.kla_obj "<lambda>" (X.env.qual ++ "<lambda>") params body scope (cloFrom X.env.cells scope.names []) pm c' ctv) → Q (.ref f) s') :
    wpAny (model X.prog X.w) X.A (eval (.Lambda params body scope pos) X.env) Q E s := by
  refine PySem.W.kla_eval hdef ?_
  have bq := B.bm.keeps I.bk
  have oP : s.heap.get? P = some { cls := .none, data := .fields ps } := I.hok P _ hP
  have out : ∀ f, s.heap.objs.size ≤ f → f ∉ frs X.stack := fun f hf z => by
    rcases List.mem_cons.mp (I.stkSub _ z) with y | y
    · rw [y] at hf; exact absurd I.lt (Nat.not_lt.mpr hf)
    · exact I.nofs hf y
  cases hc : codeAmong pos ps.toList with
  | some cv =>
    obtain ⟨c', rfl, hco⟩ := al pos cv hc
    refine PySem.W.kla_makeFunctionHit (mg := X.mg) (c := c) (P := P) (ps := ps) (closure_ok hfree) I.ok.glob (I.mod.glob.keeps I.bk) hcode (B.code.keeps I.bk) oP t0 hc bq fun ctv h' tk hx hsz => ?_
    exact h h'.objs.size c' _ ctv H _ (I.kept fun b o y => Heap.get?_push_of_some _ (hx b o y)) (.inl ⟨rfl, ps, pos, hP, hc⟩) hco (I.hok.fresh hsz) (out _ hsz) (Heap.get?_push_size _ rfl)
  | none =>
    refine PySem.W.kla_makeFunction (mg := X.mg) (c := c) (P := P) (ps := ps) (closure_ok hfree) I.ok.glob (I.mod.glob.keeps I.bk) hcode (B.code.keeps I.bk) oP t0 hc B.gP bq fun c' ctv h' tk hx hge hlt hrec htb => ?_
    obtain ⟨c2, oc, vs, t, y1, hoc, hd, hv⟩ := hrec
    cases y1
    have nC : H c' = none := I.hok.fresh hge
    have hsz : s.heap.objs.size ≤ h'.objs.size := Nat.le_of_lt (Nat.lt_of_le_of_lt hge hlt)
    have nP : h'.objs.size ≠ P := fun z => absurd (Nat.lt_of_lt_of_le (Heap.lt_size oP) hsz) (by rw [z]; exact Nat.lt_irrefl _)
    have I1 := inv_table (t' := tk) (more := #[rawInt pos.line, rawInt pos.col, .ref c']) (h' := h'.push (PySem.W.kla_obj "<lambda>" (X.env.qual ++ "<lambda>") params body scope (cloFrom X.env.cells scope.names []) ((X.mg "__name__").getD .none) c' ctv)) I hP
      (fun b o hb y => Heap.get?_push_of_some _ (hx b o hb y)) (Heap.get?_push_of_some _ htb) hge ⟨oc, vs, t, Heap.get?_push_of_some _ hoc, hd, hv⟩
    have eL : (ps ++ #[rawInt pos.line, rawInt pos.col, Value.ref c']).toList = ps.toList ++ [rawInt pos.line, rawInt pos.col, .ref c'] := by rw [Array.toList_append]
    refine h h'.objs.size c' _ ctv _ _ I1 (.inr ⟨ps, _, hP, nC, rfl, by rw [eL]; exact PySem.TriplesOk_snoc _ _ _ _ t0, fun p2 cv hcv => ?_⟩) upd_same ?_ (out _ hsz) (Heap.get?_push_size _ rfl)
    · rw [eL] at hcv
      exact among_app _ t0 hcv
    · rw [upd_ne (Nat.ne_of_gt hlt), upd_ne nP]
      exact I.hok.fresh hsz
end
end DL
namespace DL
open PySem PySem.Spec PyProof.Rows L2 LamX
section
variable {X : Cx} {pins : List (Addr × Obj)} {σ : L2.St} {H : Hp} {s : Shared}
/-- a(), in the def that got the lambda; its body is read in this very place -/
theorem pe_actG {CXg : CXT} {Eg : XK} {Ng : List Str} {qg : Str} {sg : Scope} {g f c' : Addr} {cdg pm ctv : Value} {params : Arguments} {body : Expr} {scope : Scope} {k i : Nat} {a : Str} {pn : List (Addr × Obj)} {xe : Value → Shared → Prop} {W : WX} {E : XK} {tb : TE} {p1 p2 : Pos}
    (I : L2.Inv X pins σ H s) (L : LamS X.env.scope scope) (of : s.heap.get? f = some (PySem.W.kla_obj "<lambda>" (X.env.qual ++ "<lambda>") params body scope (cloFrom X.env.cells scope.names []) pm c' ctv)) (nf : H f = none) (ff : f ∉ frs X.stack)
    (bl : bindArgs (PySem.W.kla_fn "<lambda>" (X.env.qual ++ "<lambda>") params body scope (cloFrom X.env.cells scope.names []) pm (.ref c') ctv) ⟨[], []⟩ = pure [])
    (tk : Takes ((cxOf CXg X.prog X.w X.K X.mg X.base Ng qg sg g cdg X.A X.stack s H Eg).tr pn xe) W) (hW : ∀ cls d σ' H', E cls d H' → W cls d σ' H') (hr : Room (k + 1) (X.A.deeper (envOfC qg sg s.heap.objs.size g cdg)))
    (hb : ∀ (outer : List Env) (s2 : Shared) (H2 : Hp), Room k ((X.A.deeper (envOfC qg sg s.heap.objs.size g cdg)).deeper (lamEnv X scope s2.heap.objs.size f c')) → PE (lamCx X (X.A.deeper (envOfC qg sg s.heap.objs.size g cdg)) outer s2 H2 E scope f c') body tb)
    (hN : Ng[i]? = some a) (hv : Vis sg a) (d1 : (a == ("__debug__" : Str)) = false := by decide) (d2 : (a == ("__classdict__" : Str)) = false := by decide) :
    PE ((cxOf CXg X.prog X.w X.K X.mg X.base Ng qg sg g cdg X.A X.stack s H Eg).tr pn xe) (.Call (.Name a p1) [] [] p2)
      (fun σZ HZ Q => σZ[i]? = some (some (.ref f)) ∧ HZ c' = some (CodeO c' (X.env.qual ++ "<lambda>")) ∧ tb σ HZ Q) := by
  constructor
  rintro pz sz σz hz Q IZ ⟨e1, e2, e3⟩
  refine wpAny_Call_Name_kw (thn ((pe_var (pos := p1) (i := i) hN hv d1 d2).run pz sz σz hz (fun v H1 => v = .ref f ∧ H1 = hz) IZ ⟨.ref f, e1, rfl, rfl⟩) fun u s1 ⟨v, H1, I1, r1, q1, q2⟩ => ?_)
  subst q1
  rw [q2] at I1
  obtain rfl : u = Value.ref f := r1
  have o1 := I1.base.keep f _ of nf ff (fun z => nomatch (show f ∈ ([] : List Addr) from z))
  refine PySem.W.callWith_F0 ⟨_, _, _, _, o1⟩ ?_
  have un : Un (frs X.stack) [] H hz s.heap s1.heap := I1.base
  obtain ⟨⟨oc, vs, t, hoc, hdc, hvc⟩, _, _⟩ := I1.hok c' _ e2
  have ran : codeAny (model X.prog X.w) (X.A.deeper (envOfC qg sg s.heap.objs.size g cdg)) (.call (.ref f) ⟨[], []⟩) (CR (L2.CX X.prog X.w) (envOfC qg sg s.heap.objs.size g cdg :: X.stack) X.prog X.w hz s1 Q E) s1 := by
    refine PySem.W.kla_callFunE hr.depth o1 rfl L.co L.gen rfl ⟨c', oc, vs, t, rfl, hoc, hdc, hvc⟩ ?_
    rw [bl]
    refine wpAny_pure (wpAny_newFunctionEnv (fun y hy => (L.own y hy).2) (fun y hy => absurd hy (by simp)) (fun h₁ hns hsb => ⟨I1.nolimit.fresh _ hsb, ?_⟩) L.kind)
    show codeAny _ _ (.expr body (lamEnv X scope s1.heap.objs.size f c')) _ _
    have J := lam_start2 (E := E) (f := f) (c' := c') (tk := s1.toks + ([] : List (Str × Value)).length) I L I1.env0 hr.hd un hns fun b o z => hsb.extBut b o (Nat.ne_of_lt (Heap.lt_size z)) (Heap.get?_push_of_some _ z)
    refine PySem.W.kla_codeExpr (wpAny_mono ((hb _ s1 hz (hr.deeper _)).run [] _ _ hz Q J e3) (fun v s' hq => ?_) fun e s' hq => hq)
    obtain ⟨w', H', J', rv, q⟩ := hq
    exact ⟨w', H', J'.os, J'.bare, J'.base, J'.hok, rv, q⟩
  have px : Passes (L2.CX X.prog X.w) ((cxOf CXg X.prog X.w X.K X.mg X.base Ng qg sg g cdg X.A X.stack s H Eg).tr pn xe) E := passes_call tk hW
  refine wpAny_call (codeAny_mono ran fun r s' hq => ?_)
  match r, hq with
  | .error e, hq => exact px pz σz hz s1 e s' I1 hq
  | .ok (.ret u), hq => exact I1.after hq
  | .ok .next, hq => exact False.elim hq
  | .ok .brk, hq => exact False.elim hq
  | .ok .cont, hq => exact False.elim hq
end
end DL
namespace DL
open PySem PySem.Spec PyProof.Rows L2 LamX
/-- x(lambda: body) over the maker's own table -/
def tLamM (q : Str) (P : Addr) (TT : (XK → Hp → VK → Prop) → Hp → VK → Prop) (t : XK → TE) : TE := fun σ H Q => ∃ ps : Array Value, H P = some (.tbl ps) ∧ TriplesOk ps.toList ∧
  (∀ (pos : Pos) (cv : Value), codeAmong pos ps.toList = some cv → ∃ c', cv = .ref c' ∧ H c' = some (CodeO c' q)) ∧ ∀ c' H1, LamGo q P c' H H1 → TT (fun E H' Q' => t E σ H' Q') H1 Q
section
variable {X : Cx}
theorem pe_lam {TT : (XK → Hp → VK → Prop) → Hp → VK → Prop} {x a : Str} {g c P : Addr} {k : Nat} {pg : Arguments} {bg : List Stmt} {sg : Scope} {dV kV doc pm cdv ct oc : Value} {an od : Option Addr} {osl : Array (Option Value)} {Ng : List Str}
    {params : Arguments} {body : Expr} {scope : Scope} {t : XK → TE} {p lpos pos : Pos} (gx : Gl X x) (mx : X.mg x = some (.ref g)) (kx : PySem.W.keepIn X.K (.ref g) = true)
    (lx : X.K.lookup g = some ⟨oc, od, .func (PySem.W.fnOf x x pg bg sg dV kV doc pm an cdv ct), osl⟩) (cx : PySem.W.codeIn X.K cdv x = true) (bx : L2.Binds X.K (PySem.W.fnOf x x pg bg sg dV kV doc pm an cdv ct) [a] []) (Sg : FnScope Ng [a] sg) (nx : Ng[0]? = some a) (vx : Vis sg a)
    (G : GivesTo X Ng x sg g cdv bg a (X.env.qual ++ "<lambda>") TT)
    (B : TabB X.base X.mg c P) (hcode : X.env.code = .ref c) (hr : Room (k + 2) X.A) (L : LamS X.env.scope scope) (hdef : defaultsOf params X.env = ([], []))
    (bl : ∀ (q : Str) (cl : List (Str × Addr)) (pm cv ctv : Value), bindArgs (PySem.W.kla_fn "<lambda>" q params body scope cl pm cv ctv) ⟨[], []⟩ = pure [])
    (gd : X.A.guards = some []) (hb : ∀ (A : Around) (outer : List Env) (s : Shared) (H : Hp) (E : XK) (f c' : Addr), A.guards = some [] → Room k (A.deeper (lamEnv X scope s.heap.objs.size f c')) → PE (lamCx X A outer s H E scope f c') body (t E))
    (d1 : (x == ("__debug__" : Str)) = false := by decide) (d2 : (a == ("__debug__" : Str)) = false := by decide) (d3 : (a == ("__classdict__" : Str)) = false := by decide) :
    PE X (.Call (.Name x p) [.Lambda params body scope lpos] [] pos) (tLamM (X.env.qual ++ "<lambda>") P TT t) := by
  refine ⟨fun pins s σ H Q I z => ?_⟩
  obtain ⟨ps, hP, t0, al, z⟩ := z
  refine wpAny_Call_Name_kw (ld_glob I gx mx ?_ d1)
  refine PySem.W.callWith_K (h₀ := X.base) I.ok.mod.kin kx ?_ (by rfl) (by rfl)
  show wpAny _ _ (spliced ((false, eval (.Lambda params body scope lpos) X.env) :: backTo pos (starEach [] X.env))) _ _ s
  refine Calls.spliced_cons (lam_new I B hcode hP t0 al hdef (L.has I.ok) fun f c' pm' ctv H1 s1 I1 lg hco fn fr hf => ?_)
  have ran : codeAny (model X.prog X.w) X.A (.call (.ref g) ⟨[.ref f], []⟩) (CR C8.CX0 X.stack X.prog X.w H1 s1 Q C8.E0) s1 := by
    refine run_ofS (N := Ng) (ps := [a]) (us := [.ref f]) (vs := [.ref f]) lx cx Sg hr I1.env0 (bx s1 [.ref f] I1.kIn rfl) (.cons rfl .nil) rfl fun hr2 => ?_
    obtain ⟨u, hu, hq⟩ := G f c' s1 H1 Q (fun E H' Q' => t E σ H' Q') (fun W pn xe E p1 p2 tk hW => pe_actG (i := 0) I1 L hf fn fr (bl _ _ _ _ _) tk hW hr2 (fun outer s H hr3 => hb _ outer s H E f c' gd hr3) nx vx d2 d3) hco (z c' H1 lg)
    exact ⟨u, hu.nox, hq⟩
  refine Calls.spliced_nil ⟨I1.kIn, wpAny_call (codeAny_mono ran fun r s2 hq => ?_)⟩
  match r, hq with
  | .ok (.ret u), hq => exact I1.after hq
  | .ok .next, hq => exact False.elim hq
  | .ok .brk, hq => exact False.elim hq
  | .ok .cont, hq => exact False.elim hq
  | .error _, hq => exact False.elim hq
end
end DL
namespace DL
open PySem PySem.Spec PyProof.Rows L2 LamX
section
variable {X : Cx} {x n : Str} {c : Value} {i : Nat} {body suite : List Stmt} {b₀ : Stmt} {np pos pos' : Pos} {tb : WX → TS} {ts : Addr → Value → Option Addr → TS} {Wout : WX} {hds : List ExceptHandler} {l : List (Value × (Addr → Value → Option Addr → TS))}
/-- try: .. except x as n: .. except ..: .. -/
theorem ps_try_asMany (hs : X.stack = X.env :: X.outer) (hf : X.env.frame = some X.env.locals) (hN : X.N.Nodup) (hi : X.N[i]? = some n) (hln : X.env.kindOf n = some .local) (hc : Names X x c) (tk : Takes X Wout)
    (hb : ∀ (W : WX) (pn : List (Addr × Obj)) (xe : Value → Shared → Prop), Takes (X.tr pn xe) W → PassesOwn (model X.prog X.w) X.A X.env xe → PSs (X.tr pn xe) body (tb W))
    (su : ∀ (a : Addr) (oe : Obj) (cls : Value) (d : Option Addr) (pn : List (Addr × Obj)), Zc cls d oe → (∃ vs, oe.data = .fields vs) → PSs (X.suite a ((a, oe) :: pn)) (b₀ :: suite) (ts a cls d)) (hh : HdsOk X hds l) :
    PS X (.Try body (.ExceptHandler (some (.Name x np)) (some n) (b₀ :: suite) pos' :: hds) [] [] pos) (fun D σ H => tb (wAs X.K c i ts (wMany X.K Wout D l) D) D σ H) := by
  constructor
  intro pins s σ H D I h
  have ok := I.ok
  have fm : X.A.frames = some (X.env :: X.outer) := by rw [ok.frames, hs]
  have hloc : Loc X.env.scope n := .inl hln
  refine wpAny_Try_except ?_
  refine wpAny_mono ((hb (wAs X.K c i ts (wMany X.K Wout D l) D) (X.pn ++ pins) (fun e s₁ => wpAny (model X.prog X.w) X.A (noteFrame e X.env) (fun _ s₂ => wpAny (model X.prog X.w) X.A (setFlight e none) (fun _ s₃ =>
    wpAny (model X.prog X.w) X.A (handleBy e X.env (.ExceptHandler (some (.Name x np)) (some n) (b₀ :: suite) pos' :: hds)) (SP X pins D) X.xe s₃) X.xe s₂) X.xe s₁) (fun u s' xx => ?_) PassesOwn.looking).run [] s σ H D (I.toTry _) h) (fun f s1 q => ?_) fun e s1 q => q
  · obtain ⟨a, B, sI, pins', σ', H', cls, d, rfl, J', nb, up, sky, na, os, ag, b, hb1, yes, no⟩ := xx
    have J : Inv X pins σ' H' sI := J'.ofTry ok
    have sk : Sky B (X.env :: X.outer) a (Zc cls d) X.env.locals s'.heap := by rw [← hs]; exact sky
    show wpAny (model X.prog X.w) X.A (noteFrame (.ref a) X.env) _ _ _
    refine Sky.land Zc.steady fm hf sk fun h3 fl3 up3 => ?_
    have J3 : Inv X pins σ' H' { s' with heap := h3 } := J.landed nb fl3.1 (up.trans up3) os ag
    obtain ⟨oe3, vs3, he3, hz3, hd3⟩ := fl3.there
    have off : a ∉ frs (X.env :: X.outer) := fun hm => by
      obtain ⟨_, o', e', hnf⟩ := fl3.2.2.1.mem hm
      rw [he3] at e'; cases e'
      exact hnf _ hd3
    have nL : a ≠ X.env.locals := fun z => off (List.mem_filterMap.mpr ⟨X.env, List.mem_cons_self, by rw [hf, z]⟩)
    have nF : a ∉ X.fs := fun hm => let ⟨e, he, q⟩ := List.mem_filterMap.mp hm; off (List.mem_filterMap.mpr ⟨e, List.mem_cons_of_mem _ he, q⟩)
    have S3 := J3.suite he3 hd3 na nL nF
    have LT : PySem.W.Looks (model X.prog X.w) h3 (typeOf (.ref a)) cls := fun A Q E s k q => wpAny_typeOf_ref (k _ _ he3) (by rw [hz3.1]; exact q)
    -- the test of a clause
    have asks : ∀ {x : Str} {c : Value} {np : Pos} {Q : Value → Shared → Prop} {E : Value → Shared → Prop}, Names X x c → Q c { s' with heap := h3 } → wpAny (model X.prog X.w) (X.A.mark (some (.ref a))) (eval (.Name x np) X.env) Q E { s' with heap := h3 } := fun hc q => by
      obtain ⟨hg, hdb, hm | ⟨hm, hv, hnn⟩⟩ := hc
      · exact ld_glob (X := X.suite a ((a, oe3) :: (X.pn ++ pins))) S3 hg hm q hdb
      · exact ld_blt (X := X.suite a ((a, oe3) :: (X.pn ++ pins))) S3 hg hm hv q hnn hdb
    -- the clauses behind the first
    have rest : ∀ {hds' : List ExceptHandler} {l' : List (Value × (Addr → Value → Option Addr → TS))}, HdsOk X hds' l' → wMany X.K Wout D l' cls d σ' H' → wpAny (model X.prog X.w) X.A (handleBy (.ref a) X.env hds') (SP X pins D) X.xe { s' with heap := h3 } := by
      intro hds' l' hk
      induction hk with
      | nil =>
        refine fun w => wpAny_handleBy_nil ?_
        obtain ⟨_, _, _, oe, vs, T, oT, ts', he, _, hd, h1, _⟩ := id fl3
        have end_ : wpAny (model X.prog X.w) X.A (setFlight (.ref a) X.env.frame) (fun _ s4 => wpAny (model X.prog X.w) X.A (throw (.ref a) : Sem Flow) (SP X pins D) X.xe s4) X.xe { s' with heap := h3 } := by
          rw [hf]
          exact HandSPX.setFlight_upZ fl3 fun h4 hh4 up4 => wpAny_throw (tk _ _ ⟨a, B, sI, pins, σ', H', cls, d, rfl, J, nb, (up.trans up3).trans up4, .inr (.inr (by rw [hs]; exact hh4)), na, os, ag, w⟩)
        unfold PySem.passOn
        refine wpAny_bind (wpAny_field he hd h1 ?_)
        rw [if_neg (by simp)]
        first | exact wpAny_bind (wpAny_pure (wpAny_bind end_)) | exact wpAny_bind end_
      | @cons x c ts b₀ suite np pos' hds2 l2 hc hsu r ih =>
        rintro ⟨b, hb1, yes, no⟩
        refine wpAny_handleBy_cons (codeAny_handlers_test (asks hc ((PySem.W.exm_one (M := model X.prog X.w) (J3.kIn) LT hb1).here ?_))) (by intro q; cases q)
        cases b with
        | true =>
          refine codeAny_handlers_suite (HandSPX.lands_againZ fl3 fun h4 fl4 up4 => ?_)
          have J4 : Inv X pins σ' H' { s' with heap := h4 } := J.landed nb fl4.1 ((up.trans up3).trans up4) os ag
          obtain ⟨oe4, vs4, he4, hz4, hd4⟩ := fl4.there
          refine wpAny_mono ((hsu a oe4 cls d (X.pn ++ pins) hz4 ⟨_, hd4⟩).run [] _ _ H' _ (J4.suite he4 hd4 na nL nF) (yes rfl a na)) (fun f s6 q => ?_) (fun _ _ z => False.elim z)
          cases f with
          | ret u => obtain ⟨v6, σ6, H6, S6, r6, q6⟩ := q; exact ⟨_, _, _, S6.unsuite ok, r6, q6⟩
          | next => obtain ⟨σ6, H6, S6, q6⟩ := q; exact ⟨_, _, S6.unsuite ok, q6⟩
          | brk => obtain ⟨σ6, H6, S6, q6⟩ := q; exact ⟨_, _, S6.unsuite ok, q6⟩
          | cont => obtain ⟨σ6, H6, S6, q6⟩ := q; exact ⟨_, _, S6.unsuite ok, q6⟩
        | false => exact ih (no rfl)
    refine wpAny_handleBy_cons (codeAny_handlers_test (asks hc ((PySem.W.exm_one (M := model X.prog X.w) (J3.kIn) LT hb1).here ?_))) (by intro q; cases q)
    cases b with
    | false => exact rest hh (no rfl)
    | true =>
      refine codeAny_handlers_suite_as (HandSPX.lands_againZ fl3 fun h4 fl4 up4 => ?_)
      have J4 : Inv X pins σ' H' { s' with heap := h4 } := J.landed nb fl4.1 ((up.trans up3).trans up4) os ag
      obtain ⟨oe4, vs4, he4, hz4, hd4⟩ := fl4.there
      refine store_ok (X := X.suite a ((a, oe4) :: (X.pn ++ pins))) (v := .ref a) (J4.suite he4 hd4 na nL nF) hN hi hloc rfl (fun s5 S5 => ?_) (.inr hln)
      refine wpAny_mono ((su a oe4 cls d (X.pn ++ pins) hz4 ⟨_, hd4⟩).run [] s5 _ H' _ S5 (yes rfl a na)) (fun f s6 q => ?_) (fun _ _ z => False.elim z)
      cases f with
      | ret u => obtain ⟨v6, σ6, H6, S6, r6, q6⟩ := q; exact gone_ok (S6.unsuite ok) hN hi hln fun s7 J7 => ⟨_, _, _, J7, r6, q6⟩
      | next => obtain ⟨σ6, H6, S6, q6⟩ := q; exact gone_ok (S6.unsuite ok) hN hi hln fun s7 J7 => ⟨_, _, J7, q6⟩
      | brk => obtain ⟨σ6, H6, S6, q6⟩ := q; exact gone_ok (S6.unsuite ok) hN hi hln fun s7 J7 => ⟨_, _, J7, q6⟩
      | cont => obtain ⟨σ6, H6, S6, q6⟩ := q; exact gone_ok (S6.unsuite ok) hN hi hln fun s7 J7 => ⟨_, _, J7, q6⟩
  · cases f with
    | ret u => obtain ⟨v, σ', H', J', r, q⟩ := q; exact ⟨v, σ', H', J'.ofTry ok, r, q⟩
    | next => obtain ⟨σ', H', J', q⟩ := q; exact wpAny_execs_nil ⟨σ', H', J'.ofTry ok, q⟩
    | brk => obtain ⟨σ', H', J', q⟩ := q; exact ⟨σ', H', J'.ofTry ok, q⟩
    | cont => obtain ⟨σ', H', J', q⟩ := q; exact ⟨σ', H', J'.ofTry ok, q⟩
end
end DL

set_option Elab.async false
set_option linter.all false
set_option maxRecDepth 100000
set_option maxHeartbeats 4000000
/-! errors over the memory: promises of defs that may raise -/
namespace DL
open PySem PySem.Spec PyProof.Rows L2 LamX
/-- what is to hold of an error: its class, what it keeps, the memory -/
abbrev XP := Addr → List (Str × D) → Mem → Prop
abbrev PTX := List D → Mem → (D → Mem → Prop) → XP → Prop
/-- the error's own dict holds what it keeps -/
def XRep (K : PySem.W.Frag) (G : Hp) (dd : Option Addr) (fs : List (Str × D)) : Prop := (fs = [] ∧ dd = none) ∨ ∃ (d : Addr) (xs : List (Str × V)), dd = some d ∧ G d = some (.xd xs) ∧ RepS K G xs fs
/-- the way out of an error is good from here on -/
def XG (K : PySem.W.Frag) (E : XK) (RX : XP) (F : Fm) (M : Mem) (H : Hp) : Prop := ∀ C fs M' H' dd, RX C fs M' → Go K F M H M' H' → XRep K (vis H' M' F) dd fs → E (.ref C) dd H'
section
variable {K : PySem.W.Frag} {E : XK} {RX : XP} {F : Fm} {M M1 : Mem} {H H1 : Hp}
theorem XG.go (g : XG K E RX F M H) (h : Go K F M H M1 H1) : XG K E RX F M1 H1 := fun C fs M' H' dd r g2 x => g C fs M' H' dd r (h.trans g2) x
theorem XG.imp {RX' : XP} (g : XG K E RX F M H) (h : ∀ C fs M', RX' C fs M' → RX C fs M') : XG K E RX' F M H := fun C fs M' H' dd r g2 x => g C fs M' H' dd (h _ _ _ r) g2 x
end
/-- a promise by data, errors too -/
def spX (K : PySem.W.Frag) (p : PTX) : Sp := fun vs H Q E => ∃ (F : Fm) (M : Mem) (ds : List D) (R : D → Mem → Prop) (RX : XP), RepL K (vis H M F) vs ds ∧ MOk K F M H ∧ p ds M R RX ∧
  (∀ d M' v H', R d M' → Go K F M H M' H' → Rep K (vis H' M' F) v d → Q v H') ∧ XG K E RX F M H
theorem spX_len {K : PySem.W.Frag} {p : PTX} {n : Nat} (len : ∀ ds M R RX, p ds M R RX → ds.length = n) {vs : List V} {H : Hp} {Q : VK} {E : XK} (h : spX K p vs H Q E) : vs.length = n := by
  obtain ⟨F, M, ds, R, RX, r, _, hp, _⟩ := h
  rw [r.length]
  exact len ds M R RX hp
/-- a statement that may raise -/
def DSX (K : PySem.W.Frag) (X : XK) (RX : XP) (ts : TS) (δ : En) (M : Mem) (q : DK) : Prop :=
  ∀ (F : Fm) (σ : Sg) (H : Hp), EnvR K (vis H M F) σ δ → MOk K F M H → XG K X RX F M H → ∀ E : Ends,
    (∀ δ' M' σ' H', q.nx δ' M' → Go K F M H M' H' → EnvR K (vis H' M' F) σ' δ' → E.nx σ' H') →
    (∀ d M' v H', q.rt d M' → Go K F M H M' H' → Rep K (vis H' M' F) v d → E.rt v H') →
    (∀ δ' M' σ' H', q.bk δ' M' → Go K F M H M' H' → EnvR K (vis H' M' F) σ' δ' → E.bk σ' H') →
    (∀ δ' M' σ' H', q.ct δ' M' → Go K F M H M' H' → EnvR K (vis H' M' F) σ' δ' → E.ct σ' H') → ts E σ H
section
variable {K : PySem.W.Frag} {X : XK} {RX : XP} {δ : En} {M : Mem} {q : DK} {t u : TS} {tt : TT} {ta : TA}
theorem dsx_ds (h : DS K t δ M q) : DSX K X RX t δ M q := fun F σ H en m _ E n r b c => h F σ H en m E n r b c
theorem dsx_seq (h : DSX K X RX t δ M { q with nx := fun δ1 M1 => DSX K X RX u δ1 M1 q }) : DSX K X RX (tSeq t u) δ M q := fun F σ H en m x E n r b c =>
  h F σ H en m x { E with nx := u E } (fun δ1 M1 σ1 H1 z g en1 => z F σ1 H1 en1 g.ok (x.go g) E (fun _ _ _ _ z2 g2 => n _ _ _ _ z2 (g.trans g2)) (fun _ _ _ _ z2 g2 => r _ _ _ _ z2 (g.trans g2)) (fun _ _ _ _ z2 g2 => b _ _ _ _ z2 (g.trans g2)) (fun _ _ _ _ z2 g2 => c _ _ _ _ z2 (g.trans g2))) r b c
theorem dsx_if (h : DT K tt δ M fun b M1 => if b = true then DSX K X RX t δ M1 q else DSX K X RX u δ M1 q) : DSX K X RX (tIfS tt t u) δ M q := fun F σ H en m x E n r b c => by
  refine h F σ H en m _ fun k M1 H1 z g => ?_
  cases k with
  | true =>
    rw [if_pos rfl] at z
    rw [if_pos rfl]
    exact z F σ H1 (en.mono g.ex) g.ok (x.go g) E (fun _ _ _ _ z2 g2 => n _ _ _ _ z2 (g.trans g2)) (fun _ _ _ _ z2 g2 => r _ _ _ _ z2 (g.trans g2)) (fun _ _ _ _ z2 g2 => b _ _ _ _ z2 (g.trans g2)) (fun _ _ _ _ z2 g2 => c _ _ _ _ z2 (g.trans g2))
  | false =>
    rw [if_neg Bool.false_ne_true] at z
    rw [if_neg Bool.false_ne_true]
    exact z F σ H1 (en.mono g.ex) g.ok (x.go g) E (fun _ _ _ _ z2 g2 => n _ _ _ _ z2 (g.trans g2)) (fun _ _ _ _ z2 g2 => r _ _ _ _ z2 (g.trans g2)) (fun _ _ _ _ z2 g2 => b _ _ _ _ z2 (g.trans g2)) (fun _ _ _ _ z2 g2 => c _ _ _ _ z2 (g.trans g2))
/-- raise C(e), C keeps e as f -/
def tRaise1 (X : XK) (C : Addr) (f : Str) (ta : TA) : TS := fun _ σ H => ta σ H fun vs H1 => ∃ v, vs = [v] ∧ ∀ d, H1 d = none → X (.ref C) (some d) (upd H1 d (.xd [(f, v)]))
theorem dsx_raise1 {C : Addr} {f : Str} (h : DA K ta δ M fun ds M1 => ∃ d, ds = [d] ∧ RX C [(f, d)] M1) : DSX K X RX (tRaise1 X C f ta) δ M q := fun F σ H en m x E n r b c => by
  refine h F σ H en m _ fun ds M1 vs H1 z g rp => ?_
  obtain ⟨d, rfl, z⟩ := z
  cases rp with
  | cons rv rn =>
    rename_i v _
    cases rn
    refine ⟨v, rfl, fun a ha => ?_⟩
    obtain ⟨g2, vv⟩ := go_new (o := .xd [(f, v)]) g.ok ha
    exact x C [(f, d)] M1 _ (some a) z (g.trans g2) (.inr ⟨a, _, rfl, vv, .cons (rv.mono g2.ex) .nil⟩)
/-- raise C('..') -/
def tRaise0 (X : XK) (C : Addr) : TS := fun _ _ H => X (.ref C) none H
theorem dsx_raise0 {C : Addr} (h : RX C [] M) : DSX K X RX (tRaise0 X C) δ M q := fun F σ H en m x E n r b c => x C [] M H none h (Go.refl m) (.inl ⟨rfl, rfl⟩)
end
/-- the def at f keeps the promise p, called where no repr is under way; it may raise -/
structure FnX (P : Program) (w : World) (K : PySem.W.Frag) (mg : Str → Option Value) (base : Heap) (k : Nat) (f : Addr) (fd : FuncData) (ps : List Str) (p : PTX) : Prop where
  len : ∀ ds M R RX, p ds M R RX → ds.length = ps.length
  run : ∀ (A : Around) (ou : List Env) (s : Shared) (H : Hp) (as : Args) (us : List Value) (vs : List V) (Q : VK) (E : XK), Room k A → A.guards = some [] → Env0 P w K mg base A ou s H → BindsTo s fd as (ps.zip us) → Vals vs us → spX K p vs H Q E →
    codeAny (model P w) A (.call (.ref f) as) (CR (L2.CX P w) ou P w H s Q E) s
/-- .. by its body, read for any way out -/
theorem x_of {P : Program} {w : World} {K : PySem.W.Frag} {mg : Str → Option Value} {base : Heap} {x qual : Str} {st : Stmt} {f : Addr} {fd : FuncData} {N ps : List Str} {k : Nat} {p : PTX} (Fu : Fun K x qual st f fd) (Sc : FnScope N ps (defScope st)) (len : ∀ ds M R RX, p ds M R RX → ds.length = ps.length)
    (body : ∀ (cdv : Value) (A : Around) (ou : List Env) (s : Shared) (H : Hp) (E : XK), Room k (A.deeper (envOfC qual (defScope st) s.heap.objs.size f cdv)) → (A.deeper (envOfC qual (defScope st) s.heap.objs.size f cdv)).guards = some [] →
      ∃ t, PSs (cxOf (L2.CX P w) P w K mg base N qual (defScope st) f cdv A ou s H E) (defBody st) t ∧ ∀ ds M R RX, p ds M R RX → DSX K E RX t (ds.map some ++ List.replicate (N.length - ds.length) none) M { nx := fun _ M' => R .non M', rt := R }) :
    FnX P w K mg base (k + 1) f fd ps p := by
  obtain ⟨oc, od, kV, doc, pm, an, cdv, ct, osl, rfl, lk, hcd⟩ := Fu.ex
  refine ⟨len, fun A ou s H as us vs Q E room gd e0 bt rel hp => ?_⟩
  have hlen := spX_len len hp
  have inK : K.In s.heap := e0.mod.kin.keeps fun a ob z => (e0.bs a ob z).1
  have noL : s.heap.NoLimit := e0.mod.nolimit.keeps fun a ob z => (e0.bs a ob z).1
  have kinds : ∀ y ∈ ps.zip us, (defScope st).names.lookup y.1 = some .local ∨ ((defScope st).names.lookup y.1 = some .cell ∧ ((cellsFrom (s.heap.objs.size + 1) (defScope st).names []).lookup y.1).isSome = true) := by
    rintro ⟨n, z⟩ hy
    rcases Sc.par n (List.of_mem_zip hy).1 with q | q
    · exact .inl q
    · exact .inr ⟨q, PySem.W.cellsFrom_some _ _ _ (.inl q)⟩
  refine codeAny_call_function room.depth (inK _ _ lk) rfl Sc.co Sc.gen rfl (PySem.W.codeRec_of inK hcd) (bt _ _ _ _ ?_)
  refine wpAny_newFunctionEnv_cells Sc.kind kinds fun env he s1 ic => ?_
  subst he
  refine ⟨noL.keeps ic.toInCall.keep, codeAny_func ?_⟩
  obtain ⟨t, ht, hd⟩ := body cdv A ou s H E (room.deeper _) gd
  have J0 : Inv (cxOf (L2.CX P w) P w K mg base N qual (defScope st) f cdv A ou s H E) [] (start N vs) H s1 := inv_start Sc room.hd e0 hlen rel ic
  have hq : t { nx := fun _ H' => Q .non H', rt := Q } (start N vs) H := by
    obtain ⟨F, M, ds, R, RX, r, m, hpp, q, xg⟩ := hp
    refine hd ds M R RX hpp F _ H (EnvR.start r) m xg _ ?_ ?_ ?_ ?_
    · exact fun δ' M' σ' H' z g _ => q _ _ _ _ z g .non
    · exact fun d M' v H' z g rp => q _ _ _ _ z g rp
    · exact fun _ _ _ _ z => z.elim
    · exact fun _ _ _ _ z => z.elim
  refine wpAny_mono (ht.run [] s1 (start N vs) H _ J0 hq) (fun fl s2 hs => ?_) fun e s2 hs => hs
  have done : ∀ {σ' : Sg} {H' : Hp} {v : V} {u : Value}, Inv (cxOf (L2.CX P w) P w K mg base N qual (defScope st) f cdv A ou s H E) [] σ' H' s2 → RelV v u → Q v H' → CE ou P w H s Q u s2 :=
    fun {_ H' v _} J rv q => ⟨v, H', J.os, J.bare, J.base, J.hok, rv, q⟩
  cases fl with
  | ret u =>
    obtain ⟨v, σ', H', J, rv, q⟩ := hs
    exact done J rv q
  | next =>
    obtain ⟨σ', H', J, q⟩ := hs
    exact done (v := V.non) (u := Value.none) J rfl q
  | brk => exact (let ⟨_, _, _, q⟩ := hs; False.elim q)
  | cont => exact (let ⟨_, _, _, q⟩ := hs; False.elim q)
end DL

set_option Elab.async false
set_option linter.all false
set_option maxRecDepth 100000
set_option maxHeartbeats 4000000
/-! own classes over any built-in error, their __init__ stores one field -/
namespace PySem
namespace HandSPX
open PySem.W PySem.Calls PyProof.Rows
/-- own classes, then these -/
def Over (B l : List Value) : Prop := ∃ cs : List Addr, l = cs.map Value.ref ++ B
theorem over_has {B : List Value} (X : String) : ∀ {l : List Value}, Over B l → l.contains (.type X) = B.contains (.type X) := by
  rintro l ⟨cs, rfl⟩
  induction cs with
  | nil => rfl
  | cons c cs ih => rw [List.map_cons, List.cons_append, List.contains_cons, ih]; rfl
theorem over_pass {B : List Value} {self : Value} (h : refuseLoop self "__setattr__" B = pure ()) : ∀ {l : List Value}, Over B l → refuseLoop self "__setattr__" l = pure () := by
  rintro l ⟨cs, rfl⟩
  induction cs with
  | nil => exact h
  | cons c cs ih => rw [List.map_cons, List.cons_append, refuseLoop_ref]; exact ih
section
open Builtin Builtin.ObjectAttr
variable {prog : Program} {w : World} {A : Around} {E : Value → Shared → Prop} {R : Result → Shared → Prop} {hp : Heap} {g : Array GenState} {d : Drawn} {t : Nat} {os : OsState}
theorem over_store {K : W.Frag} {name : Str} {tk : Tok} {v : Value} {x C : Addr} {fv : Array Value} {cd : ClassData} {B : List Value}
    (hps : ∀ self, refuseLoop self "__setattr__" B = pure ()) (hob0 : B.contains (.type "object") = true)
    (X : K.In hp) (hx : hp.get? x = some { cls := .ref C, data := .fields fv }) (hcd : W.clsIn K C = some cd) (hm : Over B cd.mro) (hh : cd.hasDict = true) (ha : W.findIn K (.ref C) name = some none)
    (hq : ∀ h' tk' dx, (∀ b o, b ≠ x → hp.get? b = some o → h'.get? b = some o) → hp.objs.size ≤ dx → dx ≠ x → h'.get? x = some { cls := .ref C, dict := some dx, data := .fields fv } →
      h'.Ns1 dx (fun y => if y = name then some v else none) → R (.ok (.ret .none)) ⟨h', g, d, tk', os⟩) :
    codeAny (model prog w) A (.call (.builtin "object.__setattr__") ⟨[.ref x, .str name tk, v], []⟩) R ⟨hp, g, d, t, os⟩ := by
  have I : W.InstAt hp x { cls := .ref C, data := .fields fv } C none := ⟨hx, rfl, rfl, trivial⟩
  have S := F.store_object
  have hob : cd.mro.contains (.type "object") = true := (over_has "object" hm).trans hob0
  have ne : cd.mro.isEmpty = false := by
    cases e : cd.mro with
    | nil => rw [e] at hob; exact absurd hob (by decide)
    | cons _ _ => rfl
  have nx : x ≠ hp.objs.size := Nat.ne_of_lt (Heap.lt_size hx)
  have sub : W.Looks (model prog w) hp (isInstance (.ref x) (.type "object")) true := I.type.andThen (W.looks_mroIn X (by unfold W.mroIn; rw [hcd, Option.bind_some, if_neg (by rw [ne]; decide), hob]))
  refine codeAny_call_builtin S.slot.plain S.entry (@W.check_slot (model prog w) _ _ ⟨hp, g, d, t, os⟩ "object.__setattr__" "object" "__setattr__" (.ref x) [.str name tk, v] [] _ S.kind S.split sub (S.args (.ref x) (.str name tk) v) ?_)
  have l1 : W.Looks (model prog w) hp (mroOf (.ref C)) cd.mro := (W.looks_clsIn X hcd).andThen .now
  have l2 : W.Looks (model prog w) hp (storeTaker? none) none := .now
  have l3 : W.Looks (model prog w) hp (classData C) cd := W.looks_clsIn X hcd
  rw [W.osa_eq, refuse_eq]
  refine wpAny_bind (wpAny_bind (I.type.at (wpAny_bind (l1.at ?_))))
  rw [over_pass (hps _) hm]
  refine wpAny_pure (wpAny_bind (I.type.at (wpAny_bind ((W.looks_findIn X ha).at (wpAny_bind (l2.at ?_))))))
  show wpAny _ _ (storeInOwnDict (.ref x) (.ref C) (.str name tk) name v false) _ _ _
  obtain ⟨nm, bs, mro, ns, qn, hd, sn, sb, ab, col, del⟩ := cd
  dsimp only at hh
  subst hh
  unfold storeInOwnDict ownDictForStores
  repeat (first | with_reducible refine store_in_new ?_ ?_ | with_reducible refine wpAny_loadPart_at hx ?_ | with_reducible refine l3.at ?_ | wp_step)
  · exact ⟨_, #[], _, (Heap.get?_update_ne _ _ _ _ nx.symm).trans (Heap.get?_push_at rfl rfl), rfl, fun e he => absurd he (by simp), fun _ => rfl⟩
  · intro h' tk' hn' hs
    have hx2 : (hp.push { cls := .type "dict", data := .dict #[] }).get? x = some { cls := .ref C, data := .fields fv } := Heap.get?_push_of_some _ hx
    refine hq h' tk' hp.objs.size (fun b o hb ho => (hs.2 b (Nat.ne_of_lt (Heap.lt_size ho))).trans ((Heap.get?_update_ne _ _ _ _ hb).trans (Heap.get?_push_of_some _ ho))) (Nat.le_refl _) nx.symm ?_ hn'
    exact (hs.2 x nx).trans (Heap.get?_update_self _ hx2 rfl)
end
end HandSPX
end PySem
namespace DL
open PySem PySem.Spec PyProof.Rows L2
/-- a class C over the built-in error b, whose mro ends in B -/
structure OexT (K : PySem.W.Frag) (C : Addr) (B : List Value) (newId : String) : Prop where
  cls : ∃ nm q N bs bm sn sub ab col dd k0 k1 k2 k3 k5, K.lookup C = some (excClassObj nm q C N bs bm true sn sub ab col dd k0 k1 k2 k3 k5 newId) ∧ PySem.HandSPX.Over B bm
  pass : ∀ self, refuseLoop self "__setattr__" B = pure ()
  obj : B.contains (.type "object") = true
  sa : PySem.W.findIn K (.ref C) "__setattr__" = some (some (.builtin "object.__setattr__"))
  exC : PySem.W.subIn K (.ref C) (.type "BaseException") = some true
  tyC : PySem.W.typeIn K (.ref C) = some (.type "type")
  kC : PySem.W.keepIn K (.ref C) = true
section
variable {X : Cx} {pins : List (Addr × Obj)} {σ : L2.St} {H : Hp} {s : Shared} {a C : Addr} {f : Str} {y : V} {u : Value} {Q : Unit → Shared → Prop} {E : Value → Shared → Prop} {A : Around} {B : List Value} {newId : String}
/-- self.f = y in a new error -/
theorem ostT (T : OexT X.K C B newId) (I : Inv X pins σ H s) (e : H a = some (exo a C none)) (hno : PySem.W.findIn X.K (.ref C) f = some none) (ry : RelV y u)
    (h : ∀ dx s', H dx = none → dx ≠ a → Inv X pins σ (upd (upd H dx (exd dx [(f, y)])) a (exo a C (some dx))) s' → Q () s') : wpAny (model X.prog X.w) A (setAttr (.ref a) f u) Q E s := by
  obtain ⟨nm, q, N, bs, bm, sn, sub, ab, col, dd, k0, k1, k2, k3, k5, hC, ⟨cs, hbm⟩⟩ := T.cls
  have hcl : PySem.W.clsIn X.K C = some ⟨nm, bs, .ref C :: bm, N, q, true, sn, sub, ab, col, false⟩ := by unfold PySem.W.clsIn; rw [hC]
  obtain ⟨t1, ho⟩ := exo_at I.hok e
  obtain ⟨hp, g, d, t, os⟩ := s
  refine PySem.W.set_plain I.kIn (od := none) ⟨ho, rfl, rfl, trivial⟩ T.sa ?_
  refine PySem.HandSPX.over_store T.pass T.obj I.kIn ho hcl ⟨C :: cs, by rw [hbm]; rfl⟩ rfl hno fun h' tk' dx k dn dne hx hn => ?_
  have fresh : H dx = none := I.hok.fresh dn
  have lt : ∀ {b : Addr} {o : Obj}, hp.get? b = some o → b ≠ dx := fun {b o} z => Nat.ne_of_lt (Nat.lt_of_lt_of_le (Heap.lt_size z) dn)
  have na : ∀ {b : Addr}, H b = none → b ≠ a := fun {b} n z => by subst z; rw [e] at n; cases n
  have same : ∀ {b : Addr} {o : HO}, H b = some o → o ≠ exo a C none → upd (upd H dx (exd dx [(f, y)])) a (exo a C (some dx)) b = some o := fun {b o} z n => by
    have nb : b ≠ a := fun w => by subst w; rw [e] at z; cases z; exact n rfl
    rw [upd_ne nb, upd_ne (ne_of_none z fresh)]; exact z
  refine h dx _ fresh dne (I.un (t' := tk') ?_ fun b o z => ?_)
  · exact
      { keep := fun b o z n _ _ => k b o (na n) z, slot := fun b o z n _ _ => ⟨o.slots, k b o (na n) z⟩, free := fun b o z n _ => by rw [upd_ne (na n), upd_ne (lt z)]; exact n,
        there := fun b o z _ => (Classical.em (b = a)).elim (fun hb => ⟨_, hb ▸ hx⟩) fun hb => ⟨o, k b o hb z⟩,
        tups := fun b xs z => same z fun w => exo_tup w.symm, frzs := fun b o v z => same z fun w => exo_frz w.symm,
        tbls := fun b ps z => ⟨#[], by rw [same z fun w => exo_tbl w.symm]; simp⟩ }
  · by_cases hb : b = a
    · subst hb
      rw [upd_same] at z
      cases z
      exact exo_ok hx
    · rw [upd_ne hb] at z
      by_cases hd : b = dx
      · subst hd
        rw [upd_same] at z
        cases z
        exact exd_ok hn (relO_put (fs := []) ry fun g => True.intro)
      · rw [upd_ne hd] at z
        refine (I.hok b o z).stay (fun c v hc w => k c v ?_ w) (fun c hc => same hc fun w => exo_own w.symm) fun c xs hc => same hc fun w => exo_tup w.symm
        rcases hc with rfl | hc
        · exact hb
        · exact at_ne e hc exo_own
end
/-- self.f = e, self an error that is being made -/
def tOst1 (K : PySem.W.Frag) (C : Addr) (f : Str) (to te : TE) : TS := fun D σ H => te σ H fun y H1 => to σ H1 fun x H2 => ∃ a : Addr, x = .ref a ∧ H2 a = some (exo a C none) ∧ ∀ dx, H2 dx = none → dx ≠ a → D.nx σ (upd (upd H2 dx (exd dx [(f, y)])) a (exo a C (some dx)))
section
variable {X : Cx} {B : List Value} {newId initId b : String} {C fI : Addr} {f x : Str} {o e : Expr} {to te : TE} {ta : TA} {p p' pos pos2 : Pos}
theorem ps_ostT (T : OexT X.K C B newId) (hno : PySem.W.findIn X.K (.ref C) f = some none) (ho : PE X o to) (he : PE X e te) (hs : swapsWith e (some (.Attribute o f p')) pos.line X.env = pure false := by rfl) : PS X (.Assign [.Attribute o f p'] e pos) (tOst1 X.K C f to te) := by
  constructor
  intro pins s σ H D I h
  refine plainObj_wpAny_Assign_Attribute (thn (he.run pins s σ H _ I h) fun v s1 ⟨y, H1, I1, r1, q1⟩ => thn (ho.run pins s1 σ H1 _ I1 q1) fun u s2 ⟨x, H2, I2, r2, a, ex, ea, q⟩ => ?_) hs
  subst ex
  obtain rfl : u = Value.ref a := r2
  exact ostT T I2 ea hno r1 fun dx s' n ne J => ⟨σ, _, J, q dx n ne⟩
/-- what __init__(self, value) that stores it leaves -/
def spI (C : Addr) (f : Str) : Sp := fun vs H Q _ => ∃ (a : Addr) (y : V), vs = [.ref a, y] ∧ H a = some (exo a C none) ∧ ∀ dx, H dx = none → dx ≠ a → Q .non (upd (upd H dx (exd dx [(f, y)])) a (exo a C (some dx)))
theorem pmk_T {CX : CXT} {k : Nat} {fd : FuncData} {ps : List Str} (F : ExcBaseFacts b newId initId B) (T : OexT X.K C B newId) (iC : PySem.W.findIn X.K (.ref C) "__init__" = some (some (.ref fI))) (tI : PySem.W.typeIn X.K (.ref fI) = some (.type "function"))
    (F1 : FnOk X.prog X.w X.K X.mg X.base CX k fI fd ps (spI C f)) (hr : Room (k + 1) X.A) (hb : Binds X.K fd ps []) (hx : Passes CX X (fun _ _ _ => False)) (hg : Gl X x) (hm : X.mg x = some (.ref C)) (ha : PA X [e] ta)
    (hdb : (x == ("__debug__" : Str)) = false := by decide) (he : starEach (e :: []) X.env = (false, eval e X.env) :: starEach [] X.env := by rfl) (hpl : (backTo pos (starEach [] X.env)).any (·.1) = false := by rfl) :
    PMk X (.Call (.Name x p) [e] [] pos) (fun σ H Q => ta σ H fun vs H1 => ∃ v, vs = [v] ∧ ∀ d, H1 d = none → Q (.ref C) (some d) (upd H1 d (.xd [(f, v)]))) := by
  intro pins s σ H Q I h
  obtain ⟨nm, q, N, bs, bm, sn, sub, ab, col, dd, k0, k1, k2, k3, k5, hC, hbm⟩ := T.cls
  refine wpAny_Call_Name_kw (ld_glob I hg hm ?_ hdb)
  refine PySem.W.callWith_K (h₀ := X.base) I.ok.mod.kin T.kC (thn (ha.run pos pins s σ H _ I h) fun us s1 ⟨vs, H1, I1, r1, v, ev, q1⟩ => ⟨I1.kIn, ?_⟩) he hpl
  subst ev
  show wpAny _ _ (call (.ref C) us) _ _ _
  obtain ⟨hp, g, dr, tk, os⟩ := s1
  have sz : hp.objs.size ≤ hp.objs.size + 1 := Nat.le_succ _
  have hn : H1 (hp.objs.size + 1) = none := I1.hok.fresh sz
  have kk : ∀ b o, hp.get? b = some o → ((hp.push (PySem.W.kdv_tup us)).push (PySem.HandSPX.excO C hp.objs.size)).get? b = some o := fun b o z => Heap.get?_push_of_some _ (Heap.get?_push_of_some _ z)
  have at_ : ((hp.push (PySem.W.kdv_tup us)).push (PySem.HandSPX.excO C hp.objs.size)).get? (hp.objs.size + 1) = some (PySem.HandSPX.excO C hp.objs.size) := by heap_get
  have I2 : L2.Inv X pins σ (upd H1 (hp.objs.size + 1) (exo (hp.objs.size + 1) C none)) ⟨(hp.push (PySem.W.kdv_tup us)).push (PySem.HandSPX.excO C hp.objs.size), g, dr, tk, os⟩ := I1.laid (t' := tk) (a := hp.objs.size + 1) (o := exo (hp.objs.size + 1) C none) (h' := (hp.push (PySem.W.kdv_tup us)).push (PySem.HandSPX.excO C hp.objs.size)) kk sz (exo_ok at_)
  have r2 : Vals [V.ref (hp.objs.size + 1), v] (Value.ref (hp.objs.size + 1) :: us) := .cons rfl r1
  have hq : spI C f [V.ref (hp.objs.size + 1), v] (upd H1 (hp.objs.size + 1) (exo (hp.objs.size + 1) C none)) (fun v' H2 => v' = .non ∧ ∃ (d : Addr) (fs : List (Str × V)), H2 (hp.objs.size + 1) = some (exo (hp.objs.size + 1) C (some d)) ∧ H2 d = some (exd d fs) ∧ H1 d = none ∧ Q (.ref C) (some d) (upd (del H2 (hp.objs.size + 1)) d (.xd fs))) (fun _ _ _ => False) := by
    refine ⟨_, v, rfl, upd_same, fun dx z ne => ⟨rfl, dx, _, upd_same, by rw [upd_ne ne, upd_same], ?_, ?_⟩⟩
    · rw [upd_ne ne] at z; exact z
    · have z1 : H1 dx = none := by rw [upd_ne ne] at z; exact z
      have e1 : upd (del (upd (upd (upd H1 (hp.objs.size + 1) (exo (hp.objs.size + 1) C none)) dx (exd dx [(f, v)])) (hp.objs.size + 1) (exo (hp.objs.size + 1) C (some dx))) (hp.objs.size + 1)) dx (.xd [(f, v)]) = upd H1 dx (.xd [(f, v)]) := by
        funext b
        by_cases h1 : b = dx
        · subst h1; rw [upd_same, upd_same]
        · rw [upd_ne h1, upd_ne h1]
          by_cases h2 : b = hp.objs.size + 1
          · subst h2; rw [del_same, hn]
          · rw [del_ne h2, upd_ne h2, upd_ne h1, upd_ne h2]
      rw [e1]; exact q1 dx z1
  have hl : (Value.ref (hp.objs.size + 1) :: us ++ []).length = ps.length := by
    have z := r2.length
    rw [F1.len _ _ _ _ hq] at z
    rw [List.append_nil]; exact z.symm
  have bt := hb ⟨(hp.push (PySem.W.kdv_tup us)).push (PySem.HandSPX.excO C hp.objs.size), g, dr, tk, os⟩ (Value.ref (hp.objs.size + 1) :: us) I2.kIn hl
  rw [List.append_nil] at bt
  have hus : us.length ≤ sizeLine := by
    rw [← Paired.length r1, sizeLine_eq]; show 1 ≤ _; omega
  refine wpAny_call (PySem.HandSPX.call_own F (fun Y => PySem.HandSPX.over_has Y hbm) (I1.kIn _ _ hC) (PySem.W.looks_findIn I1.kIn iC) (fun self => PySem.W.bind_fn I1.kIn self tI) hus
    (codeAny_mono (F1.run _ X.stack _ _ ⟨Value.ref (hp.objs.size + 1) :: us, []⟩ (Value.ref (hp.objs.size + 1) :: us) _ _ (fun _ _ _ => False) (hr.make C us []) (I2.env0.make C us []) bt r2 hq) fun r s' hq2 => ?_))
  match r, hq2 with
  | .error er, hq2 => exact hx pins σ _ _ er s' I2 hq2
  | .ok (.ret u), hq2 =>
    obtain ⟨v', H2, os2, bare2, un2, hok2, rv, ev, d, fs, ea, ed, hd1, q2⟩ := hq2
    subst ev
    obtain ⟨h2, g2, d2, t2, os3⟩ := s'
    exact ⟨rv, mk_end (raises_own T.exC T.tyC) I1 sz kk un2 hok2 os2 bare2 ea ed hd1 q2⟩
  | .ok .next, hq2 => exact False.elim hq2
  | .ok .brk, hq2 => exact False.elim hq2
  | .ok .cont, hq2 => exact False.elim hq2
end
end DL

set_option Elab.async false
set_option linter.all false
set_option maxRecDepth 100000
set_option maxHeartbeats 4000000
/-! defs and methods that may raise: made, called, raising -/
namespace DL
open PySem PySem.Spec PyProof.Rows L2
structure DfX (P : Program) (w : World) (K : PySem.W.Frag) (mg : Str → Option Value) (base : Heap) (k : Nat) (x : Str) (ps : List Str) (p : PTX) : Prop where
  ex : ∃ (f : Addr) (fd : FuncData), FnX P w K mg base k f fd ps p ∧ mg x = some (.ref f) ∧ PySem.W.keepIn K (.ref f) = true ∧ Binds K fd ps []
structure DmX (P : Program) (w : World) (K : PySem.W.Frag) (mg : Str → Option Value) (base : Heap) (k : Nat) (C : Addr) (m : Str) (ps : List Str) (p : PTX) : Prop where
  ex : ∃ (f : Addr) (fd : FuncData), FnX P w K mg base k f fd ps p ∧ Meth K C m f ∧ Binds K fd ps []
section
variable {P : Program} {w : World} {K : PySem.W.Frag} {mg : Str → Option Value} {base : Heap} {C : Addr}
theorem dfx_ok {x : Str} {st : Stmt} {N ps : List Str} {k : Nat} {p : PTX} (T : Tx K mg x st) (S : FnScope N ps (defScope st)) (len : ∀ ds M R RX, p ds M R RX → ds.length = ps.length)
    (hb : ∀ (kV doc pm : Value) (an : Option Addr) (cdv ct : Value) (us : List Value), us.length = ps.length → bindArgs (PySem.W.fnOf x x (defArgs st) (defBody st) (defScope st) .none kV doc pm an cdv ct) ⟨us, []⟩ = pure (ps.zip us))
    (body : ∀ (cdv : Value) (A : Around) (ou : List Env) (s : Shared) (H : Hp) (E : XK) {f : Addr}, Room k (A.deeper (envOfC x (defScope st) s.heap.objs.size f cdv)) → (A.deeper (envOfC x (defScope st) s.heap.objs.size f cdv)).guards = some [] →
      ∃ t, PSs (cxOf (L2.CX P w) P w K mg base N x (defScope st) f cdv A ou s H E) (defBody st) t ∧ ∀ ds M R RX, p ds M R RX → DSX K E RX t (ds.map some ++ List.replicate (N.length - ds.length) none) M { nx := fun _ M' => R .non M', rt := R }) :
    DfX P w K mg base (k + 1) x ps p := by
  obtain ⟨f, fd, Fu, g⟩ := T.ex
  exact ⟨f, fd, x_of (P := P) (w := w) (mg := mg) (base := base) (k := k) (p := p) Fu S len fun cdv A ou s H E hr gd => body cdv A ou s H E hr gd, g, Fu.kp, Fu.binds (ps := ps) hb⟩
theorem dmx_ok {m qual : Str} {st : Stmt} {N ps : List Str} {k : Nat} {p : PTX} (T : MTx K C m qual st) (S : FnScope N ps (defScope st)) (len : ∀ ds M R RX, p ds M R RX → ds.length = ps.length)
    (hb : ∀ (kV doc pm : Value) (an : Option Addr) (cdv ct : Value) (us : List Value), us.length = ps.length → bindArgs (PySem.W.fnOf m qual (defArgs st) (defBody st) (defScope st) .none kV doc pm an cdv ct) ⟨us, []⟩ = pure (ps.zip us))
    (body : ∀ (cdv : Value) (A : Around) (ou : List Env) (s : Shared) (H : Hp) (E : XK) {f : Addr}, Room k (A.deeper (envOfC qual (defScope st) s.heap.objs.size f cdv)) → (A.deeper (envOfC qual (defScope st) s.heap.objs.size f cdv)).guards = some [] →
      ∃ t, PSs (cxOf (L2.CX P w) P w K mg base N qual (defScope st) f cdv A ou s H E) (defBody st) t ∧ ∀ ds M R RX, p ds M R RX → DSX K E RX t (ds.map some ++ List.replicate (N.length - ds.length) none) M { nx := fun _ M' => R .non M', rt := R }) :
    DmX P w K mg base (k + 1) C m ps p := by
  obtain ⟨f, fd, Fu, h⟩ := T.ex
  exact ⟨f, fd, x_of (P := P) (w := w) (mg := mg) (base := base) (k := k) (p := p) Fu S len fun cdv A ou s H E hr gd => body cdv A ou s H E hr gd, h, Fu.binds (ps := ps) hb⟩
end
section
variable {X : Cx} {P : Program} {w : World} {K : PySem.W.Frag} {mg : Str → Option Value} {base : Heap} {C : Addr} {k : Nat} {m x : Str} {ps : List Str} {p : PTX} {o e : Expr} {es : List Expr} {ta : TE} {t : TA} {apos pos pp : Pos} {pl : Sem Bool} {E : XK}
theorem run_x {f : Addr} {fd : FuncData} {pins : List (Addr × Obj)} {σ : Sg} {H : Hp} {s : Shared} {Q : VK} {us : List Value} {vs : List V} (F : FnX X.prog X.w X.K X.mg X.base k f fd ps p) (hr : Room k X.A) (gd : X.A.guards = some []) (hb : Binds X.K fd ps []) (hx : Passes (L2.CX X.prog X.w) X E) (I : Inv X pins σ H s) (rel : Vals vs us) (hp : spX X.K p vs H Q E) :
    wpAny (model X.prog X.w) X.A (call (.ref f) us) (EP X pins σ Q) X.xe s := by
  have hl : (us ++ ([] : List Value)).length = ps.length := by rw [List.append_nil, ← rel.length, spX_len F.len hp]
  have bt := hb s us I.kIn hl
  rw [List.append_nil] at bt
  refine wpAny_call (codeAny_mono (F.run X.A X.stack s H ⟨us, []⟩ us vs Q E hr gd I.env0 bt rel hp) fun r s2 hq => ?_)
  match r, hq with
  | .ok (.ret u), hq => exact I.after hq
  | .ok .next, hq => exact False.elim hq
  | .ok .brk, hq => exact False.elim hq
  | .ok .cont, hq => exact False.elim hq
  | .error er, hq => exact hx pins σ H s er s2 I hq
/-- o.m(e, ..), it may raise -/
theorem pe_methX (h : DmX P w K mg base k C m ps p) (c : Cls K C) (hr : Room k X.A) (gd : X.A.guards = some []) (hx : Passes (L2.CX P w) X E) (he : PE X o ta) (ha : PA X (e :: es) t) (hX : Is X P w K mg base := by exact ⟨rfl, rfl, rfl, rfl, rfl⟩)
    (hst : starEach (e :: es) X.env = (false, eval e X.env) :: starEach es X.env := by rfl) (hpl : (backTo pos (starEach es X.env)).any (·.1) = false := by rfl)
    (ht : eval (.Call (.Attribute o m apos) (e :: es) [] pos) X.env = (do
      let ov ← eval o X.env
      standAt apos.atName
      let (f, first) ← holding [ov] (getMethod ov m pl)
      callWith pos f first (backTo pos (starEach (e :: es) X.env)) (backToKw pos (keywordEach [] X.env))) := by rfl) : PE X (.Call (.Attribute o m apos) (e :: es) [] pos) (tMeth C m (spX K p) [] E ta t) := by
  obtain ⟨rfl, rfl, rfl, rfl, rfl⟩ := hX
  obtain ⟨f, fd, G, hm, b⟩ := h.ex
  refine ⟨fun pins s σ H Q I z => PySem.W.methodCall_KW (pl := pl) (wpAny_mono (he.run pins s σ H _ I z) (fun u s1 hs => ?_) fun _ _ hs => hs) ht⟩
  obtain ⟨v, H1, I1, r1, a, dx, fs, rfl, ea, l, q⟩ := hs
  cases r1
  refine getmeth_ok I1 ea c hm l (PySem.W.callWith_K (first := [.ref a]) (h₀ := X.base) I.ok.mod.kin hm.kp (wpAny_mono (ha.run pos pins s1 σ H1 _ I1 q) (fun us s2 hs => ?_) fun _ _ hs => hs) hst hpl)
  obtain ⟨vs, H2, I2, r, q2⟩ := hs
  rw [List.append_nil] at q2
  exact ⟨I2.kIn, run_x (us := .ref a :: us) (vs := .ref a :: vs) G hr gd b hx I2 (.cons rfl r) q2⟩
/-- f(e, ..), it may raise -/
theorem pe_callX (h : DfX P w K mg base k x ps p) (hr : Room k X.A) (gd : X.A.guards = some []) (hx : Passes (L2.CX P w) X E) (hg : Gl X x) (ha : PA X (e :: es) t) (hX : Is X P w K mg base := by exact ⟨rfl, rfl, rfl, rfl, rfl⟩) (hd : (x == ("__debug__" : Str)) = false := by decide) (hpl : (backTo pos (starEach es X.env)).any (·.1) = false := by rfl)
    (hne : starEach (e :: es) X.env = (false, eval e X.env) :: starEach es X.env := by rfl) : PE X (.Call (.Name x pp) (e :: es) [] pos) (tCall (spX K p) [] E t) := by
  obtain ⟨rfl, rfl, rfl, rfl, rfl⟩ := hX
  obtain ⟨f, fd, G, g, kp, b⟩ := h.ex
  refine ⟨fun pins s σ H Q I z => wpAny_Call_Name_kw (ld_glob I hg g ?_ hd)⟩
  refine PySem.W.callWith_K (h₀ := X.base) I.ok.mod.kin kp (wpAny_mono (ha.run pos pins s σ H _ I z) (fun us s1 hs => ?_) fun _ _ hs => hs) hne hpl
  obtain ⟨vs, H1, I1, r, q⟩ := hs
  rw [List.append_nil] at q
  exact ⟨I1.kIn, run_x G hr gd b hx I1 r q⟩
end
section
variable {X : Cx} {B : List Value} {newId initId b : String} {C fI : Addr} {f x : Str} {e : Expr} {ta : TA} {p pos pos2 : Pos} {E : XK}
/-- raise C(e), C's __init__ stores e -/
theorem ps_raiseT {CX : CXT} {k : Nat} {fd : FuncData} {ps : List Str} (F : ExcBaseFacts b newId initId B) (T : OexT X.K C B newId) (iC : PySem.W.findIn X.K (.ref C) "__init__" = some (some (.ref fI))) (tI : PySem.W.typeIn X.K (.ref fI) = some (.type "function"))
    (F1 : FnOk X.prog X.w X.K X.mg X.base CX k fI fd ps (spI C f)) (hr : Room (k + 1) X.A) (hb : Binds X.K fd ps []) (hx : Passes CX X (fun _ _ _ => False)) (hg : Gl X x) (hm : X.mg x = some (.ref C)) (hc : X.calm = true) (tk : Takes X (fun cls d _ H => E cls d H)) (ha : PA X [e] ta)
    (hdb : (x == ("__debug__" : Str)) = false := by decide) (he : starEach (e :: []) X.env = (false, eval e X.env) :: starEach [] X.env := by rfl) (hpl : (backTo pos (starEach [] X.env)).any (·.1) = false := by rfl) :
    PS X (.Raise (some (.Call (.Name x p) [e] [] pos)) none pos2) (tRaise1 E C f ta) := ps_raise hc tk (pmk_T F T iC tI F1 hr hb hx hg hm ha hdb he hpl)
end
/-! ### over data -/
/-- a call that may raise, in the body of a lambda or a statement: E good for what the def's errors are -/
def DEX (K : PySem.W.Frag) (X : XK) (RX : XP) (te : TE) (δ : En) (M : Mem) (Q : D → Mem → Prop) : Prop :=
  ∀ (F : Fm) (σ : Sg) (H : Hp), EnvR K (vis H M F) σ δ → MOk K F M H → XG K X RX F M H → ∀ QV : VK, (∀ d M' v H', Q d M' → Go K F M H M' H' → Rep K (vis H' M' F) v d → QV v H') → te σ H QV
section
variable {K : PySem.W.Frag} {X : XK} {RX : XP} {δ : En} {M : Mem} {Q : D → Mem → Prop} {q : DK} {te : TE} {tr : TA} {p : PTX} {C : Addr} {m : Str}
theorem dex_de (h : DE K te δ M Q) : DEX K X RX te δ M Q := fun F σ H en m _ QV k => h F σ H en m QV k
theorem dex_call (h : DA K tr δ M fun ds M1 => p ds M1 Q RX) : DEX K X RX (tCall (spX K p) [] X tr) δ M Q := fun F σ H en m x QV k => by
  refine h F σ H en m _ fun ds M1 vs H1 q g r => ?_
  show spX K p (vs ++ []) H1 QV X
  rw [List.append_nil]
  exact ⟨F, M1, ds, Q, RX, r, g.ok, q, fun d M2 v H2 q2 g2 r2 => k d M2 v H2 q2 (g.trans g2) r2, x.go g⟩
theorem dsx_drop (h : DEX K X RX te δ M fun _ M1 => q.nx δ M1) : DSX K X RX (tDrop te) δ M q := fun F σ H en m x E n r b c =>
  h F σ H en m x _ fun d M1 v H1 z g _ => n δ M1 σ H1 z g (en.mono g.ex)
theorem dsx_ret (h : DEX K X RX te δ M q.rt) : DSX K X RX (tRet te) δ M q := fun F σ H en m x E n r b c => h F σ H en m x _ fun d M1 v H1 z g rp => r d M1 v H1 z g rp
end
end DL

set_option Elab.async false
set_option linter.all false
set_option maxRecDepth 100000
set_option maxHeartbeats 4000000
/-! a lambda handed to a def that catches, over data -/
namespace DL
open PySem PySem.Spec PyProof.Rows L2 LamX
/-- the catcher's way: its clauses as the body's way out -/
def ttOf (Eo : VK → XK) : (XK → Hp → VK → Prop) → Hp → VK → Prop := fun tl H Q => tl (Eo Q) H Q
/-- what the clauses give of these errors is Q -/
def GoodX (K : PySem.W.Frag) (Eo : VK → XK) (RX : XP) (Q : D → Mem → Prop) : Prop := ∀ (C : Addr) (fs : List (Str × D)) (M' : Mem) (F : Fm) (H' : Hp) (QV : VK) (dd : Option Addr), RX C fs M' → MOk K F M' H' → XRep K (vis H' M' F) dd fs →
  (∀ d M2 v H2, Q d M2 → Go K F M' H' M2 H2 → Rep K (vis H2 M2 F) v d → QV v H2) → Eo QV (.ref C) dd H'
section
variable {K : PySem.W.Frag} {Eo : VK → XK} {X : XK} {RX : XP} {δ : En} {M : Mem} {Q : D → Mem → Prop} {te : TE} {tr : TA} {t : XK → TE} {P C : Addr} {q m : Str} {p : PTX}
theorem de_lam (hm : M P = some (.tab q)) (body : ∀ E, DEX K E RX (t E) δ M Q) (good : GoodX K Eo RX Q) : DE K (tLamM q P (ttOf Eo) t) δ M Q := fun F σ H en mm QV k => by
  obtain ⟨ho, hP, ro⟩ := mm.mo P _ hm
  cases ro with
  | tab t0 al =>
    refine ⟨_, hP, t0, fun pos cv hc => let ⟨c, e1, e2⟩ := al pos cv hc; ⟨c, e1, vis_le _ _ e2⟩, fun c' H1 lg => ?_⟩
    obtain ⟨g, _⟩ := go_lam mm hm lg
    exact body _ F σ H1 (en.mono g.ex) g.ok (fun C fs M' H' dd r g2 x => good C fs M' F H' QV dd r g2.ok x fun d M2 v H2 z g3 rp => k d M2 v H2 z ((g.trans g2).trans g3) rp) QV fun d M' v H' z g2 rp => k d M' v H' z (g.trans g2) rp
theorem dex_meth (h : DE K te δ M fun d M1 => ∃ fs, d = .obj C fs ∧ fs.lookup m = none ∧ DA K tr δ M1 fun ds M2 => p (d :: ds) M2 Q RX) : DEX K X RX (tMeth C m (spX K p) [] X te tr) δ M Q := fun F σ H en mm x QV k => by
  refine h F σ H en mm _ fun d M1 v H1 z g1 r1 => ?_
  obtain ⟨fs, rfl, hl, z⟩ := z
  cases r1 with
  | @obj a _ dx xs _ e r =>
    refine ⟨a, dx, xs, rfl, vis_le _ _ e, r.none hl, z F σ H1 (en.mono g1.ex) g1.ok _ fun ds M2 vs H2 z2 g2 r2 => ?_⟩
    rw [List.append_nil]
    exact ⟨F, M2, .obj C fs :: ds, Q, RX, .cons (.obj (g2.ex _ _ e) (r.mono g2.ex)) r2, g2.ok, z2, fun d M3 u H3 q3 g3 r3 => k d M3 u H3 q3 ((g1.trans g2).trans g3) r3, x.go (g1.trans g2)⟩
end
end DL

set_option Elab.async false
set_option linter.all false
set_option maxRecDepth 100000
set_option maxHeartbeats 4000000
/-! errors raised and made, catchers, objects whose making may raise, defs that make lambdas -/
namespace DL
open PySem PySem.Spec PyProof.Rows L2 LamX
/-- raise x(e): the class at C, its __init__ keeps e as f -/
structure X1 (P : Program) (w : World) (K : PySem.W.Frag) (mg : Str → Option Value) (base : Heap) (x : Str) (C : Addr) (f : Str) : Prop where
  ex : ∃ (b newId initId : String) (B : List Value) (fI : Addr) (fd : FuncData) (ps : List Str), ExcBaseFacts b newId initId B ∧ OexT K C B newId ∧ PySem.W.findIn K (.ref C) "__init__" = some (some (.ref fI)) ∧ PySem.W.typeIn K (.ref fI) = some (.type "function") ∧
    FnOk P w K mg base (L2.CX P w) 2 fI fd ps (spI C f) ∧ Binds K fd ps [] ∧ mg x = some (.ref C)
/-- raise x('..'): the class at C keeps nothing -/
structure X0 (K : PySem.W.Frag) (mg : Str → Option Value) (x : Str) (C : Addr) : Prop where
  ex : ∃ (b newId initId : String) (B : List Value), ExcBaseFacts b newId initId B ∧ PySem.W.excIn K C B newId = true ∧ mg x = some (.ref C) ∧ PySem.W.keepIn K (.ref C) = true ∧ PySem.W.subIn K (.ref C) (.type "BaseException") = some true ∧ PySem.W.typeIn K (.ref C) = some (.type "type")
section
variable {X : Cx} {P : Program} {w : World} {K : PySem.W.Frag} {mg : Str → Option Value} {base : Heap} {x f m : Str} {C : Addr} {e : Expr} {ta : TA} {E : XK} {j : Nat} {p p2 pos pos2 : Pos}
theorem ps_raiseX1 (h : X1 P w K mg base x C f) (hr : Room 3 X.A) (hg : Gl X x) (hc : X.calm = true) (tk : Takes X (fun cls d _ H => E cls d H)) (ha : PA X [e] ta) (hX : Is X P w K mg base := by exact ⟨rfl, rfl, rfl, rfl, rfl⟩)
    (hdb : (x == ("__debug__" : Str)) = false := by decide) (he : starEach (e :: []) X.env = (false, eval e X.env) :: starEach [] X.env := by rfl) (hpl : (backTo pos (starEach [] X.env)).any (·.1) = false := by rfl) :
    PS X (.Raise (some (.Call (.Name x p) [e] [] pos)) none pos2) (tRaise1 E C f ta) := by
  obtain ⟨rfl, rfl, rfl, rfl, rfl⟩ := hX
  obtain ⟨b, newId, initId, B, fI, fd, ps, F, T, iC, tI, F1, hb, hm⟩ := h.ex
  exact ps_raiseT F T iC tI F1 hr hb (passes_call tk fun _ _ _ _ z => z.elim) hg hm hc tk ha hdb he hpl
theorem ps_raiseX0 (h : X0 K mg x C) (hg : Gl X x) (hc : X.calm = true) (tk : Takes X (fun cls d _ H => E cls d H)) (hX : Is X P w K mg base := by exact ⟨rfl, rfl, rfl, rfl, rfl⟩) (hdb : (x == ("__debug__" : Str)) = false := by decide) :
    PS X (.Raise (some (.Call (.Name x p) [.Constant (.str m) j p2] [] pos)) none pos2) (tRaise0 E C) := by
  obtain ⟨rfl, rfl, rfl, rfl, rfl⟩ := hX
  obtain ⟨b, newId, initId, B, F, q, gC, kC, h1, h2⟩ := h.ex
  exact ps_raise hc tk (pmk_own F q gC kC (raises_own h1 h2) hg hdb)
end
/-! ### a catcher -/
theorem pss_len {X : Cx} {b : List Stmt} {t : TS} (h : PSs X b t) : PSs X b (fun D σ H => σ.length = X.N.length → t D σ H) := ⟨fun pins s σ H D I z => h.run pins s σ H D I (z I.len)⟩
/-- all that is asked of the def x of one parameter a that calls it and catches -/
structure LamG (P : Program) (w : World) (K : PySem.W.Frag) (mg : Str → Option Value) (base : Heap) (x a : Str) (Eo : VK → XK) : Prop where
  ex : ∃ (g : Addr) (pg : Arguments) (bg : List Stmt) (sg : Scope) (dV kV doc pm cdv ct oc : Value) (an od : Option Addr) (osl : Array (Option Value)) (Ng : List Str), mg x = some (.ref g) ∧ PySem.W.keepIn K (.ref g) = true ∧
    K.lookup g = some ⟨oc, od, .func (PySem.W.fnOf x x pg bg sg dV kV doc pm an cdv ct), osl⟩ ∧ PySem.W.codeIn K cdv x = true ∧ L2.Binds K (PySem.W.fnOf x x pg bg sg dV kV doc pm an cdv ct) [a] [] ∧ FnScope Ng [a] sg ∧ Ng[0]? = some a ∧ Vis sg a ∧
    ∀ X : Cx, Is X P w K mg base → GivesTo X Ng x sg g cdv bg a (X.env.qual ++ "<lambda>") (ttOf Eo)
section
variable {X : Cx} {P : Program} {w : World} {K : PySem.W.Frag} {mg : Str → Option Value} {base : Heap} {Eo : VK → XK}
theorem pe_lamD {x a : Str} {c Pt : Addr} {k : Nat} {params : Arguments} {body : Expr} {scope : Scope} {t : XK → TE} {p lpos pos : Pos} (h : LamG P w K mg base x a Eo) (B : TabB base mg c Pt) (hcode : X.env.code = .ref c) (hr : Room (k + 2) X.A) (gd : X.A.guards = some []) (gx : Gl X x) (L : LamS X.env.scope scope) (hdef : defaultsOf params X.env = ([], []))
    (bl : ∀ (q : Str) (cl : List (Str × Addr)) (pm cv ctv : Value), bindArgs (PySem.W.kla_fn "<lambda>" q params body scope cl pm cv ctv) ⟨[], []⟩ = pure [])
    (hb : ∀ (A : Around) (outer : List Env) (s : Shared) (H : Hp) (E : XK) (f c' : Addr), A.guards = some [] → Room k (A.deeper (lamEnv X scope s.heap.objs.size f c')) → PE (lamCx X A outer s H E scope f c') body (t E))
    (hX : Is X P w K mg base := by exact ⟨rfl, rfl, rfl, rfl, rfl⟩) (d1 : (x == ("__debug__" : Str)) = false := by decide) (d2 : (a == ("__debug__" : Str)) = false := by decide) (d3 : (a == ("__classdict__" : Str)) = false := by decide) :
    PE X (.Call (.Name x p) [.Lambda params body scope lpos] [] pos) (tLamM (X.env.qual ++ "<lambda>") Pt (ttOf Eo) t) := by
  have hX2 := hX
  obtain ⟨rfl, rfl, rfl, rfl, rfl⟩ := hX
  obtain ⟨g, pg, bg, sg, dV, kV, doc, pm, cdv, ct, oc, an, od, osl, Ng, mx, kx, lx, cx, bx, Sg, nx, vx, G⟩ := h.ex
  exact pe_lam gx mx kx lx cx bx Sg nx vx (G X hX2) B hcode hr L hdef bl gd hb d1 d2 d3
end
/-! ### what is made may raise -/
section
variable {X : Cx} {P : Program} {w : World} {K : PySem.W.Frag} {mg : Str → Option Value} {base : Heap} {C : Addr} {k : Nat} {x : Str} {ps : List Str} {p : PTX} {e : Expr} {es : List Expr} {t : TA} {pos pp : Pos} {E : XK}
theorem pe_makeX (h : DmX P w K mg base k C "__init__" ps p) (hK : Kc K mg x C) (hmk : ∃ f, Mk K C f) (hr : Room (k + 1) X.A) (gd : X.A.guards = some []) (hx : Passes (L2.CX P w) X E) (hg : Gl X x) (ha : PA X (e :: es) t) (hX : Is X P w K mg base := by exact ⟨rfl, rfl, rfl, rfl, rfl⟩) (hd : (x == ("__debug__" : Str)) = false := by decide)
    (hst : starEach (e :: es) X.env = (false, eval e X.env) :: starEach es X.env := by rfl) (hpl : (backTo pos (starEach es X.env)).any (·.1) = false := by rfl) : PE X (.Call (.Name x pp) (e :: es) [] pos) (tMake C (spX K p) [] E t) := by
  obtain ⟨rfl, rfl, rfl, rfl, rfl⟩ := hX
  obtain ⟨f, fd, G, hm, b⟩ := h.ex
  obtain ⟨f', mk⟩ := hmk
  have e1 := mk.init.symm.trans hm.at_
  obtain rfl : f' = f := by cases e1; rfl
  refine ⟨fun pins s σ H Q I z => wpAny_Call_Name_kw (ld_glob I hg hK.g ?_ hd)⟩
  refine PySem.W.callWith_K (h₀ := X.base) I.ok.mod.kin mk.kp (wpAny_mono (ha.run pos pins s σ H _ I z) (fun us s1 hs => ?_) fun _ _ hs => hs) hst hpl
  obtain ⟨vs, H1, I1, r, q⟩ := hs
  refine ⟨I1.kIn, ?_⟩
  have hq := q (s1.heap.objs.size + 1) s1.heap.objs.size (I1.hok.fresh (Nat.le_succ _)) (I1.hok.fresh (Nat.le_refl _)) (Nat.ne_of_lt (Nat.lt_succ_self _))
  rw [List.append_nil] at hq
  have I2 := Inv.made (C := C) I1
  have r2 : Vals (V.ref (s1.heap.objs.size + 1) :: vs) (Value.ref (s1.heap.objs.size + 1) :: us) := .cons rfl r
  have hl : (Value.ref (s1.heap.objs.size + 1) :: us ++ ([] : List Value)).length = ps.length := by rw [List.append_nil, ← r2.length, spX_len G.len hq]
  have bt := b _ (Value.ref (s1.heap.objs.size + 1) :: us) I2.kIn hl
  rw [List.append_nil] at bt
  refine wpAny_call (make_map (f := f') I1.kIn mk.makes mk.init (beq_iff_eq.mp mk.fn) (codeAny_mono (G.run _ X.stack _ _ ⟨_, []⟩ _ _ _ _ (hr.make C us []) gd (I2.env0.make C us []) bt r2 hq) fun r s' hs => ?_))
  match r, hs with
  | .error er, hs => exact hx pins σ _ _ er s' I2 hs
  | .ok (.ret u), hs =>
    obtain ⟨v, H', I3, rv, ev, q3⟩ := I2.after hs
    subst ev
    exact ⟨rv, ⟨V.ref (s1.heap.objs.size + 1), H', I3, rfl, q3⟩⟩
  | .ok .next, hs => exact False.elim hs
  | .ok .brk, hs => exact False.elim hs
  | .ok .cont, hs => exact False.elim hs
end
section
variable {K : PySem.W.Frag} {X : XK} {RX : XP} {δ : En} {M : Mem} {Q : D → Mem → Prop} {tr : TA} {p : PTX} {C : Addr}
/-- x(e, ..), a new object as data; an error leaves it behind -/
theorem dex_make (h : DA K tr δ M fun ds M1 => ∀ x, M1 x = none → p (.raw (.ref x) :: ds) (mup M1 x (.ins C [])) (fun d M2 => ∃ fs, d = .non ∧ M2 = mup M1 x (.ins C fs) ∧ Q (.obj C fs) M1) (fun C' fs' M2 => ∃ fs, M2 = mup M1 x (.ins C fs) ∧ RX C' fs' M1)) : DEX K X RX (tMake C (spX K p) [] X tr) δ M Q := fun F σ H en m xg QV k => by
  refine h F σ H en m _ fun ds M1 vs H1 z g1 r1 x dx hx hdx hne => ?_
  rw [List.append_nil]
  obtain ⟨g2, _⟩ := go_new (o := .own x) g1.ok hdx
  have hx2 : upd H1 dx (.own x) x = none := by rw [upd_ne hne.symm]; exact hx
  have g3 := go_newM (o := .ins C dx []) (m := .ins C []) g2.ok hx2 (.ins .nil)
  have g := (g1.trans g2).trans g3
  have mx := (g1.ok.new hx).2
  refine ⟨F, mup M1 x (.ins C []), .raw (.ref x) :: ds, _, _, .cons (.raw _) ((r1.mono g2.ex).mono g3.ex), g3.ok, z x mx, fun d M2 u H2 hq g4 r4 => ?_, ?_⟩
  · obtain ⟨fs, rfl, rfl, q⟩ := hq
    cases r4
    refine ⟨rfl, ?_⟩
    obtain ⟨g5, f5⟩ := go_frz g4.ok (mup_same (M := M1) (a := x) (o := .ins C fs))
    have em : mdel (mup M1 x (.ins C fs)) x = M1 := mdel_mup mx
    rw [em] at g5
    refine k _ M1 _ H2 q ((g.trans g4).trans g5) ?_
    obtain ⟨ho, e, ro⟩ := g4.ok.mo x _ (mup_same (M := M1) (a := x) (o := .ins C fs))
    cases ro with
    | ins ro => exact .obj (vis_mk e f5 mx) (ro.mono g5.ex)
  · rintro C' fs' M2 H2 dd ⟨fs, rfl, q⟩ g4 xr
    obtain ⟨g5, _⟩ := go_frz g4.ok (mup_same (M := M1) (a := x) (o := .ins C fs))
    have em : mdel (mup M1 x (.ins C fs)) x = M1 := mdel_mup mx
    rw [em] at g5
    refine xg C' fs' M1 H2 dd q ((g.trans g4).trans g5) ?_
    rcases xr with z | ⟨d, xs, e1, e2, e3⟩
    · exact .inl z
    · exact .inr ⟨d, xs, e1, g5.ex _ _ e2, e3.mono g5.ex⟩
end
/-! ### defs that make lambdas: their code object is known -/
/-- the def at f has this code object -/
def HasCode (K : PySem.W.Frag) (f c : Addr) : Prop := ∃ oc od osl fd, K.lookup f = some ⟨oc, od, .func fd, osl⟩ ∧ fd.code = .ref c
structure TxL (K : PySem.W.Frag) (mg : Str → Option Value) (x : Str) (st : Stmt) (c : Addr) : Prop where
  ex : ∃ (f : Addr) (fd : FuncData), Fun K x x st f fd ∧ mg x = some (.ref f) ∧ HasCode K f c
theorem txl_mk {K : PySem.W.Frag} {mg : Str → Option Value} {x : Str} {st : Stmt} {f c : Addr} {oc : Value} {od an : Option Addr} {osl : Array (Option Value)} {kV doc pm ct : Value} (l : K.lookup f = some ⟨oc, od, .func (PySem.W.fnOf x x (defArgs st) (defBody st) (defScope st) .none kV doc pm an (.ref c) ct), osl⟩)
    (e : PySem.W.codeIn K (.ref c) x = true) (k : PySem.W.keepIn K (.ref f) = true) (g : mg x = some (.ref f)) : TxL K mg x st c := ⟨f, _, fun_mk l e k, g, _, _, _, _, l, rfl⟩
section
variable {P : Program} {w : World} {K : PySem.W.Frag} {mg : Str → Option Value} {base : Heap}
theorem dfl_ok {x : Str} {st : Stmt} {N ps : List Str} {k : Nat} {p : PT0} {c : Addr} (T : TxL K mg x st c) (S : FnScope N ps (defScope st)) (len : ∀ ds M R, p ds M R → ds.length = ps.length)
    (hb : ∀ (kV doc pm : Value) (an : Option Addr) (cdv ct : Value) (us : List Value), us.length = ps.length → bindArgs (PySem.W.fnOf x x (defArgs st) (defBody st) (defScope st) .none kV doc pm an cdv ct) ⟨us, []⟩ = pure (ps.zip us))
    (body : ∀ (A : Around) (ou : List Env) (s : Shared) (H : Hp) {f : Addr}, Room k (A.deeper (envOfC x (defScope st) s.heap.objs.size f (.ref c))) → (A.deeper (envOfC x (defScope st) s.heap.objs.size f (.ref c))).guards = some [] →
      ∃ t, PSs (cxOf CX0 P w K mg base N x (defScope st) f (.ref c) A ou s H E0).nox (defBody st) t ∧ ∀ ds M R, p ds M R → DS K t (ds.map some ++ List.replicate (N.length - ds.length) none) M { nx := fun _ M' => R .non M', rt := R }) :
    Df P w K mg base (k + 1) x ps p := by
  obtain ⟨f, fd, Fu, g, oc', od', osl', fd', lk', hc⟩ := T.ex
  have b := Fu.binds (ps := ps) hb
  have kp := Fu.kp
  obtain ⟨oc, od, kV, doc, pm, an, cdv, ct, osl, rfl, lk, hcd⟩ := Fu.ex
  rw [lk'] at lk
  cases lk
  have hc : cdv = .ref c := hc
  subst hc
  have G : FnG P w K mg base (k + 1) f (PySem.W.fnOf x x (defArgs st) (defBody st) (defScope st) .none kV doc pm an (.ref c) ct) ps p := by
    refine ⟨len, fun A ou s H as us vs Q room gd e0 bt rel hp => ?_⟩
    have hlen := spD_len len hp
    have inK : K.In s.heap := e0.mod.kin.keeps fun a ob z => (e0.bs a ob z).1
    have noL : s.heap.NoLimit := e0.mod.nolimit.keeps fun a ob z => (e0.bs a ob z).1
    have kinds : ∀ y ∈ ps.zip us, (defScope st).names.lookup y.1 = some .local ∨ ((defScope st).names.lookup y.1 = some .cell ∧ ((cellsFrom (s.heap.objs.size + 1) (defScope st).names []).lookup y.1).isSome = true) := by
      rintro ⟨n, z⟩ hy
      rcases S.par n (List.of_mem_zip hy).1 with q | q
      · exact .inl q
      · exact .inr ⟨q, PySem.W.cellsFrom_some _ _ _ (.inl q)⟩
    refine codeAny_call_function room.depth (inK _ _ lk') rfl S.co S.gen rfl (PySem.W.codeRec_of inK hcd) (bt _ _ _ _ ?_)
    refine wpAny_newFunctionEnv_cells S.kind kinds fun env he s1 ic => ?_
    subst he
    refine ⟨noL.keeps ic.toInCall.keep, codeAny_func ?_⟩
    obtain ⟨t, ht, hd⟩ := body A ou s H (room.deeper _) gd
    have J0 : Inv (cxOf CX0 P w K mg base N x (defScope st) f (.ref c) A ou s H E0) [] (start N vs) H s1 := inv_start S room.hd e0 hlen rel ic
    have hq : t { nx := fun _ H' => Q .non H', rt := Q } (start N vs) H := by
      obtain ⟨F, M, ds, R, r, m, hpp, q⟩ := hp
      refine hd ds M R hpp F _ H (EnvR.start r) m _ ?_ ?_ ?_ ?_
      · exact fun δ' M' σ' H' z g _ => q _ _ _ _ z g .non
      · exact fun d M' v H' z g rp => q _ _ _ _ z g rp
      · exact fun _ _ _ _ z => z.elim
      · exact fun _ _ _ _ z => z.elim
    refine wpAny_mono (ht.nox.run [] s1 (start N vs) H _ J0 hq) (fun fl s2 hs => ?_) fun e s2 hs => hs
    have done : ∀ {σ' : Sg} {H' : Hp} {v : V} {u : Value}, Inv (cxOf CX0 P w K mg base N x (defScope st) f (.ref c) A ou s H E0) [] σ' H' s2 → RelV v u → Q v H' → CE ou P w H s Q u s2 :=
      fun {_ H' v _} J rv q => ⟨v, H', J.os, J.bare, J.base, J.hok, rv, q⟩
    cases fl with
    | ret u =>
      obtain ⟨v, σ', H', J, rv, q⟩ := hs
      exact done J rv q
    | next =>
      obtain ⟨σ', H', J, q⟩ := hs
      exact done (v := V.non) (u := Value.none) J rfl q
    | brk => exact (let ⟨_, _, _, q⟩ := hs; False.elim q)
    | cont => exact (let ⟨_, _, _, q⟩ := hs; False.elim q)
  exact ⟨f, _, G, g, kp, b, _, _, _, lk'⟩
end
end DL

set_option Elab.async false
set_option linter.all false
set_option maxRecDepth 100000
set_option maxHeartbeats 4000000
/-! the law's end, with tables of code objects -/
namespace DL
open PySem PySem.Spec PyProof.Rows L2 LamX
/-- the memory that holds these tables alone -/
def tabM (T : List (Addr × Str)) : Mem := fun a => (T.lookup a).map MO.tab
def p_lawT (T : List (Addr × Str)) : PT0 := fun ds M R => ∃ ns : List Int, ds = [.lst (ns.map D.int)] ∧ ns.length ≤ 63 ∧ (∀ p ∈ T, M p.1 = some (.tab p.2)) ∧ ∀ M', R (.bl true) M'
theorem tabM_in {T : List (Addr × Str)} {a : Addr} {m : MO} (h : tabM T a = some m) : a ∈ T.map (·.1) ∧ ∃ q, m = .tab q := by
  unfold tabM at h
  cases e : T.lookup a with
  | none => rw [e] at h; cases h
  | some q =>
    rw [e] at h
    cases h
    refine ⟨?_, q, rfl⟩
    induction T with
    | nil => cases e
    | cons p T ih =>
      obtain ⟨b, z⟩ := p
      by_cases hb : a = b
      · subst hb; exact List.mem_cons_self
      · have : (a == b) = false := by simpa using hb
        rw [List.lookup, this] at e
        exact List.mem_cons_of_mem _ (ih e)
theorem lookup_mem {T : List (Addr × Str)} {a : Addr} (h : a ∈ T.map (·.1)) : ∃ q, T.lookup a = some q := by
  induction T with
  | nil => cases h
  | cons p T ih =>
    obtain ⟨b, z⟩ := p
    by_cases hb : a = b
    · subst hb; exact ⟨z, by rw [List.lookup, beq_self_eq_true]⟩
    · have e : (a == b) = false := by simpa using hb
      rw [List.lookup, e]
      refine ih ?_
      rcases List.mem_cons.mp h with z | z
      · exact absurd z hb
      · exact z
theorem law_gT {P : Program} {w : World} {K : PySem.W.Frag} {mg mb : Str → Option Value} {k : Nat} {fa a : Addr} {fd : FuncData} {x : Str} {s1 : Shared} {vs : List Value} {ns : List Int} {cs : List (Addr × Addr)} {T : List (Addr × Str)}
    (inK : K.In s1.heap) (nsg : s1.heap.Ns mainGlobals mg) (nsb : s1.heap.Ns builtinsNs mb) (nsx : ∀ x : Str, x ≠ "__name__" → mb x = bootBuiltins x) (noL : s1.heap.NoLimit) (ng : s1.gens = #[])
    (eT : T.map (·.1) = cs.map (·.2)) (uT : ∀ p ∈ T, T.lookup p.1 = some p.2) (oT : ∀ p ∈ cs, s1.heap.get? p.2 = some { cls := .none, data := .fields #[] }) (kT : ∀ p ∈ cs, K.lookup p.2 = none) (hd : ∀ p ∈ cs, PySem.W.CodeHd s1.heap p.1 p.2)
    (bn : ∃ (bm : Addr) (ob : Obj), mg "__builtins__" = some (.ref bm) ∧ bm ≠ builtinsNs ∧ s1.heap.get? bm = some ob ∧ ob.cls = .type "module" ∧ ob.dict = some builtinsNs ∧ ob.data = .plain)
    (oa : s1.heap.get? a = some { cls := .type "list", data := .seq vs.toArray }) (ia : IntsAre vs ns) (la : ns.length ≤ 63) (hr : Room k callerA)
    (F : ∀ base : Heap, K.In base → base.Ns mainGlobals mg → (∀ p ∈ cs, TabB base mg p.1 p.2) → FnG P w K mg base k fa fd [x] (p_lawT T)) (hbind : ∀ (s : Shared) (u : Value), BindsTo s fd ⟨[u], []⟩ [(x, u)]) :
    codeAny (model P w) callerA (.call (.ref fa) ⟨[.ref a], []⟩) (fun r s' => r = .ok (.ret (.bool true)) ∧ OldK s1.heap s'.heap ∧ s'.os = s1.os ∧ AllBare s'.gens) s1 := by
  have rel := vals_ints ia
  have nlen := ia.length
  have la2 : ns.length ≤ sizeLine := by rw [sizeLine_eq]; omega
  have isTab : ∀ {b : Addr}, b ∈ cs.map (·.2) → s1.heap.get? b = some { cls := .none, data := .fields #[] } ∧ K.lookup b = none := fun {b} hb => by
    obtain ⟨p, hp, rfl⟩ := List.mem_map.mp hb
    exact ⟨oT p hp, kT p hp⟩
  have aNo : a ∉ cs.map (·.2) := fun z => by
    have q := (isTab z).1
    rw [oa] at q
    cases q
  -- tracked: the tables, and the script where it is not written
  have main : ∀ H : Hp, (∀ b ∈ cs.map (·.2), H b = some (.tbl #[])) → (∀ b, b ∉ cs.map (·.2) → H b = none ∨ (b = a ∧ ∃ o xs, H b = some (.frz o (.lst xs)))) → SqL K (vis H (tabM T) (fun _ => false)) a (ns.map V.int) → HOk P w H s1.heap → (H a ≠ none → K.lookup a = none) →
      codeAny (model P w) callerA (.call (.ref fa) ⟨[.ref a], []⟩) (fun r s' => r = .ok (.ret (.bool true)) ∧ OldK s1.heap s'.heap ∧ s'.os = s1.os ∧ AllBare s'.gens) s1 := by
    intro H hT ho sq ok nk
    have here : ∀ {b : Addr}, H b ≠ none → b = a ∨ b ∈ cs.map (·.2) := fun {b} hb => by
      by_cases z : b ∈ cs.map (·.2)
      · exact .inr z
      · rcases ho b z with y | ⟨y, _⟩
        · exact absurd y hb
        · exact .inl y
    have un_tracked : ∀ {b : Addr} {o : Obj}, s1.heap.get? b = some o → (∀ q n, o.data ≠ .seq q n) → o.data ≠ .fields #[] → H b = none := fun {b o} e n1 n2 => by
      cases q : H b with
      | none => rfl
      | some u =>
        rcases here (b := b) (by rw [q]; simp) with z | z
        · subst z; rw [oa] at e; cases e; exact absurd rfl (n1 _ _)
        · rw [(isTab z).1] at e; cases e; exact absurd rfl n2
    have nsv : ∀ {b : Addr} {m : Str → Option Value}, s1.heap.Ns b m → (hidT s1.heap H).Ns b m := fun {b m} z => by
      obtain ⟨o, es, n, e, d, rest⟩ := z
      refine ⟨o, es, n, hidT_get e (un_tracked e (fun q n z => ?_) fun z => ?_), d, rest⟩ <;> (rw [d] at z; cases z)
    have inB : K.In (hidT s1.heap H) := fun b o e => hidT_get (inK b o e) (by
      cases q : H b with
      | none => rfl
      | some u =>
        rcases here (b := b) (by rw [q]; simp) with z | z
        · subst z
          rw [nk (by rw [q]; simp)] at e
          cases e
        · rw [(isTab z).2] at e
          cases e)
    have md : Mod K mg (hidT s1.heap H) := by
      obtain ⟨mc, c1, c2⟩ := noL
      exact ⟨inB, nsv nsg, ⟨mb, nsv nsb, nsx⟩, mc, nsv c1, c2⟩
    have tb : ∀ p ∈ cs, TabB (hidT s1.heap H) mg p.1 p.2 := fun p hp => by
      have o2 := oT p hp
      refine ⟨?_, ?_, fun z => ?_⟩
      · obtain ⟨o, us, file, tf, flags, tg, inF, text, tt, e1, r1, r2, r3, r4, r5, r6, r7, r8, hne⟩ := hd p hp
        refine ⟨o, us, file, tf, flags, tg, inF, text, tt, hidT_get e1 (un_tracked e1 (fun q n z => ?_) fun z => ?_), r1, r2, r3, r4, r5, r6, r7, r8, hne⟩
        · rw [r2] at z; cases z
        · rw [r2] at z; cases z; exact nomatch r3
      · obtain ⟨bm, ob, b1, b2, b3, b4, b5, b6⟩ := bn
        have n1 : bm ≠ mainGlobals := fun q => by
          obtain ⟨o, es, n, e, d, _⟩ := nsg
          rw [q, e] at b3; cases b3
          rw [d] at b6; cases b6
        have n2 : bm ≠ p.2 := fun q => by
          rw [q, o2] at b3; cases b3; cases b6
        refine ⟨bm, ob, b1, b2, n1, n2, hidT_get b3 (un_tracked b3 (fun q n z => ?_) fun z => ?_), b4, b5, b6⟩ <;> (rw [b6] at z; cases z)
      · obtain ⟨o, es, n, e, d, _⟩ := nsg
        rw [z, o2] at e; cases e; cases d
    have e0 : Env0 P w K mg (hidT s1.heap H) callerA [] s1 H :=
      { frames := rfl, mod := md, bs := fun b o e => of_hidT e, bsz := Nat.le_of_eq (hidT_size _ _), funs := trivial, frf := fun b hb => (nomatch hb), hok := ok, bare := .of_eq ng }
    have mk : MOk K (fun _ => false) (tabM T) H := by
      refine ⟨fun b hb => (nomatch hb), fun b m hm => ?_, fun b ps hb => .inr ?_⟩
      · obtain ⟨h1, q, rfl⟩ := tabM_in hm
        refine ⟨_, hT b (eT ▸ h1), .tab True.intro fun pos cv hc => ?_⟩
        exact nomatch hc
      · by_cases z : b ∈ cs.map (·.2)
        · obtain ⟨q, hq⟩ := lookup_mem (T := T) (a := b) (eT ▸ z)
          exact ⟨.tab q, by unfold tabM; rw [hq]; rfl⟩
        · rcases ho b z with y | ⟨_, o, xs, y⟩ <;> (rw [y] at hb; cases hb)
    have hp : spD K (p_lawT T) [.ref a] H (fun v _ => v = .bl true) E0 := by
      refine ⟨fun _ => false, tabM T, [.lst (ns.map D.int)], fun d _ => d = .bl true, .cons (.lst sq (RepL.ints ns)) .nil, mk, ⟨ns, rfl, la, fun p hp => by unfold tabM; rw [uT p hp]; rfl, fun _ => rfl⟩, fun d M' v H' hd _ r => ?_⟩
      subst hd
      cases r
      rfl
    refine codeAny_mono ((F _ inB (nsv nsg) tb).run callerA [] s1 H ⟨[.ref a], []⟩ [.ref a] [.ref a] _ hr rfl e0 (hbind s1 (.ref a)) (.cons rfl .nil) hp) fun r s2 hq => ?_
    match r, hq with
    | .error _, hq => exact False.elim hq
    | .ok .next, hq => exact False.elim hq
    | .ok .brk, hq => exact False.elim hq
    | .ok .cont, hq => exact False.elim hq
    | .ok (.ret u), hq =>
      obtain ⟨v, H2, os2, bare2, un, ok2, rv, qv⟩ := hq
      have qv : v = .bl true := qv
      subst qv
      obtain rfl : u = Value.bool true := rv
      have kept : ∀ b o, b ∉ cs.map (·.2) → s1.heap.get? b = some o → s2.heap.get? b = some o := fun b o nb e => by
        rcases ho b nb with z | ⟨_, ob, ys, z⟩
        · exact un.keep b o e z (fun h => (nomatch h)) (fun h => (nomatch h))
        · obtain ⟨y1, _⟩ := ok b _ z
          obtain ⟨y2, _⟩ := ok2 b _ (un.frzs b ob _ z)
          rw [e] at y1
          cases y1
          exact y2
      have grown : ∀ p ∈ cs, ∃ more : Array Value, s2.heap.get? p.2 = some { cls := .none, data := .fields more } := fun p hp => by
        obtain ⟨more, z⟩ := un.tbls p.2 #[] (hT p.2 (List.mem_map.mpr ⟨p, hp, rfl⟩))
        exact ⟨_, ok2 p.2 _ z⟩
      refine ⟨rfl, ⟨fun b o e => ?_, fun b o e => ?_⟩, os2, bare2⟩
      · by_cases hb : b ∈ cs.map (·.2)
        · obtain ⟨p, hp, rfl⟩ := List.mem_map.mp hb
          obtain ⟨more, hm⟩ := grown p hp
          rw [oT p hp] at e
          cases e
          exact .inr (.inl ⟨((hd p hp).tab (oT p hp)).isCodeTable, rfl, #[], more, rfl, by rw [Array.empty_append]; exact hm⟩)
        · exact .inl (kept b o hb e)
      · by_cases hb : b ∈ cs.map (·.2)
        · obtain ⟨p, hp, rfl⟩ := List.mem_map.mp hb
          obtain ⟨more, hm⟩ := grown p hp
          exact ⟨_, hm⟩
        · exact ⟨o, kept b o hb e⟩
  have noA : tabM T a = none := by
    cases e : tabM T a with
    | none => rfl
    | some m => exact absurd (eT ▸ (tabM_in e).1) aNo
  cases hk : K.lookup a with
  | some o =>
    have e := inK a o hk
    rw [oa] at e
    cases e
    refine main (fun b => if b ∈ cs.map (·.2) then some (.tbl #[]) else none) (fun b hb => if_pos hb) (fun b hb => .inl (if_neg hb)) (.inr ⟨_, vs.toArray, _, hk, rfl, rfl, rfl, (by rw [List.size_toArray, nlen]; exact la2), (by simpa using rel)⟩) (fun b u z => ?_) fun z => absurd (if_neg aNo) z
    by_cases hb : b ∈ cs.map (·.2)
    · have z2 := (if_pos hb).symm.trans z
      cases z2
      exact (isTab hb).1
    · have z2 := (if_neg hb).symm.trans z
      cases z2
  | none =>
    have at_a : (fun b => if b = a then some (.frz { cls := .type "list", data := .seq vs.toArray } (.lst (ns.map V.int))) else if b ∈ cs.map (·.2) then some (HO.tbl #[]) else none : Hp) a = some (.frz { cls := .type "list", data := .seq vs.toArray } (.lst (ns.map V.int))) := if_pos rfl
    refine main (fun b => if b = a then some (.frz { cls := .type "list", data := .seq vs.toArray } (.lst (ns.map V.int))) else if b ∈ cs.map (·.2) then some (.tbl #[]) else none) (fun b hb => ?_) (fun b hb => ?_) (.inl (.inr ⟨_, vis_mk at_a rfl noA⟩)) (fun b u z => ?_) fun _ => hk
    · have n1 : b ≠ a := fun z => by subst z; exact aNo hb
      exact (if_neg n1).trans (if_pos hb)
    · by_cases hb2 : b = a
      · exact .inr ⟨hb2, _, _, if_pos hb2⟩
      · exact .inl ((if_neg hb2).trans (if_neg hb))
    · by_cases hb : b = a
      · have z2 := (if_pos hb).symm.trans z
        cases z2
        subst hb
        exact ⟨oa, by rw [List.length_map]; exact la2, vs, _, rel, oa⟩
      · have z1 := (if_neg hb).symm.trans z
        by_cases hb2 : b ∈ cs.map (·.2)
        · have z2 := (if_pos hb2).symm.trans z1
          cases z2
          exact (isTab hb2).1
        · have z2 := (if_neg hb2).symm.trans z1
          cases z2
/-- the goal that the head leaves -/
theorem walk_gT {l : PySem.W.OpenLaw} {k : Nat} {q : Program} {loose : List Str} {XP : (Str → Option Value) → Heap → Prop} {YP : World → Heap → Prop} {d : DefRec} {K : Params → PySem.W.Frag} {x : Str}
    (hn : l.most = some 63) (hdf : d.params.defaults = []) (hr : Room k callerA) (hY : ∀ (w : World) (h : Heap), YP w h → (K w.params).In h)
    (F : ∀ (w : World) (mg : Str → Option Value) (fa : Addr) (h : Heap), YP w h → (K w.params).In h → h.Ns mainGlobals mg → mg d.name = some (.ref fa) →
      ∃ (fd : FuncData) (cs : List (Addr × Addr)) (T : List (Addr × Str)), T.map (·.1) = cs.map (·.2) ∧ (∀ p ∈ T, T.lookup p.1 = some p.2) ∧ (∀ p ∈ cs, h.get? p.2 = some { cls := .none, data := .fields #[] }) ∧ (∀ p ∈ cs, (K w.params).lookup p.2 = none) ∧ (∀ p ∈ cs, PySem.W.CodeHd h p.1 p.2) ∧
        (∀ (s : Shared) (u : Value), BindsTo s fd ⟨[u], []⟩ [(x, u)]) ∧ ∀ base : Heap, (K w.params).In base → base.Ns mainGlobals mg → (∀ p ∈ cs, TabB base mg p.1 p.2) → FnG l.prog w (K w.params) mg base k fa fd [x] (p_lawT T)) :
    PySem.W.WalkO q loose XP YP l.row.toRowW d [] (fun f vs => PySem.call f vs) := by
  refine Att.attach_call hn hdf fun w s0 s1 mg mb fa o pm cd doc a vs ns G Y ho hd hcd hmg hobj hints hlen hg => ?_
  have inK := hY w _ Y
  obtain ⟨fd, cs, T, eT, uT, oT, kT, hd2, hb, hF⟩ := F w mg fa _ Y inK G.T.g hmg
  exact law_gT inK G.T.g G.T.b G.T.builtins G.T.nolimit hg eT uT oT kT hd2 G.T.bmain hobj hints hlen hr hF hb
end DL

set_option Elab.async false
set_option linter.all false
set_option maxRecDepth 100000
set_option maxHeartbeats 4000000
/-! clauses that catch, over data -/
namespace DL
open PySem PySem.Spec PyProof.Rows L2 LamX
/-- classes that a clause names: their places -/
structure Ecl (K : PySem.W.Frag) (mg : Str → Option Value) (x : Str) (C : Addr) : Prop where
  g : mg x = some (.ref C)
/-- an error of the class A is what «except B» names, or not -/
abbrev Exm (K : PySem.W.Frag) (A B : Addr) (b : Bool) : Prop := PySem.W.exmOne K (.ref A) (.ref B) = some b
section
variable {K : PySem.W.Frag} {c : Value} {i n : Nat} {ts : Addr → Value → Option Addr → TS} {Wout : WX} {D : Ends} {cls : Value} {d : Option Addr} {σ : Sg} {H : Hp} {l : List (Value × (Addr → Value → Option Addr → TS))} {A B : Addr}
theorem was_hit (e : PySem.W.exmOne K cls c = some true) (h : ∀ a, H a = none → ts a cls d { nx := fun σ' H' => D.nx (σ'.set i none) H', rt := D.rt, bk := fun σ' H' => D.bk (σ'.set i none) H', ct := fun σ' H' => D.ct (σ'.set i none) H' } (σ.set i (some (.ref a))) H) : wAs K c i ts Wout D cls d σ H :=
  ⟨true, e, (fun _ => h), fun z => nomatch z⟩
theorem was_miss (e : PySem.W.exmOne K cls c = some false) (h : Wout cls d σ H) : wAs K c i ts Wout D cls d σ H := ⟨false, e, (fun z => nomatch z), fun _ => h⟩
theorem wmany_hit (e : PySem.W.exmOne K cls c = some true) (h : ∀ a, H a = none → ts a cls d D σ H) : wMany K Wout D ((c, ts) :: l) cls d σ H := ⟨true, e, (fun _ => h), fun z => nomatch z⟩
theorem wmany_miss (e : PySem.W.exmOne K cls c = some false) (h : wMany K Wout D l cls d σ H) : wMany K Wout D ((c, ts) :: l) cls d σ H := ⟨false, e, (fun z => nomatch z), fun _ => h⟩
end
theorem repS_look {K : PySem.W.Frag} {G : Hp} {f : Str} {d : D} : ∀ {xs : List (Str × V)} {fs : List (Str × D)}, RepS K G xs fs → fs.lookup f = some d → ∃ v, xs.lookup f = some v ∧ Rep K G v d
  | _, _, .nil, h => nomatch h
  | _, _, .cons (k := y) r1 r2, h => by
    by_cases hy : f = y
    · subst hy
      rw [List.lookup, beq_self_eq_true] at h ⊢
      cases h
      exact ⟨_, rfl, r1⟩
    · have hy2 : (f == y) = false := by simpa using hy
      rw [List.lookup, hy2] at h ⊢
      exact repS_look r2 h
/-- the reading of «except ..: return r», r written -/
def tsR (t : TE) : Addr → Value → Option Addr → TS := fun _ _ _ => tRet t
/-- .. of «except X as e: return [s, e.f]», e at slot i of n -/
def tsF (n i : Nat) (C : Addr) (f s : Str) : Addr → Value → Option Addr → TS := fun a cls d D σ H => σ.length = n → tRet (tLst (tCons (tC (.str s)) (tCons (tXf a cls d C f (tVar i)) tNil))) D σ H
/-- what the clauses give to an error: the way out of the body -/
def EoF (K : PySem.W.Frag) (n i : Nat) (C : Addr) (f s : Str) (l : List (Value × (Addr → Value → Option Addr → TS))) (Q : VK) : XK := fun cls d H => ∀ σ, wAs K (.ref C) i (tsF n i C f s) (wMany K (fun _ _ _ _ => False) { nx := fun _ H' => Q .non H', rt := Q } l) { nx := fun _ H' => Q .non H', rt := Q } cls d σ H
section
variable {K : PySem.W.Frag} {mg : Str → Option Value} {n i : Nat} {C C' : Addr} {f s : Str} {l : List (Value × (Addr → Value → Option Addr → TS))} {Q : D → Mem → Prop} {QV : VK} {F : Fm} {M : Mem} {H : Hp} {dd : Option Addr} {fs : List (Str × D)} {d : D}
/-- its field, in a list behind a word -/
theorem eoF_hit (e : Exm K C C true) (hi : i < n) (m : MOk K F M H) (x : XRep K (vis H M F) dd fs) (hf : fs.lookup f = some d) (q : Q (.lst [.str s, d]) M)
    (k : ∀ d M2 v H2, Q d M2 → Go K F M H M2 H2 → Rep K (vis H2 M2 F) v d → QV v H2) : EoF K n i C f s l QV (.ref C) dd H := fun σ => by
  rcases x with ⟨rfl, _⟩ | ⟨a0, xs, rfl, e1, r⟩
  · cases hf
  · refine was_hit e fun a ha hl2 => ?_
    obtain ⟨v, hv, rv⟩ := repS_look r hf
    rw [List.length_set] at hl2
    refine ⟨_, by rw [List.getElem?_set_self (by rw [hl2]; exact hi)], rfl, rfl, a0, xs, v, rfl, vis_le _ _ e1, hv, by show 2 ≤ sizeLine; decide, fun p hp => ?_⟩
    obtain ⟨g2, e2⟩ := go_new (o := .lst [.str s, v]) m hp
    exact k _ M _ _ q g2 (.lst (.inl (.inl e2)) (.cons (.str s) (.cons (rv.mono g2.ex) .nil)))
theorem eoF_miss (e : Exm K C' C false) (h : ∀ σ, wMany K (fun _ _ _ _ => False) { nx := fun _ H' => QV .non H', rt := QV } l (.ref C') dd σ H) : EoF K n i C f s l QV (.ref C') dd H := fun σ => was_miss e (h σ)
/-- a written list -/
theorem tsR_lst {σ : Sg} {D0 : Ends} {a : Addr} {cls : Value} {d0 : Option Addr} (hD : D0.rt = QV) (m : MOk K F M H) (q : Q (.lst [.str s]) M) (k : ∀ d M2 v H2, Q d M2 → Go K F M H M2 H2 → Rep K (vis H2 M2 F) v d → QV v H2) : tsR (tLst (tCons (tC (.str s)) tNil)) a cls d0 D0 σ H := by
  show tLst _ σ H D0.rt
  rw [hD]
  refine ⟨by show 1 ≤ sizeLine; decide, fun p hp => ?_⟩
  obtain ⟨g2, e2⟩ := go_new (o := .lst [.str s]) m hp
  exact k _ M _ _ q g2 (.lst (.inl (.inl e2)) (.cons (.str s) .nil))
end
section
variable {X : Cx} {Ng : List Str} {x a n e f s q : Str} {sg : Scope} {g C : Addr} {cdg : Value} {i j : Nat} {hds : List ExceptHandler} {l : List (Value × (Addr → Value → Option Addr → TS))} {p1 p2 p3 p4 p5 p6 p7 p8 p9 p10 p11 : Pos}
/-- try: return a() / except x as e: return [s, e.f] / except ..: return .. -/
theorem giv_F (hN : Ng.Nodup) (hi : Ng[i]? = some n) (lt : i < Ng.length) (hln : ∀ (f : Addr) (cd : Value) (L : Addr), (envOfC x sg L f cd).kindOf n = some .local) (hv : Vis sg n) (hnd : (n == ("__debug__" : Str)) = false) (hnd2 : (n == ("__classdict__" : Str)) = false) (hge : sg.names.lookup e = some .globalImplicit) (hme : X.mg e = some (.ref C)) (hde : (e == ("__debug__" : Str)) = false) (T : XfC X.K C) (hno : PySem.W.findIn X.K (.ref C) f = some none)
    (h0 : ∀ f : Addr, (L2.start Ng [V.ref f])[0]? = some (some (V.ref f)))
    (hh : ∀ (s : Shared) (H : Hp), HdsOk (cxOf C8.CX0 X.prog X.w X.K X.mg X.base Ng x sg g cdg X.A X.stack s H C8.E0).nox hds l)
    (hab : ∀ (s : Shared) (H : Hp) (a0 : Addr) (oe : Obj) (pn : List (Addr × Obj)), attributeBase (.Name n p1) f ((cxOf C8.CX0 X.prog X.w X.K X.mg X.base Ng x sg g cdg X.A X.stack s H C8.E0).nox.suite a0 ((a0, oe) :: pn)).env (eval (.Name n p1) ((cxOf C8.CX0 X.prog X.w X.K X.mg X.base Ng x sg g cdg X.A X.stack s H C8.E0).nox.suite a0 ((a0, oe) :: pn)).env) = eval (.Name n p1) ((cxOf C8.CX0 X.prog X.w X.K X.mg X.base Ng x sg g cdg X.A X.stack s H C8.E0).nox.suite a0 ((a0, oe) :: pn)).env) :
    GivesTo X Ng x sg g cdg (.Try [.Return (some (.Call (.Name a p2) [] [] p3)) p4] (.ExceptHandler (some (.Name e p5)) (some n) [.Return (some (.List [.Constant (.str s) j p6,   .Attribute (.Name n p1) f p7] p8)) p9] p10 :: hds) [] [] p11 :: []) a q (ttOf (EoF X.K Ng.length i C f s l)) := by
  intro f0 c' s0 H Q tl act hc h
  have hgl : Gl (cxOf C8.CX0 X.prog X.w X.K X.mg X.base Ng x sg g cdg X.A X.stack s0 H C8.E0).nox e := hge
  refine ⟨_, pss_one (ps_try_asMany (X := (cxOf C8.CX0 X.prog X.w X.K X.mg X.base Ng x sg g cdg X.A X.stack s0 H C8.E0).nox) (i := i) (c := .ref C) (ts := tsF Ng.length i C f s) (Wout := fun _ _ _ _ => False) (l := l)
      (tb := fun W D σ H => ∃ Ech : XK, (∀ cls d σ' H', Ech cls d H' → W cls d σ' H') ∧ σ[0]? = some (some (.ref f0)) ∧ H c' = some (CodeO c' q) ∧ tl Ech H D.rt)
      rfl rfl hN hi (hln _ _ _) ⟨hgl, hde, .inl hme⟩ LamX.takes0 (fun W pn xe tk _ => ?_) (fun a0 oe cls d pn hz hf => ?_) (hh s0 H)), ?_⟩
  · refine ⟨fun pins s' σ H' D I h' => ?_⟩
    obtain ⟨Ech, hW, h1, h2, h3⟩ := h'
    exact (pss_one (ps_ret (pos := p4) (act W pn xe Ech p2 p3 tk hW))).run pins s' σ H' D I ⟨h1, h2, h3⟩
  · exact pss_len (pss_one (ps_ret (pe_lst (pa_cons pe_str (pa_cons (pe_xf T hno hz hf (pe_var (i := i) hi hv hnd hnd2) (hab s0 H a0 oe pn)) pa_nil)))))
  · exact ⟨fun cls d H' => ∀ σ', wAs X.K (.ref C) i (tsF Ng.length i C f s) (wMany X.K (fun _ _ _ _ => False) { nx := fun _ H' => Q .non H', rt := Q } l) { nx := fun _ H' => Q .non H', rt := Q } cls d σ' H', fun cls d σ' H' z => z σ', h0 f0, hc, h⟩
end
end DL

set_option Elab.async false
set_option linter.all false
set_option maxRecDepth 100000
set_option maxHeartbeats 4000000
/-! repr of any data, an empty dict in it too -/
namespace DL
open PySem PySem.Spec PyProof.Rows L2
mutual
/-- this value is this datum in the heap; a dict is empty, and none of the interpreter's own -/
inductive Sw (h : Heap) : Value → PyData → Prop
  | non : Sw h .none .none
  | bl (b : Bool) : Sw h (.bool b) (.bool b)
  | int (i : Int) (t : Tok) : Sw h (.int i t) (.int i)
  | str (x : Str) (t : Tok) : Sw h (.str x t) (.str x)
  | lst {a : Addr} {o : Obj} {vs : Array Value} {n : Nat} {xs : List PyData} : h.get? a = some o → o.cls = .type "list" → o.data = .seq vs n → SwL h vs.toList xs → Sw h (.ref a) (.list xs)
  | tup {a : Addr} {o : Obj} {vs : Array Value} {n : Nat} {xs : List PyData} : h.get? a = some o → o.cls = .type "tuple" → o.data = .seq vs n → SwL h vs.toList xs → Sw h (.ref a) (.tuple xs)
  | dic {a : Addr} {o : Obj} {n : Nat} : h.get? a = some o → o.cls = .type "dict" → o.data = .dict #[] n → (a == sysModules) = false → Sw h (.ref a) (.dict [])
inductive SwL (h : Heap) : List Value → List PyData → Prop
  | nil : SwL h [] []
  | cons {v : Value} {vs : List Value} {d : PyData} {ds : List PyData} : Sw h v d → SwL h vs ds → SwL h (v :: vs) (d :: ds)
end
mutual
theorem Sw.reads {h : Heap} : ∀ {v : Value} {d : PyData}, Sw h v d → ∃ as, Reads h v d as
  | _, _, .non => ⟨_, .none⟩
  | _, _, .bl b => ⟨_, .bool b⟩
  | _, _, .int i t => ⟨_, .int i t⟩
  | _, _, .str x t => ⟨_, .str x t⟩
  | _, _, .lst z1 z2 z3 z4 => let ⟨_, r⟩ := SwL.reads z4; ⟨_, .list z1 z2 z3 r⟩
  | _, _, .tup z1 z2 z3 z4 => let ⟨_, r⟩ := SwL.reads z4; ⟨_, .tuple z1 z2 z3 r⟩
  | _, _, .dic z1 z2 z3 _ => ⟨_, .dict z1 z2 z3 .nil .nil⟩
theorem SwL.reads {h : Heap} : ∀ {v : List Value} {d : List PyData}, SwL h v d → ∃ as, ReadsAll h v d as
  | _, _, .nil => ⟨_, .nil⟩
  | _, _, .cons a b => let ⟨_, r⟩ := Sw.reads a; let ⟨_, q⟩ := SwL.reads b; ⟨_, .cons r q⟩
end
section
variable {P : Program} {w : World} {h : Heap}
theorem rm_up {m n : Nat} {bs : List Addr} (r : ReadAtMost h m bs) (l : m ≤ n) : ReadAtMost h n bs := fun b hb => let ⟨d, as, z, e⟩ := r b hb; ⟨d, as, z, Nat.le_trans e l⟩
mutual
theorem Sw.shows : ∀ {v : Value} {d : PyData}, Sw h v d → d.showable = true → d.shown.length ≤ sizeLine → ∃ bs, ReadAtMost h d.depth bs ∧ ReprK P w bs h d.depth v d.shown
  | _, _, .non, _, _ => ⟨[], fun _ z => (nomatch z), by rw [PyData.shown]; exact .of_is ReprIs.none _ _ _⟩
  | _, _, .bl b, _, _ => ⟨[], fun _ z => (nomatch z), by rw [PyData.shown]; exact .of_is (ReprIs.bool b) _ _ _⟩
  | _, _, .int i t, hs, _ => ⟨[], fun _ z => (nomatch z), by rw [PyData.shown]; rw [PyData.showable] at hs; exact .of_is (ReprIs.int t (of_decide_eq_true hs)) _ _ _⟩
  | _, _, .str x t, _, hz => ⟨[], fun _ z => (nomatch z), by rw [PyData.shown] at hz ⊢; exact .of_is (ReprIs.str x t hz) _ _ _⟩
  | _, _, .lst (a := a) (vs := vs) (xs := xs) z1 z2 z3 z4, hs, hz => by
    rw [PyData.shown] at hz ⊢
    rw [PyData.showable] at hs
    obtain ⟨as, r⟩ := Sw.reads (.lst z1 z2 z3 z4)
    obtain ⟨bs, b1, b2⟩ := SwL.shows z4 hs fun t ht => Nat.le_trans (listText_mem_le ht) hz
    have no : a ∉ bs := not_mem_of_deeper r (by simp only [PyData.depth]; omega) b1
    refine ⟨a :: bs, fun b hb => ?_, ?_⟩
    · rcases List.mem_cons.mp hb with rfl | hb
      · exact ⟨_, _, r, Nat.le_refl _⟩
      · exact rm_up b1 (by simp only [PyData.depth]; omega) b hb
    · rw [PyData.depth]
      obtain ⟨l⟩ := vs
      match l, z4, b2 with
      | [], z4, b2 =>
        have z4 : SwL h [] xs := z4
        cases z4
        rw [PyData.shownAll, listText_nil]
        exact ReprK.listEmpty z1 z2 z3
      | x :: l, _, b2 => exact ReprK.list z1 z2 z3 no (by have := b2.length_eq; simpa using this) fun i y e => b2.item i y (by simpa using e)
  | _, _, .tup (a := a) (vs := vs) (xs := xs) z1 z2 z3 z4, hs, hz => by
    rw [PyData.shown] at hz ⊢
    rw [PyData.showable] at hs
    obtain ⟨as, r⟩ := Sw.reads (.tup z1 z2 z3 z4)
    obtain ⟨bs, b1, b2⟩ := SwL.shows z4 hs fun t ht => Nat.le_trans (tupleText_mem_le ht) hz
    have no : a ∉ bs := not_mem_of_deeper r (by simp only [PyData.depth]; omega) b1
    refine ⟨a :: bs, fun b hb => ?_, by rw [PyData.depth]; exact ReprK.tuple z1 z2 z3 no b2⟩
    rcases List.mem_cons.mp hb with rfl | hb
    · exact ⟨_, _, r, Nat.le_refl _⟩
    · exact rm_up b1 (by simp only [PyData.depth]; omega) b hb
  | _, _, .dic (a := a) z1 z2 z3 z4, _, _ => by
    have e : (PyData.dict []).shown = dictText [] := by rw [PyData.shown, PyData.shownKv]
    rw [e]
    refine ⟨[a], fun b hb => ?_, ?_⟩
    · rw [List.mem_singleton] at hb
      subst hb
      exact ⟨_, _, .dict z1 z2 z3 .nil .nil, Nat.le_refl _⟩
    · have dd : (PyData.dict []).depth = PyData.depthKv [] + 1 := by rw [PyData.depth]
      rw [dd]
      exact ReprK.dict z1 z2 z3 z4 (fun z => nomatch z) .nil
theorem SwL.shows : ∀ {v : List Value} {d : List PyData}, SwL h v d → PyData.showableAll d = true → (∀ t ∈ PyData.shownAll d, t.length ≤ sizeLine) → ∃ bs, ReadAtMost h (PyData.depthAll d) bs ∧ ReprAllK P w bs h (PyData.depthAll d) v (PyData.shownAll d)
  | _, _, .nil, _, _ => ⟨[], fun _ z => (nomatch z), by rw [PyData.shownAll]; exact .nil⟩
  | _, _, .cons (d := d) (ds := ds) a b, hs, hz => by
    rw [PyData.showableAll, Bool.and_eq_true] at hs
    rw [PyData.shownAll] at hz ⊢
    obtain ⟨b1, r1, k1⟩ := Sw.shows a hs.1 (hz _ List.mem_cons_self)
    obtain ⟨b2, r2, k2⟩ := SwL.shows b hs.2 fun t ht => hz t (List.mem_cons_of_mem _ ht)
    rw [PyData.depthAll]
    refine ⟨b1 ++ b2, fun b hb => ?_, .cons ((k1.more fun _ => List.mem_append_left _).level_le (Nat.le_max_left _ _)) (k2.more_le (fun _ => List.mem_append_right _) (Nat.le_max_right _ _))⟩
    rcases List.mem_append.mp hb with hb | hb
    · exact rm_up r1 (Nat.le_max_left _ _) b hb
    · exact rm_up r2 (Nat.le_max_right _ _) b hb
end
theorem sw_repr {a : Addr} {d : PyData} {A : Around} {E : Value → Shared → Prop} {s : Shared} {Q : Value → Shared → Prop} (r : Sw s.heap (.ref a) d) (hs : d.showable = true) (gd : A.guards = some []) (hu : A.units + (d.depth + 1) < cLine) (hz : d.shown.length ≤ sizeLine)
    (q : ∀ h' u tk, (∀ b o, s.heap.get? b = some o → h'.get? b = some o) → Q (.str d.shown u) { s with heap := h', toks := tk }) : wpAny (model P w) A (call (.builtin "repr") [.ref a]) Q E s := by
  have no := r.reads
  cases r with
  | lst z1 z2 z3 z4 =>
    rename_i o vs n xs
    obtain ⟨as, no⟩ := no
    rw [PyData.shown] at hz
    rw [PyData.showable] at hs
    rw [PyData.depth] at hu
    obtain ⟨bs, b1, b2⟩ := SwL.shows (P := P) (w := w) z4 hs fun t ht => Nat.le_trans (listText_mem_le ht) hz
    have na : a ∉ bs := not_mem_of_deeper no (by simp only [PyData.depth]; omega) b1
    refine call_repr_slot (by omega) ⟨o, z1, z2⟩ F.slot_list_repr.toG ?_
    simp only [PyData.shown] at q
    obtain ⟨l⟩ := vs
    match l, z3, z4, b2 with
    | [], z3, z4, b2 =>
      have z4 : SwL s.heap [] xs := z4
      cases z4
      simp only [PyData.shownAll, listText_nil] at q
      exact call_list_repr_empty ⟨o, z1, z2⟩ z1 z3 ⟨_, _, rfl, q s.heap _ _ fun _ _ e => e⟩
    | x :: l, z3, _, b2 =>
      exact call_list_reprK z1 z2 z3 na (by have := b2.length_eq; simpa using this) (fun i y e => b2.item i y (by simpa using e)) gd (fun b _ => Clear.nil b) (by show A.units + 1 + _ < cLine; omega) (fun _ _ e => e) (fun h' u tk hk => ⟨_, _, rfl, q h' u tk hk⟩) hz
  | tup z1 z2 z3 z4 =>
    rename_i o vs n xs
    obtain ⟨as, no⟩ := no
    rw [PyData.shown] at hz
    rw [PyData.showable] at hs
    rw [PyData.depth] at hu
    obtain ⟨bs, b1, b2⟩ := SwL.shows (P := P) (w := w) z4 hs fun t ht => Nat.le_trans (tupleText_mem_le ht) hz
    have na : a ∉ bs := not_mem_of_deeper no (by simp only [PyData.depth]; omega) b1
    refine call_repr_slot (by omega) ⟨o, z1, z2⟩ F.slot_tuple_repr ?_
    simp only [PyData.shown] at q
    exact call_tuple_reprK z1 z2 z3 na b2 gd (fun b _ => Clear.nil b) (by show A.units + 1 + _ < cLine; omega) (fun _ _ e => e) (fun h' u tk hk => ⟨_, _, rfl, q h' u tk hk⟩) hz
  | dic z1 z2 z3 z4 =>
    obtain ⟨as, no⟩ := no
    have no2 : Reads s.heap (.ref a) (.dict []) (a :: [] ++ []) := .dict (kvs := []) z1 z2 z3 .nil .nil
    refine repr_of_reads' no2 hs (fun _ z => ?_) gd hu (fun _ _ e => e) q hz
    rw [List.append_nil, List.mem_singleton] at z
    rw [z, beq_self_eq_true] at z4
    cases z4
end
end DL

set_option Elab.async false
set_option linter.all false
set_option maxRecDepth 100000
set_option maxHeartbeats 1000000
/-! repr over data -/
namespace DL
open PySem PySem.Spec PyProof.Rows L2
mutual
/-- a value as the library's data, an empty dict too -/
inductive De (K : PySem.W.Frag) (H : Hp) : V → PyData → Prop
  | non : De K H .non .none
  | bl (b : Bool) : De K H (.bl b) (.bool b)
  | int (i : Int) : De K H (.int i) (.int i)
  | str (x : Str) : De K H (.str x) (.str x)
  | lst {a : Addr} {xs : List V} {ds : List PyData} : SqL K H a xs → DeL K H xs ds → De K H (.ref a) (.list ds)
  | tup {a : Addr} {xs : List V} {ds : List PyData} : SqT K H a xs → DeL K H xs ds → De K H (.ref a) (.tuple ds)
  | dic {a : Addr} : Rd H a (.dK []) → De K H (.ref a) (.dict [])
inductive DeL (K : PySem.W.Frag) (H : Hp) : List V → List PyData → Prop
  | nil : DeL K H [] []
  | cons {v : V} {vs : List V} {d : PyData} {ds : List PyData} : De K H v d → DeL K H vs ds → DeL K H (v :: vs) (d :: ds)
end
section
variable {X : Cx} {pins : List (Addr × Obj)} {σ : L2.St} {H : Hp} {s : Shared}
mutual
theorem De.sw (I : Inv X pins σ H s) : ∀ {v : V} {d : PyData} {u : Value}, De X.K H v d → RelV v u → Sw s.heap u d
  | _, _, _, .non, r => by cases r; exact .non
  | _, _, _, .bl b, r => by cases r; exact .bl b
  | _, _, _, .int i, r => by obtain ⟨t, rfl⟩ := r; exact .int i t
  | _, _, _, .str x, r => by obtain ⟨t, rfl⟩ := r; exact .str x t
  | _, _, _, .lst z1 z2, r => by
    cases r
    obtain ⟨its, rv, ⟨o, n, ho, hc, _, hd⟩, _⟩ := I.list z1
    exact .lst ho hc hd (DeL.sw I z2 rv)
  | _, _, _, .tup z1 z2, r => by
    cases r
    obtain ⟨its, rv, ⟨o, ho, hc, n, hd⟩, _⟩ := I.tuple z1
    exact .tup ho hc hd (DeL.sw I z2 rv)
  | _, _, _, .dic z1, r => by
    cases r
    obtain ⟨_, z2, vs, z3, o, es, ep, z4, z5, z6, z7, z8, _⟩ := dk_rd I.hok z1
    cases z3
    have e0 : es = #[] := by
      have := z8.length
      rw [List.length_nil] at this
      exact Array.eq_empty_of_size_eq_zero (by rw [← Array.length_toList]; exact this)
    subst e0
    exact .dic z4 z5.1 z6 z2
theorem DeL.sw (I : Inv X pins σ H s) : ∀ {v : List V} {d : List PyData} {u : List Value}, DeL X.K H v d → Vals v u → SwL s.heap u d
  | _, _, _, .nil, r => by cases r; exact .nil
  | _, _, _, .cons a b, r => by
    cases r with
    | cons r1 r2 => exact .cons (De.sw I a r1) (DeL.sw I b r2)
end
end
/-- repr(e) -/
def rReprE (K : PySem.W.Frag) : List V → Hp → VK → Prop := fun xs H Q => (∃ i : Int, xs = [.int i] ∧ i.natAbs.log2 < 1920 ∧ Q (.str (toString i)) H) ∨ ∃ (a : Addr) (p : PyData), xs = [.ref a] ∧ De K H (.ref a) p ∧ p.showable = true ∧ p.depth ≤ 50 ∧ p.shown.length ≤ sizeLine ∧ Q (.str p.shown) H
theorem call_reprE {X : Cx} (K : PySem.W.Frag) (gd : X.A.guards = some []) (hu : X.A.units + 64 < cLine) (h : X.K = K := by rfl) : CallR X (.builtin "repr") (rReprE K) := by
  subst h
  intro pins s σ H xs us Q I r h
  rcases h with ⟨i, rfl, hz, q⟩ | ⟨a, p, rfl, hd, hs, hdp, hz, q⟩
  · obtain ⟨u, rfl, t, rfl⟩ := vals1 r
    exact PySem.P.repr_of_int hz ⟨.str _, H, I.tok _, ⟨_, rfl⟩, q⟩
  · obtain ⟨u, rfl, rx⟩ := vals1 r
    have sw := De.sw I hd rx
    cases rx
    exact sw_repr sw hs gd (by omega) hz fun h' t tk hk => ⟨.str _, H, I.kept hk, ⟨_, rfl⟩, q⟩
mutual
def toPyE : D → Option PyData
  | .non => some .none | .bl b => some (.bool b) | .int i => some (.int i) | .str x => some (.str x)
  | .lst xs => (toPyEL xs).map .list | .tup xs => (toPyEL xs).map .tuple
  | .dic kvs => if kvs.isEmpty then some (.dict []) else none
  | _ => none
def toPyEL : List D → Option (List PyData)
  | [] => some []
  | x :: r => match toPyE x, toPyEL r with | some a, some b => some (a :: b) | _, _ => none
end
mutual
theorem toPyE_de {K : PySem.W.Frag} {G : Hp} : ∀ {v : V} {d : D} {p : PyData}, Rep K G v d → toPyE d = some p → De K G v p
  | _, _, _, .non, h => by cases h; exact .non
  | _, _, _, .bl b, h => by cases h; exact .bl b
  | _, _, _, .int b, h => by cases h; exact .int b
  | _, _, _, .str b, h => by cases h; exact .str b
  | _, _, _, .lst (ds := ds) s r, h => by
    cases e : toPyEL ds with
    | none => rw [toPyE, e] at h; cases h
    | some l => rw [toPyE, e] at h; cases h; exact .lst s (toPyEL_de r e)
  | _, _, _, .tup (ds := ds) s r, h => by
    cases e : toPyEL ds with
    | none => rw [toPyE, e] at h; cases h
    | some l => rw [toPyE, e] at h; cases h; exact .tup s (toPyEL_de r e)
  | _, _, _, .dic (ds := ds) z r, h => by
    cases r with
    | nil => cases h; exact .dic z
    | cons a b => cases h
  | _, _, _, .obj _ _, h => by cases h
  | _, _, _, .raw _, h => by cases h
theorem toPyEL_de {K : PySem.W.Frag} {G : Hp} : ∀ {v : List V} {d : List D} {p : List PyData}, RepL K G v d → toPyEL d = some p → DeL K G v p
  | _, _, _, .nil, h => by cases h; exact .nil
  | _, _, _, .cons (d := d) (ds := ds) a b, h => by
    cases e1 : toPyE d with
    | none => rw [toPyEL, e1] at h; cases h
    | some x =>
      cases e2 : toPyEL ds with
      | none => rw [toPyEL, e1, e2] at h; cases h
      | some l => rw [toPyEL, e1, e2] at h; cases h; exact .cons (toPyE_de a e1) (toPyEL_de b e2)
end
section
variable {K : PySem.W.Frag} {M : Mem} {Q : D → Mem → Prop} {d : D}
/-- data whose repr is told, and what it tells -/
def Shw (d : D) (p : PyData) : Prop := toPyE d = some p ∧ p.showable = true ∧ p.depth ≤ 50 ∧ p.shown.length ≤ 1000000
theorem dc_reprE {p : PyData} (hs : isSeq d = true) (h : Shw d p) (q : Q (.str p.shown) M) : DC K (rReprE K) [d] M Q := fun F H vs m r QV k => by
  obtain ⟨v, rfl, r1⟩ := vs1 r
  clear r
  obtain ⟨hp, sh, dp, z⟩ := h
  have hd := toPyE_de (r1.mono vis_le) hp
  have z2 : p.shown.length ≤ sizeLine := by rw [sizeLine_eq]; omega
  cases r1 <;> first | (cases hs; done) | exact .inr ⟨_, p, rfl, hd, sh, dp, z2, k _ M _ H q (Go.refl m) (.str _)⟩
theorem dc_reprI {i : Int} (h : i.natAbs.log2 < 1920 ∧ Q (.str (toString i)) M) : DC K (rReprE K) [.int i] M Q := fun F H vs m r QV k => by
  obtain ⟨v, rfl, r1⟩ := vs1 r
  cases r1
  exact .inl ⟨i, rfl, h.1, k _ M _ H h.2 (Go.refl m) (.str _)⟩
end
end DL

set_option Elab.async false
set_option linter.all false
set_option maxRecDepth 100000
set_option maxHeartbeats 1000000
/-! == and != by an own __eq__, str of an own object, f-strings -/
namespace DLM
open PySem PySem.Spec PyProof.Rows PySem.W
section
variable {prog : Program} {w : World} {A : Around} {E : Value → Shared → Prop} {s : Shared} {K : Frag} {x C f L : Addr} {ox : Obj} {od : Option Obj} {b tb : Value} {h₀ : Heap} {m : Str → Option Value}
theorem ne_entry {Q : Fin → Shared → Prop} (hu : A.units < cLine) (X : K.In s.heap) (I : InstAt s.heap x ox C od) (he : findIn K (.ref C) "__eq__" = some (some (.ref f))) (hf : isFn K (.ref f) = true)
    (h : wpAny (model prog w) A (call (.ref f) [.ref x, b]) (fun v s' => ∃ k, v = .bool k ∧ Q (.done (.ret (.bool (!k)))) s') E s) : wpAny (model prog w) A (Builtin.«object.__ne__» ⟨[.ref x, b], []⟩) Q E s := by
  unfold Builtin.«object.__ne__»
  repeat (first
    | with_reducible refine wpAny_cRoomFor hu ?_
    | (refine wpAny_bind (m := callSpecialIfBound? (.ref x) (Str.ofString "__eq__") [b]) (ifBound_K X I he hf (wpAny_mono h (fun r s' hr => by
          obtain ⟨k, rfl, hq⟩ := hr
          repeat (first | exact hq | exact wpAny_pure hq | exact wpAny_truthy_bool hq | (refine wpAny_bind (m := truthy (.bool _)) (wpAny_truthy_bool ?_)) | wp_step)) fun _ _ e => e)))
    | wp_step)
theorem ne_bound {M : Model} {args : List Value} {Q : Option Value → Shared → Prop} (X : K.In s.heap) (I : InstAt s.heap x ox C od) (hs : findIn K (.ref C) "__ne__" = some (some (.builtin "object.__ne__")))
    (h : wpAny M A (call (.builtin "object.__ne__") (.ref x :: args)) (fun v => Q (some v)) E s) : wpAny M A (callSpecialIfBound? (.ref x) "__ne__" args) Q E s := by
  simp only [callSpecialIfBound?, bindSpecialIfBound?]
  refine wpAny_holding (wpAny_bind (wpAny_bind (wpAny_bind (I.type.here ((looks_findIn X hs).here ?_)))))
  refine wpAny_bind (wpAny_askSetting (wpAny_ite ?_))
  have last : wpAny M A (call (.builtin "object.__ne__") ([.ref x] ++ args) >>= fun v => pure (some v)) Q E s := wpAny_bind (wpAny_mono h (fun v s' z => wpAny_pure z) fun _ _ z => z)
  split
  · exact wpAny_bind (wpAny_of_eq (F.cmp_object.ne.bind _) (wpAny_pure last))
  · exact wpAny_tryCatch (wpAny_bind (wpAny_of_eq (F.cmp_object.ne.bind _) (wpAny_pure last)))
theorem ne_own {Q : Value → Shared → Prop} (hu : A.units + 1 < cLine) (X : K.In s.heap) (I : InstAt s.heap x ox C od) (hb : Looks (model prog w) s.heap (typeOf b) tb) (hn : notFirst K C tb = true)
    (hs : findIn K (.ref C) "__ne__" = some (some (.builtin "object.__ne__"))) (hm : mroIn K C (.type "object") = some true) (he : findIn K (.ref C) "__eq__" = some (some (.ref f))) (hf : isFn K (.ref f) = true)
    (h : wpAny (model prog w) A.in1 (call (.ref f) [.ref x, b]) (fun v s' => ∃ k, v = .bool k ∧ Q (.bool (!k)) s') E s) : wpAny (model prog w) A (richCompare .NotEq (.ref x) b) Q E s := by
  have one : wpAny (model prog w) A (tryCompare (.ref x) "__ne__" b) (fun r s' => ∃ v, r = some v ∧ Q v s') E s := by
    unfold tryCompare
    refine wpAny_bind (ne_bound X I hs (wpAny_call (codeAny_call_builtin F.cmp_object.ne.plain F.cmpEntry_ne (check_slot F.cmpKind_ne F.cmpSplit_ne (I.type.andThen (looks_mroIn X hm)) (F.cmpArgs_ne _ _) (ne_entry (A := A.in1) hu X I he hf (wpAny_mono h (fun v s' z => ?_) fun _ _ z => z))))))
    obtain ⟨k, rfl, q⟩ := z
    first | exact ⟨k, rfl, wpAny_pure ⟨_, rfl, q⟩⟩ | exact ⟨k, rfl, wpAny_pure (wpAny_pure ⟨_, rfl, q⟩)⟩
  unfold richCompare
  simp only [oneThing_ref]
  refine wpAny_holding (wpAny_bind (wpAny_cRoomFor (Nat.lt_of_succ_lt hu) ?_))
  rw [cmpInfo_NotEq]
  dsimp only
  refine wpAny_bind (I.type.here (wpAny_bind (hb.here ?_)))
  split
  · rename_i q
    have e : subIn K tb (.ref C) = some false := by
      rcases Bool.or_eq_true_iff.mp hn with e | e
      · rw [beq_iff_eq.mp e] at q; simp at q
      · exact beq_iff_eq.mp e
    refine wpAny_bind ((looks_subIn X e).here ?_)
    simp only [Bool.false_eq_true, if_false]
    refine wpAny_bind (wpAny_mono one (fun r s' z => ?_) fun _ _ e => e)
    obtain ⟨v, rfl, hq⟩ := z
    exact wpAny_pure hq
  · refine wpAny_bind (wpAny_pure ?_)
    simp only [Bool.false_eq_true, if_false]
    refine wpAny_bind (wpAny_mono one (fun r s' z => ?_) fun _ _ e => e)
    obtain ⟨v, rfl, hq⟩ := z
    exact wpAny_pure hq
end
end DLM
namespace DL
open PySem PySem.Spec PyProof.Rows L2
section
variable {X : Cx} {P : Program} {w : World} {K : PySem.W.Frag} {mg : Str → Option Value} {base : Heap} {C : Addr} {k : Nat} {ps : List Str} {p : PT0}
/-- .. called elsewhere in the same frames -/
theorem run_at {A : Around} {f : Addr} {fd : FuncData} {pins : List (Addr × Obj)} {σ : Sg} {H : Hp} {s : Shared} {Q : VK} {us : List Value} {vs : List V} (F : FnG X.prog X.w X.K X.mg X.base k f fd ps p) (hr : Room k A) (gd : A.guards = some []) (e0 : Env0 X.prog X.w X.K X.mg X.base A X.stack s H) (hb : Binds X.K fd ps []) (I : Inv X pins σ H s) (rel : Vals vs us) (hp : spD X.K p vs H Q E0) :
    wpAny (model X.prog X.w) A (call (.ref f) us) (EP X pins σ Q) X.xe s := by
  have hl : (us ++ ([] : List Value)).length = ps.length := by rw [List.append_nil, ← rel.length, spD_len F.len hp]
  have bt := hb s us I.kIn hl
  rw [List.append_nil] at bt
  refine wpAny_call (codeAny_mono (F.run A X.stack s H ⟨us, []⟩ us vs Q hr gd e0 bt rel hp) fun r s2 hq => ?_)
  obtain ⟨u, rfl, q⟩ := back_of (E := X.xe) I hq
  exact q
/-- what stands on the other side: of a built-in type that is no C's, or another C -/
def Oth (K : PySem.W.Frag) (C : Addr) (H : Hp) (y : V) : Prop := (∃ T, TyX K H y (.type T) ∧ PySem.W.subIn K (.type T) (.ref C) = some false) ∨ ∃ b dy gs, y = .ref b ∧ H b = some (.ins C dy gs)
theorem oth_ty {pins : List (Addr × Obj)} {σ : Sg} {H : Hp} {s : Shared} {y : V} {u : Value} (I : Inv X pins σ H s) (r : RelV y u) (o : Oth X.K C H y) : ∃ tb, PySem.W.Looks (model X.prog X.w) s.heap (typeOf u) tb ∧ PySem.W.notFirst X.K C tb = true := by
  rcases o with ⟨T, t, n⟩ | ⟨b, dy, gs, rfl, e⟩
  · obtain ⟨Ph, kx, hP, _⟩ := kit_of I r t
    exact ⟨_, kx.ty _ _ I.kIn hP, by unfold PySem.W.notFirst; rw [n]; simp⟩
  · cases r
    obtain ⟨mA, J, _⟩ := ins_get I.hok e
    obtain ⟨od, J, _⟩ := J.look
    exact ⟨_, J.type, by unfold PySem.W.notFirst; simp⟩
def rEqO (K : PySem.W.Frag) (sp : Sp) (neg : Bool) (C : Addr) : R2 := fun x y H Q => ∃ a dx fs, x = .ref a ∧ H a = some (.ins C dx fs) ∧ Oth K C H y ∧ sp [x, y] H (fun v H' => ∃ b, v = .bl b ∧ Q (.bl (if neg then !b else b)) H') E0
theorem op_eqO (h : Dm P w K mg base k C "__eq__" ps p) (hr : Room (k + 1) X.A) (gd : X.A.guards = some []) (hX : Is X P w K mg base := by exact ⟨rfl, rfl, rfl, rfl, rfl⟩) : OpR X (compareOp .Eq) (rEqO K (spD K p) false C) := by
  obtain ⟨rfl, rfl, rfl, rfl, rfl⟩ := hX
  obtain ⟨f, fd, G, hm, b⟩ := h.ex
  intro pins s σ H x y v u Q I rx ry hq
  obtain ⟨a, dx, fs, rfl, ea, ot, hsp⟩ := hq
  cases rx
  obtain ⟨mA, J, _⟩ := ins_get I.hok ea
  obtain ⟨od, J, _⟩ := J.look
  obtain ⟨m', hF⟩ := I.fr
  obtain ⟨tb, l1, l2⟩ := oth_ty I ry ot
  show wpAny _ _ (richCompare .Eq (.ref a) u) _ _ _
  refine PySem.W.cmp_K (op := .Eq) hr.units0 hF I.ok.mod.kin J l1 l2 hm.at_ hm.fn (thn (run_at (us := [.ref a, u]) (vs := [V.ref a, y]) G (hr.mono (Nat.le_succ _)) gd I.env0 b I (.cons rfl (.cons ry .nil)) hsp) fun z s1 ⟨zv, H1, I1, rz, k, ek, q⟩ => ?_)
  subst ek
  cases rz
  exact ⟨.bl _, H1, I1, rfl, q⟩
/-- the class's == is its own, its != is not -/
structure NeC (K : PySem.W.Frag) (C : Addr) : Prop where
  ne : PySem.W.findIn K (.ref C) "__ne__" = some (some (.builtin "object.__ne__"))
  ob : PySem.W.mroIn K C (.type "object") = some true
theorem op_neO (h : Dm P w K mg base k C "__eq__" ps p) (n : NeC K C) (hr : Room (k + 1) X.A) (gd : X.A.guards = some []) (hX : Is X P w K mg base := by exact ⟨rfl, rfl, rfl, rfl, rfl⟩) : OpR X (compareOp .NotEq) (rEqO K (spD K p) true C) := by
  obtain ⟨rfl, rfl, rfl, rfl, rfl⟩ := hX
  obtain ⟨f, fd, G, hm, b⟩ := h.ex
  intro pins s σ H x y v u Q I rx ry hq
  obtain ⟨a, dx, fs, rfl, ea, ot, hsp⟩ := hq
  cases rx
  obtain ⟨mA, J, _⟩ := ins_get I.hok ea
  obtain ⟨od, J, _⟩ := J.look
  obtain ⟨tb, l1, l2⟩ := oth_ty I ry ot
  show wpAny _ _ (richCompare .NotEq (.ref a) u) _ _ _
  refine DLM.ne_own (by have := hr.units; omega) I.kIn J l1 l2 n.ne n.ob hm.at_ hm.fn (thn (run_at (us := [.ref a, u]) (vs := [V.ref a, y]) G hr.in1 gd I.env0.in1 b I (.cons rfl (.cons ry .nil)) hsp) fun z s1 ⟨zv, H1, I1, rz, k, ek, q⟩ => ?_)
  subst ek
  cases rz
  exact ⟨_, rfl, .bl _, H1, I1, rfl, q⟩
/-- str(o), o's class has its own __str__ -/
def rStrO (sp : Sp) (C : Addr) : List V → Hp → VK → Prop := fun xs H Q => ∃ a dx fs, xs = [.ref a] ∧ H a = some (.ins C dx fs) ∧ sp xs H (fun v H' => ∃ y, v = .str y ∧ Q v H') E0
theorem call_strO (h : Dm P w K mg base k C "__str__" ps p) (hr : Room (k + 2) X.A) (gd : X.A.guards = some []) (hX : Is X P w K mg base := by exact ⟨rfl, rfl, rfl, rfl, rfl⟩) : CallR X (.type "str") (rStrO (spD K p) C) := by
  obtain ⟨rfl, rfl, rfl, rfl, rfl⟩ := hX
  obtain ⟨f, fd, G, hm, b⟩ := h.ex
  intro pins s σ H xs us Q I r hq
  obtain ⟨a, dx, fs, rfl, ea, hsp⟩ := hq
  obtain ⟨u, rfl, rx⟩ := vals1 r
  cases rx
  obtain ⟨mA, J, _⟩ := ins_get I.hok ea
  obtain ⟨od, J, _⟩ := J.look
  refine PySem.W.kso_call (by have := hr.units; show X.A.units + 1 + 1 < _; omega) I.kIn J hm.at_ hm.fn (wpAny_mono (run_at (us := [.ref a]) (vs := [V.ref a]) G hr.in1.in1 gd I.env0.in1.in1 b I (.cons rfl .nil) hsp) (fun z s1 hz => ?_) fun _ _ z => z)
  obtain ⟨zv, H1, I1, rz, y, rfl, q⟩ := hz
  obtain ⟨t, rfl⟩ := rz
  exact ⟨.str y, H1, I1, ⟨t, rfl⟩, q⟩
end
section
variable {K : PySem.W.Frag} {M : Mem} {Q : D → Mem → Prop} {d e : D} {C : Addr}
theorem no_ref (C : Addr) : ∀ l : List String, (l.map Value.type).contains (.ref C) = false
  | [] => rfl
  | x :: r => by
    rw [List.map_cons, List.contains_cons, no_ref C r, Bool.or_false]
    exact beq_eq_false_iff_ne.mpr fun e => nomatch e
theorem sub_mk {T : String} {l : List String} (h : fastBuiltinMro T = some (l.map Value.type)) : PySem.W.subIn K (.type T) (.ref C) = some false := by
  have e := no_ref C l
  unfold PySem.W.subIn
  simp only [h, Option.map_some, e]
theorem noSub {T : String} (h : tyD d = some T) : PySem.W.subIn K (.type T) (.ref C) = some false := by
  cases d with
  | non => cases h; exact sub_mk (l := ["NoneType", "object"]) (by decide +kernel)
  | bl _ => cases h; exact sub_mk (l := ["bool", "int", "object"]) (by decide +kernel)
  | int _ => cases h; exact sub_mk (l := ["int", "object"]) (by decide +kernel)
  | str _ => cases h; exact sub_mk (l := ["str", "object"]) (by decide +kernel)
  | lst _ => cases h; exact sub_mk (l := ["list", "object"]) (by decide +kernel)
  | tup _ => cases h; exact sub_mk (l := ["tuple", "object"]) (by decide +kernel)
  | dic _ => cases h; exact sub_mk (l := ["dict", "object"]) (by decide +kernel)
  | _ => cases h
theorem dr_eqO {p : PT0} {fs : List (Str × D)} {neg : Bool} (ho : (∃ T, tyD e = some T) ∨ ∃ gs, e = .obj C gs) (h : p [.obj C fs, e] M fun r M1 => ∃ b, r = .bl b ∧ Q (.bl (if neg then !b else b)) M1) : DR K (rEqO K (spD K p) neg C) (.obj C fs) e M Q := fun F H v u m a b QV k => by
  have a0 := a
  have b0 := b
  cases a with
  | @obj ad _ dx xs _ ea r =>
    refine ⟨ad, dx, xs, rfl, vis_le _ _ ea, ?_, F, M, [.obj C fs, e], _, .cons a0 (.cons b0 .nil), m, h, fun r M1 v1 H1 hq g1 r1 => ?_⟩
    · rcases ho with ⟨T, hT⟩ | ⟨gs, rfl⟩
      · exact .inl ⟨T, tyX_of b0 hT, noSub hT⟩
      · cases b0 with
        | @obj bd _ dy ys _ eb _ => exact .inr ⟨bd, dy, ys, rfl, vis_le _ _ eb⟩
    · obtain ⟨bb, rfl, q⟩ := hq
      cases r1
      exact ⟨bb, rfl, k _ M1 _ H1 q g1 (.bl _)⟩
theorem dc_strO {p : PT0} {fs : List (Str × D)} (h : p [.obj C fs] M fun r M1 => ∃ y, r = .str y ∧ Q r M1) : DC K (rStrO (spD K p) C) [.obj C fs] M Q := fun F H vs m r QV k => by
  obtain ⟨v, rfl, r1⟩ := vs1 r
  have r0 := r1
  cases r1 with
  | @obj ad _ dx xs _ ea rr =>
    refine ⟨ad, dx, xs, rfl, vis_le _ _ ea, F, M, [.obj C fs], _, .cons r0 .nil, m, h, fun r M1 v1 H1 hq g1 r1 => ?_⟩
    obtain ⟨y, rfl, q⟩ := hq
    cases r1
    exact ⟨y, rfl, k _ M1 _ H1 q g1 (.str _)⟩
end
/-! f-strings -/
section
variable {K : PySem.W.Frag} {δ : En} {M : Mem} {Q : D → Mem → Prop} {te : TE} {ts : List TE}
theorem de_fmt (h : DE K te δ M fun d M1 => (∃ y, d = .str y ∧ y.length ≤ sizeLine ∧ Q (.str y) M1) ∨ ∃ i : Int, d = .int i ∧ i.natAbs.log2 < 1920 ∧ Q (.str (toString i)) M1) : DE K (tFmt te) δ M Q := fun F σ H en m QV k => by
  refine h F σ H en m _ fun d M1 v H1 z g1 r1 => ?_
  rcases z with ⟨y, rfl, l, q⟩ | ⟨i, rfl, l, q⟩
  · cases r1; exact .inl ⟨y, rfl, l, k _ M1 _ H1 q g1 (.str _)⟩
  · cases r1; exact .inr ⟨i, rfl, l, k _ M1 _ H1 q g1 (.str _)⟩
def DJ (K : PySem.W.Frag) (ts : List TE) (acc : Str) (δ : En) (M : Mem) (Q : Str → Mem → Prop) : Prop :=
  ∀ (F : Fm) (σ : Sg) (H : Hp), EnvR K (vis H M F) σ δ → MOk K F M H → ∀ QV : Str → Hp → Prop, (∀ y M' H', Q y M' → Go K F M H M' H' → QV y H') → tJs ts acc σ H QV
theorem dj_nil {acc : Str} {Q : Str → Mem → Prop} (h : Q acc M) : DJ K [] acc δ M Q := fun F σ H en m QV k => k acc M H h (Go.refl m)
theorem dj_cons {acc : Str} {Q : Str → Mem → Prop} (h : DE K te δ M fun d M1 => ∃ y, d = .str y ∧ (acc ++ y).length ≤ sizeLine ∧ DJ K ts (acc ++ y) δ M1 Q) : DJ K (te :: ts) acc δ M Q := fun F σ H en m QV k => by
  refine h F σ H en m _ fun d M1 v H1 z g1 r1 => ?_
  obtain ⟨y, rfl, l, q⟩ := z
  cases r1
  exact ⟨y, rfl, l, q F σ H1 (en.mono g1.ex) g1.ok _ fun y M2 H2 q2 g2 => k y M2 H2 q2 (g1.trans g2)⟩
theorem de_joined (h : DJ K ts Str.empty δ M fun y M1 => Q (.str y) M1) : DE K (fun σ H Q => tJs ts Str.empty σ H fun out H1 => Q (.str out) H1) δ M Q := fun F σ H en m QV k => h F σ H en m _ fun y M1 H1 q g => k _ M1 _ H1 q g (.str _)
end
end DL

set_option Elab.async false
set_option linter.all false
set_option maxRecDepth 100000
set_option maxHeartbeats 1000000
/-! len(set(t)), t a tuple of ints; a dict of one pair -/
namespace DL
open PySem PySem.Spec PyProof.Rows L2
section
variable {X : Cx}
def tLenSetT (K : PySem.W.Frag) (ta : TE) : TE := fun σ H Q => ta σ H fun x H1 => ∃ (l : Addr) (ns : List Int), x = .ref l ∧ SqT K H1 l (ns.map V.int) ∧ ns.length ≤ 1000 ∧ ∀ L : List Int, L.Nodup → (∀ k, k ∈ L ↔ k ∈ ns) → Q (.int (L.length : Nat)) H1
theorem pe_lenSetTK (K : PySem.W.Frag) {a : Expr} {ta : TE} {p p2 q pos : Pos} (hg : Gl X "len") (hm : X.mg "len" = none) (hg2 : Gl X "set") (hm2 : X.mg "set" = none) (ha : PE X a ta) (hc : X.calm = true := by rfl) (hK : X.K = K := by rfl)
    (na : starEach [a] X.env = (false, eval a X.env) :: starEach [] X.env := by rfl) : PE X (.Call (.Name "len" p) [.Call (.Name "set" p2) [a] [] q] [] pos) (tLenSetT K ta) := by
  subst hK
  refine ⟨fun pins s σ H Q I h => Call_ (ld_blt I hg hm boot_len (PyProof.Rows.callWith_builtin1 (PyProof.Rows.args_cons ?_ rfl) rfl rfl))⟩
  refine Call_ (ld_blt I hg2 hm2 boot_set (PyProof.Rows.callWith_type1 (PyProof.Rows.args_cons (thn (ha.run pins s σ H _ I h) fun v s1 z => PyProof.Rows.args_nil ?_) na) na rfl))
  obtain ⟨x, H1, I1, r1, l, ns, rfl, hq, hl, q1⟩ := z
  cases r1
  obtain ⟨its, rv, pl, hz⟩ := I1.tuple hq
  refine call_set_tupI ns (I1.ok.hd hc) pl (by simpa using ints_of_vals rv) (by unfold scanBound; omega) fun g tk c R lc old => PyProof.Rows.args_nil ?_
  obtain ⟨o, es, ep, t, ho, hex, hd, ge, nd, mem, sb, hf, hn, _⟩ := R
  have I2 : Inv X pins σ H1 { s1 with heap := g, toks := tk } := I1.kept old
  refine call_len_set ho hex hd hf (by rw [hn]; omega) ⟨.int ((es.toList.map keyOf).length : Nat), H1, I2.tok _, ⟨_, by rw [List.length_map, Array.length_toList]⟩, q1 _ nd fun k => ?_⟩
  rw [← mem k]
  exact decide_eq_true_iff
end
section
variable {K : PySem.W.Frag} {δ : En} {M : Mem} {Q : D → Mem → Prop} {te : TE}
theorem de_lenSetT (h : DE K te δ M fun d M1 => ∃ l : List Nat, d = .tup (nL l) ∧ l.length ≤ 1000 ∧ ∀ L : List Nat, L.Nodup → (∀ k, k ∈ L ↔ k ∈ l) → Q (.int (L.length : Nat)) M1) : DE K (tLenSetT K te) δ M Q := fun F σ H en m QV k => by
  refine h F σ H en m _ fun d M1 v H1 z g1 r1 => ?_
  obtain ⟨l, rfl, few, q⟩ := z
  have e0 : nL l = (iL l).map D.int := by unfold nL iL; rw [List.map_map]; rfl
  cases r1 with
  | tup s r =>
    rw [e0] at r
    obtain rfl := RepL.of_ints r
    refine ⟨_, iL l, rfl, sqt_mono vis_le s, by unfold iL; rw [List.length_map]; exact few, fun L nd mm => ?_⟩
    have pos : ∀ k, k ∈ L → ∃ a : Nat, k = (a : Int) := fun k hk => by
      have := (mm k).mp hk
      unfold iL at this
      obtain ⟨a, _, rfl⟩ := List.mem_map.mp this
      exact ⟨a, rfl⟩
    have q2 := q (L.map Int.toNat) (by
      refine List.pairwise_map.mpr (List.Pairwise.imp_of_mem ?_ nd)
      intro a b ha hb hne e
      obtain ⟨a, rfl⟩ := pos a ha
      obtain ⟨b, rfl⟩ := pos b hb
      exact hne (by rw [Int.toNat_natCast, Int.toNat_natCast] at e; rw [e])) (fun k => by
      constructor
      · intro hk
        obtain ⟨z, hz, rfl⟩ := List.mem_map.mp hk
        have := (mm z).mp hz
        unfold iL at this
        obtain ⟨a, ha, rfl⟩ := List.mem_map.mp this
        rw [Int.toNat_natCast]; exact ha
      · intro hk
        exact List.mem_map.mpr ⟨(k : Int), (mm k).mpr (by unfold iL; exact List.mem_map.mpr ⟨k, hk, rfl⟩), Int.toNat_natCast k⟩)
    rw [List.length_map] at q2
    exact k _ M1 _ _ q2 g1 (.int _)
/-- {i: j} -/
theorem de_disp1 {i j : Int} (q : Q (.dic [(.inl i, .int j)]) M) : DE K (tDisp [(tC (.int i), tC (.int j))]) δ M Q := fun F σ H en m QV k => fun p hp => by
  refine ⟨upd_same, [(.inl i, .int j)], rfl, by show 1 ≤ 15; decide, ?_⟩
  have e : upd (upd H p (.dK [])) p (.dK (mergeK [] [(Sum.inl i, V.int j)])) = upd H p (.dK [(Sum.inl i, V.int j)]) := by
    funext b
    by_cases hb : b = p
    · subst hb; rw [upd_same, upd_same]; rfl
    · rw [upd_ne hb, upd_ne hb, upd_ne hb]
  rw [e]
  obtain ⟨g2, e2⟩ := go_new (o := .dK [(Sum.inl i, V.int j)]) m hp
  exact k _ M _ _ q g2 (.dic (.inl e2) (.cons (.int j) .nil))
end
end DL

set_option Elab.async false
set_option linter.all false
set_option maxRecDepth 100000
set_option maxHeartbeats 1000000
/-! isinstance with an own class -/
namespace DL
open PySem PySem.Spec PyProof.Rows L2
theorem pe_clsV {X : Cx} {K : PySem.W.Frag} {mg : Str → Option Value} {x : Str} {C : Addr} {pos : Pos} (h : Kc K mg x C) (hg : Gl X x) (hm : X.mg = mg := by rfl) (hd : (x == ("__debug__" : Str)) = false := by decide) : PE X (.Name x pos) (tC (.ref C)) := by
  subst hm
  exact pe_glob hg h.g rfl hd
structure IsiC (K : PySem.W.Frag) (C : Addr) : Prop where
  ic : (PySem.W.clsIn K C).isSome = true
  ty : PySem.W.typeIn K (.ref C) = some (.type "type")
structure IsiO (K : PySem.W.Frag) (C : Addr) : Prop extends IsiC K C where
  cl : Cls K C
  ha : PySem.W.findIn K (.ref C) "__class__" = some (some (.builtin "object.__class__"))
  hn : PySem.W.specialIn K (.builtin "object.__class__") "__get__" = some (some (.builtin "getset_descriptor.__get__"))
  tk : PySem.W.takesIn K (.builtin "object.__class__") = some true
  ob : PySem.W.mroIn K C (.type "object") = some true
section
variable {K : PySem.W.Frag} {M : Mem} {Q : D → Mem → Prop} {d : D} {C : Addr}
theorem dc_isOn {T : String} (c : IsiC K C) (h : tyD d = some T) (q : Q (.bl false) M) : DC K (rIsi K) [d, .raw (.ref C)] M Q := fun F H vs m r QV k => by
  cases r with
  | cons a r =>
    cases r with
    | cons b r =>
      cases r
      cases b
      refine ⟨_, _, .type T, .ref C, false, rfl, .own C, tyX_of a h, ?_, k _ M _ H q (Go.refl m) (.bl _)⟩
      have e1 : ((PySem.W.clsIn K C).isSome && PySem.W.typeIn K (.ref C) == some (.type "type")) = true := by rw [c.ic, c.ty]; simp
      unfold PySem.W.kitOne PySem.W.kitCls
      rw [if_neg (by simp)]
      show (if _ then _ else _) = _
      rw [if_pos e1]
      exact noSub h
theorem dc_isOy {fs : List (Str × D)} (c : IsiO K C) (q : Q (.bl true) M) : DC K (rIsi K) [.obj C fs, .raw (.ref C)] M Q := fun F H vs m r QV k => by
  cases r with
  | cons a r =>
    cases r with
    | cons b r =>
      cases r
      cases b
      cases a with
      | @obj ad _ dx xs _ ea rr =>
        refine ⟨_, _, .ref C, .ref C, true, rfl, .own C, .base (.ins (vis_le _ _ ea) c.cl c.ha c.hn c.tk c.ob), ?_, k _ M _ H q (Go.refl m) (.bl _)⟩
        unfold PySem.W.kitOne
        rw [if_pos (by simp)]
end
end DL

set_option Elab.async false
set_option linter.all false
set_option maxRecDepth 100000
set_option maxHeartbeats 3200000
/-! sets of texts made of a list or a tuple; x in a list of data; three names at once -/
namespace DL
open PySem PySem.Spec PyProof.Rows L2
section
variable {prog : Program} {w : World} {A : Around} {Z : Type} [DecidableEq Z] {knd : PySem.KeyKind prog w Z}
/-- the set at a holds just the first i of xs -/
def Holds (knd : PySem.KeyKind prog w Z) (xs : List Z) (a : Addr) (h : Heap) (i : Nat) : Prop := ∃ L : List Z, L.Nodup ∧ L.length ≤ i ∧ (∀ z, z ∈ L ↔ z ∈ xs.take i) ∧ h.SetOf knd a (fun z => decide (z ∈ L)) L.length
theorem Holds.keep {xs : List Z} {a : Addr} {h h' : Heap} {i : Nat} (x : Holds knd xs a h i) (k : ∀ o, h.get? a = some o → h'.get? a = some o) : Holds knd xs a h' i := by
  obtain ⟨L, nd, le, m, o, es, ep, t, ho, r⟩ := x
  exact ⟨L, nd, le, m, o, es, ep, t, k o ho, r⟩
theorem Holds.more {xs : List Z} {a : Addr} {h' : Heap} {i : Nat} {x : Z} {L : List Z} (hx : xs[i]? = some x) (nd : L.Nodup) (le : L.length ≤ i) (m : ∀ z, z ∈ L ↔ z ∈ xs.take i)
    (S : h'.SetOf knd a (fun z => decide (z ∈ L) || decide (z = x)) (if decide (x ∈ L) then L.length else L.length + 1)) : Holds knd xs a h' (i + 1) := by
  have e : ∀ z, z ∈ xs.take (i + 1) ↔ z ∈ xs.take i ∨ z = x := fun z => by
    rw [List.take_add_one, hx, List.mem_append]; simp
  by_cases c : x ∈ L
  · refine ⟨L, nd, Nat.le_succ_of_le le, fun z => by rw [e z, ← m z]; exact ⟨.inl, fun q => q.elim id fun q => q ▸ c⟩, PyProof.Rows.SetOf_congr S (fun z => ?_) (by rw [if_pos (decide_eq_true c)])⟩
    by_cases hz : z = x
    · subst hz; simp [c]
    · simp [hz]
  · refine ⟨x :: L, List.nodup_cons.mpr ⟨c, nd⟩, Nat.succ_le_succ le, fun z => by rw [e z, ← m z, List.mem_cons, or_comm], PyProof.Rows.SetOf_congr S (fun z => ?_) (by rw [if_neg (by simp [c])]; rfl)⟩
    by_cases hz : z = x <;> simp [hz]
/-- a turn of the loop is its body -/
theorem into_loop {a I : Addr} {R : Result → Shared → Prop} {s : Shared} (h : wpAny (model prog w) A.in1 (Builtin.«set.update.loop» ⟨[.ref a, .ref I], []⟩) (fun f s' => match f with | .done r => R (.ok r) s' | .again c => c.quiet = true ∧ codeAny (model prog w) A c R s') (fun e s' => R (.error e) s') s) :
    codeAny (model prog w) A (.builtin "set.update.loop" ⟨[.ref a, .ref I], []⟩) R s :=
  codeAny_builtin PyProof.Rows.F.entry_set_update_loop (by rw [Around.under_plainId PyProof.Rows.F.plain_set_update_loop _]; exact h)
/-- the loop that fills a set -/
theorem fill_loop {I a : Addr} {fp wr : List Addr} {G : Array GenState → Array GenState → Prop} {n : Nat} {Pv : Nat → Value → Prop} {St : Nat → Shared → Prop} {R : Result → Shared → Prop} {xs : List Z}
    (W : WalksS prog w A.in1 I fp wr G n Pv St) (out : a ∉ fp) (hn : xs.length = n) (fits : n + 1 < scanBound) (item : ∀ i v, Pv i v → ∃ x, xs[i]? = some x ∧ knd.is x v = true ∧ v.scannable = true) (left : Nat) :
    ∀ (i : Nat) (s : Shared), i + left = n → St i s → Holds knd xs a s.heap i → (∀ s', Moved (a :: wr) G s s' → Holds knd xs a s'.heap n → R (.ok (.ret .none)) s') → codeAny (model prog w) A (.builtin "set.update.loop" ⟨[.ref a, .ref I], []⟩) R s := by
  have aw : a ∉ wr := fun z => out (W.sub _ z)
  have wide : ∀ b ∈ wr, b ∈ a :: wr := fun b z => List.mem_cons_of_mem _ z
  induction left with
  | zero =>
    intro i s e st hs hR
    obtain rfl : i = n := e
    refine into_loop ?_
    exact wpAny_bind (W.done s _ _ st fun s' mv => wpAny_pure (hR s' (mv.mono wide) (hs.keep fun o ho => mv.heap a o aw ho)))
  | succ left ih =>
    intro i s e st hs hR
    refine into_loop (wpAny_bind (W.item i s _ _ (by omega) st fun v s' pv st' mv => ?_))
    obtain ⟨x, hx, iv, sc⟩ := item i v pv
    obtain ⟨L, nd, le, mm, so⟩ := hs.keep fun o ho => mv.heap a o aw ho
    show wpAny _ A.in1 (holding [v] (setAdd a v) >>= _) _ _ s'
    refine wpAny_bind (wpAny_holding ?_); unfold setAdd
    refine wpAny_holding (wpAny_bind (knd.pyHash iv ?_))
    refine wpAny_setAddHashed_of (knd := knd) (s := { s' with toks := s'.toks + 1 }) iv sc so (by omega) fun h2 sb so2 => ?_
    have same : ∀ b, b ≠ a → ∀ o, s'.heap.get? b = some o → h2.get? b = some o := fun b ne o ho => (sb.2 b ne).trans ho
    refine wpAny_pure ⟨plainId_quiet PyProof.Rows.F.plain_set_update_loop _, ih (i + 1) _ (by omega) (W.frame _ s' _ _ st' (Nat.le_succ _) fun b hb o ho => same b (fun z => out (z ▸ hb)) o ho) (Holds.more hx nd le mm so2) fun s3 mv3 hs3 => hR s3 (Moved.trans W.gtrans ((mv.mono wide).then_heap (Nat.le_succ _) fun b o hb ho => same b (fun z => hb (z ▸ List.mem_cons_self)) o ho) mv3) hs3⟩

variable {E : Value → Shared → Prop} {s : Shared}
abbrev setAt (led : Bool) : Obj := { cls := .type "set", dict := none, data := .set #[] 0 (.fresh 0 0 led) }
/-- set(l), l a list or a tuple -/
theorem call_set_of {l : Addr} {its : Array Value} {xs : List Z} {Q : Value → Shared → Prop} (hh : A.handled = none) (hl : s.heap.IsList l its ∨ s.heap.IsTuple l its) (sz : xs.length = its.size) (fits : its.size + 1 < scanBound)
    (item : ∀ (i : Nat) (v : Value), its[i]? = some v → ∃ x, xs[i]? = some x ∧ knd.is x v = true ∧ v.scannable = true)
    (h : ∀ (h' : Heap) (tk : Nat), Holds knd xs s.heap.objs.size h' its.size → (∀ b o, s.heap.get? b = some o → h'.get? b = some o) → Q (.ref s.heap.objs.size) { s with heap := h', toks := tk }) : wpAny (model prog w) A (call (.type "set") [.ref l]) Q E s := by
  generalize hS : s.heap.objs.size = S at h
  have lt : l < S := by rcases hl with ⟨o, q, _⟩ | ⟨o, q, _⟩ <;> (rw [← hS]; exact Heap.lt_size q)
  obtain ⟨_, _, mro⟩ := PySem.F.called_set.mro
  have made := PySem.F.called_set.made
  have sub := PySem.F.called_set.sub
  have nt := PySem.F.called_set.notType
  have cc := PySem.F.called_set.canCreate
  have ct := PySem.F.typeCall_set_1 (.ref l)
  refine wpAny_call (codeAny_of_tree (show wpAny _ _ (callAny (.type "set") _) _ _ _ from wpAny_pure ⟨Code.quiet_builtin _ (by decide +kernel), codeAny_builtin PySem.F.entry_type_call ?_⟩))
  rw [Around.under_plain (weight_type_call_type "set" [.ref l] []) rfl]; repeat any_goals (first | assumption | wp_step)
  refine codeAny_mono (code_set_new_1 (.ref l) (E := E) (Q₁ := fun obj s₁ => ∃ led : Bool, obj = .ref S ∧ s₁ = { s with heap := s.heap.push (setAt led) }) fun led => ⟨led, by rw [← hS], rfl⟩) fun r s₁ hr => ?_
  match r, hr with
  | .error e, hr => exact hr
  | .ok .next, hr => exact hr.elim
  | .ok .brk, hr => exact hr.elim
  | .ok .cont, hr => exact hr.elim
  | .ok (.ret obj), hr =>
    obtain ⟨led, rfl, rfl⟩ := hr
    generalize hP : s.heap.push (setAt led) = hp
    have at_ : hp.get? S = some (setAt led) := by rw [← hP, ← hS]; exact Heap.get?_push_size _ rfl
    have kept : ∀ b o, s.heap.get? b = some o → hp.get? b = some o := fun b o q => by rw [← hP]; exact Heap.get?_push_of_some _ q
    have szP : hp.objs.size = S + 1 := by rw [← hP, ← hS, Heap.size_push]
    have ty : Shared.TypeIs { s with heap := hp } (.ref S) "set" := ⟨_, at_, rfl⟩
    have li := PySem.F.called_set.init.lookup
    have bi := PySem.F.called_set.init.bind (.ref S)
    repeat any_goals (first | assumption | wp_step)
    let Done : Value → Shared → Prop := fun r s2 => r = .none ∧ ∃ h' tk, s2 = { s with heap := h', toks := tk } ∧ Holds knd xs S h' its.size ∧ ∀ b o, s.heap.get? b = some o → h'.get? b = some o
    refine codeAny_mono (codeAny_call_builtin (R := wants Done E) PySem.F.called_set.init.plain PySem.F.entry_set_init (check_set_init_1 ty ?_)) fun r2 s2 hr2 => ?_
    · have fin : ∀ (it : Addr) (g : Heap) (tk : Nat), it = hp.objs.size → ∀ s', Moved [S, it] (fun a b => b = a) { s with heap := g, toks := tk } s' → (∀ b o, hp.get? b = some o → g.get? b = some o) → Holds knd xs S s'.heap its.size → Done .none s' := fun it g tk hit s' mv kp hs => by
        obtain ⟨h2, g2, d2, t2, o2⟩ := s'
        obtain rfl : g2 = s.gens := mv.gens
        obtain rfl : d2 = s.drawn := mv.drawn
        obtain rfl : o2 = s.os := mv.os
        refine ⟨rfl, h2, t2, rfl, hs, fun b o q => mv.heap b o ?_ (kp b o (kept b o q))⟩
        have := Heap.lt_size q
        rw [hS] at this
        simp only [List.mem_cons, List.mem_singleton, List.not_mem_nil, or_false, not_or]
        exact ⟨Nat.ne_of_lt this, by rw [hit, szP]; exact Nat.ne_of_lt (Nat.lt_succ_of_lt this)⟩
      have start : ∀ ob, Holds knd xs S (hp.push ob) 0 := fun ob => ⟨[], List.nodup_nil, Nat.le_refl _, fun z => by simp, PyProof.Rows.SetOf_congr ((PyProof.Rows.setObjOf_fresh (knd := knd) led).setOf (Heap.get?_push_of_some _ at_) (by unfold scanBound; omega)) (fun _ => rfl) rfl⟩
      rcases hl with hl | hl
      · obtain ⟨⟨oc, od, odt, osl⟩, q0, q1, nl, q2⟩ := hl
        obtain rfl : oc = .type "list" := q1
        obtain rfl : odt = .seq its nl := q2
        have lat := kept _ _ q0
        have f1 := PySem.F.sub_list_set
        have f2 := PySem.F.sub_list_frozenset
        have f3 : (Value.type "list" == Value.type "dict") = false := by decide
        have il : hp.IsList l its := ⟨_, lat, rfl, nl, rfl⟩
        unfold Builtin.«set.__init__» noKeywords Builtin.Frozenset.updateFrom; generalize hIt : pyIter = PI
        wp_walk
        subst hIt
        refine wpAny_pyIter_list il (wpAny_bind (wpAny_runValue ?_))
        refine fill_loop (knd := knd) ((Walks.list (by simp [hh]) _ l (by rw [szP]; exact Nat.ne_of_lt (Nat.lt_succ_of_lt lt)) its).toS) (by rw [szP]; simp only [List.mem_cons, List.mem_singleton, List.not_mem_nil, or_false, not_or]; exact ⟨Nat.ne_of_lt (Nat.lt_succ_self _), Nat.ne_of_gt lt⟩) sz fits item its.size 0 _ (by omega)
          ⟨⟨_, Heap.get?_push_size _ rfl, rfl, rfl⟩, il.push _⟩ (start _) fun s' mv hs => ?_
        show wpAny _ _ _ _ _ _
        refine wpAny_pure (show wpAny _ _ (ret Value.none) _ _ _ from ?_)
        exact wpAny_pure (fin _ _ _ rfl s' mv (fun b o q => Heap.get?_push_of_some _ q) hs)
      · obtain ⟨⟨oc, od, odt, osl⟩, q0, q1, nl, q2⟩ := hl
        obtain rfl : oc = .type "tuple" := q1
        obtain rfl : odt = .seq its nl := q2
        have lat := kept _ _ q0
        have f1 := PySem.F.sub_tuple_set
        have f2 := PySem.F.sub_tuple_frozenset
        have f3 : (Value.type "tuple" == Value.type "dict") = false := by decide
        have il : hp.IsTuple l its := ⟨_, lat, rfl, nl, rfl⟩
        unfold Builtin.«set.__init__» noKeywords Builtin.Frozenset.updateFrom; generalize hIt : pyIter = PI
        wp_walk
        subst hIt
        refine wpAny_pyIter_tuple il (wpAny_bind (wpAny_runValue ?_))
        refine fill_loop (knd := knd) ((Walks.tuple (by simp [hh]) _ l (by rw [szP]; exact Nat.ne_of_lt (Nat.lt_succ_of_lt lt)) its).toS) (by rw [szP]; simp only [List.mem_cons, List.mem_singleton, List.not_mem_nil, or_false, not_or]; exact ⟨Nat.ne_of_lt (Nat.lt_succ_self _), Nat.ne_of_gt lt⟩) sz fits item its.size 0 _ (by omega)
          ⟨⟨_, Heap.get?_push_size _ rfl, rfl, rfl⟩, il.push _⟩ (start _) fun s' mv hs => ?_
        show wpAny _ _ _ _ _ _
        refine wpAny_pure (show wpAny _ _ (ret Value.none) _ _ _ from ?_)
        exact wpAny_pure (fin _ _ _ rfl s' mv (fun b o q => Heap.get?_push_of_some _ q) hs)
    · match r2, hr2 with
      | .error e, hr2 => exact hr2
      | .ok .next, hr2 => exact hr2.elim
      | .ok .brk, hr2 => exact hr2.elim
      | .ok .cont, hr2 => exact hr2.elim
      | .ok (.ret r), hr2 =>
        obtain ⟨rfl, h', tk, rfl, hs, kp⟩ := hr2
        repeat any_goals (first | assumption | wp_step)
        exact h _ _ hs kp
end
end DL

set_option Elab.async false
set_option linter.all false
set_option maxRecDepth 100000
set_option maxHeartbeats 1000000
namespace DL
open PySem PySem.Spec PyProof.Rows L2
section
variable {X : Cx}
/-- len(set(l)), l a list or a tuple of texts -/
def tLenSetS (K : PySem.W.Frag) (ta : TE) : TE := fun σ H Q => ta σ H fun x H1 => ∃ (l : Addr) (ys : List Str), x = .ref l ∧ (SqL K H1 l (ys.map V.str) ∨ SqT K H1 l (ys.map V.str)) ∧ ys.length ≤ 1000 ∧ ∀ L : List Str, L.Nodup → (∀ k, k ∈ L ↔ k ∈ ys) → Q (.int (L.length : Nat)) H1
theorem strItem {w : World} {P : Program} {us : List Value} {ys : List Str} (h : StrsAre us ys) (i : Nat) (v : Value) (hv : us.toArray[i]? = some v) : ∃ x, ys[i]? = some x ∧ (PySem.strKind P w).is x v = true ∧ v.scannable = true := by
  rw [List.getElem?_toArray] at hv
  obtain ⟨t, rfl⟩ := SS.strs_at h i v hv
  have lt : i < ys.length := by
    have := (List.getElem?_eq_some_iff.mp hv).1
    rwa [StrsAre.len_eq h] at this
  refine ⟨ys.getD i Str.empty, ?_, strKind_is _ _ _ _, rfl⟩
  rw [List.getD_eq_getElem?_getD, List.getElem?_eq_getElem lt]; rfl
theorem pe_lenSetSK (K : PySem.W.Frag) {a : Expr} {ta : TE} {p p2 q pos : Pos} (hg : Gl X "len") (hm : X.mg "len" = none) (hg2 : Gl X "set") (hm2 : X.mg "set" = none) (ha : PE X a ta) (hc : X.calm = true := by rfl) (hK : X.K = K := by rfl)
    (na : starEach [a] X.env = (false, eval a X.env) :: starEach [] X.env := by rfl) : PE X (.Call (.Name "len" p) [.Call (.Name "set" p2) [a] [] q] [] pos) (tLenSetS K ta) := by
  subst hK
  refine ⟨fun pins s σ H Q I h => Call_ (ld_blt I hg hm boot_len (PyProof.Rows.callWith_builtin1 (PyProof.Rows.args_cons ?_ rfl) rfl rfl))⟩
  refine Call_ (ld_blt I hg2 hm2 boot_set (PyProof.Rows.callWith_type1 (PyProof.Rows.args_cons (thn (ha.run pins s σ H _ I h) fun v s1 z => PyProof.Rows.args_nil ?_) na) na rfl))
  obtain ⟨x, H1, I1, r1, l, ys, rfl, hq, few, q1⟩ := z
  cases r1
  have go : ∀ (its : List Value), Vals (ys.map V.str) its → (s1.heap.IsList l its.toArray ∨ s1.heap.IsTuple l its.toArray) → wpAny (model X.prog X.w) X.A (call (.type "set") [.ref l]) (fun v2 s2 => wpAny (model X.prog X.w) X.A (spliced (backTo pos (starEach [] X.env))) (fun vs s₂ => wpAny (model X.prog X.w) X.A (call (.builtin "len") (v2 :: vs)) (EP X pins σ Q) X.xe s₂) X.xe s2) X.xe s1 := fun its r il => by
    have sa := strsAre_of r
    have sz : ys.length = its.toArray.size := by rw [List.size_toArray, StrsAre.len_eq sa]
    refine call_set_of (knd := PySem.strKind X.prog X.w) (I1.ok.hd hc) il sz (by rw [← sz]; unfold scanBound; omega) (strItem sa) fun g tk R old => PyProof.Rows.args_nil ?_
    obtain ⟨L, nd, _, mm, o, es, ep, t, ho, hex, hd, _, _, sb, hf, hn⟩ := R
    have I2 : Inv X pins σ H1 { s1 with heap := g, toks := tk } := I1.kept old
    rw [← sz, List.take_length] at mm
    exact call_len_set ho hex hd hf (by unfold scanBound at sb; omega) ⟨.int (L.length : Nat), H1, I2.tok _, ⟨_, by rw [hn]⟩, q1 _ nd mm⟩
  rcases hq with hq | hq
  · obtain ⟨its, r, pl, hz⟩ := I1.list hq
    exact go its r (.inl pl.isList)
  · obtain ⟨its, r, pl, hz⟩ := I1.tuple hq
    exact go its r (.inr pl)
end
section
variable {K : PySem.W.Frag} {δ : En} {M : Mem} {Q : D → Mem → Prop} {te : TE}
theorem de_lenSetS (h : DE K te δ M fun d M1 => ∃ l : List Str, (d = .tup (l.map D.str) ∨ d = .lst (l.map D.str)) ∧ l.length ≤ 1000 ∧ ∀ L : List Str, L.Nodup → (∀ k, k ∈ L ↔ k ∈ l) → Q (.int (L.length : Nat)) M1) : DE K (tLenSetS K te) δ M Q := fun F σ H en m QV k => by
  refine h F σ H en m _ fun d M1 v H1 z g1 r1 => ?_
  obtain ⟨l, hd, few, q⟩ := z
  rcases hd with rfl | rfl
  · cases r1 with
    | tup s r =>
      obtain rfl := RepL.of_strs r
      exact ⟨_, l, rfl, .inr (sqt_mono vis_le s), few, fun L nd mm => k _ M1 _ H1 (q L nd mm) g1 (.int _)⟩
  · cases r1 with
    | lst s r =>
      obtain rfl := RepL.of_strs r
      exact ⟨_, l, rfl, .inl (vis_le.seq s), few, fun L nd mm => k _ M1 _ H1 (q L nd mm) g1 (.int _)⟩
end
/-! ### any data among texts -/
end DL
namespace DLM
open PySem PySem.Spec PyProof.Rows PySem.SeqAt PySem.MeetsSeq PySem.SeqRoads2
theorem dict_declines_str (l : Addr) (es : Array DictEntry) (ep : Nat) (dd : Option Addr) (sl : Array (Option Value)) (b : Str) (u : Tok) : Meets (Builtin.«dict.__eq__» ⟨[.ref l, .str b u], []⟩) (fun _ R s => s.heap.get? l = some { cls := .type "dict", dict := dd, data := .dict es ep, slots := sl } ∧ R (.ok (.ret .notImplemented)) s) := .of_wp fun prog w A R s h => by
  obtain ⟨hp, g, d, tk, os⟩ := s
  obtain ⟨hl, h⟩ := h
  have f1 := F.sub_str_dict
  wp_walk using wpAny_load hl
  exact ⟨_, rfl, h⟩
theorem str_declines_dict (b : Str) (u : Tok) (l : Addr) (es : Array DictEntry) (ep : Nat) (dd : Option Addr) (sl : Array (Option Value)) : Meets (Builtin.«str.__eq__» ⟨[.str b u, .ref l], []⟩) (fun _ R s => s.heap.get? l = some { cls := .type "dict", dict := dd, data := .dict es ep, slots := sl } ∧ R (.ok (.ret .notImplemented)) s) := .of_wp fun prog w A R s h => by
  obtain ⟨hp, g, d, tk, os⟩ := s
  obtain ⟨hl, h⟩ := h
  wp_walk using wpAny_load hl
  exact ⟨_, rfl, h⟩
theorem eqAt_str_dict {A : Around} {s : Shared} {l : Addr} {o : Obj} {n : Nat} (b : Str) (u : Tok) (ho : s.heap.get? l = some o) (hc : o.cls = .type "dict") (hd : o.data = .dict #[] n) (hu : A.units < cLine) : EqAt A s (.str b u) (.ref l) false := fun prog w E Q h => by
  obtain ⟨oc, od, odt, osl⟩ := o
  obtain rfl : oc = .type "dict" := hc
  obtain rfl : odt = .dict #[] n := hd
  unfold eqBool
  refine wpAny_holding (wpAny_ite_split (fun e => absurd (eq_of_beq e) nofun) fun _ => wpAny_bind ?_)
  refine rc_eq_decline_or (k := false) (typeIs_str s b u) ⟨_, ho, rfl⟩ (by decide) F.sub_dict_str F.slot_str_eq F.slot_dict_eq_refl
    (fun _ q => call_meets F.slot_str_eq (typeIs_str s b u) F.entry_str_eq (F.args_str_eq_2 _ _) (str_declines_dict b u l _ _ _ _) ⟨ho, q⟩)
    (fun _ q => call_meets F.slot_dict_eq_refl ⟨_, ho, rfl⟩ F.entry_dict_eq (F.args_dict_eq_2 _ _) (dict_declines_str l _ _ _ _ b u) ⟨ho, q⟩)
    (fun _ q => wpAny_of_eq (rfl : isSame (.str b u) (.ref l) = pure false) q) (.inr hu) (wpAny_truthy_bool h)
theorem eqAt_str_sw {A : Around} {s : Shared} {v : Value} {p : PyData} (r : DL.Sw s.heap v p) (hu : A.units < cLine) (b : Str) (u : Tok) : EqAt A s (.str b u) v (PyData.eqv (.str b) p) := by
  cases r with
  | non => rw [PyData.eqv] <;> first | exact EqAt.str_none b u | (intros; nofun)
  | bl c => rw [PyData.eqv] <;> first | exact EqAt.str_bool b u c | (intros; nofun)
  | int i t => rw [PyData.eqv] <;> first | exact EqAt.str_int b u i t | (intros; nofun)
  | str x t => rw [PyData.eqv] <;> first | exact EqAt.str_str b u x t | (intros; nofun)
  | @lst a o vs n xs ho hc hd _ => rw [PyData.eqv] <;> first | exact EqAt.str_list b u ⟨o, ho, hc, n, hd⟩ hu | (intros; nofun)
  | @tup a o vs n xs ho hc hd _ => rw [PyData.eqv] <;> first | exact EqAt.str_tuple b u ⟨o, ho, hc, n, hd⟩ hu | (intros; nofun)
  | dic ho hc hd _ => rw [PyData.eqv] <;> first | exact eqAt_str_dict b u ho hc hd hu | (intros; nofun)
end DLM
namespace DL
open PySem PySem.Spec PyProof.Rows L2
theorem swL_strs {h : Heap} : ∀ {vs : List Value} {ys : List Str}, SwL h vs (ys.map PyData.str) → ∀ (p : PyData) (e : Value → Bool), (∀ b u, e (.str b u) = PyData.eqv (.str b) p) → (vs.any e = ys.any fun y => PyData.eqv (.str y) p) ∧ ∀ y, y ∈ vs → ∃ b u, y = .str b u
  | [], [], _, p, e, he => ⟨rfl, fun _ z => by cases z⟩
  | v :: vs, y :: ys, h, p, e, he => by
    cases h with
    | cons a b =>
      cases a with
      | str x t =>
        obtain ⟨e1, e2⟩ := swL_strs b p e he
        refine ⟨by rw [List.any_cons, List.any_cons, e1, he], fun z hz => ?_⟩
        rcases List.mem_cons.mp hz with rfl | hz
        · exact ⟨_, _, rfl⟩
        · exact e2 z hz
section
variable {X : Cx}
def rInS (K : PySem.W.Frag) (neg : Bool) : R2 := fun x y H Q => ∃ (p : PyData) (ys : List Str), De K H x p ∧ (De K H y (.list (ys.map PyData.str)) ∨ De K H y (.tuple (ys.map PyData.str))) ∧ Q (.bl (if neg then !ys.any fun y => PyData.eqv (.str y) p else ys.any fun y => PyData.eqv (.str y) p)) H
theorem in_strs {pins : List (Addr × Obj)} {σ : L2.St} {H : Hp} {s : Shared} {x y : V} {v u : Value} {Q : VK} {neg : Bool} (hu : X.A.units + 65 < cLine) (I : Inv X pins σ H s) (rx : RelV x v) (ry : RelV y u) (h : rInS X.K neg x y H Q) :
    wpAny (model X.prog X.w) X.A (compareOp (if neg then .NotIn else .In) v u) (EP X pins σ Q) X.xe s := by
  obtain ⟨p, ys, hd, he, q⟩ := h
  have sw := De.sw I hd rx
  let e : Value → Bool := fun z => match z with | .str b _ => PyData.eqv (.str b) p | _ => false
  have at_ : ∀ vs : List Value, (∀ z, z ∈ vs → ∃ b u, z = .str b u) → ∀ z, z ∈ vs.toArray → SeqAt.EqAt X.A.in1 s z v (e z) := fun vs hv z hz => by
    obtain ⟨b, t, rfl⟩ := hv z (by simpa using hz)
    exact DLM.eqAt_str_sw sw (by show X.A.in1.units < cLine; have : X.A.in1.units ≤ X.A.units + 1 := Nat.le_refl _; omega) b t
  have fin : ∀ b : Bool, b = (ys.any fun y => PyData.eqv (.str y) p) → EP X pins σ Q (.bool (if neg then !b else b)) s := fun b hb => ⟨.bl _, H, I, rfl, by rw [hb]; exact q⟩
  rcases he with he | he
  · have sy := De.sw I he ry
    cases sy with
    | @lst a o vs n xs ho hc hd2 hl =>
      obtain ⟨e1, e2⟩ := swL_strs hl p e fun _ _ => rfl
      have e3 : vs.any e = ys.any fun y => PyData.eqv (.str y) p := by rw [← e1, Array.any_toList]
      have a3 : ∀ z, z ∈ vs → SeqAt.EqAt X.A.in1 s z v (e z) := fun z hz => at_ vs.toList e2 z (by simpa using hz)
      cases neg
      · exact SeqAt.in_listAt e ⟨o, ho, hc, n, hd2⟩ a3 (fin _ e3)
      · exact SeqAt.notIn_listAt e ⟨o, ho, hc, n, hd2⟩ a3 (fin _ e3)
  · have sy := De.sw I he ry
    cases sy with
    | @tup a o vs n xs ho hc hd2 hl =>
      obtain ⟨e1, e2⟩ := swL_strs hl p e fun _ _ => rfl
      have e3 : vs.any e = ys.any fun y => PyData.eqv (.str y) p := by rw [← e1, Array.any_toList]
      have a3 : ∀ z, z ∈ vs → SeqAt.EqAt X.A.in1 s z v (e z) := fun z hz => at_ vs.toList e2 z (by simpa using hz)
      cases neg
      · exact SeqAt.in_tupleAt e ⟨o, ho, hc, n, hd2⟩ a3 (fin _ e3)
      · exact SeqAt.notIn_tupleAt e ⟨o, ho, hc, n, hd2⟩ a3 (fin _ e3)
theorem op_inSE (K : PySem.W.Frag) (hu : X.A.units + 65 < cLine) (h : X.K = K := by rfl) : OpR X (compareOp .In) (rInS K false) := by
  subst h
  intro pins s σ H x y v u Q I rx ry h
  exact in_strs (neg := false) hu I rx ry h
theorem op_ninSE (K : PySem.W.Frag) (hu : X.A.units + 65 < cLine) (h : X.K = K := by rfl) : OpR X (compareOp .NotIn) (rInS K true) := by
  subst h
  intro pins s σ H x y v u Q I rx ry h
  exact in_strs (neg := true) hu I rx ry h
end
/-- told by the library: no own object, no dict but the empty one -/
def Lay (d : D) : Prop := ∃ p, toPyE d = some p
theorem lay_all : ∀ xs : List D, (∀ x, x ∈ xs → Lay x) → ∃ ps, toPyEL xs = some ps
  | [], _ => ⟨[], rfl⟩
  | x :: r, h => by
    obtain ⟨p, e1⟩ := h x List.mem_cons_self
    obtain ⟨ps, e3⟩ := lay_all r fun y hy => h y (List.mem_cons_of_mem _ hy)
    exact ⟨p :: ps, by rw [toPyEL, e1, e3]⟩
theorem lay_tup {xs : List D} (h : ∀ x, x ∈ xs → Lay x) : Lay (.tup xs) := let ⟨ps, e1⟩ := lay_all xs h; ⟨.tuple ps, by rw [toPyE, e1]; rfl⟩
theorem lay_lst {xs : List D} (h : ∀ x, x ∈ xs → Lay x) : Lay (.lst xs) := let ⟨ps, e1⟩ := lay_all xs h; ⟨.list ps, by rw [toPyE, e1]; rfl⟩
theorem all_lay : ∀ (xs : List D) (ps : List PyData), toPyEL xs = some ps → ∀ x, x ∈ xs → Lay x
  | [], _, _, x, hx => by cases hx
  | y :: r, ps, e, x, hx => by
    rw [toPyEL] at e
    cases e1 : toPyE y with
    | none => rw [e1] at e; cases e
    | some a =>
      cases e2 : toPyEL r with
      | none => rw [e1, e2] at e; cases e
      | some b =>
        rcases List.mem_cons.mp hx with rfl | hx
        · exact ⟨a, e1⟩
        · exact all_lay r b e2 x hx
theorem Lay.tup {xs : List D} (h : Lay (.tup xs)) : ∀ x, x ∈ xs → Lay x := by
  obtain ⟨p, e⟩ := h
  rw [toPyE] at e
  cases e2 : toPyEL xs with
  | none => rw [e2] at e; cases e
  | some b => exact all_lay xs b e2
theorem Lay.lst {xs : List D} (h : Lay (.lst xs)) : ∀ x, x ∈ xs → Lay x := by
  obtain ⟨p, e⟩ := h
  rw [toPyE] at e
  cases e2 : toPyEL xs with
  | none => rw [e2] at e; cases e
  | some b => exact all_lay xs b e2
theorem lay_non : Lay .non := ⟨_, rfl⟩
theorem lay_bl (b : Bool) : Lay (.bl b) := ⟨_, rfl⟩
theorem lay_int (i : Int) : Lay (.int i) := ⟨_, rfl⟩
theorem lay_str (x : Str) : Lay (.str x) := ⟨_, rfl⟩
theorem lay_dic : Lay (.dic []) := ⟨_, rfl⟩
def isIn : D → List Str → Bool
  | .str x, ys => decide (x ∈ ys) | _, _ => false
theorem any_isIn {d : D} {p : PyData} (h : toPyE d = some p) : ∀ ys : List Str, (ys.any fun y => PyData.eqv (.str y) p) = isIn d ys := fun ys => by
  have no : (∀ x, p ≠ .str x) → (ys.any fun y => PyData.eqv (.str y) p) = false := fun hn => by
    rw [List.any_eq_false]
    intro y _
    cases p <;> first | exact absurd rfl (hn _) | simp [PyData.eqv]
  cases d with
  | str x =>
    cases h
    show _ = decide (x ∈ ys)
    induction ys with
    | nil => rfl
    | cons y r ih =>
      rw [List.any_cons, ih (fun hn => absurd rfl (hn x)), PyData.eqv]
      by_cases e : x = y
      · subst e; simp
      · have : (y == x) = false := by rw [beq_eq_false_iff_ne]; exact fun z => e z.symm
        simp [e, this]
  | non => cases h; exact no (fun _ z => by cases z)
  | bl b => cases h; exact no (fun _ z => by cases z)
  | int i => cases h; exact no (fun _ z => by cases z)
  | lst xs => rw [toPyE] at h; cases e : toPyEL xs <;> rw [e] at h <;> cases h; exact no (fun _ z => by cases z)
  | tup xs => rw [toPyE] at h; cases e : toPyEL xs <;> rw [e] at h <;> cases h; exact no (fun _ z => by cases z)
  | dic kvs => rw [toPyE] at h; split at h <;> cases h; exact no (fun _ z => by cases z)
  | obj _ _ => cases h
  | raw _ => cases h
section
variable {K : PySem.W.Frag} {M : Mem} {Q : D → Mem → Prop} {d e : D}
theorem strs_E : ∀ ys : List Str, toPyEL (ys.map D.str) = some (ys.map PyData.str)
  | [] => rfl
  | y :: r => by rw [List.map_cons, toPyEL, strs_E r]; rfl
theorem dr_inSE {neg : Bool} {ys : List Str} (h : Lay d ∧ (e = .lst (ys.map D.str) ∨ e = .tup (ys.map D.str)) ∧ Q (.bl (if neg then !isIn d ys else isIn d ys)) M) : DR K (rInS K neg) d e M Q := fun F H v u m a b QV k => by
  obtain ⟨⟨p, hp⟩, he, q⟩ := h
  refine ⟨p, ys, toPyE_de (a.mono vis_le) hp, ?_, ?_⟩
  · rcases he with rfl | rfl
    · exact .inl (toPyE_de (b.mono vis_le) (by rw [toPyE, strs_E]; rfl))
    · exact .inr (toPyE_de (b.mono vis_le) (by rw [toPyE, strs_E]; rfl))
  · rw [any_isIn hp]
    exact k _ M _ H q (Go.refl m) (.bl _)
/-! ### texts in their order -/
theorem dr_ltS {x y : Str} (q : Q (.bl (decide (x.cps.toList < y.cps.toList))) M) : DR K (fun x y H Q => ∃ i j, x = .str i ∧ y = .str j ∧ Q (.bl (decide (i.cps.toList < j.cps.toList))) H) (.str x) (.str y) M Q := fun F H v u m a b QV k => by
  cases a; cases b
  exact ⟨x, y, rfl, rfl, k _ M _ H q (Go.refl m) (.bl _)⟩
end
/-! ### three names at once -/
section
variable {K : PySem.W.Frag} {δ : En} {M : Mem} {q : DK}
theorem ds_par3 {i j l : Nat} {tr : TA} (h : DA K tr δ M fun ds M1 => ∃ x y z, ds = [x, y, z] ∧ q.nx (((δ.set i (some x)).set j (some y)).set l (some z)) M1) : DS K (tPar3 i j l tr) δ M q := fun F σ H en m E n r b c => by
  refine h F σ H en m _ fun ds M1 vs H1 z g1 r1 => ?_
  obtain ⟨x, y, w, rfl, z⟩ := z
  match r1 with
  | .cons a (.cons b2 (.cons c2 .nil)) => exact ⟨_, _, _, rfl, n _ M1 _ H1 z g1 ((((en.mono g1.ex).set a i).set b2 j).set c2 l)⟩
end
end DL

set_option Elab.async false
set_option linter.all false
set_option maxRecDepth 100000
set_option maxHeartbeats 1000000
/-! ints or texts in their order -/
namespace DL
open PySem PySem.Spec PyProof.Rows L2
def rOrd (f : Int → Int → Bool) (g : List Nat → List Nat → Bool) : R2 := fun x y H Q => (∃ i j : Int, x = .int i ∧ y = .int j ∧ Q (.bl (f i j)) H) ∨ ∃ i j : Str, x = .str i ∧ y = .str j ∧ Q (.bl (g i.cps.toList j.cps.toList)) H
abbrev rLtX : R2 := rOrd (fun i j => decide (i < j)) fun x y => decide (x < y)
section
variable {X : Cx}
theorem op_ltX : OpR X (compareOp .Lt) rLtX := by
  intro pins s σ H x y v u Q I rx ry h
  rcases h with ⟨i, j, rfl, rfl, q⟩ | ⟨i, j, rfl, rfl, q⟩
  · exact op_lt pins s σ H _ _ v u Q I rx ry ⟨i, j, rfl, rfl, q⟩
  · exact op_lt_str pins s σ H _ _ v u Q I rx ry ⟨i, j, rfl, rfl, q⟩
theorem op_geS : OpR X (compareOp .GtE) (fun x y H Q => ∃ i j, x = .str i ∧ y = .str j ∧ Q (.bl (!decide (i.cps.toList < j.cps.toList))) H) := by
  intro pins s σ H x y v u Q I rx ry ⟨i, j, e1, e2, q⟩
  subst e1 e2
  obtain ⟨t, rfl⟩ := rx
  obtain ⟨t', rfl⟩ := ry
  exact PySem.P.ge_str ⟨.bl _, H, I, rfl, by simpa using q⟩
end
section
variable {K : PySem.W.Frag} {M : Mem} {Q : D → Mem → Prop}
theorem dr_ordI {f : Int → Int → Bool} {g : List Nat → List Nat → Bool} {i j : Int} (q : Q (.bl (f i j)) M) : DR K (rOrd f g) (.int i) (.int j) M Q := fun F H v u m a b QV k => by
  cases a; cases b
  exact .inl ⟨i, j, rfl, rfl, k _ M _ H q (Go.refl m) (.bl _)⟩
theorem dr_ordS {f : Int → Int → Bool} {g : List Nat → List Nat → Bool} {x y : Str} (q : Q (.bl (g x.cps.toList y.cps.toList)) M) : DR K (rOrd f g) (.str x) (.str y) M Q := fun F H v u m a b QV k => by
  cases a; cases b
  exact .inr ⟨x, y, rfl, rfl, k _ M _ H q (Go.refl m) (.bl _)⟩
theorem dr_geS {x y : Str} (q : Q (.bl (!decide (x.cps.toList < y.cps.toList))) M) : DR K (fun x y H Q => ∃ i j, x = .str i ∧ y = .str j ∧ Q (.bl (!decide (i.cps.toList < j.cps.toList))) H) (.str x) (.str y) M Q := fun F H v u m a b QV k => by
  cases a; cases b
  exact ⟨x, y, rfl, rfl, k _ M _ H q (Go.refl m) (.bl _)⟩
end
/-! ### a slice of a tuple or a list -/
def rSlE (K : PySem.W.Frag) : V → Option Int → Option Int → Hp → VK → Prop := fun x lo hi H Q => rSlA K x lo hi H Q ∨ rSlL K x lo hi H Q
theorem sl_anyK {X : Cx} (K : PySem.W.Frag) (h : X.K = K := by rfl) : SlR X (rSlE K) := (sl_tupK K h).or (sl_listK K h)
section
variable {K : PySem.W.Frag} {δ : En} {M : Mem} {Q : D → Mem → Prop} {te : TE}
theorem de_slXT {tl th : TO} (h : DE K te δ M fun d M1 => ∃ xs, d = .tup xs ∧ DO K tl δ M1 fun l M2 => DO K th δ M2 fun u M3 => Q (.tup (cutD xs l u)) M3) : DE K (tSl (rSlE K) te tl th) δ M Q := fun F σ H en m QV k => by
  refine h F σ H en m _ fun d M1 v H1 z g1 r => ?_
  obtain ⟨xs, rfl, z⟩ := z
  cases r with
  | @tup a vs _ s r =>
    refine z F σ H1 (en.mono g1.ex) g1.ok _ fun l M2 H2 z2 g2 => ?_
    refine z2 F σ H2 ((en.mono g1.ex).mono g2.ex) g2.ok _ fun u M3 H3 z3 g3 => ?_
    have g := (g1.trans g2).trans g3
    have ex := g2.ex.trans g3.ex
    have s3 := sqt_mono ex s
    have r3 := r.mono ex
    refine .inl ⟨a, vs, rfl, sqt_mono vis_le s3, fun hw => ?_, fun hw p hp => ?_⟩
    · rw [r.length] at hw
      have z4 : Q (.tup (cutD xs l u)) M3 := z3
      rw [cutD_all hw] at z4
      exact k _ M3 _ H3 z4 g (.tup s3 r3)
    · obtain ⟨g4, e⟩ := go_new (o := .tup _) g3.ok hp
      exact k _ M3 _ _ z3 (g.trans g4) (.tup (.inl (.inl e)) ((r3.mono g4.ex).cut l u))
theorem de_slXL {tl th : TO} (h : DE K te δ M fun d M1 => ∃ xs, d = .lst xs ∧ DO K tl δ M1 fun l M2 => DO K th δ M2 fun u M3 => Q (.lst (cutD xs l u)) M3) : DE K (tSl (rSlE K) te tl th) δ M Q := fun F σ H en m QV k => by
  refine h F σ H en m _ fun d M1 v H1 z g1 r => ?_
  obtain ⟨xs, rfl, z⟩ := z
  cases r with
  | @lst a vs _ s r =>
    refine z F σ H1 (en.mono g1.ex) g1.ok _ fun l M2 H2 z2 g2 => ?_
    refine z2 F σ H2 ((en.mono g1.ex).mono g2.ex) g2.ok _ fun u M3 H3 z3 g3 => ?_
    have g := (g1.trans g2).trans g3
    have ex := g2.ex.trans g3.ex
    refine .inr ⟨a, vs, rfl, vis_le.seq (ex.seq s), fun p hp => ?_⟩
    obtain ⟨g4, e⟩ := go_new (o := .lst _) g3.ok hp
    exact k _ M3 _ _ z3 (g.trans g4) (.lst (.inl (.inl e)) (((r.mono ex).mono g4.ex).cut l u))
end
end DL

set_option Elab.async false
set_option linter.all false
set_option maxRecDepth 100000
set_option maxHeartbeats 1000000
/-! [e for x in xs for y in ys], ys by x -/
namespace DL
open PySem PySem.Spec PyProof.Rows L2
section
variable {K : PySem.W.Frag} {δ : En} {M : Mem} {Q : D → Mem → Prop} {te : TE} {tt : TT} {g : TG} {js : List Nat}
theorem flat_le (E : D → List D) (f : D → D → D) (n : Nat) : ∀ l : List D, (∀ d, d ∈ l → (E d).length ≤ n) → (l.flatMap fun d => (E d).map (f d)).length ≤ l.length * n
  | [], _ => Nat.zero_le _
  | x :: r, h => by
    have h1 := h x List.mem_cons_self
    have h2 := flat_le E f n r fun d hd => h d (List.mem_cons_of_mem _ hd)
    rw [List.flatMap_cons, List.length_append, List.length_map, List.length_cons, Nat.succ_mul]
    omega
theorem de_map2V {wi wi1 : TI} {vs vs1 : List Nat} {j j1 : Nat} (hj : j ∈ vs) (hj1 : j1 ∈ vs1) (hv : ∀ i ∈ vs1, i ∈ vs) (h : DI K wi δ M fun ds M1 => ∃ (E : D → List D) (f : D → D → D) (n : Nat), (ds.length + 1) * n < sizeLine ∧ (∀ d, d ∈ ds → (E d).length ≤ n) ∧
      (∀ d, d ∈ ds → DI K wi1 ((wipeD δ vs).set j (some d)) M1 fun es' M4 => M4 = M1 ∧ es' = E d ∧ ∀ e, e ∈ E d → DE K te ((wipeD ((wipeD δ vs).set j (some d)) vs1).set j1 (some e)) M1 fun x M7 => M7 = M1 ∧ x = f d e) ∧
      Q (.lst (ds.flatMap fun d => (E d).map (f d))) M1) : DE K (tLc2 wi (gName j) tYes wi1 (gName j1) tYes te vs vs1) δ M Q := by
  refine de_lc2 (js := [j]) (js1 := [j1]) (fun i hi => List.mem_singleton.mp hi ▸ hj) (fun i hi => List.mem_singleton.mp hi ▸ hj1) hv fun F σ H en m R k => h F σ H en m R fun ds M1 J H1 z => k ds M1 J H1 ?_
  obtain ⟨E, f, n, few, hn, turn, q⟩ := z
  refine ⟨fun i acc => acc = (ds.take i).flatMap fun d => (E d).map (f d), rfl, fun i d acc at_ hacc => dg_name ⟨rfl, dt_yes ⟨rfl, ?_⟩⟩, fun acc hacc => by dsimp only at hacc; rw [hacc, List.take_length]; exact q⟩
  have lt := take_lt at_
  have sz : acc.length ≤ ds.length * n := by
    have := flat_le E f n (ds.take i) fun d hd => hn d (List.mem_of_mem_take hd)
    have : (ds.take i).length * n ≤ ds.length * n := Nat.mul_le_mul_right _ (by rw [List.length_take]; omega)
    rw [show acc = _ from hacc]; omega
  rw [if_pos rfl]
  intro F σ H en m R k
  refine turn d (mem_of_get at_) F σ H en m R fun es' M4 J H1 z => k es' M4 J H1 ?_
  obtain ⟨e4, rfl, he⟩ := z
  have le := hn d (mem_of_get at_)
  refine ⟨e4, fun i2 bcc => bcc = acc ++ ((E d).take i2).map (f d), (List.append_nil acc).symm, fun i2 e bcc at2 hb => dg_name ⟨rfl, dt_yes ⟨rfl, ?_⟩⟩, fun bcc hb => ?_⟩
  · rw [if_pos rfl]
    refine (he e (mem_of_get at2)).imp fun x M7 hx => ⟨hx.1, ?_, ?_⟩
    · have lt2 := take_lt at2
      rw [show bcc = _ from hb, List.length_append, List.length_map, List.length_take]
      rw [Nat.succ_mul] at few
      omega
    · show bcc ++ [x] = _
      rw [show bcc = _ from hb, hx.2, take_snoc at2, List.map_append, List.append_assoc]; rfl
  · show bcc = _
    rw [show bcc = _ from hb, show acc = _ from hacc, List.take_length, take_snoc at_, List.flatMap_append]
    simp
end
end DL

set_option Elab.async false
set_option linter.all false
set_option maxRecDepth 100000
set_option maxHeartbeats 1000000
/-! a list against [], a tuple against (), whatever stands in it -/
namespace DL
open PySem PySem.Spec PyProof.Rows L2
section
variable {X : Cx}
def rNil (K : PySem.W.Frag) (neg : Bool) : R2 := fun x y H Q => ∃ (a b : Addr) (xs : List V), x = .ref a ∧ y = .ref b ∧ ((SqL K H a xs ∧ SqL K H b []) ∨ (SqT K H a xs ∧ SqT K H b [])) ∧ Q (.bl (if neg then !xs.isEmpty else xs.isEmpty)) H
theorem vals_empty {us : List Value} {xs : List V} (r : Vals xs us) : xs.isEmpty = us.isEmpty := by
  cases r <;> rfl
theorem op_eqNil (K : PySem.W.Frag) (hu : X.A.units + 65 < cLine) (h : X.K = K := by rfl) : OpR X (compareOp .Eq) (rNil K false) := by
  subst h
  replace hu : X.A.units < cLine := by omega
  intro pins s σ H x y v u Q I rx ry ⟨a, b, xs, e1, e2, hs, q⟩
  subst e1 e2
  cases rx; cases ry
  rcases hs with ⟨z1, z2⟩ | ⟨z1, z2⟩
  · obtain ⟨as, r1, p1, _⟩ := I.list z1
    obtain ⟨bs, r2, p2, _⟩ := I.list z2
    cases r2
    cases r1 with
    | nil => exact SeqAt.eq_listAt (e := fun _ => true) p1.isList p2.isList rfl hu (fun j h1 _ => absurd h1 (by simp)) ⟨.bl _, H, I, rfl, q⟩
    | cons _ _ => exact SeqAt.eq_list_lengthsAt p1.isList p2.isList (by simp) hu ⟨.bl _, H, I, rfl, q⟩
  · obtain ⟨as, r1, p1, _⟩ := I.tuple z1
    obtain ⟨bs, r2, p2, _⟩ := I.tuple z2
    cases r2
    refine SeqAt.eq_tupleAt (e := fun _ => true) p1 p2 hu (fun j _ h2 => absurd h2 (by simp)) ⟨.bl _, H, I, rfl, ?_⟩
    cases r1 with
    | nil => exact q
    | cons _ _ => exact q
theorem op_neNil (K : PySem.W.Frag) (hu : X.A.units + 65 < cLine) (h : X.K = K := by rfl) : OpR X (compareOp .NotEq) (rNil K true) := by
  subst h
  replace hu : X.A.units < cLine := by omega
  intro pins s σ H x y v u Q I rx ry ⟨a, b, xs, e1, e2, hs, q⟩
  subst e1 e2
  cases rx; cases ry
  rcases hs with ⟨z1, z2⟩ | ⟨z1, z2⟩
  · obtain ⟨as, r1, p1, _⟩ := I.list z1
    obtain ⟨bs, r2, p2, _⟩ := I.list z2
    cases r2
    cases r1 with
    | nil => exact SeqAt.RcNeAt.lists (e := fun _ => true) p1.isList p2.isList rfl hu (fun j h1 _ => absurd h1 (by simp)) X.prog X.w X.xe _ ⟨.bl _, H, I, rfl, q⟩
    | cons _ _ => exact SeqAt.RcNeAt.lists_lengths p1.isList p2.isList (by simp) hu X.prog X.w X.xe _ ⟨.bl _, H, I, rfl, q⟩
  · obtain ⟨as, r1, p1, _⟩ := I.tuple z1
    obtain ⟨bs, r2, p2, _⟩ := I.tuple z2
    cases r2
    refine SeqAt.RcNeAt.tuples (e := fun _ => true) p1 p2 hu (fun j _ h2 => absurd h2 (by simp)) X.prog X.w X.xe _ ⟨.bl _, H, I, rfl, ?_⟩
    cases r1 with
    | nil => exact q
    | cons _ _ => exact q
end
section
variable {K : PySem.W.Frag} {M : Mem} {Q : D → Mem → Prop} {xs : List D}
theorem repL_empty {G : Hp} {vs : List V} {ds : List D} (r : RepL K G vs ds) : vs.isEmpty = ds.isEmpty := by
  cases r <;> rfl
theorem dr_nilL {neg : Bool} (q : Q (.bl (if neg then !xs.isEmpty else xs.isEmpty)) M) : DR K (rNil K neg) (.lst xs) (.lst []) M Q := fun F H v u m a b QV k => by
  cases a with
  | lst s r =>
    cases b with
    | lst s2 r2 =>
      cases r2
      exact ⟨_, _, _, rfl, rfl, .inl ⟨vis_le.seq s, vis_le.seq s2⟩, by rw [repL_empty r]; exact k _ M _ H q (Go.refl m) (.bl _)⟩
theorem dr_nilT {neg : Bool} (q : Q (.bl (if neg then !xs.isEmpty else xs.isEmpty)) M) : DR K (rNil K neg) (.tup xs) (.tup []) M Q := fun F H v u m a b QV k => by
  cases a with
  | tup s r =>
    cases b with
    | tup s2 r2 =>
      cases r2
      exact ⟨_, _, _, rfl, rfl, .inr ⟨sqt_mono vis_le s, sqt_mono vis_le s2⟩, by rw [repL_empty r]; exact k _ M _ H q (Go.refl m) (.bl _)⟩
end
end DL

set_option Elab.async false
set_option linter.all false
set_option maxRecDepth 100000
set_option maxHeartbeats 1000000
/-! a list unpacked into names -/
namespace DL
open PySem PySem.Spec PyProof.Rows L2
theorem pg_unlK {X : Cx} {pos : Pos} (K : PySem.W.Frag) {gs : List Expr} {n : Nat} {kk : Nat} {tt : TGs} (hc : X.calm = true) (hs : PGs X gs tt) (hn : (assignEach gs X.env).length = n := by rfl) (hst : (assignEach gs X.env).findIdx? (·.1) = none := by rfl) (h : X.K = K := by rfl) : PG X (.Tuple gs kk pos) (gUnl K n tt) := by subst h; exact pg_unl hc hs hn hst
theorem dg_unl {K : PySem.W.Frag} {js : List Nat} {gs : TGs} {δ : En} {M : Mem} {G : En → Mem → Prop} {n : Nat} {ds : List D} (hl : ds.length = n) (h : DGs K js gs ds δ M G) : DG K js (gUnl K n gs) (.lst ds) δ M G := fun F σ H v en m r QG k => by
  cases r with
  | lst s r => exact ⟨_, _, rfl, vis_le.seq s, by rw [r.length, hl], h F σ H _ en m r QG k⟩
end DL

set_option Elab.async false
set_option linter.all false
set_option maxRecDepth 100000
set_option maxHeartbeats 1000000
namespace K60
open PySem PySem.Spec PyProof.Rows L2 DL LamX
def topS (i : Nat) : Stmt := PySem.Challenge.pw_handedworld_k60_charts_judged.main.body.getD i (.Pass ⟨0, 0, 0, 0⟩)
abbrev s_is_name : Stmt := topS 3
abbrev N_is_name : List Str := ["value", "letter"]
theorem sc_is_name : FnScope N_is_name ["value"] (defScope s_is_name) := ⟨rfl, rfl, rfl, by decide +kernel, rfl, by decide +kernel, by decide +kernel⟩
abbrev s_is_number : Stmt := topS 4
abbrev N_is_number : List Str := ["value"]
theorem sc_is_number : FnScope N_is_number ["value"] (defScope s_is_number) := ⟨rfl, rfl, rfl, by decide +kernel, rfl, by decide +kernel, by decide +kernel⟩
abbrev s_is_index : Stmt := topS 5
abbrev N_is_index : List Str := ["value", "many"]
theorem sc_is_index : FnScope N_is_index ["value", "many"] (defScope s_is_index) := ⟨rfl, rfl, rfl, by decide +kernel, rfl, by decide +kernel, by decide +kernel⟩
abbrev s_are_names : Stmt := topS 6
abbrev N_are_names : List Str := ["value", "name"]
theorem sc_are_names : FnScope N_are_names ["value"] (defScope s_are_names) := ⟨rfl, rfl, rfl, by decide +kernel, rfl, by decide +kernel, by decide +kernel⟩
abbrev s_are_ascending : Stmt := topS 7
abbrev N_are_ascending : List Str := ["names", "one", "other"]
theorem sc_are_ascending : FnScope N_are_ascending ["names"] (defScope s_are_ascending) := ⟨rfl, rfl, rfl, by decide +kernel, rfl, by decide +kernel, by decide +kernel⟩
abbrev s_are_signals : Stmt := topS 14
abbrev N_are_signals : List Str := ["value"]
theorem sc_are_signals : FnScope N_are_signals ["value"] (defScope s_are_signals) := ⟨rfl, rfl, rfl, by decide +kernel, rfl, by decide +kernel, by decide +kernel⟩
abbrev s_check_modes : Stmt := topS 16
abbrev N_check_modes : List Str := ["modes", "most"]
theorem sc_check_modes : FnScope N_check_modes ["modes", "most"] (defScope s_check_modes) := ⟨rfl, rfl, rfl, by decide +kernel, rfl, by decide +kernel, by decide +kernel⟩
abbrev s_is_unwinds : Stmt := topS 21
abbrev N_is_unwinds : List Str := ["modes", "points", "value", "pair"]
theorem sc_is_unwinds : FnScope N_is_unwinds ["modes", "points", "value"] (defScope s_is_unwinds) := ⟨rfl, rfl, rfl, by decide +kernel, rfl, by decide +kernel, by decide +kernel⟩
abbrev s_are_answers : Stmt := topS 22
abbrev N_are_answers : List Str := ["modes", "signals", "names", "points", "value", "answer"]
theorem sc_are_answers : FnScope N_are_answers ["modes", "signals", "names", "points", "value"] (defScope s_are_answers) := ⟨rfl, rfl, rfl, by decide +kernel, rfl, by decide +kernel, by decide +kernel⟩
abbrev s_is_move : Stmt := topS 23
abbrev N_is_move : List Str := ["modes", "signals", "names", "points", "value"]
theorem sc_is_move : FnScope N_is_move ["modes", "signals", "names", "points", "value"] (defScope s_is_move) := ⟨rfl, rfl, rfl, by decide +kernel, rfl, by decide +kernel, by decide +kernel⟩
abbrev s_has_row_form : Stmt := topS 24
abbrev N_has_row_form : List Str := ["value"]
theorem sc_has_row_form : FnScope N_has_row_form ["value"] (defScope s_has_row_form) := ⟨rfl, rfl, rfl, by decide +kernel, rfl, by decide +kernel, by decide +kernel⟩
abbrev s_fits_chart : Stmt := topS 25
abbrev N_fits_chart : List Str := ["modes", "signals", "value", "names", "row", "move"]
theorem sc_fits_chart : FnScope N_fits_chart ["modes", "signals", "value"] (defScope s_fits_chart) := ⟨rfl, rfl, rfl, by decide +kernel, rfl, by decide +kernel, by decide +kernel⟩
abbrev s_is_chart : Stmt := topS 28
abbrev N_is_chart : List Str := ["modes", "signals", "value"]
theorem sc_is_chart : FnScope N_is_chart ["modes", "signals", "value"] (defScope s_is_chart) := ⟨rfl, rfl, rfl, by decide +kernel, rfl, by decide +kernel, by decide +kernel⟩
abbrev s__law_pool : Stmt := topS 30
abbrev N__law_pool : List Str := ["_law_script", "_law_spot", "_law_cell", "_law_great", "_law_seed"]
theorem sc__law_pool : FnScope N__law_pool ["_law_script", "_law_spot"] (defScope s__law_pool) := ⟨rfl, rfl, rfl, by decide +kernel, rfl, by decide +kernel, by decide +kernel⟩
abbrev s__law_sip : Stmt := topS 31
abbrev N__law_sip : List Str := ["_law_pool_here", "_law_size", "_law_found", "_law_one", "_law_two"]
theorem sc__law_sip : FnScope N__law_sip ["_law_pool_here", "_law_size"] (defScope s__law_sip) := ⟨rfl, rfl, rfl, by decide +kernel, rfl, by decide +kernel, by decide +kernel⟩
abbrev s__law_pick : Stmt := topS 32
abbrev N__law_pick : List Str := ["_law_pool_here", "_law_items"]
theorem sc__law_pick : FnScope N__law_pick ["_law_pool_here", "_law_items"] (defScope s__law_pick) := ⟨rfl, rfl, rfl, by decide +kernel, rfl, by decide +kernel, by decide +kernel⟩
abbrev s__law_chart_move : Stmt := topS 33
abbrev N__law_chart_move : List Str := ["_law_pool_here", "_law_modes", "_law_signals", "_law_names", "_law_points", "_law_here", "_law_there", "_law_way", "_law_answers", "_law_signal", "_law_unwinds", "_law_mode"]
theorem sc__law_chart_move : FnScope N__law_chart_move ["_law_pool_here", "_law_modes", "_law_signals", "_law_names", "_law_points"] (defScope s__law_chart_move) := ⟨rfl, rfl, rfl, by decide +kernel, rfl, by decide +kernel, by decide +kernel⟩
abbrev s__law_chart : Stmt := topS 34
abbrev N__law_chart : List Str := ["_law_pool_here", "_law_modes", "_law_signals", "_law_names", "_law_rows", "_law_left", "_law_name", "_law_points", "_law_moves", "_law_turn", "_law_move"]
theorem sc__law_chart : FnScope N__law_chart ["_law_pool_here"] (defScope s__law_chart) := ⟨rfl, rfl, rfl, by decide +kernel, rfl, by decide +kernel, by decide +kernel⟩
abbrev s__law_is_number : Stmt := topS 35
abbrev N__law_is_number : List Str := ["_law_value", "_law_size"]
theorem sc__law_is_number : FnScope N__law_is_number ["_law_value", "_law_size"] (defScope s__law_is_number) := ⟨rfl, rfl, rfl, by decide +kernel, rfl, by decide +kernel, by decide +kernel⟩
abbrev s__law_is_name : Stmt := topS 36
abbrev N__law_is_name : List Str := ["_law_value", "_law_letter"]
theorem sc__law_is_name : FnScope N__law_is_name ["_law_value"] (defScope s__law_is_name) := ⟨rfl, rfl, rfl, by decide +kernel, rfl, by decide +kernel, by decide +kernel⟩
abbrev s__law_are_unwinds : Stmt := topS 37
abbrev N__law_are_unwinds : List Str := ["_law_value", "_law_modes", "_law_points", "_law_at", "_law_pair"]
theorem sc__law_are_unwinds : FnScope N__law_are_unwinds ["_law_value", "_law_modes", "_law_points"] (defScope s__law_are_unwinds) := ⟨rfl, rfl, rfl, by decide +kernel, rfl, by decide +kernel, by decide +kernel⟩
abbrev s__law_are_answers : Stmt := topS 38
abbrev N__law_are_answers : List Str := ["_law_value", "_law_modes", "_law_signals", "_law_names", "_law_points", "_law_at", "_law_one"]
theorem sc__law_are_answers : FnScope N__law_are_answers ["_law_value", "_law_modes", "_law_signals", "_law_names", "_law_points"] (defScope s__law_are_answers) := ⟨rfl, rfl, rfl, by decide +kernel, rfl, by decide +kernel, by decide +kernel⟩
abbrev s__law_is_move : Stmt := topS 39
abbrev N__law_is_move : List Str := ["_law_value", "_law_modes", "_law_signals", "_law_names", "_law_points"]
theorem sc__law_is_move : FnScope N__law_is_move ["_law_value", "_law_modes", "_law_signals", "_law_names", "_law_points"] (defScope s__law_is_move) := ⟨rfl, rfl, rfl, by decide +kernel, rfl, by decide +kernel, by decide +kernel⟩
abbrev s__law_is_chart : Stmt := topS 40
abbrev N__law_is_chart : List Str := ["_law_value", "_law_modes", "_law_signals", "_law_row", "_law_names", "_law_move"]
theorem sc__law_is_chart : FnScope N__law_is_chart ["_law_value", "_law_modes", "_law_signals"] (defScope s__law_is_chart) := ⟨rfl, rfl, rfl, by decide +kernel, rfl, by decide +kernel, by decide +kernel⟩
abbrev s__law_odd : Stmt := topS 41
abbrev N__law_odd : List Str := ["_law_pool_here", "_law_odd_here"]
theorem sc__law_odd : FnScope N__law_odd ["_law_pool_here"] (defScope s__law_odd) := ⟨rfl, rfl, rfl, by decide +kernel, rfl, by decide +kernel, by decide +kernel⟩
abbrev s__law_bent : Stmt := topS 42
abbrev N__law_bent : List Str := ["_law_pool_here", "_law_items", "_law_at", "_law_bent_here"]
theorem sc__law_bent : FnScope N__law_bent ["_law_pool_here", "_law_items"] (defScope s__law_bent) := ⟨rfl, rfl, rfl, by decide +kernel, rfl, by decide +kernel, by decide +kernel⟩
abbrev s__law_near : Stmt := topS 43
abbrev N__law_near : List Str := ["_law_pool_here", "_law_rows", "_law_at", "_law_way", "_law_name", "_law_points", "_law_moves", "_law_index", "_law_move", "_law_bent_here"]
theorem sc__law_near : FnScope N__law_near ["_law_pool_here", "_law_rows"] (defScope s__law_near) := ⟨rfl, rfl, rfl, by decide +kernel, rfl, by decide +kernel, by decide +kernel⟩
abbrev s__law_right : Stmt := topS 44
abbrev N__law_right : List Str := ["_law_pool_here", "_law_modes", "_law_signals", "_law_rows", "_law_turn", "_law_value", "_law_some", "_law_known", "_law_odd_here"]
theorem sc__law_right : FnScope N__law_right ["_law_pool_here"] (defScope s__law_right) := ⟨rfl, rfl, rfl, by decide +kernel, rfl, by decide +kernel, by decide +kernel⟩
abbrev s__law_example : Stmt := topS 45
abbrev N__law_example : List Str := ["_law_fix", "_law_asks", "_law_first"]
theorem sc__law_example : FnScope N__law_example [] (defScope s__law_example) := ⟨rfl, rfl, rfl, by decide +kernel, rfl, by decide +kernel, by decide +kernel⟩
abbrev s_law : Stmt := topS 46
abbrev N_law : List Str := ["_law_script", "_law_spot", "_law_pool_here", "_law_turn", "_law_modes", "_law_signals", "_law_rows", "_law_told"]
theorem sc_law : FnScope N_law ["_law_script"] (defScope s_law) := ⟨rfl, rfl, rfl, by decide +kernel, rfl, by decide +kernel, by decide +kernel⟩
local macro_rules | `(tactic| walk_at "blk") => `(tactic| (refine blkOk_by ?_; rfl))
local macro_rules | `(tactic| walk_at "mul") => `(tactic| first | exact Or.inl ⟨by decide, by decide⟩ | exact Or.inr ⟨by decide, by decide⟩ | exact Or.inl ⟨by omega, by omega⟩ | exact Or.inr ⟨by omega, by omega⟩)
local macro_rules | `(tactic| walk_at "dx") => `(tactic| first
  | (with_reducible refine' de_int ?_) | (with_reducible refine' de_bl ?_) | (with_reducible refine' de_non ?_) | (with_reducible refine' de_str ?_)
  | (with_reducible refine' de_varE ?_; refine' ⟨_, rfl, ?_⟩)
  | (with_reducible refine' de_raw ?_) | (with_reducible refine' de_dnew ?_)
  | (with_reducible refine' de_op ?_) | (with_reducible refine' de_un ?_)
  | (with_reducible refine' dr_addI ?_) | (with_reducible refine' dr_I0 ?_) | (with_reducible refine' dr_B0 ?_) | (with_reducible refine' dr_IE ?_; refine' ⟨?_, ?_⟩) | (with_reducible refine' du_I ?_)
  | (with_reducible refine' dt_test' ?_) | (with_reducible refine' dt_B ?_) | (with_reducible refine' dt_not ?_) | (with_reducible refine' dt_and ?_) | (with_reducible refine' dt_or ?_) | (with_reducible refine' dt_tru ?_)
  | (with_reducible refine' isB_mk ?_) | (with_reducible refine' tru_bl ?_) | (with_reducible refine' tru_int ?_) | (with_reducible refine' tru_lst ?_) | (with_reducible refine' tru_tup ?_) | (with_reducible refine' tru_non ?_)
  | (with_reducible refine' ex_str ?_) | (with_reducible refine' ex_lst ?_) | (with_reducible refine' ex_tup ?_) | (with_reducible refine' ex_int ?_) | (with_reducible refine' ex_i1 ?_) | (with_reducible refine' ex_i2 ?_) | (with_reducible refine' ex_p2 ?_)
  | (with_reducible refine' di_list ?_) | (with_reducible refine' di_tup ?_) | (with_reducible refine' di_str ?_) | (with_reducible refine' di_rng1 ?_) | (with_reducible refine' di_rng2 ?_)
  | (with_reducible refine' de_chain ?_) | (with_reducible refine' de_if ?_) | (with_reducible refine' de_andV ?_) | (with_reducible refine' de_orV ?_) | (with_reducible refine' de_notV ?_)
  | (with_reducible refine' da_nil ?_) | (with_reducible refine' da_cons ?_)
  | (with_reducible refine' de_call ?_) | (fail_if_success (with_reducible refine' de_allT ?_ ?_)); (fail_if_success (with_reducible refine' de_allT2 ?_ ?_ ?_ ?_)); (fail_if_success (with_reducible refine' de_lenset ?_)); (fail_if_success (with_reducible refine' de_ssetT ?_)); (with_reducible refine' de_CB ?_)
  | (with_reducible refine' ds_next ?_) | (with_reducible refine' ds_seq ?_) | (with_reducible refine' ds_drop ?_) | (with_reducible refine' ds_ret ?_) | (with_reducible refine' ds_retN ?_) | (with_reducible refine' ds_if ?_) | (with_reducible refine' ds_set ?_; dsimp only [List.set_cons_succ, List.set_cons_zero]) | (with_reducible refine' ds_asgx ?_) | (with_reducible refine' ds_par ?_)
  | (with_reducible refine' dg_name ?_; dsimp only [List.set_cons_succ, List.set_cons_zero])
  | (with_reducible refine' dr_ixDE0 ?_; refine' ⟨by assumption, fun i => ?_⟩) | (with_reducible refine' dr_ixDE1 ?_; refine' ⟨by assumption, fun i => ?_⟩) | (with_reducible refine' dr_ixDE2 ?_; refine' ⟨by assumption, fun i => ?_⟩)
  | (with_reducible refine' ite_1 ?_) | (with_reducible refine' ite_0 ?_)
  | (with_reducible refine' ite_d ?_ ?_ <;> intro hb) | (with_reducible refine' ite_nn ?_)
  | (with_reducible refine' dc_len_lst ?_) | (with_reducible refine' dc_len_tup ?_) | (with_reducible refine' dc_abs ?_) | (with_reducible refine' dc_max2 ?_) | (with_reducible refine' dc_min2 ?_) | (with_reducible refine' dc_intI ?_) | (with_reducible refine' dc_intB ?_) | (with_reducible refine' dc_reprB ?_))
/-- all steps that need no word -/
local macro_rules | `(tactic| walk_at "go") => `(tactic| repeat' walk_at "dx")
/-- .. displays of written length too -/
local macro_rules | `(tactic| walk_at "gol") => `(tactic| repeat' first | walk_at "dx" | (with_reducible refine' de_tup ?_) | (with_reducible refine' de_lst ?_) | (with_reducible refine' sz_and ?_ ?_; exact Nat.le_of_ble_eq_true rfl))
local macro_rules | `(tactic| walk_at "x0") => `(tactic| try dsimp only [cxOf, Cx.nox, Cx.wish, List.map_cons, List.map_nil, wipeD, List.set_cons_succ, List.set_cons_zero])
/-- .. of naturals too -/
local macro_rules | `(tactic| walk_at "nx") => `(tactic| repeat' first
  | (with_reducible refine' dr_orN ?_) | (with_reducible refine' dr_andN ?_) | (with_reducible refine' dr_shrN ?_) | (with_reducible refine' dr_and1 ?_) | (with_reducible refine' dr_shl1 ?_; refine' ⟨by omega, ?_⟩) | (with_reducible refine' dr_eqNN ?_) | (with_reducible refine' dr_eqN1 ?_) | (with_reducible refine' dr_eqN0 ?_) | (with_reducible refine' dr_neN0 ?_) | (with_reducible refine' dr_eqBB ?_) | (with_reducible refine' dr_neNN ?_)
  | walk_at "dx")


/-! ### numbers -/
def isNum : D → Bool
  | .int _ => true | _ => false
def isIdx (d : D) (m : Nat) : Bool := match d with
  | .int i => decide (0 ≤ i ∧ i < (m : Int)) | _ => false
theorem tp_tup (l : List D) : Tp (.tup l) := ⟨_, rfl⟩
theorem ty_nat (a : Nat) : Tp (nD a) := ⟨_, rfl⟩
theorem ty_tup (l : List D) : Tp (.tup l) := ⟨_, rfl⟩
def p_is_number : PT0 := fun ds M R => ∃ d, ds = [d] ∧ Tp d ∧ R (.bl (isNum d)) M
def p_is_index : PT0 := fun ds M R => ∃ d m, ds = [d, nD m] ∧ Tp d ∧ R (.bl (isIdx d m)) M
theorem len_is_number : ∀ ds M R, p_is_number ds M R → ds.length = 1 := fun _ _ _ ⟨_, e, _⟩ => by rw [e]; rfl
theorem len_is_index : ∀ ds M R, p_is_index ds M R → ds.length = 2 := fun _ _ _ ⟨_, _, e, _⟩ => by rw [e]; rfl
theorem ok_is_number {P : Program} {w : World} {K : PySem.W.Frag} {mg : Str → Option Value} {base : Heap} (T : Tx K mg "is_number" s_is_number) (m_isinstance : mg "isinstance" = none) (m_int : mg "int" = none) (m_bool : mg "bool" = none) : Df P w K mg base 1 "is_number" ["value"] p_is_number := by
  refine df_ok T sc_is_number (len_is_number) (fun _ _ _ _ _ _ us hl => match us, hl with | [_], _ => rfl) (fun cdv A ou s H fa hr gd => ⟨_, (pss_one (ps_ret (pe_and (pe_callB (call_isiKK K) (by rfl) m_isinstance (by decide +kernel) (pa_cons (pv 0) (pa_cons (pe_bltn (v := .ty "int") (by rfl) m_int (by decide +kernel) rfl) pa_nil))) (pe_one (pe_not (pe_callB (call_isiKK K) (by rfl) m_isinstance (by decide +kernel) (pa_cons (pv 0) (pa_cons (pe_bltn (v := .ty "bool") (by rfl) m_bool (by decide +kernel) rfl) pa_nil)))))))), ?_⟩)
  rintro ds M R ⟨d, rfl, ht, q⟩
  show DS K _ [some d] M _
  walk_at "x0"
  walk_at "go"
  refine dc_isInt ⟨ht, ?_⟩
  walk_at "go"
  cases d <;> first | (refine ite_1 ?_; walk_at "go"; refine dc_isBl ⟨ht, ?_⟩; walk_at "go"; exact q) | (refine ite_0 ?_; exact q)
theorem use_num {M : Mem} {Q : D → Mem → Prop} {d : D} (h : Tp d ∧ Q (.bl (isNum d)) M) : p_is_number [d] M Q := ⟨d, rfl, h⟩
theorem ok_is_index {P : Program} {w : World} {K : PySem.W.Frag} {mg : Str → Option Value} {base : Heap} (T : Tx K mg "is_index" s_is_index) (d_is_number : Df P w K mg base 1 "is_number" ["value"] p_is_number) : Df P w K mg base 2 "is_index" ["value", "many"] p_is_index := by
  refine df_ok T sc_is_index (len_is_index) (fun _ _ _ _ _ _ us hl => match us, hl with | [_, _], _ => rfl) (fun cdv A ou s H fa hr gd => ⟨_, (pss_one (ps_ret (pe_and (pe_callD d_is_number (hr.mono (by decide)) gd (by rfl) (pa_cons (pv 0) pa_nil)) (pe_one (pe_chain op_le op_lt pe_int (pv 0) (pv 1)))))), ?_⟩)
  rintro ds M R ⟨d, m, rfl, ht, q⟩
  show DS K _ [some d, some (nD m)] M _
  walk_at "x0"
  walk_at "go"
  refine use_num ⟨ht, ?_⟩
  walk_at "go"
  cases d with
  | int i =>
    refine ite_1 ?_
    walk_at "go"
    · rename_i hb
      have e : isIdx (.int i) m = decide (i < (m : Int)) := decide_eq_decide.mpr ⟨fun h => h.2, fun h => ⟨hb, h⟩⟩
      rw [e] at q
      exact q
    · rename_i hb
      have e : isIdx (.int i) m = false := decide_eq_false fun h => hb h.1
      rw [e] at q
      exact q
  | _ => exact ite_0 q
theorem use_idx {M : Mem} {Q : D → Mem → Prop} {d : D} {m : Nat} (h : Tp d ∧ Q (.bl (isIdx d m)) M) : p_is_index [d, nD m] M Q := ⟨d, m, rfl, h⟩

/-! ### names -/
def lets : Str := "abcdefghijklmnopqrstuvwxyz"
theorem lets_eq : lets.cps.toList = List.range' 97 26 := by decide +kernel
theorem mem_lets (c : Nat) : c ∈ lets.cps.toList ↔ 97 ≤ c ∧ c ≤ 122 := by
  rw [lets_eq, List.mem_range']
  constructor
  · rintro ⟨i, h, rfl⟩; omega
  · intro h; exact ⟨c - 97, by omega, by omega⟩
def isW (x : Str) : Bool := decide (1 ≤ x.length ∧ x.length ≤ 8) && x.cps.toList.all fun c => decide (c ∈ lets.cps.toList)
def isN : D → Bool
  | .str x => isW x | _ => false
def okS (x : Str) : Prop := x.length ≤ 1000 ∧ ∀ c, c ∈ x.cps.toList → c < 128
def okD (d : D) : Prop := (∃ T, tyD d = some T) ∧ ∀ x, d = .str x → okS x
def p_is_name : PT0 := fun ds M R => ∃ d, ds = [d] ∧ okD d ∧ R (.bl (isN d)) M
theorem len_is_name : ∀ ds M R, p_is_name ds M R → ds.length = 1 := fun _ _ _ ⟨_, e, _⟩ => by rw [e]; rfl
theorem z100 {n : Nat} (h : n ≤ 100000) : n ≤ sizeLine := by rw [sizeLine_eq]; omega
def inF : D → D
  | .str y => (match y.cps.toList with | [c] => .bl (decide (c ∈ lets.cps.toList)) | _ => .non) | _ => .non
theorem isW_no {x : Str} (h : ¬ (1 ≤ x.length ∧ x.length ≤ 8)) : isW x = false := by unfold isW; rw [decide_eq_false h]; rfl
theorem kit_no {d : D} {T : String} (h : tyD d = some T) (hs : ∀ x, d ≠ .str x) : kitB T "str" = some false := by
  cases d <;> first | (cases h; done) | (cases h; decide +kernel) | exact absurd rfl (hs _)
theorem isN_no {d : D} (hs : ∀ x, d ≠ .str x) : isN d = false := by
  cases d <;> first | rfl | exact absurd rfl (hs _)
theorem ok_is_name {P : Program} {w : World} {K : PySem.W.Frag} {mg : Str → Option Value} {base : Heap} (T : Tx K mg "is_name" s_is_name) (m_isinstance : mg "isinstance" = none) (m_str : mg "str" = none) (m_len : mg "len" = none) (c_MAX_LETTERS : GlK mg "MAX_LETTERS" (.int 8)) (m_all : mg "all" = none) (c_LETTERS : GlK mg "LETTERS" (.str "abcdefghijklmnopqrstuvwxyz")) : Df P w K mg base 1 "is_name" ["value"] p_is_name := by
  refine df_ok T sc_is_name (len_is_name) (fun _ _ _ _ _ _ us hl => match us, hl with | [_], _ => rfl) (fun cdv A ou s H fa hr gd => ⟨_, (pss_cons (ps_if (PW.pt (pw_or (pt_not (pt_truK K (pe_callB (call_isiKK K) (by rfl) m_isinstance (by decide +kernel) (pa_cons (pv 0) (pa_cons (pe_bltn (v := .ty "str") (by rfl) m_str (by decide +kernel) rfl) pa_nil))) (fun _ => rfl))) (pw_or1 (pt_not (pt_chain op_le op_le pe_int (pe_callB (call_lenK K) (by rfl) m_len (by decide +kernel) (pa_cons (pv 0) pa_nil)) (pe_globK c_MAX_LETTERS (by rfl))))))) (pss_one (ps_ret pe_bl)) pss_nil) (pss_one (ps_ret (pe_callB (call_allK K) (by rfl) m_all (by decide +kernel) (pa_cons (pe_lc (own := [("letter", 1)]) rfl sc_is_name.nd (pi_str (pv 0)) (blkOk_by (N := N_is_name) (sc := defScope s_is_name) (by decide +kernel)) (fun _ _ _ _ _ => (pg_name (i := 1) sc_is_name.nd rfl (.inl rfl))) (fun _ _ _ _ _ => pts_nil) (fun _ _ _ _ _ => (pe_cmpR op_in_sign (pv 1) (pe_globK c_LETTERS (by rfl)) (by rfl)))) pa_nil))))), ?_⟩)
  rintro ds M R ⟨d, rfl, ⟨⟨T, hT⟩, hz⟩, q⟩
  show DS K _ [some d, none] M _
  walk_at "x0"
  walk_at "go"
  by_cases hd : ∃ x, d = .str x
  · obtain ⟨x, rfl⟩ := hd
    have hx : x.length ≤ 100000 := by have := (hz x rfl).1; omega
    have q : R (.bl (isW x)) M := q
    refine dc_isi (T := "str") rfl (b := true) (by decide +kernel) ?_
    walk_at "go"
    · refine dc_len_str ⟨z100 hx, ?_⟩
      walk_at "go"
      · refine de_CB ?_
        walk_at "go"
        refine de_map (by simp) ?_
        walk_at "go"
        refine ⟨by rw [sigs_len]; show x.length < _; rw [sizeLine_eq]; omega, inF, fun d hd => ?_, ?_⟩
        · unfold sigs at hd
          obtain ⟨c, hc, rfl⟩ := List.mem_map.mp hd
          walk_at "x0"
          walk_at "go"
          exact dr_inS ⟨rfl, rfl⟩
        · walk_at "go"
          refine dc_allE ⟨(x.cps.toList.map fun c => decide (c ∈ lets.cps.toList)), ?_, ?_⟩
          · unfold sigs
            rw [List.map_map, List.map_map]
            rfl
          · rw [List.all_map]
            unfold isW at q
            rw [decide_eq_true (show 1 ≤ x.length ∧ x.length ≤ 8 from ⟨by omega, by omega⟩)] at q
            exact q
      · rw [isW_no (fun h => by omega)] at q
        exact q
      · rw [isW_no (fun h => by omega)] at q
        exact q
  · have hs : ∀ x, d ≠ .str x := fun x e => hd ⟨x, e⟩
    rw [isN_no hs] at q
    refine dc_isi hT (kit_no hT hs) ?_
    walk_at "go"
    exact q

/-! ### values that occur -/
mutual
def okV : D → Prop
  | .non => True | .bl _ => True | .int _ => True
  | .str x => okS x
  | .lst xs => xs.length ≤ 1000 ∧ okVL xs | .tup xs => xs.length ≤ 1000 ∧ okVL xs
  | .dic kvs => kvs = [] | _ => False
def okVL : List D → Prop
  | [] => True
  | x :: r => okV x ∧ okVL r
end
theorem okVL_mem : ∀ {xs : List D}, okVL xs → ∀ x, x ∈ xs → okV x
  | [], _, x, hx => by cases hx
  | y :: r, h, x, hx => by
    rw [okVL] at h
    rcases List.mem_cons.mp hx with rfl | hx
    · exact h.1
    · exact okVL_mem h.2 x hx
theorem okVL_of : ∀ {xs : List D}, (∀ x, x ∈ xs → okV x) → okVL xs
  | [], _ => by rw [okVL]; trivial
  | y :: r, h => by rw [okVL]; exact ⟨h y List.mem_cons_self, okVL_of fun x hx => h x (List.mem_cons_of_mem _ hx)⟩
mutual
theorem okV_lay : ∀ d : D, okV d → ∃ p, toPyE d = some p
  | .non, _ => ⟨_, rfl⟩
  | .bl _, _ => ⟨_, rfl⟩
  | .int _, _ => ⟨_, rfl⟩
  | .str _, _ => ⟨_, rfl⟩
  | .lst xs, h => by
    rw [okV] at h
    obtain ⟨ps, e⟩ := okVL_lay xs h.2
    exact ⟨.list ps, by rw [toPyE, e]; rfl⟩
  | .tup xs, h => by
    rw [okV] at h
    obtain ⟨ps, e⟩ := okVL_lay xs h.2
    exact ⟨.tuple ps, by rw [toPyE, e]; rfl⟩
  | .dic kvs, h => by
    rw [okV] at h
    subst h
    exact ⟨_, rfl⟩
  | .obj _ _, h => by simp [okV] at h
  | .raw _, h => by simp [okV] at h
theorem okVL_lay : ∀ l : List D, okVL l → ∃ ps, toPyEL l = some ps
  | [], _ => ⟨[], rfl⟩
  | x :: r, h => by
    rw [okVL] at h
    obtain ⟨p, e1⟩ := okV_lay x h.1
    obtain ⟨ps, e2⟩ := okVL_lay r h.2
    exact ⟨p :: ps, by rw [toPyEL, e1, e2]⟩
end
theorem okV_tp {d : D} (h : okV d) : Tp d := by
  cases d with
  | obj _ _ => simp [okV] at h
  | raw _ => simp [okV] at h
  | _ => exact ⟨_, rfl⟩
theorem okV_str {x : Str} (h : okV (.str x)) : okS x := by rw [okV] at h; exact h
theorem okV_D {d : D} (h : okV d) : okD d := ⟨okV_tp h, fun x e => by subst e; exact okV_str h⟩
theorem okV_tup {xs : List D} (h : okV (.tup xs)) : xs.length ≤ 1000 ∧ ∀ x, x ∈ xs → okV x := by rw [okV] at h; exact ⟨h.1, okVL_mem h.2⟩
theorem mk_tup {xs : List D} (h : xs.length ≤ 1000) (k : ∀ x, x ∈ xs → okV x) : okV (.tup xs) := by rw [okV]; exact ⟨h, okVL_of k⟩
theorem mk_lst {xs : List D} (h : xs.length ≤ 1000) (k : ∀ x, x ∈ xs → okV x) : okV (.lst xs) := by rw [okV]; exact ⟨h, okVL_of k⟩
theorem use_name {M : Mem} {Q : D → Mem → Prop} {d : D} (h : okV d ∧ Q (.bl (isN d)) M) : p_is_name [d] M Q := ⟨d, rfl, okV_D h.1, h.2⟩
/-! ### what stands in its order -/
def ltD : D → D → Bool
  | .int i, .int j => decide (i < j) | .str x, .str y => decide (x.cps.toList < y.cps.toList) | _, _ => false
def asc : List D → Bool
  | x :: y :: r => ltD x y && asc (y :: r) | _ => true
/-- all ints, or all texts -/
def oneKind (xs : List D) : Prop := (∀ x, x ∈ xs → ∃ i : Int, x = .int i) ∨ ∀ x, x ∈ xs → ∃ y : Str, x = .str y
def p_are_ascending : PT0 := fun ds M R => ∃ xs, (ds = [.tup xs] ∨ ds = [.lst xs]) ∧ xs.length ≤ 1000 ∧ oneKind xs ∧ R (.bl (asc xs)) M
theorem len_are_ascending : ∀ ds M R, p_are_ascending ds M R → ds.length = 1 := fun _ _ _ ⟨_, e, _⟩ => by rcases e with rfl | rfl <;> rfl
def ltP : D → Bool
  | .tup [x, y] => ltD x y | _ => false
theorem asc_zip : ∀ xs : List D, (zipD xs (xs.drop 1)).all ltP = asc xs
  | [] => rfl
  | [x] => rfl
  | x :: y :: r => by
    have ih := asc_zip (y :: r)
    show (ltD x y && (zipD (y :: r) r).all ltP) = (ltD x y && asc (y :: r))
    rw [← ih]; rfl
theorem ok_are_ascending {P : Program} {w : World} {K : PySem.W.Frag} {mg : Str → Option Value} {base : Heap} (T : Tx K mg "are_ascending" s_are_ascending) (m_all : mg "all" = none) (m_zip : mg "zip" = none) : Df P w K mg base 1 "are_ascending" ["names"] p_are_ascending := by
  refine df_ok T sc_are_ascending (len_are_ascending) (fun _ _ _ _ _ _ us hl => match us, hl with | [_], _ => rfl) (fun cdv A ou s H fa hr gd => ⟨_, (pss_one (ps_ret (pe_callB (call_allK K) (by rfl) m_all (by decide +kernel) (pa_cons (pe_lc (own := [("one", 1), ("other", 2)]) rfl sc_are_ascending.nd (pi_zipK K (by rfl) m_zip (pa_cons (pv 0) (pa_cons (pe_slice (sl_anyK K) (pv 0) (po_some pe_int) po_none) pa_nil))) (blkOk_by (N := N_are_ascending) (sc := defScope s_are_ascending) (by decide +kernel)) (fun _ _ _ _ _ => (pg_tupK K (n := 2) rfl (pgs_cons (pg_name (i := 1) sc_are_ascending.nd rfl (.inl rfl)) (pgs_cons (pg_name (i := 2) sc_are_ascending.nd rfl (.inl rfl)) pgs_nil)))) (fun _ _ _ _ _ => pts_nil) (fun _ _ _ _ _ => (pe_cmpR op_ltX (pv 1) (pv 2) (nomark _)))) pa_nil)))), ?_⟩)
  rintro ds M R ⟨xs, hd, few, ok, q⟩
  have z : ∀ (x y : D), oneKind xs → x ∈ xs → y ∈ xs → ∀ (δ2 : En) (QQ : D → Mem → Prop), QQ (.bl (ltD x y)) M → DR K rLtX x y M QQ := fun x y ok hx hy δ2 QQ qq => by
    rcases ok with h | h
    · obtain ⟨i, rfl⟩ := h x hx
      obtain ⟨j, rfl⟩ := h y hy
      exact dr_ordI qq
    · obtain ⟨i, rfl⟩ := h x hx
      obtain ⟨j, rfl⟩ := h y hy
      exact dr_ordS qq
  have e1 : DL.cutD xs (some 1) none = xs.drop 1 := by
    unfold DL.cutD
    rw [show HT.sIx xs.length xs.length none = xs.length from rfl]
    by_cases h : xs = []
    · subst h; rfl
    · have : 1 ≤ xs.length := List.length_pos_iff.mpr h
      rw [show HT.sIx xs.length 0 (some 1) = 1 from by rw [show (some (1 : Int)) = some ((1 : Nat) : Int) from rfl, HT.sIx_nat]; omega]
      exact List.take_of_length_le (by rw [List.length_drop]; exact Nat.le_refl _)
  rw [← asc_zip xs] at q
  have fin : DC K (rAll K) [.lst ((zipD xs (xs.drop 1)).map fun d => .bl (ltP d))] M R := by
    refine dc_allE ⟨(zipD xs (xs.drop 1)).map ltP, by rw [List.map_map]; rfl, ?_⟩
    rw [List.all_map]
    exact q
  rcases hd with rfl | rfl
  · show DS K _ [some (.tup xs), none, none] M _
    walk_at "x0"
    walk_at "go"
    refine de_mapG (js := [1, 2]) (by simp) (di_zip ?_)
    walk_at "go"
    refine de_slXT ?_
    walk_at "go"
    refine do_pt ?_
    walk_at "go"
    refine do_no ?_
    walk_at "go"
    rw [e1]
    refine ⟨_, _, .inl rfl, by rw [zipD_len, sizeLine_eq]; omega, fun d => .bl (ltP d), fun d hd => ?_, ?_⟩
    · obtain ⟨i, hi⟩ := List.mem_iff_getElem?.mp hd
      obtain ⟨x, y, hx, hy, rfl⟩ := zipD_get hi
      refine dg_tup rfl (dgs_cons (dg_name (dgs_cons (dg_name (dgs_nil ?_)))))
      refine ⟨rfl, ?_⟩
      walk_at "x0"
      walk_at "go"
      exact z x y ok (List.mem_of_getElem? hx) (List.mem_of_mem_drop (List.mem_of_getElem? hy)) [] _ ⟨rfl, rfl⟩
    · walk_at "go"
      exact fin
  · show DS K _ [some (.lst xs), none, none] M _
    walk_at "x0"
    walk_at "go"
    refine de_mapG (js := [1, 2]) (by simp) (di_zip ?_)
    walk_at "go"
    refine de_slXL ?_
    walk_at "go"
    refine do_pt ?_
    walk_at "go"
    refine do_no ?_
    walk_at "go"
    rw [e1]
    refine ⟨_, _, .inr rfl, by rw [zipD_len, sizeLine_eq]; omega, fun d => .bl (ltP d), fun d hd => ?_, ?_⟩
    · obtain ⟨i, hi⟩ := List.mem_iff_getElem?.mp hd
      obtain ⟨x, y, hx, hy, rfl⟩ := zipD_get hi
      refine dg_tup rfl (dgs_cons (dg_name (dgs_cons (dg_name (dgs_nil ?_)))))
      refine ⟨rfl, ?_⟩
      walk_at "x0"
      walk_at "go"
      exact z x y ok (List.mem_of_getElem? hx) (List.mem_of_mem_drop (List.mem_of_getElem? hy)) [] _ ⟨rfl, rfl⟩
    · walk_at "go"
      exact fin
theorem use_asc {M : Mem} {Q : D → Mem → Prop} {xs : List D} {d : D} (hd : d = .tup xs ∨ d = .lst xs) (h : xs.length ≤ 1000 ∧ oneKind xs ∧ Q (.bl (asc xs)) M) : p_are_ascending [d] M Q := ⟨xs, by rcases hd with rfl | rfl; exact .inl rfl; exact .inr rfl, h⟩
/-! ### moves -/
def prOk (m n : Nat) : D → Bool
  | .tup [a, b] => isIdx a m && isIdx b n | _ => false
def fstD : D → D
  | .tup (a :: _) => a | _ => .non
def unwF (m n : Nat) : D → Bool
  | .tup xs => xs.all (prOk m n) && asc (xs.map fstD)
  | _ => false
def p_is_unwinds : PT0 := fun ds M R => ∃ (m n : Nat) (d : D), ds = [nD m, nD n, d] ∧ okV d ∧ R (.bl (unwF m n d)) M
theorem len_is_unwinds : ∀ ds M R, p_is_unwinds ds M R → ds.length = 3 := fun _ _ _ ⟨_, _, _, e, _⟩ => by rw [e]; rfl
theorem prOk_no {m n : Nat} {xs : List D} (h : xs.length ≠ 2) : prOk m n (.tup xs) = false := by
  match xs, h with
  | [], _ => rfl
  | [_], _ => rfl
  | [_, _], h => exact absurd rfl h
  | _ :: _ :: _ :: _, _ => rfl
theorem two_of {xs : List D} (h : xs.length = 2) : ∃ a b, xs = [a, b] := by
  match xs, h with
  | [a, b], _ => exact ⟨a, b, rfl⟩
theorem three_of {xs : List D} (h : xs.length = 3) : ∃ a b c, xs = [a, b, c] := by
  match xs, h with
  | [a, b, c], _ => exact ⟨a, b, c, rfl⟩
theorem all_no {xs : List D} {i : Nat} {d : D} {p : D → Bool} (hd : xs[i]? = some d) (h : p d = false) : xs.all p = false := List.all_eq_false.mpr ⟨d, List.mem_of_getElem? hd, by rw [h]; decide⟩
theorem take_more {xs : List D} {i : Nat} {d : D} {p : D → Prop} (hd : xs[i]? = some d) (h : ∀ x, x ∈ xs.take i → p x) (hp : p d) : ∀ x, x ∈ xs.take (i + 1) → p x := fun x hx => by
  rw [List.take_add_one, hd, List.mem_append] at hx
  rcases hx with hx | hx
  · exact h x hx
  · have : x = d := by simpa using hx
    rw [this]; exact hp
theorem isIdx_int {d : D} {m : Nat} (h : isIdx d m = true) : ∃ i : Int, d = .int i := by
  cases d with
  | int i => exact ⟨i, rfl⟩
  | _ => cases h
theorem prOk_fst {m n : Nat} {d : D} (h : prOk m n d = true) : ∃ i : Int, fstD d = .int i := by
  match d, h with
  | .tup [a, b], h =>
    have h : (isIdx a m && isIdx b n) = true := h
    rw [Bool.and_eq_true] at h
    exact isIdx_int h.1
theorem prOk_tup {m n : Nat} {d : D} (h : prOk m n d = true) : ∃ a b, d = .tup [a, b] := by
  match d, h with
  | .tup [a, b], _ => exact ⟨a, b, rfl⟩
theorem okV_Lay {d : D} (h : okV d) : Lay d := okV_lay d h
theorem ok_is_unwinds {P : Program} {w : World} {K : PySem.W.Frag} {mg : Str → Option Value} {base : Heap} (T : Tx K mg "is_unwinds" s_is_unwinds) (m_isinstance : mg "isinstance" = none) (m_tuple : mg "tuple" = none) (m_len : mg "len" = none) (d_is_index : Df P w K mg base 2 "is_index" ["value", "many"] p_is_index) (d_are_ascending : Df P w K mg base 1 "are_ascending" ["names"] p_are_ascending) : Df P w K mg base 3 "is_unwinds" ["modes", "points", "value"] p_is_unwinds := by
  refine df_ok T sc_is_unwinds (len_is_unwinds) (fun _ _ _ _ _ _ us hl => match us, hl with | [_, _, _], _ => rfl) (fun cdv A ou s H fa hr gd => ⟨_, (pss_cons (ps_if (pt_not (pt_truK K (pe_callB (call_isiKK K) (by rfl) m_isinstance (by decide +kernel) (pa_cons (pv 2) (pa_cons (pe_bltn (v := .ty "tuple") (by rfl) m_tuple (by decide +kernel) rfl) pa_nil))) (fun _ => rfl))) (pss_one (ps_ret pe_bl)) pss_nil) (pss_cons (ps_for PassesOwn.never rfl (pi_tupK K (pv 2)) (pg_name (i := 3) sc_is_unwinds.nd rfl (.inl rfl)) (pss_cons (ps_if (PW.pt (pw_or (pt_not (pt_truK K (pe_callB (call_isiKK K) (by rfl) m_isinstance (by decide +kernel) (pa_cons (pv 3) (pa_cons (pe_bltn (v := .ty "tuple") (by rfl) m_tuple (by decide +kernel) rfl) pa_nil))) (fun _ => rfl))) (pw_or1 (pt_cmpR (op_neK K hr.units) (pe_callB (call_lenK K) (by rfl) m_len (by decide +kernel) (pa_cons (pv 3) pa_nil)) pe_int (nomark _))))) (pss_one (ps_ret pe_bl)) pss_nil) (pss_one (ps_if (PW.pt (pw_or (pt_not (pt_truK K (pe_callD d_is_index (hr.mono (by decide)) gd (by rfl) (pa_cons (pe_ix (ix_K K) (pv 3) pe_int (fun _ _ => rfl)) (pa_cons (pv 0) pa_nil))) (fun _ => rfl))) (pw_or1 (pt_not (pt_truK K (pe_callD d_is_index (hr.mono (by decide)) gd (by rfl) (pa_cons (pe_ix (ix_K K) (pv 3) pe_int (fun _ _ => rfl)) (pa_cons (pv 1) pa_nil))) (fun _ => rfl)))))) (pss_one (ps_ret pe_bl)) pss_nil)))) (pss_one (ps_ret (pe_callD d_are_ascending (hr.mono (by decide)) gd (by rfl) (pa_cons (pe_lc (own := [("pair", 3)]) rfl sc_is_unwinds.nd (pi_tupK K (pv 2)) (blkOk_by (N := N_is_unwinds) (sc := defScope s_is_unwinds) (by decide +kernel)) (fun _ _ _ _ _ => (pg_name (i := 3) sc_is_unwinds.nd rfl (.inl rfl))) (fun _ _ _ _ _ => pts_nil) (fun _ _ _ _ _ => (pe_ix (ix_K K) (pv 3) pe_int (fun _ _ => rfl)))) pa_nil)))))), ?_⟩)
  rintro ds M R ⟨m, n, d, rfl, ok, q⟩
  show DS K _ [some (nD m), some (nD n), some d, none] M _
  walk_at "x0"
  walk_at "nx"
  refine dc_isTup ⟨okV_tp ok, ?_⟩
  walk_at "nx"
  cases d with
  | tup xs =>
    obtain ⟨few, ok⟩ := okV_tup ok
    refine ite_1 ?_
    walk_at "nx"
    refine ds_forP [3] ?_
    walk_at "x0"
    walk_at "nx"
    have out : ∀ {i : Nat} {d : D}, xs[i]? = some d → prOk m n d = false → R (.bl false) M := fun hd h => by
      rw [show unwF m n (.tup xs) = (xs.all (prOk m n) && asc (xs.map fstD)) from rfl, all_no hd h] at q
      exact q
    refine ⟨fun i M2 => M2 = M ∧ ∀ x, x ∈ xs.take i → prOk m n x = true, ⟨rfl, fun x hx => by simp at hx⟩, fun i d M2 hd hM => ?_, fun M2 hM => ?_⟩
    · obtain ⟨rfl, hw⟩ := hM
      have okd := ok d (List.mem_of_getElem? hd)
      walk_at "x0"
      walk_at "nx"
      refine dc_isTup ⟨okV_tp okd, ?_⟩
      walk_at "nx"
      cases d with
      | tup ys =>
        obtain ⟨fy, oky⟩ := okV_tup okd
        refine ite_1 ?_
        walk_at "nx"
        refine (show DR K (rNeD K) (nD ys.length) (nD 2) _ _ from dr_neNN ?_)
        by_cases h2 : ys.length = 2
        · rw [decide_eq_true h2]
          obtain ⟨a, b, rfl⟩ := two_of h2
          walk_at "nx"
          refine dr_ixTE ⟨a, rfl, ?_⟩
          walk_at "nx"
          refine use_idx ⟨okV_tp (oky a (by simp)), ?_⟩
          walk_at "nx"
          cases e1 : isIdx a m with
          | false =>
            refine ite_0 ?_
            walk_at "nx"
            exact out hd (by show (isIdx a m && _) = false; rw [e1]; rfl)
          | true =>
            refine ite_1 ?_
            walk_at "nx"
            refine dr_ixTE ⟨b, rfl, ?_⟩
            walk_at "nx"
            refine use_idx ⟨okV_tp (oky b (by simp)), ?_⟩
            walk_at "nx"
            cases e2 : isIdx b n with
            | false =>
              refine ite_0 ?_
              walk_at "nx"
              exact out hd (by show (isIdx a m && isIdx b n) = false; rw [e1, e2]; rfl)
            | true =>
              refine ite_1 ?_
              walk_at "nx"
              exact ⟨rfl, rfl, take_more hd hw (by show (isIdx a m && isIdx b n) = true; rw [e1, e2]; rfl)⟩
        · rw [decide_eq_false h2]
          walk_at "nx"
          exact out hd (prOk_no h2)
      | _ =>
        refine ite_0 ?_
        walk_at "nx"
        exact out hd rfl
    · obtain ⟨rfl, hw⟩ := hM
      rw [List.take_length] at hw
      walk_at "nx"
      refine de_map (by simp) ?_
      walk_at "nx"
      refine ⟨by rw [sizeLine_eq]; omega, fstD, fun d hd => ?_, ?_⟩
      · obtain ⟨a, b, rfl⟩ := prOk_tup (hw d hd)
        walk_at "x0"
        walk_at "nx"
        exact dr_ixTE ⟨a, rfl, rfl, rfl⟩
      · walk_at "nx"
        refine use_asc (.inr rfl) ⟨by rw [List.length_map]; exact few, .inl fun x hx => ?_, ?_⟩
        · obtain ⟨d, hd, rfl⟩ := List.mem_map.mp hx
          exact prOk_fst (hw d hd)
        · rw [show unwF m n (.tup xs) = (xs.all (prOk m n) && asc (xs.map fstD)) from rfl, List.all_eq_true.mpr hw] at q
          exact q
  | _ =>
    refine ite_0 ?_
    walk_at "nx"
    exact q
theorem use_unw {M : Mem} {Q : D → Mem → Prop} {m n : Nat} {d : D} (h : okV d ∧ Q (.bl (unwF m n d)) M) : p_is_unwinds [nD m, nD n, d] M Q := ⟨m, n, d, rfl, h⟩
theorem dr_notIn {K : PySem.W.Frag} {M : Mem} {Q : D → Mem → Prop} {d e : D} {ys : List Str} (h : Lay d ∧ (e = .lst (ys.map D.str) ∨ e = .tup (ys.map D.str)) ∧ Q (.bl (!isIn d ys)) M) : DR K (rInS K true) d e M Q := dr_inSE ⟨h.1, h.2.1, h.2.2⟩
theorem dr_isIn {K : PySem.W.Frag} {M : Mem} {Q : D → Mem → Prop} {d e : D} {ys : List Str} (h : Lay d ∧ (e = .lst (ys.map D.str) ∨ e = .tup (ys.map D.str)) ∧ Q (.bl (isIn d ys)) M) : DR K (rInS K false) d e M Q := dr_inSE ⟨h.1, h.2.1, h.2.2⟩
abbrev sD (l : List Str) : List D := l.map D.str
def ansOk (m : Nat) (ss ns : List Str) (n : Nat) : D → Bool
  | .tup [a, b, c] => isIn a ss && isIn b ns && unwF m n c | _ => false
def ansF (m : Nat) (ss ns : List Str) (n : Nat) : D → Bool
  | .tup xs => xs.all (ansOk m ss ns n) && asc (xs.map fstD)
  | _ => false
def p_are_answers : PT0 := fun ds M R => ∃ (m n : Nat) (ss ns : List Str) (d : D), ds = [nD m, .tup (sD ss), .lst (sD ns), nD n, d] ∧ okV d ∧ R (.bl (ansF m ss ns n d)) M
theorem len_are_answers : ∀ ds M R, p_are_answers ds M R → ds.length = 5 := fun _ _ _ ⟨_, _, _, _, _, e, _⟩ => by rw [e]; rfl
theorem ansOk_no {m n : Nat} {ss ns : List Str} {xs : List D} (h : xs.length ≠ 3) : ansOk m ss ns n (.tup xs) = false := by
  match xs, h with
  | [], _ => rfl
  | [_], _ => rfl
  | [_, _], _ => rfl
  | [_, _, _], h => exact absurd rfl h
  | _ :: _ :: _ :: _ :: _, _ => rfl
theorem isIn_str {d : D} {l : List Str} (h : isIn d l = true) : ∃ y : Str, d = .str y := by
  cases d with
  | str y => exact ⟨y, rfl⟩
  | _ => cases h
theorem ansOk_tup {m n : Nat} {ss ns : List Str} {d : D} (h : ansOk m ss ns n d = true) : ∃ y b c, d = .tup [.str y, b, c] := by
  match d, h with
  | .tup [a, b, c], h =>
    have h : (isIn a ss && isIn b ns && unwF m n c) = true := h
    rw [Bool.and_eq_true, Bool.and_eq_true] at h
    obtain ⟨y, rfl⟩ := isIn_str h.1.1
    exact ⟨y, b, c, rfl⟩
theorem ok_are_answers {P : Program} {w : World} {K : PySem.W.Frag} {mg : Str → Option Value} {base : Heap} (T : Tx K mg "are_answers" s_are_answers) (m_isinstance : mg "isinstance" = none) (m_tuple : mg "tuple" = none) (m_len : mg "len" = none) (d_is_unwinds : Df P w K mg base 3 "is_unwinds" ["modes", "points", "value"] p_is_unwinds) (d_are_ascending : Df P w K mg base 1 "are_ascending" ["names"] p_are_ascending) : Df P w K mg base 4 "are_answers" ["modes", "signals", "names", "points", "value"] p_are_answers := by
  refine df_ok T sc_are_answers (len_are_answers) (fun _ _ _ _ _ _ us hl => match us, hl with | [_, _, _, _, _], _ => rfl) (fun cdv A ou s H fa hr gd => ⟨_, (pss_cons (ps_if (pt_not (pt_truK K (pe_callB (call_isiKK K) (by rfl) m_isinstance (by decide +kernel) (pa_cons (pv 4) (pa_cons (pe_bltn (v := .ty "tuple") (by rfl) m_tuple (by decide +kernel) rfl) pa_nil))) (fun _ => rfl))) (pss_one (ps_ret pe_bl)) pss_nil) (pss_cons (ps_for PassesOwn.never rfl (pi_tupK K (pv 4)) (pg_name (i := 5) sc_are_answers.nd rfl (.inl rfl)) (pss_cons (ps_if (PW.pt (pw_or (pt_not (pt_truK K (pe_callB (call_isiKK K) (by rfl) m_isinstance (by decide +kernel) (pa_cons (pv 5) (pa_cons (pe_bltn (v := .ty "tuple") (by rfl) m_tuple (by decide +kernel) rfl) pa_nil))) (fun _ => rfl))) (pw_or1 (pt_cmpR (op_neK K hr.units) (pe_callB (call_lenK K) (by rfl) m_len (by decide +kernel) (pa_cons (pv 5) pa_nil)) pe_int (nomark _))))) (pss_one (ps_ret pe_bl)) pss_nil) (pss_cons (ps_if (PW.pt (pw_or (pt_cmpR (op_ninSE K (units65 hr)) (pe_ix (ix_K K) (pv 5) pe_int (fun _ _ => rfl)) (pv 1) (by rfl)) (pw_or1 (pt_cmpR (op_ninSE K (units65 hr)) (pe_ix (ix_K K) (pv 5) pe_int (fun _ _ => rfl)) (pv 2) (by rfl))))) (pss_one (ps_ret pe_bl)) pss_nil) (pss_one (ps_if (pt_not (pt_truK K (pe_callD d_is_unwinds (hr.mono (by decide)) gd (by rfl) (pa_cons (pv 0) (pa_cons (pv 3) (pa_cons (pe_ix (ix_K K) (pv 5) pe_int (fun _ _ => rfl)) pa_nil)))) (fun _ => rfl))) (pss_one (ps_ret pe_bl)) pss_nil))))) (pss_one (ps_ret (pe_callD d_are_ascending (hr.mono (by decide)) gd (by rfl) (pa_cons (pe_lc (own := [("answer", 5)]) rfl sc_are_answers.nd (pi_tupK K (pv 4)) (blkOk_by (N := N_are_answers) (sc := defScope s_are_answers) (by decide +kernel)) (fun _ _ _ _ _ => (pg_name (i := 5) sc_are_answers.nd rfl (.inl rfl))) (fun _ _ _ _ _ => pts_nil) (fun _ _ _ _ _ => (pe_ix (ix_K K) (pv 5) pe_int (fun _ _ => rfl)))) pa_nil)))))), ?_⟩)
  rintro ds M R ⟨m, n, ss, ns, d, rfl, ok, q⟩
  show DS K _ [some (nD m), some (.tup (sD ss)), some (.lst (sD ns)), some (nD n), some d, none] M _
  walk_at "x0"
  walk_at "nx"
  refine dc_isTup ⟨okV_tp ok, ?_⟩
  walk_at "nx"
  cases d with
  | tup xs =>
    obtain ⟨few, ok⟩ := okV_tup ok
    refine ite_1 ?_
    walk_at "nx"
    refine ds_forP [5] ?_
    walk_at "x0"
    walk_at "nx"
    have out : ∀ {i : Nat} {d : D}, xs[i]? = some d → ansOk m ss ns n d = false → R (.bl false) M := fun hd h => by
      rw [show ansF m ss ns n (.tup xs) = (xs.all (ansOk m ss ns n) && asc (xs.map fstD)) from rfl, all_no hd h] at q
      exact q
    refine ⟨fun i M2 => M2 = M ∧ ∀ x, x ∈ xs.take i → ansOk m ss ns n x = true, ⟨rfl, fun x hx => by simp at hx⟩, fun i d M2 hd hM => ?_, fun M2 hM => ?_⟩
    · obtain ⟨rfl, hw⟩ := hM
      have okd := ok d (List.mem_of_getElem? hd)
      walk_at "x0"
      walk_at "nx"
      refine dc_isTup ⟨okV_tp okd, ?_⟩
      walk_at "nx"
      cases d with
      | tup ys =>
        obtain ⟨fy, oky⟩ := okV_tup okd
        refine ite_1 ?_
        walk_at "nx"
        refine (show DR K (rNeD K) (nD ys.length) (nD 3) _ _ from dr_neNN ?_)
        by_cases h2 : ys.length = 3
        · rw [decide_eq_true h2]
          obtain ⟨a, b, c, rfl⟩ := three_of h2
          walk_at "nx"
          refine dr_ixTE ⟨a, rfl, ?_⟩
          walk_at "nx"
          refine dr_notIn (ys := ss) ⟨okV_Lay (oky a (by simp)), .inr rfl, ?_⟩
          walk_at "nx"
          cases e1 : isIn a ss with
          | false =>
            walk_at "nx"
            exact out hd (by show (isIn a ss && _ && _) = false; rw [e1]; rfl)
          | true =>
            walk_at "nx"
            refine dr_ixTE ⟨b, rfl, ?_⟩
            walk_at "nx"
            refine dr_notIn (ys := ns) ⟨okV_Lay (oky b (by simp)), .inl rfl, ?_⟩
            walk_at "nx"
            cases e2 : isIn b ns with
            | false =>
              walk_at "nx"
              exact out hd (by show (isIn a ss && isIn b ns && _) = false; rw [e1, e2]; rfl)
            | true =>
              walk_at "nx"
              refine dr_ixTE ⟨c, rfl, ?_⟩
              walk_at "nx"
              refine use_unw ⟨oky c (by simp), ?_⟩
              walk_at "nx"
              cases e3 : unwF m n c with
              | false =>
                refine ite_0 ?_
                walk_at "nx"
                exact out hd (by show (isIn a ss && isIn b ns && unwF m n c) = false; rw [e1, e2, e3]; rfl)
              | true =>
                refine ite_1 ?_
                walk_at "nx"
                exact ⟨rfl, rfl, take_more hd hw (by show (isIn a ss && isIn b ns && unwF m n c) = true; rw [e1, e2, e3]; rfl)⟩
        · rw [decide_eq_false h2]
          walk_at "nx"
          exact out hd (ansOk_no h2)
      | _ =>
        refine ite_0 ?_
        walk_at "nx"
        exact out hd rfl
    · obtain ⟨rfl, hw⟩ := hM
      rw [List.take_length] at hw
      walk_at "nx"
      refine de_map (by simp) ?_
      walk_at "nx"
      refine ⟨by rw [sizeLine_eq]; omega, fstD, fun d hd => ?_, ?_⟩
      · obtain ⟨y, b, c, rfl⟩ := ansOk_tup (hw d hd)
        walk_at "x0"
        walk_at "nx"
        exact dr_ixTE ⟨.str y, rfl, rfl, rfl⟩
      · walk_at "nx"
        refine use_asc (.inr rfl) ⟨by rw [List.length_map]; exact few, .inr fun x hx => ?_, ?_⟩
        · obtain ⟨d, hd, rfl⟩ := List.mem_map.mp hx
          obtain ⟨y, b, c, rfl⟩ := ansOk_tup (hw d hd)
          exact ⟨y, rfl⟩
        · rw [show ansF m ss ns n (.tup xs) = (xs.all (ansOk m ss ns n) && asc (xs.map fstD)) from rfl, List.all_eq_true.mpr hw] at q
          exact q
  | _ =>
    refine ite_0 ?_
    walk_at "nx"
    exact q
theorem use_ans {M : Mem} {Q : D → Mem → Prop} {m n : Nat} {ss ns : List Str} {d : D} (h : okV d ∧ Q (.bl (ansF m ss ns n d)) M) : p_are_answers [nD m, .tup (sD ss), .lst (sD ns), nD n, d] M Q := ⟨m, n, ss, ns, d, rfl, h⟩

/-! ### moves and rows -/
def movF (m : Nat) (ss ns : List Str) (n : Nat) : D → Bool
  | .tup (.str k :: p :: r) => isIdx p n && (
      if k = "leave" then r.isEmpty else match r with
      | p2 :: r2 => isIdx p2 n && (
          if k = "go" then (match r2 with | [a, b] => isIdx a m && isIdx b m | _ => false)
          else if k = "raise" then (match r2 with | [a] => isIn a ss | _ => false)
          else if k = "call" then (match r2 with | [a, b] => isIn a ns && ansF m ss ns n b | _ => false)
          else false)
      | [] => false)
  | _ => false
def p_is_move : PT0 := fun ds M R => ∃ (m n : Nat) (ss ns : List Str) (d : D), ds = [nD m, .tup (sD ss), .lst (sD ns), nD n, d] ∧ okV d ∧ R (.bl (movF m ss ns n d)) M
theorem len_is_move : ∀ ds M R, p_is_move ds M R → ds.length = 5 := fun _ _ _ ⟨_, _, _, _, _, e, _⟩ => by rw [e]; rfl
theorem at0 {a : D} {r : List D} : atI (a :: r) 0 = some a := atI_nat (j := 0) rfl
theorem at1 {a b : D} {r : List D} : atI (a :: b :: r) 1 = some b := atI_nat (j := 1) rfl
theorem at2 {a b c : D} {r : List D} : atI (a :: b :: c :: r) 2 = some c := atI_nat (j := 2) rfl
theorem at3 {a b c d : D} {r : List D} : atI (a :: b :: c :: d :: r) 3 = some d := atI_nat (j := 3) rfl
theorem at4 {a b c d e : D} {r : List D} : atI (a :: b :: c :: d :: e :: r) 4 = some e := atI_nat (j := 4) rfl
theorem movF_short {m n : Nat} {ss ns : List Str} {xs : List D} (h : (xs.length : Int) < 2) : movF m ss ns n (.tup xs) = false := by
  match xs, h with
  | [], _ => rfl
  | [x], _ => cases x <;> rfl
  | _ :: _ :: _, h => exfalso; simp only [List.length_cons] at h; omega
theorem two_more {xs : List D} (h : ¬ (xs.length : Int) < 2) : ∃ k p r, xs = k :: p :: r := by
  match xs, h with
  | [], h => exact absurd (by decide) h
  | [x], h => exact absurd (by show ((1 : Nat) : Int) < 2; decide) h
  | k :: p :: r, _ => exact ⟨k, p, r, rfl⟩
/-- what stands behind the kind and the first place -/
def restF (m : Nat) (ss ns : List Str) (n : Nat) (k : Str) (r : List D) : Bool :=
  if k = "leave" then r.isEmpty else match r with
  | p2 :: r2 => isIdx p2 n && (
      if k = "go" then (match r2 with | [a, b] => isIdx a m && isIdx b m | _ => false)
      else if k = "raise" then (match r2 with | [a] => isIn a ss | _ => false)
      else if k = "call" then (match r2 with | [a, b] => isIn a ns && ansF m ss ns n b | _ => false)
      else false)
  | [] => false
theorem movF_eq {m n : Nat} {ss ns : List Str} {k : Str} {p : D} {r : List D} : movF m ss ns n (.tup (.str k :: p :: r)) = (isIdx p n && restF m ss ns n k r) := rfl
theorem restF_leave {m n : Nat} {ss ns : List Str} {k : Str} {p : D} {r : List D} (h : k = "leave") : restF m ss ns n k r = decide ((D.str k :: p :: r).length = 2) := by
  unfold restF
  rw [if_pos h]
  cases r with
  | nil => rfl
  | cons a r => simp
theorem restF_short {m n : Nat} {ss ns : List Str} {k : Str} {p : D} {r : List D} (h : ¬ k = "leave") (h4 : ((D.str k :: p :: r).length : Int) < 4) : restF m ss ns n k r = false := by
  unfold restF
  rw [if_neg h]
  match r, h4 with
  | [], _ => rfl
  | [x], _ => simp
  | _ :: _ :: _, h4 => exfalso; simp only [List.length_cons] at h4; omega
theorem four_more {k p : D} {r : List D} (h4 : ¬ ((k :: p :: r).length : Int) < 4) : ∃ p2 a r3, r = p2 :: a :: r3 := by
  match r, h4 with
  | [], h4 => exact absurd (by show ((2 : Nat) : Int) < 4; decide) h4
  | [x], h4 => exact absurd (by show ((3 : Nat) : Int) < 4; decide) h4
  | p2 :: a :: r3, _ => exact ⟨p2, a, r3, rfl⟩
/-- what stands behind both places -/
def endF (m : Nat) (ss ns : List Str) (n : Nat) (k : Str) (r2 : List D) : Bool :=
  if k = "go" then (match r2 with | [a, b] => isIdx a m && isIdx b m | _ => false)
  else if k = "raise" then (match r2 with | [a] => isIn a ss | _ => false)
  else if k = "call" then (match r2 with | [a, b] => isIn a ns && ansF m ss ns n b | _ => false)
  else false
theorem restF_eq {m n : Nat} {ss ns : List Str} {k : Str} {p2 : D} {r2 : List D} (h : ¬ k = "leave") : restF m ss ns n k (p2 :: r2) = (isIdx p2 n && endF m ss ns n k r2) := by
  unfold restF
  rw [if_neg h]; rfl
theorem one_of {xs : List D} (h : xs.length = 1) : ∃ b, xs = [b] := by
  match xs, h with
  | [b], _ => exact ⟨b, rfl⟩
theorem ok_is_move {P : Program} {w : World} {K : PySem.W.Frag} {mg : Str → Option Value} {base : Heap} (T : Tx K mg "is_move" s_is_move) (m_isinstance : mg "isinstance" = none) (m_tuple : mg "tuple" = none) (m_len : mg "len" = none) (m_str : mg "str" = none) (d_is_index : Df P w K mg base 2 "is_index" ["value", "many"] p_is_index) (d_are_answers : Df P w K mg base 4 "are_answers" ["modes", "signals", "names", "points", "value"] p_are_answers) : Df P w K mg base 5 "is_move" ["modes", "signals", "names", "points", "value"] p_is_move := by
  refine df_ok T sc_is_move (len_is_move) (fun _ _ _ _ _ _ us hl => match us, hl with | [_, _, _, _, _], _ => rfl) (fun cdv A ou s H fa hr gd => ⟨_, (pss_cons (ps_if (PW.pt (pw_or (pt_not (pt_truK K (pe_callB (call_isiKK K) (by rfl) m_isinstance (by decide +kernel) (pa_cons (pv 4) (pa_cons (pe_bltn (v := .ty "tuple") (by rfl) m_tuple (by decide +kernel) rfl) pa_nil))) (fun _ => rfl))) (pw_or (pt_cmpR op_lt (pe_callB (call_lenK K) (by rfl) m_len (by decide +kernel) (pa_cons (pv 4) pa_nil)) pe_int (nomark _)) (pw_or1 (pt_not (pt_truK K (pe_callB (call_isiKK K) (by rfl) m_isinstance (by decide +kernel) (pa_cons (pe_ix (ix_K K) (pv 4) pe_int (fun _ _ => rfl)) (pa_cons (pe_bltn (v := .ty "str") (by rfl) m_str (by decide +kernel) rfl) pa_nil))) (fun _ => rfl))))))) (pss_one (ps_ret pe_bl)) pss_nil) (pss_cons (ps_if (pt_not (pt_truK K (pe_callD d_is_index (hr.mono (by decide)) gd (by rfl) (pa_cons (pe_ix (ix_K K) (pv 4) pe_int (fun _ _ => rfl)) (pa_cons (pv 3) pa_nil))) (fun _ => rfl))) (pss_one (ps_ret pe_bl)) pss_nil) (pss_cons (ps_if (pt_cmpR op_eq (pe_ix (ix_K K) (pv 4) pe_int (fun _ _ => rfl)) pe_str (nomark _)) (pss_one (ps_ret (pe_cmpR (op_eqK K hr.units) (pe_callB (call_lenK K) (by rfl) m_len (by decide +kernel) (pa_cons (pv 4) pa_nil)) pe_int (nomark _)))) pss_nil) (pss_cons (ps_if (PW.pt (pw_or (pt_cmpR op_lt (pe_callB (call_lenK K) (by rfl) m_len (by decide +kernel) (pa_cons (pv 4) pa_nil)) pe_int (nomark _)) (pw_or1 (pt_not (pt_truK K (pe_callD d_is_index (hr.mono (by decide)) gd (by rfl) (pa_cons (pe_ix (ix_K K) (pv 4) pe_int (fun _ _ => rfl)) (pa_cons (pv 3) pa_nil))) (fun _ => rfl)))))) (pss_one (ps_ret pe_bl)) pss_nil) (pss_cons (ps_if (pt_cmpR op_eq (pe_ix (ix_K K) (pv 4) pe_int (fun _ _ => rfl)) pe_str (nomark _)) (pss_one (ps_ret (pe_and (pe_cmpR (op_eqK K hr.units) (pe_callB (call_lenK K) (by rfl) m_len (by decide +kernel) (pa_cons (pv 4) pa_nil)) pe_int (nomark _)) (pe_and (pe_callD d_is_index (hr.mono (by decide)) gd (by rfl) (pa_cons (pe_ix (ix_K K) (pv 4) pe_int (fun _ _ => rfl)) (pa_cons (pv 0) pa_nil))) (pe_one (pe_callD d_is_index (hr.mono (by decide)) gd (by rfl) (pa_cons (pe_ix (ix_K K) (pv 4) pe_int (fun _ _ => rfl)) (pa_cons (pv 0) pa_nil)))))))) pss_nil) (pss_cons (ps_if (pt_cmpR op_eq (pe_ix (ix_K K) (pv 4) pe_int (fun _ _ => rfl)) pe_str (nomark _)) (pss_one (ps_ret (pe_and (pe_cmpR (op_eqK K hr.units) (pe_callB (call_lenK K) (by rfl) m_len (by decide +kernel) (pa_cons (pv 4) pa_nil)) pe_int (nomark _)) (pe_one (pe_cmpR (op_inSE K (units65 hr)) (pe_ix (ix_K K) (pv 4) pe_int (fun _ _ => rfl)) (pv 1) (by rfl)))))) pss_nil) (pss_cons (ps_if (PW.pt (pw_or (pt_cmpR op_ne (pe_ix (ix_K K) (pv 4) pe_int (fun _ _ => rfl)) pe_str (nomark _)) (pw_or (pt_cmpR (op_neK K hr.units) (pe_callB (call_lenK K) (by rfl) m_len (by decide +kernel) (pa_cons (pv 4) pa_nil)) pe_int (nomark _)) (pw_or1 (pt_cmpR (op_ninSE K (units65 hr)) (pe_ix (ix_K K) (pv 4) pe_int (fun _ _ => rfl)) (pv 2) (by rfl)))))) (pss_one (ps_ret pe_bl)) pss_nil) (pss_one (ps_ret (pe_callD d_are_answers (hr.mono (by decide)) gd (by rfl) (pa_cons (pv 0) (pa_cons (pv 1) (pa_cons (pv 2) (pa_cons (pv 3) (pa_cons (pe_ix (ix_K K) (pv 4) pe_int (fun _ _ => rfl)) pa_nil))))))))))))))), ?_⟩)
  rintro ds M R ⟨m, n, ss, ns, d, rfl, ok, q⟩
  show DS K _ [some (nD m), some (.tup (sD ss)), some (.lst (sD ns)), some (nD n), some d] M _
  walk_at "x0"
  walk_at "nx"
  refine dc_isTup ⟨okV_tp ok, ?_⟩
  walk_at "nx"
  cases d with
  | tup xs =>
    obtain ⟨few, ok⟩ := okV_tup ok
    refine ite_1 ?_
    walk_at "nx"
    · rename_i hb
      rw [movF_short hb] at q
      exact q
    · rename_i hb
      obtain ⟨k, p, r, rfl⟩ := two_more hb
      refine dr_ixTE ⟨k, at0, ?_⟩
      walk_at "nx"
      refine dc_isStr ⟨okV_tp (ok k (by simp)), ?_⟩
      walk_at "nx"
      cases k with
      | str k =>
        refine ite_1 ?_
        walk_at "nx"
        refine dr_ixTE ⟨p, at1, ?_⟩
        walk_at "nx"
        refine use_idx ⟨okV_tp (ok p (by simp)), ?_⟩
        walk_at "nx"
        cases e1 : isIdx p n with
        | false =>
          refine ite_0 ?_
          walk_at "nx"
          rw [movF_eq, e1] at q
          exact q
        | true =>
          rw [movF_eq, e1, Bool.true_and] at q
          refine ite_1 ?_
          walk_at "nx"
          refine dr_ixTE ⟨.str k, at0, ?_⟩
          walk_at "nx"
          refine dr_eqStr ?_
          by_cases c1 : k = "leave"
          · rw [decide_eq_true c1]
            walk_at "nx"
            refine (show DR K (rEqD K) (nD (D.str k :: p :: r).length) (nD 2) _ _ from dr_eqNN ?_)
            rw [restF_leave c1] at q
            exact q
          · rw [decide_eq_false c1]
            walk_at "nx"
            · rename_i h4
              rw [restF_short c1 h4] at q
              exact q
            · rename_i h4
              obtain ⟨p2, a, r3, rfl⟩ := four_more h4
              refine dr_ixTE ⟨p2, at2, ?_⟩
              walk_at "nx"
              refine use_idx ⟨okV_tp (ok p2 (by simp)), ?_⟩
              walk_at "nx"
              cases e2 : isIdx p2 n with
              | false =>
                refine ite_0 ?_
                walk_at "nx"
                rw [restF_eq c1, e2] at q
                exact q
              | true =>
                rw [restF_eq c1, e2, Bool.true_and] at q
                unfold endF at q
                refine ite_1 ?_
                walk_at "nx"
                refine dr_ixTE ⟨.str k, at0, ?_⟩
                walk_at "nx"
                refine dr_eqStr ?_
                by_cases c2 : k = "go"
                · rw [decide_eq_true c2]
                  rw [if_pos c2] at q
                  walk_at "nx"
                  refine (show DR K (rEqD K) (nD (D.str k :: p :: p2 :: a :: r3).length) (nD 5) _ _ from dr_eqNN ?_)
                  by_cases h5 : (D.str k :: p :: p2 :: a :: r3).length = 5
                  · rw [decide_eq_true h5]
                    obtain ⟨b, rfl⟩ := one_of (show r3.length = 1 from by simp only [List.length_cons] at h5; omega)
                    have q : R (.bl (isIdx a m && isIdx b m)) M := q
                    walk_at "nx"
                    refine dr_ixTE ⟨a, at3, ?_⟩
                    walk_at "nx"
                    refine use_idx ⟨okV_tp (ok a (by simp)), ?_⟩
                    walk_at "nx"
                    cases e3 : isIdx a m with
                    | false =>
                      rw [e3] at q
                      refine ite_0 ?_
                      exact q
                    | true =>
                      rw [e3, Bool.true_and] at q
                      refine ite_1 ?_
                      walk_at "nx"
                      refine dr_ixTE ⟨b, at4, ?_⟩
                      walk_at "nx"
                      exact use_idx ⟨okV_tp (ok b (by simp)), q⟩
                  · rw [decide_eq_false h5]
                    walk_at "nx"
                    match r3, h5, q with
                    | [], _, q => exact q
                    | [b], h5, _ => exact absurd rfl h5
                    | _ :: _ :: _, _, q => exact q
                · rw [decide_eq_false c2]
                  rw [if_neg c2] at q
                  walk_at "nx"
                  refine dr_ixTE ⟨.str k, at0, ?_⟩
                  walk_at "nx"
                  refine dr_eqStr ?_
                  by_cases c3 : k = "raise"
                  · rw [decide_eq_true c3]
                    rw [if_pos c3] at q
                    walk_at "nx"
                    refine (show DR K (rEqD K) (nD (D.str k :: p :: p2 :: a :: r3).length) (nD 4) _ _ from dr_eqNN ?_)
                    by_cases h5 : (D.str k :: p :: p2 :: a :: r3).length = 4
                    · rw [decide_eq_true h5]
                      obtain rfl := List.eq_nil_of_length_eq_zero (show r3.length = 0 from by simp only [List.length_cons] at h5; omega)
                      have q : R (.bl (isIn a ss)) M := q
                      walk_at "nx"
                      refine dr_ixTE ⟨a, at3, ?_⟩
                      walk_at "nx"
                      exact dr_isIn (ys := ss) ⟨okV_Lay (ok a (by simp)), .inr rfl, q⟩
                    · rw [decide_eq_false h5]
                      walk_at "nx"
                      match r3, h5, q with
                      | [], h5, _ => exact absurd rfl h5
                      | _ :: _, _, q => exact q
                  · rw [decide_eq_false c3]
                    rw [if_neg c3] at q
                    walk_at "nx"
                    refine dr_ixTE ⟨.str k, at0, ?_⟩
                    walk_at "nx"
                    refine dr_neStr ?_
                    by_cases c4 : k = "call"
                    · rw [decide_eq_true c4]
                      rw [if_pos c4] at q
                      walk_at "nx"
                      refine (show DR K (rNeD K) (nD (D.str k :: p :: p2 :: a :: r3).length) (nD 5) _ _ from dr_neNN ?_)
                      by_cases h5 : (D.str k :: p :: p2 :: a :: r3).length = 5
                      · rw [decide_eq_true h5]
                        obtain ⟨b, rfl⟩ := one_of (show r3.length = 1 from by simp only [List.length_cons] at h5; omega)
                        have q : R (.bl (isIn a ns && ansF m ss ns n b)) M := q
                        walk_at "nx"
                        refine dr_ixTE ⟨a, at3, ?_⟩
                        walk_at "nx"
                        refine dr_notIn (ys := ns) ⟨okV_Lay (ok a (by simp)), .inl rfl, ?_⟩
                        walk_at "nx"
                        cases e3 : isIn a ns with
                        | false =>
                          rw [e3] at q
                          walk_at "nx"
                          exact q
                        | true =>
                          rw [e3, Bool.true_and] at q
                          walk_at "nx"
                          refine dr_ixTE ⟨b, at4, ?_⟩
                          walk_at "nx"
                          exact use_ans ⟨ok b (by simp), q⟩
                      · rw [decide_eq_false h5]
                        walk_at "nx"
                        match r3, h5, q with
                        | [], _, q => exact q
                        | [b], h5, _ => exact absurd rfl h5
                        | _ :: _ :: _, _, q => exact q
                    · rw [decide_eq_false c4]
                      rw [if_neg c4] at q
                      walk_at "nx"
                      exact q
      | _ =>
        refine ite_0 ?_
        walk_at "nx"
        exact q
  | _ =>
    refine ite_0 ?_
    walk_at "nx"
    exact q

theorem use_move {M : Mem} {Q : D → Mem → Prop} {m n : Nat} {ss ns : List Str} {d : D} (h : okV d ∧ Q (.bl (movF m ss ns n d)) M) : p_is_move [nD m, .tup (sD ss), .lst (sD ns), nD n, d] M Q := ⟨m, n, ss, ns, d, rfl, h⟩
/-! ### different texts -/
def nub : List Str → List Str
  | [] => []
  | x :: r => if x ∈ r then nub r else x :: nub r
theorem mem_nub {z : Str} : ∀ {l : List Str}, z ∈ nub l ↔ z ∈ l
  | [] => Iff.rfl
  | x :: r => by
    unfold nub
    by_cases h : x ∈ r
    · rw [if_pos h, mem_nub, List.mem_cons]
      exact ⟨.inr, fun q => q.elim (fun e => e ▸ h) id⟩
    · rw [if_neg h, List.mem_cons, List.mem_cons, mem_nub]
theorem nub_nodup : ∀ l : List Str, (nub l).Nodup
  | [] => List.nodup_nil
  | x :: r => by
    unfold nub
    by_cases h : x ∈ r
    · rw [if_pos h]; exact nub_nodup r
    · rw [if_neg h]; exact List.nodup_cons.mpr ⟨fun q => h (mem_nub.mp q), nub_nodup r⟩
theorem nub_len {L l : List Str} (nd : L.Nodup) (h : ∀ k, k ∈ L ↔ k ∈ l) : L.length = (nub l).length := ((List.perm_ext_iff_of_nodup nd (nub_nodup l)).mpr fun k => (h k).trans mem_nub.symm).length_eq
def diff (l : List Str) : Bool := decide ((nub l).length = l.length)
/-! ### rows -/
def rowF : D → Bool
  | .tup [a, b, .tup ms] => isN a && isIdx b 5 && !isIdx b 1 && decide (ms.length ≤ 6)
  | _ => false
def p_has_row_form : PT0 := fun ds M R => ∃ d : D, ds = [d] ∧ okV d ∧ R (.bl (rowF d)) M
theorem len_has_row_form : ∀ ds M R, p_has_row_form ds M R → ds.length = 1 := fun _ _ _ ⟨_, e, _⟩ => by rw [e]; rfl
theorem rowF_no {xs : List D} (h : xs.length ≠ 3) : rowF (.tup xs) = false := by
  match xs, h with
  | [], _ => rfl
  | [_], _ => rfl
  | [_, _], _ => rfl
  | [_, _, _], h => exact absurd rfl h
  | _ :: _ :: c :: _ :: _, _ => cases c <;> rfl
def mvs : D → Option Nat
  | .tup ms => some ms.length | _ => none
theorem rowF_eq {a b c : D} : rowF (.tup [a, b, c]) = (isN a && isIdx b 5 && !isIdx b 1 && match mvs c with | some k => decide (k ≤ 6) | none => false) := by
  cases c with
  | tup ms => rfl
  | _ => show false = _; simp [mvs]
theorem isIdx_nat {d : D} {m : Nat} (h : isIdx d m = true) : ∃ j : Nat, d = nD j ∧ j < m := by
  cases d with
  | int i =>
    have h : 0 ≤ i ∧ i < (m : Int) := of_decide_eq_true h
    exact ⟨i.toNat, by show D.int i = D.int (i.toNat : Int); rw [Int.toNat_of_nonneg h.1], by omega⟩
  | _ => cases h
theorem ok_has_row_form {P : Program} {w : World} {K : PySem.W.Frag} {mg : Str → Option Value} {base : Heap} (T : Tx K mg "has_row_form" s_has_row_form) (m_isinstance : mg "isinstance" = none) (m_tuple : mg "tuple" = none) (m_len : mg "len" = none) (d_is_name : Df P w K mg base 1 "is_name" ["value"] p_is_name) (d_is_index : Df P w K mg base 2 "is_index" ["value", "many"] p_is_index) (c_MAX_POINTS : GlK mg "MAX_POINTS" (.int 4)) (c_MAX_MOVES : GlK mg "MAX_MOVES" (.int 6)) : Df P w K mg base 3 "has_row_form" ["value"] p_has_row_form := by
  refine df_ok T sc_has_row_form (len_has_row_form) (fun _ _ _ _ _ _ us hl => match us, hl with | [_], _ => rfl) (fun cdv A ou s H fa hr gd => ⟨_, (pss_cons (ps_if (PW.pt (pw_or (pt_not (pt_truK K (pe_callB (call_isiKK K) (by rfl) m_isinstance (by decide +kernel) (pa_cons (pv 0) (pa_cons (pe_bltn (v := .ty "tuple") (by rfl) m_tuple (by decide +kernel) rfl) pa_nil))) (fun _ => rfl))) (pw_or (pt_cmpR (op_neK K hr.units) (pe_callB (call_lenK K) (by rfl) m_len (by decide +kernel) (pa_cons (pv 0) pa_nil)) pe_int (nomark _)) (pw_or1 (pt_not (pt_truK K (pe_callD d_is_name (hr.mono (by decide)) gd (by rfl) (pa_cons (pe_ix (ix_K K) (pv 0) pe_int (fun _ _ => rfl)) pa_nil)) (fun _ => rfl))))))) (pss_one (ps_ret pe_bl)) pss_nil) (pss_cons (ps_if (PW.pt (pw_or (pt_not (pt_truK K (pe_callD d_is_index (hr.mono (by decide)) gd (by rfl) (pa_cons (pe_ix (ix_K K) (pv 0) pe_int (fun _ _ => rfl)) (pa_cons (pe_op (op_addK K) (pe_globK c_MAX_POINTS (by rfl)) pe_int) pa_nil))) (fun _ => rfl))) (pw_or1 (pt_cmpR (op_eqK K hr.units) (pe_ix (ix_K K) (pv 0) pe_int (fun _ _ => rfl)) pe_int (nomark _))))) (pss_one (ps_ret pe_bl)) pss_nil) (pss_one (ps_ret (pe_and (pe_callB (call_isiKK K) (by rfl) m_isinstance (by decide +kernel) (pa_cons (pe_ix (ix_K K) (pv 0) pe_int (fun _ _ => rfl)) (pa_cons (pe_bltn (v := .ty "tuple") (by rfl) m_tuple (by decide +kernel) rfl) pa_nil))) (pe_one (pe_cmpR op_le (pe_callB (call_lenK K) (by rfl) m_len (by decide +kernel) (pa_cons (pe_ix (ix_K K) (pv 0) pe_int (fun _ _ => rfl)) pa_nil)) (pe_globK c_MAX_MOVES (by rfl)) (nomark _)))))))), ?_⟩)
  rintro ds M R ⟨d, rfl, ok, q⟩
  show DS K _ [some d] M _
  walk_at "x0"
  walk_at "nx"
  refine dc_isTup ⟨okV_tp ok, ?_⟩
  walk_at "nx"
  cases d with
  | tup xs =>
    obtain ⟨few, ok⟩ := okV_tup ok
    refine ite_1 ?_
    walk_at "nx"
    refine (show DR K (rNeD K) (nD xs.length) (nD 3) _ _ from dr_neNN ?_)
    by_cases h3 : xs.length = 3
    · rw [decide_eq_true h3]
      obtain ⟨a, b, c, rfl⟩ := three_of h3
      rw [rowF_eq] at q
      walk_at "nx"
      refine dr_ixTE ⟨a, rfl, ?_⟩
      walk_at "nx"
      refine use_name ⟨ok a (by simp), ?_⟩
      walk_at "nx"
      cases e1 : isN a with
      | false =>
        rw [e1] at q
        refine ite_0 ?_
        walk_at "nx"
        exact q
      | true =>
        rw [e1, Bool.true_and] at q
        refine ite_1 ?_
        walk_at "nx"
        refine dr_ixTE ⟨b, rfl, ?_⟩
        walk_at "nx"
        refine (show p_is_index [b, nD 5] _ _ from use_idx ⟨okV_tp (ok b (by simp)), ?_⟩)
        walk_at "nx"
        cases e2 : isIdx b 5 with
        | false =>
          rw [e2] at q
          refine ite_0 ?_
          walk_at "nx"
          exact q
        | true =>
          rw [e2, Bool.true_and] at q
          obtain ⟨j, rfl, hj⟩ := isIdx_nat e2
          refine ite_1 ?_
          walk_at "nx"
          refine dr_ixTE ⟨nD j, rfl, ?_⟩
          walk_at "nx"
          · rename_i hb
            have h0 : j = 0 := by have : (j : Int) = 0 := by simpa using hb
                                  omega
            subst h0
            exact q
          · rename_i hb
            have h0 : ¬ j = 0 := fun e => hb (by subst e; rfl)
            rw [show isIdx (nD j) 1 = false from decide_eq_false (by omega), Bool.not_false, Bool.true_and] at q
            refine dr_ixTE ⟨c, rfl, ?_⟩
            walk_at "nx"
            refine dc_isTup ⟨okV_tp (ok c (by simp)), ?_⟩
            walk_at "nx"
            cases c with
            | tup ms =>
              have q : R (.bl (decide (ms.length ≤ 6))) M := q
              refine ite_1 ?_
              walk_at "nx"
              refine dr_ixTE ⟨.tup ms, rfl, ?_⟩
              walk_at "nx"
              rw [show (decide ((ms.length : Int) ≤ 6)) = decide (ms.length ≤ 6) from decide_eq_decide.mpr (by omega)]
              exact q
            | _ =>
              refine ite_0 ?_
              exact q
    · rw [decide_eq_false h3]
      walk_at "nx"
      rw [rowF_no h3] at q
      exact q
  | _ =>
    refine ite_0 ?_
    walk_at "nx"
    exact q
theorem use_row {M : Mem} {Q : D → Mem → Prop} {d : D} (h : okV d ∧ Q (.bl (rowF d)) M) : p_has_row_form [d] M Q := ⟨d, rfl, h⟩
theorem rowF_tup {d : D} (h : rowF d = true) : ∃ (y : Str) (j : Nat) (ms : List D), d = .tup [.str y, nD j, .tup ms] ∧ isW y = true ∧ ms.length ≤ 6 := by
  match d, h with
  | .tup [a, b, .tup ms], h =>
    have h : (isN a && isIdx b 5 && !isIdx b 1 && decide (ms.length ≤ 6)) = true := h
    rw [Bool.and_eq_true, Bool.and_eq_true, Bool.and_eq_true] at h
    obtain ⟨⟨⟨h1, h2⟩, _⟩, h3⟩ := h
    obtain ⟨j, rfl, _⟩ := isIdx_nat h2
    cases a with
    | str y => exact ⟨y, j, ms, rfl, h1, of_decide_eq_true h3⟩
    | _ => cases h1
def strOf : D → Str
  | .str y => y | _ => ""
def nmF : D → Str
  | .tup (.str y :: _) => y | _ => ""
def ptF : D → Nat
  | .tup [_, .int j, _] => j.toNat | _ => 0
def msF : D → List D
  | .tup [_, _, .tup ms] => ms | _ => []
def chartF (m : Nat) (ss : List Str) : D → Bool
  | .tup xs => decide (1 ≤ xs.length ∧ xs.length ≤ 4) && (xs.all rowF && (diff (xs.map nmF) && xs.all fun x => (msF x).all (movF m ss (xs.map nmF) (ptF x))))
  | _ => false
def p_fits_chart : PT0 := fun ds M R => ∃ (m : Nat) (ss : List Str) (d : D), ds = [nD m, .tup (sD ss), d] ∧ okV d ∧ R (.bl (chartF m ss d)) M
theorem len_fits_chart : ∀ ds M R, p_fits_chart ds M R → ds.length = 3 := fun _ _ _ ⟨_, _, _, e, _⟩ => by rw [e]; rfl
theorem ok_fits_chart {P : Program} {w : World} {K : PySem.W.Frag} {mg : Str → Option Value} {base : Heap} (T : Tx K mg "fits_chart" s_fits_chart) (m_isinstance : mg "isinstance" = none) (m_tuple : mg "tuple" = none) (m_len : mg "len" = none) (c_MAX_ROWS : GlK mg "MAX_ROWS" (.int 4)) (m_all : mg "all" = none) (d_has_row_form : Df P w K mg base 3 "has_row_form" ["value"] p_has_row_form) (m_set : mg "set" = none) (d_is_move : Df P w K mg base 5 "is_move" ["modes", "signals", "names", "points", "value"] p_is_move) : Df P w K mg base 6 "fits_chart" ["modes", "signals", "value"] p_fits_chart := by
  refine df_ok T sc_fits_chart (len_fits_chart) (fun _ _ _ _ _ _ us hl => match us, hl with | [_, _, _], _ => rfl) (fun cdv A ou s H fa hr gd => ⟨_, (pss_cons (ps_if (PW.pt (pw_or (pt_not (pt_truK K (pe_callB (call_isiKK K) (by rfl) m_isinstance (by decide +kernel) (pa_cons (pv 2) (pa_cons (pe_bltn (v := .ty "tuple") (by rfl) m_tuple (by decide +kernel) rfl) pa_nil))) (fun _ => rfl))) (pw_or1 (pt_not (pt_chain op_le op_le pe_int (pe_callB (call_lenK K) (by rfl) m_len (by decide +kernel) (pa_cons (pv 2) pa_nil)) (pe_globK c_MAX_ROWS (by rfl))))))) (pss_one (ps_ret pe_bl)) pss_nil) (pss_cons (ps_if (pt_not (pt_truK K (pe_callB (call_allK K) (by rfl) m_all (by decide +kernel) (pa_cons (pe_lc (own := [("row", 4)]) rfl sc_fits_chart.nd (pi_tupK K (pv 2)) (blkOk_by (N := N_fits_chart) (sc := defScope s_fits_chart) (by decide +kernel)) (fun _ _ _ _ _ => (pg_name (i := 4) sc_fits_chart.nd rfl (.inl rfl))) (fun _ _ _ _ _ => pts_nil) (fun _ _ _ _ _ => (pe_callD d_has_row_form (hr.mono (by decide)) gd (by rfl) (pa_cons (pv 4) pa_nil)))) pa_nil)) (fun _ => rfl))) (pss_one (ps_ret pe_bl)) pss_nil) (pss_cons (ps_set (i := 3) sc_fits_chart.nd rfl (.inr rfl) (pe_lc (own := [("row", 4)]) rfl sc_fits_chart.nd (pi_tupK K (pv 2)) (blkOk_by (N := N_fits_chart) (sc := defScope s_fits_chart) (by decide +kernel)) (fun _ _ _ _ _ => (pg_name (i := 4) sc_fits_chart.nd rfl (.inl rfl))) (fun _ _ _ _ _ => pts_nil) (fun _ _ _ _ _ => (pe_ix (ix_K K) (pv 4) pe_int (fun _ _ => rfl))))) (pss_cons (ps_if (pt_cmpR (op_neK K hr.units) (pe_lenSetSK K (by rfl) m_len (by rfl) m_set (pv 3)) (pe_callB (call_lenK K) (by rfl) m_len (by decide +kernel) (pa_cons (pv 3) pa_nil)) (nomark _)) (pss_one (ps_ret pe_bl)) pss_nil) (pss_one (ps_ret (pe_callB (call_allK K) (by rfl) m_all (by decide +kernel) (pa_cons (pe_lc2 (own := [("row", 4), ("move", 5)]) (vs1 := [5]) rfl sc_fits_chart.nd (pi_tupK K (pv 2)) (blkOk_by (N := N_fits_chart) (sc := defScope s_fits_chart) (by decide +kernel)) (by decide) (fun _ _ _ _ _ => (pg_name (i := 4) sc_fits_chart.nd rfl (.inl rfl))) (fun _ _ _ _ _ => pts_nil) (fun _ _ _ _ _ => (pi_tupK K (pe_ix (ix_K K) (pv 4) pe_int (fun _ _ => rfl)))) (fun _ _ _ _ _ => (pg_name (i := 5) sc_fits_chart.nd rfl (.inl rfl))) (fun _ _ _ _ _ => pts_nil) (fun _ _ _ _ _ => (pe_callD d_is_move (hr.mono (by decide)) gd (by rfl) (pa_cons (pv 0) (pa_cons (pv 1) (pa_cons (pv 3) (pa_cons (pe_ix (ix_K K) (pv 4) pe_int (fun _ _ => rfl)) (pa_cons (pv 5) pa_nil)))))))) pa_nil)))))))), ?_⟩)
  rintro ds M R ⟨m, ss, d, rfl, ok, q⟩
  show DS K _ [some (nD m), some (.tup (sD ss)), some d, none, none, none] M _
  walk_at "x0"
  walk_at "nx"
  refine dc_isTup ⟨okV_tp ok, ?_⟩
  walk_at "nx"
  cases d with
  | tup xs =>
    obtain ⟨few, ok⟩ := okV_tup ok
    refine ite_1 ?_
    walk_at "nx"
    · rename_i l1 l4
      rw [show chartF m ss (.tup xs) = (decide (1 ≤ xs.length ∧ xs.length ≤ 4) && (xs.all rowF && (diff (xs.map nmF) && xs.all fun x => (msF x).all (movF m ss (xs.map nmF) (ptF x))))) from rfl, decide_eq_true (show 1 ≤ xs.length ∧ xs.length ≤ 4 from ⟨by omega, by omega⟩), Bool.true_and] at q
      refine de_CB ?_
      walk_at "nx"
      refine de_map (by simp) ?_
      walk_at "nx"
      refine ⟨by rw [sizeLine_eq]; omega, fun x => .bl (rowF x), fun x hx => ?_, ?_⟩
      · walk_at "x0"
        walk_at "nx"
        exact use_row ⟨ok x hx, rfl, rfl⟩
      · walk_at "nx"
        refine dc_allE ⟨xs.map rowF, by rw [List.map_map]; rfl, ?_⟩
        rw [List.all_map]
        walk_at "nx"
        rw [show xs.all (id ∘ rowF) = xs.all rowF from rfl]
        cases e1 : xs.all rowF with
        | false =>
          rw [e1] at q
          refine ite_0 ?_
          walk_at "nx"
          exact q
        | true =>
          rw [e1, Bool.true_and] at q
          have rows := List.all_eq_true.mp e1
          refine ite_1 ?_
          walk_at "nx"
          refine de_map (by simp) ?_
          walk_at "nx"
          refine ⟨by rw [sizeLine_eq]; omega, fun x => .str (nmF x), fun x hx => ?_, ?_⟩
          · obtain ⟨y, j, ms, rfl, _, _⟩ := rowF_tup (rows x hx)
            walk_at "x0"
            walk_at "nx"
            exact dr_ixTE ⟨.str y, rfl, rfl, rfl⟩
          · rw [show (xs.map fun x => D.str (nmF x)) = sD (xs.map nmF) from by show _ = (xs.map nmF).map D.str; rw [List.map_map]; rfl]
            walk_at "nx"
            refine de_lenSetS ?_
            walk_at "nx"
            refine ⟨xs.map nmF, .inr rfl, by rw [List.length_map]; exact few, fun L nd mm => ?_⟩
            have e2 := nub_len nd mm
            walk_at "nx"
            · rename_i hb
              have hd : diff (xs.map nmF) = true := decide_eq_true (by rw [List.length_map] at hb ⊢; rw [List.length_map] at hb; omega)
              rw [hd, Bool.true_and] at q
              refine de_CB ?_
              walk_at "nx"
              refine de_map2V (by simp) (by simp) (by simp) ?_
              walk_at "nx"
              refine ⟨msF, fun x y => .bl (movF m ss (xs.map nmF) (ptF x) y), 6, by rw [sizeLine_eq]; omega, fun x hx => ?_, fun x hx => ?_, ?_⟩
              · obtain ⟨y, j, ms, rfl, _, h6⟩ := rowF_tup (rows x hx)
                exact h6
              · obtain ⟨y, j, ms, rfl, _, h6⟩ := rowF_tup (rows x hx)
                have okms := (okV_tup ((okV_tup (ok _ hx)).2 (.tup ms) (by simp))).2
                walk_at "x0"
                walk_at "nx"
                refine dr_ixTE ⟨.tup ms, rfl, ?_⟩
                walk_at "nx"
                refine ⟨rfl, rfl, fun e he => ?_⟩
                walk_at "x0"
                walk_at "nx"
                refine dr_ixTE ⟨nD j, rfl, ?_⟩
                walk_at "nx"
                exact use_move ⟨okms e he, rfl, rfl⟩
              · walk_at "nx"
                refine dc_allE ⟨xs.flatMap fun x => (msF x).map (movF m ss (xs.map nmF) (ptF x)), by rw [List.map_flatMap]; simp only [List.map_map]; rfl, ?_⟩
                rw [List.all_flatMap]
                simp only [List.all_map]
                exact q
            · rename_i hb
              have hd : diff (xs.map nmF) = false := decide_eq_false (by rw [List.length_map] at hb ⊢; rw [List.length_map] at hb; omega)
              rw [hd] at q
              exact q
    · rename_i l1 l4
      rw [show chartF m ss (.tup xs) = (decide (1 ≤ xs.length ∧ xs.length ≤ 4) && _) from rfl, decide_eq_false (show ¬ (1 ≤ xs.length ∧ xs.length ≤ 4) from fun h => l4 (by omega))] at q
      exact q
    · rename_i l1
      rw [show chartF m ss (.tup xs) = (decide (1 ≤ xs.length ∧ xs.length ≤ 4) && _) from rfl, decide_eq_false (show ¬ (1 ≤ xs.length ∧ xs.length ≤ 4) from fun h => l1 (by omega))] at q
      exact q
  | _ =>
    refine ite_0 ?_
    walk_at "nx"
    exact q

theorem use_fchart {M : Mem} {Q : D → Mem → Prop} {m : Nat} {ss : List Str} {d : D} (h : okV d ∧ Q (.bl (chartF m ss d)) M) : p_fits_chart [nD m, .tup (sD ss), d] M Q := ⟨m, ss, d, rfl, h⟩
/-! ### signals -/
def nmsF (ss : List Str) : Bool := ss.all isW && diff ss
def p_are_names : PT0 := fun ds M R => ∃ ss : List Str, ds = [.tup (sD ss)] ∧ okV (.tup (sD ss)) ∧ R (.bl (nmsF ss)) M
theorem len_are_names : ∀ ds M R, p_are_names ds M R → ds.length = 1 := fun _ _ _ ⟨_, e, _⟩ => by rw [e]; rfl
theorem ok_are_names {P : Program} {w : World} {K : PySem.W.Frag} {mg : Str → Option Value} {base : Heap} (T : Tx K mg "are_names" s_are_names) (m_isinstance : mg "isinstance" = none) (m_tuple : mg "tuple" = none) (m_all : mg "all" = none) (d_is_name : Df P w K mg base 1 "is_name" ["value"] p_is_name) (m_len : mg "len" = none) (m_set : mg "set" = none) : Df P w K mg base 2 "are_names" ["value"] p_are_names := by
  refine df_ok T sc_are_names (len_are_names) (fun _ _ _ _ _ _ us hl => match us, hl with | [_], _ => rfl) (fun cdv A ou s H fa hr gd => ⟨_, (pss_cons (ps_if (PW.pt (pw_or (pt_not (pt_truK K (pe_callB (call_isiKK K) (by rfl) m_isinstance (by decide +kernel) (pa_cons (pv 0) (pa_cons (pe_bltn (v := .ty "tuple") (by rfl) m_tuple (by decide +kernel) rfl) pa_nil))) (fun _ => rfl))) (pw_or1 (pt_not (pt_truK K (pe_callB (call_allK K) (by rfl) m_all (by decide +kernel) (pa_cons (pe_lc (own := [("name", 1)]) rfl sc_are_names.nd (pi_tupK K (pv 0)) (blkOk_by (N := N_are_names) (sc := defScope s_are_names) (by decide +kernel)) (fun _ _ _ _ _ => (pg_name (i := 1) sc_are_names.nd rfl (.inl rfl))) (fun _ _ _ _ _ => pts_nil) (fun _ _ _ _ _ => (pe_callD d_is_name (hr.mono (by decide)) gd (by rfl) (pa_cons (pv 1) pa_nil)))) pa_nil)) (fun _ => rfl)))))) (pss_one (ps_ret pe_bl)) pss_nil) (pss_one (ps_ret (pe_cmpR (op_eqK K hr.units) (pe_lenSetSK K (by rfl) m_len (by rfl) m_set (pv 0)) (pe_callB (call_lenK K) (by rfl) m_len (by decide +kernel) (pa_cons (pv 0) pa_nil)) (nomark _))))), ?_⟩)
  rintro ds M R ⟨ss, rfl, ok, q⟩
  show DS K _ [some (.tup (sD ss)), none] M _
  obtain ⟨few, oks⟩ := okV_tup ok
  have few : ss.length ≤ 1000 := by rw [List.length_map] at few; exact few
  walk_at "x0"
  walk_at "nx"
  refine dc_isTup ⟨tp_tup _, ?_⟩
  walk_at "nx"
  refine ite_1 ?_
  walk_at "nx"
  refine de_CB ?_
  walk_at "nx"
  refine de_map (by simp) ?_
  walk_at "nx"
  refine ⟨by rw [List.length_map, sizeLine_eq]; omega, fun x => .bl (isN x), fun x hx => ?_, ?_⟩
  · walk_at "x0"
    walk_at "nx"
    exact use_name ⟨oks x hx, rfl, rfl⟩
  · walk_at "nx"
    refine dc_allE ⟨ss.map isW, congrArg D.lst (show ((ss.map D.str).map fun x => D.bl (isN x)) = (ss.map isW).map D.bl from by rw [List.map_map, List.map_map]; rfl), ?_⟩
    rw [List.all_map]
    walk_at "nx"
    rw [show ss.all (id ∘ isW) = ss.all isW from rfl]
    unfold nmsF at q
    cases e1 : ss.all isW with
    | false =>
      rw [e1] at q
      refine ite_0 ?_
      walk_at "nx"
      exact q
    | true =>
      rw [e1, Bool.true_and] at q
      refine ite_1 ?_
      walk_at "nx"
      refine de_lenSetS ?_
      walk_at "nx"
      refine ⟨ss, .inl rfl, few, fun L nd mm => ?_⟩
      have e2 := nub_len nd mm
      walk_at "nx"
      have e3 : decide (L.length = (sD ss).length) = diff ss := by unfold diff; rw [e2, List.length_map]
      rw [e3]
      exact q
theorem use_names {M : Mem} {Q : D → Mem → Prop} {ss : List Str} (h : okV (.tup (sD ss)) ∧ Q (.bl (nmsF ss)) M) : p_are_names [.tup (sD ss)] M Q := ⟨ss, rfl, h⟩
def sigF (ss : List Str) : Bool := nmsF ss && decide (ss.length ≤ 2) && asc (sD ss)
def p_are_signals : PT0 := fun ds M R => ∃ ss : List Str, ds = [.tup (sD ss)] ∧ okV (.tup (sD ss)) ∧ sigF ss = true ∧ R (.bl true) M
theorem len_are_signals : ∀ ds M R, p_are_signals ds M R → ds.length = 1 := fun _ _ _ ⟨_, e, _⟩ => by rw [e]; rfl
theorem ok_are_signals {P : Program} {w : World} {K : PySem.W.Frag} {mg : Str → Option Value} {base : Heap} (T : Tx K mg "are_signals" s_are_signals) (d_are_names : Df P w K mg base 2 "are_names" ["value"] p_are_names) (m_len : mg "len" = none) (c_MAX_SIGNALS : GlK mg "MAX_SIGNALS" (.int 2)) (d_are_ascending : Df P w K mg base 1 "are_ascending" ["names"] p_are_ascending) : Df P w K mg base 3 "are_signals" ["value"] p_are_signals := by
  refine df_ok T sc_are_signals (len_are_signals) (fun _ _ _ _ _ _ us hl => match us, hl with | [_], _ => rfl) (fun cdv A ou s H fa hr gd => ⟨_, (pss_one (ps_ret (pe_and (pe_callD d_are_names (hr.mono (by decide)) gd (by rfl) (pa_cons (pv 0) pa_nil)) (pe_and (pe_cmpR op_le (pe_callB (call_lenK K) (by rfl) m_len (by decide +kernel) (pa_cons (pv 0) pa_nil)) (pe_globK c_MAX_SIGNALS (by rfl)) (nomark _)) (pe_one (pe_callD d_are_ascending (hr.mono (by decide)) gd (by rfl) (pa_cons (pv 0) pa_nil))))))), ?_⟩)
  rintro ds M R ⟨ss, rfl, ok, hs, q⟩
  show DS K _ [some (.tup (sD ss))] M _
  unfold sigF at hs
  rw [Bool.and_eq_true, Bool.and_eq_true] at hs
  obtain ⟨⟨h1, h2⟩, h3⟩ := hs
  have h2 := of_decide_eq_true h2
  walk_at "x0"
  walk_at "nx"
  refine use_names ⟨ok, ?_⟩
  rw [h1]
  walk_at "nx"
  · refine use_asc (.inl rfl) ⟨by rw [List.length_map]; omega, .inr fun x hx => ?_, by rw [h3]; exact q⟩
    obtain ⟨y, _, rfl⟩ := List.mem_map.mp hx
    exact ⟨y, rfl⟩
  · rename_i hb
    exact absurd (by rw [List.length_map]; omega) hb
theorem use_sigs {M : Mem} {Q : D → Mem → Prop} {ss : List Str} (h : okV (.tup (sD ss)) ∧ sigF ss = true ∧ Q (.bl true) M) : p_are_signals [.tup (sD ss)] M Q := ⟨ss, rfl, h⟩
/-! ### charts -/
def p_check_modes : PT0 := fun ds M R => ∃ m k : Nat, ds = [nD m, nD k] ∧ 1 ≤ m ∧ m ≤ k ∧ R .non M
theorem len_check_modes : ∀ ds M R, p_check_modes ds M R → ds.length = 2 := fun _ _ _ ⟨_, _, e, _⟩ => by rw [e]; rfl
theorem ok_check_modes {P : Program} {w : World} {K : PySem.W.Frag} {mg : Str → Option Value} {base : Heap} (T : Tx K mg "check_modes" s_check_modes) (d_is_index : Df P w K mg base 2 "is_index" ["value", "many"] p_is_index) : Df P w K mg base 4 "check_modes" ["modes", "most"] p_check_modes := by
  refine df_ok T sc_check_modes (len_check_modes) (fun _ _ _ _ _ _ us hl => match us, hl with | [_, _], _ => rfl) (fun cdv A ou s H fa hr gd => ⟨_, (pss_one (ps_if (PW.pt (pw_or (pt_not (pt_truK K (pe_callD d_is_index (hr.mono (by decide)) gd (by rfl) (pa_cons (pv 0) (pa_cons (pe_op (op_addK K) (pv 1) pe_int) pa_nil))) (fun _ => rfl))) (pw_or1 (pt_cmpR (op_eqK K hr.units) (pv 0) pe_int (nomark _))))) (pss_one ps_never) pss_nil)), ?_⟩)
  rintro ds M R ⟨m, k, rfl, h1, hk, q⟩
  show DS K _ [some (nD m), some (nD k)] M _
  walk_at "x0"
  walk_at "nx"
  refine (show p_is_index [nD m, nD (k + 1)] _ _ from use_idx ⟨ty_nat _, ?_⟩)
  rw [show isIdx (nD m) (k + 1) = true from decide_eq_true ⟨by omega, by omega⟩]
  walk_at "nx"
  · rename_i hb
    exact absurd hb (by omega)
  · exact q
def p_is_chart : PT0 := fun ds M R => ∃ (m : Nat) (ss : List Str) (d : D), ds = [nD m, .tup (sD ss), d] ∧ 1 ≤ m ∧ m ≤ 2 ∧ okV (.tup (sD ss)) ∧ sigF ss = true ∧ okV d ∧ R (.bl (chartF m ss d)) M
theorem len_is_chart : ∀ ds M R, p_is_chart ds M R → ds.length = 3 := fun _ _ _ ⟨_, _, _, e, _⟩ => by rw [e]; rfl
theorem ok_is_chart {P : Program} {w : World} {K : PySem.W.Frag} {mg : Str → Option Value} {base : Heap} (T : Tx K mg "is_chart" s_is_chart) (d_check_modes : Df P w K mg base 4 "check_modes" ["modes", "most"] p_check_modes) (c_MAX_CHART_MODES : GlK mg "MAX_CHART_MODES" (.int 2)) (d_are_signals : Df P w K mg base 3 "are_signals" ["value"] p_are_signals) (d_fits_chart : Df P w K mg base 6 "fits_chart" ["modes", "signals", "value"] p_fits_chart) : Df P w K mg base 7 "is_chart" ["modes", "signals", "value"] p_is_chart := by
  refine df_ok T sc_is_chart (len_is_chart) (fun _ _ _ _ _ _ us hl => match us, hl with | [_, _, _], _ => rfl) (fun cdv A ou s H fa hr gd => ⟨_, (pss_cons (ps_expr (pe_callD d_check_modes (hr.mono (by decide)) gd (by rfl) (pa_cons (pv 0) (pa_cons (pe_globK c_MAX_CHART_MODES (by rfl)) pa_nil)))) (pss_cons (ps_if (pt_not (pt_truK K (pe_callD d_are_signals (hr.mono (by decide)) gd (by rfl) (pa_cons (pv 1) pa_nil)) (fun _ => rfl))) (pss_one ps_never) pss_nil) (pss_one (ps_ret (pe_callD d_fits_chart (hr.mono (by decide)) gd (by rfl) (pa_cons (pv 0) (pa_cons (pv 1) (pa_cons (pv 2) pa_nil)))))))), ?_⟩)
  rintro ds M R ⟨m, ss, d, rfl, h1, h2, os, hs, ok, q⟩
  show DS K _ [some (nD m), some (.tup (sD ss)), some d] M _
  walk_at "x0"
  walk_at "nx"
  refine ⟨m, 2, rfl, h1, h2, ?_⟩
  walk_at "nx"
  refine use_sigs ⟨os, hs, ?_⟩
  walk_at "nx"
  exact use_fchart ⟨ok, q⟩
theorem use_chart {M : Mem} {Q : D → Mem → Prop} {m : Nat} {ss : List Str} {d : D} (h : 1 ≤ m ∧ m ≤ 2 ∧ okV (.tup (sD ss)) ∧ sigF ss = true ∧ okV d ∧ Q (.bl (chartF m ss d)) M) : p_is_chart [nD m, .tup (sD ss), d] M Q := ⟨m, ss, d, rfl, h⟩

theorem toPyL_strs : ∀ l : List Str, toPyL (l.map D.str) = some (l.map PyData.str)
  | [] => rfl
  | x :: r => by
    show (match toPy (.str x), toPyL (r.map D.str) with | some a, some b => some (a :: b) | _, _ => none) = _
    rw [toPyL_strs r]; rfl
theorem canAll_strs : ∀ l : List Str, (∀ x, x ∈ l → okS x) → PyData.canLayAll0 (l.map PyData.str) = true
  | [], _ => rfl
  | x :: r, h => by
    show (PyData.strOk x && PyData.canLayAll0 (r.map PyData.str)) = true
    rw [canAll_strs r fun y hy => h y (List.mem_cons_of_mem _ hy), Bool.and_true]
    unfold PyData.strOk
    rw [Array.all_eq_true']
    intro c hc
    have := (h x List.mem_cons_self).2 c (Array.mem_toList_iff.mpr hc)
    exact decide_eq_true (by omega)
theorem depth_strs : ∀ l : List Str, PyData.depthAll (l.map PyData.str) = 0
  | [] => rfl
  | x :: r => by
    show max (PyData.depth (.str x)) (PyData.depthAll (r.map PyData.str)) = 0
    rw [depth_strs r]; rfl
theorem shaped_strs (l : List Str) (h : ∀ x, x ∈ l → okS x) : SeqAt.shaped (.list (l.map PyData.str)) = true := by
  unfold SeqAt.shaped
  rw [show (PyData.list (l.map PyData.str)).canLay0 = PyData.canLayAll0 (l.map PyData.str) from by rw [PyData.canLay0], canAll_strs l h, show (PyData.list (l.map PyData.str)).depth = PyData.depthAll (l.map PyData.str) + 1 from by rw [PyData.depth], depth_strs]
  rfl
theorem eqv_nil (l : List PyData) : PyData.eqv (.list l) (.list []) = l.isEmpty := by
  cases l <;> (rw [PyData.eqv, PyData.eqvAll]; rfl)

/-! ### the law's own reading -/
def p__law_is_number : PT0 := fun ds M R => ∃ (d : D) (n : Nat), ds = [d, nD n] ∧ okV d ∧ R (.bl (isIdx d n)) M
theorem len__law_is_number : ∀ ds M R, p__law_is_number ds M R → ds.length = 2 := fun _ _ _ ⟨_, _, e, _⟩ => by rw [e]; rfl
theorem ok__law_is_number {P : Program} {w : World} {K : PySem.W.Frag} {mg : Str → Option Value} {base : Heap} (T : Tx K mg "_law_is_number" s__law_is_number) (m_isinstance : mg "isinstance" = none) (m_int : mg "int" = none) (m_bool : mg "bool" = none) : Df P w K mg base 1 "_law_is_number" ["_law_value", "_law_size"] p__law_is_number := by
  refine df_ok T sc__law_is_number (len__law_is_number) (fun _ _ _ _ _ _ us hl => match us, hl with | [_, _], _ => rfl) (fun cdv A ou s H fa hr gd => ⟨_, (pss_one (ps_ret (pe_and (pe_callB (call_isiKK K) (by rfl) m_isinstance (by decide +kernel) (pa_cons (pv 0) (pa_cons (pe_bltn (v := .ty "int") (by rfl) m_int (by decide +kernel) rfl) pa_nil))) (pe_and (pe_not (pe_callB (call_isiKK K) (by rfl) m_isinstance (by decide +kernel) (pa_cons (pv 0) (pa_cons (pe_bltn (v := .ty "bool") (by rfl) m_bool (by decide +kernel) rfl) pa_nil)))) (pe_one (pe_chain op_le op_lt pe_int (pv 0) (pv 1))))))), ?_⟩)
  rintro ds M R ⟨d, n, rfl, ok, q⟩
  show DS K _ [some d, some (nD n)] M _
  have ht := okV_tp ok
  walk_at "x0"
  walk_at "go"
  refine dc_isInt ⟨ht, ?_⟩
  walk_at "go"
  cases d with
  | int i =>
    refine ite_1 ?_
    walk_at "go"
    refine dc_isBl ⟨ht, ?_⟩
    walk_at "go"
    refine ite_0 ?_
    walk_at "go"
    · rename_i hb
      rw [show isIdx (.int i) n = decide (i < (n : Int)) from decide_eq_decide.mpr ⟨fun h => h.2, fun h => ⟨hb, h⟩⟩] at q
      exact q
    · rename_i hb
      rw [show isIdx (.int i) n = false from decide_eq_false fun h => hb h.1] at q
      exact q
  | bl b =>
    refine ite_1 ?_
    walk_at "go"
    refine dc_isBl ⟨ht, ?_⟩
    walk_at "go"
    exact q
  | _ => exact ite_0 q
theorem use_lnum {M : Mem} {Q : D → Mem → Prop} {d : D} {n : Nat} (h : okV d ∧ Q (.bl (isIdx d n)) M) : p__law_is_number [d, nD n] M Q := ⟨d, n, rfl, h⟩
def notIn : D → Bool
  | .str y => (match y.cps.toList with | [c] => !decide (c ∈ lets.cps.toList) | _ => false) | _ => false
theorem sigs_filter (x : Str) : (sigs x).filter notIn = ((x.cps.toList.filter fun c => !decide (c ∈ lets.cps.toList)).map fun c => (⟨#[c]⟩ : Str)).map D.str := by
  unfold sigs
  rw [List.filter_map, List.map_map]
  rfl
def p__law_is_name : PT0 := p_is_name
theorem len__law_is_name : ∀ ds M R, p__law_is_name ds M R → ds.length = 1 := len_is_name
theorem dr_notS {K : PySem.W.Frag} {M : Mem} {Q : D → Mem → Prop} {c : Nat} {y : Str} (q : Q (.bl (!decide (c ∈ y.cps.toList))) M) : DR K (fun x y H Q => ∃ (c : Nat) (z : Str), x = .str ⟨#[c]⟩ ∧ y = .str z ∧ Q (.bl (!decide (c ∈ z.cps.toList))) H) (.str ⟨#[c]⟩) (.str y) M Q := fun F H v u m a b QV k => by
  cases a; cases b
  exact ⟨c, y, rfl, rfl, k _ M _ H q (Go.refl m) (.bl _)⟩
theorem ok__law_is_name {P : Program} {w : World} {K : PySem.W.Frag} {mg : Str → Option Value} {base : Heap} (T : Tx K mg "_law_is_name" s__law_is_name) (m_isinstance : mg "isinstance" = none) (m_str : mg "str" = none) (m_len : mg "len" = none) : Df P w K mg base 1 "_law_is_name" ["_law_value"] p__law_is_name := by
  refine df_ok T sc__law_is_name (len__law_is_name) (fun _ _ _ _ _ _ us hl => match us, hl with | [_], _ => rfl) (fun cdv A ou s H fa hr gd => ⟨_, (pss_cons (ps_if (PW.pt (pw_or (pt_not (pt_truK K (pe_callB (call_isiKK K) (by rfl) m_isinstance (by decide +kernel) (pa_cons (pv 0) (pa_cons (pe_bltn (v := .ty "str") (by rfl) m_str (by decide +kernel) rfl) pa_nil))) (fun _ => rfl))) (pw_or1 (pt_not (pt_chain op_lt op_lt pe_int (pe_callB (call_lenK K) (by rfl) m_len (by decide +kernel) (pa_cons (pv 0) pa_nil)) pe_int))))) (pss_one (ps_ret pe_bl)) pss_nil) (pss_one (ps_ret (pe_cmpR (op_eqK K hr.units) (pe_lc (own := [("_law_letter", 1)]) rfl sc__law_is_name.nd (pi_str (pv 0)) (blkOk_by (N := N__law_is_name) (sc := defScope s__law_is_name) (by decide +kernel)) (fun _ _ _ _ _ => (pg_name (i := 1) sc__law_is_name.nd rfl (.inl rfl))) (fun _ _ _ _ _ => (pts_one (pt_cmpR op_notIn_sign (pv 1) pe_str (by rfl)))) (fun _ _ _ _ _ => (pv 1))) (pe_lst pa_nil) (nomark _))))), ?_⟩)
  rintro ds M R ⟨d, rfl, ⟨⟨T, hT⟩, hz⟩, q⟩
  show DS K _ [some d, none] M _
  walk_at "x0"
  walk_at "go"
  refine dc_isStr ⟨⟨T, hT⟩, ?_⟩
  walk_at "go"
  cases d with
  | str x =>
    have ho := hz x rfl
    have hx : x.length ≤ 100000 := by have := ho.1; omega
    have q : R (.bl (isW x)) M := q
    refine ite_1 ?_
    walk_at "go"
    refine dc_len_str ⟨z100 hx, ?_⟩
    walk_at "go"
    · refine de_filt (by simp) ?_
      walk_at "go"
      refine ⟨by rw [sigs_len]; show x.length < _; rw [sizeLine_eq]; omega, notIn, id, fun d hd => ?_, fun d hd _ => ?_, ?_⟩
      · unfold sigs at hd
        obtain ⟨c, hc, rfl⟩ := List.mem_map.mp hd
        walk_at "x0"
        walk_at "go"
        refine dr_notS ?_
        walk_at "go"
        exact ⟨rfl, rfl⟩
      · walk_at "x0"
        walk_at "go"
        exact ⟨rfl, rfl⟩
      · rw [List.map_id, sigs_filter]
        walk_at "go"
        refine de_lst ?_
        walk_at "go"
        refine ⟨Nat.zero_le _, dr_eqDE ⟨_, _, congrArg (Option.map PyData.list) (toPyL_strs _), rfl, shaped_strs _ (fun y hy => ?_), rfl, ?_⟩⟩
        · obtain ⟨c, hc, rfl⟩ := List.mem_map.mp hy
          refine ⟨by show 1 ≤ 1000; decide, fun c' hc' => ?_⟩
          have e : c' = c := List.mem_singleton.mp hc'
          rw [e]
          exact ho.2 c (List.mem_filter.mp hc).1
        · rw [eqv_nil]
          unfold isW at q
          rw [decide_eq_true (show 1 ≤ x.length ∧ x.length ≤ 8 from ⟨by omega, by omega⟩), Bool.true_and] at q
          have e : (((x.cps.toList.filter fun c => !decide (c ∈ lets.cps.toList)).map fun c => (⟨#[c]⟩ : Str)).map PyData.str).isEmpty = x.cps.toList.all fun c => decide (c ∈ lets.cps.toList) := by
            rw [List.isEmpty_map, List.isEmpty_map, Bool.eq_iff_iff, List.isEmpty_iff, List.filter_eq_nil_iff, List.all_eq_true]
            simp
          rw [e]
          exact q
    · rw [isW_no (fun h => by omega)] at q
      exact q
    · rw [isW_no (fun h => by omega)] at q
      exact q
  | _ =>
    refine ite_0 ?_
    walk_at "go"
    exact q

theorem asc_pre : ∀ {l r : List D}, asc (l ++ r) = true → asc l = true
  | [], _, _ => rfl
  | [_], _, _ => rfl
  | x :: y :: l, r, h => by
    have h : (ltD x y && asc (y :: l ++ r)) = true := h
    rw [Bool.and_eq_true] at h
    show (ltD x y && asc (y :: l)) = true
    rw [h.1, asc_pre (l := y :: l) h.2]; rfl
theorem asc_two : ∀ {l : List D} {x y : D}, asc (l ++ [x]) = true → asc (l ++ [x, y]) = ltD x y
  | [], x, y, _ => by show (ltD x y && true) = _; rw [Bool.and_true]
  | [z], x, y, h => by
    have h : (ltD z x && true) = true := h
    show (ltD z x && (ltD x y && true)) = _
    rw [Bool.and_true] at h
    rw [h, Bool.and_true]; rfl
  | z :: w :: l, x, y, h => by
    have h : (ltD z w && asc (w :: l ++ [x])) = true := h
    rw [Bool.and_eq_true] at h
    show (ltD z w && asc (w :: l ++ [x, y])) = _
    rw [h.1, asc_two (l := w :: l) h.2]; rfl
/-- the first i, their order -/
def ascN (xs : List D) (i : Nat) : Bool := asc ((xs.take i).map fstD)
theorem ascN_all (xs : List D) : ascN xs xs.length = asc (xs.map fstD) := by unfold ascN; rw [List.take_length]
theorem ascN_one {xs : List D} : ascN xs 1 = true := by
  unfold ascN
  cases xs <;> rfl
theorem ascN_more {xs : List D} {i : Nat} {p d : D} (hp : xs[i]? = some p) (hd : xs[i + 1]? = some d) (h : ascN xs (i + 1) = true) : ascN xs (i + 2) = ltD (fstD p) (fstD d) := by
  unfold ascN at h ⊢
  rw [List.take_add_one, hp, List.map_append] at h
  rw [List.take_add_one, hd, List.take_add_one, hp, List.append_assoc, List.map_append]
  exact asc_two h
theorem ascN_no {xs : List D} {i : Nat} (h : ascN xs i = false) : asc (xs.map fstD) = false := by
  cases e : asc (xs.map fstD) with
  | false => rfl
  | true =>
    rw [← List.take_append_drop i xs, List.map_append] at e
    unfold ascN at h
    rw [asc_pre e] at h
    exact h
def p__law_are_unwinds : PT0 := fun ds M R => ∃ (m n : Nat) (d : D), ds = [d, nD m, nD n] ∧ okV d ∧ R (.bl (unwF m n d)) M
theorem len__law_are_unwinds : ∀ ds M R, p__law_are_unwinds ds M R → ds.length = 3 := fun _ _ _ ⟨_, _, _, e, _⟩ => by rw [e]; rfl
theorem ok__law_are_unwinds {P : Program} {w : World} {K : PySem.W.Frag} {mg : Str → Option Value} {base : Heap} (T : Tx K mg "_law_are_unwinds" s__law_are_unwinds) (m_isinstance : mg "isinstance" = none) (m_tuple : mg "tuple" = none) (m_enumerate : mg "enumerate" = none) (m_len : mg "len" = none) (d__law_is_number : Df P w K mg base 1 "_law_is_number" ["_law_value", "_law_size"] p__law_is_number) : Df P w K mg base 2 "_law_are_unwinds" ["_law_value", "_law_modes", "_law_points"] p__law_are_unwinds := by
  refine df_ok T sc__law_are_unwinds (len__law_are_unwinds) (fun _ _ _ _ _ _ us hl => match us, hl with | [_, _, _], _ => rfl) (fun cdv A ou s H fa hr gd => ⟨_, (pss_cons (ps_if (pt_not (pt_truK K (pe_callB (call_isiKK K) (by rfl) m_isinstance (by decide +kernel) (pa_cons (pv 0) (pa_cons (pe_bltn (v := .ty "tuple") (by rfl) m_tuple (by decide +kernel) rfl) pa_nil))) (fun _ => rfl))) (pss_one (ps_ret pe_bl)) pss_nil) (pss_cons (ps_for PassesOwn.never rfl (pi_enumT K (by rfl) m_enumerate (pa_cons (pv 0) pa_nil)) (pg_tupK K (n := 2) rfl (pgs_cons (pg_name (i := 3) sc__law_are_unwinds.nd rfl (.inl rfl)) (pgs_cons (pg_name (i := 4) sc__law_are_unwinds.nd rfl (.inl rfl)) pgs_nil))) (pss_cons (ps_if (PW.pt (pw_or (pt_not (pt_truK K (pe_callB (call_isiKK K) (by rfl) m_isinstance (by decide +kernel) (pa_cons (pv 4) (pa_cons (pe_bltn (v := .ty "tuple") (by rfl) m_tuple (by decide +kernel) rfl) pa_nil))) (fun _ => rfl))) (pw_or1 (pt_cmpR (op_neK K hr.units) (pe_callB (call_lenK K) (by rfl) m_len (by decide +kernel) (pa_cons (pv 4) pa_nil)) pe_int (nomark _))))) (pss_one (ps_ret pe_bl)) pss_nil) (pss_cons (ps_if (PW.pt (pw_or (pt_not (pt_truK K (pe_callD d__law_is_number (hr.mono (by decide)) gd (by rfl) (pa_cons (pe_ix (ix_K K) (pv 4) pe_int (fun _ _ => rfl)) (pa_cons (pv 1) pa_nil))) (fun _ => rfl))) (pw_or1 (pt_not (pt_truK K (pe_callD d__law_is_number (hr.mono (by decide)) gd (by rfl) (pa_cons (pe_ix (ix_K K) (pv 4) pe_int (fun _ _ => rfl)) (pa_cons (pv 2) pa_nil))) (fun _ => rfl)))))) (pss_one (ps_ret pe_bl)) pss_nil) (pss_one (ps_if (PW.pt (pw_and (pt_cmpR op_gt (pv 3) pe_int (nomark _)) (pw_and1 (pt_cmpR op_ge (pe_ix (ix_K K) (pe_ix (ix_K K) (pv 0) (pe_op op_sub (pv 3) pe_int) (fun _ _ => rfl)) pe_int (fun _ _ => rfl)) (pe_ix (ix_K K) (pv 4) pe_int (fun _ _ => rfl)) (nomark _))))) (pss_one (ps_ret pe_bl)) pss_nil))))) (pss_one (ps_ret pe_bl)))), ?_⟩)
  rintro ds M R ⟨m, n, d, rfl, ok, q⟩
  show DS K _ [some d, some (nD m), some (nD n), none, none] M _
  walk_at "x0"
  walk_at "nx"
  refine dc_isTup ⟨okV_tp ok, ?_⟩
  walk_at "nx"
  cases d with
  | tup xs =>
    obtain ⟨few, ok⟩ := okV_tup ok
    refine ite_1 ?_
    walk_at "nx"
    have e0 : unwF m n (.tup xs) = (xs.all (prOk m n) && asc (xs.map fstD)) := rfl
    have out : ∀ {i : Nat} {d : D}, xs[i]? = some d → prOk m n d = false → R (.bl false) M := fun hd h => by
      rw [e0, all_no hd h] at q
      exact q
    have out2 : ∀ {i : Nat}, ascN xs i = false → R (.bl false) M := fun h => by
      rw [e0, ascN_no h, Bool.and_false] at q
      exact q
    refine ds_for (js := [3, 4]) (di_enumT ?_)
    walk_at "nx"
    refine ⟨xs, rfl, fun i δ M2 => M2 = M ∧ (∃ x y, δ = [some (.tup xs), some (nD m), some (nD n), x, y]) ∧ (∀ x, x ∈ xs.take i → prOk m n x = true) ∧ ascN xs i = true, ⟨rfl, ⟨_, _, rfl⟩, fun x hx => by simp at hx, rfl⟩, ?_, ?_⟩
    · rintro i dd δ M2 hdd ⟨rfl, ⟨x, y, rfl⟩, hw, ha⟩
      obtain ⟨d, hd, rfl⟩ := enumD_get hdd
      have okd := ok d (List.mem_of_getElem? hd)
      refine dg_tup rfl (dgs_cons (dg_name (dgs_cons (dg_name (dgs_nil ?_)))))
      dsimp only [List.set_cons_succ, List.set_cons_zero]
      walk_at "nx"
      refine dc_isTup ⟨okV_tp okd, ?_⟩
      walk_at "nx"
      cases d with
      | tup ys =>
        obtain ⟨fy, oky⟩ := okV_tup okd
        refine ite_1 ?_
        walk_at "nx"
        refine (show DR K (rNeD K) (nD ys.length) (nD 2) _ _ from dr_neNN ?_)
        by_cases h2 : ys.length = 2
        · rw [decide_eq_true h2]
          obtain ⟨a, b, rfl⟩ := two_of h2
          walk_at "nx"
          refine dr_ixTE ⟨a, rfl, ?_⟩
          walk_at "nx"
          refine use_lnum ⟨oky a (by simp), ?_⟩
          walk_at "nx"
          cases e1 : isIdx a m with
          | false =>
            refine ite_0 ?_
            walk_at "nx"
            exact out hd (by show (isIdx a m && _) = false; rw [e1]; rfl)
          | true =>
            refine ite_1 ?_
            walk_at "nx"
            refine dr_ixTE ⟨b, rfl, ?_⟩
            walk_at "nx"
            refine use_lnum ⟨oky b (by simp), ?_⟩
            walk_at "nx"
            cases e2 : isIdx b n with
            | false =>
              refine ite_0 ?_
              walk_at "nx"
              exact out hd (by show (isIdx a m && isIdx b n) = false; rw [e1, e2]; rfl)
            | true =>
              refine ite_1 ?_
              have hw2 := take_more hd hw (show prOk m n (.tup [a, b]) = true from by show (isIdx a m && isIdx b n) = true; rw [e1, e2]; rfl)
              obtain ⟨ai, rfl⟩ := isIdx_int e1
              walk_at "nx"
              · rename_i hb
                obtain ⟨j, rfl⟩ : ∃ j, i = j + 1 := ⟨i - 1, by omega⟩
                obtain ⟨p, hp⟩ : ∃ p, xs[j]? = some p := ⟨xs[j]'(by have := (List.getElem?_eq_some_iff.mp hd).1; omega), List.getElem?_eq_getElem _⟩
                have pin : p ∈ xs.take (j + 1) := by rw [List.take_add_one, hp]; simp
                have pok := hw p pin
                obtain ⟨pa, pb, rfl⟩ := prOk_tup pok
                obtain ⟨pi, e3⟩ := prOk_fst pok
                obtain rfl : pa = .int pi := e3
                have e4 := ascN_more hp hd ha
                refine dr_ixTE ⟨_, by rw [show ((j + 1 : Nat) : Int) - 1 = ((j : Nat) : Int) from by omega]; exact atI_nat hp, ?_⟩
                walk_at "nx"
                refine dr_ixTE ⟨.int pi, rfl, ?_⟩
                walk_at "nx"
                refine dr_ixTE ⟨.int ai, rfl, ?_⟩
                walk_at "nx"
                · rename_i hc
                  exact out2 (i := j + 2) (by rw [e4]; exact decide_eq_false (by omega))
                · rename_i hc
                  exact ⟨rfl, ⟨_, _, rfl⟩, hw2, by rw [e4]; exact decide_eq_true (by omega)⟩
              · rename_i hb
                obtain rfl : i = 0 := by omega
                exact ⟨rfl, ⟨_, _, rfl⟩, hw2, ascN_one⟩
        · rw [decide_eq_false h2]
          walk_at "nx"
          exact out hd (prOk_no h2)
      | _ =>
        refine ite_0 ?_
        walk_at "nx"
        exact out hd rfl
    · rintro δ M2 ⟨rfl, ⟨x, y, rfl⟩, hw, ha⟩
      rw [enumD_len] at hw ha
      rw [List.take_length] at hw
      walk_at "nx"
      rw [e0, List.all_eq_true.mpr hw, ← ascN_all, ha] at q
      exact q
  | _ =>
    refine ite_0 ?_
    walk_at "nx"
    exact q
theorem use_lunw {M : Mem} {Q : D → Mem → Prop} {m n : Nat} {d : D} (h : okV d ∧ Q (.bl (unwF m n d)) M) : p__law_are_unwinds [d, nD m, nD n] M Q := ⟨m, n, d, rfl, h⟩

def p__law_are_answers : PT0 := fun ds M R => ∃ (m n : Nat) (ss ns : List Str) (d : D), ds = [d, nD m, .tup (sD ss), .lst (sD ns), nD n] ∧ okV d ∧ R (.bl (ansF m ss ns n d)) M
theorem len__law_are_answers : ∀ ds M R, p__law_are_answers ds M R → ds.length = 5 := fun _ _ _ ⟨_, _, _, _, _, e, _⟩ => by rw [e]; rfl
theorem ok__law_are_answers {P : Program} {w : World} {K : PySem.W.Frag} {mg : Str → Option Value} {base : Heap} (T : Tx K mg "_law_are_answers" s__law_are_answers) (m_isinstance : mg "isinstance" = none) (m_tuple : mg "tuple" = none) (m_enumerate : mg "enumerate" = none) (m_len : mg "len" = none) (m_str : mg "str" = none) (d__law_are_unwinds : Df P w K mg base 2 "_law_are_unwinds" ["_law_value", "_law_modes", "_law_points"] p__law_are_unwinds) : Df P w K mg base 3 "_law_are_answers" ["_law_value", "_law_modes", "_law_signals", "_law_names", "_law_points"] p__law_are_answers := by
  refine df_ok T sc__law_are_answers (len__law_are_answers) (fun _ _ _ _ _ _ us hl => match us, hl with | [_, _, _, _, _], _ => rfl) (fun cdv A ou s H fa hr gd => ⟨_, (pss_cons (ps_if (pt_not (pt_truK K (pe_callB (call_isiKK K) (by rfl) m_isinstance (by decide +kernel) (pa_cons (pv 0) (pa_cons (pe_bltn (v := .ty "tuple") (by rfl) m_tuple (by decide +kernel) rfl) pa_nil))) (fun _ => rfl))) (pss_one (ps_ret pe_bl)) pss_nil) (pss_cons (ps_for PassesOwn.never rfl (pi_enumT K (by rfl) m_enumerate (pa_cons (pv 0) pa_nil)) (pg_tupK K (n := 2) rfl (pgs_cons (pg_name (i := 5) sc__law_are_answers.nd rfl (.inl rfl)) (pgs_cons (pg_name (i := 6) sc__law_are_answers.nd rfl (.inl rfl)) pgs_nil))) (pss_cons (ps_if (PW.pt (pw_or (pt_not (pt_truK K (pe_callB (call_isiKK K) (by rfl) m_isinstance (by decide +kernel) (pa_cons (pv 6) (pa_cons (pe_bltn (v := .ty "tuple") (by rfl) m_tuple (by decide +kernel) rfl) pa_nil))) (fun _ => rfl))) (pw_or (pt_cmpR (op_neK K hr.units) (pe_callB (call_lenK K) (by rfl) m_len (by decide +kernel) (pa_cons (pv 6) pa_nil)) pe_int (nomark _)) (pw_or (pt_not (pt_truK K (pe_callB (call_isiKK K) (by rfl) m_isinstance (by decide +kernel) (pa_cons (pe_ix (ix_K K) (pv 6) pe_int (fun _ _ => rfl)) (pa_cons (pe_bltn (v := .ty "str") (by rfl) m_str (by decide +kernel) rfl) pa_nil))) (fun _ => rfl))) (pw_or1 (pt_not (pt_truK K (pe_callB (call_isiKK K) (by rfl) m_isinstance (by decide +kernel) (pa_cons (pe_ix (ix_K K) (pv 6) pe_int (fun _ _ => rfl)) (pa_cons (pe_bltn (v := .ty "str") (by rfl) m_str (by decide +kernel) rfl) pa_nil))) (fun _ => rfl)))))))) (pss_one (ps_ret pe_bl)) pss_nil) (pss_cons (ps_if (PW.pt (pw_or (pt_cmpR (op_ninSE K (units65 hr)) (pe_ix (ix_K K) (pv 6) pe_int (fun _ _ => rfl)) (pv 2) (by rfl)) (pw_or (pt_cmpR (op_ninSE K (units65 hr)) (pe_ix (ix_K K) (pv 6) pe_int (fun _ _ => rfl)) (pv 3) (by rfl)) (pw_or1 (pt_not (pt_truK K (pe_callD d__law_are_unwinds (hr.mono (by decide)) gd (by rfl) (pa_cons (pe_ix (ix_K K) (pv 6) pe_int (fun _ _ => rfl)) (pa_cons (pv 1) (pa_cons (pv 4) pa_nil)))) (fun _ => rfl))))))) (pss_one (ps_ret pe_bl)) pss_nil) (pss_one (ps_if (PW.pt (pw_and (pt_cmpR op_gt (pv 5) pe_int (nomark _)) (pw_and1 (pt_cmpR op_geS (pe_ix (ix_K K) (pe_ix (ix_K K) (pv 0) (pe_op op_sub (pv 5) pe_int) (fun _ _ => rfl)) pe_int (fun _ _ => rfl)) (pe_ix (ix_K K) (pv 6) pe_int (fun _ _ => rfl)) (nomark _))))) (pss_one (ps_ret pe_bl)) pss_nil))))) (pss_one (ps_ret pe_bl)))), ?_⟩)
  rintro ds M R ⟨m, n, ss, ns, d, rfl, ok, q⟩
  show DS K _ [some d, some (nD m), some (.tup (sD ss)), some (.lst (sD ns)), some (nD n), none, none] M _
  walk_at "x0"
  walk_at "nx"
  refine dc_isTup ⟨okV_tp ok, ?_⟩
  walk_at "nx"
  cases d with
  | tup xs =>
    obtain ⟨few, ok⟩ := okV_tup ok
    refine ite_1 ?_
    walk_at "nx"
    have e0 : ansF m ss ns n (.tup xs) = (xs.all (ansOk m ss ns n) && asc (xs.map fstD)) := rfl
    have out : ∀ {i : Nat} {d : D}, xs[i]? = some d → ansOk m ss ns n d = false → R (.bl false) M := fun hd h => by
      rw [e0, all_no hd h] at q
      exact q
    have out2 : ∀ {i : Nat}, ascN xs i = false → R (.bl false) M := fun h => by
      rw [e0, ascN_no h, Bool.and_false] at q
      exact q
    refine ds_for (js := [5, 6]) (di_enumT ?_)
    walk_at "nx"
    refine ⟨xs, rfl, fun i δ M2 => M2 = M ∧ (∃ x y, δ = [some (.tup xs), some (nD m), some (.tup (sD ss)), some (.lst (sD ns)), some (nD n), x, y]) ∧ (∀ x, x ∈ xs.take i → ansOk m ss ns n x = true) ∧ ascN xs i = true, ⟨rfl, ⟨_, _, rfl⟩, fun x hx => by simp at hx, rfl⟩, ?_, ?_⟩
    · rintro i dd δ M2 hdd ⟨rfl, ⟨x, y, rfl⟩, hw, ha⟩
      obtain ⟨d, hd, rfl⟩ := enumD_get hdd
      have okd := ok d (List.mem_of_getElem? hd)
      refine dg_tup rfl (dgs_cons (dg_name (dgs_cons (dg_name (dgs_nil ?_)))))
      dsimp only [List.set_cons_succ, List.set_cons_zero]
      walk_at "nx"
      refine dc_isTup ⟨okV_tp okd, ?_⟩
      walk_at "nx"
      cases d with
      | tup ys =>
        obtain ⟨fy, oky⟩ := okV_tup okd
        refine ite_1 ?_
        walk_at "nx"
        refine (show DR K (rNeD K) (nD ys.length) (nD 3) _ _ from dr_neNN ?_)
        by_cases h2 : ys.length = 3
        · rw [decide_eq_true h2]
          obtain ⟨a, b, c, rfl⟩ := three_of h2
          walk_at "nx"
          refine dr_ixTE ⟨a, rfl, ?_⟩
          walk_at "nx"
          refine dc_isStr ⟨okV_tp (oky a (by simp)), ?_⟩
          walk_at "nx"
          cases a with
          | str a =>
            refine ite_1 ?_
            walk_at "nx"
            refine dr_ixTE ⟨b, rfl, ?_⟩
            walk_at "nx"
            refine dc_isStr ⟨okV_tp (oky b (by simp)), ?_⟩
            walk_at "nx"
            cases b with
            | str b =>
              refine ite_1 ?_
              walk_at "nx"
              refine dr_ixTE ⟨.str a, rfl, ?_⟩
              walk_at "nx"
              refine dr_notIn (ys := ss) ⟨lay_str a, .inr rfl, ?_⟩
              walk_at "nx"
              cases e1 : isIn (.str a) ss with
              | false =>
                walk_at "nx"
                exact out hd (by show (isIn (.str a) ss && _ && _) = false; rw [e1]; rfl)
              | true =>
                walk_at "nx"
                refine dr_ixTE ⟨.str b, rfl, ?_⟩
                walk_at "nx"
                refine dr_notIn (ys := ns) ⟨lay_str b, .inl rfl, ?_⟩
                walk_at "nx"
                cases e2 : isIn (.str b) ns with
                | false =>
                  walk_at "nx"
                  exact out hd (by show (isIn (.str a) ss && isIn (.str b) ns && _) = false; rw [e1, e2]; rfl)
                | true =>
                  walk_at "nx"
                  refine dr_ixTE ⟨c, rfl, ?_⟩
                  walk_at "nx"
                  refine use_lunw ⟨oky c (by simp), ?_⟩
                  walk_at "nx"
                  cases e3 : unwF m n c with
                  | false =>
                    refine ite_0 ?_
                    walk_at "nx"
                    exact out hd (by show (isIn (.str a) ss && isIn (.str b) ns && unwF m n c) = false; rw [e1, e2, e3]; rfl)
                  | true =>
                    refine ite_1 ?_
                    have hw2 := take_more hd hw (show ansOk m ss ns n (.tup [.str a, .str b, c]) = true from by show (isIn (.str a) ss && isIn (.str b) ns && unwF m n c) = true; rw [e1, e2, e3]; rfl)
                    walk_at "nx"
                    · rename_i hb
                      obtain ⟨j, rfl⟩ : ∃ j, i = j + 1 := ⟨i - 1, by omega⟩
                      obtain ⟨p, hp⟩ : ∃ p, xs[j]? = some p := ⟨xs[j]'(by have := (List.getElem?_eq_some_iff.mp hd).1; omega), List.getElem?_eq_getElem _⟩
                      have pin : p ∈ xs.take (j + 1) := by rw [List.take_add_one, hp]; simp
                      obtain ⟨pa, pb, pc, rfl⟩ := ansOk_tup (hw p pin)
                      have e4 := ascN_more hp hd ha
                      refine dr_ixTE ⟨_, by rw [show ((j + 1 : Nat) : Int) - 1 = ((j : Nat) : Int) from by omega]; exact atI_nat hp, ?_⟩
                      walk_at "nx"
                      refine dr_ixTE ⟨.str pa, rfl, ?_⟩
                      walk_at "nx"
                      refine dr_ixTE ⟨.str a, rfl, ?_⟩
                      walk_at "nx"
                      refine dr_geS ?_
                      by_cases hc : pa.cps.toList < a.cps.toList
                      · rw [decide_eq_true hc]
                        walk_at "nx"
                        exact ⟨rfl, ⟨_, _, rfl⟩, hw2, by rw [e4]; exact decide_eq_true hc⟩
                      · rw [decide_eq_false hc]
                        walk_at "nx"
                        exact out2 (i := j + 2) (by rw [e4]; exact decide_eq_false hc)
                    · rename_i hb
                      obtain rfl : i = 0 := by omega
                      exact ⟨rfl, ⟨_, _, rfl⟩, hw2, ascN_one⟩
            | _ =>
              refine ite_0 ?_
              walk_at "nx"
              exact out hd (by show (isIn (.str a) ss && false && _) = false; rw [Bool.and_false]; rfl)
          | _ =>
            refine ite_0 ?_
            walk_at "nx"
            exact out hd rfl
        · rw [decide_eq_false h2]
          walk_at "nx"
          exact out hd (ansOk_no h2)
      | _ =>
        refine ite_0 ?_
        walk_at "nx"
        exact out hd rfl
    · rintro δ M2 ⟨rfl, ⟨x, y, rfl⟩, hw, ha⟩
      rw [enumD_len] at hw ha
      rw [List.take_length] at hw
      walk_at "nx"
      rw [e0, List.all_eq_true.mpr hw, ← ascN_all, ha] at q
      exact q
  | _ =>
    refine ite_0 ?_
    walk_at "nx"
    exact q
theorem use_lans {M : Mem} {Q : D → Mem → Prop} {m n : Nat} {ss ns : List Str} {d : D} (h : okV d ∧ Q (.bl (ansF m ss ns n d)) M) : p__law_are_answers [d, nD m, .tup (sD ss), .lst (sD ns), nD n] M Q := ⟨m, n, ss, ns, d, rfl, h⟩

theorem three_more {k p : D} {r : List D} (h4 : ¬ ((k :: p :: r).length : Int) < 3) : ∃ p2 r3, r = p2 :: r3 := by
  match r, h4 with
  | [], h4 => exact absurd (by show ((2 : Nat) : Int) < 3; decide) h4
  | p2 :: r3, _ => exact ⟨p2, r3, rfl⟩
theorem restF_short3 {m n : Nat} {ss ns : List Str} {k : Str} {p : D} {r : List D} (h : ¬ k = "leave") (h4 : ((D.str k :: p :: r).length : Int) < 3) : restF m ss ns n k r = false := restF_short (p := p) h (by omega)
def p__law_is_move : PT0 := fun ds M R => ∃ (m n : Nat) (ss ns : List Str) (d : D), ds = [d, nD m, .tup (sD ss), .lst (sD ns), nD n] ∧ okV d ∧ R (.bl (movF m ss ns n d)) M
theorem len__law_is_move : ∀ ds M R, p__law_is_move ds M R → ds.length = 5 := fun _ _ _ ⟨_, _, _, _, _, e, _⟩ => by rw [e]; rfl
theorem ok__law_is_move {P : Program} {w : World} {K : PySem.W.Frag} {mg : Str → Option Value} {base : Heap} (T : Tx K mg "_law_is_move" s__law_is_move) (m_isinstance : mg "isinstance" = none) (m_tuple : mg "tuple" = none) (m_len : mg "len" = none) (m_str : mg "str" = none) (d__law_is_number : Df P w K mg base 1 "_law_is_number" ["_law_value", "_law_size"] p__law_is_number) (d__law_are_answers : Df P w K mg base 3 "_law_are_answers" ["_law_value", "_law_modes", "_law_signals", "_law_names", "_law_points"] p__law_are_answers) : Df P w K mg base 4 "_law_is_move" ["_law_value", "_law_modes", "_law_signals", "_law_names", "_law_points"] p__law_is_move := by
  refine df_ok T sc__law_is_move (len__law_is_move) (fun _ _ _ _ _ _ us hl => match us, hl with | [_, _, _, _, _], _ => rfl) (fun cdv A ou s H fa hr gd => ⟨_, (pss_cons (ps_if (PW.pt (pw_or (pt_not (pt_truK K (pe_callB (call_isiKK K) (by rfl) m_isinstance (by decide +kernel) (pa_cons (pv 0) (pa_cons (pe_bltn (v := .ty "tuple") (by rfl) m_tuple (by decide +kernel) rfl) pa_nil))) (fun _ => rfl))) (pw_or (pt_cmpR op_lt (pe_callB (call_lenK K) (by rfl) m_len (by decide +kernel) (pa_cons (pv 0) pa_nil)) pe_int (nomark _)) (pw_or1 (pt_not (pt_truK K (pe_callB (call_isiKK K) (by rfl) m_isinstance (by decide +kernel) (pa_cons (pe_ix (ix_K K) (pv 0) pe_int (fun _ _ => rfl)) (pa_cons (pe_bltn (v := .ty "str") (by rfl) m_str (by decide +kernel) rfl) pa_nil))) (fun _ => rfl))))))) (pss_one (ps_ret pe_bl)) pss_nil) (pss_cons (ps_if (pt_not (pt_truK K (pe_callD d__law_is_number (hr.mono (by decide)) gd (by rfl) (pa_cons (pe_ix (ix_K K) (pv 0) pe_int (fun _ _ => rfl)) (pa_cons (pv 4) pa_nil))) (fun _ => rfl))) (pss_one (ps_ret pe_bl)) pss_nil) (pss_cons (ps_if (pt_cmpR op_eq (pe_ix (ix_K K) (pv 0) pe_int (fun _ _ => rfl)) pe_str (nomark _)) (pss_one (ps_ret (pe_cmpR (op_eqK K hr.units) (pe_callB (call_lenK K) (by rfl) m_len (by decide +kernel) (pa_cons (pv 0) pa_nil)) pe_int (nomark _)))) pss_nil) (pss_cons (ps_if (PW.pt (pw_or (pt_cmpR op_lt (pe_callB (call_lenK K) (by rfl) m_len (by decide +kernel) (pa_cons (pv 0) pa_nil)) pe_int (nomark _)) (pw_or1 (pt_not (pt_truK K (pe_callD d__law_is_number (hr.mono (by decide)) gd (by rfl) (pa_cons (pe_ix (ix_K K) (pv 0) pe_int (fun _ _ => rfl)) (pa_cons (pv 4) pa_nil))) (fun _ => rfl)))))) (pss_one (ps_ret pe_bl)) pss_nil) (pss_cons (ps_if (pt_cmpR op_eq (pe_ix (ix_K K) (pv 0) pe_int (fun _ _ => rfl)) pe_str (nomark _)) (pss_one (ps_ret (pe_and (pe_cmpR (op_eqK K hr.units) (pe_callB (call_lenK K) (by rfl) m_len (by decide +kernel) (pa_cons (pv 0) pa_nil)) pe_int (nomark _)) (pe_and (pe_callD d__law_is_number (hr.mono (by decide)) gd (by rfl) (pa_cons (pe_ix (ix_K K) (pv 0) pe_int (fun _ _ => rfl)) (pa_cons (pv 1) pa_nil))) (pe_one (pe_callD d__law_is_number (hr.mono (by decide)) gd (by rfl) (pa_cons (pe_ix (ix_K K) (pv 0) pe_int (fun _ _ => rfl)) (pa_cons (pv 1) pa_nil)))))))) pss_nil) (pss_cons (ps_if (pt_cmpR op_eq (pe_ix (ix_K K) (pv 0) pe_int (fun _ _ => rfl)) pe_str (nomark _)) (pss_one (ps_ret (pe_and (pe_cmpR (op_eqK K hr.units) (pe_callB (call_lenK K) (by rfl) m_len (by decide +kernel) (pa_cons (pv 0) pa_nil)) pe_int (nomark _)) (pe_and (pe_callB (call_isiKK K) (by rfl) m_isinstance (by decide +kernel) (pa_cons (pe_ix (ix_K K) (pv 0) pe_int (fun _ _ => rfl)) (pa_cons (pe_bltn (v := .ty "str") (by rfl) m_str (by decide +kernel) rfl) pa_nil))) (pe_one (pe_cmpR (op_inSE K (units65 hr)) (pe_ix (ix_K K) (pv 0) pe_int (fun _ _ => rfl)) (pv 2) (by rfl))))))) pss_nil) (pss_cons (ps_if (PW.pt (pw_or (pt_cmpR op_ne (pe_ix (ix_K K) (pv 0) pe_int (fun _ _ => rfl)) pe_str (nomark _)) (pw_or (pt_cmpR (op_neK K hr.units) (pe_callB (call_lenK K) (by rfl) m_len (by decide +kernel) (pa_cons (pv 0) pa_nil)) pe_int (nomark _)) (pw_or (pt_not (pt_truK K (pe_callB (call_isiKK K) (by rfl) m_isinstance (by decide +kernel) (pa_cons (pe_ix (ix_K K) (pv 0) pe_int (fun _ _ => rfl)) (pa_cons (pe_bltn (v := .ty "str") (by rfl) m_str (by decide +kernel) rfl) pa_nil))) (fun _ => rfl))) (pw_or1 (pt_cmpR (op_ninSE K (units65 hr)) (pe_ix (ix_K K) (pv 0) pe_int (fun _ _ => rfl)) (pv 3) (by rfl))))))) (pss_one (ps_ret pe_bl)) pss_nil) (pss_one (ps_ret (pe_callD d__law_are_answers (hr.mono (by decide)) gd (by rfl) (pa_cons (pe_ix (ix_K K) (pv 0) pe_int (fun _ _ => rfl)) (pa_cons (pv 1) (pa_cons (pv 2) (pa_cons (pv 3) (pa_cons (pv 4) pa_nil))))))))))))))), ?_⟩)
  rintro ds M R ⟨m, n, ss, ns, d, rfl, ok, q⟩
  show DS K _ [some d, some (nD m), some (.tup (sD ss)), some (.lst (sD ns)), some (nD n)] M _
  walk_at "x0"
  walk_at "nx"
  refine dc_isTup ⟨okV_tp ok, ?_⟩
  walk_at "nx"
  cases d with
  | tup xs =>
    obtain ⟨few, ok⟩ := okV_tup ok
    refine ite_1 ?_
    walk_at "nx"
    · rename_i hb
      rw [movF_short hb] at q
      exact q
    · rename_i hb
      obtain ⟨k, p, r, rfl⟩ := two_more hb
      refine dr_ixTE ⟨k, at0, ?_⟩
      walk_at "nx"
      refine dc_isStr ⟨okV_tp (ok k (by simp)), ?_⟩
      walk_at "nx"
      cases k with
      | str k =>
        refine ite_1 ?_
        walk_at "nx"
        refine dr_ixTE ⟨p, at1, ?_⟩
        walk_at "nx"
        refine use_lnum ⟨ok p (by simp), ?_⟩
        walk_at "nx"
        cases e1 : isIdx p n with
        | false =>
          refine ite_0 ?_
          walk_at "nx"
          rw [movF_eq, e1] at q
          exact q
        | true =>
          rw [movF_eq, e1, Bool.true_and] at q
          refine ite_1 ?_
          walk_at "nx"
          refine dr_ixTE ⟨.str k, at0, ?_⟩
          walk_at "nx"
          refine dr_eqStr ?_
          by_cases c1 : k = "leave"
          · rw [decide_eq_true c1]
            walk_at "nx"
            refine (show DR K (rEqD K) (nD (D.str k :: p :: r).length) (nD 2) _ _ from dr_eqNN ?_)
            rw [restF_leave c1] at q
            exact q
          · rw [decide_eq_false c1]
            walk_at "nx"
            · rename_i h4
              rw [restF_short3 c1 h4] at q
              exact q
            · rename_i h4
              obtain ⟨p2, r2, rfl⟩ := three_more h4
              refine dr_ixTE ⟨p2, at2, ?_⟩
              walk_at "nx"
              refine use_lnum ⟨ok p2 (by simp), ?_⟩
              walk_at "nx"
              cases e2 : isIdx p2 n with
              | false =>
                refine ite_0 ?_
                walk_at "nx"
                rw [restF_eq c1, e2] at q
                exact q
              | true =>
                rw [restF_eq c1, e2, Bool.true_and] at q
                unfold endF at q
                refine ite_1 ?_
                walk_at "nx"
                refine dr_ixTE ⟨.str k, at0, ?_⟩
                walk_at "nx"
                refine dr_eqStr ?_
                by_cases c2 : k = "go"
                · rw [decide_eq_true c2]
                  rw [if_pos c2] at q
                  walk_at "nx"
                  refine (show DR K (rEqD K) (nD (D.str k :: p :: p2 :: r2).length) (nD 5) _ _ from dr_eqNN ?_)
                  by_cases h5 : (D.str k :: p :: p2 :: r2).length = 5
                  · rw [decide_eq_true h5]
                    obtain ⟨a, b, rfl⟩ := two_of (show r2.length = 2 from by simp only [List.length_cons] at h5; omega)
                    have q : R (.bl (isIdx a m && isIdx b m)) M := q
                    walk_at "nx"
                    refine dr_ixTE ⟨a, at3, ?_⟩
                    walk_at "nx"
                    refine use_lnum ⟨ok a (by simp), ?_⟩
                    walk_at "nx"
                    cases e3 : isIdx a m with
                    | false =>
                      rw [e3] at q
                      refine ite_0 ?_
                      exact q
                    | true =>
                      rw [e3, Bool.true_and] at q
                      refine ite_1 ?_
                      walk_at "nx"
                      refine dr_ixTE ⟨b, at4, ?_⟩
                      walk_at "nx"
                      exact use_lnum ⟨ok b (by simp), q⟩
                  · rw [decide_eq_false h5]
                    walk_at "nx"
                    match r2, h5, q with
                    | [], _, q => exact q
                    | [_], _, q => exact q
                    | [_, _], h5, _ => exact absurd rfl h5
                    | _ :: _ :: _ :: _, _, q => exact q
                · rw [decide_eq_false c2]
                  rw [if_neg c2] at q
                  walk_at "nx"
                  refine dr_ixTE ⟨.str k, at0, ?_⟩
                  walk_at "nx"
                  refine dr_eqStr ?_
                  by_cases c3 : k = "raise"
                  · rw [decide_eq_true c3]
                    rw [if_pos c3] at q
                    walk_at "nx"
                    refine (show DR K (rEqD K) (nD (D.str k :: p :: p2 :: r2).length) (nD 4) _ _ from dr_eqNN ?_)
                    by_cases h5 : (D.str k :: p :: p2 :: r2).length = 4
                    · rw [decide_eq_true h5]
                      obtain ⟨a, rfl⟩ := one_of (show r2.length = 1 from by simp only [List.length_cons] at h5; omega)
                      have q : R (.bl (isIn a ss)) M := q
                      walk_at "nx"
                      refine dr_ixTE ⟨a, at3, ?_⟩
                      walk_at "nx"
                      refine dc_isStr ⟨okV_tp (ok a (by simp)), ?_⟩
                      walk_at "nx"
                      cases a with
                      | str a =>
                        refine ite_1 ?_
                        walk_at "nx"
                        refine dr_ixTE ⟨.str a, at3, ?_⟩
                        walk_at "nx"
                        exact dr_isIn (ys := ss) ⟨lay_str a, .inr rfl, q⟩
                      | _ =>
                        refine ite_0 ?_
                        exact q
                    · rw [decide_eq_false h5]
                      walk_at "nx"
                      match r2, h5, q with
                      | [], _, q => exact q
                      | [_], h5, _ => exact absurd rfl h5
                      | _ :: _ :: _, _, q => exact q
                  · rw [decide_eq_false c3]
                    rw [if_neg c3] at q
                    walk_at "nx"
                    refine dr_ixTE ⟨.str k, at0, ?_⟩
                    walk_at "nx"
                    refine dr_neStr ?_
                    by_cases c4 : k = "call"
                    · rw [decide_eq_true c4]
                      rw [if_pos c4] at q
                      walk_at "nx"
                      refine (show DR K (rNeD K) (nD (D.str k :: p :: p2 :: r2).length) (nD 5) _ _ from dr_neNN ?_)
                      by_cases h5 : (D.str k :: p :: p2 :: r2).length = 5
                      · rw [decide_eq_true h5]
                        obtain ⟨a, b, rfl⟩ := two_of (show r2.length = 2 from by simp only [List.length_cons] at h5; omega)
                        have q : R (.bl (isIn a ns && ansF m ss ns n b)) M := q
                        walk_at "nx"
                        refine dr_ixTE ⟨a, at3, ?_⟩
                        walk_at "nx"
                        refine dc_isStr ⟨okV_tp (ok a (by simp)), ?_⟩
                        walk_at "nx"
                        cases a with
                        | str a =>
                          refine ite_1 ?_
                          walk_at "nx"
                          refine dr_ixTE ⟨.str a, at3, ?_⟩
                          walk_at "nx"
                          refine dr_notIn (ys := ns) ⟨lay_str a, .inl rfl, ?_⟩
                          walk_at "nx"
                          cases e3 : isIn (.str a) ns with
                          | false =>
                            rw [e3] at q
                            walk_at "nx"
                            exact q
                          | true =>
                            rw [e3, Bool.true_and] at q
                            walk_at "nx"
                            refine dr_ixTE ⟨b, at4, ?_⟩
                            walk_at "nx"
                            exact use_lans ⟨ok b (by simp), q⟩
                        | _ =>
                          refine ite_0 ?_
                          walk_at "nx"
                          exact q
                      · rw [decide_eq_false h5]
                        walk_at "nx"
                        match r2, h5, q with
                        | [], _, q => exact q
                        | [_], _, q => exact q
                        | [_, _], h5, _ => exact absurd rfl h5
                        | _ :: _ :: _ :: _, _, q => exact q
                    · rw [decide_eq_false c4]
                      rw [if_neg c4] at q
                      walk_at "nx"
                      exact q
      | _ =>
        refine ite_0 ?_
        walk_at "nx"
        exact q
  | _ =>
    refine ite_0 ?_
    walk_at "nx"
    exact q
theorem use_lmove {M : Mem} {Q : D → Mem → Prop} {m n : Nat} {ss ns : List Str} {d : D} (h : okV d ∧ Q (.bl (movF m ss ns n d)) M) : p__law_is_move [d, nD m, .tup (sD ss), .lst (sD ns), nD n] M Q := ⟨m, n, ss, ns, d, rfl, h⟩

theorem dr_neLN {K : PySem.W.Frag} {M : Mem} {Q : D → Mem → Prop} {xs : List D} (q : Q (.bl (!xs.isEmpty)) M) : DR K (rNil K true) (.lst xs) (.lst []) M Q := dr_nilL (neg := true) q
theorem dr_neTN {K : PySem.W.Frag} {M : Mem} {Q : D → Mem → Prop} {xs : List D} (q : Q (.bl (!xs.isEmpty)) M) : DR K (rNil K true) (.tup xs) (.tup []) M Q := dr_nilT (neg := true) q
theorem dr_eqTN {K : PySem.W.Frag} {M : Mem} {Q : D → Mem → Prop} {xs : List D} (q : Q (.bl xs.isEmpty) M) : DR K (rNil K false) (.tup xs) (.tup []) M Q := dr_nilT (neg := false) q
def p__law_is_chart : PT0 := fun ds M R => ∃ (m : Nat) (ss : List Str) (d : D), ds = [d, nD m, .tup (sD ss)] ∧ okV d ∧ R (.bl (chartF m ss d)) M
theorem len__law_is_chart : ∀ ds M R, p__law_is_chart ds M R → ds.length = 3 := fun _ _ _ ⟨_, _, _, e, _⟩ => by rw [e]; rfl
theorem use_lname {M : Mem} {Q : D → Mem → Prop} {d : D} (h : okV d ∧ Q (.bl (isN d)) M) : p__law_is_name [d] M Q := use_name h
theorem ok__law_is_chart {P : Program} {w : World} {K : PySem.W.Frag} {mg : Str → Option Value} {base : Heap} (T : Tx K mg "_law_is_chart" s__law_is_chart) (m_isinstance : mg "isinstance" = none) (m_tuple : mg "tuple" = none) (m_len : mg "len" = none) (d__law_is_name : Df P w K mg base 1 "_law_is_name" ["_law_value"] p__law_is_name) (d__law_is_number : Df P w K mg base 1 "_law_is_number" ["_law_value", "_law_size"] p__law_is_number) (m_set : mg "set" = none) (d__law_is_move : Df P w K mg base 4 "_law_is_move" ["_law_value", "_law_modes", "_law_signals", "_law_names", "_law_points"] p__law_is_move) : Df P w K mg base 5 "_law_is_chart" ["_law_value", "_law_modes", "_law_signals"] p__law_is_chart := by
  refine df_ok T sc__law_is_chart (len__law_is_chart) (fun _ _ _ _ _ _ us hl => match us, hl with | [_, _, _], _ => rfl) (fun cdv A ou s H fa hr gd => ⟨_, (pss_cons (ps_if (PW.pt (pw_or (pt_not (pt_truK K (pe_callB (call_isiKK K) (by rfl) m_isinstance (by decide +kernel) (pa_cons (pv 0) (pa_cons (pe_bltn (v := .ty "tuple") (by rfl) m_tuple (by decide +kernel) rfl) pa_nil))) (fun _ => rfl))) (pw_or1 (pt_not (pt_chain op_lt op_lt pe_int (pe_callB (call_lenK K) (by rfl) m_len (by decide +kernel) (pa_cons (pv 0) pa_nil)) pe_int))))) (pss_one (ps_ret pe_bl)) pss_nil) (pss_cons (ps_for PassesOwn.never rfl (pi_tupK K (pv 0)) (pg_name (i := 3) sc__law_is_chart.nd rfl (.inr rfl)) (pss_cons (ps_if (PW.pt (pw_or (pt_not (pt_truK K (pe_callB (call_isiKK K) (by rfl) m_isinstance (by decide +kernel) (pa_cons (pv 3) (pa_cons (pe_bltn (v := .ty "tuple") (by rfl) m_tuple (by decide +kernel) rfl) pa_nil))) (fun _ => rfl))) (pw_or (pt_cmpR (op_neK K hr.units) (pe_callB (call_lenK K) (by rfl) m_len (by decide +kernel) (pa_cons (pv 3) pa_nil)) pe_int (nomark _)) (pw_or (pt_not (pt_truK K (pe_callD d__law_is_name (hr.mono (by decide)) gd (by rfl) (pa_cons (pe_ix (ix_K K) (pv 3) pe_int (fun _ _ => rfl)) pa_nil)) (fun _ => rfl))) (pw_or1 (pt_not (pt_truK K (pe_callD d__law_is_number (hr.mono (by decide)) gd (by rfl) (pa_cons (pe_ix (ix_K K) (pv 3) pe_int (fun _ _ => rfl)) (pa_cons pe_int pa_nil))) (fun _ => rfl)))))))) (pss_one (ps_ret pe_bl)) pss_nil) (pss_one (ps_if (PW.pt (pw_or (pt_cmpR (op_eqK K hr.units) (pe_ix (ix_K K) (pv 3) pe_int (fun _ _ => rfl)) pe_int (nomark _)) (pw_or (pt_not (pt_truK K (pe_callB (call_isiKK K) (by rfl) m_isinstance (by decide +kernel) (pa_cons (pe_ix (ix_K K) (pv 3) pe_int (fun _ _ => rfl)) (pa_cons (pe_bltn (v := .ty "tuple") (by rfl) m_tuple (by decide +kernel) rfl) pa_nil))) (fun _ => rfl))) (pw_or1 (pt_cmpR op_gt (pe_callB (call_lenK K) (by rfl) m_len (by decide +kernel) (pa_cons (pe_ix (ix_K K) (pv 3) pe_int (fun _ _ => rfl)) pa_nil)) pe_int (nomark _)))))) (pss_one (ps_ret pe_bl)) pss_nil)))) (pss_cons (ps_set (i := 4) sc__law_is_chart.nd rfl (.inr rfl) (pe_lc (own := [("_law_row", 3)]) rfl sc__law_is_chart.nd (pi_tupK K (pv 0)) (blkOk_by (N := N__law_is_chart) (sc := defScope s__law_is_chart) (by decide +kernel)) (fun _ _ _ _ _ => (pg_name (i := 3) sc__law_is_chart.nd rfl (.inl rfl))) (fun _ _ _ _ _ => pts_nil) (fun _ _ _ _ _ => (pe_ix (ix_K K) (pv 3) pe_int (fun _ _ => rfl))))) (pss_cons (ps_if (pt_cmpR (op_neK K hr.units) (pe_lenSetSK K (by rfl) m_len (by rfl) m_set (pv 4)) (pe_callB (call_lenK K) (by rfl) m_len (by decide +kernel) (pa_cons (pv 4) pa_nil)) (nomark _)) (pss_one (ps_ret pe_bl)) pss_nil) (pss_cons (ps_for PassesOwn.never rfl (pi_tupK K (pv 0)) (pg_name (i := 3) sc__law_is_chart.nd rfl (.inr rfl)) (pss_one (ps_if (pt_cmpR (op_neNil K (units65 hr)) (pe_lc (own := [("_law_move", 5)]) rfl sc__law_is_chart.nd (pi_tupK K (pe_ix (ix_K K) (pv 3) pe_int (fun _ _ => rfl))) (blkOk_by (N := N__law_is_chart) (sc := defScope s__law_is_chart) (by decide +kernel)) (fun _ _ _ _ _ => (pg_name (i := 5) sc__law_is_chart.nd rfl (.inl rfl))) (fun _ _ _ _ _ => (pts_one (pt_not (pt_truK K (pe_callD d__law_is_move (hr.mono (by decide)) gd (by rfl) (pa_cons (pv 5) (pa_cons (pv 1) (pa_cons (pv 2) (pa_cons (pv 4) (pa_cons (pe_ix (ix_K K) (pv 3) pe_int (fun _ _ => rfl)) pa_nil)))))) (fun _ => rfl))))) (fun _ _ _ _ _ => (pv 5))) (pe_lst pa_nil) (nomark _)) (pss_one (ps_ret pe_bl)) pss_nil))) (pss_one (ps_ret pe_bl))))))), ?_⟩)
  rintro ds M R ⟨m, ss, d, rfl, ok, q⟩
  show DS K _ [some d, some (nD m), some (.tup (sD ss)), none, none, none] M _
  walk_at "x0"
  walk_at "nx"
  refine dc_isTup ⟨okV_tp ok, ?_⟩
  walk_at "nx"
  cases d with
  | tup xs =>
    obtain ⟨few, ok⟩ := okV_tup ok
    refine ite_1 ?_
    walk_at "nx"
    · rename_i l1 l4
      rw [show chartF m ss (.tup xs) = (decide (1 ≤ xs.length ∧ xs.length ≤ 4) && (xs.all rowF && (diff (xs.map nmF) && xs.all fun x => (msF x).all (movF m ss (xs.map nmF) (ptF x))))) from rfl, decide_eq_true (show 1 ≤ xs.length ∧ xs.length ≤ 4 from ⟨by omega, by omega⟩), Bool.true_and] at q
      refine ds_forP [3] ?_
      walk_at "x0"
      walk_at "nx"
      refine ⟨fun i M2 => M2 = M ∧ ∀ x, x ∈ xs.take i → rowF x = true, ⟨rfl, fun x hx => by simp at hx⟩, fun i d M2 hd hM => ?_, fun M2 hM => ?_⟩
      · obtain ⟨rfl, hw⟩ := hM
        have okd := ok d (List.mem_of_getElem? hd)
        have out : rowF d = false → R (.bl false) M2 := fun h => by
          rw [all_no hd h] at q
          exact q
        walk_at "x0"
        walk_at "nx"
        refine dc_isTup ⟨okV_tp okd, ?_⟩
        walk_at "nx"
        cases d with
        | tup ys =>
          obtain ⟨fy, oky⟩ := okV_tup okd
          refine ite_1 ?_
          walk_at "nx"
          refine (show DR K (rNeD K) (nD ys.length) (nD 3) _ _ from dr_neNN ?_)
          by_cases h3 : ys.length = 3
          · rw [decide_eq_true h3]
            obtain ⟨a, b, c, rfl⟩ := three_of h3
            rw [rowF_eq] at out
            walk_at "nx"
            refine dr_ixTE ⟨a, rfl, ?_⟩
            walk_at "nx"
            refine use_lname ⟨oky a (by simp), ?_⟩
            walk_at "nx"
            cases e1 : isN a with
            | false =>
              refine ite_0 ?_
              walk_at "nx"
              exact out (by rw [e1]; rfl)
            | true =>
              rw [e1, Bool.true_and] at out
              refine ite_1 ?_
              walk_at "nx"
              refine dr_ixTE ⟨b, rfl, ?_⟩
              walk_at "nx"
              refine (show p__law_is_number [b, nD 5] _ _ from use_lnum ⟨oky b (by simp), ?_⟩)
              walk_at "nx"
              cases e2 : isIdx b 5 with
              | false =>
                refine ite_0 ?_
                walk_at "nx"
                exact out (by rw [e2]; rfl)
              | true =>
                rw [e2, Bool.true_and] at out
                obtain ⟨j, rfl, hj⟩ := isIdx_nat e2
                refine ite_1 ?_
                walk_at "nx"
                refine dr_ixTE ⟨nD j, rfl, ?_⟩
                walk_at "nx"
                · rename_i hb
                  have h0 : j = 0 := by have : (j : Int) = 0 := by simpa using hb
                                        omega
                  subst h0
                  exact out rfl
                · rename_i hb
                  have h0 : ¬ j = 0 := fun e => hb (by subst e; rfl)
                  rw [show isIdx (nD j) 1 = false from decide_eq_false (by omega), Bool.not_false, Bool.true_and] at out
                  refine dr_ixTE ⟨c, rfl, ?_⟩
                  walk_at "nx"
                  refine dc_isTup ⟨okV_tp (oky c (by simp)), ?_⟩
                  walk_at "nx"
                  cases c with
                  | tup ms =>
                    refine ite_1 ?_
                    walk_at "nx"
                    refine dr_ixTE ⟨.tup ms, rfl, ?_⟩
                    walk_at "nx"
                    · rename_i h6
                      exact out (decide_eq_false (by omega))
                    · rename_i h6
                      refine ⟨rfl, rfl, take_more hd hw ?_⟩
                      rw [rowF_eq, e1, e2, show isIdx (nD j) 1 = false from decide_eq_false (by omega)]
                      exact decide_eq_true (by omega)
                  | _ =>
                    refine ite_0 ?_
                    walk_at "nx"
                    exact out rfl
          · rw [decide_eq_false h3]
            walk_at "nx"
            exact out (rowF_no h3)
        | _ =>
          refine ite_0 ?_
          walk_at "nx"
          exact out rfl
      · obtain ⟨rfl, rows⟩ := hM
        rw [List.take_length] at rows
        rw [List.all_eq_true.mpr rows, Bool.true_and] at q
        walk_at "nx"
        refine de_map (by simp) ?_
        walk_at "nx"
        refine ⟨by rw [sizeLine_eq]; omega, fun x => .str (nmF x), fun x hx => ?_, ?_⟩
        · obtain ⟨y, j, ms, rfl, _, _⟩ := rowF_tup (rows x hx)
          walk_at "x0"
          walk_at "nx"
          exact dr_ixTE ⟨.str y, rfl, rfl, rfl⟩
        · rw [show (xs.map fun x => D.str (nmF x)) = sD (xs.map nmF) from by show _ = (xs.map nmF).map D.str; rw [List.map_map]; rfl]
          walk_at "nx"
          refine de_lenSetS ?_
          walk_at "nx"
          refine ⟨xs.map nmF, .inr rfl, by rw [List.length_map]; exact few, fun L nd mm => ?_⟩
          have e2 := nub_len nd mm
          walk_at "nx"
          · rename_i hb
            have hd : diff (xs.map nmF) = true := decide_eq_true (by rw [List.length_map] at hb ⊢; rw [List.length_map] at hb; omega)
            rw [hd, Bool.true_and] at q
            refine ds_forP [3, 5] ?_
            walk_at "x0"
            walk_at "nx"
            have out : ∀ {i : Nat} {d : D}, xs[i]? = some d → (msF d).all (movF m ss (xs.map nmF) (ptF d)) = false → R (.bl false) M2 := fun hd h => by
              rw [all_no hd h] at q
              exact q
            refine ⟨fun i M3 => M3 = M2 ∧ ∀ x, x ∈ xs.take i → (msF x).all (movF m ss (xs.map nmF) (ptF x)) = true, ⟨rfl, fun x hx => by simp at hx⟩, fun i d M3 hd hM => ?_, fun M3 hM => ?_⟩
            · obtain ⟨rfl, hw⟩ := hM
              have hin := List.mem_of_getElem? hd
              obtain ⟨y, j, ms, rfl, _, h6⟩ := rowF_tup (rows d hin)
              have okms := (okV_tup ((okV_tup (ok _ hin)).2 (.tup ms) (by simp))).2
              walk_at "x0"
              walk_at "nx"
              refine de_filt (by simp) ?_
              walk_at "nx"
              refine dr_ixTE ⟨.tup ms, rfl, ?_⟩
              walk_at "nx"
              refine ⟨by rw [sizeLine_eq]; omega, fun e => !movF m ss (xs.map nmF) j e, id, fun e he => ?_, fun e he _ => ?_, ?_⟩
              · walk_at "x0"
                walk_at "nx"
                refine dr_ixTE ⟨nD j, rfl, ?_⟩
                walk_at "nx"
                refine use_lmove ⟨okms e he, ?_⟩
                walk_at "nx"
                exact ⟨rfl, rfl⟩
              · walk_at "x0"
                walk_at "nx"
                exact ⟨rfl, rfl⟩
              · rw [List.map_id]
                walk_at "nx"
                refine de_lst ?_
                walk_at "nx"
                refine ⟨Nat.zero_le _, dr_neLN ?_⟩
                have e5 : (ms.filter fun e => !movF m ss (xs.map nmF) j e).isEmpty = ms.all (movF m ss (xs.map nmF) j) := by
                  rw [Bool.eq_iff_iff, List.isEmpty_iff, List.filter_eq_nil_iff, List.all_eq_true]
                  simp
                rw [e5]
                have e6 : (msF (.tup [.str y, nD j, .tup ms])).all (movF m ss (xs.map nmF) (ptF (.tup [.str y, nD j, .tup ms]))) = ms.all (movF m ss (xs.map nmF) j) := rfl
                cases e7 : ms.all (movF m ss (xs.map nmF) j) with
                | false =>
                  walk_at "nx"
                  exact out hd (by rw [e6]; exact e7)
                | true =>
                  walk_at "nx"
                  exact ⟨rfl, rfl, take_more hd hw (by rw [e6]; exact e7)⟩
            · obtain ⟨rfl, hw⟩ := hM
              rw [List.take_length] at hw
              rw [List.all_eq_true.mpr hw] at q
              walk_at "nx"
              exact q
          · rename_i hb
            have hd : diff (xs.map nmF) = false := decide_eq_false (by rw [List.length_map] at hb ⊢; rw [List.length_map] at hb; omega)
            rw [hd] at q
            exact q
    · rename_i l1 l4
      rw [show chartF m ss (.tup xs) = (decide (1 ≤ xs.length ∧ xs.length ≤ 4) && _) from rfl, decide_eq_false (show ¬ (1 ≤ xs.length ∧ xs.length ≤ 4) from fun h => l4 (by omega))] at q
      exact q
    · rename_i l1
      rw [show chartF m ss (.tup xs) = (decide (1 ≤ xs.length ∧ xs.length ≤ 4) && _) from rfl, decide_eq_false (show ¬ (1 ≤ xs.length ∧ xs.length ≤ 4) from fun h => l1 (by omega))] at q
      exact q
  | _ =>
    refine ite_0 ?_
    walk_at "nx"
    exact q
theorem use_lchart {M : Mem} {Q : D → Mem → Prop} {m : Nat} {ss : List Str} {d : D} (h : okV d ∧ Q (.bl (chartF m ss d)) M) : p__law_is_chart [d, nD m, .tup (sD ss)] M Q := ⟨m, ss, d, rfl, h⟩

/-! ### the draws -/
def p__law_pool : PT0 := fun ds M R => ∃ (ns : List Int) (k : Nat), ds = [.lst (ns.map D.int), .int (k : Int)] ∧ ns.length ≤ 63 ∧ ∀ p, M p = none → R (.raw (.ref p)) (mup M p .die)
def p__law_sip : PT0 := fun ds M R => ∃ (p : Addr) (n : Int), ds = [.raw (.ref p), .int n] ∧ M p = some .die ∧ 0 < n ∧ n < 10 ^ 40 ∧ ∀ i : Int, 0 ≤ i → i < n → R (.int i) M
def itemsM (M : Mem) : D → Option (List D)
  | .raw (.ref q) => (match M q with | some (.lst xs) => some xs | _ => none)
  | d => itemsD d
def p__law_pick : PT0 := fun ds M R => ∃ (p : Addr) (d : D) (its : List D), ds = [.raw (.ref p), d] ∧ M p = some .die ∧ itemsM M d = some its ∧ its ≠ [] ∧ its.length < 1000000 ∧ ∀ x, x ∈ its → R x M
theorem len__law_pool : ∀ ds M R, p__law_pool ds M R → ds.length = 2 := fun _ _ _ ⟨_, _, e, _⟩ => by rw [e]; rfl
theorem len__law_sip : ∀ ds M R, p__law_sip ds M R → ds.length = 2 := fun _ _ _ ⟨_, _, e, _⟩ => by rw [e]; rfl
theorem len__law_pick : ∀ ds M R, p__law_pick ds M R → ds.length = 2 := fun _ _ _ ⟨_, _, _, e, _⟩ => by rw [e]; rfl
theorem ok__law_pool {P : Program} {w : World} {K : PySem.W.Frag} {mg : Str → Option Value} {base : Heap} (T : Tx K mg "_law_pool" s__law_pool) (m_len : mg "len" = none) (m_int : mg "int" = none) (m_abs : mg "abs" = none) (m_max : mg "max" = none) : Df P w K mg base 1 "_law_pool" ["_law_script", "_law_spot"] p__law_pool := by
  refine df_ok T sc__law_pool (len__law_pool) (fun _ _ _ _ _ _ us hl => match us, hl with | [_, _], _ => rfl) (fun cdv A ou s H fa hr gd => ⟨_, (pss_cons (ps_set (i := 2) sc__law_pool.nd rfl (.inl rfl) (pe_ifExp (pt_cmpR op_lt (pv 1) (pe_callB (call_lenK K) (by rfl) m_len (by decide +kernel) (pa_cons (pv 0) pa_nil)) (nomark _)) (pe_ix (ix_K K) (pv 0) (pv 1) (fun _ _ => rfl)) (pe_op (op_addK K) (pe_op op_mul pe_int (pv 1)) pe_int))) (pss_cons (ps_set (i := 3) sc__law_pool.nd rfl (.inl rfl) (pe_op op_mod (pe_callTy call_int1 (by rfl) m_int (by decide +kernel) (pa_cons (pe_callB call_abs (by rfl) m_abs (by decide +kernel) (pa_cons (pv 2) pa_nil)) pa_nil)) (pe_op op_powN (pe_op op_powN pe_int pe_int) pe_int))) (pss_cons (ps_set (i := 4) sc__law_pool.nd rfl (.inl rfl) (pe_op op_mod (pe_callTy call_int1 (by rfl) m_int (by decide +kernel) (pa_cons (pe_op (op_addK K) (pe_op (op_addK K) (pe_op (op_addK K) (pe_op op_mul (pv 3) pe_int) (pe_op op_mul pe_int (pv 1))) (pe_op op_mul pe_int (pe_callTy call_int1 (by rfl) m_int (by decide +kernel) (pa_cons (pe_cmpR op_lt (pv 2) pe_int (nomark _)) pa_nil)))) pe_int) pa_nil)) pe_int)) (pss_one (ps_ret (pe_lst (pa_cons (pe_callB (call_max2 rfl) (by rfl) m_max (by decide +kernel) (pa_cons pe_int (pa_cons (pe_op op_sub (pv 3) (pe_op op_powN pe_int pe_int)) pa_nil))) (pa_cons (pv 4) (pa_cons pe_int pa_nil))))))))), ?_⟩)
  rintro ds M R ⟨ns, k, rfl, hl, q⟩
  show DS K _ [some (.lst (ns.map D.int)), some (.int (k : Int)), none, none, none] M _
  walk_at "x0"
  have hk : ∀ h : k < ns.length, atI (ns.map D.int) (k : Int) = some (.int ns[k]) := fun h => by
    rw [atI_nat (j := k) (v := .int ns[k]) (by rw [List.getElem?_map, List.getElem?_eq_getElem h]; rfl)]
  walk_at "go"
  all_goals try (refine dr_ixLE ⟨_, hk (by rw [List.length_map] at *; omega), ?_⟩; walk_at "go")
  all_goals first
    | walk_at "mul"
    | exact ⟨by decide, by decide +kernel⟩
    | decide +kernel
    | (refine de_lstD ?_
       walk_at "go"
       all_goals first
         | exact ⟨by decide, by decide +kernel⟩
         | decide
         | exact ⟨⟨_, _, _, rfl⟩, fun p hp => q p hp⟩)
theorem ok__law_sip {P : Program} {w : World} {K : PySem.W.Frag} {mg : Str → Option Value} {base : Heap} (T : Tx K mg "_law_sip" s__law_sip) (m_int : mg "int" = none) : Df P w K mg base 1 "_law_sip" ["_law_pool_here", "_law_size"] p__law_sip := by
  refine df_ok T sc__law_sip (len__law_sip) (fun _ _ _ _ _ _ us hl => match us, hl with | [_, _], _ => rfl) (fun cdv A ou s H fa hr gd => ⟨_, (pss_cons (ps_if (pt_cmpR op_gt (pe_ix (ix_K K) (pv 0) pe_int (fun _ _ => rfl)) pe_int (nomark _)) (pss_cons (ps_set (i := 2) sc__law_sip.nd rfl (.inl rfl) (pe_op op_mod (pe_callTy call_int1 (by rfl) m_int (by decide +kernel) (pa_cons (pe_ix (ix_K K) (pv 0) pe_int (fun _ _ => rfl)) pa_nil)) (pv 1))) (pss_cons (ps_asg (pe_op op_fdivW (pe_ix (ix_K K) (pv 0) pe_int (fun _ _ => rfl)) (pv 1)) (pg_sub (pv 0) pe_int set_list)) (pss_one (ps_ret (pv 2))))) pss_nil) (pss_cons (ps_asg (pe_op (op_addK K) (pe_ix (ix_K K) (pv 0) pe_int (fun _ _ => rfl)) pe_int) (pg_sub (pv 0) pe_int set_list)) (pss_cons (ps_set (i := 3) sc__law_sip.nd rfl (.inl rfl) (pe_op op_mod (pe_callTy call_int1 (by rfl) m_int (by decide +kernel) (pa_cons (pe_op (op_addK K) (pe_ix (ix_K K) (pv 0) pe_int (fun _ _ => rfl)) (pe_op op_mul pe_int (pe_ix (ix_K K) (pv 0) pe_int (fun _ _ => rfl)))) pa_nil)) pe_int)) (pss_cons (ps_set (i := 4) sc__law_sip.nd rfl (.inl rfl) (pe_op (op_addK K) (pe_op op_mul (pe_op op_mod (pe_callTy call_int1 (by rfl) m_int (by decide +kernel) (pa_cons (pe_op op_mul (pv 3) (pv 3)) pa_nil)) pe_int) (pv 3)) (pe_op op_mul pe_int (pe_ix (ix_K K) (pv 0) pe_int (fun _ _ => rfl))))) (pss_one (ps_ret (pe_op op_mod (pe_callTy call_int1 (by rfl) m_int (by decide +kernel) (pa_cons (pe_op op_fdiv (pe_op op_mod (pe_callTy call_int1 (by rfl) m_int (by decide +kernel) (pa_cons (pe_op (op_addK K) (pv 4) (pe_ix (ix_K K) (pv 0) pe_int (fun _ _ => rfl))) pa_nil)) pe_int) pe_int) pa_nil)) (pv 1)))))))), ?_⟩)
  rintro ds M R ⟨p, n, rfl, hp, h0, h1, q⟩
  show DS K _ [some (.raw (.ref p)), some (.int n), none, none, none] M _
  walk_at "x0"
  walk_at "go"
  · exact h0
  · exact wide_div h0 (b := 200) (by omega) (by decide) (by decide)
  · refine ⟨[], dg_die (p := p) (j := 0) (by decide) ?_⟩
    walk_at "go"
    refine ⟨rfl, ?_⟩
    walk_at "go"
    refine ⟨rfl, hp, ?_⟩
    walk_at "go"
    exact q _ (Int.emod_nonneg _ (by omega)) (Int.emod_lt_of_pos _ h0)
  · refine ⟨[], dg_die (p := p) (j := 2) (by decide) ?_⟩
    walk_at "go"
    refine ⟨rfl, ?_⟩
    walk_at "go"
    refine ⟨rfl, hp, ?_⟩
    walk_at "go"
    all_goals first
      | walk_at "mul"
      | decide
      | exact h0
      | exact ⟨by decide, by decide⟩
      | exact q _ (Int.emod_nonneg _ (by omega)) (Int.emod_lt_of_pos _ h0)
      | skip
theorem use_cast {M : Mem} {Q : D → Mem → Prop} {p : Addr} {n : Int} (h : M p = some .die ∧ 0 < n ∧ n < 10 ^ 40 ∧ ∀ i : Int, 0 ≤ i → i < n → Q (.int i) M) : p__law_sip [.raw (.ref p), .int n] M Q := ⟨p, n, rfl, h⟩
theorem ok__law_pick {P : Program} {w : World} {K : PySem.W.Frag} {mg : Str → Option Value} {base : Heap} (T : Tx K mg "_law_pick" s__law_pick) (d__law_sip : Df P w K mg base 1 "_law_sip" ["_law_pool_here", "_law_size"] p__law_sip) (m_len : mg "len" = none) : Df P w K mg base 2 "_law_pick" ["_law_pool_here", "_law_items"] p__law_pick := by
  refine df_ok T sc__law_pick (len__law_pick) (fun _ _ _ _ _ _ us hl => match us, hl with | [_, _], _ => rfl) (fun cdv A ou s H fa hr gd => ⟨_, (pss_one (ps_ret (pe_ix (ix_K K) (pv 1) (pe_callD d__law_sip (hr.mono (by decide)) gd (by rfl) (pa_cons (pv 0) (pa_cons (pe_callB (call_lenK K) (by rfl) m_len (by decide +kernel) (pa_cons (pv 1) pa_nil)) pa_nil))) (fun _ _ => rfl)))), ?_⟩)
  rintro ds M R ⟨p, d, its, rfl, hp, hi, h0, h1, q⟩
  show DS K _ [some (.raw (.ref p)), some d] M _
  walk_at "x0"
  have pos : 0 < (its.length : Int) := by cases its with | nil => exact absurd rfl h0 | cons _ _ => simp
  cases d with
  | lst xs =>
    cases hi
    walk_at "go"
    refine use_cast ⟨hp, pos, by omega, fun i a b => ?_⟩
    obtain ⟨x, e, hx⟩ := atI_in a b
    exact dr_ixLE ⟨x, e, q x hx⟩
  | tup xs =>
    cases hi
    walk_at "go"
    refine use_cast ⟨hp, pos, by omega, fun i a b => ?_⟩
    obtain ⟨x, e, hx⟩ := atI_in a b
    exact dr_ixTE ⟨x, e, q x hx⟩
  | str z =>
    cases hi
    have hz : z.length < 1000000 := by rw [sigs_len] at h1; exact h1
    have hz2 : z.length ≤ sizeLine := by rw [sizeLine_eq]; omega
    walk_at "go"
    refine dc_len_str ⟨hz2, ?_⟩
    walk_at "go"
    refine use_cast ⟨hp, by rw [sigs_len] at pos; exact pos, by omega, fun i a b => ?_⟩
    obtain ⟨c, e, hc⟩ := atI_in (l := z.cps.toList) a (by rw [Array.length_toList]; exact b)
    exact dr_ixSE ⟨c, hz2, e, q _ (List.mem_map.mpr ⟨c, hc, rfl⟩)⟩
  | raw v =>
    cases v with
    | ref b =>
      have hb : M b = some (.lst its) := by
        unfold itemsM at hi
        cases e : M b with
        | none => simp only [e] at hi; cases hi
        | some o =>
          simp only [e] at hi
          cases o <;> first | (cases hi; rfl) | cases hi
      walk_at "go"
      refine dc_lenM ⟨hb, ?_⟩
      walk_at "go"
      refine use_cast ⟨hp, pos, by omega, fun i a b => ?_⟩
      obtain ⟨x, e, hx⟩ := atI_in a b
      exact dr_ixM ⟨hb, e, q x hx⟩
    | _ => cases hi
  | _ => cases hi
theorem use_pick {M : Mem} {Q : D → Mem → Prop} {p : Addr} {d : D} (h : ∃ its, M p = some .die ∧ itemsM M d = some its ∧ its ≠ [] ∧ its.length < 1000000 ∧ ∀ x, x ∈ its → Q x M) : p__law_pick [.raw (.ref p), d] M Q := let ⟨its, h⟩ := h; ⟨p, d, its, rfl, h⟩
theorem use_pickM {M : Mem} {Q : D → Mem → Prop} {p b : Addr} {its : List D} (h : M p = some .die ∧ M b = some (.lst its) ∧ its ≠ [] ∧ its.length < 1000000 ∧ ∀ x, x ∈ its → Q x M) : p__law_pick [.raw (.ref p), .raw (.ref b)] M Q := ⟨p, .raw (.ref b), its, rfl, h.1, by show (match M b with | some (.lst xs) => some xs | _ => none) = _; rw [h.2.1], h.2.2⟩

/-! ### odd values -/
def odds : List D := [.non, .bl true, .int (-1), .int 0, .int 1, .int 2, .int 4, .int 5, .str "", .str "s", .str "t", .str "one", .str "two", .str "zz", .str "longwords", .tup [], .tup [.int 0], .lst [], .dic [], .tup [.tup [.int 0, .int 0]],
  .tup [.tup [.str "s", .str "one", .tup []]], .tup [.tup [.str "s", .str "one", .tup [.tup [.int 0, .int 0], .tup [.int 0, .int 1]]]], .tup [.str "leave", .int 0], .tup [.str "go", .int 0, .int 0, .int 0, .int 0]]
def p__law_odd : PT0 := fun ds M R => ∃ p : Addr, ds = [.raw (.ref p)] ∧ M p = some .die ∧ ∀ x, x ∈ odds → R x M
theorem len__law_odd : ∀ ds M R, p__law_odd ds M R → ds.length = 1 := fun _ _ _ ⟨_, e, _⟩ => by rw [e]; rfl
theorem ok__law_odd {P : Program} {w : World} {K : PySem.W.Frag} {mg : Str → Option Value} {base : Heap} (T : Tx K mg "_law_odd" s__law_odd) (d__law_pick : Df P w K mg base 2 "_law_pick" ["_law_pool_here", "_law_items"] p__law_pick) : Df P w K mg base 3 "_law_odd" ["_law_pool_here"] p__law_odd := by
  refine df_ok T sc__law_odd (len__law_odd) (fun _ _ _ _ _ _ us hl => match us, hl with | [_], _ => rfl) (fun cdv A ou s H fa hr gd => ⟨_, (pss_cons (ps_set (i := 1) sc__law_odd.nd rfl (.inl rfl) (pe_lst (pa_cons pe_non (pa_cons pe_bl (pa_cons (pe_un un_neg pe_int) (pa_cons pe_int (pa_cons pe_int (pa_cons pe_int (pa_cons pe_int (pa_cons pe_int (pa_cons pe_str (pa_cons pe_str (pa_cons pe_str (pa_cons pe_str (pa_cons pe_str (pa_cons pe_str (pa_cons pe_str (pa_cons (pe_tup pa_nil) (pa_cons (pe_tup (pa_cons pe_int pa_nil)) (pa_cons (pe_lst pa_nil) (pa_cons pe_dnewK (pa_cons (pe_tup (pa_cons (pe_tup (pa_cons pe_int (pa_cons pe_int pa_nil))) pa_nil)) pa_nil)))))))))))))))))))))) (pss_cons (ps_set (i := 1) sc__law_odd.nd rfl (.inl rfl) (pe_op (op_addK K) (pv 1) (pe_lst (pa_cons (pe_tup (pa_cons (pe_tup (pa_cons pe_str (pa_cons pe_str (pa_cons (pe_tup pa_nil) pa_nil)))) pa_nil)) (pa_cons (pe_tup (pa_cons (pe_tup (pa_cons pe_str (pa_cons pe_str (pa_cons (pe_tup (pa_cons (pe_tup (pa_cons pe_int (pa_cons pe_int pa_nil))) (pa_cons (pe_tup (pa_cons pe_int (pa_cons pe_int pa_nil))) pa_nil))) pa_nil)))) pa_nil)) (pa_cons (pe_tup (pa_cons pe_str (pa_cons pe_int pa_nil))) (pa_cons (pe_tup (pa_cons pe_str (pa_cons pe_int (pa_cons pe_int (pa_cons pe_int (pa_cons pe_int pa_nil)))))) pa_nil))))))) (pss_one (ps_ret (pe_callD d__law_pick (hr.mono (by decide)) gd (by rfl) (pa_cons (pv 0) (pa_cons (pv 1) pa_nil))))))), ?_⟩)
  rintro ds M R ⟨p, rfl, hp, q⟩
  show DS K _ [some (.raw (.ref p)), none] M _
  walk_at "x0"
  walk_at "gol"
  refine dr_addLE ⟨by show 24 ≤ sizeLine; decide, ?_⟩
  walk_at "go"
  exact use_pick ⟨_, hp, rfl, List.cons_ne_nil _ _, by decide, q⟩
theorem use_odd {M : Mem} {Q : D → Mem → Prop} {p : Addr} (h : M p = some .die ∧ ∀ x, x ∈ odds → Q x M) : p__law_odd [.raw (.ref p)] M Q := ⟨p, rfl, h⟩
theorem okS_lit {x : Str} (h : (decide (x.length ≤ 1000) && x.cps.toList.all fun c => decide (c < 128)) = true) : okS x := by
  rw [Bool.and_eq_true] at h
  exact ⟨of_decide_eq_true h.1, fun c hc => of_decide_eq_true (List.all_eq_true.mp h.2 c hc)⟩
theorem odds_ok : ∀ x, x ∈ odds → okV x := by
  intro x hx
  unfold odds at hx
  simp only [List.mem_cons, List.not_mem_nil, or_false] at hx
  rcases hx with rfl | rfl | rfl | rfl | rfl | rfl | rfl | rfl | rfl | rfl | rfl | rfl | rfl | rfl | rfl | rfl | rfl | rfl | rfl | rfl | rfl | rfl | rfl | rfl
  all_goals simp only [okV, okVL, and_true, true_and, List.length_cons, List.length_nil]
  all_goals first
    | trivial
    | exact okS_lit (by decide +kernel)
    | exact ⟨by omega, okS_lit (by decide +kernel)⟩
    | (refine ⟨?_, ?_⟩ <;> first | omega | exact okS_lit (by decide +kernel))
    | omega
    | skip
theorem odds_no (m : Nat) (ss : List Str) : ∀ x, x ∈ odds → chartF m ss x = false := by
  intro x hx
  unfold odds at hx
  simp only [List.mem_cons, List.not_mem_nil, or_false] at hx
  rcases hx with rfl | rfl | rfl | rfl | rfl | rfl | rfl | rfl | rfl | rfl | rfl | rfl | rfl | rfl | rfl | rfl | rfl | rfl | rfl | rfl | rfl | rfl | rfl | rfl
  all_goals first | rfl | (unfold chartF; rfl) | (unfold chartF; simp [rowF]) | skip

theorem itemsL (M : Mem) (xs : List D) : itemsM M (.lst xs) = some xs := rfl
def p__law_bent : PT0 := fun ds M R => ∃ (p : Addr) (xs : List D), ds = [.raw (.ref p), .tup xs] ∧ M p = some .die ∧ xs.length ≤ 400 ∧ (∀ x, x ∈ xs → okV x) ∧ ∀ x, okV x → R x M
theorem len__law_bent : ∀ ds M R, p__law_bent ds M R → ds.length = 2 := fun _ _ _ ⟨_, _, e, _⟩ => by rw [e]; rfl
theorem cut_sub {xs : List D} {lo hi : Option Int} (ok : ∀ x, x ∈ xs → okV x) : ∀ x, x ∈ DL.cutD xs lo hi → okV x := fun x hx => ok x (List.mem_of_mem_drop (List.mem_of_mem_take hx))
theorem cut_len {xs : List D} {lo hi : Option Int} : (DL.cutD xs lo hi).length ≤ xs.length := by
  unfold DL.cutD
  rw [List.length_take, List.length_drop]; omega
theorem ok__law_bent {P : Program} {w : World} {K : PySem.W.Frag} {mg : Str → Option Value} {base : Heap} (T : Tx K mg "_law_bent" s__law_bent) (d__law_sip : Df P w K mg base 1 "_law_sip" ["_law_pool_here", "_law_size"] p__law_sip) (m_len : mg "len" = none) (d__law_odd : Df P w K mg base 3 "_law_odd" ["_law_pool_here"] p__law_odd) (d__law_pick : Df P w K mg base 2 "_law_pick" ["_law_pool_here", "_law_items"] p__law_pick) (m_list : mg "list" = none) : Df P w K mg base 4 "_law_bent" ["_law_pool_here", "_law_items"] p__law_bent := by
  refine df_ok T sc__law_bent (len__law_bent) (fun _ _ _ _ _ _ us hl => match us, hl with | [_, _], _ => rfl) (fun cdv A ou s H fa hr gd => ⟨_, (pss_cons (ps_set (i := 2) sc__law_bent.nd rfl (.inl rfl) (pe_ifExp (pt_cmpR (op_neNil K (units65 hr)) (pv 1) (pe_tup pa_nil) (nomark _)) (pe_callD d__law_sip (hr.mono (by decide)) gd (by rfl) (pa_cons (pv 0) (pa_cons (pe_callB (call_lenK K) (by rfl) m_len (by decide +kernel) (pa_cons (pv 1) pa_nil)) pa_nil))) pe_int)) (pss_cons (ps_set (i := 3) sc__law_bent.nd rfl (.inl rfl) (pe_lst (pa_cons (pe_op (op_catAK K) (pe_op (op_catAK K) (pe_slice (sl_tupK K) (pv 1) po_none (po_some (pv 2))) (pe_tup (pa_cons (pe_callD d__law_odd (hr.mono (by decide)) gd (by rfl) (pa_cons (pv 0) pa_nil)) pa_nil))) (pe_slice (sl_tupK K) (pv 1) (po_some (pe_op (op_addK K) (pv 2) pe_int)) po_none)) (pa_cons (pe_op (op_catAK K) (pe_slice (sl_tupK K) (pv 1) po_none (po_some (pv 2))) (pe_slice (sl_tupK K) (pv 1) (po_some (pe_op (op_addK K) (pv 2) pe_int)) po_none)) (pa_cons (pe_op (op_catAK K) (pv 1) (pe_slice (sl_tupK K) (pv 1) po_none (po_some pe_int))) pa_nil))))) (pss_one (ps_ret (pe_callD d__law_pick (hr.mono (by decide)) gd (by rfl) (pa_cons (pv 0) (pa_cons (pe_op (op_addK K) (pv 3) (pe_lst (pa_cons (pe_op (op_catAK K) (pv 1) (pe_tup (pa_cons (pe_callD d__law_odd (hr.mono (by decide)) gd (by rfl) (pa_cons (pv 0) pa_nil)) pa_nil))) (pa_cons (pe_revT K (pv 1)) (pa_cons (pe_callTy (call_listK K) (by rfl) m_list (by decide +kernel) (pa_cons (pv 1) pa_nil)) (pa_cons (pv 1) pa_nil)))))) pa_nil))))))), ?_⟩)
  rintro ds M R ⟨p, xs, rfl, hp, few, ok, q⟩
  show DS K _ [some (.raw (.ref p)), some (.tup xs), none, none] M _
  walk_at "x0"
  walk_at "gol"
  refine dr_neTN ?_
  have pos : xs.isEmpty = false → 0 < (xs.length : Int) := fun h => by cases xs with | nil => cases h | cons _ _ => simp
  cases hx : xs.isEmpty with
  | true =>
    walk_at "go"
    generalize (0 : Int) = k
    refine de_lst ?_
    walk_at "go"
    refine de_slT ?_
    walk_at "go"
    refine do_no (do_pt ?_)
    walk_at "go"
    refine de_tup ?_
    walk_at "go"
    refine use_odd ⟨hp, fun o ho => ?_⟩
    have oo := odds_ok o ho
    walk_at "go"
    refine ⟨by show 1 ≤ sizeLine; decide, ?_⟩
    refine dr_catA ⟨by have := cut_len (xs := xs) (lo := none) (hi := some k); rw [sizeLine_eq]; show _ + 1 ≤ _; omega, ?_⟩
    refine de_slT ?_
    walk_at "go"
    refine do_pt ?_
    walk_at "go"
    refine do_no ?_
    walk_at "go"
    have l1 := cut_len (xs := xs) (lo := none) (hi := some k)
    have l2 := cut_len (xs := xs) (lo := some (k + 1)) (hi := none)
    have l3 := cut_len (xs := xs) (lo := none) (hi := some 1)
    refine dr_catA ⟨by rw [List.length_append, sizeLine_eq]; show _ + 1 + _ ≤ _; omega, ?_⟩
    walk_at "go"
    refine de_slT ?_
    walk_at "go"
    refine do_no (do_pt ?_)
    walk_at "go"
    refine de_slT ?_
    walk_at "go"
    refine do_pt ?_
    walk_at "go"
    refine do_no ?_
    walk_at "go"
    refine dr_catA ⟨by rw [sizeLine_eq]; omega, ?_⟩
    walk_at "go"
    refine de_slT ?_
    walk_at "go"
    refine do_no (do_pt ?_)
    walk_at "go"
    refine dr_catA ⟨by rw [sizeLine_eq]; omega, ?_⟩
    walk_at "go"
    refine ⟨by show 3 ≤ sizeLine; decide, ?_⟩
    walk_at "go"
    refine de_lst ?_
    walk_at "go"
    refine de_tup ?_
    walk_at "go"
    refine use_odd ⟨hp, fun o2 ho2 => ?_⟩
    have oo2 := odds_ok o2 ho2
    walk_at "go"
    refine ⟨by show 1 ≤ sizeLine; decide, ?_⟩
    refine dr_catA ⟨by rw [sizeLine_eq]; show _ + 1 ≤ _; omega, ?_⟩
    walk_at "go"
    refine de_revT ?_
    walk_at "go"
    refine dc_listT ?_
    walk_at "go"
    refine ⟨by show 4 ≤ sizeLine; decide, ?_⟩
    refine dr_addLE ⟨by show 7 ≤ sizeLine; decide, ?_⟩
    walk_at "go"
    refine use_pick ⟨_, hp, rfl, List.cons_ne_nil _ _, by show 7 < 1000000; decide, fun x hx => q x ?_⟩
    simp only [List.cons_append, List.nil_append, List.mem_cons, List.not_mem_nil, or_false] at hx
    rcases hx with rfl | rfl | rfl | rfl | rfl | rfl | rfl
    · refine mk_tup (by rw [List.length_append, List.length_append]; show _ + 1 + _ ≤ _; omega) fun x hx => ?_
      rcases List.mem_append.mp hx with hx | hx
      · rcases List.mem_append.mp hx with hx | hx
        · exact cut_sub ok x hx
        · rw [List.mem_singleton.mp hx]; exact oo
      · exact cut_sub ok x hx
    · refine mk_tup (by rw [List.length_append]; omega) fun x hx => ?_
      rcases List.mem_append.mp hx with hx | hx <;> exact cut_sub ok x hx
    · refine mk_tup (by rw [List.length_append]; omega) fun x hx => ?_
      rcases List.mem_append.mp hx with hx | hx
      · exact ok x hx
      · exact cut_sub ok x hx
    · refine mk_tup (by rw [List.length_append]; show _ + 1 ≤ _; omega) fun x hx => ?_
      rcases List.mem_append.mp hx with hx | hx
      · exact ok x hx
      · rw [List.mem_singleton.mp hx]; exact oo2
    · exact mk_tup (by rw [List.length_reverse]; omega) fun x hx => ok x (List.mem_reverse.mp hx)
    · exact mk_lst (by omega) ok
    · exact mk_tup (by omega) ok
  | false =>
    walk_at "go"
    refine use_cast ⟨hp, pos hx, by omega, fun k _ _ => ?_⟩
    walk_at "go"
    refine de_lst ?_
    walk_at "go"
    refine de_slT ?_
    walk_at "go"
    refine do_no (do_pt ?_)
    walk_at "go"
    refine de_tup ?_
    walk_at "go"
    refine use_odd ⟨hp, fun o ho => ?_⟩
    have oo := odds_ok o ho
    walk_at "go"
    refine ⟨by show 1 ≤ sizeLine; decide, ?_⟩
    refine dr_catA ⟨by have := cut_len (xs := xs) (lo := none) (hi := some k); rw [sizeLine_eq]; show _ + 1 ≤ _; omega, ?_⟩
    refine de_slT ?_
    walk_at "go"
    refine do_pt ?_
    walk_at "go"
    refine do_no ?_
    walk_at "go"
    have l1 := cut_len (xs := xs) (lo := none) (hi := some k)
    have l2 := cut_len (xs := xs) (lo := some (k + 1)) (hi := none)
    have l3 := cut_len (xs := xs) (lo := none) (hi := some 1)
    refine dr_catA ⟨by rw [List.length_append, sizeLine_eq]; show _ + 1 + _ ≤ _; omega, ?_⟩
    walk_at "go"
    refine de_slT ?_
    walk_at "go"
    refine do_no (do_pt ?_)
    walk_at "go"
    refine de_slT ?_
    walk_at "go"
    refine do_pt ?_
    walk_at "go"
    refine do_no ?_
    walk_at "go"
    refine dr_catA ⟨by rw [sizeLine_eq]; omega, ?_⟩
    walk_at "go"
    refine de_slT ?_
    walk_at "go"
    refine do_no (do_pt ?_)
    walk_at "go"
    refine dr_catA ⟨by rw [sizeLine_eq]; omega, ?_⟩
    walk_at "go"
    refine ⟨by show 3 ≤ sizeLine; decide, ?_⟩
    walk_at "go"
    refine de_lst ?_
    walk_at "go"
    refine de_tup ?_
    walk_at "go"
    refine use_odd ⟨hp, fun o2 ho2 => ?_⟩
    have oo2 := odds_ok o2 ho2
    walk_at "go"
    refine ⟨by show 1 ≤ sizeLine; decide, ?_⟩
    refine dr_catA ⟨by rw [sizeLine_eq]; show _ + 1 ≤ _; omega, ?_⟩
    walk_at "go"
    refine de_revT ?_
    walk_at "go"
    refine dc_listT ?_
    walk_at "go"
    refine ⟨by show 4 ≤ sizeLine; decide, ?_⟩
    refine dr_addLE ⟨by show 7 ≤ sizeLine; decide, ?_⟩
    walk_at "go"
    refine use_pick ⟨_, hp, rfl, List.cons_ne_nil _ _, by show 7 < 1000000; decide, fun x hx => q x ?_⟩
    simp only [List.cons_append, List.nil_append, List.mem_cons, List.not_mem_nil, or_false] at hx
    rcases hx with rfl | rfl | rfl | rfl | rfl | rfl | rfl
    · refine mk_tup (by rw [List.length_append, List.length_append]; show _ + 1 + _ ≤ _; omega) fun x hx => ?_
      rcases List.mem_append.mp hx with hx | hx
      · rcases List.mem_append.mp hx with hx | hx
        · exact cut_sub ok x hx
        · rw [List.mem_singleton.mp hx]; exact oo
      · exact cut_sub ok x hx
    · refine mk_tup (by rw [List.length_append]; omega) fun x hx => ?_
      rcases List.mem_append.mp hx with hx | hx <;> exact cut_sub ok x hx
    · refine mk_tup (by rw [List.length_append]; omega) fun x hx => ?_
      rcases List.mem_append.mp hx with hx | hx
      · exact ok x hx
      · exact cut_sub ok x hx
    · refine mk_tup (by rw [List.length_append]; show _ + 1 ≤ _; omega) fun x hx => ?_
      rcases List.mem_append.mp hx with hx | hx
      · exact ok x hx
      · rw [List.mem_singleton.mp hx]; exact oo2
    · exact mk_tup (by rw [List.length_reverse]; omega) fun x hx => ok x (List.mem_reverse.mp hx)
    · exact mk_lst (by omega) ok
    · exact mk_tup (by omega) ok
theorem use_bent {M : Mem} {Q : D → Mem → Prop} {p : Addr} {xs : List D} (h : M p = some .die ∧ xs.length ≤ 400 ∧ (∀ x, x ∈ xs → okV x) ∧ ∀ x, okV x → Q x M) : p__law_bent [.raw (.ref p), .tup xs] M Q := ⟨p, xs, rfl, h⟩

/-! ### a chart bent near -/
/-- a move as drawn: a tuple that begins with a text; a call has its answers as a tuple -/
def mvOk (d : D) : Prop := ∃ (k : Str) (r : List D), d = .tup (.str k :: r) ∧ okV d ∧ r.length ≤ 10 ∧ (k = "call" → ∃ a b c ans, r = [a, b, c, .tup ans] ∧ ans.length ≤ 10)
def rwOk (d : D) : Prop := ∃ (y : Str) (n : Nat) (ms : List D), d = .tup [.str y, nD n, .tup ms] ∧ okV (.str y) ∧ ms.length ≤ 10 ∧ ∀ x, x ∈ ms → mvOk x
theorem rwOk_V {d : D} (h : rwOk d) : okV d := by
  obtain ⟨y, n, ms, rfl, oy, few, hm⟩ := h
  refine mk_tup (by show 3 ≤ 1000; decide) fun x hx => ?_
  simp only [List.mem_cons, List.not_mem_nil, or_false] at hx
  rcases hx with rfl | rfl | rfl
  · exact oy
  · simp [okV]
  · exact mk_tup (by omega) fun x hx => let ⟨_, _, _, o, _⟩ := hm x hx; o
def p__law_near : PT0 := fun ds M R => ∃ (p : Addr) (rows : List D), ds = [.raw (.ref p), .tup rows] ∧ M p = some .die ∧ rows ≠ [] ∧ rows.length ≤ 10 ∧ (∀ x, x ∈ rows → rwOk x) ∧ ∀ x, okV x → R x M
theorem len__law_near : ∀ ds M R, p__law_near ds M R → ds.length = 2 := fun _ _ _ ⟨_, _, e, _⟩ => by rw [e]; rfl
theorem ok__law_near {P : Program} {w : World} {K : PySem.W.Frag} {mg : Str → Option Value} {base : Heap} (T : Tx K mg "_law_near" s__law_near) (d__law_sip : Df P w K mg base 1 "_law_sip" ["_law_pool_here", "_law_size"] p__law_sip) (m_len : mg "len" = none) (d__law_bent : Df P w K mg base 4 "_law_bent" ["_law_pool_here", "_law_items"] p__law_bent) : Df P w K mg base 5 "_law_near" ["_law_pool_here", "_law_rows"] p__law_near := by
  refine df_ok T sc__law_near (len__law_near) (fun _ _ _ _ _ _ us hl => match us, hl with | [_, _], _ => rfl) (fun cdv A ou s H fa hr gd => ⟨_, (pss_cons (ps_par (i := 2) (j := 3) (by rfl) sc__law_near.nd rfl rfl (by decide) rfl rfl (pa_cons (pe_callD d__law_sip (hr.mono (by decide)) gd (by rfl) (pa_cons (pv 0) (pa_cons (pe_callB (call_lenK K) (by rfl) m_len (by decide +kernel) (pa_cons (pv 1) pa_nil)) pa_nil))) (pa_cons (pe_callD d__law_sip (hr.mono (by decide)) gd (by rfl) (pa_cons (pv 0) (pa_cons pe_int pa_nil))) pa_nil)) (by rfl)) (pss_cons (ps_asg (pe_ix (ix_K K) (pv 1) (pv 2) (fun _ _ => rfl)) (pg_tupK K (n := 3) rfl (pgs_cons (pg_name (i := 4) sc__law_near.nd rfl (.inl rfl)) (pgs_cons (pg_name (i := 5) sc__law_near.nd rfl (.inl rfl)) (pgs_cons (pg_name (i := 6) sc__law_near.nd rfl (.inl rfl)) pgs_nil))))) (pss_cons (ps_if (pt_cmpR (op_eqK K hr.units) (pv 3) pe_int (nomark _)) (pss_one (ps_ret (pe_callD d__law_bent (hr.mono (by decide)) gd (by rfl) (pa_cons (pv 0) (pa_cons (pv 1) pa_nil))))) pss_nil) (pss_cons (ps_if (pt_cmpR (op_eqK K hr.units) (pv 3) pe_int (nomark _)) (pss_one (ps_ret (pe_op (op_catAK K) (pe_op (op_catAK K) (pe_slice (sl_tupK K) (pv 1) po_none (po_some (pv 2))) (pe_tup (pa_cons (pe_callD d__law_bent (hr.mono (by decide)) gd (by rfl) (pa_cons (pv 0) (pa_cons (pe_ix (ix_K K) (pv 1) (pv 2) (fun _ _ => rfl)) pa_nil))) pa_nil))) (pe_slice (sl_tupK K) (pv 1) (po_some (pe_op (op_addK K) (pv 2) pe_int)) po_none)))) pss_nil) (pss_cons (ps_if (PW.pt (pw_or (pt_cmpR (op_eqK K hr.units) (pv 3) pe_int (nomark _)) (pw_or1 (pt_cmpR (op_eqNil K (units65 hr)) (pv 6) (pe_tup pa_nil) (nomark _))))) (pss_one (ps_ret (pe_op (op_catAK K) (pe_op (op_catAK K) (pe_slice (sl_tupK K) (pv 1) po_none (po_some (pv 2))) (pe_tup (pa_cons (pe_tup (pa_cons (pv 4) (pa_cons (pv 5) (pa_cons (pe_callD d__law_bent (hr.mono (by decide)) gd (by rfl) (pa_cons (pv 0) (pa_cons (pv 6) pa_nil))) pa_nil)))) pa_nil))) (pe_slice (sl_tupK K) (pv 1) (po_some (pe_op (op_addK K) (pv 2) pe_int)) po_none)))) pss_nil) (pss_cons (ps_set (i := 7) sc__law_near.nd rfl (.inl rfl) (pe_callD d__law_sip (hr.mono (by decide)) gd (by rfl) (pa_cons (pv 0) (pa_cons (pe_callB (call_lenK K) (by rfl) m_len (by decide +kernel) (pa_cons (pv 6) pa_nil)) pa_nil)))) (pss_cons (ps_set (i := 8) sc__law_near.nd rfl (.inl rfl) (pe_ix (ix_K K) (pv 6) (pv 7) (fun _ _ => rfl))) (pss_cons (ps_if (PW.pt (pw_or (pt_cmpR (op_eqK K hr.units) (pv 3) pe_int (nomark _)) (pw_or1 (pt_cmpR op_ne (pe_ix (ix_K K) (pv 8) pe_int (fun _ _ => rfl)) pe_str (nomark _))))) (pss_one (ps_set (i := 9) sc__law_near.nd rfl (.inl rfl) (pe_callD d__law_bent (hr.mono (by decide)) gd (by rfl) (pa_cons (pv 0) (pa_cons (pv 8) pa_nil))))) (pss_one (ps_set (i := 9) sc__law_near.nd rfl (.inl rfl) (pe_op (op_catAK K) (pe_slice (sl_tupK K) (pv 8) po_none (po_some pe_int)) (pe_tup (pa_cons (pe_callD d__law_bent (hr.mono (by decide)) gd (by rfl) (pa_cons (pv 0) (pa_cons (pe_ix (ix_K K) (pv 8) pe_int (fun _ _ => rfl)) pa_nil))) pa_nil)))))) (pss_one (ps_ret (pe_op (op_catAK K) (pe_op (op_catAK K) (pe_slice (sl_tupK K) (pv 1) po_none (po_some (pv 2))) (pe_tup (pa_cons (pe_tup (pa_cons (pv 4) (pa_cons (pv 5) (pa_cons (pe_op (op_catAK K) (pe_op (op_catAK K) (pe_slice (sl_tupK K) (pv 6) po_none (po_some (pv 7))) (pe_tup (pa_cons (pv 9) pa_nil))) (pe_slice (sl_tupK K) (pv 6) (po_some (pe_op (op_addK K) (pv 7) pe_int)) po_none)) pa_nil)))) pa_nil))) (pe_slice (sl_tupK K) (pv 1) (po_some (pe_op (op_addK K) (pv 2) pe_int)) po_none)))))))))))), ?_⟩)
  rintro ds M R ⟨p, rows, rfl, hp, ne, few, ok, q⟩
  show DS K _ [some (.raw (.ref p)), some (.tup rows), none, none, none, none, none, none, none, none] M _
  have pos : 0 < (rows.length : Int) := by cases rows with | nil => exact absurd rfl ne | cons _ _ => simp
  walk_at "x0"
  walk_at "go"
  refine use_cast ⟨hp, pos, by omega, fun i i0 i1 => ?_⟩
  walk_at "go"
  refine use_cast ⟨hp, by decide, by decide, fun w w0 w1 => ?_⟩
  walk_at "go"
  obtain ⟨x, e, hx⟩ := atI_in (l := rows) i0 i1
  obtain ⟨y, n, ms, rfl, oy, fewM, hm⟩ := ok x hx
  have okr : ∀ x, x ∈ rows → okV x := fun x hx => rwOk_V (ok x hx)
  have l1 := cut_len (xs := rows) (lo := none) (hi := some i)
  have l2 := cut_len (xs := rows) (lo := some (i + 1)) (hi := none)
  refine dr_ixTE ⟨_, e, ?_⟩
  walk_at "go"
  refine ⟨[4, 5, 6], dg_tup rfl (dgs_cons (dg_name (dgs_cons (dg_name (dgs_cons (dg_name (dgs_nil ?_)))))))⟩
  dsimp only [List.set_cons_succ, List.set_cons_zero]
  walk_at "go"
  obtain ⟨w, rfl⟩ : ∃ v : Nat, w = (v : Int) := ⟨w.toNat, by omega⟩
  have fin : ∀ z : D, okV z → R (.tup (DL.cutD rows none (some i) ++ [z] ++ DL.cutD rows (some (i + 1)) none)) M := fun z oz => q _ (mk_tup (by rw [List.length_append, List.length_append]; show _ + 1 + _ ≤ _; omega) fun x hx => by
    rcases List.mem_append.mp hx with hx | hx
    · rcases List.mem_append.mp hx with hx | hx
      · exact cut_sub okr x hx
      · rw [List.mem_singleton.mp hx]; exact oz
    · exact cut_sub okr x hx)
  have okm : ∀ x, x ∈ ms → okV x := fun x hx => let ⟨_, _, _, o, _⟩ := hm x hx; o
  have row : ∀ z, okV z → okV (.tup [.str y, nD n, z]) := fun z oz => mk_tup (by show 3 ≤ 1000; decide) fun x hx => by
    simp only [List.mem_cons, List.not_mem_nil, or_false] at hx
    rcases hx with rfl | rfl | rfl
    · exact oy
    · simp [okV]
    · exact oz
  refine (show DR K (rEqD K) (nD w) (nD 0) _ _ from dr_eqNN ?_)
  by_cases c0 : w = 0
  · rw [decide_eq_true c0]
    walk_at "go"
    exact use_bent ⟨hp, by omega, okr, q⟩
  · rw [decide_eq_false c0]
    walk_at "go"
    refine (show DR K (rEqD K) (nD w) (nD 1) _ _ from dr_eqNN ?_)
    by_cases c1 : w = 1
    · rw [decide_eq_true c1]
      walk_at "go"
      refine de_slT ?_
      walk_at "go"
      refine do_no (do_pt ?_)
      walk_at "go"
      refine de_tup ?_
      walk_at "go"
      refine dr_ixTE ⟨_, e, ?_⟩
      walk_at "go"
      refine use_bent ⟨hp, by show 3 ≤ 400; decide, (okV_tup (okr _ hx)).2, fun z oz => ?_⟩
      walk_at "go"
      refine ⟨by show 1 ≤ sizeLine; decide, ?_⟩
      refine dr_catA ⟨by rw [sizeLine_eq]; show _ + 1 ≤ _; omega, ?_⟩
      refine de_slT ?_
      walk_at "go"
      refine do_pt ?_
      walk_at "go"
      refine do_no ?_
      walk_at "go"
      refine dr_catA ⟨by rw [List.length_append, sizeLine_eq]; show _ + 1 + _ ≤ _; omega, ?_⟩
      exact fin z oz
    · rw [decide_eq_false c1]
      walk_at "go"
      refine (show DR K (rEqD K) (nD w) (nD 2) _ _ from dr_eqNN ?_)
      by_cases c2 : w = 2
      · rw [decide_eq_true c2]
        walk_at "go"
        refine de_slT ?_
        walk_at "go"
        refine do_no (do_pt ?_)
        walk_at "go"
        refine de_tup ?_
        walk_at "go"
        refine de_tup ?_
        walk_at "go"
        refine use_bent ⟨hp, by omega, okm, fun z oz => ?_⟩
        walk_at "go"
        refine ⟨by show 3 ≤ sizeLine; decide, ?_⟩
        walk_at "go"
        refine ⟨by show 1 ≤ sizeLine; decide, ?_⟩
        refine dr_catA ⟨by rw [sizeLine_eq]; show _ + 1 ≤ _; omega, ?_⟩
        refine de_slT ?_
        walk_at "go"
        refine do_pt ?_
        walk_at "go"
        refine do_no ?_
        walk_at "go"
        refine dr_catA ⟨by rw [List.length_append, sizeLine_eq]; show _ + 1 + _ ≤ _; omega, ?_⟩
        exact fin _ (row z oz)
      · rw [decide_eq_false c2]
        walk_at "gol"
        refine dr_eqTN ?_
        cases hx2 : ms.isEmpty with
        | true =>
          walk_at "go"
          refine de_slT ?_
          walk_at "go"
          refine do_no (do_pt ?_)
          walk_at "go"
          refine de_tup ?_
          walk_at "go"
          refine de_tup ?_
          walk_at "go"
          refine use_bent ⟨hp, by omega, okm, fun z oz => ?_⟩
          walk_at "go"
          refine ⟨by show 3 ≤ sizeLine; decide, ?_⟩
          walk_at "go"
          refine ⟨by show 1 ≤ sizeLine; decide, ?_⟩
          refine dr_catA ⟨by rw [sizeLine_eq]; show _ + 1 ≤ _; omega, ?_⟩
          refine de_slT ?_
          walk_at "go"
          refine do_pt ?_
          walk_at "go"
          refine do_no ?_
          walk_at "go"
          refine dr_catA ⟨by rw [List.length_append, sizeLine_eq]; show _ + 1 + _ ≤ _; omega, ?_⟩
          exact fin _ (row z oz)
        | false =>
          have posM : 0 < (ms.length : Int) := by cases ms with | nil => cases hx2 | cons _ _ => simp
          walk_at "go"
          refine use_cast ⟨hp, posM, by omega, fun j j0 j1 => ?_⟩
          walk_at "go"
          obtain ⟨mv, e2, hmv⟩ := atI_in (l := ms) j0 j1
          obtain ⟨k, r, rfl, okmv, fr, hcall⟩ := hm mv hmv
          refine dr_ixTE ⟨_, e2, ?_⟩
          walk_at "go"
          refine (show DR K (rEqD K) (nD w) (nD 3) _ _ from dr_eqNN ?_)
          have m1 := cut_len (xs := ms) (lo := none) (hi := some j)
          have m2 := cut_len (xs := ms) (lo := some (j + 1)) (hi := none)
          have put : ∀ z : D, okV z → okV (.tup (DL.cutD ms none (some j) ++ [z] ++ DL.cutD ms (some (j + 1)) none)) := fun z oz => mk_tup (by rw [List.length_append, List.length_append]; show _ + 1 + _ ≤ _; omega) fun x hx => by
            rcases List.mem_append.mp hx with hx | hx
            · rcases List.mem_append.mp hx with hx | hx
              · exact cut_sub okm x hx
              · rw [List.mem_singleton.mp hx]; exact oz
            · exact cut_sub okm x hx
          by_cases c3 : w = 3
          · rw [decide_eq_true c3]
            walk_at "go"
            refine use_bent ⟨hp, by show r.length + 1 ≤ 400; omega, (okV_tup okmv).2, fun z oz => ?_⟩
            walk_at "go"
            refine de_slT ?_
            walk_at "go"
            refine do_no (do_pt ?_)
            walk_at "go"
            refine de_tup ?_
            walk_at "go"
            refine de_tup ?_
            walk_at "go"
            refine de_slT ?_
            walk_at "go"
            refine do_no (do_pt ?_)
            walk_at "go"
            refine de_tup ?_
            walk_at "go"
            refine ⟨by show 1 ≤ sizeLine; decide, ?_⟩
            refine dr_catA ⟨by rw [sizeLine_eq]; show _ + 1 ≤ _; omega, ?_⟩
            refine de_slT ?_
            walk_at "go"
            refine do_pt ?_
            walk_at "go"
            refine do_no ?_
            walk_at "go"
            refine dr_catA ⟨by rw [List.length_append, sizeLine_eq]; show _ + 1 + _ ≤ _; omega, ?_⟩
            walk_at "go"
            refine ⟨by show 3 ≤ sizeLine; decide, ?_⟩
            walk_at "go"
            refine ⟨by show 1 ≤ sizeLine; decide, ?_⟩
            refine dr_catA ⟨by rw [sizeLine_eq]; show _ + 1 ≤ _; omega, ?_⟩
            refine de_slT ?_
            walk_at "go"
            refine do_pt ?_
            walk_at "go"
            refine do_no ?_
            walk_at "go"
            refine dr_catA ⟨by rw [List.length_append, sizeLine_eq]; show _ + 1 + _ ≤ _; omega, ?_⟩
            exact fin _ (row _ (put z oz))
          · rw [decide_eq_false c3]
            walk_at "go"
            refine dr_ixTE ⟨.str k, at0, ?_⟩
            walk_at "go"
            refine dr_neStr ?_
            by_cases c4 : k = "call"
            · rw [decide_eq_true c4]
              obtain ⟨a1, b1, c1', ans, rfl, fa⟩ := hcall c4
              have okans : ∀ x, x ∈ ans → okV x := (okV_tup ((okV_tup okmv).2 (.tup ans) (by simp))).2
              have l4 := cut_len (xs := [D.str k, a1, b1, c1', .tup ans]) (lo := none) (hi := some 4)
              walk_at "go"
              refine de_slT ?_
              walk_at "go"
              refine do_no (do_pt ?_)
              walk_at "go"
              refine de_tup ?_
              walk_at "go"
              refine dr_ixTE ⟨.tup ans, at4, ?_⟩
              walk_at "go"
              refine use_bent ⟨hp, by omega, okans, fun z0 oz0 => ?_⟩
              walk_at "go"
              refine ⟨by show 1 ≤ sizeLine; decide, ?_⟩
              refine dr_catA ⟨by rw [sizeLine_eq]; show _ + 1 ≤ _; simp only [List.length_cons, List.length_nil] at l4; omega, ?_⟩
              have oz : okV (.tup (DL.cutD [D.str k, a1, b1, c1', .tup ans] none (some 4) ++ [z0])) := mk_tup (by rw [List.length_append]; show _ + 1 ≤ _; simp only [List.length_cons, List.length_nil] at l4; omega) fun x hx => by
                rcases List.mem_append.mp hx with hx | hx
                · exact cut_sub (okV_tup okmv).2 x hx
                · rw [List.mem_singleton.mp hx]; exact oz0
              revert oz
              generalize D.tup (DL.cutD [D.str k, a1, b1, c1', .tup ans] none (some 4) ++ [z0]) = z
              intro oz
              walk_at "go"
              refine de_slT ?_
              walk_at "go"
              refine do_no (do_pt ?_)
              walk_at "go"
              refine de_tup ?_
              walk_at "go"
              refine de_tup ?_
              walk_at "go"
              refine de_slT ?_
              walk_at "go"
              refine do_no (do_pt ?_)
              walk_at "go"
              refine de_tup ?_
              walk_at "go"
              refine ⟨by show 1 ≤ sizeLine; decide, ?_⟩
              refine dr_catA ⟨by rw [sizeLine_eq]; show _ + 1 ≤ _; omega, ?_⟩
              refine de_slT ?_
              walk_at "go"
              refine do_pt ?_
              walk_at "go"
              refine do_no ?_
              walk_at "go"
              refine dr_catA ⟨by rw [List.length_append, sizeLine_eq]; show _ + 1 + _ ≤ _; omega, ?_⟩
              walk_at "go"
              refine ⟨by show 3 ≤ sizeLine; decide, ?_⟩
              walk_at "go"
              refine ⟨by show 1 ≤ sizeLine; decide, ?_⟩
              refine dr_catA ⟨by rw [sizeLine_eq]; show _ + 1 ≤ _; omega, ?_⟩
              refine de_slT ?_
              walk_at "go"
              refine do_pt ?_
              walk_at "go"
              refine do_no ?_
              walk_at "go"
              refine dr_catA ⟨by rw [List.length_append, sizeLine_eq]; show _ + 1 + _ ≤ _; omega, ?_⟩
              exact fin _ (row _ (put z oz))
            · rw [decide_eq_false c4]
              walk_at "go"
              refine use_bent ⟨hp, by show r.length + 1 ≤ 400; omega, (okV_tup okmv).2, fun z oz => ?_⟩
              walk_at "go"
              refine de_slT ?_
              walk_at "go"
              refine do_no (do_pt ?_)
              walk_at "go"
              refine de_tup ?_
              walk_at "go"
              refine de_tup ?_
              walk_at "go"
              refine de_slT ?_
              walk_at "go"
              refine do_no (do_pt ?_)
              walk_at "go"
              refine de_tup ?_
              walk_at "go"
              refine ⟨by show 1 ≤ sizeLine; decide, ?_⟩
              refine dr_catA ⟨by rw [sizeLine_eq]; show _ + 1 ≤ _; omega, ?_⟩
              refine de_slT ?_
              walk_at "go"
              refine do_pt ?_
              walk_at "go"
              refine do_no ?_
              walk_at "go"
              refine dr_catA ⟨by rw [List.length_append, sizeLine_eq]; show _ + 1 + _ ≤ _; omega, ?_⟩
              walk_at "go"
              refine ⟨by show 3 ≤ sizeLine; decide, ?_⟩
              walk_at "go"
              refine ⟨by show 1 ≤ sizeLine; decide, ?_⟩
              refine dr_catA ⟨by rw [sizeLine_eq]; show _ + 1 ≤ _; omega, ?_⟩
              refine de_slT ?_
              walk_at "go"
              refine do_pt ?_
              walk_at "go"
              refine do_no ?_
              walk_at "go"
              refine dr_catA ⟨by rw [List.length_append, sizeLine_eq]; show _ + 1 + _ ≤ _; omega, ?_⟩
              exact fin _ (row _ (put z oz))
theorem use_near {M : Mem} {Q : D → Mem → Prop} {p : Addr} {rows : List D} (h : M p = some .die ∧ rows ≠ [] ∧ rows.length ≤ 10 ∧ (∀ x, x ∈ rows → rwOk x) ∧ ∀ x, okV x → Q x M) : p__law_near [.raw (.ref p), .tup rows] M Q := ⟨p, rows, rfl, h⟩

/-! ### a move as drawn -/
/-- the signals that are drawn -/
def sigOk (ss : List Str) : Prop := ss = [("s" : Str)] ∨ ss = [("s" : Str), ("t" : Str)] ∨ ss = []
theorem sig_okS {ss : List Str} (h : sigOk ss) : ∀ x, x ∈ ss → okS x := by
  intro x hx
  rcases h with rfl | rfl | rfl
  · simp at hx; subst hx; exact okS_lit (by decide +kernel)
  · simp at hx; rcases hx with rfl | rfl <;> exact okS_lit (by decide +kernel)
  · simp at hx
theorem sub_asc {ss : List Str} (h : sigOk ss) {l : List D} (hs : List.Sublist l (sD ss)) : asc l = true := by
  rcases h with rfl | rfl | rfl
  · have hs : List.Sublist l [D.str "s"] := hs
    cases hs with
    | cons _ h => cases h; rfl
    | cons_cons _ h => cases h; rfl
  · have hs : List.Sublist l [D.str "s", D.str "t"] := hs
    cases hs with
    | cons _ h =>
      cases h with
      | cons _ h => cases h; rfl
      | cons_cons _ h => cases h; rfl
    | cons_cons _ h =>
      cases h with
      | cons _ h => cases h; rfl
      | cons_cons _ h =>
        cases h
        decide +kernel
  · cases hs; rfl
theorem rng_asc {m : Nat} (h1 : 1 ≤ m) (h2 : m ≤ 2) {l : List D} (hs : List.Sublist l (rngD 0 m)) : asc l = true := by
  have : m = 1 ∨ m = 2 := by omega
  rcases this with rfl | rfl
  · have hs : List.Sublist l [D.int 0] := hs
    cases hs with
    | cons _ h => cases h; rfl
    | cons_cons _ h => cases h; rfl
  · have hs : List.Sublist l [D.int 0, D.int 1] := hs
    cases hs with
    | cons _ h =>
      cases h with
      | cons _ h => cases h; rfl
      | cons_cons _ h => cases h; rfl
    | cons_cons _ h =>
      cases h with
      | cons _ h => cases h; rfl
      | cons_cons _ h => cases h; decide +kernel
theorem sub_step {xs l : List D} {i : Nat} {d : D} (hd : xs[i]? = some d) (h : List.Sublist l (xs.take i)) : List.Sublist (l ++ [d]) (xs.take (i + 1)) := by
  rw [List.take_add_one, hd]
  exact h.append (List.Sublist.refl _)
theorem sub_stay {xs l : List D} {i : Nat} (h : List.Sublist l (xs.take i)) : List.Sublist l (xs.take (i + 1)) := h.trans (by rw [List.take_add_one]; exact List.sublist_append_left _ _)
theorem idx_nat {j m : Nat} (h : j < m) : isIdx (nD j) m = true := decide_eq_true ⟨by omega, by omega⟩
theorem okV_nD (j : Nat) : okV (nD j) := by simp [okV]
theorem okV_lit {x : Str} (h : (decide (x.length ≤ 1000) && x.cps.toList.all fun c => decide (c < 128)) = true) : okV (.str x) := by rw [okV]; exact okS_lit h
theorem isIn_mem {y : Str} {l : List Str} (h : y ∈ l) : isIn (.str y) l = true := decide_eq_true h
def p__law_chart_move : PT0 := fun ds M R => ∃ (p : Addr) (m n : Nat) (ss ns : List Str), ds = [.raw (.ref p), nD m, .tup (sD ss), .lst (sD ns), nD n] ∧ M p = some .die ∧ 1 ≤ m ∧ m ≤ 2 ∧ 1 ≤ n ∧ n ≤ 2 ∧ sigOk ss ∧ ns ≠ [] ∧ ns.length ≤ 3 ∧ (∀ x, x ∈ ns → okS x) ∧
  ∀ (k : Str) (a : Nat) (r : List D), a < n → movF m ss ns n (.tup (.str k :: nD a :: r)) = true → mvOk (.tup (.str k :: nD a :: r)) → R (.tup (.str k :: nD a :: r)) M
theorem len__law_chart_move : ∀ ds M R, p__law_chart_move ds M R → ds.length = 5 := fun _ _ _ ⟨_, _, _, _, _, e, _⟩ => by rw [e]; rfl
theorem go_nat {i : Int} {n : Nat} (h0 : 0 ≤ i) (h1 : i < (n : Int)) : ∃ j : Nat, i = (j : Int) ∧ j < n := ⟨i.toNat, by omega, by omega⟩
theorem ok__law_chart_move {P : Program} {w : World} {K : PySem.W.Frag} {mg : Str → Option Value} {base : Heap} (T : Tx K mg "_law_chart_move" s__law_chart_move) (d__law_sip : Df P w K mg base 1 "_law_sip" ["_law_pool_here", "_law_size"] p__law_sip) (d__law_pick : Df P w K mg base 2 "_law_pick" ["_law_pool_here", "_law_items"] p__law_pick) (m_list : mg "list" = none) (m_range : mg "range" = none) (m_tuple : mg "tuple" = none) : Df P w K mg base 3 "_law_chart_move" ["_law_pool_here", "_law_modes", "_law_signals", "_law_names", "_law_points"] p__law_chart_move := by
  refine df_ok T sc__law_chart_move (len__law_chart_move) (fun _ _ _ _ _ _ us hl => match us, hl with | [_, _, _, _, _], _ => rfl) (fun cdv A ou s H fa hr gd => ⟨_, (pss_cons (ps_par3 (i := 5) (j := 6) (l := 7) (by rfl) sc__law_chart_move.nd rfl rfl rfl (by decide) (by decide) (by decide) rfl rfl rfl (pa_cons (pe_callD d__law_sip (hr.mono (by decide)) gd (by rfl) (pa_cons (pv 0) (pa_cons (pv 4) pa_nil))) (pa_cons (pe_callD d__law_sip (hr.mono (by decide)) gd (by rfl) (pa_cons (pv 0) (pa_cons (pv 4) pa_nil))) (pa_cons (pe_callD d__law_sip (hr.mono (by decide)) gd (by rfl) (pa_cons (pv 0) (pa_cons pe_int pa_nil))) pa_nil))) (by rfl)) (pss_cons (ps_if (pt_cmpR op_lt (pv 7) pe_int (nomark _)) (pss_one (ps_ret (pe_tup (pa_cons pe_str (pa_cons (pv 5) (pa_cons (pv 6) (pa_cons (pe_callD d__law_sip (hr.mono (by decide)) gd (by rfl) (pa_cons (pv 0) (pa_cons (pv 1) pa_nil))) (pa_cons (pe_callD d__law_sip (hr.mono (by decide)) gd (by rfl) (pa_cons (pv 0) (pa_cons (pv 1) pa_nil))) pa_nil)))))))) pss_nil) (pss_cons (ps_if (PW.pt (pw_and (pt_cmpR op_lt (pv 7) pe_int (nomark _)) (pw_and1 (pt_cmpR (op_neNil K (units65 hr)) (pv 2) (pe_tup pa_nil) (nomark _))))) (pss_one (ps_ret (pe_tup (pa_cons pe_str (pa_cons (pv 5) (pa_cons (pv 6) (pa_cons (pe_callD d__law_pick (hr.mono (by decide)) gd (by rfl) (pa_cons (pv 0) (pa_cons (pe_callTy (call_listK K) (by rfl) m_list (by decide +kernel) (pa_cons (pv 2) pa_nil)) pa_nil))) pa_nil))))))) pss_nil) (pss_cons (ps_if (pt_cmpR op_lt (pv 7) pe_int (nomark _)) (pss_one (ps_ret (pe_tup (pa_cons pe_str (pa_cons (pv 5) pa_nil))))) pss_nil) (pss_cons (ps_set (i := 8) sc__law_chart_move.nd rfl (.inl rfl) (pe_lst pa_nil)) (pss_cons (ps_for PassesOwn.never rfl (pi_tupK K (pv 2)) (pg_name (i := 9) sc__law_chart_move.nd rfl (.inl rfl)) (pss_one (ps_if (pt_cmpR op_gt (pe_callD d__law_sip (hr.mono (by decide)) gd (by rfl) (pa_cons (pv 0) (pa_cons pe_int pa_nil))) pe_int (nomark _)) (pss_cons (ps_setLc (own := [("_law_mode", 11)]) (i := 10) rfl sc__law_chart_move.nd rfl rfl (sw_true rfl rfl rfl (by decide +kernel)) (pi_range1 (by rfl) m_range (pa_cons (pv 1) pa_nil)) (blkOk_by (N := N__law_chart_move) (sc := defScope s__law_chart_move) (by decide +kernel)) (fun _ _ _ _ _ => (pg_name (i := 11) sc__law_chart_move.nd rfl (.inl rfl))) (fun _ _ _ _ _ => (pts_one (pt_cmpR (op_eqK K hr.units) (pe_callD d__law_sip (hr.mono (by decide)) gd (by rfl) (pa_cons (pv 0) (pa_cons pe_int pa_nil))) pe_int (nomark _)))) (fun _ _ _ _ _ => (pe_tup (pa_cons (pv 11) (pa_cons (pe_callD d__law_sip (hr.mono (by decide)) gd (by rfl) (pa_cons (pv 0) (pa_cons (pv 4) pa_nil))) pa_nil))))) (pss_one (ps_expr (pe_bmK K PySem.F.plainAttrs_list PySem.F.slot_list_append PySem.F.type_list_append mt_append (pv 8) (pa_cons (pe_tup (pa_cons (pv 9) (pa_cons (pe_callD d__law_pick (hr.mono (by decide)) gd (by rfl) (pa_cons (pv 0) (pa_cons (pv 3) pa_nil))) (pa_cons (pe_callTy (call_tupleK K) (by rfl) m_tuple (by decide +kernel) (pa_cons (pv 10) pa_nil)) pa_nil)))) pa_nil))))) pss_nil))) (pss_one (ps_ret (pe_tup (pa_cons pe_str (pa_cons (pv 5) (pa_cons (pv 6) (pa_cons (pe_callD d__law_pick (hr.mono (by decide)) gd (by rfl) (pa_cons (pv 0) (pa_cons (pv 3) pa_nil))) (pa_cons (pe_callTy (call_tupleK K) (by rfl) m_tuple (by decide +kernel) (pa_cons (pv 8) pa_nil)) pa_nil)))))))))))))), ?_⟩)
  rintro ds M R ⟨p, m, n, ss, ns, rfl, hp, h1, h2, n1, n2, hs, ne, few, okn, q⟩
  show DS K _ [some (.raw (.ref p)), some (nD m), some (.tup (sD ss)), some (.lst (sD ns)), some (nD n), none, none, none, none, none, none, none] M _
  have sl : ss.length ≤ 2 := by rcases hs with rfl | rfl | rfl <;> decide
  have okns := sig_okS hs
  walk_at "x0"
  refine ds_seq (ds_par3 ?_)
  walk_at "nx"
  refine use_cast ⟨hp, by omega, by omega, fun i i0 i1 => ?_⟩
  obtain ⟨i, rfl, li⟩ := go_nat i0 i1
  walk_at "nx"
  refine use_cast ⟨hp, by omega, by omega, fun j j0 j1 => ?_⟩
  obtain ⟨j, rfl, lj⟩ := go_nat j0 j1
  walk_at "nx"
  refine use_cast ⟨hp, by decide, by decide, fun w w0 w1 => ?_⟩
  obtain ⟨w, rfl, lw⟩ := go_nat (n := 8) w0 w1
  walk_at "nx"
  refine ⟨_, _, _, rfl, ?_⟩
  walk_at "x0"
  walk_at "nx"
  · refine de_tup ?_
    walk_at "nx"
    refine use_cast ⟨hp, by omega, by omega, fun a a0 a1 => ?_⟩
    obtain ⟨a, rfl, la⟩ := go_nat a0 a1
    walk_at "nx"
    refine use_cast ⟨hp, by omega, by omega, fun b b0 b1 => ?_⟩
    obtain ⟨b, rfl, lb⟩ := go_nat b0 b1
    walk_at "nx"
    refine ⟨by show 5 ≤ sizeLine; decide, q "go" i [nD j, nD a, nD b] li ?_ ⟨_, _, rfl, ?_, by show 4 ≤ 10; decide, fun e => absurd e (by decide +kernel)⟩⟩
    · rw [movF_eq, idx_nat li, restF_eq (by decide +kernel), idx_nat lj]
      show (isIdx (nD a) m && isIdx (nD b) m) = true
      rw [idx_nat la, idx_nat lb]; rfl
    · refine mk_tup (by show 5 ≤ 1000; decide) fun x hx => ?_
      simp only [List.mem_cons, List.not_mem_nil, or_false] at hx
      rcases hx with rfl | rfl | rfl | rfl | rfl
      · exact okV_lit (by decide +kernel)
      all_goals exact okV_nD _
  · refine de_tup ?_
    walk_at "nx"
    refine ⟨by show 0 ≤ sizeLine; decide, ?_⟩
    refine dr_neTN ?_
    cases hse : (sD ss).isEmpty with
    | false =>
      walk_at "nx"
      refine de_tup ?_
      walk_at "nx"
      refine dc_listT ?_
      walk_at "nx"
      refine use_pick ⟨_, hp, rfl, fun e => (by rw [e] at hse; cases hse), by rw [List.length_map]; omega, fun x hx => ?_⟩
      obtain ⟨y, hy, rfl⟩ := List.mem_map.mp hx
      walk_at "nx"
      refine ⟨by show 4 ≤ sizeLine; decide, q "raise" i [nD j, .str y] li ?_ ⟨_, _, rfl, ?_, by show 3 ≤ 10; decide, fun e => absurd e (by decide +kernel)⟩⟩
      · rw [movF_eq, idx_nat li, restF_eq (by decide +kernel), idx_nat lj]
        exact isIn_mem hy
      · refine mk_tup (by show 4 ≤ 1000; decide) fun x hx => ?_
        simp only [List.mem_cons, List.not_mem_nil, or_false] at hx
        rcases hx with rfl | rfl | rfl | rfl
        · exact okV_lit (by decide +kernel)
        · exact okV_nD _
        · exact okV_nD _
        · rw [okV]; exact okns y hy
    | true =>
      walk_at "nx"
      · refine de_tup ?_
        walk_at "nx"
        refine ⟨by show 2 ≤ sizeLine; decide, q "leave" i [] li ?_ ⟨_, _, rfl, ?_, by show 1 ≤ 10; decide, fun e => absurd e (by decide +kernel)⟩⟩
        · rw [movF_eq, idx_nat li]; rfl
        · refine mk_tup (by show 2 ≤ 1000; decide) fun x hx => ?_
          simp only [List.mem_cons, List.not_mem_nil, or_false] at hx
          rcases hx with rfl | rfl
          · exact okV_lit (by decide +kernel)
          · exact okV_nD _
      · rename_i h4 h6
        exact absurd h4 (by omega)
  · refine de_tup ?_
    walk_at "nx"
    refine ⟨by show 2 ≤ sizeLine; decide, q "leave" i [] li ?_ ⟨_, _, rfl, ?_, by show 1 ≤ 10; decide, fun e => absurd e (by decide +kernel)⟩⟩
    · rw [movF_eq, idx_nat li]; rfl
    · refine mk_tup (by show 2 ≤ 1000; decide) fun x hx => ?_
      simp only [List.mem_cons, List.not_mem_nil, or_false] at hx
      rcases hx with rfl | rfl
      · exact okV_lit (by decide +kernel)
      · exact okV_nD _
  · refine de_lstM ?_
    walk_at "nx"
    refine ⟨Nat.zero_le _, fun b hb => ?_⟩
    walk_at "x0"
    walk_at "nx"
    have hpb : b ≠ p := fun e => by rw [e, hp] at hb; cases hb
    have hp2 : ∀ o, mup M b o p = some .die := fun o => by rw [mup_ne (fun e => hpb e.symm)]; exact hp
    refine ds_forP [9, 10] ?_
    walk_at "x0"
    walk_at "nx"
    refine ⟨fun i M2 => ∃ ans : List D, M2 = mup M b (.lst ans) ∧ ans.length ≤ i ∧ List.Sublist (ans.map fstD) ((sD ss).take i) ∧ (∀ x, x ∈ ans → ansOk m ss ns n x = true ∧ okV x), ⟨[], rfl, Nat.le_refl _, List.Sublist.refl _, fun x hx => by cases hx⟩, fun i2 d M2 hd hM => ?_, fun M2 hM => ?_⟩
    · obtain ⟨ans, rfl, fa, hs2, ha⟩ := hM
      obtain ⟨y, hy, rfl⟩ := List.mem_map.mp (List.mem_of_getElem? hd)
      have i2l : i2 < 2 := by
        have := (List.getElem?_eq_some_iff.mp hd).1
        rw [List.length_map] at this; omega
      walk_at "x0"
      walk_at "nx"
      refine use_cast ⟨hp2 _, by decide, by decide, fun c c0 c1 => ?_⟩
      walk_at "nx"
      · refine de_lc (js := [11]) (by simp) ?_
        walk_at "nx"
        refine ⟨by omega, by omega, fun i3 acc => acc.length ≤ i3 ∧ List.Sublist (acc.map fstD) ((rngD 0 m).take i3) ∧ ∀ x, x ∈ acc → prOk m n x = true ∧ okV x, ⟨Nat.le_refl _, List.Sublist.refl _, fun x hx => by cases hx⟩, fun i3 d3 acc hd3 hA => ?_, fun acc hA => ?_⟩
        · obtain ⟨fa3, hs3, ha3⟩ := hA
          have hd3' : (rngD 0 m)[i3]? = some d3 := hd3
          obtain ⟨hi3, rfl⟩ := rngD_get hd3'
          rw [Int.zero_add] at hd3'
          rw [Int.zero_add]
          refine dg_name ⟨rfl, ?_⟩
          walk_at "x0"
          walk_at "nx"
          refine use_cast ⟨hp2 _, by decide, by decide, fun e e0 e1 => ?_⟩
          obtain ⟨e, rfl, le⟩ := go_nat (n := 3) e0 e1
          walk_at "nx"
          by_cases e00 : e = 0
          · rw [decide_eq_true e00]
            refine ⟨rfl, ?_⟩
            rw [if_pos rfl]
            walk_at "gol"
            refine use_cast ⟨hp2 _, by omega, by omega, fun f f0 f1 => ?_⟩
            obtain ⟨f, rfl, lf⟩ := go_nat f0 f1
            walk_at "gol"
            refine ⟨rfl, by rw [sizeLine_eq]; omega, by rw [List.length_append]; show _ + 1 ≤ _; omega, ?_, fun x hx => ?_⟩
            · rw [List.map_append]
              exact sub_step hd3' hs3
            · rcases List.mem_append.mp hx with hx | hx
              · exact ha3 x hx
              · rw [List.mem_singleton.mp hx]
                refine ⟨?_, mk_tup (by show 2 ≤ 1000; decide) fun x hx => ?_⟩
                · show (isIdx (nD i3) m && isIdx (nD f) n) = true
                  rw [idx_nat hi3, idx_nat lf]; rfl
                · simp only [List.mem_cons, List.not_mem_nil, or_false] at hx
                  rcases hx with rfl | rfl <;> exact okV_nD _
          · rw [decide_eq_false e00]
            refine ⟨rfl, ?_⟩
            rw [if_neg Bool.false_ne_true]
            exact ⟨by omega, sub_stay hs3, ha3⟩
        · obtain ⟨fa3, hs3, ha3⟩ := hA
          have la3 : acc.length ≤ 2 := Nat.le_trans fa3 (by rw [rngD_len]; omega)
          have hs3 : List.Sublist (acc.map fstD) (rngD 0 m) := hs3.trans (List.take_sublist _ _)
          walk_at "x0"
          walk_at "nx"
          refine de_append ?_
          walk_at "nx"
          refine ⟨b, ans, rfl, mup_same, ?_⟩
          walk_at "nx"
          refine de_tup ?_
          walk_at "nx"
          refine use_pick ⟨_, hp2 _, rfl, fun e => ne (List.map_eq_nil_iff.mp e), by rw [List.length_map]; omega, fun x hx => ?_⟩
          obtain ⟨z, hz, rfl⟩ := List.mem_map.mp hx
          walk_at "nx"
          refine dc_tupL ?_
          walk_at "nx"
          refine ⟨by show 3 ≤ sizeLine; decide, ?_⟩
          walk_at "nx"
          refine ⟨_, ans, rfl, mup_same, by rw [sizeLine_eq]; omega, ?_⟩
          rw [mup_mup]
          have okacc : okV (.tup acc) := mk_tup (by omega) fun x hx => (ha3 x hx).2
          refine ⟨rfl, _, rfl, by rw [List.length_append]; show _ + 1 ≤ _; omega, ?_, fun x hx => ?_⟩
          · rw [List.map_append]
            exact sub_step hd hs2
          · rcases List.mem_append.mp hx with hx | hx
            · exact ha x hx
            · rw [List.mem_singleton.mp hx]
              refine ⟨?_, mk_tup (by show 3 ≤ 1000; decide) fun x hx => ?_⟩
              · show (isIn (.str y) ss && isIn (.str z) ns && unwF m n (.tup acc)) = true
                rw [isIn_mem hy, isIn_mem hz]
                show (acc.all (prOk m n) && asc (acc.map fstD)) = true
                rw [List.all_eq_true.mpr fun x hx => (ha3 x hx).1, rng_asc h1 h2 hs3]; rfl
              · simp only [List.mem_cons, List.not_mem_nil, or_false] at hx
                rcases hx with rfl | rfl | rfl
                · rw [okV]; exact okns y hy
                · rw [okV]; exact okn z hz
                · exact okacc
      · exact ⟨rfl, ans, rfl, by omega, sub_stay hs2, ha⟩
    · obtain ⟨ans, rfl, fa, hs2, ha⟩ := hM
      rw [List.length_map] at fa
      rw [List.take_of_length_le (Nat.le_refl _)] at hs2
      refine ds_frz (i := 8) (p := b) (ds := ans) rfl mup_same ?_
      rw [mdel_mup hb]
      walk_at "x0"
      walk_at "nx"
      refine de_tup ?_
      walk_at "nx"
      refine use_pick ⟨_, hp, rfl, fun e => ne (List.map_eq_nil_iff.mp e), by rw [List.length_map]; omega, fun x hx => ?_⟩
      obtain ⟨z, hz, rfl⟩ := List.mem_map.mp hx
      walk_at "nx"
      refine dc_tupL ?_
      walk_at "nx"
      refine ⟨by show 5 ≤ sizeLine; decide, q "call" i [nD j, .str z, .tup ans] li ?_ ⟨_, _, rfl, ?_, by show 4 ≤ 10; decide, fun _ => ⟨_, _, _, ans, rfl, by omega⟩⟩⟩
      · rw [movF_eq, idx_nat li, restF_eq (by decide +kernel), idx_nat lj]
        show (isIn (.str z) ns && ansF m ss ns n (.tup ans)) = true
        rw [isIn_mem hz]
        show (ans.all (ansOk m ss ns n) && asc (ans.map fstD)) = true
        rw [List.all_eq_true.mpr fun x hx => (ha x hx).1, sub_asc hs hs2]; rfl
      · refine mk_tup (by show 5 ≤ 1000; decide) fun x hx => ?_
        simp only [List.mem_cons, List.not_mem_nil, or_false] at hx
        rcases hx with rfl | rfl | rfl | rfl | rfl
        · exact okV_lit (by decide +kernel)
        · exact okV_nD _
        · exact okV_nD _
        · rw [okV]; exact okn z hz
        · exact mk_tup (by omega) fun x hx => (ha x hx).2
theorem use_cmove {M : Mem} {Q : D → Mem → Prop} {p : Addr} {m n : Nat} {ss ns : List Str} (h : M p = some .die ∧ 1 ≤ m ∧ m ≤ 2 ∧ 1 ≤ n ∧ n ≤ 2 ∧ sigOk ss ∧ ns ≠ [] ∧ ns.length ≤ 3 ∧ (∀ x, x ∈ ns → okS x) ∧
  ∀ (k : Str) (a : Nat) (r : List D), a < n → movF m ss ns n (.tup (.str k :: nD a :: r)) = true → mvOk (.tup (.str k :: nD a :: r)) → Q (.tup (.str k :: nD a :: r)) M) : p__law_chart_move [.raw (.ref p), nD m, .tup (sD ss), .lst (sD ns), nD n] M Q := ⟨p, m, n, ss, ns, rfl, h⟩

/-! ### a chart as drawn -/
abbrev nms : List Str := [("one" : Str), ("two" : Str), ("six" : Str)]
def p__law_chart : PT0 := fun ds M R => ∃ p : Addr, ds = [.raw (.ref p)] ∧ M p = some .die ∧ ∀ (m : Nat) (ss : List Str) (rows : List D), 1 ≤ m → m ≤ 2 → sigOk ss → rows ≠ [] → rows.length ≤ 10 → (∀ x, x ∈ rows → rwOk x) → chartF m ss (.tup rows) = true → R (.lst [nD m, .tup (sD ss), .tup rows]) M
theorem len__law_chart : ∀ ds M R, p__law_chart ds M R → ds.length = 1 := fun _ _ _ ⟨_, e, _⟩ => by rw [e]; rfl
theorem nms_w {n : Nat} : ∀ x, x ∈ nms.take n → isW x = true := fun x hx => by
  have hx := List.mem_of_mem_take hx
  simp only [List.mem_cons, List.not_mem_nil, or_false] at hx
  rcases hx with rfl | rfl | rfl <;> decide +kernel
theorem isW_S {x : Str} (h : isW x = true) : okS x := by
  unfold isW at h
  rw [Bool.and_eq_true] at h
  refine ⟨by have := of_decide_eq_true h.1; omega, fun c hc => ?_⟩
  have := of_decide_eq_true (List.all_eq_true.mp h.2 c hc)
  have := (mem_lets c).mp this
  omega
theorem nms_diff {n : Nat} (h1 : 1 ≤ n) (h3 : n ≤ 3) : diff (nms.take n) = true := by
  have : n = 1 ∨ n = 2 ∨ n = 3 := by omega
  rcases this with rfl | rfl | rfl <;> decide +kernel
/-- a move of a row that is drawn -/
def mvG (m : Nat) (ss ns : List Str) (n : Nat) (d : D) : Prop := movF m ss ns n d = true ∧ mvOk d
theorem lv_ok {m n a : Nat} {ss ns : List Str} (h : a < n) : mvG m ss ns n (.tup [.str "leave", nD a]) := by
  refine ⟨?_, _, _, rfl, ?_, by show 1 ≤ 10; decide, fun e => absurd e (by decide +kernel)⟩
  · rw [movF_eq, idx_nat h]; rfl
  · refine mk_tup (by show 2 ≤ 1000; decide) fun x hx => ?_
    simp only [List.mem_cons, List.not_mem_nil, or_false] at hx
    rcases hx with rfl | rfl
    · exact okV_lit (by decide +kernel)
    · exact okV_nD _
/-- a row that is drawn -/
def rwG (m : Nat) (ss ns : List Str) (y : Str) (d : D) : Prop := ∃ (n : Nat) (ms : List D), d = .tup [.str y, nD n, .tup ms] ∧ 1 ≤ n ∧ n ≤ 2 ∧ ms.length ≤ 6 ∧ ∀ x, x ∈ ms → mvG m ss ns n x
theorem rwG_ok {m : Nat} {ss ns : List Str} {y : Str} {d : D} (w : isW y = true) (h : rwG m ss ns y d) : rwOk d := by
  obtain ⟨n, ms, rfl, h1, h2, few, hm⟩ := h
  exact ⟨y, n, ms, rfl, by rw [okV]; exact isW_S w, by omega, fun x hx => (hm x hx).2⟩
theorem rwG_row {m : Nat} {ss ns : List Str} {y : Str} {d : D} (w : isW y = true) (h : rwG m ss ns y d) : rowF d = true ∧ nmF d = y ∧ (msF d).all (movF m ss ns (ptF d)) = true := by
  obtain ⟨n, ms, rfl, h1, h2, few, hm⟩ := h
  refine ⟨?_, rfl, ?_⟩
  · show (isN (.str y) && isIdx (nD n) 5 && !isIdx (nD n) 1 && decide (ms.length ≤ 6)) = true
    rw [show isN (.str y) = true from w, idx_nat (show n < 5 by omega), show isIdx (nD n) 1 = false from decide_eq_false (by omega), decide_eq_true few]; rfl
  · exact List.all_eq_true.mpr fun x hx => (hm x hx).1
theorem chart_right {m : Nat} {ss : List Str} {k : Nat} {rows : List D} (h1 : 1 ≤ k) (h3 : k ≤ 3) (hl : rows.length = k) (hr : ∀ (i : Nat) (d : D), rows[i]? = some d → ∃ y, nms[i]? = some y ∧ rwG m ss (nms.take k) y d) : chartF m ss (.tup rows) = true := by
  have wd : ∀ (i : Nat) (y : Str), nms[i]? = some y → isW y = true := fun i y h => nms_w (n := 3) y (by have := List.mem_of_getElem? h; rw [List.take_of_length_le (Nat.le_refl 3)]; exact this)
  have hn : rows.map nmF = nms.take k := by
    refine List.ext_getElem? fun i => ?_
    rw [List.getElem?_map]
    cases e : rows[i]? with
    | none =>
      have := List.getElem?_eq_none_iff.mp e
      rw [List.getElem?_eq_none (by rw [List.length_take]; omega)]; rfl
    | some d =>
      obtain ⟨y, hy, g⟩ := hr i d e
      have := (List.getElem?_eq_some_iff.mp e).1
      rw [List.getElem?_take_of_lt (by omega), hy, Option.map_some, (rwG_row (wd i y hy) g).2.1]
  have all : ∀ d, d ∈ rows → rowF d = true ∧ (msF d).all (movF m ss (nms.take k) (ptF d)) = true := fun d hd => by
    obtain ⟨i, hi⟩ := List.mem_iff_getElem?.mp hd
    obtain ⟨y, hy, g⟩ := hr i d hi
    have := rwG_row (wd i y hy) g
    exact ⟨this.1, this.2.2⟩
  show (decide (1 ≤ rows.length ∧ rows.length ≤ 4) && (rows.all rowF && (diff (rows.map nmF) && rows.all fun x => (msF x).all (movF m ss (rows.map nmF) (ptF x))))) = true
  rw [hn, nms_diff h1 h3, decide_eq_true (show 1 ≤ rows.length ∧ rows.length ≤ 4 from ⟨by omega, by omega⟩), List.all_eq_true.mpr fun d hd => (all d hd).1, List.all_eq_true.mpr fun d hd => (all d hd).2]; rfl
theorem mup_comm {M : Mem} {a c : Addr} {o u : MO} (h : a ≠ c) : mup (mup M c o) a u = mup (mup M a u) c o := by
  funext x
  unfold mup
  by_cases h1 : x = c
  · have h2 : ¬ x = a := fun e => h (e.symm.trans h1)
    rw [if_neg h2, if_pos h1, if_pos h1]
  · rw [if_neg h1, if_neg h1]
theorem ok__law_chart {P : Program} {w : World} {K : PySem.W.Frag} {mg : Str → Option Value} {base : Heap} (T : Tx K mg "_law_chart" s__law_chart) (d__law_pick : Df P w K mg base 2 "_law_pick" ["_law_pool_here", "_law_items"] p__law_pick) (d__law_sip : Df P w K mg base 1 "_law_sip" ["_law_pool_here", "_law_size"] p__law_sip) (m_range : mg "range" = none) (d__law_chart_move : Df P w K mg base 3 "_law_chart_move" ["_law_pool_here", "_law_modes", "_law_signals", "_law_names", "_law_points"] p__law_chart_move) (m_int : mg "int" = none) (m_tuple : mg "tuple" = none) : Df P w K mg base 4 "_law_chart" ["_law_pool_here"] p__law_chart := by
  refine df_ok T sc__law_chart (len__law_chart) (fun _ _ _ _ _ _ us hl => match us, hl with | [_], _ => rfl) (fun cdv A ou s H fa hr gd => ⟨_, (pss_cons (ps_par (i := 1) (j := 2) (by rfl) sc__law_chart.nd rfl rfl (by decide) rfl rfl (pa_cons (pe_callD d__law_pick (hr.mono (by decide)) gd (by rfl) (pa_cons (pv 0) (pa_cons (pe_lst (pa_cons pe_int (pa_cons pe_int (pa_cons pe_int pa_nil)))) pa_nil))) (pa_cons (pe_callD d__law_pick (hr.mono (by decide)) gd (by rfl) (pa_cons (pv 0) (pa_cons (pe_lst (pa_cons (pe_tup (pa_cons pe_str pa_nil)) (pa_cons (pe_tup (pa_cons pe_str (pa_cons pe_str pa_nil))) (pa_cons (pe_tup (pa_cons pe_str pa_nil)) (pa_cons (pe_tup pa_nil) pa_nil))))) pa_nil))) pa_nil)) (by rfl)) (pss_cons (ps_par3 (i := 3) (j := 4) (l := 5) (by rfl) sc__law_chart.nd rfl rfl rfl (by decide) (by decide) (by decide) rfl rfl rfl (pa_cons (pe_slice (sl_listK K) (pe_lst (pa_cons pe_str (pa_cons pe_str (pa_cons pe_str pa_nil)))) po_none (po_some (pe_op (op_addK K) pe_int (pe_callD d__law_sip (hr.mono (by decide)) gd (by rfl) (pa_cons (pv 0) (pa_cons pe_int pa_nil)))))) (pa_cons (pe_lst pa_nil) (pa_cons (pe_lst (pa_cons pe_int pa_nil)) pa_nil))) (by rfl)) (pss_cons (ps_for PassesOwn.never rfl (pi_listK K (pv 3)) (pg_name (i := 6) sc__law_chart.nd rfl (.inl rfl)) (pss_cons (ps_par (i := 7) (j := 8) (by rfl) sc__law_chart.nd rfl rfl (by decide) rfl rfl (pa_cons (pe_op (op_addK K) pe_int (pe_callD d__law_sip (hr.mono (by decide)) gd (by rfl) (pa_cons (pv 0) (pa_cons pe_int pa_nil)))) (pa_cons (pe_lst pa_nil) pa_nil)) (by rfl)) (pss_cons (ps_for PassesOwn.never rfl (pi_range1 (by rfl) m_range (pa_cons (pe_op (op_addK K) pe_int (pe_callD d__law_sip (hr.mono (by decide)) gd (by rfl) (pa_cons (pv 0) (pa_cons pe_int pa_nil)))) pa_nil)) (pg_name (i := 9) sc__law_chart.nd rfl (.inl rfl)) (pss_cons (ps_set (i := 10) sc__law_chart.nd rfl (.inl rfl) (pe_callD d__law_chart_move (hr.mono (by decide)) gd (by rfl) (pa_cons (pv 0) (pa_cons (pv 1) (pa_cons (pv 2) (pa_cons (pv 3) (pa_cons (pv 7) pa_nil))))))) (pss_cons (ps_asg (pe_op op_sub (pe_ix (ix_K K) (pv 5) pe_int (fun _ _ => rfl)) (pe_callTy call_int1 (by rfl) m_int (by decide +kernel) (pa_cons (pe_cmpR op_eq (pe_ix (ix_K K) (pv 10) pe_int (fun _ _ => rfl)) pe_str (nomark _)) pa_nil))) (pg_sub (pv 5) pe_int set_list)) (pss_one (ps_expr (pe_bmK K PySem.F.plainAttrs_list PySem.F.slot_list_append PySem.F.type_list_append mt_append (pv 8) (pa_cons (pe_ifExp (PW.pt (pw_and (pt_cmpR op_eq (pe_ix (ix_K K) (pv 10) pe_int (fun _ _ => rfl)) pe_str (nomark _)) (pw_and1 (pt_cmpR op_lt (pe_ix (ix_K K) (pv 5) pe_int (fun _ _ => rfl)) pe_int (nomark _))))) (pe_tup (pa_cons pe_str (pa_cons (pe_ix (ix_K K) (pv 10) pe_int (fun _ _ => rfl)) pa_nil))) (pv 10)) pa_nil))))))) (pss_cons (ps_expr (pe_bmK K PySem.F.plainAttrs_list PySem.F.slot_list_append PySem.F.type_list_append mt_append (pv 8) (pa_cons (pe_tup (pa_cons pe_str (pa_cons (pe_callD d__law_sip (hr.mono (by decide)) gd (by rfl) (pa_cons (pv 0) (pa_cons (pv 7) pa_nil))) pa_nil))) pa_nil))) (pss_one (ps_expr (pe_bmK K PySem.F.plainAttrs_list PySem.F.slot_list_append PySem.F.type_list_append mt_append (pv 4) (pa_cons (pe_tup (pa_cons (pv 6) (pa_cons (pv 7) (pa_cons (pe_callTy (call_tupleK K) (by rfl) m_tuple (by decide +kernel) (pa_cons (pv 8) pa_nil)) pa_nil)))) pa_nil)))))))) (pss_one (ps_ret (pe_lst (pa_cons (pv 1) (pa_cons (pv 2) (pa_cons (pe_callTy (call_tupleK K) (by rfl) m_tuple (by decide +kernel) (pa_cons (pv 4) pa_nil)) pa_nil))))))))), ?_⟩)
  rintro ds M R ⟨p, rfl, hp, q⟩
  show DS K _ [some (.raw (.ref p)), none, none, none, none, none, none, none, none, none, none] M _
  walk_at "x0"
  walk_at "gol"
  refine use_pick ⟨_, hp, rfl, List.cons_ne_nil _ _, by decide, fun x hx => ?_⟩
  obtain ⟨m, rfl, h1, h2⟩ : ∃ m : Nat, x = nD m ∧ 1 ≤ m ∧ m ≤ 2 := by
    simp only [List.mem_cons, List.not_mem_nil, or_false] at hx
    rcases hx with rfl | rfl | rfl <;> first | exact ⟨2, rfl, by decide, by decide⟩ | exact ⟨1, rfl, by decide, by decide⟩
  walk_at "gol"
  refine use_pick ⟨_, hp, rfl, List.cons_ne_nil _ _, by decide, fun x hx => ?_⟩
  obtain ⟨ss, rfl, hs⟩ : ∃ ss : List Str, x = .tup (sD ss) ∧ sigOk ss := by
    simp only [List.mem_cons, List.not_mem_nil, or_false] at hx
    rcases hx with rfl | rfl | rfl | rfl
    · exact ⟨_, rfl, .inl rfl⟩
    · exact ⟨_, rfl, .inr (.inl rfl)⟩
    · exact ⟨_, rfl, .inl rfl⟩
    · exact ⟨_, rfl, .inr (.inr rfl)⟩
  walk_at "gol"
  walk_at "x0"
  refine ds_par3 ?_
  refine da_cons (de_slL ?_)
  walk_at "gol"
  refine do_no (do_pt ?_)
  walk_at "gol"
  refine use_cast ⟨hp, by decide, by decide, fun k k0 k1 => ?_⟩
  obtain ⟨k, rfl, lk⟩ := go_nat (n := 3) k0 k1
  walk_at "nx"
  have ek : DL.cutD [D.str "one", D.str "two", D.str "six"] none (some (1 + (k : Int))) = sD (nms.take (k + 1)) := by
    have : k = 0 ∨ k = 1 ∨ k = 2 := by omega
    rcases this with rfl | rfl | rfl <;> rfl
  rw [ek]
  refine de_lstM ?_
  walk_at "nx"
  refine ⟨Nat.zero_le _, fun b hb => ?_⟩
  walk_at "nx"
  refine de_lstM ?_
  walk_at "nx"
  refine ⟨by show 1 ≤ sizeLine; decide, fun c hc => ?_⟩
  walk_at "nx"
  refine ⟨_, _, _, rfl, ?_⟩
  walk_at "x0"
  have hbp : b ≠ p := fun e => by rw [e, hp] at hb; cases hb
  have hcb : c ≠ b := fun e => by rw [e, mup_same] at hc; cases hc
  have hc0 : M c = none := by rw [mup_ne hcb] at hc; exact hc
  have hcp : c ≠ p := fun e => by rw [e, hp] at hc0; cases hc0
  have kl : (nms.take (k + 1)).length = k + 1 := by rw [List.length_take]; show min (k + 1) 3 = k + 1; omega
  walk_at "nx"
  refine ds_forP [6, 7, 8, 9, 10] ?_
  walk_at "x0"
  walk_at "nx"
  refine ⟨fun i M2 => ∃ (rows : List D) (z : Int), M2 = mup (mup M b (.lst rows)) c (.lst [.int z]) ∧ rows.length = i ∧ ∀ (j : Nat) (d : D), rows[j]? = some d → ∃ y, nms[j]? = some y ∧ rwG m ss (nms.take (k + 1)) y d, ⟨[], 2, rfl, rfl, fun j d h => by cases h⟩, fun i d M2 hd hM => ?_, fun M2 hM => ?_⟩
  · obtain ⟨rows, z, rfl, hl, hr⟩ := hM
    obtain ⟨y, hy, rfl⟩ : ∃ y, nms[i]? = some y ∧ d = .str y := by
      rw [List.getElem?_map] at hd
      cases e : (nms.take (k + 1))[i]? with
      | none => rw [e] at hd; cases hd
      | some y =>
        rw [e] at hd; cases hd
        rw [List.getElem?_take] at e
        split at e
        · exact ⟨y, e, rfl⟩
        · cases e
    have hi3 : i < 3 := (List.getElem?_eq_some_iff.mp hy).1
    have hpM : mup (mup M b (.lst rows)) c (.lst [.int z]) p = some .die := by rw [mup_ne (fun e => hcp e.symm), mup_ne (fun e => hbp e.symm)]; exact hp
    walk_at "x0"
    walk_at "nx"
    refine use_cast ⟨hpM, by decide, by decide, fun n n0 n1 => ?_⟩
    obtain ⟨n, rfl, ln⟩ := go_nat (n := 2) n0 n1
    refine dr_addI ?_
    refine da_cons (de_lstM ?_)
    walk_at "nx"
    refine ⟨Nat.zero_le _, fun a ha => ?_⟩
    walk_at "nx"
    walk_at "x0"
    rw [show ((1 : Int) + (n : Int)) = ((n + 1 : Nat) : Int) from by omega]
    have hac : a ≠ c := fun e => by rw [e, mup_same] at ha; cases ha
    have hab : a ≠ b := fun e => by rw [e, mup_ne (fun e => hcb e.symm), mup_same] at ha; cases ha
    have hap : a ≠ p := fun e => by rw [e, hpM] at ha; cases ha
    have hpA : ∀ (z2 : Int) mv, mup (mup (mup M b (.lst rows)) c (.lst [.int z2])) a (.lst mv) p = some .die := fun z2 mv => by rw [mup_ne (fun e => hap e.symm), mup_ne (fun e => hcp e.symm), mup_ne (fun e => hbp e.symm)]; exact hp
    have hcA : ∀ (z2 : Int) mv, mup (mup (mup M b (.lst rows)) c (.lst [.int z2])) a (.lst mv) c = some (.lst [.int z2]) := fun z2 mv => by rw [mup_ne (fun e => hac e.symm)]; exact mup_same
    have okn : ∀ x, x ∈ nms.take (k + 1) → okS x := fun x hx => isW_S (nms_w x hx)
    refine ds_forP [9, 10] ?_
    walk_at "x0"
    walk_at "nx"
    refine use_cast ⟨hpA _ _, by decide, by decide, fun t t0 t1 => ?_⟩
    obtain ⟨t, rfl, lt⟩ := go_nat (n := 3) t0 t1
    refine dr_addI ?_
    walk_at "nx"
    refine ⟨by omega, by omega, ?_⟩
    refine ⟨fun i2 M2 => ∃ (z2 : Int) (mv : List D), M2 = mup (mup (mup M b (.lst rows)) c (.lst [.int z2])) a (.lst mv) ∧ mv.length = i2 ∧ ∀ x, x ∈ mv → mvG m ss (nms.take (k + 1)) (n + 1) x, ⟨z, [], rfl, rfl, fun x hx => by cases hx⟩, fun i2 d2 M2 hd2 hM2 => ?_, fun M2 hM2 => ?_⟩
    · obtain ⟨z2, mv, rfl, lmv, gm⟩ := hM2
      have i2l : i2 < 3 := by
        have := (List.getElem?_eq_some_iff.mp hd2).1
        rw [rngD_len] at this; omega
      walk_at "x0"
      walk_at "nx"
      refine use_cmove ⟨hpA _ _, h1, h2, by omega, by omega, hs, fun e => (by rw [e] at kl; cases kl), by omega, okn, fun kk aa r la hmov hok => ?_⟩
      walk_at "nx"
      refine dr_ixM ⟨hcA _ _, atI_nat (j := 0) rfl, ?_⟩
      walk_at "nx"
      refine dr_ixTE ⟨.str kk, at0, ?_⟩
      walk_at "nx"
      refine dr_eqStr ?_
      walk_at "nx"
      refine ⟨[], dg_setL ?_⟩
      walk_at "nx"
      refine ⟨c, [.int z2], 0, 0, rfl, rfl, hcA _ _, rfl, ?_⟩
      have em : ∀ z3 : Int, mup (mup (mup (mup M b (.lst rows)) c (.lst [.int z2])) a (.lst mv)) c (.lst [.int z3]) = mup (mup (mup M b (.lst rows)) c (.lst [.int z3])) a (.lst mv) := fun z3 => by rw [mup_comm (a := a) hac, mup_mup, ← mup_comm hac]
      show DS K _ _ (mup (mup (mup (mup M b (.lst rows)) c (.lst [.int z2])) a (.lst mv)) c (.lst [.int (z2 - (if decide (kk = "call") = true then 1 else 0))])) _
      rw [em]
      generalize z2 - (if decide (kk = "call") = true then 1 else 0) = z3
      have fin : ∀ x, mvG m ss (nms.take (k + 1)) (n + 1) x → ∃ (z2 : Int) (mv2 : List D), mup (mup (mup (mup M b (.lst rows)) c (.lst [.int z3])) a (.lst mv)) a (.lst (mv ++ [x])) = mup (mup (mup M b (.lst rows)) c (.lst [.int z2])) a (.lst mv2) ∧ mv2.length = i2 + 1 ∧ ∀ x, x ∈ mv2 → mvG m ss (nms.take (k + 1)) (n + 1) x := fun x gx => by
        refine ⟨z3, _, mup_mup, by rw [List.length_append, lmv]; rfl, fun y hy => ?_⟩
        rcases List.mem_append.mp hy with hy | hy
        · exact gm y hy
        · rw [List.mem_singleton.mp hy]; exact gx
      walk_at "nx"
      refine de_append ?_
      walk_at "nx"
      refine ⟨a, mv, rfl, mup_same, ?_⟩
      walk_at "nx"
      refine dr_ixTE ⟨.str kk, at0, ?_⟩
      walk_at "nx"
      refine dr_eqStr ?_
      walk_at "nx"
      · refine dr_ixM ⟨hcA _ _, atI_nat (j := 0) rfl, ?_⟩
        walk_at "nx"
        · refine de_tup ?_
          walk_at "nx"
          refine dr_ixTE ⟨nD aa, at1, ?_⟩
          walk_at "nx"
          refine ⟨by show 2 ≤ sizeLine; decide, ?_⟩
          walk_at "nx"
          refine ⟨_, mv, rfl, mup_same, by rw [sizeLine_eq]; omega, rfl, fin _ (lv_ok la)⟩
        · exact ⟨_, mv, rfl, mup_same, by rw [sizeLine_eq]; omega, rfl, fin _ ⟨hmov, hok⟩⟩
      · exact ⟨_, mv, rfl, mup_same, by rw [sizeLine_eq]; omega, rfl, fin _ ⟨hmov, hok⟩⟩
    · obtain ⟨z2, mv, rfl, lmv, gm⟩ := hM2
      rw [rngD_len] at lmv
      walk_at "nx"
      refine de_append ?_
      walk_at "nx"
      refine ⟨a, mv, rfl, mup_same, ?_⟩
      walk_at "nx"
      refine de_tup ?_
      walk_at "nx"
      refine use_cast ⟨hpA _ _, by omega, by omega, fun e e0 e1 => ?_⟩
      obtain ⟨e, rfl, le⟩ := go_nat (n := n + 1) e0 e1
      walk_at "nx"
      refine ⟨by show 2 ≤ sizeLine; decide, ?_⟩
      walk_at "nx"
      refine ⟨_, mv, rfl, mup_same, by rw [sizeLine_eq]; omega, ?_⟩
      rw [mup_mup]
      refine ds_frz (i := 8) (p := a) rfl mup_same ?_
      rw [mdel_mup (show mup (mup M b (.lst rows)) c (.lst [.int z2]) a = none from by rw [mup_ne hac] at ha ⊢; exact ha)]
      walk_at "x0"
      walk_at "nx"
      refine de_append ?_
      walk_at "nx"
      refine ⟨b, rows, rfl, by rw [mup_ne (fun e => hcb e.symm)]; exact mup_same, ?_⟩
      walk_at "nx"
      refine de_tup ?_
      walk_at "nx"
      refine dc_tupL ?_
      walk_at "nx"
      refine ⟨by show 3 ≤ sizeLine; decide, ?_⟩
      walk_at "nx"
      refine ⟨_, rows, rfl, by rw [mup_ne (fun e => hcb e.symm)]; exact mup_same, by rw [sizeLine_eq]; omega, ?_⟩
      rw [mup_comm (a := b) (c := c) (fun e => hcb e.symm), mup_mup]
      refine ⟨rfl, _, z2, by rw [mup_comm (a := c) (c := b) hcb], by rw [List.length_append, hl]; rfl, fun j d hj => ?_⟩
      by_cases hjl : j < rows.length
      · rw [List.getElem?_append_left hjl] at hj
        exact hr j d hj
      · have hji : j = i := by
          have := (List.getElem?_eq_some_iff.mp hj).1
          rw [List.length_append] at this
          simp only [List.length_cons, List.length_nil] at this
          omega
        subst hji
        rw [List.getElem?_append_right (by omega), hl, Nat.sub_self] at hj
        cases hj
        refine ⟨y, hy, n + 1, _, rfl, by omega, by omega, by rw [List.length_append, lmv]; show _ + 1 ≤ 6; omega, fun x hx => ?_⟩
        rcases List.mem_append.mp hx with hx | hx
        · exact gm x hx
        · rw [List.mem_singleton.mp hx]; exact lv_ok le
  · obtain ⟨rows, z, rfl, hl, hr⟩ := hM
    rw [List.length_map, kl] at hl
    refine ds_frz (i := 4) (p := b) (ds := rows) rfl (by rw [mup_ne (fun e => hcb e.symm)]; exact mup_same) ?_
    refine ds_frz (i := 5) (p := c) (ds := [.int z]) rfl (by rw [mdel_ne hcb]; exact mup_same) ?_
    have eM : mdel (mdel (mup (mup M b (.lst rows)) c (.lst [.int z])) b) c = M := by
      funext x
      unfold mdel mup
      by_cases h1 : x = c
      · subst h1; simp [hc0]
      · by_cases h2 : x = b
        · subst h2; simp [h1, hb]
        · simp [h1, h2]
    rw [eM]
    walk_at "x0"
    walk_at "nx"
    refine de_lst ?_
    walk_at "nx"
    refine dc_tupL ?_
    walk_at "nx"
    exact ⟨by show 3 ≤ sizeLine; decide, q m ss rows h1 h2 hs (fun e => by subst e; cases hl) (by omega) (fun x hx => by
      obtain ⟨j, hj⟩ := List.mem_iff_getElem?.mp hx
      obtain ⟨y, hy, g⟩ := hr j x hj
      exact rwG_ok (nms_w (n := 3) y (by have := List.mem_of_getElem? hy; rw [List.take_of_length_le (Nat.le_refl 3)]; exact this)) g) (chart_right (k := k + 1) (by omega) (by omega) hl hr)⟩
theorem use_dchart {M : Mem} {Q : D → Mem → Prop} {p : Addr} (h : M p = some .die ∧ ∀ (m : Nat) (ss : List Str) (rows : List D), 1 ≤ m → m ≤ 2 → sigOk ss → rows ≠ [] → rows.length ≤ 10 → (∀ x, x ∈ rows → rwOk x) → chartF m ss (.tup rows) = true → Q (.lst [nD m, .tup (sD ss), .tup rows]) M) : p__law_chart [.raw (.ref p)] M Q := ⟨p, rfl, h⟩

/-! ### the law -/
theorem sig_F {ss : List Str} (h : sigOk ss) : sigF ss = true := by rcases h with rfl | rfl | rfl <;> decide +kernel
theorem sig_V {ss : List Str} (h : sigOk ss) : okV (.tup (sD ss)) := mk_tup (by rcases h with rfl | rfl | rfl <;> decide) fun x hx => by
  obtain ⟨y, hy, rfl⟩ := List.mem_map.mp hx
  rw [okV]; exact sig_okS h y hy
theorem rows_V {rows : List D} (few : rows.length ≤ 10) (h : ∀ x, x ∈ rows → rwOk x) : okV (.tup rows) := mk_tup (by omega) fun x hx => rwOk_V (h x hx)
theorem dr_isnBB {K : PySem.W.Frag} {M : Mem} {Q : D → Mem → Prop} {a b : Bool} (q : Q (.bl (!decide (a = b))) M) : DR K (fun x y H Q => ∃ a b, x = .bl a ∧ y = .bl b ∧ Q (.bl (!decide (a = b))) H) (.bl a) (.bl b) M Q := fun F H v u m r s QV k => by
  cases r; cases s
  exact ⟨a, b, rfl, rfl, k _ M _ H q (Go.refl m) (.bl _)⟩
def p__law_right : PT0 := fun ds M R => ∃ p : Addr, ds = [.raw (.ref p)] ∧ M p = some .die ∧ R (.bl true) M
theorem len__law_right : ∀ ds M R, p__law_right ds M R → ds.length = 1 := fun _ _ _ ⟨_, e, _⟩ => by rw [e]; rfl
theorem ok__law_right {P : Program} {w : World} {K : PySem.W.Frag} {mg : Str → Option Value} {base : Heap} (T : Tx K mg "_law_right" s__law_right) (d__law_chart : Df P w K mg base 4 "_law_chart" ["_law_pool_here"] p__law_chart) (d_is_chart : Df P w K mg base 7 "is_chart" ["modes", "signals", "value"] p_is_chart) (m_range : mg "range" = none) (d__law_near : Df P w K mg base 5 "_law_near" ["_law_pool_here", "_law_rows"] p__law_near) (d__law_pick : Df P w K mg base 2 "_law_pick" ["_law_pool_here", "_law_items"] p__law_pick) (m_repr : mg "repr" = none) (d__law_is_chart : Df P w K mg base 5 "_law_is_chart" ["_law_value", "_law_modes", "_law_signals"] p__law_is_chart) (d__law_odd : Df P w K mg base 3 "_law_odd" ["_law_pool_here"] p__law_odd) : Df P w K mg base 8 "_law_right" ["_law_pool_here"] p__law_right := by
  refine df_ok T sc__law_right (len__law_right) (fun _ _ _ _ _ _ us hl => match us, hl with | [_], _ => rfl) (fun cdv A ou s H fa hr gd => ⟨_, (pss_cons (ps_asg (pe_callD d__law_chart (hr.mono (by decide)) gd (by rfl) (pa_cons (pv 0) pa_nil)) (pg_unlK K (n := 3) rfl (pgs_cons (pg_name (i := 1) sc__law_right.nd rfl (.inl rfl)) (pgs_cons (pg_name (i := 2) sc__law_right.nd rfl (.inl rfl)) (pgs_cons (pg_name (i := 3) sc__law_right.nd rfl (.inl rfl)) pgs_nil))))) (pss_cons (ps_if (pt_cmpR op_isnot_bl (pe_callD d_is_chart (hr.mono (by decide)) gd (by rfl) (pa_cons (pv 1) (pa_cons (pv 2) (pa_cons (pv 3) pa_nil)))) pe_bl (nomark _)) (pss_one (ps_ret pe_bl)) pss_nil) (pss_cons (ps_for PassesOwn.never rfl (pi_range1 (by rfl) m_range (pa_cons pe_int pa_nil)) (pg_name (i := 4) sc__law_right.nd rfl (.inl rfl)) (pss_cons (ps_set (i := 5) sc__law_right.nd rfl (.inl rfl) (pe_callD d__law_near (hr.mono (by decide)) gd (by rfl) (pa_cons (pv 0) (pa_cons (pv 3) pa_nil)))) (pss_cons (ps_par (i := 6) (j := 7) (by rfl) sc__law_right.nd rfl rfl (by decide) rfl rfl (pa_cons (pe_callD d__law_pick (hr.mono (by decide)) gd (by rfl) (pa_cons (pv 0) (pa_cons (pe_lst (pa_cons (pv 1) (pa_cons pe_int (pa_cons pe_int pa_nil)))) pa_nil))) (pa_cons (pe_callD d__law_pick (hr.mono (by decide)) gd (by rfl) (pa_cons (pv 0) (pa_cons (pe_lst (pa_cons (pv 2) (pa_cons (pe_tup pa_nil) (pa_cons (pe_tup (pa_cons pe_str pa_nil)) pa_nil)))) pa_nil))) pa_nil)) (by rfl)) (pss_one (ps_if (pt_cmpR op_ne (pe_callB call_repr_bl (by rfl) m_repr (by decide +kernel) (pa_cons (pe_callD d_is_chart (hr.mono (by decide)) gd (by rfl) (pa_cons (pv 6) (pa_cons (pv 7) (pa_cons (pv 5) pa_nil)))) pa_nil)) (pe_callB call_repr_bl (by rfl) m_repr (by decide +kernel) (pa_cons (pe_callD d__law_is_chart (hr.mono (by decide)) gd (by rfl) (pa_cons (pv 5) (pa_cons (pv 6) (pa_cons (pv 7) pa_nil)))) pa_nil)) (nomark _)) (pss_one (ps_ret pe_bl)) pss_nil))))) (pss_cons (ps_set (i := 8) sc__law_right.nd rfl (.inl rfl) (pe_callD d__law_odd (hr.mono (by decide)) gd (by rfl) (pa_cons (pv 0) pa_nil))) (pss_one (ps_ret (pe_cmpR op_is_bl (pe_callD d_is_chart (hr.mono (by decide)) gd (by rfl) (pa_cons (pv 1) (pa_cons (pv 2) (pa_cons (pv 8) pa_nil)))) pe_bl (nomark _)))))))), ?_⟩)
  rintro ds M R ⟨p, rfl, hp, q⟩
  show DS K _ [some (.raw (.ref p)), none, none, none, none, none, none, none, none] M _
  walk_at "x0"
  walk_at "nx"
  refine use_dchart ⟨hp, fun m ss rows h1 h2 hs ne few hr hc => ?_⟩
  refine ⟨[1, 2, 3], dg_unl rfl (dgs_cons (dg_name (dgs_cons (dg_name (dgs_cons (dg_name (dgs_nil ?_)))))))⟩
  dsimp only [List.set_cons_succ, List.set_cons_zero]
  walk_at "nx"
  refine use_chart ⟨h1, h2, sig_V hs, sig_F hs, rows_V few hr, ?_⟩
  rw [hc]
  walk_at "nx"
  refine dr_isnBB ?_
  rw [decide_eq_true rfl]
  walk_at "nx"
  refine ds_forP [4, 5, 6, 7] ?_
  walk_at "x0"
  walk_at "nx"
  refine ⟨by decide, by decide, fun i M2 => M2 = M, rfl, fun i d M2 hd hM => ?_, fun M2 hM => ?_⟩
  · subst hM
    walk_at "x0"
    walk_at "nx"
    refine use_near ⟨hp, ne, few, hr, fun v ov => ?_⟩
    walk_at "gol"
    refine use_pick ⟨_, hp, rfl, List.cons_ne_nil _ _, by show 3 < 1000000; decide, fun x hx => ?_⟩
    obtain ⟨m2, rfl, h3, h4⟩ : ∃ m2 : Nat, x = nD m2 ∧ 1 ≤ m2 ∧ m2 ≤ 2 := by
      simp only [List.mem_cons, List.not_mem_nil, or_false] at hx
      rcases hx with rfl | rfl | rfl
      · exact ⟨m, rfl, h1, h2⟩
      · exact ⟨1, rfl, by decide, by decide⟩
      · exact ⟨2, rfl, by decide, by decide⟩
    walk_at "gol"
    refine use_pick ⟨_, hp, rfl, List.cons_ne_nil _ _, by show 3 < 1000000; decide, fun x hx => ?_⟩
    obtain ⟨ss2, rfl, g1, g2⟩ : ∃ ss2 : List Str, x = .tup (sD ss2) ∧ okV (.tup (sD ss2)) ∧ sigF ss2 = true := by
      simp only [List.mem_cons, List.not_mem_nil, or_false] at hx
      rcases hx with rfl | rfl | rfl
      · exact ⟨ss, rfl, sig_V hs, sig_F hs⟩
      · exact ⟨[], rfl, sig_V (.inr (.inr rfl)), sig_F (.inr (.inr rfl))⟩
      · exact ⟨[("t" : Str)], rfl, mk_tup (by show 1 ≤ 1000; decide) fun x hx => by
          rw [List.mem_singleton.mp hx]; exact okV_lit (by decide +kernel), by decide +kernel⟩
    walk_at "nx"
    refine use_chart ⟨h3, h4, g1, g2, ov, ?_⟩
    walk_at "nx"
    refine use_lchart ⟨ov, ?_⟩
    walk_at "nx"
    refine dr_neStr ?_
    rw [decide_eq_true rfl]
    walk_at "nx"
    exact ⟨rfl, rfl⟩
  · subst hM
    walk_at "nx"
    refine use_odd ⟨hp, fun o ho => ?_⟩
    walk_at "nx"
    refine use_chart ⟨h1, h2, sig_V hs, sig_F hs, odds_ok o ho, ?_⟩
    rw [odds_no m ss o ho]
    walk_at "nx"
    refine dr_isBB ?_
    exact q
theorem use_right {M : Mem} {Q : D → Mem → Prop} {p : Addr} (h : M p = some .die ∧ Q (.bl true) M) : p__law_right [.raw (.ref p)] M Q := ⟨p, rfl, h⟩

def exRows : List D := [.tup [.str "first", nD 3, .tup [.tup [.str "call", nD 0, nD 1, .str "asks", .tup [.tup [.str "need", .str "fix", .tup [.tup [nD 0, nD 2]]]]], .tup [.str "leave", nD 1], .tup [.str "leave", nD 2]]],
  .tup [.str "asks", nD 2, .tup [.tup [.str "raise", nD 0, nD 1, .str "need"], .tup [.str "leave", nD 1]]],
  .tup [.str "fix", nD 2, .tup [.tup [.str "go", nD 0, nD 1, nD 0, nD 1], .tup [.str "go", nD 0, nD 1, nD 0, nD 0], .tup [.str "leave", nD 1]]]]
/-- as okV, told by a test -/
def okB : D → Bool
  | .non => true | .bl _ => true | .int _ => true
  | .str x => decide (x.length ≤ 1000) && x.cps.toList.all fun c => decide (c < 128)
  | _ => false
mutual
def okC : D → Bool
  | .tup xs => decide (xs.length ≤ 1000) && okCL xs
  | d => okB d
def okCL : List D → Bool
  | [] => true
  | x :: r => okC x && okCL r
end
mutual
theorem okC_V : ∀ d : D, okC d = true → okV d
  | .non, _ => by simp [okV]
  | .bl _, _ => by simp [okV]
  | .int _, _ => by simp [okV]
  | .str x, h => by
    rw [okC] at h
    · exact okV_lit h
    · intro xs e; cases e
  | .tup xs, h => by
    rw [okC, Bool.and_eq_true] at h
    rw [okV]
    exact ⟨of_decide_eq_true h.1, okCL_V xs h.2⟩
  | .lst _, h => by simp [okC, okB] at h
  | .dic _, h => by simp [okC, okB] at h
  | .obj _ _, h => by simp [okC, okB] at h
  | .raw _, h => by simp [okC, okB] at h
theorem okCL_V : ∀ l : List D, okCL l = true → okVL l
  | [], _ => by rw [okVL]; trivial
  | x :: r, h => by
    rw [okCL, Bool.and_eq_true] at h
    rw [okVL]
    exact ⟨okC_V x h.1, okCL_V r h.2⟩
end
def p__law_example : PT0 := fun ds M R => ds = [] ∧ R (.lst [nD 2, .tup (sD [("need" : Str)]), .tup exRows]) M
theorem len__law_example : ∀ ds M R, p__law_example ds M R → ds.length = 0 := fun _ _ _ ⟨e, _⟩ => by rw [e]; rfl
theorem ok__law_example {P : Program} {w : World} {K : PySem.W.Frag} {mg : Str → Option Value} {base : Heap} (T : Tx K mg "_law_example" s__law_example)  : Df P w K mg base 1 "_law_example" [] p__law_example := by
  refine df_ok T sc__law_example (len__law_example) (fun _ _ _ _ _ _ us hl => match us, hl with | [], _ => rfl) (fun cdv A ou s H fa hr gd => ⟨_, (pss_cons (ps_set (i := 0) sc__law_example.nd rfl (.inl rfl) (pe_tup (pa_cons pe_str (pa_cons pe_int (pa_cons (pe_tup (pa_cons (pe_tup (pa_cons pe_str (pa_cons pe_int (pa_cons pe_int (pa_cons pe_int (pa_cons pe_int pa_nil)))))) (pa_cons (pe_tup (pa_cons pe_str (pa_cons pe_int (pa_cons pe_int (pa_cons pe_int (pa_cons pe_int pa_nil)))))) (pa_cons (pe_tup (pa_cons pe_str (pa_cons pe_int pa_nil))) pa_nil)))) pa_nil))))) (pss_cons (ps_set (i := 1) sc__law_example.nd rfl (.inl rfl) (pe_tup (pa_cons pe_str (pa_cons pe_int (pa_cons (pe_tup (pa_cons (pe_tup (pa_cons pe_str (pa_cons pe_int (pa_cons pe_int (pa_cons pe_str pa_nil))))) (pa_cons (pe_tup (pa_cons pe_str (pa_cons pe_int pa_nil))) pa_nil))) pa_nil))))) (pss_cons (ps_set (i := 2) sc__law_example.nd rfl (.inl rfl) (pe_tup (pa_cons pe_str (pa_cons pe_int (pa_cons (pe_tup (pa_cons (pe_tup (pa_cons pe_str (pa_cons pe_int (pa_cons pe_int (pa_cons pe_str (pa_cons (pe_tup (pa_cons (pe_tup (pa_cons pe_str (pa_cons pe_str (pa_cons (pe_tup (pa_cons (pe_tup (pa_cons pe_int (pa_cons pe_int pa_nil))) pa_nil)) pa_nil)))) pa_nil)) pa_nil)))))) (pa_cons (pe_tup (pa_cons pe_str (pa_cons pe_int pa_nil))) (pa_cons (pe_tup (pa_cons pe_str (pa_cons pe_int pa_nil))) pa_nil)))) pa_nil))))) (pss_one (ps_ret (pe_lst (pa_cons pe_int (pa_cons (pe_tup (pa_cons pe_str pa_nil)) (pa_cons (pe_tup (pa_cons (pv 2) (pa_cons (pv 1) (pa_cons (pv 0) pa_nil)))) pa_nil))))))))), ?_⟩)
  rintro ds M R ⟨rfl, q⟩
  show DS K _ [none, none, none] M _
  walk_at "x0"
  walk_at "gol"
  exact q
theorem len_law : ∀ ds M R, p_law ds M R → ds.length = 1 := fun _ _ _ ⟨_, e, _⟩ => by rw [e]; rfl
theorem use_pool {M : Mem} {Q : D → Mem → Prop} {ns : List Int} {k : Int} (hk : 0 ≤ k) (hl : ns.length ≤ 63) (q : ∀ p, M p = none → Q (.raw (.ref p)) (mup M p .die)) : p__law_pool [.lst (ns.map D.int), .int k] M Q := by
  obtain ⟨k, rfl⟩ := Int.eq_ofNat_of_zero_le hk
  exact ⟨ns, k, rfl, hl, q⟩
theorem ok_law {P : Program} {w : World} {K : PySem.W.Frag} {mg : Str → Option Value} {base : Heap} (T : Tx K mg "law" s_law) (m_range : mg "range" = none) (m_max : mg "max" = none) (m_min : mg "min" = none) (m_len : mg "len" = none) (d__law_pool : Df P w K mg base 1 "_law_pool" ["_law_script", "_law_spot"] p__law_pool) (d__law_right : Df P w K mg base 8 "_law_right" ["_law_pool_here"] p__law_right) (d__law_example : Df P w K mg base 1 "_law_example" [] p__law_example) (d_is_chart : Df P w K mg base 7 "is_chart" ["modes", "signals", "value"] p_is_chart) : Df P w K mg base 9 "law" ["_law_script"] p_law := by
  refine df_ok T sc_law (len_law) (fun _ _ _ _ _ _ us hl => match us, hl with | [_], _ => rfl) (fun cdv A ou s H fa hr gd => ⟨_, (pss_cons (ps_for PassesOwn.never rfl (pi_range1 (by rfl) m_range (pa_cons (pe_callB (call_max2 rfl) (by rfl) m_max (by decide +kernel) (pa_cons pe_int (pa_cons (pe_callB (call_min2 rfl) (by rfl) m_min (by decide +kernel) (pa_cons pe_int (pa_cons (pe_callB (call_lenK K) (by rfl) m_len (by decide +kernel) (pa_cons (pv 0) pa_nil)) pa_nil))) pa_nil))) pa_nil)) (pg_name (i := 1) sc_law.nd rfl (.inl rfl)) (pss_cons (ps_set (i := 2) sc_law.nd rfl (.inl rfl) (pe_callD d__law_pool (hr.mono (by decide)) gd (by rfl) (pa_cons (pv 0) (pa_cons (pv 1) pa_nil)))) (pss_one (ps_for PassesOwn.never rfl (pi_range1 (by rfl) m_range (pa_cons pe_int pa_nil)) (pg_name (i := 3) sc_law.nd rfl (.inl rfl)) (pss_one (ps_if (pt_not (pt_truK K (pe_callD d__law_right (hr.mono (by decide)) gd (by rfl) (pa_cons (pv 2) pa_nil)) (fun _ => rfl))) (pss_one (ps_ret pe_bl)) pss_nil)))))) (pss_cons (ps_asg (pe_callD0 d__law_example (hr.mono (by decide)) gd (by rfl)) (pg_unlK K (n := 3) rfl (pgs_cons (pg_name (i := 4) sc_law.nd rfl (.inl rfl)) (pgs_cons (pg_name (i := 5) sc_law.nd rfl (.inl rfl)) (pgs_cons (pg_name (i := 6) sc_law.nd rfl (.inl rfl)) pgs_nil))))) (pss_cons (ps_set (i := 7) sc_law.nd rfl (.inl rfl) (pe_lst (pa_cons (pe_callD d_is_chart (hr.mono (by decide)) gd (by rfl) (pa_cons (pv 4) (pa_cons (pv 5) (pa_cons (pv 6) pa_nil)))) (pa_cons (pe_callD d_is_chart (hr.mono (by decide)) gd (by rfl) (pa_cons pe_int (pa_cons (pv 5) (pa_cons (pv 6) pa_nil)))) (pa_cons (pe_callD d_is_chart (hr.mono (by decide)) gd (by rfl) (pa_cons (pv 4) (pa_cons (pe_tup pa_nil) (pa_cons (pv 6) pa_nil)))) pa_nil))))) (pss_cons (ps_set (i := 7) sc_law.nd rfl (.inl rfl) (pe_op (op_addK K) (pv 7) (pe_lst (pa_cons (pe_callD d_is_chart (hr.mono (by decide)) gd (by rfl) (pa_cons pe_int (pa_cons (pv 5) (pa_cons (pe_slice (sl_tupK K) (pv 6) po_none (po_some pe_int)) pa_nil)))) (pa_cons (pe_callD d_is_chart (hr.mono (by decide)) gd (by rfl) (pa_cons pe_int (pa_cons (pe_tup (pa_cons pe_str (pa_cons pe_str pa_nil))) (pa_cons (pe_revT K (pv 6)) pa_nil)))) pa_nil))))) (pss_one (ps_ret (pe_cmpR (op_eqK K hr.units) (pv 7) (pe_lst (pa_cons pe_bl (pa_cons pe_bl (pa_cons pe_bl (pa_cons pe_bl (pa_cons pe_bl pa_nil)))))) (nomark _)))))))), ?_⟩)
  rintro ds M R ⟨ns, rfl, hl, hm, q⟩
  show DS K _ [some (.lst (ns.map D.int)), none, none, none, none, none, none, none] M _
  walk_at "x0"
  refine ds_seq (ds_forM [1, 2, 3] (fun _ => True) ?_)
  walk_at "x0"
  walk_at "nx"
  have hlen : (ns.map D.int).length ≤ 63 := by rw [List.length_map]; exact hl
  have hr1 : ∀ x : Int, (if (if x < 8 then x else (8 : Int)) > 1 then (if x < 8 then x else (8 : Int)) else 1) ≤ 8 ∧ 1 ≤ (if (if x < 8 then x else (8 : Int)) > 1 then (if x < 8 then x else (8 : Int)) else 1) := fun x => by
    split <;> split <;> omega
  refine ⟨by have := (hr1 ((ns.map D.int).length : Int)).2; omega, by have := (hr1 ((ns.map D.int).length : Int)).1; omega, trivial, fun d hd M2 _ => ?_, fun M2 _ => ?_⟩
  · obtain ⟨i, hi⟩ := List.mem_iff_getElem?.mp hd
    obtain ⟨_, rfl⟩ := rngD_get hi
    walk_at "nx"
    refine use_pool (by omega) hl fun p hp => ?_
    walk_at "nx"
    refine ds_forP [3] ?_
    walk_at "x0"
    walk_at "nx"
    refine ⟨by decide, by decide, fun i M3 => M3 = mup M2 p .die, rfl, fun i2 d2 M3 hd2 hM => ?_, fun M3 hM => ?_⟩
    · subst hM
      walk_at "x0"
      walk_at "nx"
      refine use_right ⟨mup_same, ?_⟩
      walk_at "nx"
      exact ⟨rfl, rfl⟩
    · exact ⟨rfl, trivial⟩
  · walk_at "gol"
    refine ⟨rfl, ?_⟩
    walk_at "gol"
    refine ⟨[4, 5, 6], dg_unl rfl (dgs_cons (dg_name (dgs_cons (dg_name (dgs_cons (dg_name (dgs_nil ?_)))))))⟩
    dsimp only [List.set_cons_succ, List.set_cons_zero]
    have sn : okV (.tup (sD [("need" : Str)])) := okC_V _ (by decide +kernel)
    have exV : okV (.tup exRows) := okC_V _ (by decide +kernel)
    walk_at "gol"
    refine (show p_is_chart [nD 2, .tup (sD [("need" : Str)]), .tup exRows] _ _ from use_chart ⟨by decide, by decide, sn, by decide +kernel, exV, ?_⟩)
    rw [show chartF 2 [("need" : Str)] (.tup exRows) = true from by decide +kernel]
    walk_at "gol"
    refine (show p_is_chart [nD 1, .tup (sD [("need" : Str)]), .tup exRows] _ _ from use_chart ⟨by decide, by decide, sn, by decide +kernel, exV, ?_⟩)
    rw [show chartF 1 [("need" : Str)] (.tup exRows) = false from by decide +kernel]
    walk_at "gol"
    refine (show p_is_chart [nD 2, .tup (sD []), .tup exRows] _ _ from use_chart ⟨by decide, by decide, okC_V _ (by decide +kernel), by decide +kernel, exV, ?_⟩)
    rw [show chartF 2 [] (.tup exRows) = false from by decide +kernel]
    walk_at "gol"
    refine de_slT ?_
    walk_at "gol"
    refine do_no (do_pt ?_)
    walk_at "gol"
    refine (show p_is_chart [nD 2, .tup (sD [("need" : Str)]), .tup (exRows.take 2)] _ _ from use_chart ⟨by decide, by decide, sn, by decide +kernel, okC_V _ (by decide +kernel), ?_⟩)
    rw [show chartF 2 [("need" : Str)] (.tup (exRows.take 2)) = false from by decide +kernel]
    walk_at "gol"
    refine de_revT ?_
    walk_at "gol"
    refine (show p_is_chart [nD 2, .tup (sD [("need" : Str), ("zz" : Str)]), .tup exRows.reverse] _ _ from use_chart ⟨by decide, by decide, okC_V _ (by decide +kernel), by decide +kernel, okC_V _ (by decide +kernel), ?_⟩)
    rw [show chartF 2 [("need" : Str), ("zz" : Str)] (.tup exRows.reverse) = true from by decide +kernel]
    walk_at "gol"
    refine dr_addLE ⟨by show 3 + 2 ≤ sizeLine; decide, ?_⟩
    walk_at "gol"
    refine dr_eqDE ⟨_, _, rfl, rfl, by decide +kernel, by decide +kernel, ?_⟩
    refine Eq.mp (congrArg (fun b => R (.bl b) M2) (?_ : true = _)) (q M2)
    decide +kernel
theorem all_mk {l : PySem.W.OpenLaw} {w : World} {K : PySem.W.Frag} {h : Heap} {mg : Str → Option Value} {fa : Addr} (X : K.In h) (G : h.Ns mainGlobals mg) (hfa : mg "law" = some (.ref fa))
    {f0 : Addr} {od0 an0 : Option Addr} {sl0 : Array (Option Value)} {oc0 kV0 dc0 pm0 cd0 ct0 : Value}
    {f1 : Addr} {od1 an1 : Option Addr} {sl1 : Array (Option Value)} {oc1 kV1 dc1 pm1 cd1 ct1 : Value}
    {f2 : Addr} {od2 an2 : Option Addr} {sl2 : Array (Option Value)} {oc2 kV2 dc2 pm2 cd2 ct2 : Value}
    {f3 : Addr} {od3 an3 : Option Addr} {sl3 : Array (Option Value)} {oc3 kV3 dc3 pm3 cd3 ct3 : Value}
    {f4 : Addr} {od4 an4 : Option Addr} {sl4 : Array (Option Value)} {oc4 kV4 dc4 pm4 cd4 ct4 : Value}
    {f5 : Addr} {od5 an5 : Option Addr} {sl5 : Array (Option Value)} {oc5 kV5 dc5 pm5 cd5 ct5 : Value}
    {f6 : Addr} {od6 an6 : Option Addr} {sl6 : Array (Option Value)} {oc6 kV6 dc6 pm6 cd6 ct6 : Value}
    {f7 : Addr} {od7 an7 : Option Addr} {sl7 : Array (Option Value)} {oc7 kV7 dc7 pm7 cd7 ct7 : Value}
    {f8 : Addr} {od8 an8 : Option Addr} {sl8 : Array (Option Value)} {oc8 kV8 dc8 pm8 cd8 ct8 : Value}
    {f9 : Addr} {od9 an9 : Option Addr} {sl9 : Array (Option Value)} {oc9 kV9 dc9 pm9 cd9 ct9 : Value}
    {f10 : Addr} {od10 an10 : Option Addr} {sl10 : Array (Option Value)} {oc10 kV10 dc10 pm10 cd10 ct10 : Value}
    {f11 : Addr} {od11 an11 : Option Addr} {sl11 : Array (Option Value)} {oc11 kV11 dc11 pm11 cd11 ct11 : Value}
    {f12 : Addr} {od12 an12 : Option Addr} {sl12 : Array (Option Value)} {oc12 kV12 dc12 pm12 cd12 ct12 : Value}
    {f13 : Addr} {od13 an13 : Option Addr} {sl13 : Array (Option Value)} {oc13 kV13 dc13 pm13 cd13 ct13 : Value}
    {f14 : Addr} {od14 an14 : Option Addr} {sl14 : Array (Option Value)} {oc14 kV14 dc14 pm14 cd14 ct14 : Value}
    {f15 : Addr} {od15 an15 : Option Addr} {sl15 : Array (Option Value)} {oc15 kV15 dc15 pm15 cd15 ct15 : Value}
    {f16 : Addr} {od16 an16 : Option Addr} {sl16 : Array (Option Value)} {oc16 kV16 dc16 pm16 cd16 ct16 : Value}
    {f17 : Addr} {od17 an17 : Option Addr} {sl17 : Array (Option Value)} {oc17 kV17 dc17 pm17 cd17 ct17 : Value}
    {f18 : Addr} {od18 an18 : Option Addr} {sl18 : Array (Option Value)} {oc18 kV18 dc18 pm18 cd18 ct18 : Value}
    {f19 : Addr} {od19 an19 : Option Addr} {sl19 : Array (Option Value)} {oc19 kV19 dc19 pm19 cd19 ct19 : Value}
    {f20 : Addr} {od20 an20 : Option Addr} {sl20 : Array (Option Value)} {oc20 kV20 dc20 pm20 cd20 ct20 : Value}
    {f21 : Addr} {od21 an21 : Option Addr} {sl21 : Array (Option Value)} {oc21 kV21 dc21 pm21 cd21 ct21 : Value}
    {f22 : Addr} {od22 an22 : Option Addr} {sl22 : Array (Option Value)} {oc22 kV22 dc22 pm22 cd22 ct22 : Value}
    {f23 : Addr} {od23 an23 : Option Addr} {sl23 : Array (Option Value)} {oc23 kV23 dc23 pm23 cd23 ct23 : Value}
    {f24 : Addr} {od24 an24 : Option Addr} {sl24 : Array (Option Value)} {oc24 kV24 dc24 pm24 cd24 ct24 : Value}
    {f25 : Addr} {od25 an25 : Option Addr} {sl25 : Array (Option Value)} {oc25 kV25 dc25 pm25 cd25 ct25 : Value}
    {f26 : Addr} {od26 an26 : Option Addr} {sl26 : Array (Option Value)} {oc26 kV26 dc26 pm26 cd26 ct26 : Value}
    {f27 : Addr} {od27 an27 : Option Addr} {sl27 : Array (Option Value)} {oc27 kV27 dc27 pm27 cd27 ct27 : Value}
    {f28 : Addr} {od28 an28 : Option Addr} {sl28 : Array (Option Value)} {oc28 kV28 dc28 pm28 cd28 ct28 : Value}
    {f29 : Addr} {od29 an29 : Option Addr} {sl29 : Array (Option Value)} {oc29 kV29 dc29 pm29 cd29 ct29 : Value}
    {tc_MAX_LETTERS : Tok}
    {tc_LETTERS : Tok}
    {tc_MAX_SIGNALS : Tok}
    {tc_MAX_POINTS : Tok}
    {tc_MAX_MOVES : Tok}
    {tc_MAX_ROWS : Tok}
    {tc_MAX_CHART_MODES : Tok}
    (a0 : PySem.W.nsIn K mainGlobals "_law_pool" = some (some (.ref f0)))
    (l0 : K.lookup f0 = some ⟨oc0, od0, .func (PySem.W.fnOf "_law_pool" "_law_pool" (defArgs s__law_pool) (defBody s__law_pool) (defScope s__law_pool) .none kV0 dc0 pm0 an0 cd0 ct0), sl0⟩)
    (e0 : PySem.W.codeIn K cd0 "_law_pool" = true)
    (k0 : PySem.W.keepIn K (.ref f0) = true)
    (a1 : PySem.W.nsIn K mainGlobals "_law_sip" = some (some (.ref f1)))
    (l1 : K.lookup f1 = some ⟨oc1, od1, .func (PySem.W.fnOf "_law_sip" "_law_sip" (defArgs s__law_sip) (defBody s__law_sip) (defScope s__law_sip) .none kV1 dc1 pm1 an1 cd1 ct1), sl1⟩)
    (e1 : PySem.W.codeIn K cd1 "_law_sip" = true)
    (k1 : PySem.W.keepIn K (.ref f1) = true)
    (a2 : PySem.W.nsIn K mainGlobals "_law_pick" = some (some (.ref f2)))
    (l2 : K.lookup f2 = some ⟨oc2, od2, .func (PySem.W.fnOf "_law_pick" "_law_pick" (defArgs s__law_pick) (defBody s__law_pick) (defScope s__law_pick) .none kV2 dc2 pm2 an2 cd2 ct2), sl2⟩)
    (e2 : PySem.W.codeIn K cd2 "_law_pick" = true)
    (k2 : PySem.W.keepIn K (.ref f2) = true)
    (a3 : PySem.W.nsIn K mainGlobals "_law_chart_move" = some (some (.ref f3)))
    (l3 : K.lookup f3 = some ⟨oc3, od3, .func (PySem.W.fnOf "_law_chart_move" "_law_chart_move" (defArgs s__law_chart_move) (defBody s__law_chart_move) (defScope s__law_chart_move) .none kV3 dc3 pm3 an3 cd3 ct3), sl3⟩)
    (e3 : PySem.W.codeIn K cd3 "_law_chart_move" = true)
    (k3 : PySem.W.keepIn K (.ref f3) = true)
    (a4 : PySem.W.nsIn K mainGlobals "_law_chart" = some (some (.ref f4)))
    (l4 : K.lookup f4 = some ⟨oc4, od4, .func (PySem.W.fnOf "_law_chart" "_law_chart" (defArgs s__law_chart) (defBody s__law_chart) (defScope s__law_chart) .none kV4 dc4 pm4 an4 cd4 ct4), sl4⟩)
    (e4 : PySem.W.codeIn K cd4 "_law_chart" = true)
    (k4 : PySem.W.keepIn K (.ref f4) = true)
    (a5 : PySem.W.nsIn K mainGlobals "is_number" = some (some (.ref f5)))
    (l5 : K.lookup f5 = some ⟨oc5, od5, .func (PySem.W.fnOf "is_number" "is_number" (defArgs s_is_number) (defBody s_is_number) (defScope s_is_number) .none kV5 dc5 pm5 an5 cd5 ct5), sl5⟩)
    (e5 : PySem.W.codeIn K cd5 "is_number" = true)
    (k5 : PySem.W.keepIn K (.ref f5) = true)
    (a6 : PySem.W.nsIn K mainGlobals "is_index" = some (some (.ref f6)))
    (l6 : K.lookup f6 = some ⟨oc6, od6, .func (PySem.W.fnOf "is_index" "is_index" (defArgs s_is_index) (defBody s_is_index) (defScope s_is_index) .none kV6 dc6 pm6 an6 cd6 ct6), sl6⟩)
    (e6 : PySem.W.codeIn K cd6 "is_index" = true)
    (k6 : PySem.W.keepIn K (.ref f6) = true)
    (a7 : PySem.W.nsIn K mainGlobals "check_modes" = some (some (.ref f7)))
    (l7 : K.lookup f7 = some ⟨oc7, od7, .func (PySem.W.fnOf "check_modes" "check_modes" (defArgs s_check_modes) (defBody s_check_modes) (defScope s_check_modes) .none kV7 dc7 pm7 an7 cd7 ct7), sl7⟩)
    (e7 : PySem.W.codeIn K cd7 "check_modes" = true)
    (k7 : PySem.W.keepIn K (.ref f7) = true)
    (a8 : PySem.W.nsIn K mainGlobals "is_name" = some (some (.ref f8)))
    (l8 : K.lookup f8 = some ⟨oc8, od8, .func (PySem.W.fnOf "is_name" "is_name" (defArgs s_is_name) (defBody s_is_name) (defScope s_is_name) .none kV8 dc8 pm8 an8 cd8 ct8), sl8⟩)
    (e8 : PySem.W.codeIn K cd8 "is_name" = true)
    (k8 : PySem.W.keepIn K (.ref f8) = true)
    (a9 : PySem.W.nsIn K mainGlobals "are_names" = some (some (.ref f9)))
    (l9 : K.lookup f9 = some ⟨oc9, od9, .func (PySem.W.fnOf "are_names" "are_names" (defArgs s_are_names) (defBody s_are_names) (defScope s_are_names) .none kV9 dc9 pm9 an9 cd9 ct9), sl9⟩)
    (e9 : PySem.W.codeIn K cd9 "are_names" = true)
    (k9 : PySem.W.keepIn K (.ref f9) = true)
    (a10 : PySem.W.nsIn K mainGlobals "are_ascending" = some (some (.ref f10)))
    (l10 : K.lookup f10 = some ⟨oc10, od10, .func (PySem.W.fnOf "are_ascending" "are_ascending" (defArgs s_are_ascending) (defBody s_are_ascending) (defScope s_are_ascending) .none kV10 dc10 pm10 an10 cd10 ct10), sl10⟩)
    (e10 : PySem.W.codeIn K cd10 "are_ascending" = true)
    (k10 : PySem.W.keepIn K (.ref f10) = true)
    (a11 : PySem.W.nsIn K mainGlobals "are_signals" = some (some (.ref f11)))
    (l11 : K.lookup f11 = some ⟨oc11, od11, .func (PySem.W.fnOf "are_signals" "are_signals" (defArgs s_are_signals) (defBody s_are_signals) (defScope s_are_signals) .none kV11 dc11 pm11 an11 cd11 ct11), sl11⟩)
    (e11 : PySem.W.codeIn K cd11 "are_signals" = true)
    (k11 : PySem.W.keepIn K (.ref f11) = true)
    (a12 : PySem.W.nsIn K mainGlobals "has_row_form" = some (some (.ref f12)))
    (l12 : K.lookup f12 = some ⟨oc12, od12, .func (PySem.W.fnOf "has_row_form" "has_row_form" (defArgs s_has_row_form) (defBody s_has_row_form) (defScope s_has_row_form) .none kV12 dc12 pm12 an12 cd12 ct12), sl12⟩)
    (e12 : PySem.W.codeIn K cd12 "has_row_form" = true)
    (k12 : PySem.W.keepIn K (.ref f12) = true)
    (a13 : PySem.W.nsIn K mainGlobals "is_unwinds" = some (some (.ref f13)))
    (l13 : K.lookup f13 = some ⟨oc13, od13, .func (PySem.W.fnOf "is_unwinds" "is_unwinds" (defArgs s_is_unwinds) (defBody s_is_unwinds) (defScope s_is_unwinds) .none kV13 dc13 pm13 an13 cd13 ct13), sl13⟩)
    (e13 : PySem.W.codeIn K cd13 "is_unwinds" = true)
    (k13 : PySem.W.keepIn K (.ref f13) = true)
    (a14 : PySem.W.nsIn K mainGlobals "are_answers" = some (some (.ref f14)))
    (l14 : K.lookup f14 = some ⟨oc14, od14, .func (PySem.W.fnOf "are_answers" "are_answers" (defArgs s_are_answers) (defBody s_are_answers) (defScope s_are_answers) .none kV14 dc14 pm14 an14 cd14 ct14), sl14⟩)
    (e14 : PySem.W.codeIn K cd14 "are_answers" = true)
    (k14 : PySem.W.keepIn K (.ref f14) = true)
    (a15 : PySem.W.nsIn K mainGlobals "is_move" = some (some (.ref f15)))
    (l15 : K.lookup f15 = some ⟨oc15, od15, .func (PySem.W.fnOf "is_move" "is_move" (defArgs s_is_move) (defBody s_is_move) (defScope s_is_move) .none kV15 dc15 pm15 an15 cd15 ct15), sl15⟩)
    (e15 : PySem.W.codeIn K cd15 "is_move" = true)
    (k15 : PySem.W.keepIn K (.ref f15) = true)
    (a16 : PySem.W.nsIn K mainGlobals "fits_chart" = some (some (.ref f16)))
    (l16 : K.lookup f16 = some ⟨oc16, od16, .func (PySem.W.fnOf "fits_chart" "fits_chart" (defArgs s_fits_chart) (defBody s_fits_chart) (defScope s_fits_chart) .none kV16 dc16 pm16 an16 cd16 ct16), sl16⟩)
    (e16 : PySem.W.codeIn K cd16 "fits_chart" = true)
    (k16 : PySem.W.keepIn K (.ref f16) = true)
    (a17 : PySem.W.nsIn K mainGlobals "is_chart" = some (some (.ref f17)))
    (l17 : K.lookup f17 = some ⟨oc17, od17, .func (PySem.W.fnOf "is_chart" "is_chart" (defArgs s_is_chart) (defBody s_is_chart) (defScope s_is_chart) .none kV17 dc17 pm17 an17 cd17 ct17), sl17⟩)
    (e17 : PySem.W.codeIn K cd17 "is_chart" = true)
    (k17 : PySem.W.keepIn K (.ref f17) = true)
    (a18 : PySem.W.nsIn K mainGlobals "_law_odd" = some (some (.ref f18)))
    (l18 : K.lookup f18 = some ⟨oc18, od18, .func (PySem.W.fnOf "_law_odd" "_law_odd" (defArgs s__law_odd) (defBody s__law_odd) (defScope s__law_odd) .none kV18 dc18 pm18 an18 cd18 ct18), sl18⟩)
    (e18 : PySem.W.codeIn K cd18 "_law_odd" = true)
    (k18 : PySem.W.keepIn K (.ref f18) = true)
    (a19 : PySem.W.nsIn K mainGlobals "_law_bent" = some (some (.ref f19)))
    (l19 : K.lookup f19 = some ⟨oc19, od19, .func (PySem.W.fnOf "_law_bent" "_law_bent" (defArgs s__law_bent) (defBody s__law_bent) (defScope s__law_bent) .none kV19 dc19 pm19 an19 cd19 ct19), sl19⟩)
    (e19 : PySem.W.codeIn K cd19 "_law_bent" = true)
    (k19 : PySem.W.keepIn K (.ref f19) = true)
    (a20 : PySem.W.nsIn K mainGlobals "_law_near" = some (some (.ref f20)))
    (l20 : K.lookup f20 = some ⟨oc20, od20, .func (PySem.W.fnOf "_law_near" "_law_near" (defArgs s__law_near) (defBody s__law_near) (defScope s__law_near) .none kV20 dc20 pm20 an20 cd20 ct20), sl20⟩)
    (e20 : PySem.W.codeIn K cd20 "_law_near" = true)
    (k20 : PySem.W.keepIn K (.ref f20) = true)
    (a21 : PySem.W.nsIn K mainGlobals "_law_is_name" = some (some (.ref f21)))
    (l21 : K.lookup f21 = some ⟨oc21, od21, .func (PySem.W.fnOf "_law_is_name" "_law_is_name" (defArgs s__law_is_name) (defBody s__law_is_name) (defScope s__law_is_name) .none kV21 dc21 pm21 an21 cd21 ct21), sl21⟩)
    (e21 : PySem.W.codeIn K cd21 "_law_is_name" = true)
    (k21 : PySem.W.keepIn K (.ref f21) = true)
    (a22 : PySem.W.nsIn K mainGlobals "_law_is_number" = some (some (.ref f22)))
    (l22 : K.lookup f22 = some ⟨oc22, od22, .func (PySem.W.fnOf "_law_is_number" "_law_is_number" (defArgs s__law_is_number) (defBody s__law_is_number) (defScope s__law_is_number) .none kV22 dc22 pm22 an22 cd22 ct22), sl22⟩)
    (e22 : PySem.W.codeIn K cd22 "_law_is_number" = true)
    (k22 : PySem.W.keepIn K (.ref f22) = true)
    (a23 : PySem.W.nsIn K mainGlobals "_law_are_unwinds" = some (some (.ref f23)))
    (l23 : K.lookup f23 = some ⟨oc23, od23, .func (PySem.W.fnOf "_law_are_unwinds" "_law_are_unwinds" (defArgs s__law_are_unwinds) (defBody s__law_are_unwinds) (defScope s__law_are_unwinds) .none kV23 dc23 pm23 an23 cd23 ct23), sl23⟩)
    (e23 : PySem.W.codeIn K cd23 "_law_are_unwinds" = true)
    (k23 : PySem.W.keepIn K (.ref f23) = true)
    (a24 : PySem.W.nsIn K mainGlobals "_law_are_answers" = some (some (.ref f24)))
    (l24 : K.lookup f24 = some ⟨oc24, od24, .func (PySem.W.fnOf "_law_are_answers" "_law_are_answers" (defArgs s__law_are_answers) (defBody s__law_are_answers) (defScope s__law_are_answers) .none kV24 dc24 pm24 an24 cd24 ct24), sl24⟩)
    (e24 : PySem.W.codeIn K cd24 "_law_are_answers" = true)
    (k24 : PySem.W.keepIn K (.ref f24) = true)
    (a25 : PySem.W.nsIn K mainGlobals "_law_is_move" = some (some (.ref f25)))
    (l25 : K.lookup f25 = some ⟨oc25, od25, .func (PySem.W.fnOf "_law_is_move" "_law_is_move" (defArgs s__law_is_move) (defBody s__law_is_move) (defScope s__law_is_move) .none kV25 dc25 pm25 an25 cd25 ct25), sl25⟩)
    (e25 : PySem.W.codeIn K cd25 "_law_is_move" = true)
    (k25 : PySem.W.keepIn K (.ref f25) = true)
    (a26 : PySem.W.nsIn K mainGlobals "_law_is_chart" = some (some (.ref f26)))
    (l26 : K.lookup f26 = some ⟨oc26, od26, .func (PySem.W.fnOf "_law_is_chart" "_law_is_chart" (defArgs s__law_is_chart) (defBody s__law_is_chart) (defScope s__law_is_chart) .none kV26 dc26 pm26 an26 cd26 ct26), sl26⟩)
    (e26 : PySem.W.codeIn K cd26 "_law_is_chart" = true)
    (k26 : PySem.W.keepIn K (.ref f26) = true)
    (a27 : PySem.W.nsIn K mainGlobals "_law_right" = some (some (.ref f27)))
    (l27 : K.lookup f27 = some ⟨oc27, od27, .func (PySem.W.fnOf "_law_right" "_law_right" (defArgs s__law_right) (defBody s__law_right) (defScope s__law_right) .none kV27 dc27 pm27 an27 cd27 ct27), sl27⟩)
    (e27 : PySem.W.codeIn K cd27 "_law_right" = true)
    (k27 : PySem.W.keepIn K (.ref f27) = true)
    (a28 : PySem.W.nsIn K mainGlobals "_law_example" = some (some (.ref f28)))
    (l28 : K.lookup f28 = some ⟨oc28, od28, .func (PySem.W.fnOf "_law_example" "_law_example" (defArgs s__law_example) (defBody s__law_example) (defScope s__law_example) .none kV28 dc28 pm28 an28 cd28 ct28), sl28⟩)
    (e28 : PySem.W.codeIn K cd28 "_law_example" = true)
    (k28 : PySem.W.keepIn K (.ref f28) = true)
    (a29 : PySem.W.nsIn K mainGlobals "law" = some (some (.ref f29)))
    (l29 : K.lookup f29 = some ⟨oc29, od29, .func (PySem.W.fnOf "law" "law" (defArgs s_law) (defBody s_law) (defScope s_law) .none kV29 dc29 pm29 an29 cd29 ct29), sl29⟩)
    (e29 : PySem.W.codeIn K cd29 "law" = true)
    (k29 : PySem.W.keepIn K (.ref f29) = true)
    (m_len : PySem.W.nsIn K mainGlobals "len" = some none)
    (m_int : PySem.W.nsIn K mainGlobals "int" = some none)
    (m_abs : PySem.W.nsIn K mainGlobals "abs" = some none)
    (m_max : PySem.W.nsIn K mainGlobals "max" = some none)
    (m_list : PySem.W.nsIn K mainGlobals "list" = some none)
    (m_range : PySem.W.nsIn K mainGlobals "range" = some none)
    (m_tuple : PySem.W.nsIn K mainGlobals "tuple" = some none)
    (m_isinstance : PySem.W.nsIn K mainGlobals "isinstance" = some none)
    (m_bool : PySem.W.nsIn K mainGlobals "bool" = some none)
    (m_str : PySem.W.nsIn K mainGlobals "str" = some none)
    (c_MAX_LETTERS : PySem.W.nsIn K mainGlobals "MAX_LETTERS" = some (some (.int 8 tc_MAX_LETTERS)))
    (m_all : PySem.W.nsIn K mainGlobals "all" = some none)
    (c_LETTERS : PySem.W.nsIn K mainGlobals "LETTERS" = some (some (.str "abcdefghijklmnopqrstuvwxyz" tc_LETTERS)))
    (m_set : PySem.W.nsIn K mainGlobals "set" = some none)
    (m_zip : PySem.W.nsIn K mainGlobals "zip" = some none)
    (c_MAX_SIGNALS : PySem.W.nsIn K mainGlobals "MAX_SIGNALS" = some (some (.int 2 tc_MAX_SIGNALS)))
    (c_MAX_POINTS : PySem.W.nsIn K mainGlobals "MAX_POINTS" = some (some (.int 4 tc_MAX_POINTS)))
    (c_MAX_MOVES : PySem.W.nsIn K mainGlobals "MAX_MOVES" = some (some (.int 6 tc_MAX_MOVES)))
    (c_MAX_ROWS : PySem.W.nsIn K mainGlobals "MAX_ROWS" = some (some (.int 4 tc_MAX_ROWS)))
    (c_MAX_CHART_MODES : PySem.W.nsIn K mainGlobals "MAX_CHART_MODES" = some (some (.int 2 tc_MAX_CHART_MODES)))
    (m_enumerate : PySem.W.nsIn K mainGlobals "enumerate" = some none)
    (m_repr : PySem.W.nsIn K mainGlobals "repr" = some none)
    (m_min : PySem.W.nsIn K mainGlobals "min" = some none) :
    ∃ fd : FuncData, (∀ (s : Shared) (v : Value), BindsTo s fd ⟨[v], []⟩ [("_law_script", v)]) ∧ ∀ base : Heap, K.In base → base.Ns mainGlobals mg → FnG l.prog w K mg base 9 fa fd ["_law_script"] p_law := by
  have e := hfa.symm.trans (PySem.W.mg_of X G a29)
  cases e
  refine ⟨PySem.W.fnOf "law" "law" (defArgs s_law) (defBody s_law) (defScope s_law) .none kV29 dc29 pm29 an29 cd29 ct29, fun s v => .of_eq rfl, fun base _ _ => ?_⟩
  have m_len := PySem.W.mg_none_of X G m_len
  have m_int := PySem.W.mg_none_of X G m_int
  have m_abs := PySem.W.mg_none_of X G m_abs
  have m_max := PySem.W.mg_none_of X G m_max
  have m_list := PySem.W.mg_none_of X G m_list
  have m_range := PySem.W.mg_none_of X G m_range
  have m_tuple := PySem.W.mg_none_of X G m_tuple
  have m_isinstance := PySem.W.mg_none_of X G m_isinstance
  have m_bool := PySem.W.mg_none_of X G m_bool
  have m_str := PySem.W.mg_none_of X G m_str
  have c_MAX_LETTERS : GlK mg "MAX_LETTERS" (.int 8) := ⟨_, PySem.W.mg_of X G c_MAX_LETTERS, ⟨_, rfl⟩⟩
  have m_all := PySem.W.mg_none_of X G m_all
  have c_LETTERS : GlK mg "LETTERS" (.str "abcdefghijklmnopqrstuvwxyz") := ⟨_, PySem.W.mg_of X G c_LETTERS, ⟨_, rfl⟩⟩
  have m_set := PySem.W.mg_none_of X G m_set
  have m_zip := PySem.W.mg_none_of X G m_zip
  have c_MAX_SIGNALS : GlK mg "MAX_SIGNALS" (.int 2) := ⟨_, PySem.W.mg_of X G c_MAX_SIGNALS, ⟨_, rfl⟩⟩
  have c_MAX_POINTS : GlK mg "MAX_POINTS" (.int 4) := ⟨_, PySem.W.mg_of X G c_MAX_POINTS, ⟨_, rfl⟩⟩
  have c_MAX_MOVES : GlK mg "MAX_MOVES" (.int 6) := ⟨_, PySem.W.mg_of X G c_MAX_MOVES, ⟨_, rfl⟩⟩
  have c_MAX_ROWS : GlK mg "MAX_ROWS" (.int 4) := ⟨_, PySem.W.mg_of X G c_MAX_ROWS, ⟨_, rfl⟩⟩
  have c_MAX_CHART_MODES : GlK mg "MAX_CHART_MODES" (.int 2) := ⟨_, PySem.W.mg_of X G c_MAX_CHART_MODES, ⟨_, rfl⟩⟩
  have m_enumerate := PySem.W.mg_none_of X G m_enumerate
  have m_repr := PySem.W.mg_none_of X G m_repr
  have m_min := PySem.W.mg_none_of X G m_min
  have d__law_pool : Df l.prog w K mg base 1 "_law_pool" ["_law_script", "_law_spot"] p__law_pool := ok__law_pool (tx_mk l0 e0 k0 (PySem.W.mg_of X G a0)) m_len m_int m_abs m_max
  have d__law_sip : Df l.prog w K mg base 1 "_law_sip" ["_law_pool_here", "_law_size"] p__law_sip := ok__law_sip (tx_mk l1 e1 k1 (PySem.W.mg_of X G a1)) m_int
  have d__law_pick : Df l.prog w K mg base 2 "_law_pick" ["_law_pool_here", "_law_items"] p__law_pick := ok__law_pick (tx_mk l2 e2 k2 (PySem.W.mg_of X G a2)) d__law_sip m_len
  have d__law_chart_move : Df l.prog w K mg base 3 "_law_chart_move" ["_law_pool_here", "_law_modes", "_law_signals", "_law_names", "_law_points"] p__law_chart_move := ok__law_chart_move (tx_mk l3 e3 k3 (PySem.W.mg_of X G a3)) d__law_sip d__law_pick m_list m_range m_tuple
  have d__law_chart : Df l.prog w K mg base 4 "_law_chart" ["_law_pool_here"] p__law_chart := ok__law_chart (tx_mk l4 e4 k4 (PySem.W.mg_of X G a4)) d__law_pick d__law_sip m_range d__law_chart_move m_int m_tuple
  have d_is_number : Df l.prog w K mg base 1 "is_number" ["value"] p_is_number := ok_is_number (tx_mk l5 e5 k5 (PySem.W.mg_of X G a5)) m_isinstance m_int m_bool
  have d_is_index : Df l.prog w K mg base 2 "is_index" ["value", "many"] p_is_index := ok_is_index (tx_mk l6 e6 k6 (PySem.W.mg_of X G a6)) d_is_number
  have d_check_modes : Df l.prog w K mg base 4 "check_modes" ["modes", "most"] p_check_modes := ok_check_modes (tx_mk l7 e7 k7 (PySem.W.mg_of X G a7)) d_is_index
  have d_is_name : Df l.prog w K mg base 1 "is_name" ["value"] p_is_name := ok_is_name (tx_mk l8 e8 k8 (PySem.W.mg_of X G a8)) m_isinstance m_str m_len c_MAX_LETTERS m_all c_LETTERS
  have d_are_names : Df l.prog w K mg base 2 "are_names" ["value"] p_are_names := ok_are_names (tx_mk l9 e9 k9 (PySem.W.mg_of X G a9)) m_isinstance m_tuple m_all d_is_name m_len m_set
  have d_are_ascending : Df l.prog w K mg base 1 "are_ascending" ["names"] p_are_ascending := ok_are_ascending (tx_mk l10 e10 k10 (PySem.W.mg_of X G a10)) m_all m_zip
  have d_are_signals : Df l.prog w K mg base 3 "are_signals" ["value"] p_are_signals := ok_are_signals (tx_mk l11 e11 k11 (PySem.W.mg_of X G a11)) d_are_names m_len c_MAX_SIGNALS d_are_ascending
  have d_has_row_form : Df l.prog w K mg base 3 "has_row_form" ["value"] p_has_row_form := ok_has_row_form (tx_mk l12 e12 k12 (PySem.W.mg_of X G a12)) m_isinstance m_tuple m_len d_is_name d_is_index c_MAX_POINTS c_MAX_MOVES
  have d_is_unwinds : Df l.prog w K mg base 3 "is_unwinds" ["modes", "points", "value"] p_is_unwinds := ok_is_unwinds (tx_mk l13 e13 k13 (PySem.W.mg_of X G a13)) m_isinstance m_tuple m_len d_is_index d_are_ascending
  have d_are_answers : Df l.prog w K mg base 4 "are_answers" ["modes", "signals", "names", "points", "value"] p_are_answers := ok_are_answers (tx_mk l14 e14 k14 (PySem.W.mg_of X G a14)) m_isinstance m_tuple m_len d_is_unwinds d_are_ascending
  have d_is_move : Df l.prog w K mg base 5 "is_move" ["modes", "signals", "names", "points", "value"] p_is_move := ok_is_move (tx_mk l15 e15 k15 (PySem.W.mg_of X G a15)) m_isinstance m_tuple m_len m_str d_is_index d_are_answers
  have d_fits_chart : Df l.prog w K mg base 6 "fits_chart" ["modes", "signals", "value"] p_fits_chart := ok_fits_chart (tx_mk l16 e16 k16 (PySem.W.mg_of X G a16)) m_isinstance m_tuple m_len c_MAX_ROWS m_all d_has_row_form m_set d_is_move
  have d_is_chart : Df l.prog w K mg base 7 "is_chart" ["modes", "signals", "value"] p_is_chart := ok_is_chart (tx_mk l17 e17 k17 (PySem.W.mg_of X G a17)) d_check_modes c_MAX_CHART_MODES d_are_signals d_fits_chart
  have d__law_odd : Df l.prog w K mg base 3 "_law_odd" ["_law_pool_here"] p__law_odd := ok__law_odd (tx_mk l18 e18 k18 (PySem.W.mg_of X G a18)) d__law_pick
  have d__law_bent : Df l.prog w K mg base 4 "_law_bent" ["_law_pool_here", "_law_items"] p__law_bent := ok__law_bent (tx_mk l19 e19 k19 (PySem.W.mg_of X G a19)) d__law_sip m_len d__law_odd d__law_pick m_list
  have d__law_near : Df l.prog w K mg base 5 "_law_near" ["_law_pool_here", "_law_rows"] p__law_near := ok__law_near (tx_mk l20 e20 k20 (PySem.W.mg_of X G a20)) d__law_sip m_len d__law_bent
  have d__law_is_name : Df l.prog w K mg base 1 "_law_is_name" ["_law_value"] p__law_is_name := ok__law_is_name (tx_mk l21 e21 k21 (PySem.W.mg_of X G a21)) m_isinstance m_str m_len
  have d__law_is_number : Df l.prog w K mg base 1 "_law_is_number" ["_law_value", "_law_size"] p__law_is_number := ok__law_is_number (tx_mk l22 e22 k22 (PySem.W.mg_of X G a22)) m_isinstance m_int m_bool
  have d__law_are_unwinds : Df l.prog w K mg base 2 "_law_are_unwinds" ["_law_value", "_law_modes", "_law_points"] p__law_are_unwinds := ok__law_are_unwinds (tx_mk l23 e23 k23 (PySem.W.mg_of X G a23)) m_isinstance m_tuple m_enumerate m_len d__law_is_number
  have d__law_are_answers : Df l.prog w K mg base 3 "_law_are_answers" ["_law_value", "_law_modes", "_law_signals", "_law_names", "_law_points"] p__law_are_answers := ok__law_are_answers (tx_mk l24 e24 k24 (PySem.W.mg_of X G a24)) m_isinstance m_tuple m_enumerate m_len m_str d__law_are_unwinds
  have d__law_is_move : Df l.prog w K mg base 4 "_law_is_move" ["_law_value", "_law_modes", "_law_signals", "_law_names", "_law_points"] p__law_is_move := ok__law_is_move (tx_mk l25 e25 k25 (PySem.W.mg_of X G a25)) m_isinstance m_tuple m_len m_str d__law_is_number d__law_are_answers
  have d__law_is_chart : Df l.prog w K mg base 5 "_law_is_chart" ["_law_value", "_law_modes", "_law_signals"] p__law_is_chart := ok__law_is_chart (tx_mk l26 e26 k26 (PySem.W.mg_of X G a26)) m_isinstance m_tuple m_len d__law_is_name d__law_is_number m_set d__law_is_move
  have d__law_right : Df l.prog w K mg base 8 "_law_right" ["_law_pool_here"] p__law_right := ok__law_right (tx_mk l27 e27 k27 (PySem.W.mg_of X G a27)) d__law_chart d_is_chart m_range d__law_near d__law_pick m_repr d__law_is_chart d__law_odd
  have d__law_example : Df l.prog w K mg base 1 "_law_example" [] p__law_example := ok__law_example (tx_mk l28 e28 k28 (PySem.W.mg_of X G a28)) 
  have d_law : Df l.prog w K mg base 9 "law" ["_law_script"] p_law := ok_law (tx_mk l29 e29 k29 (PySem.W.mg_of X G a29)) m_range m_max m_min m_len d__law_pool d__law_right d__law_example d_is_chart
  exact law_fn d_law (PySem.W.mg_of X G a29) l29

end K60
open PySem PySem.W PyProof.Rows
set_option maxHeartbeats 0 in
theorem PySem.Challenge.cw_handedworld_k60_charts_judged_holds : PySem.Challenge.rw_handedworld_k60_charts_judged.Holds := by
  w_on; o_law; k_head; (case hw => w_witness2)
  k_fill
  refine DL.walk_g (l := PySem.Challenge.rw_handedworld_k60_charts_judged) (k := 9) (x := "_law_script") (by decide) rfl ⟨rfl, by decide, by decide⟩ (fun w h Y => PySem.W.kIn_of Y) ?F
  case F =>
    intro w mg fa h KX G hmg
    refine' K60.all_mk KX G hmg ?a0 ?l0 ?e0 ?k0 ?a1 ?l1 ?e1 ?k1 ?a2 ?l2 ?e2 ?k2 ?a3 ?l3 ?e3 ?k3 ?a4 ?l4 ?e4 ?k4 ?a5 ?l5 ?e5 ?k5 ?a6 ?l6 ?e6 ?k6 ?a7 ?l7 ?e7 ?k7 ?a8 ?l8 ?e8 ?k8 ?a9 ?l9 ?e9 ?k9 ?a10 ?l10 ?e10 ?k10 ?a11 ?l11 ?e11 ?k11 ?a12 ?l12 ?e12 ?k12 ?a13 ?l13 ?e13 ?k13 ?a14 ?l14 ?e14 ?k14 ?a15 ?l15 ?e15 ?k15 ?a16 ?l16 ?e16 ?k16 ?a17 ?l17 ?e17 ?k17 ?a18 ?l18 ?e18 ?k18 ?a19 ?l19 ?e19 ?k19 ?a20 ?l20 ?e20 ?k20 ?a21 ?l21 ?e21 ?k21 ?a22 ?l22 ?e22 ?k22 ?a23 ?l23 ?e23 ?k23 ?a24 ?l24 ?e24 ?k24 ?a25 ?l25 ?e25 ?k25 ?a26 ?l26 ?e26 ?k26 ?a27 ?l27 ?e27 ?k27 ?a28 ?l28 ?e28 ?k28 ?a29 ?l29 ?e29 ?k29 ?m_len ?m_int ?m_abs ?m_max ?m_list ?m_range ?m_tuple ?m_isinstance ?m_bool ?m_str ?c_MAX_LETTERS ?m_all ?c_LETTERS ?m_set ?m_zip ?c_MAX_SIGNALS ?c_MAX_POINTS ?c_MAX_MOVES ?c_MAX_ROWS ?c_MAX_CHART_MODES ?m_enumerate ?m_repr ?m_min
    (case a0 => k_is); (case l0 => k_is); (case e0 => k_is); (case k0 => k_is); (case a1 => k_is); (case l1 => k_is); (case e1 => k_is); (case k1 => k_is); (case a2 => k_is); (case l2 => k_is); (case e2 => k_is); (case k2 => k_is); (case a3 => k_is); (case l3 => k_is); (case e3 => k_is); (case k3 => k_is); (case a4 => k_is); (case l4 => k_is); (case e4 => k_is); (case k4 => k_is); (case a5 => k_is); (case l5 => k_is); (case e5 => k_is); (case k5 => k_is); (case a6 => k_is); (case l6 => k_is); (case e6 => k_is); (case k6 => k_is); (case a7 => k_is); (case l7 => k_is); (case e7 => k_is); (case k7 => k_is); (case a8 => k_is); (case l8 => k_is); (case e8 => k_is); (case k8 => k_is); (case a9 => k_is); (case l9 => k_is); (case e9 => k_is); (case k9 => k_is); (case a10 => k_is); (case l10 => k_is); (case e10 => k_is); (case k10 => k_is); (case a11 => k_is); (case l11 => k_is); (case e11 => k_is); (case k11 => k_is); (case a12 => k_is); (case l12 => k_is); (case e12 => k_is); (case k12 => k_is); (case a13 => k_is); (case l13 => k_is); (case e13 => k_is); (case k13 => k_is); (case a14 => k_is); (case l14 => k_is); (case e14 => k_is); (case k14 => k_is); (case a15 => k_is); (case l15 => k_is); (case e15 => k_is); (case k15 => k_is); (case a16 => k_is); (case l16 => k_is); (case e16 => k_is); (case k16 => k_is); (case a17 => k_is); (case l17 => k_is); (case e17 => k_is); (case k17 => k_is); (case a18 => k_is); (case l18 => k_is); (case e18 => k_is); (case k18 => k_is); (case a19 => k_is); (case l19 => k_is); (case e19 => k_is); (case k19 => k_is); (case a20 => k_is); (case l20 => k_is); (case e20 => k_is); (case k20 => k_is); (case a21 => k_is); (case l21 => k_is); (case e21 => k_is); (case k21 => k_is); (case a22 => k_is); (case l22 => k_is); (case e22 => k_is); (case k22 => k_is); (case a23 => k_is); (case l23 => k_is); (case e23 => k_is); (case k23 => k_is); (case a24 => k_is); (case l24 => k_is); (case e24 => k_is); (case k24 => k_is); (case a25 => k_is); (case l25 => k_is); (case e25 => k_is); (case k25 => k_is); (case a26 => k_is); (case l26 => k_is); (case e26 => k_is); (case k26 => k_is); (case a27 => k_is); (case l27 => k_is); (case e27 => k_is); (case k27 => k_is); (case a28 => k_is); (case l28 => k_is); (case e28 => k_is); (case k28 => k_is); (case a29 => k_is); (case l29 => k_is); (case e29 => k_is); (case k29 => k_is); (case m_len => k_is); (case m_int => k_is); (case m_abs => k_is); (case m_max => k_is); (case m_list => k_is); (case m_range => k_is); (case m_tuple => k_is); (case m_isinstance => k_is); (case m_bool => k_is); (case m_str => k_is); (case c_MAX_LETTERS => k_is); (case m_all => k_is); (case c_LETTERS => k_is); (case m_set => k_is); (case m_zip => k_is); (case c_MAX_SIGNALS => k_is); (case c_MAX_POINTS => k_is); (case c_MAX_MOVES => k_is); (case c_MAX_ROWS => k_is); (case c_MAX_CHART_MODES => k_is); (case m_enumerate => k_is); (case m_repr => k_is); (case m_min => k_is)

