import PyProof.Rows.All
import Wide.All
import OpenK.AllK
import Wide.FinOn
import HandS.ForMost
import HandS.IsInst
import HandS.Lambda
import HandS.RaiseMore
import HandS.Property
import HandS.Zip
import HandS.Conv
import HandS.SetFor
import HandS.Strs
import HandS.SortInts
import PyProof.ReprRoads
import KE.GoesMore
import KE.KxText
import HandS.TupAny
import HandS.TupSets
import HandS.Star
import HandS.TupLe
import HandS.TupMul
import HandS.MakeKwOnly
import HandS.TryMany
import HandS.ExcInit
import HandS.ExcField
import KE.KNestM
import HandS.EndTab
import HandS.FStr
import HandS.Style
import PyProof.NeKinds
import HandS.NoneIn
import HandS.SetTxt0
import PyProof.InstSpecial
import KE.DataEq
import HandS.More
import HandS.CallLocal
import HandS.HeadHook3
import HandS.DictComp
import HandS.ClsMeth
import HandS.WordsDict
import HandS.OwnEq
import HandS.ExcIs
import HandS.WordsExc
import KE.KEqDict
import KE.KDictZip
import KE.KDictItemsList
import HandS.ListItems
import HandS.Wide
import PySem.Challenge.RW_handedworld_k68_blocks_made
set_option Elab.async false
set_option linter.all false
set_option maxRecDepth 100000
set_option maxHeartbeats 4000000
namespace DL
open PySem PySem.Spec PyProof.Rows L2
inductive D where
  | non | bl (b : Bool) | int (i : Int) | str (x : Str)
  | lst (xs : List D) | tup (xs : List D)
  | dic (kvs : List (Key × D))
  | obj (C : Addr) (fs : List (Str × D))
  | raw (v : V)
abbrev Dl := List D
mutual
inductive Rep (K : PySem.W.Frag) (G : Hp) : V → D → Prop
  | non : Rep K G .non .non
  | bl (b : Bool) : Rep K G (.bl b) (.bl b)
  | int (i : Int) : Rep K G (.int i) (.int i)
  | str (x : Str) : Rep K G (.str x) (.str x)
  | lst {a : Addr} {xs : List V} {ds : List D} : SqL K G a xs → RepL K G xs ds → Rep K G (.ref a) (.lst ds)
  | tup {a : Addr} {xs : List V} {ds : List D} : SqT K G a xs → RepL K G xs ds → Rep K G (.ref a) (.tup ds)
  | dic {a : Addr} {xs : List (Key × V)} {ds : List (Key × D)} : Rd G a (.dK xs) → RepK K G xs ds → Rep K G (.ref a) (.dic ds)
  | obj {a C dx : Addr} {xs : List (Str × V)} {ds : List (Str × D)} : G a = some (.ins C dx xs) → RepS K G xs ds → Rep K G (.ref a) (.obj C ds)
  | raw (v : V) : Rep K G v (.raw v)
inductive RepL (K : PySem.W.Frag) (G : Hp) : List V → List D → Prop
  | nil : RepL K G [] []
  | cons {v : V} {vs : List V} {d : D} {ds : List D} : Rep K G v d → RepL K G vs ds → RepL K G (v :: vs) (d :: ds)
inductive RepK (K : PySem.W.Frag) (G : Hp) : List (Key × V) → List (Key × D) → Prop
  | nil : RepK K G [] []
  | cons {k : Key} {v : V} {vs : List (Key × V)} {d : D} {ds : List (Key × D)} : Rep K G v d → RepK K G vs ds → RepK K G ((k, v) :: vs) ((k, d) :: ds)
inductive RepS (K : PySem.W.Frag) (G : Hp) : List (Str × V) → List (Str × D) → Prop
  | nil : RepS K G [] []
  | cons {k : Str} {v : V} {vs : List (Str × V)} {d : D} {ds : List (Str × D)} : Rep K G v d → RepS K G vs ds → RepS K G ((k, v) :: vs) ((k, d) :: ds)
end
section
variable {K : PySem.W.Frag} {G G' : Hp}
theorem rd_mono (e : Same G G') {a : Addr} {u : HO} (h : Rd G a u) : Rd G' a u := by
  rcases h with h | ⟨o, h⟩
  · exact .inl (e _ _ h)
  · exact .inr ⟨o, e _ _ h⟩
theorem sqt_mono (e : Same G G') {a : Addr} {xs : List V} (h : SqT K G a xs) : SqT K G' a xs := by
  rcases h with h | h
  · exact .inl (rd_mono e h)
  · exact .inr h
mutual
theorem Rep.mono (e : Same G G') : ∀ {v : V} {d : D}, Rep K G v d → Rep K G' v d
  | _, _, .non => .non
  | _, _, .bl b => .bl b
  | _, _, .int i => .int i
  | _, _, .str x => .str x
  | _, _, .lst h r => .lst (e.seq h) (RepL.mono e r)
  | _, _, .tup h r => .tup (sqt_mono e h) (RepL.mono e r)
  | _, _, .dic h r => .dic (rd_mono e h) (RepK.mono e r)
  | _, _, .obj h r => .obj (e _ _ h) (RepS.mono e r)
  | _, _, .raw v => .raw v
theorem RepL.mono (e : Same G G') : ∀ {v : List V} {d : List D}, RepL K G v d → RepL K G' v d
  | _, _, .nil => .nil
  | _, _, .cons a b => .cons (Rep.mono e a) (RepL.mono e b)
theorem RepK.mono (e : Same G G') : ∀ {v : List (Key × V)} {d : List (Key × D)}, RepK K G v d → RepK K G' v d
  | _, _, .nil => .nil
  | _, _, .cons a b => .cons (Rep.mono e a) (RepK.mono e b)
theorem RepS.mono (e : Same G G') : ∀ {v : List (Str × V)} {d : List (Str × D)}, RepS K G v d → RepS K G' v d
  | _, _, .nil => .nil
  | _, _, .cons a b => .cons (Rep.mono e a) (RepS.mono e b)
end
theorem RepL.length : ∀ {v : List V} {d : List D}, RepL K G v d → v.length = d.length
  | _, _, .nil => rfl
  | _, _, .cons _ b => congrArg (· + 1) (RepL.length b)
theorem RepL.append : ∀ {v w : List V} {d e : List D}, RepL K G v d → RepL K G w e → RepL K G (v ++ w) (d ++ e)
  | _, _, _, _, .nil, b => b
  | _, _, _, _, .cons a b, c => .cons a (RepL.append b c)
theorem RepL.get : ∀ {v : List V} {d : List D} {i : Nat} {x : D}, RepL K G v d → d[i]? = some x → ∃ u, v[i]? = some u ∧ Rep K G u x
  | _, _, _, _, .nil, h => by simp at h
  | _, _, 0, _, .cons a _, h => by simp at h; subst h; exact ⟨_, rfl, a⟩
  | _, _, i + 1, _, .cons _ b, h => by
    obtain ⟨u, e, r⟩ := RepL.get (i := i) b (by simpa using h)
    exact ⟨u, by simpa using e, r⟩
theorem RepL.take : ∀ {v : List V} {d : List D} (n : Nat), RepL K G v d → RepL K G (v.take n) (d.take n)
  | _, _, 0, _ => .nil
  | _, _, _ + 1, .nil => .nil
  | _, _, n + 1, .cons a b => .cons a (RepL.take n b)
theorem RepL.drop : ∀ {v : List V} {d : List D} (n : Nat), RepL K G v d → RepL K G (v.drop n) (d.drop n)
  | _, _, 0, r => r
  | _, _, _ + 1, .nil => .nil
  | _, _, n + 1, .cons _ b => RepL.drop n b
theorem RepL.set {x : V} {d : D} (r : Rep K G x d) : ∀ {v : List V} {ds : List D} (i : Nat), RepL K G v ds → RepL K G (v.set i x) (ds.set i d)
  | _, _, _, .nil => .nil
  | _, _, 0, .cons _ b => .cons r b
  | _, _, i + 1, .cons a b => .cons a (RepL.set r i b)
theorem RepL.of_strs : ∀ {l : List Str} {v : List V}, RepL K G v (l.map D.str) → v = l.map V.str
  | [], _, h => by cases h; rfl
  | x :: r, _, h => by
    cases h with
    | cons a b => cases a; rw [RepL.of_strs b]; rfl
theorem RepL.of_ints : ∀ {l : List Int} {v : List V}, RepL K G v (l.map D.int) → v = l.map V.int
  | [], _, h => by cases h; rfl
  | x :: r, _, h => by
    cases h with
    | cons a b => cases a; rw [RepL.of_ints b]; rfl
theorem RepL.ints : ∀ (l : List Int), RepL K G (l.map V.int) (l.map D.int)
  | [] => .nil
  | x :: r => .cons (.int x) (RepL.ints r)
theorem RepL.of_bls : ∀ {l : List Bool} {v : List V}, RepL K G v (l.map D.bl) → v = l.map V.bl
  | [], _, h => by cases h; rfl
  | x :: r, _, h => by
    cases h with
    | cons a b => cases a; rw [RepL.of_bls b]; rfl
end
inductive MO where
  | die
  | lst (xs : List D)
  | dic (kvs : List (Key × D))
  | ins (C : Addr) (fs : List (Str × D))
  | tab (q : Str)
abbrev Mem := Addr → Option MO
abbrev Fm := Addr → Bool
inductive RepO (K : PySem.W.Frag) (G : Hp) : HO → MO → Prop
  | die (i j k : Int) : RepO K G (.lst [.int i, .int j, .int k]) .die
  | lst {xs : List V} {ds : List D} : RepL K G xs ds → RepO K G (.lst xs) (.lst ds)
  | dic {xs : List (Key × V)} {ds : List (Key × D)} : RepK K G xs ds → RepO K G (.dK xs) (.dic ds)
  | ins {C dx : Addr} {xs : List (Str × V)} {ds : List (Str × D)} : RepS K G xs ds → RepO K G (.ins C dx xs) (.ins C ds)
  | tab {q : Str} {ps : Array Value} : TriplesOk ps.toList → (∀ (pos : Pos) (cv : Value), codeAmong pos ps.toList = some cv → ∃ c, cv = .ref c ∧ G c = some (LamX.CodeO c q)) → RepO K G (.tbl ps) (.tab q)
def vis (H : Hp) (M : Mem) (F : Fm) : Hp := fun b => if F b || (M b).isSome then none else H b
def mup (M : Mem) (a : Addr) (o : MO) : Mem := fun b => if b = a then some o else M b
theorem mup_same {M : Mem} {a : Addr} {o : MO} : mup M a o a = some o := by unfold mup; rw [if_pos rfl]
theorem mup_ne {M : Mem} {a b : Addr} {o : MO} (h : b ≠ a) : mup M a o b = M b := by unfold mup; rw [if_neg h]
theorem mup_mup {M : Mem} {a : Addr} {o u : MO} : mup (mup M a o) a u = mup M a u := by
  funext b; unfold mup; split <;> rfl
theorem mup_self {M : Mem} {a : Addr} {o : MO} (h : M a = some o) : mup M a o = M := by
  funext b; unfold mup; split
  · subst_vars; exact h.symm
  · rfl
section
variable {K : PySem.W.Frag} {H H' H1 H2 : Hp} {M M' M1 M2 : Mem} {F : Fm} {a b p : Addr} {o u : HO} {m : MO}
theorem vis_of (h : vis H M F b = some o) : H b = some o ∧ F b = false ∧ M b = none := by
  unfold vis at h
  split at h
  · cases h
  · rename_i q
    simp only [Bool.or_eq_true, not_or, Bool.not_eq_true] at q
    refine ⟨h, q.1, ?_⟩
    cases e : M b with
    | none => rfl
    | some _ => rw [e] at q; exact nomatch q.2
theorem vis_mk (h : H b = some o) (f : F b = false) (n : M b = none) : vis H M F b = some o := by
  unfold vis
  rw [f, n]
  exact h
theorem vis_le : Same (vis H M F) H := fun _ _ h => (vis_of h).1
structure MOk (K : PySem.W.Frag) (F : Fm) (M : Mem) (H : Hp) : Prop where
  fr : ∀ b, F b = true → H b ≠ none ∧ M b = none
  mo : ∀ a m, M a = some m → ∃ ho, H a = some ho ∧ RepO K (vis H M F) ho m
  tb : ∀ b ps, H b = some (.tbl ps) → F b = true ∨ ∃ m, M b = some m
structure Go (K : PySem.W.Frag) (F : Fm) (M : Mem) (H : Hp) (M' : Mem) (H' : Hp) : Prop where
  ok : MOk K F M' H'
  ex : Same (vis H M F) (vis H' M' F)
  fr : ∀ b, F b = true → H' b = H b
theorem Go.refl (k : MOk K F M H) : Go K F M H M H := ⟨k, Same.refl _, fun _ _ => rfl⟩
theorem Go.trans (a : Go K F M H M1 H1) (b : Go K F M1 H1 M2 H2) : Go K F M H M2 H2 := ⟨b.ok, a.ex.trans b.ex, fun c h => (b.fr c h).trans (a.fr c h)⟩
theorem RepO.mono (e : Same H H') (r : RepO K H o m) : RepO K H' o m := by
  cases r with
  | die i j k => exact .die i j k
  | lst r => exact .lst (r.mono e)
  | dic r => exact .dic (r.mono e)
  | ins r => exact .ins (r.mono e)
  | tab a b => exact .tab a fun pos cv h => let ⟨c, e1, e2⟩ := b pos cv h; ⟨c, e1, e _ _ e2⟩
theorem MOk.new (k : MOk K F M H) (h : H p = none) : F p = false ∧ M p = none := by
  constructor
  · cases e : F p with
    | false => rfl
    | true => exact absurd h (k.fr p e).1
  · cases e : M p with
    | none => rfl
    | some m =>
      obtain ⟨ho, q, _⟩ := k.mo p m e
      rw [h] at q; cases q
theorem go_new (k : MOk K F M H) (h : H p = none) (nt : ∀ ps, o ≠ .tbl ps := by intro _ z; cases z) : Go K F M H M (upd H p o) ∧ vis (upd H p o) M F p = some o := by
  obtain ⟨f, n⟩ := k.new h
  have ex : Same (vis H M F) (vis (upd H p o) M F) := fun b u e => by
    obtain ⟨e1, e2, e3⟩ := vis_of e
    exact vis_mk (by rw [upd_ne (ne_of_none e1 h)]; exact e1) e2 e3
  refine ⟨⟨⟨fun b hb => ?_, fun a m hm => ?_, fun b ps hb => ?_⟩, ex, fun b hb => ?_⟩, vis_mk upd_same f n⟩
  · have hne : b ≠ p := fun e => by subst e; rw [f] at hb; cases hb
    rw [upd_ne hne]; exact k.fr b hb
  · obtain ⟨ho, q, r⟩ := k.mo a m hm
    exact ⟨ho, by rw [upd_ne (ne_of_none q h)]; exact q, r.mono ex⟩
  · by_cases e : b = p
    · subst e
      rw [upd_same] at hb; cases hb
      exact absurd rfl (nt ps)
    · rw [upd_ne e] at hb; exact k.tb b ps hb
  · have hne : b ≠ p := fun e => by subst e; rw [f] at hb; cases hb
    exact upd_ne hne
theorem go_newM (k : MOk K F M H) (h : H p = none) (r : RepO K (vis H M F) o m) : Go K F M H (mup M p m) (upd H p o) := by
  obtain ⟨f, n⟩ := k.new h
  have ex : Same (vis H M F) (vis (upd H p o) (mup M p m) F) := fun b u e => by
    obtain ⟨e1, e2, e3⟩ := vis_of e
    have hne := ne_of_none e1 h
    exact vis_mk (by rw [upd_ne hne]; exact e1) e2 (by rw [mup_ne hne]; exact e3)
  refine ⟨⟨fun b hb => ?_, fun a m' hm => ?_, fun b ps hb => ?_⟩, ex, fun b hb => ?_⟩
  · have hne : b ≠ p := fun e => by subst e; rw [f] at hb; cases hb
    rw [upd_ne hne, mup_ne hne]; exact k.fr b hb
  · by_cases e : a = p
    · subst e
      rw [mup_same] at hm; cases hm
      exact ⟨o, upd_same, r.mono ex⟩
    · rw [mup_ne e] at hm
      obtain ⟨ho, q, r'⟩ := k.mo a m' hm
      exact ⟨ho, by rw [upd_ne e]; exact q, r'.mono ex⟩
  · by_cases e : b = p
    · subst e; exact .inr ⟨m, mup_same⟩
    · rw [upd_ne e] at hb
      rw [mup_ne e]; exact k.tb b ps hb
  · have hne : b ≠ p := fun e => by subst e; rw [f] at hb; cases hb
    exact upd_ne hne
theorem go_mut {m0 : MO} (k : MOk K F M H) (h : M p = some m0) (r : RepO K (vis H M F) o m) : Go K F M H (mup M p m) (upd H p o) := by
  obtain ⟨h0, e0, _⟩ := k.mo p m0 h
  have ex : Same (vis H M F) (vis (upd H p o) (mup M p m) F) := fun b u e => by
    obtain ⟨e1, e2, e3⟩ := vis_of e
    have hne : b ≠ p := fun z => by subst z; rw [h] at e3; cases e3
    exact vis_mk (by rw [upd_ne hne]; exact e1) e2 (by rw [mup_ne hne]; exact e3)
  have fne : ∀ b, F b = true → b ≠ p := fun b hb e => by
    subst e
    have := (k.fr b hb).2
    rw [h] at this; cases this
  refine ⟨⟨fun b hb => ?_, fun a m' hm => ?_, fun b ps hb => ?_⟩, ex, fun b hb => upd_ne (fne b hb)⟩
  · rw [upd_ne (fne b hb), mup_ne (fne b hb)]; exact k.fr b hb
  · by_cases e : a = p
    · subst e
      rw [mup_same] at hm; cases hm
      exact ⟨o, upd_same, r.mono ex⟩
    · rw [mup_ne e] at hm
      obtain ⟨ho, q, r'⟩ := k.mo a m' hm
      exact ⟨ho, by rw [upd_ne e]; exact q, r'.mono ex⟩
  · by_cases e : b = p
    · subst e; exact .inr ⟨m, mup_same⟩
    · rw [upd_ne e] at hb
      rw [mup_ne e]; exact k.tb b ps hb
theorem go_die (k : MOk K F M H) (h : M p = some .die) (i j l : Int) : Go K F M H M (upd H p (.lst [.int i, .int j, .int l])) := by
  have g := go_mut (m := .die) k h (.die i j l)
  rw [mup_self h] at g
  exact g
def mdel (M : Mem) (a : Addr) : Mem := fun b => if b = a then none else M b
theorem mdel_ne {a b : Addr} (h : b ≠ a) : mdel M a b = M b := by unfold mdel; rw [if_neg h]
theorem mdel_same {a : Addr} : mdel M a a = none := by unfold mdel; rw [if_pos rfl]
theorem mdel_mup {a : Addr} {o : MO} (h : M a = none) : mdel (mup M a o) a = M := by
  funext b; unfold mdel mup; split
  · subst_vars; exact h.symm
  · rfl
theorem go_frz (k : MOk K F M H) (h : M p = some m) (nt : ∀ q, m ≠ .tab q := by intro _ z; cases z) : Go K F M H (mdel M p) H ∧ F p = false := by
  have ex : Same (vis H M F) (vis H (mdel M p) F) := fun b u e => by
    obtain ⟨e1, e2, e3⟩ := vis_of e
    have hne : b ≠ p := fun z => by subst z; rw [h] at e3; cases e3
    exact vis_mk e1 e2 (by rw [mdel_ne hne]; exact e3)
  have fne : ∀ b, F b = true → b ≠ p := fun b hb e => by
    subst e
    have := (k.fr b hb).2
    rw [h] at this; cases this
  refine ⟨⟨⟨fun b hb => ?_, fun a m' hm => ?_, fun b ps hb => ?_⟩, ex, fun _ _ => rfl⟩, ?_⟩
  · rw [mdel_ne (fne b hb)]; exact k.fr b hb
  · by_cases e : a = p
    · subst e; rw [mdel_same] at hm; cases hm
    · rw [mdel_ne e] at hm
      obtain ⟨ho, q, r'⟩ := k.mo a m' hm
      exact ⟨ho, q, r'.mono ex⟩
  · rcases k.tb b ps hb with z | ⟨m2, z⟩
    · exact .inl z
    · by_cases e : b = p
      · subst e
        rw [h] at z; cases z
        obtain ⟨ho, q, r'⟩ := k.mo b m h
        rw [hb] at q; cases q
        cases r' with
        | tab a b => exact absurd rfl (nt _)
      · exact .inr ⟨m2, by rw [mdel_ne e]; exact z⟩
  · cases e : F p with
    | false => rfl
    | true => exact absurd rfl (fne p e)
end
def fadd (F : Fm) (p : Addr) : Fm := fun b => F b || (b == p)
section
variable {K : PySem.W.Frag} {H H' H1 H2 : Hp} {M M' M1 M2 : Mem} {F : Fm} {a b p : Addr} {o u : HO} {m : MO}
theorem fadd_of (h : fadd F p b = true) : F b = true ∨ b = p := by
  unfold fadd at h
  rcases Bool.or_eq_true_iff.mp h with h | h
  · exact .inl h
  · exact .inr (by simpa using h)
theorem fadd_no (h : fadd F p b = false) : F b = false ∧ b ≠ p := by
  unfold fadd at h
  obtain ⟨h1, h2⟩ := Bool.or_eq_false_iff.mp h
  exact ⟨h1, by simpa using h2⟩
theorem fadd_self : fadd F p p = true := by unfold fadd; simp
theorem fadd_mk (h : F b = true) : fadd F p b = true := by unfold fadd; rw [h]; rfl
theorem fadd_mkno (h : F b = false) (e : b ≠ p) : fadd F p b = false := by unfold fadd; rw [h]; simpa using e
theorem tb_put {xs : List V} (k : ∀ b ps, H b = some (.tbl ps) → F b = true ∨ ∃ m, M b = some m) : ∀ b ps, upd H p (.lst xs) b = some (.tbl ps) → F b = true ∨ ∃ m, M b = some m := fun b ps hb => by
  by_cases e : b = p
  · subst e; rw [upd_same] at hb; cases hb
  · rw [upd_ne e] at hb; exact k b ps hb
theorem tb_add {xs : List V} (k : ∀ b ps, H b = some (.tbl ps) → F b = true ∨ ∃ m, M b = some m) : ∀ b ps, upd H p (.lst xs) b = some (.tbl ps) → fadd F p b = true ∨ ∃ m, M b = some m := fun b ps hb => (tb_put k b ps hb).imp fadd_mk id
theorem tb_back {xs : List V} (k : ∀ b ps, H b = some (.tbl ps) → fadd F p b = true ∨ ∃ m, M b = some m) (h : H p = some (.lst xs)) : ∀ b ps, H b = some (.tbl ps) → F b = true ∨ ∃ m, M b = some m := fun b ps hb => by
  rcases k b ps hb with z | z
  · rcases fadd_of z with z | rfl
    · exact .inl z
    · rw [h] at hb; cases hb
  · exact .inr z
end
abbrev Sg := L2.St
abbrev En := List (Option D)
def EnvR (K : PySem.W.Frag) (G : Hp) (σ : Sg) (δ : En) : Prop := σ.length = δ.length ∧ ∀ (i : Nat) (d : D), δ[i]? = some (some d) → ∃ v, σ[i]? = some (some v) ∧ Rep K G v d
section
variable {K : PySem.W.Frag} {G G' : Hp} {σ : Sg} {δ : En} {v : V} {d : D} {i : Nat}
theorem EnvR.mono (e : Same G G') (r : EnvR K G σ δ) : EnvR K G' σ δ := ⟨r.1, fun i d h => let ⟨v, q, z⟩ := r.2 i d h; ⟨v, q, z.mono e⟩⟩
theorem EnvR.set (r : EnvR K G σ δ) (x : Rep K G v d) (i : Nat) : EnvR K G (σ.set i (some v)) (δ.set i (some d)) := by
  refine ⟨by rw [List.length_set, List.length_set]; exact r.1, fun j e h => ?_⟩
  by_cases hj : i = j
  · subst hj
    by_cases hl : i < δ.length
    · rw [List.getElem?_set_self hl] at h
      cases h
      exact ⟨v, List.getElem?_set_self (by have := r.1; omega), x⟩
    · rw [List.getElem?_eq_none (by rw [List.length_set]; omega)] at h; cases h
  · rw [List.getElem?_set_ne hj] at h
    rw [List.getElem?_set_ne hj]
    exact r.2 j e h
theorem EnvR.unset (r : EnvR K G σ δ) (i : Nat) : EnvR K G (σ.set i none) (δ.set i none) := by
  refine ⟨by rw [List.length_set, List.length_set]; exact r.1, fun j e h => ?_⟩
  by_cases hj : i = j
  · subst hj
    by_cases hl : i < δ.length
    · rw [List.getElem?_set_self hl] at h; cases h
    · rw [List.getElem?_eq_none (by rw [List.length_set]; omega)] at h; cases h
  · rw [List.getElem?_set_ne hj] at h
    rw [List.getElem?_set_ne hj]
    exact r.2 j e h
def wipeD (δ : En) : List Nat → En
  | [] => δ
  | v :: vs => (wipeD δ vs).set v none
theorem EnvR.wipe (r : EnvR K G σ δ) : ∀ vs : List Nat, EnvR K G (wipe σ vs) (wipeD δ vs)
  | [] => r
  | v :: vs => (EnvR.wipe r vs).unset v
theorem EnvR.start {N : List Str} {vs : List V} {ds : List D} (r : RepL K G vs ds) : EnvR K G (L2.start N vs) (ds.map some ++ List.replicate (N.length - ds.length) none) := by
  have hl := r.length
  refine ⟨by unfold L2.start; simp [hl], fun i d h => ?_⟩
  unfold L2.start
  by_cases hi : i < ds.length
  · rw [List.getElem?_append_left (by simpa using hi), List.getElem?_map] at h
    cases q : ds[i]? with
    | none => rw [q] at h; cases h
    | some e =>
      rw [q] at h; cases h
      obtain ⟨u, e1, r1⟩ := r.get q
      refine ⟨u, ?_, r1⟩
      rw [List.getElem?_append_left (by simp; omega), List.getElem?_map, e1]
      rfl
  · rw [List.getElem?_append_right (by simp; omega), List.getElem?_replicate] at h
    split at h <;> cases h
end
theorem wipe_wipe (σ : Sg) : ∀ (vs us : List Nat), (∀ j ∈ us, j ∈ vs) → wipe (wipe σ vs) us = wipe σ vs := by
  have one : ∀ (vs : List Nat) (j : Nat), j ∈ vs → (wipe σ vs).set j none = wipe σ vs := by
    intro vs
    induction vs with
    | nil => intro j h; cases h
    | cons v vs ih =>
      intro j h
      show ((wipe σ vs).set v none).set j none = (wipe σ vs).set v none
      by_cases e : v = j
      · subst e; rw [List.set_set]
      · rw [List.set_comm _ _ e, ih j (by
          rcases List.mem_cons.mp h with h | h
          · exact absurd h.symm e
          · exact h)]
  intro vs us
  induction us with
  | nil => intro _; rfl
  | cons u us ih =>
    intro h
    show (wipe (wipe σ vs) us).set u none = wipe σ vs
    rw [ih fun j hj => h j (List.mem_cons_of_mem _ hj)]
    exact one vs u (h u List.mem_cons_self)
theorem wipe_set (σ : Sg) (j : Nat) (x : Option V) : ∀ (vs : List Nat), j ∈ vs → wipe (σ.set j x) vs = wipe σ vs
  | [], h => by cases h
  | v :: vs, h => by
    show (wipe (σ.set j x) vs).set v none = (wipe σ vs).set v none
    by_cases hm : j ∈ vs
    · rw [wipe_set σ j x vs hm]
    · have e : j = v := by
        rcases List.mem_cons.mp h with h | h
        · exact h
        · exact absurd h hm
      subst e
      have go : ∀ (us : List Nat), (wipe (σ.set j x) us).set j none = (wipe σ us).set j none := by
        intro us
        induction us with
        | nil => show (σ.set j x).set j none = σ.set j none; rw [List.set_set]
        | cons u us ih =>
          show ((wipe (σ.set j x) us).set u none).set j none = ((wipe σ us).set u none).set j none
          by_cases eu : u = j
          · subst eu; rw [List.set_set, List.set_set]; exact ih
          · rw [List.set_comm _ _ eu, ih, List.set_comm _ _ (Ne.symm eu)]
      exact go vs
end DL
set_option Elab.async false
set_option linter.all false
set_option maxRecDepth 100000
set_option maxHeartbeats 4000000
namespace DL
open PySem PySem.Spec PyProof.Rows L2
def DE (K : PySem.W.Frag) (te : TE) (δ : En) (M : Mem) (Q : D → Mem → Prop) : Prop :=
  ∀ (F : Fm) (σ : Sg) (H : Hp), EnvR K (vis H M F) σ δ → MOk K F M H → ∀ QV : VK, (∀ d M' v H', Q d M' → Go K F M H M' H' → Rep K (vis H' M' F) v d → QV v H') → te σ H QV
def DT (K : PySem.W.Frag) (tt : TT) (δ : En) (M : Mem) (Q : Bool → Mem → Prop) : Prop :=
  ∀ (F : Fm) (σ : Sg) (H : Hp), EnvR K (vis H M F) σ δ → MOk K F M H → ∀ QV : Bool → Hp → Prop, (∀ b M' H', Q b M' → Go K F M H M' H' → QV b H') → tt σ H QV
def DA (K : PySem.W.Frag) (ta : TA) (δ : En) (M : Mem) (Q : List D → Mem → Prop) : Prop :=
  ∀ (F : Fm) (σ : Sg) (H : Hp), EnvR K (vis H M F) σ δ → MOk K F M H → ∀ QV : List V → Hp → Prop, (∀ ds M' vs H', Q ds M' → Go K F M H M' H' → RepL K (vis H' M' F) vs ds → QV vs H') → ta σ H QV
def DR (K : PySem.W.Frag) (r : R2) (d e : D) (M : Mem) (Q : D → Mem → Prop) : Prop :=
  ∀ (F : Fm) (H : Hp) (v u : V), MOk K F M H → Rep K (vis H M F) v d → Rep K (vis H M F) u e → ∀ QV : VK, (∀ x M' z H', Q x M' → Go K F M H M' H' → Rep K (vis H' M' F) z x → QV z H') → r v u H QV
def DU (K : PySem.W.Frag) (r : V → Hp → VK → Prop) (d : D) (M : Mem) (Q : D → Mem → Prop) : Prop :=
  ∀ (F : Fm) (H : Hp) (v : V), MOk K F M H → Rep K (vis H M F) v d → ∀ QV : VK, (∀ x M' z H', Q x M' → Go K F M H M' H' → Rep K (vis H' M' F) z x → QV z H') → r v H QV
def DC (K : PySem.W.Frag) (r : List V → Hp → VK → Prop) (ds : List D) (M : Mem) (Q : D → Mem → Prop) : Prop :=
  ∀ (F : Fm) (H : Hp) (vs : List V), MOk K F M H → RepL K (vis H M F) vs ds → ∀ QV : VK, (∀ x M' z H', Q x M' → Go K F M H M' H' → Rep K (vis H' M' F) z x → QV z H') → r vs H QV
section
variable {K : PySem.W.Frag} {δ : En} {M : Mem} {Q : D → Mem → Prop} {ta tb tc te : TE} {tt tu : TT} {d e : D}
theorem DE.imp {Q' : D → Mem → Prop} (h : DE K te δ M Q) (k : ∀ d M', Q d M' → Q' d M') : DE K te δ M Q' := fun F σ H e m QV q => h F σ H e m QV fun d M' v H' z => q d M' v H' (k d M' z)
theorem DT.imp {R R' : Bool → Mem → Prop} (h : DT K tt δ M R) (k : ∀ d M', R d M' → R' d M') : DT K tt δ M R' := fun F σ H e m QV q => h F σ H e m QV fun d M' H' z => q d M' H' (k d M' z)
theorem de_var {i : Nat} (h : δ[i]? = some (some d)) (q : Q d M) : DE K (tVar i) δ M Q := fun F σ H en m QV k => by
  obtain ⟨v, hv, r⟩ := en.2 i d h
  exact ⟨v, hv, k d M v H q (Go.refl m) r⟩
theorem de_c {v : V} (h : ∀ G, Rep K G v d) (q : Q d M) : DE K (tC v) δ M Q := fun F σ H en m QV k => k d M v H q (Go.refl m) (h _)
theorem de_int {i : Int} (q : Q (.int i) M) : DE K (tC (.int i)) δ M Q := de_c (fun _ => .int i) q
theorem de_bl {b : Bool} (q : Q (.bl b) M) : DE K (tC (.bl b)) δ M Q := de_c (fun _ => .bl b) q
theorem de_non (q : Q .non M) : DE K (tC .non) δ M Q := de_c (fun _ => .non) q
theorem de_str {x : Str} (q : Q (.str x) M) : DE K (tC (.str x)) δ M Q := de_c (fun _ => .str x) q
theorem de_raw {v : V} (q : Q (.raw v) M) : DE K (tC v) δ M Q := de_c (fun _ => .raw v) q
theorem de_op {r : R2} (h : DE K ta δ M fun d M1 => DE K tb δ M1 fun e M2 => DR K r d e M2 Q) : DE K (tOp r ta tb) δ M Q := fun F σ H en m QV k => by
  refine h F σ H en m _ fun d M1 v H1 hb g1 r1 => ?_
  refine hb F σ H1 (en.mono g1.ex) g1.ok _ fun e M2 u H2 hr g2 r2 => ?_
  exact hr F H2 v u g2.ok (r1.mono g2.ex) r2 _ fun x M3 z H3 q g3 r3 => k x M3 z H3 q ((g1.trans g2).trans g3) r3
theorem de_un {r : V → Hp → VK → Prop} (h : DE K ta δ M fun d M1 => DU K r d M1 Q) : DE K (tUn r ta) δ M Q := fun F σ H en m QV k => by
  refine h F σ H en m _ fun d M1 v H1 hb g1 r1 => ?_
  exact hb F H1 v g1.ok r1 _ fun x M3 z H3 q g3 r3 => k x M3 z H3 q (g1.trans g3) r3
theorem dr_I0 {f : Int → Int → Int} {i j : Int} (q : Q (.int (f i j)) M) : DR K (rI0 fun i j => .int (f i j)) (.int i) (.int j) M Q := fun F H v u m a b QV k => by
  cases a; cases b
  exact ⟨i, j, rfl, rfl, k _ M _ H q (Go.refl m) (.int _)⟩
theorem dr_B0 {f : Int → Int → Bool} {i j : Int} (q : Q (.bl (f i j)) M) : DR K (rI0 fun i j => .bl (f i j)) (.int i) (.int j) M Q := fun F H v u m a b QV k => by
  cases a; cases b
  exact ⟨i, j, rfl, rfl, k _ M _ H q (Go.refl m) (.bl _)⟩
theorem dr_I {C : Int → Int → Prop} {f : Int → Int → Int} {i j : Int} (hc : C i j) (q : Q (.int (f i j)) M) : DR K (rI C fun i j => .int (f i j)) (.int i) (.int j) M Q := fun F H v u m a b QV k => by
  cases a; cases b
  exact ⟨i, j, rfl, rfl, hc, k _ M _ H q (Go.refl m) (.int _)⟩
theorem du_I {f : Int → Int} {i : Int} (q : Q (.int (f i)) M) : DU K (rU fun i => .int (f i)) (.int i) M Q := fun F H v m a QV k => by
  cases a
  exact ⟨i, rfl, k _ M _ H q (Go.refl m) (.int _)⟩
theorem dr_or1 {r r' : R2} (h : DR K r d e M Q) : DR K (fun x y H Q => r x y H Q ∨ r' x y H Q) d e M Q := fun F H v u m a b QV k => .inl (h F H v u m a b QV k)
theorem dr_or2 {r r' : R2} (h : DR K r' d e M Q) : DR K (fun x y H Q => r x y H Q ∨ r' x y H Q) d e M Q := fun F H v u m a b QV k => .inr (h F H v u m a b QV k)
mutual
def toPy : D → Option PyData
  | .non => some .none | .bl b => some (.bool b) | .int i => some (.int i) | .str x => some (.str x)
  | .lst xs => (toPyL xs).map .list | .tup xs => (toPyL xs).map .tuple
  | _ => none
def toPyL : List D → Option (List PyData)
  | [] => some []
  | x :: r => match toPy x, toPyL r with | some a, some b => some (a :: b) | _, _ => none
end
mutual
theorem toPy_dp {G : Hp} : ∀ {v : V} {d : D} {p : PyData}, Rep K G v d → toPy d = some p → Dp K G v p
  | _, _, _, .non, h => by cases h; exact .non
  | _, _, _, .bl b, h => by cases h; exact .bl b
  | _, _, _, .int b, h => by cases h; exact .int b
  | _, _, _, .str b, h => by cases h; exact .str b
  | _, _, _, .lst (ds := ds) s r, h => by
    cases e : toPyL ds with
    | none => rw [toPy, e] at h; cases h
    | some l => rw [toPy, e] at h; cases h; exact .lst s (toPyL_dp r e)
  | _, _, _, .tup (ds := ds) s r, h => by
    cases e : toPyL ds with
    | none => rw [toPy, e] at h; cases h
    | some l => rw [toPy, e] at h; cases h; exact .tup s (toPyL_dp r e)
  | _, _, _, .dic _ _, h => by cases h
  | _, _, _, .obj _ _, h => by cases h
  | _, _, _, .raw _, h => by cases h
theorem toPyL_dp {G : Hp} : ∀ {v : List V} {d : List D} {p : List PyData}, RepL K G v d → toPyL d = some p → DpAll K G v p
  | _, _, _, .nil, h => by cases h; exact .nil
  | _, _, _, .cons (d := d) (ds := ds) a b, h => by
    cases e1 : toPy d with
    | none => rw [toPyL, e1] at h; cases h
    | some x =>
      cases e2 : toPyL ds with
      | none => rw [toPyL, e1, e2] at h; cases h
      | some l => rw [toPyL, e1, e2] at h; cases h; exact .cons (toPy_dp a e1) (toPyL_dp b e2)
end
theorem dr_eqD {x y : PyData} (hx : toPy d = some x) (hy : toPy e = some y) (sx : SeqAt.shaped x = true) (sy : SeqAt.shaped y = true) (q : Q (.bl (PyData.eqv x y)) M) : DR K (rEqD K) d e M Q := fun F H v u m a b QV k =>
  ⟨x, y, toPy_dp (a.mono vis_le) hx, toPy_dp (b.mono vis_le) hy, sx, sy, k _ M _ H q (Go.refl m) (.bl _)⟩
theorem dr_neD {x y : PyData} (hx : toPy d = some x) (hy : toPy e = some y) (sx : SeqAt.shaped x = true) (sy : SeqAt.shaped y = true) (q : Q (.bl (!PyData.eqv x y)) M) : DR K (rNeD K) d e M Q := fun F H v u m a b QV k =>
  ⟨x, y, toPy_dp (a.mono vis_le) hx, toPy_dp (b.mono vis_le) hy, sx, sy, k _ M _ H q (Go.refl m) (.bl _)⟩
end
section
variable {K : PySem.W.Frag} {δ : En} {M : Mem} {Q : D → Mem → Prop} {R : Bool → Mem → Prop} {ta tb tc te : TE} {tt tu : TT} {d e : D}
def isB (R : Bool → Mem → Prop) (d : D) (M : Mem) : Prop := ∃ b, d = .bl b ∧ R b M
theorem isB_mk {b : Bool} (h : R b M) : isB R (.bl b) M := ⟨b, rfl, h⟩
theorem dt_test' (h : DE K te δ M (isB R)) : DT K (tTest te) δ M R := fun F σ H en m QV k => by
  refine h F σ H en m _ fun d M1 v H1 hb g1 r1 => ?_
  obtain ⟨b, rfl, q⟩ := hb
  cases r1
  exact ⟨b, rfl, k b M1 H1 q g1⟩
theorem dt_B (h : DE K te δ M (isB R)) : DT K (tB te) δ M R := fun F σ H en m QV k => by
  refine h F σ H en m _ fun d M1 v H1 hb g1 r1 => ?_
  obtain ⟨b, rfl, q⟩ := hb
  cases r1
  exact ⟨b, rfl, k b M1 H1 q g1⟩
theorem dt_not (h : DT K tt δ M fun b M1 => R (!b) M1) : DT K (tNot tt) δ M R := fun F σ H en m QV k => h F σ H en m _ fun b M1 H1 q g => k (!b) M1 H1 q g
theorem dt_and (h : DT K tt δ M fun b M1 => if b = true then DT K tu δ M1 R else R false M1) : DT K (tAnd tt tu) δ M R := fun F σ H en m QV k => by
  refine h F σ H en m _ fun b M1 H1 q g => ?_
  cases b with
  | true =>
    show tu σ H1 QV
    rw [if_pos rfl] at q
    exact q F σ H1 (en.mono g.ex) g.ok _ fun b2 M2 H2 q2 g2 => k b2 M2 H2 q2 (g.trans g2)
  | false =>
    rw [if_neg Bool.false_ne_true] at q
    exact k false M1 H1 q g
theorem dt_or (h : DT K tt δ M fun b M1 => if b = true then R true M1 else DT K tu δ M1 R) : DT K (tOr tt tu) δ M R := fun F σ H en m QV k => by
  refine h F σ H en m _ fun b M1 H1 q g => ?_
  cases b with
  | false =>
    show tu σ H1 QV
    rw [if_neg Bool.false_ne_true] at q
    exact q F σ H1 (en.mono g.ex) g.ok _ fun b2 M2 H2 q2 g2 => k b2 M2 H2 q2 (g.trans g2)
  | true =>
    rw [if_pos rfl] at q
    exact k true M1 H1 q g
def tTru (K : PySem.W.Frag) (ta : TE) : TT := fun σ H Q => ta σ H fun x H' => ∃ k, TruV K x H' k ∧ Q k H'
theorem pt_tru {X : Cx} {a : Expr} (ha : PE X a ta) (he : ∀ whole, isTrue a X.env whole = (do let v ← whole; standAt a.pos; holding [v] (truthy v))) : PT X a (tTru X.K ta) := pt_truth ha he
def truD : D → Option Bool
  | .non => some false | .bl b => some b | .int i => some (i != 0) | .str x => some ((x.length : Int) != 0)
  | .lst xs => some (!xs.isEmpty) | .tup xs => some (!xs.isEmpty) | _ => none
theorem dt_tru (h : DE K te δ M fun d M1 => ∃ b, truD d = some b ∧ (∀ x, d = .str x → x.length ≤ sizeLine) ∧ R b M1) : DT K (tTru K te) δ M R := fun F σ H en m QV k => by
  refine h F σ H en m _ fun d M1 v H1 hb g1 r1 => ?_
  obtain ⟨b, hd, hz, q⟩ := hb
  refine ⟨b, ?_, k b M1 H1 q g1⟩
  cases r1 with
  | non => cases hd; rfl
  | bl _ => cases hd; rfl
  | int _ => cases hd; rfl
  | str x => cases hd; exact ⟨hz x rfl, rfl⟩
  | lst s r =>
    cases hd
    refine .inl ⟨_, vis_le.seq s, ?_⟩
    cases r <;> rfl
  | tup s r =>
    cases hd
    refine .inr (.inl ⟨_, sqt_mono vis_le s, ?_⟩)
    cases r <;> rfl
  | dic _ _ => cases hd
  | obj _ _ => cases hd
  | raw _ => cases hd
theorem de_chain {r r' : R2} (h : DE K ta δ M fun d M1 => DE K tb δ M1 fun e M2 => DR K r d e M2 (isB fun b M3 => if b = true then DE K tc δ M3 (fun z M4 => DR K r' e z M4 Q) else Q (.bl false) M3)) : DE K (tChain r r' ta tb tc) δ M Q := fun F σ H en m QV k => by
  refine h F σ H en m _ fun d M1 v H1 hb g1 r1 => ?_
  refine hb F σ H1 (en.mono g1.ex) g1.ok _ fun e M2 u H2 hr g2 r2 => ?_
  refine hr F H2 v u g2.ok (r1.mono g2.ex) r2 _ fun x M3 z H3 q g3 r3 => ?_
  obtain ⟨b, rfl, q⟩ := q
  cases r3
  refine ⟨b, rfl, ?_⟩
  have g := (g1.trans g2).trans g3
  cases b with
  | true =>
    rw [if_pos rfl] at q
    rw [if_pos rfl]
    refine q F σ H3 (en.mono g.ex) g3.ok _ fun x M4 w H4 q4 g4 r4 => ?_
    exact q4 F H4 u w g4.ok ((r2.mono g3.ex).mono g4.ex) r4 _ fun y M5 w5 H5 q5 g5 r5 => k y M5 w5 H5 q5 ((g.trans g4).trans g5) r5
  | false =>
    rw [if_neg Bool.false_ne_true] at q
    rw [if_neg Bool.false_ne_true]
    exact k _ M3 _ H3 q g (.bl false)
theorem de_if (h : DT K tt δ M fun b M1 => if b = true then DE K ta δ M1 Q else DE K tb δ M1 Q) : DE K (tIf tt ta tb) δ M Q := fun F σ H en m QV k => by
  refine h F σ H en m _ fun b M1 H1 q g => ?_
  cases b with
  | true =>
    show ta σ H1 QV
    rw [if_pos rfl] at q
    exact q F σ H1 (en.mono g.ex) g.ok _ fun d M2 v H2 q2 g2 r2 => k d M2 v H2 q2 (g.trans g2) r2
  | false =>
    show tb σ H1 QV
    rw [if_neg Bool.false_ne_true] at q
    exact q F σ H1 (en.mono g.ex) g.ok _ fun d M2 v H2 q2 g2 r2 => k d M2 v H2 q2 (g.trans g2) r2
theorem de_andV (h : DE K ta δ M (isB fun b M1 => if b = true then DE K tb δ M1 Q else Q (.bl false) M1)) : DE K (tAndV ta tb) δ M Q := fun F σ H en m QV k => by
  refine h F σ H en m _ fun d M1 v H1 hb g r1 => ?_
  obtain ⟨b, rfl, q⟩ := hb
  cases r1
  refine ⟨b, rfl, ?_⟩
  cases b with
  | true =>
    rw [if_pos rfl] at q
    rw [if_pos rfl]
    exact q F σ H1 (en.mono g.ex) g.ok _ fun d M2 v H2 q2 g2 r2 => k d M2 v H2 q2 (g.trans g2) r2
  | false =>
    rw [if_neg Bool.false_ne_true] at q
    rw [if_neg Bool.false_ne_true]
    exact k _ M1 _ H1 q g (.bl false)
theorem de_orV (h : DE K ta δ M (isB fun b M1 => if b = true then Q (.bl true) M1 else DE K tb δ M1 Q)) : DE K (tOrV ta tb) δ M Q := fun F σ H en m QV k => by
  refine h F σ H en m _ fun d M1 v H1 hb g r1 => ?_
  obtain ⟨b, rfl, q⟩ := hb
  cases r1
  refine ⟨b, rfl, ?_⟩
  cases b with
  | false =>
    rw [if_neg Bool.false_ne_true] at q
    rw [if_neg Bool.false_ne_true]
    exact q F σ H1 (en.mono g.ex) g.ok _ fun d M2 v H2 q2 g2 r2 => k d M2 v H2 q2 (g.trans g2) r2
  | true =>
    rw [if_pos rfl] at q
    rw [if_pos rfl]
    exact k _ M1 _ H1 q g (.bl true)
theorem de_notV (h : DE K ta δ M (isB fun b M1 => Q (.bl (!b)) M1)) : DE K (tNotV ta) δ M Q := fun F σ H en m QV k => by
  refine h F σ H en m _ fun d M1 v H1 hb g r1 => ?_
  obtain ⟨b, rfl, q⟩ := hb
  cases r1
  exact ⟨b, rfl, k _ M1 _ H1 q g (.bl _)⟩
variable {A : List D → Mem → Prop} {tr : TA}
theorem da_nil (q : A [] M) : DA K tNil δ M A := fun F σ H en m QV k => k [] M [] H q (Go.refl m) .nil
theorem da_cons (h : DE K te δ M fun d M1 => DA K tr δ M1 fun ds M2 => A (d :: ds) M2) : DA K (tCons te tr) δ M A := fun F σ H en m QV k => by
  refine h F σ H en m _ fun d M1 v H1 hb g1 r1 => ?_
  refine hb F σ H1 (en.mono g1.ex) g1.ok _ fun ds M2 vs H2 q g2 r2 => ?_
  exact k (d :: ds) M2 (v :: vs) H2 q (g1.trans g2) (.cons (r1.mono g2.ex) r2)
theorem de_tup (h : DA K tr δ M fun ds M1 => ds.length ≤ sizeLine ∧ Q (.tup ds) M1) : DE K (tTup tr) δ M Q := fun F σ H en m QV k => by
  refine h F σ H en m _ fun ds M1 vs H1 q g r => ⟨by rw [r.length]; exact q.1, fun p hp => ?_⟩
  obtain ⟨g2, e⟩ := go_new (o := .tup vs) g.ok hp
  exact k (.tup ds) M1 _ _ q.2 (g.trans g2) (.tup (.inl (.inl e)) (r.mono g2.ex))
theorem de_lst (h : DA K tr δ M fun ds M1 => ds.length ≤ sizeLine ∧ Q (.lst ds) M1) : DE K (tLst tr) δ M Q := fun F σ H en m QV k => by
  refine h F σ H en m _ fun ds M1 vs H1 q g r => ⟨by rw [r.length]; exact q.1, fun p hp => ?_⟩
  obtain ⟨g2, e⟩ := go_new (o := .lst vs) g.ok hp
  exact k (.lst ds) M1 _ _ q.2 (g.trans g2) (.lst (.inl (.inl e)) (r.mono g2.ex))
theorem de_lstM (h : DA K tr δ M fun ds M1 => ds.length ≤ sizeLine ∧ ∀ p, M1 p = none → Q (.raw (.ref p)) (mup M1 p (.lst ds))) : DE K (tLst tr) δ M Q := fun F σ H en m QV k => by
  refine h F σ H en m _ fun ds M1 vs H1 q g r => ⟨by rw [r.length]; exact q.1, fun p hp => ?_⟩
  have g2 := go_newM (o := .lst vs) (m := .lst ds) g.ok hp (.lst r)
  exact k _ _ _ _ (q.2 p (g.ok.new hp).2) (g.trans g2) (.raw _)
theorem de_lstD (h : DA K tr δ M fun ds M1 => (∃ i j k : Int, ds = [.int i, .int j, .int k]) ∧ ∀ p, M1 p = none → Q (.raw (.ref p)) (mup M1 p .die)) : DE K (tLst tr) δ M Q := fun F σ H en m QV k => by
  refine h F σ H en m _ fun ds M1 vs H1 q g r => ?_
  obtain ⟨⟨i, j, l, rfl⟩, q⟩ := q
  obtain rfl := RepL.of_ints (l := [i, j, l]) r
  refine ⟨by show 3 ≤ sizeLine; decide, fun p hp => ?_⟩
  have g2 := go_newM (o := .lst [.int i, .int j, .int l]) (m := .die) g.ok hp (.die i j l)
  exact k _ _ _ _ (q p (g.ok.new hp).2) (g.trans g2) (.raw _)
def spD (K : PySem.W.Frag) (f : List D → Mem → (D → Mem → Prop) → Prop) : Sp := fun vs H Q _ => ∃ (F : Fm) (M : Mem) (ds : List D) (R : D → Mem → Prop), RepL K (vis H M F) vs ds ∧ MOk K F M H ∧ f ds M R ∧
  ∀ d M' v H', R d M' → Go K F M H M' H' → Rep K (vis H' M' F) v d → Q v H'
theorem de_call {f : List D → Mem → (D → Mem → Prop) → Prop} {E : XK} (h : DA K tr δ M fun ds M1 => f ds M1 Q) : DE K (tCall (spD K f) [] E tr) δ M Q := fun F σ H en m QV k => by
  refine h F σ H en m _ fun ds M1 vs H1 q g r => ?_
  show spD K f (vs ++ []) H1 QV E
  rw [List.append_nil]
  exact ⟨F, M1, ds, Q, r, g.ok, q, fun d M2 v H2 q2 g2 r2 => k d M2 v H2 q2 (g.trans g2) r2⟩
theorem de_CB {r : List V → Hp → VK → Prop} (h : DA K tr δ M fun ds M1 => DC K r ds M1 Q) : DE K (tCB r tr) δ M Q := fun F σ H en m QV k => by
  refine h F σ H en m _ fun ds M1 vs H1 q g r => ?_
  exact q F H1 vs g.ok r _ fun d M2 v H2 q2 g2 r2 => k d M2 v H2 q2 (g.trans g2) r2
end
end DL
set_option Elab.async false
set_option linter.all false
set_option maxRecDepth 100000
set_option maxHeartbeats 4000000
namespace DL
open PySem PySem.Spec PyProof.Rows L2
structure DK where
  nx : En → Mem → Prop
  rt : D → Mem → Prop
  bk : En → Mem → Prop := fun _ _ => False
  ct : En → Mem → Prop := fun _ _ => False
def DS (K : PySem.W.Frag) (ts : TS) (δ : En) (M : Mem) (q : DK) : Prop :=
  ∀ (F : Fm) (σ : Sg) (H : Hp), EnvR K (vis H M F) σ δ → MOk K F M H → ∀ E : Ends,
    (∀ δ' M' σ' H', q.nx δ' M' → Go K F M H M' H' → EnvR K (vis H' M' F) σ' δ' → E.nx σ' H') →
    (∀ d M' v H', q.rt d M' → Go K F M H M' H' → Rep K (vis H' M' F) v d → E.rt v H') →
    (∀ δ' M' σ' H', q.bk δ' M' → Go K F M H M' H' → EnvR K (vis H' M' F) σ' δ' → E.bk σ' H') →
    (∀ δ' M' σ' H', q.ct δ' M' → Go K F M H M' H' → EnvR K (vis H' M' F) σ' δ' → E.ct σ' H') → ts E σ H
def DG (K : PySem.W.Frag) (js : List Nat) (g : TG) (d : D) (δ : En) (M : Mem) (Q : En → Mem → Prop) : Prop :=
  ∀ (F : Fm) (σ : Sg) (H : Hp) (v : V), EnvR K (vis H M F) σ δ → MOk K F M H → Rep K (vis H M F) v d → ∀ QG : Sg → Hp → Prop,
    (∀ δ' M' σ' H', Q δ' M' → Go K F M H M' H' → EnvR K (vis H' M' F) σ' δ' → (∀ vs : List Nat, (∀ j ∈ js, j ∈ vs) → wipe σ' vs = wipe σ vs) → QG σ' H') → g v σ H QG
def DGs (K : PySem.W.Frag) (js : List Nat) (g : TGs) (ds : List D) (δ : En) (M : Mem) (Q : En → Mem → Prop) : Prop :=
  ∀ (F : Fm) (σ : Sg) (H : Hp) (vs : List V), EnvR K (vis H M F) σ δ → MOk K F M H → RepL K (vis H M F) vs ds → ∀ QG : Sg → Hp → Prop,
    (∀ δ' M' σ' H', Q δ' M' → Go K F M H M' H' → EnvR K (vis H' M' F) σ' δ' → (∀ vs : List Nat, (∀ j ∈ js, j ∈ vs) → wipe σ' vs = wipe σ vs) → QG σ' H') → g vs σ H QG
structure Sq (K : PySem.W.Frag) (F : Fm) (M0 : Mem) (H0 : Hp) (J : It) (ds : List D) : Prop where
  go : ∀ i M H, i < ds.length → MOk K F M H → Same (vis H0 M0 F) (vis H M F) → J.go i H
  stop : ∀ i M H, i = ds.length → MOk K F M H → Same (vis H0 M0 F) (vis H M F) → J.stop i H
  yl : ∀ i M H x H' d, ds[i]? = some d → MOk K F M H → Same (vis H0 M0 F) (vis H M F) → J.yld i H x H' → Go K F M H M H' ∧ Rep K (vis H' M F) x d
def DI (K : PySem.W.Frag) (wi : TI) (δ : En) (M : Mem) (Q : List D → Mem → Prop) : Prop :=
  ∀ (F : Fm) (σ : Sg) (H : Hp), EnvR K (vis H M F) σ δ → MOk K F M H → ∀ R : It → Hp → Prop,
    (∀ ds M' J H', Q ds M' → Go K F M H M' H' → (∀ p o, H' p = none → Sq K (fadd F p) M' (upd H' p o) J ds) → Sq K F M' H' J ds → R J H') → wi σ H R
section
variable {K : PySem.W.Frag} {δ : En} {M : Mem} {Q : D → Mem → Prop} {R : Bool → Mem → Prop} {ta tb tc te : TE} {tt tu : TT} {d e : D} {t u : TS} {q : DK} {g : TG} {gs : TGs} {G : En → Mem → Prop} {js : List Nat}
theorem DS.imp {q' : DK} (h : DS K t δ M q) (h1 : ∀ δ M, q.nx δ M → q'.nx δ M) (h2 : ∀ d M, q.rt d M → q'.rt d M) (h3 : ∀ δ M, q.bk δ M → q'.bk δ M) (h4 : ∀ δ M, q.ct δ M → q'.ct δ M) : DS K t δ M q' :=
  fun F σ H en m E n r b c => h F σ H en m E (fun _ _ _ _ z => n _ _ _ _ (h1 _ _ z)) (fun _ _ _ _ z => r _ _ _ _ (h2 _ _ z)) (fun _ _ _ _ z => b _ _ _ _ (h3 _ _ z)) (fun _ _ _ _ z => c _ _ _ _ (h4 _ _ z))
theorem ds_next (h : q.nx δ M) : DS K tNext δ M q := fun F σ H en m E n r b c => n δ M σ H h (Go.refl m) en
theorem ds_seq (h : DS K t δ M { q with nx := fun δ1 M1 => DS K u δ1 M1 q }) : DS K (tSeq t u) δ M q := fun F σ H en m E n r b c =>
  h F σ H en m { E with nx := u E } (fun δ1 M1 σ1 H1 z g en1 => z F σ1 H1 en1 g.ok E (fun _ _ _ _ z2 g2 => n _ _ _ _ z2 (g.trans g2)) (fun _ _ _ _ z2 g2 => r _ _ _ _ z2 (g.trans g2)) (fun _ _ _ _ z2 g2 => b _ _ _ _ z2 (g.trans g2)) (fun _ _ _ _ z2 g2 => c _ _ _ _ z2 (g.trans g2))) r b c
theorem ds_drop (h : DE K te δ M fun _ M1 => q.nx δ M1) : DS K (tDrop te) δ M q := fun F σ H en m E n r b c =>
  h F σ H en m _ fun d M1 v H1 z g _ => n δ M1 σ H1 z g (en.mono g.ex)
theorem ds_ret (h : DE K te δ M q.rt) : DS K (tRet te) δ M q := fun F σ H en m E n r b c => h F σ H en m _ fun d M1 v H1 z g rp => r d M1 v H1 z g rp
theorem ds_retN (h : q.rt .non M) : DS K tRetN δ M q := fun F σ H en m E n r b c => r .non M .non H h (Go.refl m) .non
theorem ds_if (h : DT K tt δ M fun b M1 => if b = true then DS K t δ M1 q else DS K u δ M1 q) : DS K (tIfS tt t u) δ M q := fun F σ H en m E n r b c => by
  refine h F σ H en m _ fun k M1 H1 z g => ?_
  cases k with
  | true =>
    rw [if_pos rfl] at z
    rw [if_pos rfl]
    exact z F σ H1 (en.mono g.ex) g.ok E (fun _ _ _ _ z2 g2 => n _ _ _ _ z2 (g.trans g2)) (fun _ _ _ _ z2 g2 => r _ _ _ _ z2 (g.trans g2)) (fun _ _ _ _ z2 g2 => b _ _ _ _ z2 (g.trans g2)) (fun _ _ _ _ z2 g2 => c _ _ _ _ z2 (g.trans g2))
  | false =>
    rw [if_neg Bool.false_ne_true] at z
    rw [if_neg Bool.false_ne_true]
    exact z F σ H1 (en.mono g.ex) g.ok E (fun _ _ _ _ z2 g2 => n _ _ _ _ z2 (g.trans g2)) (fun _ _ _ _ z2 g2 => r _ _ _ _ z2 (g.trans g2)) (fun _ _ _ _ z2 g2 => b _ _ _ _ z2 (g.trans g2)) (fun _ _ _ _ z2 g2 => c _ _ _ _ z2 (g.trans g2))
theorem ds_asgx (h : DE K te δ M fun d M1 => ∃ js, DG K js g d δ M1 q.nx) : DS K (tAsg te g) δ M q := fun F σ H en m E n r b c => by
  refine h F σ H en m _ fun d M1 v H1 z g1 r1 => ?_
  obtain ⟨js, z⟩ := z
  exact z F σ H1 v (en.mono g1.ex) g1.ok r1 _ fun δ' M' σ' H' z2 g2 en2 _ => n δ' M' σ' H' z2 (g1.trans g2) en2
theorem ds_set {i : Nat} (h : DE K te δ M fun d M1 => q.nx (δ.set i (some d)) M1) : DS K (tAsg te (gName i)) δ M q := fun F σ H en m E n r b c => by
  refine h F σ H en m _ fun d M1 v H1 z g1 r1 => ?_
  exact n _ M1 _ H1 z g1 ((en.mono g1.ex).set r1 i)
theorem dg_name {i : Nat} (h : G (δ.set i (some d)) M) : DG K [i] (gName i) d δ M G := fun F σ H v en m r QG k =>
  k _ M _ H h (Go.refl m) (en.set r i) fun vs hv => wipe_set σ i _ vs (hv i (by simp))
theorem dgs_nil (h : G δ M) : DGs K [] gNil [] δ M G := fun F σ H vs en m r QG k => by
  cases r
  exact ⟨rfl, k δ M σ H h (Go.refl m) en fun _ _ => rfl⟩
theorem dgs_cons {js1 js2 : List Nat} {d : D} {ds : List D} (h : DG K js1 g d δ M fun δ1 M1 => DGs K js2 gs ds δ1 M1 G) : DGs K (js1 ++ js2) (gCons g gs) (d :: ds) δ M G := fun F σ H vs en m r QG k => by
  cases r with
  | cons a b =>
    refine ⟨_, _, rfl, h F σ H _ en m a _ fun δ1 M1 σ1 H1 z g1 en1 w1 => ?_⟩
    refine z F σ1 H1 _ en1 g1.ok (b.mono g1.ex) _ fun δ2 M2 σ2 H2 z2 g2 en2 w2 => ?_
    exact k δ2 M2 σ2 H2 z2 (g1.trans g2) en2 fun vs hv => (w2 vs fun j hj => hv j (List.mem_append_right _ hj)).trans (w1 vs fun j hj => hv j (List.mem_append_left _ hj))
theorem dg_tup {n : Nat} {ds : List D} (hl : ds.length = n) (h : DGs K js gs ds δ M G) : DG K js (gTup K n gs) (.tup ds) δ M G := fun F σ H v en m r QG k => by
  cases r with
  | tup s r => exact ⟨_, _, rfl, sqt_mono vis_le s, by rw [r.length, hl], h F σ H _ en m r QG k⟩
theorem ds_par {i j : Nat} {tr : TA} (h : DA K tr δ M fun ds M1 => ∃ x y, ds = [x, y] ∧ q.nx ((δ.set i (some x)).set j (some y)) M1) : DS K (tPar i j tr) δ M q := fun F σ H en m E n r b c => by
  refine h F σ H en m _ fun ds M1 vs H1 z g1 r1 => ?_
  obtain ⟨x, y, rfl, z⟩ := z
  cases r1 with
  | cons a b =>
    cases b with
    | cons b c =>
      cases c
      exact ⟨_, _, rfl, n _ M1 _ H1 z g1 (((en.mono g1.ex).set a i).set b j)⟩
theorem ds_frz {i : Nat} {p : Addr} {ds : List D} (hi : δ[i]? = some (some (.raw (.ref p)))) (hp : M p = some (.lst ds)) (h : DS K t (δ.set i (some (.lst ds))) (mdel M p) q) : DS K t δ M q := fun F σ H en m E n r b c => by
  obtain ⟨g1, f⟩ := go_frz m hp
  obtain ⟨v, hv, rv⟩ := en.2 i _ hi
  have rl : Rep K (vis H (mdel M p) F) (.ref p) (.lst ds) := by
    obtain ⟨ho, e, ro⟩ := m.mo p _ hp
    cases ro with
    | lst ro => exact .lst (.inl (.inl (vis_mk e f mdel_same))) (ro.mono g1.ex)
  have en2 : EnvR K (vis H (mdel M p) F) σ (δ.set i (some (.lst ds))) := by
    refine ⟨by rw [List.length_set]; exact en.1, fun j d hd => ?_⟩
    by_cases hj : i = j
    · subst hj
      have hl : i < δ.length := (List.getElem?_eq_some_iff.mp hi).1
      rw [List.getElem?_set_self hl] at hd
      cases hd
      refine ⟨v, hv, ?_⟩
      cases rv
      exact rl
    · rw [List.getElem?_set_ne hj] at hd
      obtain ⟨w, hw, rw'⟩ := en.2 j d hd
      exact ⟨w, hw, rw'.mono g1.ex⟩
  exact h F σ H en2 g1.ok E (fun _ _ _ _ z2 g2 => n _ _ _ _ z2 (g1.trans g2)) (fun _ _ _ _ z2 g2 => r _ _ _ _ z2 (g1.trans g2)) (fun _ _ _ _ z2 g2 => b _ _ _ _ z2 (g1.trans g2)) (fun _ _ _ _ z2 g2 => c _ _ _ _ z2 (g1.trans g2))
variable {I : List D → Mem → Prop}
theorem sq_sub {F : Fm} {M0 : Mem} {H0 : Hp} {J : It} {ds : List D} (h : ∀ M H, MOk K F M H → Same (vis H0 M0 F) (vis H M F) → ∀ i, (i < ds.length → J.go i H) ∧ (i = ds.length → J.stop i H) ∧ ∀ x H' d, ds[i]? = some d → J.yld i H x H' → Go K F M H M H' ∧ Rep K (vis H' M F) x d) : Sq K F M0 H0 J ds :=
  ⟨fun i M H l m e => (h M H m e i).1 l, fun i M H l m e => (h M H m e i).2.1 l, fun i M H x H' d hd m e y => (h M H m e i).2.2 x H' d hd y⟩
theorem vis_new {F : Fm} {H : Hp} {p : Addr} {o : HO} (hn : H p = none) : Same (vis H M F) (vis (upd H p o) M (fadd F p)) := fun b u h => by
  obtain ⟨h1, h2, h3⟩ := vis_of h
  have hne := ne_of_none h1 hn
  exact vis_mk (by rw [upd_ne hne]; exact h1) (fadd_mkno h2 hne) h3
theorem sq_list {F : Fm} {H : Hp} {a : Addr} {xs : List V} {ds : List D} (s : SqL K (vis H M F) a xs) (r : RepL K (vis H M F) xs ds) : Sq K F M H (Itl K a) ds := by
  refine sq_sub fun M' H' m e i => ⟨fun hl => ?_, fun hl => ?_, fun x H2 d hd y => ?_⟩
  · have hx : i < xs.length := by rw [r.length]; exact hl
    exact ⟨xs, xs[i], vis_le.seq (e.seq s), by simp [hx]⟩
  · exact ⟨xs, vis_le.seq (e.seq s), by rw [r.length]; omega⟩
  · obtain ⟨rfl, f⟩ := y
    have h1 := f xs (vis_le.seq (e.seq s))
    obtain ⟨x2, h2, r2⟩ := r.get hd
    rw [h1] at h2; cases h2
    exact ⟨Go.refl m, r2.mono e⟩
theorem sq_tup {F : Fm} {H : Hp} {a : Addr} {xs : List V} {ds : List D} (s : SqT K (vis H M F) a xs) (r : RepL K (vis H M F) xs ds) : Sq K F M H (Itt K a) ds := by
  refine sq_sub fun M' H' m e i => ⟨fun hl => ?_, fun hl => ?_, fun x H2 d hd y => ?_⟩
  · have hx : i < xs.length := by rw [r.length]; exact hl
    exact ⟨xs, xs[i], sqt_mono vis_le (sqt_mono e s), by simp [hx]⟩
  · exact ⟨xs, sqt_mono vis_le (sqt_mono e s), by rw [r.length]; omega⟩
  · obtain ⟨rfl, f⟩ := y
    have h1 := f xs (sqt_mono vis_le (sqt_mono e s))
    obtain ⟨x2, h2, r2⟩ := r.get hd
    rw [h1] at h2; cases h2
    exact ⟨Go.refl m, r2.mono e⟩
theorem di_list (h : DE K te δ M fun d M1 => ∃ ds, d = .lst ds ∧ I ds M1) : DI K (iList K te) δ M I := fun F σ H en m R k => by
  refine h F σ H en m _ fun d M1 v H1 z g1 r1 => ?_
  obtain ⟨ds, rfl, z⟩ := z
  cases r1 with
  | lst s r =>
    refine ⟨_, rfl, ⟨_, vis_le.seq s⟩, k ds M1 _ H1 z g1 (fun p o hp => ?_) (sq_list s r)⟩
    exact sq_list ((vis_new hp).seq s) (r.mono (vis_new hp))
theorem di_tup (h : DE K te δ M fun d M1 => ∃ ds, d = .tup ds ∧ I ds M1) : DI K (iTup K te) δ M I := fun F σ H en m R k => by
  refine h F σ H en m _ fun d M1 v H1 z g1 r1 => ?_
  obtain ⟨ds, rfl, z⟩ := z
  cases r1 with
  | tup s r =>
    refine ⟨_, rfl, ⟨_, sqt_mono vis_le s⟩, k ds M1 _ H1 z g1 (fun p o hp => ?_) (sq_tup s r)⟩
    exact sq_tup (sqt_mono (vis_new hp) s) (r.mono (vis_new hp))
def rngD (lo : Int) (n : Nat) : List D := (List.range n).map fun (i : Nat) => D.int (lo + (i : Int))
theorem rngD_get {lo : Int} {n i : Nat} {d : D} (h : (rngD lo n)[i]? = some d) : i < n ∧ d = .int (lo + i) := by
  unfold rngD at h
  rw [List.getElem?_map] at h
  cases e : (List.range n)[i]? with
  | none => rw [e] at h; cases h
  | some j =>
    rw [e] at h; cases h
    obtain ⟨h1, h2⟩ := List.getElem?_eq_some_iff.mp e
    rw [List.getElem_range] at h2
    subst h2
    exact ⟨by simpa using h1, rfl⟩
theorem rngD_len (lo : Int) (n : Nat) : (rngD lo n).length = n := by unfold rngD; simp
theorem sq_rng {F : Fm} {H : Hp} {lo : Int} {n : Nat} : Sq K F M H (Itr lo n) (rngD lo n) := by
  refine sq_sub fun M' H' m e i => ⟨fun hl => ?_, fun hl => ?_, fun x H2 d hd y => ?_⟩
  · rw [rngD_len] at hl; exact hl
  · rw [rngD_len] at hl; show n ≤ i; omega
  · obtain ⟨rfl, rfl⟩ := y
    obtain ⟨_, rfl⟩ := rngD_get hd
    exact ⟨Go.refl m, .int _⟩
theorem di_rng1 {tr : TA} (h : DA K tr δ M fun ds M1 => ∃ j : Int, ds = [.int j] ∧ -(2 ^ 62) ≤ j ∧ j < 2 ^ 62 ∧ I (rngD 0 j.toNat) M1) : DI K (iRng1 tr) δ M I := fun F σ H en m R k => by
  refine h F σ H en m _ fun ds M1 vs H1 z g1 r1 => ?_
  obtain ⟨j, rfl, h1, h2, z⟩ := z
  obtain rfl := RepL.of_ints (l := [j]) r1
  exact ⟨j, rfl, h1, h2, k _ M1 _ H1 z g1 (fun _ _ _ => sq_rng) sq_rng⟩
theorem di_rng2 {tr : TA} (h : DA K tr δ M fun ds M1 => ∃ i j : Int, ds = [.int i, .int j] ∧ (-(2 ^ 62) ≤ i ∧ i < 2 ^ 62 ∧ -(2 ^ 62) ≤ j ∧ j < 2 ^ 62) ∧ I (rngD i (j - i).toNat) M1) : DI K (iRng2 tr) δ M I := fun F σ H en m R k => by
  refine h F σ H en m _ fun ds M1 vs H1 z g1 r1 => ?_
  obtain ⟨i, j, rfl, h1, z⟩ := z
  obtain rfl := RepL.of_ints (l := [i, j]) r1
  exact ⟨i, j, rfl, h1, k _ M1 _ H1 z g1 (fun _ _ _ => sq_rng) sq_rng⟩
def sigs (x : Str) : List D := x.cps.toList.map fun c => D.str ⟨#[c]⟩
theorem sigs_len (x : Str) : (sigs x).length = x.cps.size := by unfold sigs; simp
theorem sq_str {F : Fm} {H : Hp} {x : Str} : Sq K F M H (Its x) (sigs x) := by
  refine sq_sub fun M' H' m e i => ⟨fun hl => ?_, fun hl => ?_, fun v H2 d hd y => ?_⟩
  · rw [sigs_len] at hl; exact hl
  · rw [sigs_len] at hl; show x.cps.size ≤ i; omega
  · obtain ⟨rfl, c, hc, rfl⟩ := y
    unfold sigs at hd
    rw [List.getElem?_map, Array.getElem?_toList, hc] at hd
    cases hd
    exact ⟨Go.refl m, .str _⟩
theorem di_str (h : DE K te δ M fun d M1 => ∃ x, d = .str x ∧ I (sigs x) M1) : DI K (iStr te) δ M I := fun F σ H en m R k => by
  refine h F σ H en m _ fun d M1 v H1 z g1 r1 => ?_
  obtain ⟨x, rfl, z⟩ := z
  cases r1
  exact ⟨x, rfl, k _ M1 _ H1 z g1 (fun _ _ _ => sq_str) sq_str⟩
theorem ds_for {wi : TI} (h : DI K wi δ M fun ds M1 => ∃ Pv : Nat → En → Mem → Prop, Pv 0 δ M1 ∧
      (∀ i d δ' M', ds[i]? = some d → Pv i δ' M' → DG K js g d δ' M' fun δ2 M2 => DS K t δ2 M2 { q with nx := Pv (i + 1), ct := Pv (i + 1), bk := q.nx }) ∧ ∀ δ' M', Pv ds.length δ' M' → q.nx δ' M') :
    DS K (tFor wi g t) δ M q := fun F σ H en m E n r b c => by
  refine h F σ H en m _ fun ds M1 J H1 z g1 _ S => ?_
  obtain ⟨Pv, p0, pt, pe⟩ := z
  refine ⟨fun i k σ' H' => i ≤ ds.length ∧ k = ds.length - i ∧ ∃ δ' M', Pv i δ' M' ∧ Go K F M1 H1 M' H' ∧ EnvR K (vis H' M' F) σ' δ', ⟨ds.length, Nat.zero_le _, rfl, δ, M1, p0, Go.refl g1.ok, en.mono g1.ex⟩, ?_⟩
  rintro i k σ' H' ⟨hi, rfl, δ', M', pv, g2, en2⟩
  by_cases hl : i < ds.length
  · refine .inr ⟨S.go i M' H' hl g2.ok g2.ex, fun σ3 H3 => ∃ δ3 M3, Pv (i + 1) δ3 M3 ∧ Go K F M1 H1 M3 H3 ∧ EnvR K (vis H3 M3 F) σ3 δ3, fun σ3 H3 w => ⟨ds.length - (i + 1), by omega, by omega, rfl, w⟩, fun x H3 y => ?_⟩
    have hd : ds[i]? = some ds[i] := List.getElem?_eq_getElem hl
    obtain ⟨g3, rx⟩ := S.yl i M' H' x H3 _ hd g2.ok g2.ex y
    have gg := g2.trans g3
    refine pt i _ δ' M' hd pv F σ' H3 x (en2.mono g3.ex) g3.ok rx _ fun δ4 M4 σ4 H4 z4 g4 en4 _ => ?_
    have gh := gg.trans g4
    refine z4 F σ4 H4 en4 g4.ok _ ?_ ?_ ?_ ?_
    · exact fun δ5 M5 σ5 H5 z5 g5 en5 => ⟨δ5, M5, z5, gh.trans g5, en5⟩
    · exact fun d5 M5 v5 H5 z5 g5 r5 => r d5 M5 v5 H5 z5 (g1.trans (gh.trans g5)) r5
    · exact fun δ5 M5 σ5 H5 z5 g5 en5 => n δ5 M5 σ5 H5 z5 (g1.trans (gh.trans g5)) en5
    · exact fun δ5 M5 σ5 H5 z5 g5 en5 => ⟨δ5, M5, z5, gh.trans g5, en5⟩
  · have hi' : i = ds.length := by omega
    subst hi'
    exact .inl ⟨S.stop _ M' H' rfl g2.ok g2.ex, n δ' M' σ' H' (pe δ' M' pv) (g1.trans g2) en2⟩
theorem ds_while (Pv : Nat → En → Mem → Prop) (k : Nat) (h0 : Pv k δ M)
    (hs : ∀ k δ' M', Pv k δ' M' → DT K tt δ' M' fun b M1 => if b = true then DS K t δ' M1 { q with nx := fun δ2 M2 => ∃ k', k' < k ∧ Pv k' δ2 M2, ct := fun δ2 M2 => ∃ k', k' < k ∧ Pv k' δ2 M2, bk := q.nx } else q.nx δ' M1) : DS K (tWhile tt t) δ M q := fun F σ H en m E n r b c => by
  refine ⟨fun k' σ' H' => ∃ δ' M', Pv k' δ' M' ∧ Go K F M H M' H' ∧ EnvR K (vis H' M' F) σ' δ', ⟨k, δ, M, h0, Go.refl m, en⟩, ?_⟩
  rintro k' σ' H' ⟨δ', M', pv, g1, en1⟩
  refine hs k' δ' M' pv F σ' H' en1 g1.ok _ fun z M2 H2 z2 g2 => ?_
  cases z with
  | true =>
    rw [if_pos rfl] at z2
    rw [if_pos rfl]
    refine ⟨fun σ3 H3 => ∃ k3, k3 < k' ∧ ∃ δ3 M3, Pv k3 δ3 M3 ∧ Go K F M H M3 H3 ∧ EnvR K (vis H3 M3 F) σ3 δ3, fun σ3 H3 w => w, ?_⟩
    refine z2 F σ' H2 (en1.mono g2.ex) g2.ok _ ?_ ?_ ?_ ?_
    · exact fun δ5 M5 σ5 H5 ⟨k5, l5, z5⟩ g5 en5 => ⟨k5, l5, δ5, M5, z5, (g1.trans g2).trans g5, en5⟩
    · exact fun d5 M5 v5 H5 z5 g5 r5 => r d5 M5 v5 H5 z5 ((g1.trans g2).trans g5) r5
    · exact fun δ5 M5 σ5 H5 z5 g5 en5 => n δ5 M5 σ5 H5 z5 ((g1.trans g2).trans g5) en5
    · exact fun δ5 M5 σ5 H5 ⟨k5, l5, z5⟩ g5 en5 => ⟨k5, l5, δ5, M5, z5, (g1.trans g2).trans g5, en5⟩
  | false =>
    rw [if_neg Bool.false_ne_true] at z2
    rw [if_neg Bool.false_ne_true]
    exact n δ' M2 σ' H2 z2 (g1.trans g2) (en1.mono g2.ex)
theorem dt_yes (h : R true M) : DT K tYes δ M R := fun F σ H en m QV k => k true M H h (Go.refl m)
theorem de_lc {wi : TI} {vs : List Nat} (hj : ∀ j ∈ js, j ∈ vs) (h : DI K wi δ M fun ds M1 => ∃ Ac : Nat → List D → Prop, Ac 0 [] ∧
      (∀ i d acc, ds[i]? = some d → Ac i acc → DG K js g d (wipeD δ vs) M1 fun δ2 M2 => M2 = M1 ∧ DT K tt δ2 M1 fun b M3 => M3 = M1 ∧ if b = true then DE K te δ2 M1 (fun e M4 => M4 = M1 ∧ acc.length < sizeLine ∧ Ac (i + 1) (acc ++ [e])) else Ac (i + 1) acc) ∧
      ∀ acc, Ac ds.length acc → Q (.lst acc) M1) : DE K (tLc wi g tt te vs) δ M Q := fun F σ H en m QV k => by
  refine h F σ H en m _ fun ds M1 J H1 z g1 Sn S0 => ?_
  obtain ⟨Ac, a0, at', ae⟩ := z
  intro Dl hD
  have S := Sn Dl (.lst []) hD
  obtain ⟨fD, mD⟩ := g1.ok.new hD
  have vn : Same (vis H1 M1 F) (vis (upd H1 Dl (.lst [])) M1 (fadd F Dl)) := vis_new hD
  have ok0 : MOk K (fadd F Dl) M1 (upd H1 Dl (.lst [])) := by
    obtain ⟨g, _⟩ := go_new (o := .lst []) g1.ok hD
    refine ⟨fun b hb => ?_, fun a mo hm => ?_, tb_add g1.ok.tb⟩
    · rcases fadd_of hb with hb | rfl
      · exact g.ok.fr b hb
      · exact ⟨by rw [upd_same]; simp, mD⟩
    · obtain ⟨ho, e, ro⟩ := g1.ok.mo a mo hm
      exact ⟨ho, by rw [upd_ne (ne_of_none e hD)]; exact e, ro.mono vn⟩
  refine ⟨fun i n H' => i ≤ ds.length ∧ n = ds.length - i ∧ ∃ acc xs, Ac i acc ∧ MOk K (fadd F Dl) M1 H' ∧ Same (vis (upd H1 Dl (.lst [])) M1 (fadd F Dl)) (vis H' M1 (fadd F Dl)) ∧ (∀ b, F b = true → H' b = H1 b) ∧ H' Dl = some (.lst xs) ∧ RepL K (vis H' M1 (fadd F Dl)) xs acc,
    ⟨ds.length, Nat.zero_le _, rfl, [], [], a0, ok0, Same.refl _, fun b hb => upd_ne (fun e => by subst e; rw [fD] at hb; cases hb), upd_same, .nil⟩, ?_⟩
  rintro i n H' ⟨hi, rfl, acc, xs, ac, ok, ex, fr, hDl, rl⟩
  by_cases hl : i < ds.length
  · refine .inr ⟨S.go i M1 H' hl ok ex, fun H3 => ∃ acc xs, Ac (i + 1) acc ∧ MOk K (fadd F Dl) M1 H3 ∧ Same (vis (upd H1 Dl (.lst [])) M1 (fadd F Dl)) (vis H3 M1 (fadd F Dl)) ∧ (∀ b, F b = true → H3 b = H1 b) ∧ H3 Dl = some (.lst xs) ∧ RepL K (vis H3 M1 (fadd F Dl)) xs acc, fun H3 w => ⟨ds.length - (i + 1), by omega, by omega, rfl, w⟩, fun x H3 y => ?_⟩
    have hd : ds[i]? = some ds[i] := List.getElem?_eq_getElem hl
    obtain ⟨g3, rx⟩ := S.yl i M1 H' x H3 _ hd ok ex y
    have en3 : EnvR K (vis H3 M1 (fadd F Dl)) (wipe σ vs) (wipeD δ vs) := ((((en.mono g1.ex).mono vn).mono ex).mono g3.ex).wipe vs
    have back : ∀ H5, Go K (fadd F Dl) M1 H3 M1 H5 → Same (vis (upd H1 Dl (.lst [])) M1 (fadd F Dl)) (vis H5 M1 (fadd F Dl)) ∧ (∀ b, F b = true → H5 b = H1 b) ∧ H5 Dl = some (.lst xs) ∧ RepL K (vis H5 M1 (fadd F Dl)) xs acc := fun H5 g5 =>
      ⟨(ex.trans g3.ex).trans g5.ex, fun b hb => ((g5.fr b (fadd_mk hb)).trans (g3.fr b (fadd_mk hb))).trans (fr b hb), ((g5.fr Dl fadd_self).trans (g3.fr Dl fadd_self)).trans hDl, (rl.mono g3.ex).mono g5.ex⟩
    refine at' i _ acc hd ac (fadd F Dl) (wipe σ vs) H3 x en3 g3.ok rx _ fun δ4 M4 σ4 H4 z4 g4 en4 w4 => ⟨?_, ?_⟩
    · rw [w4 vs hj, wipe_wipe σ vs vs fun _ h => h]
    · obtain ⟨rfl, z4⟩ := z4
      refine z4 (fadd F Dl) σ4 H4 en4 g4.ok _ fun bb M5 H5 z5 g5 => ?_
      obtain ⟨rfl, z5⟩ := z5
      have g45 := g4.trans g5
      cases bb with
      | false =>
        rw [if_neg Bool.false_ne_true] at z5
        rw [if_neg Bool.false_ne_true]
        obtain ⟨b1, b2, b3, b4⟩ := back H5 g45
        exact ⟨acc, xs, z5, g45.ok, b1, b2, b3, b4⟩
      | true =>
        rw [if_pos rfl] at z5
        rw [if_pos rfl]
        refine z5 (fadd F Dl) σ4 H5 (en4.mono g5.ex) g5.ok _ fun e M6 v H6 z6 g6 r6 => ?_
        obtain ⟨rfl, hz, z6⟩ := z6
        have g456 := g45.trans g6
        obtain ⟨b1, b2, b3, b4⟩ := back H6 g456
        have hv : ∀ o, Same (vis H6 M6 (fadd F Dl)) (vis (upd H6 Dl o) M6 (fadd F Dl)) := fun o b u hb => by
          obtain ⟨h1, h2, h3⟩ := vis_of hb
          have hne := (fadd_no h2).2
          exact vis_mk (by rw [upd_ne hne]; exact h1) h2 h3
        refine ⟨xs, b3, by rw [b4.length]; exact hz, acc ++ [e], xs ++ [v], z6, ⟨fun b hb => ?_, fun a mo hm => ?_, tb_put g456.ok.tb⟩, b1.trans (hv _), fun b hb => ?_, upd_same, (b4.mono (hv _)).append (.cons (r6.mono (hv _)) .nil)⟩
        · rcases fadd_of hb with hb' | rfl
          · have hne : b ≠ Dl := fun e => by subst e; rw [fD] at hb'; cases hb'
            rw [upd_ne hne]; exact g456.ok.fr b hb
          · exact ⟨by rw [upd_same]; simp, mD⟩
        · obtain ⟨ho, e1, ro⟩ := g456.ok.mo a mo hm
          have hne : a ≠ Dl := fun z => by subst z; rw [mD] at hm; cases hm
          exact ⟨ho, by rw [upd_ne hne]; exact e1, ro.mono (hv _)⟩
        · have hne : b ≠ Dl := fun e => by subst e; rw [fD] at hb; cases hb
          rw [upd_ne hne]; exact b2 b hb
  · have hi' : i = ds.length := by omega
    subst hi'
    refine .inl ⟨S.stop _ M1 H' rfl ok ex, ?_⟩
    have sv : Same (vis H' M1 (fadd F Dl)) (vis H' M1 F) := fun b u hb => by
      obtain ⟨h1, h2, h3⟩ := vis_of hb
      exact vis_mk h1 (fadd_no h2).1 h3
    have g2 : Go K F M1 H1 M1 H' := by
      refine ⟨⟨fun b hb => ok.fr b (fadd_mk hb), fun a mo hm => ?_, tb_back ok.tb hDl⟩, (vn.trans ex).trans sv, fr⟩
      obtain ⟨ho, e1, ro⟩ := ok.mo a mo hm
      exact ⟨ho, e1, ro.mono sv⟩
    exact k (.lst acc) M1 _ H' (ae acc ac) (g1.trans g2) (.lst (.inl (.inl (vis_mk hDl fD mD))) (rl.mono sv))
end
end DL
set_option Elab.async false
set_option linter.all false
set_option maxRecDepth 100000
set_option maxHeartbeats 4000000
namespace DL
open PySem PySem.Spec PyProof.Rows L2
section
variable {X : Cx}
def rCatS (K : PySem.W.Frag) : R2 := fun x y H Q => ∃ l b xs zs, x = .ref l ∧ y = .ref b ∧ SqL K H l xs ∧ SqL K H b zs ∧ xs.length + zs.length ≤ sizeLine ∧ ∀ p, H p = none → Q (.ref p) (upd H p (.lst (xs ++ zs)))
theorem op_catS : OpR X (binaryOp .Add) (rCatS X.K) := by
  intro pins s σ H x y v u Q I rx ry h
  obtain ⟨l, b, xs, zs, rfl, rfl, hH, hB, hz, q⟩ := h
  cases rx
  cases ry
  obtain ⟨its, r, pl, _⟩ := I.list hH
  obtain ⟨its2, r2, pl2, _⟩ := I.list hB
  have hl := r.length
  have hl2 := r2.length
  obtain ⟨⟨cls, dd, data, sl⟩, ho, hc, n, hd⟩ := pl.isList
  obtain ⟨⟨cls2, dd2, data2, sl2⟩, ho2, hc2, n2, hd2⟩ := pl2.isList
  simp only at hc hd hc2 hd2
  subst hc hd hc2 hd2
  have e : its.toArray ++ its2.toArray = (its ++ its2).toArray := by simp
  refine concat_meets ⟨_, ho, rfl⟩ ⟨_, ho2, rfl⟩ noFill_list_add seq_list_add PySem.F.slot_list_add PySem.F.entry_list_add (PySem.F.args_list_add_2 _ _) (list_addW l b its.toArray its2.toArray n n2 dd dd2 sl sl2 (by simp only [List.size_toArray]; omega)) ⟨ho, ho2, ?_⟩
  rw [e]
  exact ⟨.ref _, _, I.lnew (t' := s.toks) (r.append r2) (by rw [List.length_append]; omega), rfl, q _ I.fresh⟩
def rAddA (K : PySem.W.Frag) : R2 := fun x y H Q => rI0 (fun i j => .int (i + j)) x y H Q ∨ ((∃ i j, x = .str i ∧ y = .str j ∧ i.length + j.length ≤ sizeLine ∧ Q (.str (i ++ j)) H) ∨ (rCatS K x y H Q ∨ rCatT K x y H Q))
theorem op_addA : OpR X (binaryOp .Add) (rAddA X.K) := op_add.or (op_add_str.or (op_catS.or op_catT))
theorem op_powN : OpR X (binaryOp .Pow) (rI (fun i j => 0 ≤ j ∧ (Builtin.Int.intBits i : Int) * j ≤ 2 ^ 27) fun i j => .int (i ^ j.toNat)) := opI fun _ _ _ _ _ _ _ hc q => pow_int hc.1 hc.2 q
end
section
variable {K : PySem.W.Frag} {δ : En} {M : Mem} {Q : D → Mem → Prop} {R : Bool → Mem → Prop} {te : TE} {d e : D} {A : List D → Mem → Prop} {tr : TA}
theorem dr_addI {i j : Int} (q : Q (.int (i + j)) M) : DR K (rAddA K) (.int i) (.int j) M Q := dr_or1 (dr_I0 q)
theorem dr_addS {i j : Str} (hz : i.length + j.length ≤ sizeLine) (q : Q (.str (i ++ j)) M) : DR K (rAddA K) (.str i) (.str j) M Q := dr_or2 (dr_or1 fun F H v u m a b QV k => by
  cases a; cases b
  exact ⟨i, j, rfl, rfl, hz, k _ M _ H q (Go.refl m) (.str _)⟩)
theorem dr_addL {xs ys : List D} (hz : xs.length + ys.length ≤ sizeLine) (q : Q (.lst (xs ++ ys)) M) : DR K (rAddA K) (.lst xs) (.lst ys) M Q := dr_or2 (dr_or2 (dr_or1 fun F H v u m a b QV k => by
  cases a with
  | lst s r =>
    cases b with
    | lst s2 r2 =>
      refine ⟨_, _, _, _, rfl, rfl, vis_le.seq s, vis_le.seq s2, by rw [r.length, r2.length]; exact hz, fun p hp => ?_⟩
      obtain ⟨g, e⟩ := go_new (o := .lst _) m hp
      exact k _ M _ _ q g (.lst (.inl (.inl e)) ((r.mono g.ex).append (r2.mono g.ex)))))
theorem atI_rep {G : Hp} {xs : List V} {ds : List D} {i : Int} (r : RepL K G xs ds) (h : atI ds i = some d) : ∃ v, atI xs i = some v ∧ Rep K G v d := by
  unfold atI at h ⊢
  rw [r.length]
  cases e : ixN ds.length i with
  | none => rw [e] at h; cases h
  | some j =>
    rw [e] at h
    obtain ⟨u, hu, ru⟩ := r.get (show ds[j]? = some d from h)
    exact ⟨u, hu, ru⟩
theorem dr_ixL {xs : List D} {i : Int} (h : atI xs i = some d) (q : Q d M) : DR K (rIx K) (.lst xs) (.int i) M Q := dr_or1 fun F H v u m a b QV k => by
  cases b
  cases a with
  | lst s r =>
    obtain ⟨w, hw, rw'⟩ := atI_rep r h
    exact ⟨_, _, i, w, rfl, rfl, vis_le.seq s, hw, k d M w H q (Go.refl m) rw'⟩
theorem dr_ixT {xs : List D} {i : Int} (h : atI xs i = some d) (q : Q d M) : DR K (rIx K) (.tup xs) (.int i) M Q := dr_or2 (dr_or1 fun F H v u m a b QV k => by
  cases b
  cases a with
  | tup s r =>
    obtain ⟨w, hw, rw'⟩ := atI_rep r h
    exact ⟨_, _, i, w, rfl, rfl, sqt_mono vis_le s, hw, k d M w H q (Go.refl m) rw'⟩)
theorem dr_ixS {x : Str} {i : Int} {c : Nat} (hz : x.length ≤ sizeLine) (h : atI x.cps.toList i = some c) (q : Q (.str ⟨#[c]⟩) M) : DR K (rIx K) (.str x) (.int i) M Q := dr_or2 (dr_or2 fun F H v u m a b QV k => by
  cases a; cases b
  exact ⟨x, i, c, rfl, rfl, hz, h, k _ M _ H q (Go.refl m) (.str _)⟩)
theorem dr_ixD {p : Addr} {j : Nat} (hp : M p = some .die) (hj : j < 3) (q : ∀ i : Int, Q (.int i) M) : DR K (rIx K) (.raw (.ref p)) (.int (j : Int)) M Q := dr_or1 fun F H v u m a b QV k => by
  cases a; cases b
  obtain ⟨ho, e, r⟩ := m.mo p _ hp
  cases r with
  | die x y z =>
    have h3 : ∃ i : Int, atI [V.int x, V.int y, V.int z] (j : Int) = some (.int i) := by
      match j, hj with
      | 0, _ => exact ⟨x, rfl⟩
      | 1, _ => exact ⟨y, rfl⟩
      | 2, _ => exact ⟨z, rfl⟩
    obtain ⟨i, hi⟩ := h3
    exact ⟨p, _, _, _, rfl, rfl, SqL.of e, hi, k _ M _ H (q i) (Go.refl m) (.int _)⟩
theorem dr_ixD0 {p : Addr} (hp : M p = some .die) (q : ∀ i : Int, Q (.int i) M) : DR K (rIx K) (.raw (.ref p)) (.int 0) M Q := dr_ixD (j := 0) hp (by decide) q
theorem dr_ixD1 {p : Addr} (hp : M p = some .die) (q : ∀ i : Int, Q (.int i) M) : DR K (rIx K) (.raw (.ref p)) (.int 1) M Q := dr_ixD (j := 1) hp (by decide) q
theorem dr_ixD2 {p : Addr} (hp : M p = some .die) (q : ∀ i : Int, Q (.int i) M) : DR K (rIx K) (.raw (.ref p)) (.int 2) M Q := dr_ixD (j := 2) hp (by decide) q
theorem dg_die {js : List Nat} {to ti : TE} {G : En → Mem → Prop} {p : Addr} {x : Int} {j : Nat} (hj : j < 3) (h : DE K to δ M fun o M1 => o = .raw (.ref p) ∧ DE K ti δ M1 fun i M2 => i = .int (j : Int) ∧ M2 p = some .die ∧ G δ M2) : DG K js (gSub to ti rSetL) (.int x) δ M G := fun F σ H v en m r QG k => by
  cases r
  refine h F σ H en m _ fun o M1 w H1 z g1 r1 => ?_
  obtain ⟨rfl, z⟩ := z
  cases r1
  refine z F σ H1 (en.mono g1.ex) g1.ok _ fun i M2 w2 H2 z2 g2 r2 => ?_
  obtain ⟨rfl, hd, z2⟩ := z2
  cases r2
  obtain ⟨ho, e, ro⟩ := g2.ok.mo p _ hd
  cases ro with
  | die a b c =>
    have h3 : ∃ a' b' c' : Int, ixN [V.int a, V.int b, V.int c].length (j : Int) = some j ∧ [V.int a, V.int b, V.int c].set j (.int x) = [.int a', .int b', .int c'] := by
      match j, hj with
      | 0, _ => exact ⟨x, b, c, rfl, rfl⟩
      | 1, _ => exact ⟨a, x, c, rfl, rfl⟩
      | 2, _ => exact ⟨a, b, x, rfl, rfl⟩
    obtain ⟨a', b', c', h4, h5⟩ := h3
    refine ⟨p, _, _, j, rfl, rfl, e, h4, ?_⟩
    rw [h5]
    have g3 := go_die g2.ok hd a' b' c'
    exact k δ M2 σ _ z2 ((g1.trans g2).trans g3) (((en.mono g1.ex).mono g2.ex).mono g3.ex) fun _ _ => rfl
def DO (K : PySem.W.Frag) (to : TO) (δ : En) (M : Mem) (Q : Option Int → Mem → Prop) : Prop :=
  ∀ (F : Fm) (σ : Sg) (H : Hp), EnvR K (vis H M F) σ δ → MOk K F M H → ∀ QV : Option Int → Hp → Prop, (∀ o M' H', Q o M' → Go K F M H M' H' → QV o H') → to σ H QV
theorem do_no {O : Option Int → Mem → Prop} (q : O none M) : DO K tNoPart δ M O := fun F σ H en m QV k => k none M H q (Go.refl m)
theorem do_pt {O : Option Int → Mem → Prop} (h : DE K te δ M fun d M1 => ∃ i, d = .int i ∧ O (some i) M1) : DO K (tPart te) δ M O := fun F σ H en m QV k => by
  refine h F σ H en m _ fun d M1 v H1 z g r => ?_
  obtain ⟨i, rfl, z⟩ := z
  cases r
  exact ⟨i, rfl, k _ M1 H1 z g⟩
def lenD : D → Option Nat
  | .str x => some x.length | .lst xs => some xs.length | .tup xs => some xs.length | _ => none
theorem dc_len {n : Nat} (h : lenD d = some n) (hz : ∀ x, d = .str x → x.length ≤ sizeLine) (q : Q (.int (n : Int)) M) : DC K (fun xs H Q => ∃ x n, xs = [x] ∧ LenV K x H n ∧ Q (.int n) H) [d] M Q := fun F H vs m r QV k => by
  cases r with
  | cons a b =>
    cases b
    refine ⟨_, n, rfl, ?_, k _ M _ H q (Go.refl m) (.int _)⟩
    cases a <;> first | cases h; done | skip
    · cases h; exact ⟨hz _ rfl, rfl⟩
    · rename_i s r
      cases h
      exact .inl ⟨_, vis_le.seq s, r.length.symm⟩
    · rename_i s r
      cases h
      exact .inr ⟨_, sqt_mono vis_le s, r.length.symm⟩
theorem dc_abs {i : Int} (q : Q (.int (if i < 0 then -i else i)) M) : DC K (fun xs H Q => ∃ i, xs = [.int i] ∧ Q (.int (if i < 0 then -i else i)) H) [.int i] M Q := fun F H vs m r QV k => by
  obtain rfl := RepL.of_ints (l := [i]) r
  exact ⟨i, rfl, k _ M _ H q (Go.refl m) (.int _)⟩
theorem dc_max2 {i j : Int} (q : Q (.int (if j > i then j else i)) M) : DC K (fun xs H Q => ∃ i j, xs = [.int i, .int j] ∧ Q (.int (if j > i then j else i)) H) [.int i, .int j] M Q := fun F H vs m r QV k => by
  obtain rfl := RepL.of_ints (l := [i, j]) r
  exact ⟨i, j, rfl, k _ M _ H q (Go.refl m) (.int _)⟩
theorem dc_min2 {i j : Int} (q : Q (.int (if j < i then j else i)) M) : DC K (fun xs H Q => ∃ i j, xs = [.int i, .int j] ∧ Q (.int (if j < i then j else i)) H) [.int i, .int j] M Q := fun F H vs m r QV k => by
  obtain rfl := RepL.of_ints (l := [i, j]) r
  exact ⟨i, j, rfl, k _ M _ H q (Go.refl m) (.int _)⟩
theorem dc_intI {i : Int} (q : Q (.int i) M) : DC K (fun xs H Q => (∃ i, xs = [.int i] ∧ Q (.int i) H) ∨ ∃ k, xs = [.bl k] ∧ Q (.int (if k then 1 else 0)) H) [.int i] M Q := fun F H vs m r QV k => by
  obtain rfl := RepL.of_ints (l := [i]) r
  exact .inl ⟨i, rfl, k _ M _ H q (Go.refl m) (.int _)⟩
theorem dc_intB {b : Bool} (q : Q (.int (if b then 1 else 0)) M) : DC K (fun xs H Q => (∃ i, xs = [.int i] ∧ Q (.int i) H) ∨ ∃ k, xs = [.bl k] ∧ Q (.int (if k then 1 else 0)) H) [.bl b] M Q := fun F H vs m r QV k => by
  obtain rfl := RepL.of_bls (l := [b]) r
  exact .inr ⟨b, rfl, k _ M _ H q (Go.refl m) (.int _)⟩
theorem dc_reprB {b : Bool} (q : Q (.str (if b then "True" else "False")) M) : DC K (fun xs H Q => ∃ b : Bool, xs = [.bl b] ∧ Q (.str (if b then "True" else "False")) H) [.bl b] M Q := fun F H vs m r QV k => by
  obtain rfl := RepL.of_bls (l := [b]) r
  exact ⟨b, rfl, k _ M _ H q (Go.refl m) (.str _)⟩
theorem dc_all {bs : List Bool} (h : d = .lst (bs.map D.bl)) (q : Q (.bl (bs.all id)) M) : DC K (rAll K) [d] M Q := fun F H vs m r QV k => by
  subst h
  cases r with
  | cons a b =>
    cases b
    cases a with
    | lst s r =>
      obtain rfl := RepL.of_bls r
      exact ⟨_, bs, rfl, vis_le.seq s, k _ M _ H q (Go.refl m) (.bl _)⟩
theorem dc_any {bs : List Bool} (h : d = .lst (bs.map D.bl)) (q : Q (.bl (bs.any id)) M) : DC K (rAny K) [d] M Q := fun F H vs m r QV k => by
  subst h
  cases r with
  | cons a b =>
    cases b
    cases a with
    | lst s r =>
      obtain rfl := RepL.of_bls r
      exact ⟨_, bs, rfl, vis_le.seq s, k _ M _ H q (Go.refl m) (.bl _)⟩
def tyD : D → Option String
  | .non => some "NoneType" | .bl _ => some "bool" | .int _ => some "int" | .str _ => some "str" | .lst _ => some "list" | .tup _ => some "tuple" | .dic _ => some "dict" | _ => none
theorem tyX_of {F : Fm} {H : Hp} {v : V} {T : String} (r : Rep K (vis H M F) v d) (h : tyD d = some T) : TyX K H v (.type T) := by
  cases r with
  | non => cases h; exact .base .non
  | bl b => cases h; exact .base (.bl b)
  | int b => cases h; exact .base (.int b)
  | str b => cases h; exact .base (.str b)
  | lst s r =>
    cases h
    rcases s with (s | ⟨o, s⟩) | ⟨o, its, n, s, hc, _⟩
    · exact .base (.lst (vis_le _ _ s))
    · exact .base (.frz (vis_le _ _ s))
    · exact .kList s hc
  | tup s r =>
    cases h
    rcases s with (s | ⟨o, s⟩) | ⟨o, its, n, s, hc, _⟩
    · exact .base (.tup (vis_le _ _ s))
    · exact .fTuple (vis_le _ _ s)
    · exact .kTuple s hc
  | dic s r =>
    cases h
    rcases s with s | ⟨o, s⟩
    · exact .base (.dK (vis_le _ _ s))
    · exact .fDict (vis_le _ _ s)
  | obj _ _ => cases h
  | raw _ => cases h
theorem dc_isi {T U : String} {b : Bool} (h : tyD d = some T) (hb : kitB T U = some b) (q : Q (.bl b) M) : DC K (rIsi K) [d, .raw (.ty U)] M Q := fun F H vs m r QV k => by
  cases r with
  | cons a r =>
    cases r with
    | cons c r =>
      cases r
      cases c
      exact ⟨_, _, .type T, .type U, b, rfl, .ty U, tyX_of a h, kit_ty hb, k _ M _ H q (Go.refl m) (.bl _)⟩
theorem de_dnew (q : Q (.dic []) M) : DE K tDNewK δ M Q := fun F σ H en m QV k => fun p hp => by
  obtain ⟨g, e⟩ := go_new (o := .dK []) m hp
  exact k _ M _ _ q g (.dic (.inl e) .nil)
end
end DL
set_option Elab.async false
set_option linter.all false
set_option maxRecDepth 100000
set_option maxHeartbeats 4000000
namespace DL
open PySem PySem.Spec PyProof.Rows L2
abbrev PT0 := List D → Mem → (D → Mem → Prop) → Prop
structure FnG (P : Program) (w : World) (K : PySem.W.Frag) (mg : Str → Option Value) (base : Heap) (k : Nat) (f : Addr) (fd : FuncData) (ps : List Str) (p : PT0) : Prop where
  len : ∀ ds M R, p ds M R → ds.length = ps.length
  run : ∀ (A : Around) (ou : List Env) (s : Shared) (H : Hp) (as : Args) (us : List Value) (vs : List V) (Q : VK), Room k A → A.guards = some [] → Env0 P w K mg base A ou s H → BindsTo s fd as (ps.zip us) → Vals vs us → spD K p vs H Q E0 →
    codeAny (model P w) A (.call (.ref f) as) (CR CX0 ou P w H s Q E0) s
theorem spD_len {K : PySem.W.Frag} {p : PT0} {n : Nat} (len : ∀ ds M R, p ds M R → ds.length = n) {vs : List V} {H : Hp} {Q : VK} {E : XK} (h : spD K p vs H Q E) : vs.length = n := by
  obtain ⟨F, M, ds, R, r, _, hp, _⟩ := h
  rw [r.length]
  exact len ds M R hp
theorem g_of {P : Program} {w : World} {K : PySem.W.Frag} {mg : Str → Option Value} {base : Heap} {x qual : Str} {st : Stmt} {f : Addr} {fd : FuncData} {N ps : List Str} {k : Nat} {p : PT0} (Fu : Fun K x qual st f fd) (Sc : FnScope N ps (defScope st)) (len : ∀ ds M R, p ds M R → ds.length = ps.length)
    (body : ∀ (cdv : Value) (A : Around) (ou : List Env) (s : Shared) (H : Hp), Room k (A.deeper (envOfC qual (defScope st) s.heap.objs.size f cdv)) → (A.deeper (envOfC qual (defScope st) s.heap.objs.size f cdv)).guards = some [] →
      ∃ t, PSs (cxOf CX0 P w K mg base N qual (defScope st) f cdv A ou s H E0).nox (defBody st) t ∧ ∀ ds M R, p ds M R → DS K t (ds.map some ++ List.replicate (N.length - ds.length) none) M { nx := fun _ M' => R .non M', rt := R }) :
    FnG P w K mg base (k + 1) f fd ps p := by
  obtain ⟨oc, od, kV, doc, pm, an, cdv, ct, osl, rfl, lk, hcd⟩ := Fu.ex
  refine ⟨len, fun A ou s H as us vs Q room gd e0 bt rel hp => ?_⟩
  have hlen := spD_len len hp
  have inK : K.In s.heap := e0.mod.kin.keeps fun a ob z => (e0.bs a ob z).1
  have noL : s.heap.NoLimit := e0.mod.nolimit.keeps fun a ob z => (e0.bs a ob z).1
  have kinds : ∀ y ∈ ps.zip us, (defScope st).names.lookup y.1 = some .local ∨ ((defScope st).names.lookup y.1 = some .cell ∧ ((cellsFrom (s.heap.objs.size + 1) (defScope st).names []).lookup y.1).isSome = true) := by
    rintro ⟨n, z⟩ hy
    rcases Sc.par n (List.of_mem_zip hy).1 with q | q
    · exact .inl q
    · exact .inr ⟨q, PySem.W.cellsFrom_some _ _ _ (.inl q)⟩
  refine codeAny_call_function room.depth (inK _ _ lk) rfl Sc.co Sc.gen rfl (PySem.W.codeRec_of inK hcd) (bt _ _ _ _ ?_)
  refine wpAny_newFunctionEnv_cells Sc.kind kinds fun env he s1 ic => ?_
  subst he
  refine ⟨noL.keeps ic.toInCall.keep, codeAny_func ?_⟩
  obtain ⟨t, ht, hd⟩ := body cdv A ou s H (room.deeper _) gd
  have J0 : Inv (cxOf CX0 P w K mg base N qual (defScope st) f cdv A ou s H E0) [] (start N vs) H s1 := inv_start Sc room.hd e0 hlen rel ic
  have hq : t { nx := fun _ H' => Q .non H', rt := Q } (start N vs) H := by
    obtain ⟨F, M, ds, R, r, m, hpp, q⟩ := hp
    refine hd ds M R hpp F _ H (EnvR.start r) m _ ?_ ?_ ?_ ?_
    · exact fun δ' M' σ' H' z g _ => q _ _ _ _ z g .non
    · exact fun d M' v H' z g rp => q _ _ _ _ z g rp
    · exact fun _ _ _ _ z => z.elim
    · exact fun _ _ _ _ z => z.elim
  refine wpAny_mono (ht.nox.run [] s1 (start N vs) H _ J0 hq) (fun fl s2 hs => ?_) fun e s2 hs => hs
  have done : ∀ {σ' : Sg} {H' : Hp} {v : V} {u : Value}, Inv (cxOf CX0 P w K mg base N qual (defScope st) f cdv A ou s H E0) [] σ' H' s2 → RelV v u → Q v H' → CE ou P w H s Q u s2 :=
    fun {_ H' v _} J rv q => ⟨v, H', J.os, J.bare, J.base, J.hok, rv, q⟩
  cases fl with
  | ret u =>
    obtain ⟨v, σ', H', J, rv, q⟩ := hs
    exact done J rv q
  | next =>
    obtain ⟨σ', H', J, q⟩ := hs
    exact done (v := V.non) (u := Value.none) J rfl q
  | brk => exact (let ⟨_, _, _, q⟩ := hs; False.elim q)
  | cont => exact (let ⟨_, _, _, q⟩ := hs; False.elim q)
section
variable {X : Cx} {k : Nat} {f C : Addr} {fd : FuncData} {ps : List Str} {p : PT0} {pins : List (Addr × Obj)} {σ : Sg} {H : Hp} {s : Shared} {Q : VK}
theorem back_of {r : Result} {s' : Shared} {E : Value → Shared → Prop} (I : Inv X pins σ H s) (hq : CR CX0 X.stack X.prog X.w H s Q E0 r s') : ∃ u, r = .ok (.ret u) ∧ EP X pins σ Q u s' := by
  match r, hq with
  | .ok (.ret u), hq => exact ⟨u, rfl, I.after hq⟩
  | .ok .next, hq => exact False.elim hq
  | .ok .brk, hq => exact False.elim hq
  | .ok .cont, hq => exact False.elim hq
  | .error _, hq => exact False.elim hq
theorem run_g {us : List Value} {vs : List V} (F : FnG X.prog X.w X.K X.mg X.base k f fd ps p) (hr : Room k X.A) (gd : X.A.guards = some []) (hb : Binds X.K fd ps []) (I : Inv X pins σ H s) (rel : Vals vs us) (hp : spD X.K p vs H Q E0) :
    wpAny (model X.prog X.w) X.A (call (.ref f) us) (EP X pins σ Q) X.xe s := by
  have hl : (us ++ ([] : List Value)).length = ps.length := by rw [List.append_nil, ← rel.length, spD_len F.len hp]
  have bt := hb s us I.kIn hl
  rw [List.append_nil] at bt
  refine wpAny_call (codeAny_mono (F.run X.A X.stack s H ⟨us, []⟩ us vs Q hr gd I.env0 bt rel hp) fun r s2 hq => ?_)
  obtain ⟨u, rfl, q⟩ := back_of (E := X.xe) I hq
  exact q
end
def p_law : PT0 := fun ds M R => ∃ ns : List Int, ds = [.lst (ns.map D.int)] ∧ ns.length ≤ 63 ∧ (∀ a, M a = none) ∧ ∀ M', R (.bl true) M'
theorem law_g {P : Program} {w : World} {K : PySem.W.Frag} {mg mb : Str → Option Value} {k : Nat} {fa a : Addr} {fd : FuncData} {x : Str} {s1 : Shared} {vs : List Value} {ns : List Int}
    (inK : K.In s1.heap) (nsg : s1.heap.Ns mainGlobals mg) (nsb : s1.heap.Ns builtinsNs mb) (nsx : ∀ x : Str, x ≠ "__name__" → mb x = bootBuiltins x) (noL : s1.heap.NoLimit) (ng : s1.gens = #[])
    (oa : s1.heap.get? a = some { cls := .type "list", data := .seq vs.toArray }) (ia : IntsAre vs ns) (la : ns.length ≤ 63) (hr : Room k callerA)
    (F : ∀ base : Heap, K.In base → base.Ns mainGlobals mg → FnG P w K mg base k fa fd [x] p_law) (hbind : ∀ (s : Shared) (u : Value), BindsTo s fd ⟨[u], []⟩ [(x, u)]) :
    codeAny (model P w) callerA (.call (.ref fa) ⟨[.ref a], []⟩) (fun r s' => r = .ok (.ret (.bool true)) ∧ OldK s1.heap s'.heap ∧ s'.os = s1.os ∧ AllBare s'.gens) s1 := by
  have rel := vals_ints ia
  have nlen := ia.length
  have la2 : ns.length ≤ sizeLine := by rw [sizeLine_eq]; omega
  -- whatever of it is tracked
  have main : ∀ H : Hp, Only H → SqL K H a (ns.map V.int) → HOk P w H s1.heap → (∀ b, H b ≠ none → b = a) → (H a ≠ none → K.lookup a = none) →
      codeAny (model P w) callerA (.call (.ref fa) ⟨[.ref a], []⟩) (fun r s' => r = .ok (.ret (.bool true)) ∧ OldK s1.heap s'.heap ∧ s'.os = s1.os ∧ AllBare s'.gens) s1 := by
    intro H only sq ok one nk
    have off : ∀ {b : Addr}, b ≠ a → H b = none := fun {b} hb => by
      cases q : H b with
      | none => rfl
      | some u => exact absurd (one b (by rw [q]; simp)) hb
    have dct : ∀ {b : Addr} {o : Obj} {es : Array DictEntry} {n : Nat}, s1.heap.get? b = some o → o.data = .dict es n → H b = none := fun {b o es n} e d => off fun z => by
      subst z
      rw [oa] at e
      cases e
      exact nomatch d
    have nsv : ∀ {b : Addr} {m : Str → Option Value}, s1.heap.Ns b m → (hidT s1.heap H).Ns b m := fun {b m} z => by
      obtain ⟨o, es, n, e, d, rest⟩ := z
      exact ⟨o, es, n, hidT_get e (dct e d), d, rest⟩
    have inB : K.In (hidT s1.heap H) := fun b o e => hidT_get (inK b o e) (by
      by_cases hb : b = a
      · subst hb
        cases q : H b with
        | none => rfl
        | some u =>
          rw [nk (by rw [q]; simp)] at e
          cases e
      · exact off hb)
    have md : Mod K mg (hidT s1.heap H) := by
      obtain ⟨mc, c1, c2⟩ := noL
      exact ⟨inB, nsv nsg, ⟨mb, nsv nsb, nsx⟩, mc, nsv c1, c2⟩
    have e0 : Env0 P w K mg (hidT s1.heap H) callerA [] s1 H :=
      { frames := rfl, mod := md, bs := fun b o e => of_hidT e, bsz := Nat.le_of_eq (hidT_size _ _), funs := trivial, frf := fun b hb => (nomatch hb), hok := ok, bare := .of_eq ng }
    have em : Same H (vis H (fun _ => none) (fun _ => false)) := fun b o e => vis_mk e rfl rfl
    have hp : spD K p_law [.ref a] H (fun v _ => v = .bl true) E0 := by
      refine ⟨fun _ => false, fun _ => none, [.lst (ns.map D.int)], fun d _ => d = .bl true, .cons (.lst (em.seq sq) (RepL.ints ns)) .nil, ⟨fun b hb => (nomatch hb), fun a m hm => (nomatch hm), fun b ps hb => by
        rcases only b with z | ⟨o, xs, z⟩ <;> (rw [z] at hb; cases hb)⟩, ⟨ns, rfl, la, fun _ => rfl, fun _ => rfl⟩, fun d M' v H' hd _ r => ?_⟩
      subst hd
      cases r
      rfl
    refine codeAny_mono ((F _ inB (nsv nsg)).run callerA [] s1 H ⟨[.ref a], []⟩ [.ref a] [.ref a] _ hr rfl e0 (hbind s1 (.ref a)) (.cons rfl .nil) hp) fun r s2 hq => ?_
    match r, hq with
    | .error _, hq => exact False.elim hq
    | .ok .next, hq => exact False.elim hq
    | .ok .brk, hq => exact False.elim hq
    | .ok .cont, hq => exact False.elim hq
    | .ok (.ret u), hq =>
      obtain ⟨v, H2, os2, bare2, un, ok2, rv, qv⟩ := hq
      have qv : v = .bl true := qv
      subst qv
      obtain rfl : u = Value.bool true := rv
      refine ⟨rfl, OldK.of_keep fun b o e => ?_, os2, bare2⟩
      rcases only b with z | ⟨ob, ys, z⟩
      · exact un.keep b o e z (fun h => (nomatch h)) (fun h => (nomatch h))
      · obtain ⟨y1, _⟩ := ok b _ z
        obtain ⟨y2, _⟩ := ok2 b _ (un.frzs b ob _ z)
        rw [e] at y1
        cases y1
        exact y2
  cases hk : K.lookup a with
  | some o =>
    have e := inK a o hk
    rw [oa] at e
    cases e
    exact main (fun _ => none) (fun _ => .inl rfl) (.inr ⟨_, vs.toArray, _, hk, rfl, rfl, rfl, (by rw [List.size_toArray, nlen]; exact la2), (by simpa using rel)⟩) (fun b u z => (nomatch z)) (fun b z => absurd rfl z) fun z => absurd rfl z
  | none =>
    obtain ⟨Hx, here, there⟩ : ∃ Hx : Hp, Hx a = some (.frz { cls := .type "list", data := .seq vs.toArray } (.lst (ns.map V.int))) ∧ ∀ b, b ≠ a → Hx b = none := ⟨fun b => if b = a then some (.frz { cls := .type "list", data := .seq vs.toArray } (.lst (ns.map V.int))) else none, if_pos rfl, fun b hb => if_neg hb⟩
    refine main Hx (fun b => ?_) (.inl (.inr ⟨_, here⟩)) (fun b u z => ?_) (fun b z => ?_) fun _ => hk
    · by_cases hb : b = a
      · subst hb; exact .inr ⟨_, _, here⟩
      · exact .inl (there b hb)
    · by_cases hb : b = a
      · subst hb
        rw [here] at z
        cases z
        exact ⟨oa, by rw [List.length_map]; exact la2, vs, _, rel, oa⟩
      · rw [there b hb] at z; cases z
    · by_cases hb : b = a
      · exact hb
      · exact absurd (there b hb) z
theorem walk_g {l : PySem.W.OpenLaw} {k : Nat} {q : Program} {loose : List Str} {XP : (Str → Option Value) → Heap → Prop} {YP : World → Heap → Prop} {d : DefRec} {K : Params → PySem.W.Frag} {x : Str}
    (hn : l.most = some 63) (hdf : d.params.defaults = []) (hr : Room k callerA) (hY : ∀ (w : World) (h : Heap), YP w h → (K w.params).In h)
    (F : ∀ (w : World) (mg : Str → Option Value) (fa : Addr) (h : Heap), (K w.params).In h → h.Ns mainGlobals mg → mg d.name = some (.ref fa) →
      ∃ fd : FuncData, (∀ (s : Shared) (u : Value), BindsTo s fd ⟨[u], []⟩ [(x, u)]) ∧ ∀ base : Heap, (K w.params).In base → base.Ns mainGlobals mg → FnG l.prog w (K w.params) mg base k fa fd [x] p_law) :
    PySem.W.WalkO q loose XP YP l.row.toRowW d [] (fun f vs => PySem.call f vs) := by
  refine Att.attach_call hn hdf fun w s0 s1 mg mb fa o pm cd doc a vs ns G Y ho hd hcd hmg hobj hints hlen hg => ?_
  have inK := hY w _ Y
  obtain ⟨fd, hb, hF⟩ := F w mg fa _ inK G.T.g hmg
  exact law_g inK G.T.g G.T.b G.T.builtins G.T.nolimit hg hobj hints hlen hr hF hb
end DL
set_option Elab.async false
set_option linter.all false
set_option maxRecDepth 100000
set_option maxHeartbeats 4000000
namespace DL
open PySem PySem.Spec PyProof.Rows L2
structure Tx (K : PySem.W.Frag) (mg : Str → Option Value) (x : Str) (st : Stmt) : Prop where
  ex : ∃ (f : Addr) (fd : FuncData), Fun K x x st f fd ∧ mg x = some (.ref f)
structure Df (P : Program) (w : World) (K : PySem.W.Frag) (mg : Str → Option Value) (base : Heap) (k : Nat) (x : Str) (ps : List Str) (p : PT0) : Prop where
  ex : ∃ (f : Addr) (fd : FuncData), FnG P w K mg base k f fd ps p ∧ mg x = some (.ref f) ∧ PySem.W.keepIn K (.ref f) = true ∧ Binds K fd ps [] ∧ ∃ oc od osl, K.lookup f = some ⟨oc, od, .func fd, osl⟩
theorem tx_mk {K : PySem.W.Frag} {mg : Str → Option Value} {x : Str} {st : Stmt} {f : Addr} {oc : Value} {od an : Option Addr} {osl : Array (Option Value)} {kV doc pm cdv ct : Value} (l : K.lookup f = some ⟨oc, od, .func (PySem.W.fnOf x x (defArgs st) (defBody st) (defScope st) .none kV doc pm an cdv ct), osl⟩)
    (c : PySem.W.codeIn K cdv x = true) (k : PySem.W.keepIn K (.ref f) = true) (g : mg x = some (.ref f)) : Tx K mg x st := ⟨f, _, fun_mk l c k, g⟩
section
variable {P : Program} {w : World} {K : PySem.W.Frag} {mg : Str → Option Value} {base : Heap}
theorem df_ok {x : Str} {st : Stmt} {N ps : List Str} {k : Nat} {p : PT0} (T : Tx K mg x st) (S : FnScope N ps (defScope st)) (len : ∀ ds M R, p ds M R → ds.length = ps.length)
    (hb : ∀ (kV doc pm : Value) (an : Option Addr) (cdv ct : Value) (us : List Value), us.length = ps.length → bindArgs (PySem.W.fnOf x x (defArgs st) (defBody st) (defScope st) .none kV doc pm an cdv ct) ⟨us, []⟩ = pure (ps.zip us))
    (body : ∀ (cdv : Value) (A : Around) (ou : List Env) (s : Shared) (H : Hp) {f : Addr}, Room k (A.deeper (envOfC x (defScope st) s.heap.objs.size f cdv)) → (A.deeper (envOfC x (defScope st) s.heap.objs.size f cdv)).guards = some [] →
      ∃ t, PSs (cxOf CX0 P w K mg base N x (defScope st) f cdv A ou s H E0).nox (defBody st) t ∧ ∀ ds M R, p ds M R → DS K t (ds.map some ++ List.replicate (N.length - ds.length) none) M { nx := fun _ M' => R .non M', rt := R }) :
    Df P w K mg base (k + 1) x ps p := by
  obtain ⟨f, fd, Fu, g⟩ := T.ex
  have b := Fu.binds (ps := ps) hb
  have kp := Fu.kp
  have G := g_of (P := P) (w := w) (mg := mg) (base := base) (k := k) (p := p) Fu S len fun cdv A ou s H hr gd => body cdv A ou s H hr gd
  obtain ⟨oc, od, kV, doc, pm, an, cdv, ct, osl, rfl, lk, _⟩ := Fu.ex
  exact ⟨f, _, G, g, kp, b, oc, od, osl, lk⟩
end
section
variable {X : Cx} {K : PySem.W.Frag} {P : Program} {w : World} {mg : Str → Option Value} {base : Heap} {k : Nat} {x : Str} {ps : List Str} {p : PT0} {e a b l : Expr} {es : List Expr} {t : TA} {ta tb tl : TE} {pp pos : Pos}
structure Is (X : Cx) (P : Program) (w : World) (K : PySem.W.Frag) (mg : Str → Option Value) (base : Heap) : Prop where
  p : X.prog = P
  w : X.w = w
  k : X.K = K
  m : X.mg = mg
  b : X.base = base
theorem pe_callD (h : Df P w K mg base k x ps p) (hr : Room k X.A) (gd : X.A.guards = some []) (hg : Gl X x) (ha : PA X (e :: es) t) (hX : Is X P w K mg base := by exact ⟨rfl, rfl, rfl, rfl, rfl⟩) (hd : (x == ("__debug__" : Str)) = false := by decide) (hpl : (backTo pos (starEach es X.env)).any (·.1) = false := by rfl)
    (hne : starEach (e :: es) X.env = (false, eval e X.env) :: starEach es X.env := by rfl) : PE X (.Call (.Name x pp) (e :: es) [] pos) (tCall (spD K p) [] E0 t) := by
  obtain ⟨rfl, rfl, rfl, rfl, rfl⟩ := hX
  obtain ⟨f, fd, G, g, kp, b, _⟩ := h.ex
  refine ⟨fun pins s σ H Q I z => wpAny_Call_Name_kw (ld_glob I hg g ?_ hd)⟩
  refine PySem.W.callWith_K (h₀ := X.base) I.ok.mod.kin kp (wpAny_mono (ha.run pos pins s σ H _ I z) (fun us s1 hs => ?_) fun _ _ hs => hs) hne hpl
  obtain ⟨vs, H1, I1, r, q⟩ := hs
  rw [List.append_nil] at q
  exact ⟨I1.kIn, run_g G hr gd b I1 r q⟩
theorem op_addK (K : PySem.W.Frag) (h : X.K = K := by rfl) : OpR X (binaryOp .Add) (rAddA K) := by subst h; exact op_addA
theorem ix_K (K : PySem.W.Frag) (h : X.K = K := by rfl) : IxR X (rIx K) := by subst h; exact ix_seq
theorem call_lenK (K : PySem.W.Frag) (h : X.K = K := by rfl) : CallR X (.builtin "len") (fun xs H Q => ∃ x n, xs = [x] ∧ LenV K x H n ∧ Q (.int n) H) := by subst h; exact call_len
theorem call_isiKK (K : PySem.W.Frag) (h : X.K = K := by rfl) : CallR X (.builtin "isinstance") (rIsi K) := by subst h; exact call_isi
theorem call_allK (K : PySem.W.Frag) (hc : X.calm = true := by rfl) (h : X.K = K := by rfl) : CallR X (.builtin "all") (rAll K) := by subst h; exact cr_all hc
theorem call_anyK (K : PySem.W.Frag) (hc : X.calm = true := by rfl) (h : X.K = K := by rfl) : CallR X (.builtin "any") (rAny K) := by subst h; exact cr_any hc
theorem pi_listK (K : PySem.W.Frag) {tg : Expr} (hl : PE X l tl) (h : X.K = K := by rfl) : PI X tg l (iList K tl) := by subst h; exact pi_list hl
theorem pi_tupK (K : PySem.W.Frag) {tg : Expr} (hl : PE X l tl) (h : X.K = K := by rfl) : PI X tg l (iTup K tl) := by subst h; exact pi_tup hl
theorem pg_tupK (K : PySem.W.Frag) {gs : List Expr} {n : Nat} {kk : Nat} {tt : TGs} (hc : X.calm = true) (hs : PGs X gs tt) (hn : (assignEach gs X.env).length = n := by rfl) (hst : (assignEach gs X.env).findIdx? (·.1) = none := by rfl) (h : X.K = K := by rfl) : PG X (.Tuple gs kk pos) (gTup K n tt) := by subst h; exact pg_tup hc hs hn hst
theorem pt_truK (K : PySem.W.Frag) (ha : PE X a ta) (he : ∀ whole, isTrue a X.env whole = (do let v ← whole; standAt a.pos; holding [v] (truthy v))) (h : X.K = K := by rfl) : PT X a (tTru K ta) := by subst h; exact pt_tru ha he
end
def GlK (mg : Str → Option Value) (x : Str) (v : V) : Prop := ∃ u, mg x = some u ∧ RelV v u
theorem pe_globK {X : Cx} {mg : Str → Option Value} {x : Str} {v : V} {pos : Pos} (h : GlK mg x v) (hg : Gl X x) (hm : X.mg = mg := by rfl) (hd : (x == ("__debug__" : Str)) = false := by decide) : PE X (.Name x pos) (tC v) := by
  subst hm
  obtain ⟨u, h1, h2⟩ := h
  exact pe_glob hg h1 h2 hd
theorem law_fn {P : Program} {w : World} {K : PySem.W.Frag} {mg : Str → Option Value} {base : Heap} {k : Nat} {x : Str} {ps : List Str} {p : PT0} {f : Addr} {fd : FuncData} {oc : Value} {od : Option Addr} {osl : Array (Option Value)} (h : Df P w K mg base k x ps p) (g : mg x = some (.ref f))
    (l : K.lookup f = some ⟨oc, od, .func fd, osl⟩) : FnG P w K mg base k f fd ps p := by
  obtain ⟨f', fd', G, g', _, _, oc', od', osl', l'⟩ := h.ex
  rw [g] at g'
  cases g'
  rw [l] at l'
  cases l'
  exact G
theorem sz_and {n : Nat} {P : Prop} (h : n ≤ 1000000) (q : P) : n ≤ sizeLine ∧ P := ⟨by rw [sizeLine_eq]; omega, q⟩
theorem ex_str {a : Str} {P : Str → Prop} (h : P a) : ∃ x, D.str a = .str x ∧ P x := ⟨a, rfl, h⟩
theorem ex_lst {a : List D} {P : List D → Prop} (h : P a) : ∃ x, D.lst a = .lst x ∧ P x := ⟨a, rfl, h⟩
theorem ex_tup {a : List D} {P : List D → Prop} (h : P a) : ∃ x, D.tup a = .tup x ∧ P x := ⟨a, rfl, h⟩
theorem ex_int {a : Int} {P : Int → Prop} (h : P a) : ∃ x, D.int a = .int x ∧ P x := ⟨a, rfl, h⟩
theorem ex_i1 {a : Int} {P : Int → Prop} (h : P a) : ∃ x, [D.int a] = [.int x] ∧ P x := ⟨a, rfl, h⟩
theorem ex_i2 {a b : Int} {P : Int → Int → Prop} (h : P a b) : ∃ x y, [D.int a, D.int b] = [.int x, .int y] ∧ P x y := ⟨a, b, rfl, h⟩
theorem ex_p2 {a b : D} {P : D → D → Prop} (h : P a b) : ∃ x y, [a, b] = [x, y] ∧ P x y := ⟨a, b, rfl, h⟩
theorem tru_bl {b : Bool} {P : Bool → Prop} (h : P b) : ∃ k, truD (.bl b) = some k ∧ (∀ x, D.bl b = .str x → x.length ≤ sizeLine) ∧ P k := ⟨b, rfl, (fun _ e => nomatch e), h⟩
theorem tru_int {b : Int} {P : Bool → Prop} (h : P (b != 0)) : ∃ k, truD (.int b) = some k ∧ (∀ x, D.int b = .str x → x.length ≤ sizeLine) ∧ P k := ⟨_, rfl, (fun _ e => nomatch e), h⟩
theorem tru_non {P : Bool → Prop} (h : P false) : ∃ k, truD .non = some k ∧ (∀ x, D.non = .str x → x.length ≤ sizeLine) ∧ P k := ⟨_, rfl, (fun _ e => nomatch e), h⟩
theorem tru_lst {b : List D} {P : Bool → Prop} (h : P (!b.isEmpty)) : ∃ k, truD (.lst b) = some k ∧ (∀ x, D.lst b = .str x → x.length ≤ sizeLine) ∧ P k := ⟨_, rfl, (fun _ e => nomatch e), h⟩
theorem tru_tup {b : List D} {P : Bool → Prop} (h : P (!b.isEmpty)) : ∃ k, truD (.tup b) = some k ∧ (∀ x, D.tup b = .str x → x.length ≤ sizeLine) ∧ P k := ⟨_, rfl, (fun _ e => nomatch e), h⟩
section
variable {K : PySem.W.Frag} {δ : En} {M : Mem} {Q : D → Mem → Prop} {d e : D}
theorem de_varE {i : Nat} (h : ∃ d, δ[i]? = some (some d) ∧ Q d M) : DE K (tVar i) δ M Q := let ⟨_, a, b⟩ := h; de_var a b
theorem dr_IE {C : Int → Int → Prop} {f : Int → Int → Int} {i j : Int} (h : C i j ∧ Q (.int (f i j)) M) : DR K (rI C fun i j => .int (f i j)) (.int i) (.int j) M Q := dr_I h.1 h.2
theorem dr_ixDE0 {p : Addr} (h : M p = some .die ∧ ∀ i : Int, Q (.int i) M) : DR K (rIx K) (.raw (.ref p)) (.int 0) M Q := dr_ixD0 h.1 h.2
theorem dr_ixDE1 {p : Addr} (h : M p = some .die ∧ ∀ i : Int, Q (.int i) M) : DR K (rIx K) (.raw (.ref p)) (.int 1) M Q := dr_ixD1 h.1 h.2
theorem dr_ixDE2 {p : Addr} (h : M p = some .die ∧ ∀ i : Int, Q (.int i) M) : DR K (rIx K) (.raw (.ref p)) (.int 2) M Q := dr_ixD2 h.1 h.2
theorem dc_len_lst {xs : List D} (h : Q (.int (xs.length : Int)) M) : DC K (fun xs H Q => ∃ x n, xs = [x] ∧ LenV K x H n ∧ Q (.int n) H) [.lst xs] M Q := dc_len (n := xs.length) rfl (fun _ e => nomatch e) h
theorem dc_len_tup {xs : List D} (h : Q (.int (xs.length : Int)) M) : DC K (fun xs H Q => ∃ x n, xs = [x] ∧ LenV K x H n ∧ Q (.int n) H) [.tup xs] M Q := dc_len (n := xs.length) rfl (fun _ e => nomatch e) h
theorem dr_ixLE {xs : List D} {i : Int} (h : ∃ d, atI xs i = some d ∧ Q d M) : DR K (rIx K) (.lst xs) (.int i) M Q := let ⟨_, a, b⟩ := h; dr_ixL a b
end
theorem ite_b {b : Bool} {A B : Prop} (h1 : b = true → A) (h2 : b = false → B) : if b = true then A else B := by
  cases b with
  | true => rw [if_pos rfl]; exact h1 rfl
  | false => rw [if_neg Bool.false_ne_true]; exact h2 rfl
theorem ite_d {p : Prop} [Decidable p] {A B : Prop} (h1 : p → A) (h2 : ¬ p → B) : if decide p = true then A else B := ite_b (fun h => h1 (of_decide_eq_true h)) fun h => h2 (of_decide_eq_false h)
theorem ite_nn {b : Bool} {A B : Prop} (h : if b = true then B else A) : if (!b) = true then A else B := by cases b <;> exact h
theorem ite_1 {A B : Prop} (h : A) : if true = true then A else B := by rw [if_pos rfl]; exact h
theorem ite_0 {A B : Prop} (h : B) : if false = true then A else B := by rw [if_neg Bool.false_ne_true]; exact h
end DL
set_option Elab.async false
set_option linter.all false
set_option maxRecDepth 100000
set_option maxHeartbeats 4000000
namespace DL
open PySem PySem.Spec PyProof.Rows L2
section
variable {K : PySem.W.Frag} {δ : En} {M : Mem} {Q : D → Mem → Prop} {te : TE} {tt : TT} {wi : TI} {vs : List Nat} {j : Nat} {t : TS} {q : DK}
theorem take_snoc {α : Type} {l : List α} {i : Nat} {x : α} (h : l[i]? = some x) : l.take (i + 1) = l.take i ++ [x] := by
  rw [List.take_add_one, h]
  rfl
theorem take_lt {α : Type} {l : List α} {i : Nat} {x : α} (h : l[i]? = some x) : i < l.length := (List.getElem?_eq_some_iff.mp h).1
theorem mem_of_get {α : Type} {l : List α} {i : Nat} {x : α} (h : l[i]? = some x) : x ∈ l := List.mem_of_getElem? h
theorem de_map (hj : j ∈ vs) (h : DI K wi δ M fun ds M1 => ds.length < sizeLine ∧ ∃ f : D → D, (∀ d, d ∈ ds → DE K te ((wipeD δ vs).set j (some d)) M1 fun e M4 => M4 = M1 ∧ e = f d) ∧ Q (.lst (ds.map f)) M1) : DE K (tLc wi (gName j) tYes te vs) δ M Q := by
  refine de_lc (js := [j]) (fun i hi => by rw [List.mem_singleton] at hi; rw [hi]; exact hj) ?_
  intro F σ H en m R k
  refine h F σ H en m R fun ds M1 J H1 z => k ds M1 J H1 ?_
  obtain ⟨hz, f, hf, q⟩ := z
  refine ⟨fun i acc => acc = (ds.take i).map f, rfl, fun i d acc hd hacc => dg_name ⟨rfl, dt_yes ⟨rfl, ?_⟩⟩, fun acc hacc => ?_⟩
  · rw [if_pos rfl]
    refine (hf d (mem_of_get hd)).imp fun e M4 he => ⟨he.1, ?_, ?_⟩
    · have := take_lt hd
      rw [hacc, List.length_map, List.length_take]; omega
    · dsimp only at hacc ⊢
      rw [hacc, he.2, take_snoc hd, List.map_append]; rfl
  · dsimp only at hacc
    rw [hacc, List.take_length]; exact q
where
  pair_snoc {α β : Type} {r : α → β → Prop} : ∀ {xs : List α} {ys : List β} {x : α} {y : β}, Paired r xs ys → r x y → Paired r (xs ++ [x]) (ys ++ [y])
    | _, _, _, _, .nil, h => .cons h .nil
    | _, _, _, _, .cons a b, h => .cons a (pair_snoc b h)
end
end DL
set_option Elab.async false
set_option linter.all false
set_option maxRecDepth 100000
set_option maxHeartbeats 4000000
namespace DL
open PySem PySem.Spec PyProof.Rows L2
section
variable {K : PySem.W.Frag} {G : Hp}
theorem RepS.look : ∀ {xs : List (Str × V)} {ds : List (Str × D)} {f : Str} {d : D}, RepS K G xs ds → ds.lookup f = some d → ∃ v, xs.lookup f = some v ∧ Rep K G v d
  | _, _, _, _, .nil, h => by cases h
  | _, _, f, _, .cons (k := k) a b, h => by
    by_cases e : (f == k) = true
    · simp only [List.lookup, e] at h ⊢
      cases h
      exact ⟨_, rfl, a⟩
    · have e : (f == k) = false := by simpa using e
      simp only [List.lookup, e] at h ⊢
      exact RepS.look b h
theorem RepS.none : ∀ {xs : List (Str × V)} {ds : List (Str × D)} {f : Str}, RepS K G xs ds → ds.lookup f = Option.none → xs.lookup f = Option.none
  | _, _, _, .nil, _ => rfl
  | _, _, f, .cons (k := k) a b, h => by
    by_cases e : (f == k) = true
    · simp only [List.lookup, e] at h; cases h
    · have e : (f == k) = false := by simpa using e
      simp only [List.lookup, e] at h ⊢
      exact RepS.none b h
theorem RepS.length : ∀ {xs : List (Str × V)} {ds : List (Str × D)}, RepS K G xs ds → xs.length = ds.length
  | _, _, .nil => rfl
  | _, _, .cons _ b => congrArg (· + 1) (RepS.length b)
def putD (f : Str) (v : D) : List (Str × D) → List (Str × D)
  | [] => [(f, v)]
  | (k, x) :: r => if k = f then (k, v) :: r else (k, x) :: putD f v r
theorem RepS.put {f : Str} {v : V} {d : D} (h : Rep K G v d) : ∀ {xs : List (Str × V)} {ds : List (Str × D)}, RepS K G xs ds → RepS K G (putF f v xs) (putD f d ds)
  | _, _, .nil => .cons h .nil
  | _, _, .cons (k := k) (v := y) (vs := ys) a b => by
    show RepS K G (if k = f then (k, v) :: ys else (k, y) :: putF f v ys) (if k = f then _ else _)
    by_cases e : k = f
    · rw [if_pos e, if_pos e]; exact .cons h b
    · rw [if_neg e, if_neg e]; exact .cons a (RepS.put h b)
end
section
variable {K : PySem.W.Frag} {δ : En} {M : Mem} {Q : D → Mem → Prop} {te ta tv : TE} {tr : TA} {q : DK} {C : Addr} {f m : Str} {d : D}
def FldOf (K : PySem.W.Frag) (f : Str) (d : D) (M : Mem) (Q : D → Mem → Prop) : Prop := ∃ (C : Addr) (fs : List (Str × D)) (v : D), (d = .obj C fs ∨ ∃ p, d = .raw (.ref p) ∧ M p = some (.ins C fs)) ∧ Cls K C ∧ NoAttr K C f ∧ fs.lookup f = some v ∧ Q v M
theorem fld_obj {fs : List (Str × D)} {v : D} (c : Cls K C) (n : NoAttr K C f) (h : fs.lookup f = some v) (q : Q v M) : FldOf K f (.obj C fs) M Q := ⟨C, fs, v, .inl rfl, c, n, h, q⟩
theorem fld_mut {p : Addr} {fs : List (Str × D)} {v : D} (hp : M p = some (.ins C fs)) (c : Cls K C) (n : NoAttr K C f) (h : fs.lookup f = some v) (q : Q v M) : FldOf K f (.raw (.ref p)) M Q := ⟨C, fs, v, .inr ⟨p, rfl, hp⟩, c, n, h, q⟩
theorem de_fld (h : DE K te δ M fun d M1 => FldOf K f d M1 Q) : DE K (tFld K te f) δ M Q := fun F σ H en m QV k => by
  refine h F σ H en m _ fun d M1 v H1 z g1 r1 => ?_
  obtain ⟨C, fs, u, ho, c, n, hl, z⟩ := z
  rcases ho with rfl | ⟨p, rfl, hp⟩
  · cases r1 with
    | obj e r =>
      obtain ⟨w, hw, rw'⟩ := r.look hl
      exact ⟨_, C, _, _, w, rfl, vis_le _ _ e, c, n, hw, k u M1 w H1 z g1 rw'⟩
  · cases r1
    obtain ⟨ho, e, ro⟩ := g1.ok.mo p _ hp
    cases ro with
    | ins ro =>
      obtain ⟨w, hw, rw'⟩ := ro.look hl
      exact ⟨p, C, _, _, w, rfl, e, c, n, hw, k u M1 w H1 z g1 rw'⟩
theorem ds_fld (h : DE K tv δ M fun d M1 => DE K ta δ M1 fun o M2 => ∃ p C fs, o = .raw (.ref p) ∧ M2 p = some (.ins C fs) ∧ Cls K C ∧ NoAttr K C f ∧ fs.length < 1000 ∧ q.nx δ (mup M2 p (.ins C (putD f d fs)))) : DS K (sFld K ta tv f) δ M q := fun F σ H en m E n r b c => by
  refine h F σ H en m _ fun d M1 v H1 z g1 r1 => ?_
  refine z F σ H1 (en.mono g1.ex) g1.ok _ fun o M2 w H2 z2 g2 r2 => ?_
  obtain ⟨p, C, fs, rfl, hp, hc, hn, hl, z2⟩ := z2
  cases r2
  obtain ⟨ho, e, ro⟩ := g2.ok.mo p _ hp
  cases ro with
  | @ins _ dx xs _ ro =>
    refine ⟨p, C, dx, xs, rfl, e, hc, hn, by rw [ro.length]; exact hl, ?_⟩
    have g3 := go_mut (m := .ins C (putD f d fs)) g2.ok hp (.ins (dx := dx) (ro.put (r1.mono g2.ex)))
    exact n δ _ σ _ z2 ((g1.trans g2).trans g3) (((en.mono g1.ex).mono g2.ex).mono g3.ex)
theorem de_meth {p : PT0} {E : XK} (h : DE K te δ M fun d M1 => ∃ fs, d = .obj C fs ∧ fs.lookup m = none ∧ DA K tr δ M1 fun ds M2 => p (d :: ds) M2 Q) : DE K (tMeth C m (spD K p) [] E te tr) δ M Q := fun F σ H en mm QV k => by
  refine h F σ H en mm _ fun d M1 v H1 z g1 r1 => ?_
  obtain ⟨fs, rfl, hl, z⟩ := z
  cases r1 with
  | @obj a _ dx xs _ e r =>
    refine ⟨a, dx, xs, rfl, vis_le _ _ e, r.none hl, z F σ H1 (en.mono g1.ex) g1.ok _ fun ds M2 vs H2 z2 g2 r2 => ?_⟩
    rw [List.append_nil]
    exact ⟨F, M2, .obj C fs :: ds, Q, .cons (.obj (g2.ex _ _ e) (r.mono g2.ex)) r2, g2.ok, z2, fun d M3 u H3 q3 g3 r3 => k d M3 u H3 q3 ((g1.trans g2).trans g3) r3⟩
theorem de_make {p : PT0} {E : XK} (h : DA K tr δ M fun ds M1 => ∀ x, M1 x = none → p (.raw (.ref x) :: ds) (mup M1 x (.ins C [])) fun d M2 => ∃ fs, d = .non ∧ M2 = mup M1 x (.ins C fs) ∧ Q (.obj C fs) M1) : DE K (tMake C (spD K p) [] E tr) δ M Q := fun F σ H en m QV k => by
  refine h F σ H en m _ fun ds M1 vs H1 z g1 r1 x dx hx hdx hne => ?_
  rw [List.append_nil]
  obtain ⟨g2, _⟩ := go_new (o := .own x) g1.ok hdx
  have hx2 : upd H1 dx (.own x) x = none := by rw [upd_ne hne.symm]; exact hx
  have g3 := go_newM (o := .ins C dx []) (m := .ins C []) g2.ok hx2 (.ins .nil)
  have g := (g1.trans g2).trans g3
  have mx := (g1.ok.new hx).2
  refine ⟨F, mup M1 x (.ins C []), .raw (.ref x) :: ds, _, .cons (.raw _) ((r1.mono g2.ex).mono g3.ex), g3.ok, z x mx, fun d M2 u H2 hq g4 r4 => ?_⟩
  obtain ⟨fs, rfl, rfl, q⟩ := hq
  cases r4
  refine ⟨rfl, ?_⟩
  obtain ⟨g5, f5⟩ := go_frz g4.ok (mup_same (M := M1) (a := x) (o := .ins C fs))
  have em : mdel (mup M1 x (.ins C fs)) x = M1 := mdel_mup mx
  rw [em] at g5
  refine k _ M1 _ H2 q ((g.trans g4).trans g5) ?_
  obtain ⟨ho, e, ro⟩ := g4.ok.mo x _ (mup_same (M := M1) (a := x) (o := .ins C fs))
  cases ro with
  | ins ro => exact .obj (vis_mk e f5 mx) (ro.mono g5.ex)
end
structure Kc (K : PySem.W.Frag) (mg : Str → Option Value) (x : Str) (C : Addr) : Prop where
  g : mg x = some (.ref C)
  c : Cls K C
structure MTx (K : PySem.W.Frag) (C : Addr) (m qual : Str) (st : Stmt) : Prop where
  ex : ∃ (f : Addr) (fd : FuncData), Fun K m qual st f fd ∧ Meth K C m f
structure PTx (K : PySem.W.Frag) (C : Addr) (m qual : Str) (st : Stmt) : Prop where
  ex : ∃ (f p : Addr) (fd : FuncData), Fun K m qual st f fd ∧ PropOf K C m p f
structure Dm (P : Program) (w : World) (K : PySem.W.Frag) (mg : Str → Option Value) (base : Heap) (k : Nat) (C : Addr) (m : Str) (ps : List Str) (p : PT0) : Prop where
  ex : ∃ (f : Addr) (fd : FuncData), FnG P w K mg base k f fd ps p ∧ Meth K C m f ∧ Binds K fd ps []
structure Dpr (P : Program) (w : World) (K : PySem.W.Frag) (mg : Str → Option Value) (base : Heap) (k : Nat) (C : Addr) (m : Str) (ps : List Str) (p : PT0) : Prop where
  ex : ∃ (f pr : Addr) (fd : FuncData), FnG P w K mg base k f fd ps p ∧ PropOf K C m pr f ∧ Binds K fd ps []
section
variable {P : Program} {w : World} {K : PySem.W.Frag} {mg : Str → Option Value} {base : Heap} {C : Addr}
theorem fb_ok {x qual : Str} {st : Stmt} {N ps : List Str} {k : Nat} {p : PT0} {f : Addr} {fd : FuncData} (Fu : Fun K x qual st f fd) (S : FnScope N ps (defScope st)) (len : ∀ ds M R, p ds M R → ds.length = ps.length)
    (hb : ∀ (kV doc pm : Value) (an : Option Addr) (cdv ct : Value) (us : List Value), us.length = ps.length → bindArgs (PySem.W.fnOf x qual (defArgs st) (defBody st) (defScope st) .none kV doc pm an cdv ct) ⟨us, []⟩ = pure (ps.zip us))
    (body : ∀ (cdv : Value) (A : Around) (ou : List Env) (s : Shared) (H : Hp) {f : Addr}, Room k (A.deeper (envOfC qual (defScope st) s.heap.objs.size f cdv)) → (A.deeper (envOfC qual (defScope st) s.heap.objs.size f cdv)).guards = some [] →
      ∃ t, PSs (cxOf CX0 P w K mg base N qual (defScope st) f cdv A ou s H E0).nox (defBody st) t ∧ ∀ ds M R, p ds M R → DS K t (ds.map some ++ List.replicate (N.length - ds.length) none) M { nx := fun _ M' => R .non M', rt := R }) :
    FnG P w K mg base (k + 1) f fd ps p ∧ Binds K fd ps [] :=
  ⟨g_of (P := P) (w := w) (mg := mg) (base := base) (k := k) (p := p) Fu S len fun cdv A ou s H hr gd => body cdv A ou s H hr gd, Fu.binds (ps := ps) hb⟩
theorem dm_ok {m qual : Str} {st : Stmt} {N ps : List Str} {k : Nat} {p : PT0} (T : MTx K C m qual st) (S : FnScope N ps (defScope st)) (len : ∀ ds M R, p ds M R → ds.length = ps.length)
    (hb : ∀ (kV doc pm : Value) (an : Option Addr) (cdv ct : Value) (us : List Value), us.length = ps.length → bindArgs (PySem.W.fnOf m qual (defArgs st) (defBody st) (defScope st) .none kV doc pm an cdv ct) ⟨us, []⟩ = pure (ps.zip us))
    (body : ∀ (cdv : Value) (A : Around) (ou : List Env) (s : Shared) (H : Hp) {f : Addr}, Room k (A.deeper (envOfC qual (defScope st) s.heap.objs.size f cdv)) → (A.deeper (envOfC qual (defScope st) s.heap.objs.size f cdv)).guards = some [] →
      ∃ t, PSs (cxOf CX0 P w K mg base N qual (defScope st) f cdv A ou s H E0).nox (defBody st) t ∧ ∀ ds M R, p ds M R → DS K t (ds.map some ++ List.replicate (N.length - ds.length) none) M { nx := fun _ M' => R .non M', rt := R }) :
    Dm P w K mg base (k + 1) C m ps p := by
  obtain ⟨f, fd, Fu, h⟩ := T.ex
  obtain ⟨G, b⟩ := fb_ok (P := P) (w := w) (mg := mg) (base := base) (k := k) (p := p) Fu S len hb body
  exact ⟨f, fd, G, h, b⟩
theorem dp_ok {m qual : Str} {st : Stmt} {N ps : List Str} {k : Nat} {p : PT0} (T : PTx K C m qual st) (S : FnScope N ps (defScope st)) (len : ∀ ds M R, p ds M R → ds.length = ps.length)
    (hb : ∀ (kV doc pm : Value) (an : Option Addr) (cdv ct : Value) (us : List Value), us.length = ps.length → bindArgs (PySem.W.fnOf m qual (defArgs st) (defBody st) (defScope st) .none kV doc pm an cdv ct) ⟨us, []⟩ = pure (ps.zip us))
    (body : ∀ (cdv : Value) (A : Around) (ou : List Env) (s : Shared) (H : Hp) {f : Addr}, Room k (A.deeper (envOfC qual (defScope st) s.heap.objs.size f cdv)) → (A.deeper (envOfC qual (defScope st) s.heap.objs.size f cdv)).guards = some [] →
      ∃ t, PSs (cxOf CX0 P w K mg base N qual (defScope st) f cdv A ou s H E0).nox (defBody st) t ∧ ∀ ds M R, p ds M R → DS K t (ds.map some ++ List.replicate (N.length - ds.length) none) M { nx := fun _ M' => R .non M', rt := R }) :
    Dpr P w K mg base (k + 1) C m ps p := by
  obtain ⟨f, pr, fd, Fu, h⟩ := T.ex
  obtain ⟨G, b⟩ := fb_ok (P := P) (w := w) (mg := mg) (base := base) (k := k) (p := p) Fu S len hb body
  exact ⟨f, pr, fd, G, h, b⟩
end
section
variable {X : Cx} {P : Program} {w : World} {K : PySem.W.Frag} {mg : Str → Option Value} {base : Heap} {C : Addr} {k : Nat} {m x : Str} {ps : List Str} {p : PT0} {o e : Expr} {es : List Expr} {ta : TE} {t : TA} {apos pos pp : Pos} {pl : Sem Bool}
theorem pe_methD (h : Dm P w K mg base k C m ps p) (c : Cls K C) (hr : Room k X.A) (gd : X.A.guards = some []) (he : PE X o ta) (ha : PA X (e :: es) t) (hX : Is X P w K mg base := by exact ⟨rfl, rfl, rfl, rfl, rfl⟩)
    (hst : starEach (e :: es) X.env = (false, eval e X.env) :: starEach es X.env := by rfl) (hpl : (backTo pos (starEach es X.env)).any (·.1) = false := by rfl)
    (ht : eval (.Call (.Attribute o m apos) (e :: es) [] pos) X.env = (do
      let ov ← eval o X.env
      standAt apos.atName
      let (f, first) ← holding [ov] (getMethod ov m pl)
      callWith pos f first (backTo pos (starEach (e :: es) X.env)) (backToKw pos (keywordEach [] X.env))) := by rfl) : PE X (.Call (.Attribute o m apos) (e :: es) [] pos) (tMeth C m (spD K p) [] E0 ta t) := by
  obtain ⟨rfl, rfl, rfl, rfl, rfl⟩ := hX
  obtain ⟨f, fd, G, hm, b⟩ := h.ex
  refine ⟨fun pins s σ H Q I z => PySem.W.methodCall_KW (pl := pl) (wpAny_mono (he.run pins s σ H _ I z) (fun u s1 hs => ?_) fun _ _ hs => hs) ht⟩
  obtain ⟨v, H1, I1, r1, a, dx, fs, rfl, ea, l, q⟩ := hs
  cases r1
  refine getmeth_ok I1 ea c hm l (PySem.W.callWith_K (first := [.ref a]) (h₀ := X.base) I.ok.mod.kin hm.kp (wpAny_mono (ha.run pos pins s1 σ H1 _ I1 q) (fun us s2 hs => ?_) fun _ _ hs => hs) hst hpl)
  obtain ⟨vs, H2, I2, r, q2⟩ := hs
  rw [List.append_nil] at q2
  exact ⟨I2.kIn, run_g (us := .ref a :: us) (vs := .ref a :: vs) G hr gd b I2 (.cons rfl r) q2⟩
theorem get_g {pins : List (Addr × Obj)} {σ : Sg} {H : Hp} {s : Shared} {Q : VK} {bb : Bool} {Z : Value → Shared → Prop} {X : Cx} {C pr g a dx : Addr} {fs : List (Str × V)} {f : Str} {fd : FuncData} {ps : List Str} {k : Nat} {p : PT0} (I : Inv X pins σ H s) (ea : H a = some (.ins C dx fs)) (c : Cls X.K C) (hp : PropOf X.K C f pr g)
    (F : FnG X.prog X.w X.K X.mg X.base k g fd ps p) (hr : Room (k + 1) X.A) (gd : X.A.guards = some []) (hb : Binds X.K fd ps []) (h : spD X.K p [.ref a] H Q E0) : wpAny (model X.prog X.w) X.A (getAttr (.ref a) f bb) (EP X pins σ Q) Z s := by
  obtain ⟨mA, O, _⟩ := ins_get I.hok ea
  obtain ⟨od, J, _⟩ := O.look
  obtain ⟨rest, hrec⟩ := hp.rec_
  have hl : ([Value.ref a] ++ ([] : List Value)).length = ps.length := by rw [← spD_len F.len h]; rfl
  have hc : (PySem.W.clsIn X.K C).isSome = true := by
    obtain ⟨cd, hc, _⟩ := PySem.W.any_some c.hd
    rw [hc]
    rfl
  have I1 := I.tok (s.toks + 1)
  have bt := hb { s with toks := s.toks + 1 } [.ref a] I1.kIn hl
  rw [List.append_nil] at bt
  refine PySem.W.get_bind I.kIn J (PySem.W.plainGet_of (c.get f)).1 (PySem.W.findObj_data hc hp.at_ hp.get hp.tak) (PySem.W.plainGet_of (c.get f)).2 (wpAny_call (PySem.W.prop_get (s := { s with toks := s.toks + 1 }) I.kIn hrec ?_))
  refine codeAny_mono (F.run X.A.in1 X.stack _ H ⟨[.ref a], []⟩ [.ref a] [.ref a] Q hr.in1 gd I1.env0.in1 bt (.cons rfl .nil) h) fun r s' hq => ?_
  obtain ⟨u, rfl, v, H', I3, rv, q3⟩ := back_of (E := Z) (I1.wish _) hq
  show wpAny _ _ (handedOut u) _ _ _
  rw [PySem.W.handedOut_of (handed_of rv)]
  exact wpAny_pure ⟨v, H', I3, rv, q3⟩
theorem pe_propD (h : Dpr P w K mg base k C m ps p) (c : Cls K C) (hr : Room (k + 1) X.A) (gd : X.A.guards = some []) (he : PE X o ta) (hab : attributeBase o m X.env (eval o X.env) = eval o X.env := by rfl) (hX : Is X P w K mg base := by exact ⟨rfl, rfl, rfl, rfl, rfl⟩) :
    PE X (.Attribute o m pos) (tProp C (spD K p) [] E0 ta) := by
  obtain ⟨rfl, rfl, rfl, rfl, rfl⟩ := hX
  obtain ⟨f, pr, fd, G, hm, b⟩ := h.ex
  refine ⟨fun pins s σ H Q I z => attr_of hab (wpAny_mono (he.run pins s σ H _ I z) (fun u s1 hs => ?_) fun _ _ hs => hs)⟩
  obtain ⟨v, H1, I1, r1, a, dx, fs, rfl, ea, q⟩ := hs
  cases r1
  exact get_g I1 ea c hm G hr gd b q
theorem pe_makeD (h : Dm P w K mg base k C "__init__" ps p) (hK : Kc K mg x C) (hmk : ∃ f, Mk K C f) (hr : Room (k + 1) X.A) (gd : X.A.guards = some []) (hg : Gl X x) (ha : PA X (e :: es) t) (hX : Is X P w K mg base := by exact ⟨rfl, rfl, rfl, rfl, rfl⟩) (hd : (x == ("__debug__" : Str)) = false := by decide)
    (hst : starEach (e :: es) X.env = (false, eval e X.env) :: starEach es X.env := by rfl) (hpl : (backTo pos (starEach es X.env)).any (·.1) = false := by rfl) : PE X (.Call (.Name x pp) (e :: es) [] pos) (tMake C (spD K p) [] E0 t) := by
  obtain ⟨rfl, rfl, rfl, rfl, rfl⟩ := hX
  obtain ⟨f, fd, G, hm, b⟩ := h.ex
  obtain ⟨f', mk⟩ := hmk
  have e1 := mk.init.symm.trans hm.at_
  obtain rfl : f' = f := by cases e1; rfl
  refine ⟨fun pins s σ H Q I z => wpAny_Call_Name_kw (ld_glob I hg hK.g ?_ hd)⟩
  refine PySem.W.callWith_K (h₀ := X.base) I.ok.mod.kin mk.kp (wpAny_mono (ha.run pos pins s σ H _ I z) (fun us s1 hs => ?_) fun _ _ hs => hs) hst hpl
  obtain ⟨vs, H1, I1, r, q⟩ := hs
  refine ⟨I1.kIn, ?_⟩
  have hq := q (s1.heap.objs.size + 1) s1.heap.objs.size (I1.hok.fresh (Nat.le_succ _)) (I1.hok.fresh (Nat.le_refl _)) (Nat.ne_of_lt (Nat.lt_succ_self _))
  rw [List.append_nil] at hq
  have I2 := Inv.made (C := C) I1
  have r2 : Vals (V.ref (s1.heap.objs.size + 1) :: vs) (Value.ref (s1.heap.objs.size + 1) :: us) := .cons rfl r
  have hl : (Value.ref (s1.heap.objs.size + 1) :: us ++ ([] : List Value)).length = ps.length := by rw [List.append_nil, ← r2.length, spD_len G.len hq]
  have bt := b _ (Value.ref (s1.heap.objs.size + 1) :: us) I2.kIn hl
  rw [List.append_nil] at bt
  refine wpAny_call (make_map (f := f') I1.kIn mk.makes mk.init (beq_iff_eq.mp mk.fn) (codeAny_mono (G.run _ X.stack _ _ ⟨_, []⟩ _ _ _ (hr.make C us []) gd (I2.env0.make C us []) bt r2 hq) fun r s' hs => ?_))
  obtain ⟨u, rfl, v, H', I3, rv, ev, q3⟩ := back_of (E := X.xe) I2 hs
  subst ev
  exact ⟨rv, ⟨V.ref (s1.heap.objs.size + 1), H', I3, rfl, q3⟩⟩
end
section
variable {K : PySem.W.Frag} {M : Mem} {Q : D → Mem → Prop} {d : D}
end
section
variable {X : Cx} {o e value : Expr} {ta tv : TE} {f : Str} {pos pos' : Pos}
theorem pe_fldK (K : PySem.W.Frag) (he : PE X e ta) (hb : attributeBase e f X.env (eval e X.env) = eval e X.env := by rfl) (h : X.K = K := by rfl) : PE X (.Attribute e f pos) (tFld K ta f) := by subst h; exact pe_fld he hb
theorem ps_fldK (K : PySem.W.Frag) (ha : PE X o ta) (hv : PE X value tv) (hs : swapsWith value (some (.Attribute o f pos')) pos.line X.env = pure false := by rfl) (h : X.K = K := by rfl) : PS X (.Assign [.Attribute o f pos'] value pos) (sFld K ta tv f) := by subst h; exact ps_fld ha hv hs
end
end DL
set_option Elab.async false
set_option linter.all false
set_option maxRecDepth 100000
set_option maxHeartbeats 4000000
namespace DL
open PySem PySem.Spec PyProof.Rows L2
theorem and_nat (a b : Nat) : Builtin.bitAnd (a : Int) (b : Int) = ((a &&& b : Nat) : Int) := rfl
theorem or_nat (a b : Nat) : Builtin.bitOr (a : Int) (b : Int) = ((a ||| b : Nat) : Int) := by
  have h1 : ∀ n : Nat, Builtin.bitNot (n : Int) = Int.negSucc n := fun n => by show -(n : Int) - 1 = Int.negSucc n; omega
  have h2 : ∀ n : Nat, Builtin.bitNot (Int.negSucc n) = (n : Int) := fun n => by show -(Int.negSucc n) - 1 = (n : Int); omega
  unfold Builtin.bitOr
  rw [h1, h1]
  have e : Builtin.bitAnd (Int.negSucc a) (Int.negSucc b) = Builtin.bitNot (((Builtin.bitNot (Int.negSucc a)).toNat ||| (Builtin.bitNot (Int.negSucc b)).toNat : Nat) : Int) := rfl
  rw [e, h2, h2, h1, h2, Int.toNat_natCast, Int.toNat_natCast]
section
variable {K : PySem.W.Frag} {M : Mem} {Q : D → Mem → Prop}
theorem dr_orN {a b : Nat} (q : Q (.int ((a ||| b : Nat) : Int)) M) : DR K (rI0 fun i j => .int (Builtin.bitOr i j)) (.int (a : Int)) (.int (b : Int)) M Q := dr_I0 (by rw [or_nat]; exact q)
theorem dr_andN {a b : Nat} (q : Q (.int ((a &&& b : Nat) : Int)) M) : DR K (rI0 fun i j => .int (Builtin.bitAnd i j)) (.int (a : Int)) (.int (b : Int)) M Q := dr_I0 (by rw [and_nat]; exact q)
theorem dr_shlN {a b : Nat} (ha : a < 2 ^ 64) (hb : b ≤ 1000000) (q : Q (.int ((a * 2 ^ b : Nat) : Int)) M) : DR K (rI CPow fun i j => .int (i * 2 ^ j.toNat)) (.int (a : Int)) (.int (b : Int)) M Q :=
  dr_I ⟨by omega, by omega, by simpa using ha⟩ (by rw [Int.toNat_natCast]; push_cast at q; exact q)
theorem dr_shrN {a b : Nat} (q : Q (.int ((a / 2 ^ b : Nat) : Int)) M) : DR K (rI (fun _ j => 0 ≤ j) fun i j => .int (i / 2 ^ j.toNat)) (.int (a : Int)) (.int (b : Int)) M Q :=
  dr_I (by omega) (by rw [Int.toNat_natCast]; push_cast at q; exact q)
end
section
variable {K : PySem.W.Frag} {δ : En} {M : Mem} {Q : D → Mem → Prop} {te : TE} {tr : TA} {d : D} {xs : List D}
def rListO (K : PySem.W.Frag) : List V → Hp → VK → Prop := fun xs H Q => ∃ p ys, xs = [.ref p] ∧ (SqL K H p ys ∨ SqT K H p ys) ∧ ∀ l, H l = none → Q (.ref l) (upd H l (.lst ys))
def rTupO (K : PySem.W.Frag) : List V → Hp → VK → Prop := fun xs H Q => ∃ p ys, xs = [.ref p] ∧ ((SqL K H p ys ∧ ∀ l, H l = none → Q (.ref l) (upd H l (.tup ys))) ∨ (SqT K H p ys ∧ Q (.ref p) H))
theorem call_listK {X : Cx} (K : PySem.W.Frag) (h : X.K = K := by rfl) : CallR X (.type "list") (rListO K) := by subst h; exact call_list_of
theorem call_tupleK {X : Cx} (K : PySem.W.Frag) (h : X.K = K := by rfl) : CallR X (.type "tuple") (rTupO K) := by subst h; exact call_tuple_of
theorem call_sumK {X : Cx} (K : PySem.W.Frag) (hc : X.calm = true := by rfl) (h : X.K = K := by rfl) : CallR X (.builtin "sum") (rSum K) := by subst h; exact cr_sum hc
theorem vs1 {F : Fm} {H : Hp} {vs : List V} (r : RepL K (vis H M F) vs [d]) : ∃ v, vs = [v] ∧ Rep K (vis H M F) v d := by
  cases r with
  | cons a b => cases b; exact ⟨_, rfl, a⟩
theorem dc_listL (q : Q (.lst xs) M) : DC K (rListO K) [.lst xs] M Q := fun F H vs m r QV k => by
  obtain ⟨v, rfl, r1⟩ := vs1 r
  clear r
  cases r1 with
  | lst s r =>
    refine ⟨_, _, rfl, .inl (vis_le.seq s), fun l hl => ?_⟩
    obtain ⟨g, e⟩ := go_new (o := .lst _) m hl
    exact k _ M _ _ q g (.lst (.inl (.inl e)) (r.mono g.ex))
theorem dc_listT (q : Q (.lst xs) M) : DC K (rListO K) [.tup xs] M Q := fun F H vs m r QV k => by
  obtain ⟨v, rfl, r1⟩ := vs1 r
  clear r
  cases r1 with
  | tup s r =>
    refine ⟨_, _, rfl, .inr (sqt_mono vis_le s), fun l hl => ?_⟩
    obtain ⟨g, e⟩ := go_new (o := .lst _) m hl
    exact k _ M _ _ q g (.lst (.inl (.inl e)) (r.mono g.ex))
theorem dc_tupL (q : Q (.tup xs) M) : DC K (rTupO K) [.lst xs] M Q := fun F H vs m r QV k => by
  obtain ⟨v, rfl, r1⟩ := vs1 r
  clear r
  cases r1 with
  | lst s r =>
    refine ⟨_, _, rfl, .inl ⟨vis_le.seq s, fun l hl => ?_⟩⟩
    obtain ⟨g, e⟩ := go_new (o := .tup _) m hl
    exact k _ M _ _ q g (.tup (.inl (.inl e)) (r.mono g.ex))
theorem dc_tupT (q : Q (.tup xs) M) : DC K (rTupO K) [.tup xs] M Q := fun F H vs m r QV k => by
  obtain ⟨v, rfl, r1⟩ := vs1 r
  clear r
  cases r1 with
  | tup s r => exact ⟨_, _, rfl, .inr ⟨sqt_mono vis_le s, k _ M _ H q (Go.refl m) (.tup s r)⟩⟩
theorem dc_sum {ns : List Int} (h : d = .lst (ns.map D.int)) (q : Q (.int ns.sum) M) : DC K (rSum K) [d] M Q := fun F H vs m r QV k => by
  subst h
  obtain ⟨v, rfl, r1⟩ := vs1 r
  clear r
  cases r1 with
  | lst s r =>
    obtain rfl := RepL.of_ints r
    exact ⟨_, ns, rfl, vis_le.seq s, k _ M _ H q (Go.refl m) (.int _)⟩
end
section
variable {K : PySem.W.Frag} {M : Mem} {Q : D → Mem → Prop} {d : D}
end
section
variable {K : PySem.W.Frag} {δ : En} {M : Mem} {Q : D → Mem → Prop} {to : TE} {tr : TA}
theorem tyV_lst {H : Hp} {p : Addr} {ys : List V} (h : SqL K H p ys) : tyV K "list" (.ref p) H := .inl ⟨rfl, ys, h⟩
theorem de_append (h : DE K to δ M fun o M1 => ∃ p ys, o = .raw (.ref p) ∧ M1 p = some (.lst ys) ∧ DA K tr δ M1 fun ds M2 => ∃ d xs, ds = [d] ∧ M2 p = some (.lst xs) ∧ xs.length < sizeLine ∧ Q .non (mup M2 p (.lst (xs ++ [d])))) : DE K (tBM K "list" rAppend to tr) δ M Q := fun F σ H en m QV k => by
  refine h F σ H en m _ fun o M1 v H1 z g1 r1 => ?_
  obtain ⟨p, ys, rfl, hp, z⟩ := z
  cases r1
  obtain ⟨h1, e1, o1⟩ := g1.ok.mo p _ hp
  cases o1 with
  | lst o1 =>
    refine ⟨tyV_lst (SqL.of e1), z F σ H1 (en.mono g1.ex) g1.ok _ fun ds M2 vs H2 z2 g2 r2 => ?_⟩
    obtain ⟨d, xs, rfl, hp2, hz, q⟩ := z2
    obtain ⟨w, rfl, rw'⟩ := vs1 r2
    obtain ⟨h2, e2, o2⟩ := g2.ok.mo p _ hp2
    cases o2 with
    | lst o2 =>
      have g3 := go_mut (m := .lst (xs ++ [d])) g2.ok hp2 (.lst (o2.append (.cons rw' .nil)))
      exact ⟨p, _, w, rfl, rfl, e2, by rw [o2.length]; exact hz, k _ _ _ _ q ((g1.trans g2).trans g3) .non⟩
end
section
variable {K : PySem.W.Frag} {δ : En} {M : Mem} {Q : D → Mem → Prop} {te : TE} {tt : TT} {g : TG} {js : List Nat}
theorem de_lcM {wi : TI} {vs : List Nat} (hj : ∀ j ∈ js, j ∈ vs) (h : DI K wi δ M fun ds M1 => ∃ Ac : Nat → List D → Mem → Prop, Ac 0 [] M1 ∧
      (∀ i d acc M', ds[i]? = some d → Ac i acc M' → DG K js g d (wipeD δ vs) M' fun δ2 M2 => DT K tt δ2 M2 fun b M3 => if b = true then DE K te δ2 M3 (fun e M4 => acc.length < sizeLine ∧ Ac (i + 1) (acc ++ [e]) M4) else Ac (i + 1) acc M3) ∧
      ∀ acc M', Ac ds.length acc M' → Q (.lst acc) M') : DE K (tLc wi g tt te vs) δ M Q := fun F σ H en m QV k => by
  refine h F σ H en m _ fun ds M1 J H1 z g1 Sn S0 => ?_
  obtain ⟨Ac, a0, at', ae⟩ := z
  intro Dl hD
  have S := Sn Dl (.lst []) hD
  obtain ⟨fD, mD⟩ := g1.ok.new hD
  have vn : Same (vis H1 M1 F) (vis (upd H1 Dl (.lst [])) M1 (fadd F Dl)) := vis_new hD
  have ok0 : MOk K (fadd F Dl) M1 (upd H1 Dl (.lst [])) := by
    obtain ⟨g, _⟩ := go_new (o := .lst []) g1.ok hD
    refine ⟨fun b hb => ?_, fun a mo hm => ?_, tb_add g1.ok.tb⟩
    · rcases fadd_of hb with hb | rfl
      · exact g.ok.fr b hb
      · exact ⟨by rw [upd_same]; simp, mD⟩
    · obtain ⟨ho, e, ro⟩ := g1.ok.mo a mo hm
      exact ⟨ho, by rw [upd_ne (ne_of_none e hD)]; exact e, ro.mono vn⟩
  refine ⟨fun i n H' => i ≤ ds.length ∧ n = ds.length - i ∧ ∃ acc xs M', Ac i acc M' ∧ MOk K (fadd F Dl) M' H' ∧ Same (vis (upd H1 Dl (.lst [])) M1 (fadd F Dl)) (vis H' M' (fadd F Dl)) ∧ (∀ b, F b = true → H' b = H1 b) ∧ H' Dl = some (.lst xs) ∧ RepL K (vis H' M' (fadd F Dl)) xs acc,
    ⟨ds.length, Nat.zero_le _, rfl, [], [], M1, a0, ok0, Same.refl _, fun b hb => upd_ne (fun e => by subst e; rw [fD] at hb; cases hb), upd_same, .nil⟩, ?_⟩
  rintro i n H' ⟨hi, rfl, acc, xs, M', ac, ok, ex, fr, hDl, rl⟩
  by_cases hl : i < ds.length
  · refine .inr ⟨S.go i M' H' hl ok ex, fun H3 => ∃ acc xs M3, Ac (i + 1) acc M3 ∧ MOk K (fadd F Dl) M3 H3 ∧ Same (vis (upd H1 Dl (.lst [])) M1 (fadd F Dl)) (vis H3 M3 (fadd F Dl)) ∧ (∀ b, F b = true → H3 b = H1 b) ∧ H3 Dl = some (.lst xs) ∧ RepL K (vis H3 M3 (fadd F Dl)) xs acc, fun H3 w => ⟨ds.length - (i + 1), by omega, by omega, rfl, w⟩, fun x H3 y => ?_⟩
    have hd : ds[i]? = some ds[i] := List.getElem?_eq_getElem hl
    obtain ⟨g3, rx⟩ := S.yl i M' H' x H3 _ hd ok ex y
    have en3 : EnvR K (vis H3 M' (fadd F Dl)) (wipe σ vs) (wipeD δ vs) := ((((en.mono g1.ex).mono vn).mono ex).mono g3.ex).wipe vs
    have back : ∀ M5 H5, Go K (fadd F Dl) M' H3 M5 H5 → Same (vis (upd H1 Dl (.lst [])) M1 (fadd F Dl)) (vis H5 M5 (fadd F Dl)) ∧ (∀ b, F b = true → H5 b = H1 b) ∧ H5 Dl = some (.lst xs) ∧ RepL K (vis H5 M5 (fadd F Dl)) xs acc := fun M5 H5 g5 =>
      ⟨(ex.trans g3.ex).trans g5.ex, fun b hb => ((g5.fr b (fadd_mk hb)).trans (g3.fr b (fadd_mk hb))).trans (fr b hb), ((g5.fr Dl fadd_self).trans (g3.fr Dl fadd_self)).trans hDl, (rl.mono g3.ex).mono g5.ex⟩
    refine at' i _ acc M' hd ac (fadd F Dl) (wipe σ vs) H3 x en3 g3.ok rx _ fun δ4 M4 σ4 H4 z4 g4 en4 w4 => ⟨?_, ?_⟩
    · rw [w4 vs hj, wipe_wipe σ vs vs fun _ h => h]
    · refine z4 (fadd F Dl) σ4 H4 en4 g4.ok _ fun bb M5 H5 z5 g5 => ?_
      have g45 := g4.trans g5
      cases bb with
      | false =>
        rw [if_neg Bool.false_ne_true] at z5
        rw [if_neg Bool.false_ne_true]
        obtain ⟨b1, b2, b3, b4⟩ := back M5 H5 g45
        exact ⟨acc, xs, M5, z5, g45.ok, b1, b2, b3, b4⟩
      | true =>
        rw [if_pos rfl] at z5
        rw [if_pos rfl]
        refine z5 (fadd F Dl) σ4 H5 (en4.mono g5.ex) g5.ok _ fun e M6 v H6 z6 g6 r6 => ?_
        obtain ⟨hz, z6⟩ := z6
        have g456 := g45.trans g6
        obtain ⟨b1, b2, b3, b4⟩ := back M6 H6 g456
        have mD6 := (g456.ok.fr Dl fadd_self).2
        have hv : ∀ o, Same (vis H6 M6 (fadd F Dl)) (vis (upd H6 Dl o) M6 (fadd F Dl)) := fun o b u hb => by
          obtain ⟨h1, h2, h3⟩ := vis_of hb
          have hne := (fadd_no h2).2
          exact vis_mk (by rw [upd_ne hne]; exact h1) h2 h3
        refine ⟨xs, b3, by rw [b4.length]; exact hz, acc ++ [e], xs ++ [v], M6, z6, ⟨fun b hb => ?_, fun a mo hm => ?_, tb_put g456.ok.tb⟩, b1.trans (hv _), fun b hb => ?_, upd_same, (b4.mono (hv _)).append (.cons (r6.mono (hv _)) .nil)⟩
        · rcases fadd_of hb with hb' | rfl
          · have hne : b ≠ Dl := fun e => by subst e; rw [fD] at hb'; cases hb'
            rw [upd_ne hne]; exact g456.ok.fr b hb
          · exact ⟨by rw [upd_same]; simp, mD6⟩
        · obtain ⟨ho, e1, ro⟩ := g456.ok.mo a mo hm
          have hne : a ≠ Dl := fun z => by subst z; rw [mD6] at hm; cases hm
          exact ⟨ho, by rw [upd_ne hne]; exact e1, ro.mono (hv _)⟩
        · have hne : b ≠ Dl := fun e => by subst e; rw [fD] at hb; cases hb
          rw [upd_ne hne]; exact b2 b hb
  · have hi' : i = ds.length := by omega
    subst hi'
    refine .inl ⟨S.stop _ M' H' rfl ok ex, ?_⟩
    have mDe := (ok.fr Dl fadd_self).2
    have sv : Same (vis H' M' (fadd F Dl)) (vis H' M' F) := fun b u hb => by
      obtain ⟨h1, h2, h3⟩ := vis_of hb
      exact vis_mk h1 (fadd_no h2).1 h3
    have g2 : Go K F M1 H1 M' H' := by
      refine ⟨⟨fun b hb => ok.fr b (fadd_mk hb), fun a mo hm => ?_, tb_back ok.tb hDl⟩, (vn.trans ex).trans sv, fr⟩
      obtain ⟨ho, e1, ro⟩ := ok.mo a mo hm
      exact ⟨ho, e1, ro.mono sv⟩
    exact k (.lst acc) M' _ H' (ae acc M' ac) (g1.trans g2) (.lst (.inl (.inl (vis_mk hDl fD mDe))) (rl.mono sv))
end
end DL
set_option Elab.async false
set_option linter.all false
set_option maxRecDepth 100000
set_option maxHeartbeats 4000000
namespace DQ
open PySem PySem.Spec PyProof.Rows L2
theorem down_places (n : Nat) : Builtin.Slice.slicePlaces ((n : Int) - 1) (-1) (-1) = n := by
  unfold Builtin.Slice.slicePlaces
  rw [if_neg (by decide)]
  by_cases h : (n : Int) - 1 > -1
  · rw [if_pos h, show (- -1 : Int) = 1 from rfl, Int.ediv_one]; omega
  · rw [if_neg h]; omega
theorem down_items {α : Type} (xs : Array α) : ((List.range xs.size).filterMap fun (m : Nat) => xs[(((xs.size : Int) - 1) + (m : Int) * (-1)).toNat]?).toArray = xs.toList.reverse.toArray := by
  congr 1
  have e : ∀ m, m ∈ List.range xs.size → xs[(((xs.size : Int) - 1) + (m : Int) * (-1)).toNat]? = xs.toList.reverse[m]? := fun m hm => by
    have hm := List.mem_range.mp hm
    have e1 : (((xs.size : Int) - 1) + (m : Int) * (-1)).toNat = xs.size - 1 - m := by omega
    rw [e1, List.getElem?_reverse (by rw [Array.length_toList]; exact hm), Array.length_toList, Array.getElem?_toList]
  have congr0 : ∀ l : List Nat, (∀ m, m ∈ l → m ∈ List.range xs.size) → l.filterMap (fun (m : Nat) => xs[(((xs.size : Int) - 1) + (m : Int) * (-1)).toNat]?) = l.filterMap fun m => xs.toList.reverse[m]? := fun l => by
    induction l with
    | nil => intro _; rfl
    | cons a r ih =>
      intro hl
      rw [List.filterMap_cons, List.filterMap_cons, e a (hl a List.mem_cons_self), ih fun m hm => hl m (List.mem_cons_of_mem _ hm)]
  rw [congr0 _ fun _ h => h]
  have key : ∀ l : List α, (List.range l.length).filterMap (fun m => l[m]?) = l := fun l => by
    refine List.ext_getElem? fun i => ?_
    induction l generalizing i with
    | nil => rfl
    | cons x r ih =>
      rw [List.length_cons, List.range_succ_eq_map, List.filterMap_cons]
      simp only [List.getElem?_cons_zero, List.filterMap_map]
      cases i with
      | zero => rfl
      | succ i =>
        rw [List.getElem?_cons_succ, List.getElem?_cons_succ]
        exact ih i
  have h2 := key xs.toList.reverse
  rw [List.length_reverse, Array.length_toList] at h2
  exact h2
section
variable {prog : Program} {w : World} {A : Around} {E : Value → Shared → Prop} {s : Shared}
theorem applied_down {sl : Addr} {vs : Value} {n : Nat} {Q : Int × Int × Nat → Shared → Prop} (hs : s.heap.IsSliceOf sl .none .none vs) (ps : IsPart vs (some (-1)))
    (h : Q ((n : Int) - 1, -1, n) s) : wpAny (model prog w) A (Builtin.Slice.sliceApplied (.ref sl) (pure (n : Int))) Q E s := by
  obtain ⟨ob, hob, _, dob⟩ := id hs
  unfold Builtin.Slice.sliceApplied Builtin.Slice.sliceFields
  refine wpAny_bind (wpAny_bind (wpAny_field hob dob (x := .none) rfl (wpAny_bind (wpAny_field hob dob (x := .none) rfl (wpAny_bind (wpAny_field hob dob (x := vs) rfl (wpAny_pure ?_)))))))
  refine wpAny_bind (HT.slicePart_ ps ?_)
  show wpAny _ _ (if (((-1 : Int)) == 0) = true then _ else _) _ _ s
  rw [if_neg (by decide)]
  refine wpAny_bind (HT.slicePart_ .none (wpAny_bind (HT.slicePart_ .none (wpAny_bind (wpAny_pure ?_)))))
  show wpAny _ _ (pure ((n : Int) - 1, (-1 : Int), Builtin.Slice.slicePlaces ((n : Int) - 1) (-1) (-1))) _ _ s
  rw [down_places]
  exact wpAny_pure h
theorem item_down {t sl : Addr} {items : Array Value} {vs : Value} {Q : Value → Shared → Prop} (ht : IsTup s.heap t items) (hs : s.heap.IsSliceOf sl .none .none vs) (ps : IsPart vs (some (-1)))
    (h : Q (.ref s.heap.objs.size) { s with heap := s.heap.push { cls := .type "tuple", data := .seq items.toList.reverse.toArray } })
    (hz : items.size ≤ sizeLine) : wpAny (model prog w) A (getItem (.ref t) (.ref sl)) Q E s := by
  obtain ⟨ob, hob, cob, dob⟩ := id hs
  have ty : s.TypeIs (.ref sl) "slice" := ⟨ob, hob, cob⟩
  have ok : sizeOk (.seq items.toList.reverse.toArray) := by
    show items.toList.reverse.toArray.size ≤ sizeLine
    rw [List.size_toArray, List.length_reverse, Array.length_toList]
    exact hz
  unfold getItem
  try with_reducible refine wpAny_holding ?_
  first | refine wpAny_bind (wpAny_pure ?_) | skip
  refine wpAny_bind (wpAny_sequenceKey ht.typeIs (by decide) ?_)
  refine wpAny_bind (wpAny_callSpecial?_slot (name := Str.ofString "__getitem__") ht.typeIs PyProof.Rows.slot_tuple_getitem (wpAny_call_entry PyProof.Rows.slot_tuple_getitem ht.typeIs entry_tuple_getitem ?_ (args_tuple_getitem _ _)))
  refine wpAny_bind (m := Builtin.Tuple.tupleItemsOf (.ref t)) (tupleItemsOf_ ht ?_)
  refine wpAny_bind (wpAny_typeOf ty ?_)
  rw [if_pos (by decide)]
  refine wpAny_bind (applied_down hs ps ?_)
  have no : ¬ ((((items.size : Int) - 1) == 0 && (-1 : Int) == 1 && items.size == items.size) = true) := by
    intro q
    rw [Bool.and_eq_true, Bool.and_eq_true] at q
    exact absurd (eq_of_beq q.1.2) (by decide)
  show wpAny _ _ (if (((items.size : Int) - 1) == 0 && (-1 : Int) == 1 && items.size == items.size) = true then _ else _) _ _ s
  rw [if_neg no, down_items]
  first
    | exact wpAny_bind (m := Builtin.Tuple.tupleExact _) (wpAny_newObj_type (wpAny_pure ⟨_, rfl, wpAny_pure h⟩) ok)
    | exact wpAny_bind (m := Builtin.Tuple.tupleExact _) (wpAny_newObj_type (wpAny_bind (wpAny_pure (wpAny_pure ⟨_, rfl, wpAny_pure h⟩))) ok)
end
end DQ
namespace DL
open PySem PySem.Spec PyProof.Rows L2
def tRevT (K : PySem.W.Frag) (te : TE) : TE := fun σ H Q => te σ H fun x H1 => ∃ a xs, x = .ref a ∧ SqT K H1 a xs ∧ ∀ p, H1 p = none → Q (.ref p) (upd H1 p (.tup xs.reverse))
theorem pe_revT {X : Cx} {e : Expr} {te : TE} {k : Nat} {p1 p2 p3 pos : Pos} (K : PySem.W.Frag) (he : PE X e te) (hK : X.K = K := by rfl) : PE X (.Subscript e (.Slice none none (some (.UnaryOp .USub (.Constant (.int 1) k p1) p2)) p3) pos) (tRevT K te) := by
  subst hK
  refine ⟨fun pins s σ H Q I z => Subscript_ (wpAny_mono (he.run pins s σ H _ I z) (fun v s1 hs => ?_) fun _ _ hs => hs)⟩
  obtain ⟨x, H1, I1, r1, a, xs, rfl, sq, q⟩ := hs
  cases r1
  have st : PO X (some (.UnaryOp .USub (.Constant (.int 1) k p1) p2)) (tPart (tUn (rU fun i => .int (-i)) (tC (.int 1)))) := po_some (pe_un un_neg pe_int)
  refine wpAny_Slice (wpAny_mono (po_none.run pins s1 σ H1 (fun o H2 => o = none ∧ H2 = H1) I1 ⟨rfl, rfl⟩) (fun vl s2 hs => ?_) fun _ _ hs => hs)
  obtain ⟨o2, H2, I2, pl, e2, f2⟩ := hs
  subst e2 f2
  refine wpAny_mono (po_none.run pins s2 σ _ (fun o H3 => o = none ∧ H3 = H2) I2 ⟨rfl, rfl⟩) (fun vu s3 hs => ?_) fun _ _ hs => hs
  obtain ⟨o3, H3, I3, pu, e3, f3⟩ := hs
  subst e3 f3
  refine wpAny_mono (st.run pins s3 σ _ (fun o H4 => o = some (-1) ∧ H4 = H3) I3 ⟨1, rfl, -1, rfl, rfl, rfl⟩) (fun vs s4 hs => ?_) fun _ _ hs => hs
  obtain ⟨o4, H4, I4, ps, e4, f4⟩ := hs
  subst e4 f4
  cases pl
  cases pu
  have I5 : Inv X pins σ H4 { s4 with heap := s4.heap.push { cls := .type "slice", data := .fields #[.none, .none, vs] } } := I4.kept (t' := s4.toks) fun b ob q => Heap.get?_push_of_some _ q
  obtain ⟨its, r, ht, hz⟩ := I5.tuple sq
  have hlen := r.length
  refine tail_any (ops := [.ref a, .ref s4.heap.objs.size]) ht.typeIs PyProof.Rows.slot_tuple_getitem.lookup ?_ (by with_unfolding_all rfl)
  refine DQ.item_down ht (Heap.IsSliceOf.new _ .none .none vs) ps ?_ (by rw [List.size_toArray]; omega)
  refine ⟨.ref _, _, I5.laid (t' := s4.toks) (o := .tup xs.reverse) (fun b ob q => Heap.get?_push_of_some _ q) (Nat.le_refl _) ?_, rfl, q _ (I5.hok.fresh (Nat.le_refl _))⟩
  exact ⟨by rw [List.length_reverse]; exact hz, _, r.reverse, IsTup.new _ _⟩
section
variable {K : PySem.W.Frag} {δ : En} {M : Mem} {Q : D → Mem → Prop} {te : TE}
theorem RepL.rev {G : Hp} {vs : List V} {ds : List D} (r : RepL K G vs ds) : RepL K G vs.reverse ds.reverse := by
  induction vs generalizing ds with
  | nil => cases r; exact .nil
  | cons v vs ih =>
    cases r with
    | cons a b => rw [List.reverse_cons, List.reverse_cons]; exact (ih b).append (.cons a .nil)
theorem de_revT (h : DE K te δ M fun d M1 => ∃ xs, d = .tup xs ∧ Q (.tup xs.reverse) M1) : DE K (tRevT K te) δ M Q := fun F σ H en m QV k => by
  refine h F σ H en m _ fun d M1 v H1 z g1 r1 => ?_
  obtain ⟨xs, rfl, q⟩ := z
  cases r1 with
  | tup s r =>
    refine ⟨_, _, rfl, sqt_mono vis_le s, fun p hp => ?_⟩
    obtain ⟨g, e⟩ := go_new (o := .tup _) g1.ok hp
    exact k _ M1 _ _ q (g1.trans g) (.tup (.inl (.inl e)) (r.rev.mono g.ex))
end
end DL
set_option Elab.async false
set_option linter.all false
set_option maxRecDepth 100000
set_option maxHeartbeats 8000000
namespace DQ
open PySem PySem.Spec PyProof.Rows L2
section
variable {P : Program} {w : World} {A : Around} {E : Value → Shared → Prop} {s : Shared}
end
end DQ
set_option Elab.async false
set_option linter.all false
set_option maxRecDepth 100000
set_option maxHeartbeats 4000000
namespace DQ
open PySem PySem.Spec PyProof.Rows L2
abbrev itT (t : Addr) : Obj := { cls := .type "tuple_iterator", data := .fields #[.ref t, .int 0 0] }
abbrev enT (i : Addr) : Obj := { cls := .type "enumerate", data := .fields #[.none, .bool false, .ref i, rawInt 0, .none, .none] }
theorem new_enumT (t : Addr) (us : Array Value) (n : Nat) (dct : Option Addr) (sl : Array (Option Value)) :
    Meets (Builtin.«enumerate.__new__» ⟨[.type "enumerate", .ref t], []⟩) (fun _ R s => s.heap.get? t = some { cls := .type "tuple", dict := dct, data := .seq us n, slots := sl } ∧
      R (.ok (.ret (.ref (s.heap.push (itT t)).objs.size))) { s with heap := (s.heap.push (itT t)).push (enT s.heap.objs.size) }) :=
  .of_wp fun prog w A R s h => by
    obtain ⟨hp, g, d, tk, os⟩ := s
    obtain ⟨hl, h⟩ := h
    have sub := sub_enumerate
    have ist : Heap.IsTuple (Shared.heap ⟨hp, g, d, tk, os⟩) t us := ⟨_, hl, rfl, n, rfl⟩
    wp_walk
    refine wpAny_stack_any fun st => wpAny_pure ?_
    split
    · rename_i c _ _ _ _ _
      cases (c == Value.type "enumerate") <;> (wp_walk using wpAny_pyIter_tuple ist; exact ⟨_, rfl, h⟩)
    · wp_walk using wpAny_pyIter_tuple ist
      exact ⟨_, rfl, h⟩
section
variable {prog : Program} {w : World} {A : Around} {E : Value → Shared → Prop} {s : Shared}
theorem call_enumT {t : Addr} {us : Array Value} {Q : Value → Shared → Prop} (ht : s.heap.IsTuple t us)
    (h : ∀ g, IsEnum g (s.heap.objs.size + 1) s.heap.objs.size 0 .none → g.IsTupleIter s.heap.objs.size t 0 → (∀ b o, s.heap.get? b = some o → g.get? b = some o) → Q (.ref (s.heap.objs.size + 1)) { s with heap := g }) :
    wpAny (model prog w) A (call (.type "enumerate") [.ref t]) Q E s := by
  obtain ⟨⟨c, dct, dt, sl⟩, hl, hc, n, hd⟩ := ht
  obtain rfl : c = .type "tuple" := hc
  obtain rfl : dt = .seq us n := hd
  refine callType_new F.called_enumerate (by decide) (F.typeCall_enumerate_1 _) (F.newCall_enumerate_1 _) (fun o => F.args_object_init_2 o _) F.entry_enumerate_new (new_enumT t us n dct sl) ⟨hl, ?_⟩
  have sz : (s.heap.push (itT t)).objs.size = s.heap.objs.size + 1 := Heap.size_push ..
  have e : IsEnum ((s.heap.push (itT t)).push (enT s.heap.objs.size)) (s.heap.objs.size + 1) s.heap.objs.size 0 .none := by
    have := Heap.get?_push_size (s.heap.push (itT t)) (o := enT s.heap.objs.size) rfl
    rw [sz] at this
    exact this
  show _ ∧ _
  rw [sz]
  exact ⟨⟨_, e, rfl⟩, h _ e ⟨_, Heap.get?_push_of_some _ (Heap.get?_push_size _ rfl), rfl, rfl⟩ fun b o z => Heap.get?_push_of_some _ (Heap.get?_push_of_some _ z)⟩
end
section
variable {prog : Program} {w : World} {A : Around} {E : Value → Shared → Prop} {s : Shared}
theorem en_end {e it t : Addr} {c : Int} {i : Nat} {us : Array Value} {old : Value} {Q : Option Value → Shared → Prop} (cool : A.handled = none) (he : IsEnum s.heap e it c old) (hi : s.heap.IsTupleIter it t i) (ht : s.heap.IsTuple t us) (stop : us[i]? = none)
    (fin : ∀ g, Heap.ExtBut it s.heap g → Q none { s with heap := g }) : wpAny (model prog w) A (pyNext (.ref e)) Q E s := by
  have ty : s.TypeIs (.ref e) "enumerate" := ⟨_, he, rfl⟩
  unfold pyNext
  refine wpAny_bind (wpAny_attempt (wpAny_callSpecial?_slot (name := Str.ofString "__next__") ty F.slot_enumerate_next (wpAny_call_entry F.slot_enumerate_next ty F.entry_enumerate_next ?_ (F.args_enumerate_next_1 _))))
  refine wpAny_bind (m := field (.ref e) 2) (wpAny_field he rfl (x := .ref it) rfl ?_)
  refine wpAny_bind (wpAny_nextOf_tuple_end cool hi ht stop fun g x k ⟨o, ho, hc⟩ => ?_)
  exact wpAny_bind (wpAny_isInstance (T := "StopIteration") (b := true) ⟨o, ho, hc⟩ isSubtype_stop (wpAny_pure (fin _ k)))
end
end DQ
namespace DL
open PySem PySem.Spec PyProof.Rows L2
section
variable {K : PySem.W.Frag} {δ : En} {M : Mem} {I : List D → Mem → Prop} {tr : TA}
def enumD (xs : List D) : List D := (List.range xs.length).map fun (i : Nat) => D.tup [.int (i : Int), xs.getD i .non]
theorem enumD_len (xs : List D) : (enumD xs).length = xs.length := by unfold enumD; simp
theorem enumD_get {xs : List D} {i : Nat} {d : D} (h : (enumD xs)[i]? = some d) : ∃ x, xs[i]? = some x ∧ d = .tup [.int (i : Int), x] := by
  unfold enumD at h
  rw [List.getElem?_map] at h
  cases e : (List.range xs.length)[i]? with
  | none => rw [e] at h; cases h
  | some j =>
    rw [e] at h
    obtain ⟨h1, h2⟩ := List.getElem?_eq_some_iff.mp e
    rw [List.getElem_range] at h2
    subst h2
    cases h
    have hl : i < xs.length := by simpa using h1
    exact ⟨xs[i], List.getElem?_eq_getElem hl, by show D.tup [D.int (i : Int), xs.getD i D.non] = _; rw [List.getD_eq_getElem?_getD, List.getElem?_eq_getElem hl]; rfl⟩
end
end DL
set_option Elab.async false
set_option linter.all false
set_option maxRecDepth 100000
set_option maxHeartbeats 4000000
namespace DL
open PySem PySem.Spec PyProof.Rows L2
section
variable {K : PySem.W.Frag} {w : World} {δ : En} {M : Mem} {Q : D → Mem → Prop} {te : TE} {tr : TA}
theorem pi_zipK {X : Cx} {e e2 : Expr} {ta : TA} {p pos tpos : Pos} {elts : List Expr} {kk : Nat} (K : PySem.W.Frag) (hg : Gl X "zip") (hm : X.mg "zip" = none) (ha : PA X [e, e2] ta) (hK : X.K = K := by rfl)
    (hs : starEach [e, e2] X.env = (false, eval e X.env) :: starEach [e2] X.env := by rfl) (hpl : (backTo pos (starEach [e2] X.env)).any (·.1) = false := by rfl) : PI X (.Tuple elts kk tpos) (.Call (.Name "zip" p) [e, e2] [] pos) (RZ.iZipA K ta) := by
  subst hK
  exact RZ.pi_zipA hg hm ha hs hpl
def zipD : List D → List D → List D := List.zipWith fun x y => D.tup [x, y]
theorem zipD_get {xs ys : List D} {i : Nat} {d : D} (h : (zipD xs ys)[i]? = some d) : ∃ x y, xs[i]? = some x ∧ ys[i]? = some y ∧ d = .tup [x, y] := by
  unfold zipD at h
  rw [List.getElem?_zipWith] at h
  cases e1 : xs[i]? with
  | none => rw [e1] at h; cases h
  | some x =>
    cases e2 : ys[i]? with
    | none => rw [e1, e2] at h; cases h
    | some y => rw [e1, e2] at h; cases h; exact ⟨x, y, rfl, rfl, rfl⟩
theorem zipD_len (xs ys : List D) : (zipD xs ys).length = min xs.length ys.length := by unfold zipD; rw [List.length_zipWith]
theorem sq_zipT {F : Fm} {H : Hp} {a b : Addr} {xs ys : List V} {ds es : List D} (s : SqT K (vis H M F) a xs) (r : RepL K (vis H M F) xs ds) (s2 : SqT K (vis H M F) b ys) (r2 : RepL K (vis H M F) ys es) : Sq K F M H (RZ.ItzT K a b) (zipD ds es) := by
  refine sq_sub fun M' H' m e i => ⟨fun hl => ?_, fun hl => ?_, fun x H2 d hd y => ?_⟩
  · rw [zipD_len] at hl
    have h1 : i < xs.length := by rw [r.length]; omega
    have h2 : i < ys.length := by rw [r2.length]; omega
    exact ⟨xs, ys, xs[i], ys[i], sqt_mono vis_le (sqt_mono e s), sqt_mono vis_le (sqt_mono e s2), by simp [h1], by simp [h2]⟩
  · rw [zipD_len] at hl
    exact ⟨xs, ys, sqt_mono vis_le (sqt_mono e s), sqt_mono vis_le (sqt_mono e s2), by rw [r.length, r2.length]; omega⟩
  · obtain ⟨T, u, v, rfl, hT, rfl, f1, f2⟩ := y
    have q1 := f1 xs (sqt_mono vis_le (sqt_mono e s))
    have q2 := f2 ys (sqt_mono vis_le (sqt_mono e s2))
    obtain ⟨x, y, hx, hy, rfl⟩ := zipD_get hd
    obtain ⟨u2, hu, ru⟩ := r.get hx
    obtain ⟨v2, hv, rv⟩ := r2.get hy
    rw [q1] at hu; cases hu
    rw [q2] at hv; cases hv
    obtain ⟨g, e2⟩ := go_new (o := .tup [u, v]) m hT
    exact ⟨g, .tup (.inl (.inl e2)) (.cons ((ru.mono e).mono g.ex) (.cons ((rv.mono e).mono g.ex) .nil))⟩
theorem sq_zipL {F : Fm} {H : Hp} {a b : Addr} {xs ys : List V} {ds es : List D} (s : SqL K (vis H M F) a xs) (r : RepL K (vis H M F) xs ds) (s2 : SqL K (vis H M F) b ys) (r2 : RepL K (vis H M F) ys es) : Sq K F M H (Itz K a b) (zipD ds es) := by
  refine sq_sub fun M' H' m e i => ⟨fun hl => ?_, fun hl => ?_, fun x H2 d hd y => ?_⟩
  · rw [zipD_len] at hl
    have h1 : i < xs.length := by rw [r.length]; omega
    have h2 : i < ys.length := by rw [r2.length]; omega
    exact ⟨xs, ys, xs[i], ys[i], vis_le.seq (e.seq s), vis_le.seq (e.seq s2), by simp [h1], by simp [h2]⟩
  · rw [zipD_len] at hl
    exact ⟨xs, ys, vis_le.seq (e.seq s), vis_le.seq (e.seq s2), by rw [r.length, r2.length]; omega⟩
  · obtain ⟨T, u, v, rfl, hT, rfl, f1, f2⟩ := y
    have q1 := f1 xs (vis_le.seq (e.seq s))
    have q2 := f2 ys (vis_le.seq (e.seq s2))
    obtain ⟨x, y, hx, hy, rfl⟩ := zipD_get hd
    obtain ⟨u2, hu, ru⟩ := r.get hx
    obtain ⟨v2, hv, rv⟩ := r2.get hy
    rw [q1] at hu; cases hu
    rw [q2] at hv; cases hv
    obtain ⟨g, e2⟩ := go_new (o := .tup [u, v]) m hT
    exact ⟨g, .tup (.inl (.inl e2)) (.cons ((ru.mono e).mono g.ex) (.cons ((rv.mono e).mono g.ex) .nil))⟩
theorem di_zip {I : List D → Mem → Prop} (h : DA K tr δ M fun ds M1 => ∃ xs ys, (ds = [.tup xs, .tup ys] ∨ ds = [.lst xs, .lst ys]) ∧ I (zipD xs ys) M1) : DI K (RZ.iZipA K tr) δ M I := fun F σ H en m R k => by
  refine h F σ H en m _ fun ds M1 vs H1 z g1 r1 => ?_
  obtain ⟨xs, ys, e, z⟩ := z
  rcases e with rfl | rfl
  · cases r1 with
    | cons a b =>
      obtain ⟨_, rfl, c⟩ := vs1 b
      clear b
      cases a with
      | tup s r =>
        cases c with
        | tup s2 r2 =>
          refine ⟨_, _, _, _, rfl, .inr ⟨sqt_mono vis_le s, sqt_mono vis_le s2, k _ M1 _ H1 z g1 (fun p o hp => ?_) (sq_zipT s r s2 r2)⟩⟩
          exact sq_zipT (sqt_mono (vis_new hp) s) (r.mono (vis_new hp)) (sqt_mono (vis_new hp) s2) (r2.mono (vis_new hp))
  · cases r1 with
    | cons a b =>
      obtain ⟨_, rfl, c⟩ := vs1 b
      clear b
      cases a with
      | lst s r =>
        cases c with
        | lst s2 r2 =>
          refine ⟨_, _, _, _, rfl, .inl ⟨vis_le.seq s, vis_le.seq s2, k _ M1 _ H1 z g1 (fun p o hp => ?_) (sq_zipL s r s2 r2)⟩⟩
          exact sq_zipL ((vis_new hp).seq s) (r.mono (vis_new hp)) ((vis_new hp).seq s2) (r2.mono (vis_new hp))
end
end DL
set_option Elab.async false
set_option linter.all false
set_option maxRecDepth 100000
set_option maxHeartbeats 4000000
namespace DL
open PySem PySem.Spec PyProof.Rows L2
section
variable {K : PySem.W.Frag} {δ : En} {M : Mem} {Q : D → Mem → Prop} {te : TE} {tt tt1 : TT} {g g1 : TG} {js js1 : List Nat}
theorem de_lc2 {wi wi1 : TI} {vs vs1 : List Nat} (hj : ∀ j ∈ js, j ∈ vs) (hj1 : ∀ j ∈ js1, j ∈ vs1) (hv : ∀ j ∈ vs1, j ∈ vs) (h : DI K wi δ M fun ds M1 => ∃ Ac : Nat → List D → Prop, Ac 0 [] ∧
      (∀ i d acc, ds[i]? = some d → Ac i acc → DG K js g d (wipeD δ vs) M1 fun δ2 M2 => M2 = M1 ∧ DT K tt δ2 M1 fun b M3 => M3 = M1 ∧ if b = true then
        DI K wi1 δ2 M1 (fun es M4 => M4 = M1 ∧ ∃ Bc : Nat → List D → Prop, Bc 0 acc ∧
          (∀ j e bcc, es[j]? = some e → Bc j bcc → DG K js1 g1 e (wipeD δ2 vs1) M1 fun δ3 M5 => M5 = M1 ∧ DT K tt1 δ3 M1 fun b M6 => M6 = M1 ∧ if b = true then DE K te δ3 M1 (fun x M7 => M7 = M1 ∧ bcc.length < sizeLine ∧ Bc (j + 1) (bcc ++ [x])) else Bc (j + 1) bcc) ∧
          ∀ bcc, Bc es.length bcc → Ac (i + 1) bcc) else Ac (i + 1) acc) ∧
      ∀ acc, Ac ds.length acc → Q (.lst acc) M1) : DE K (tLc2 wi g tt wi1 g1 tt1 te vs vs1) δ M Q := fun F σ H en m QV k => by
  refine h F σ H en m _ fun ds M1 J H1 z g1' Sn S0 => ?_
  obtain ⟨Ac, a0, at', ae⟩ := z
  intro Dl hD
  have S := Sn Dl (.lst []) hD
  obtain ⟨fD, mD⟩ := g1'.ok.new hD
  have vn : Same (vis H1 M1 F) (vis (upd H1 Dl (.lst [])) M1 (fadd F Dl)) := vis_new hD
  have ok0 : MOk K (fadd F Dl) M1 (upd H1 Dl (.lst [])) := by
    obtain ⟨g, _⟩ := go_new (o := .lst []) g1'.ok hD
    refine ⟨fun b hb => ?_, fun a mo hm => ?_, tb_add g1'.ok.tb⟩
    · rcases fadd_of hb with hb | rfl
      · exact g.ok.fr b hb
      · exact ⟨by rw [upd_same]; simp, mD⟩
    · obtain ⟨ho, e, ro⟩ := g1'.ok.mo a mo hm
      exact ⟨ho, by rw [upd_ne (ne_of_none e hD)]; exact e, ro.mono vn⟩
  -- the state: the list so far, the rest kept
  let Z : List D → Hp → Prop := fun acc H' => ∃ xs, MOk K (fadd F Dl) M1 H' ∧ Same (vis (upd H1 Dl (.lst [])) M1 (fadd F Dl)) (vis H' M1 (fadd F Dl)) ∧ (∀ b, F b = true → H' b = H1 b) ∧ H' Dl = some (.lst xs) ∧ RepL K (vis H' M1 (fadd F Dl)) xs acc
  have zgo : ∀ {acc : List D} {H3 H5 : Hp}, Z acc H3 → Go K (fadd F Dl) M1 H3 M1 H5 → Z acc H5 := fun {acc H3 H5} ⟨xs, ok, ex, fr, hDl, rl⟩ g5 =>
    ⟨xs, g5.ok, ex.trans g5.ex, fun b hb => (g5.fr b (fadd_mk hb)).trans (fr b hb), (g5.fr Dl fadd_self).trans hDl, rl.mono g5.ex⟩
  have zadd : ∀ {acc : List D} {H6 : Hp} {v : V} {x : D}, Z acc H6 → Rep K (vis H6 M1 (fadd F Dl)) v x → ∃ xs, H6 Dl = some (.lst xs) ∧ xs.length = acc.length ∧ Z (acc ++ [x]) (upd H6 Dl (.lst (xs ++ [v]))) ∧ Same (vis H6 M1 (fadd F Dl)) (vis (upd H6 Dl (.lst (xs ++ [v]))) M1 (fadd F Dl)) := fun {acc H6 v x} ⟨xs, ok, ex, fr, hDl, rl⟩ r6 => by
    have hv : ∀ o, Same (vis H6 M1 (fadd F Dl)) (vis (upd H6 Dl o) M1 (fadd F Dl)) := fun o b u hb => by
      obtain ⟨h1, h2, h3⟩ := vis_of hb
      have hne := (fadd_no h2).2
      exact vis_mk (by rw [upd_ne hne]; exact h1) h2 h3
    refine ⟨xs, hDl, rl.length, ⟨xs ++ [v], ⟨fun b hb => ?_, fun a mo hm => ?_, tb_put ok.tb⟩, ex.trans (hv _), fun b hb => ?_, upd_same, (rl.mono (hv _)).append (.cons (r6.mono (hv _)) .nil)⟩, hv _⟩
    · rcases fadd_of hb with hb' | rfl
      · have hne : b ≠ Dl := fun e => by subst e; rw [fD] at hb'; cases hb'
        rw [upd_ne hne]; exact ok.fr b hb
      · exact ⟨by rw [upd_same]; simp, mD⟩
    · obtain ⟨ho, e1, ro⟩ := ok.mo a mo hm
      have hne : a ≠ Dl := fun z => by subst z; rw [mD] at hm; cases hm
      exact ⟨ho, by rw [upd_ne hne]; exact e1, ro.mono (hv _)⟩
    · have hne : b ≠ Dl := fun e => by subst e; rw [fD] at hb; cases hb
      rw [upd_ne hne]; exact fr b hb
  refine ⟨fun i n H' => i ≤ ds.length ∧ n = ds.length - i ∧ ∃ acc, Ac i acc ∧ Z acc H',
    ⟨ds.length, Nat.zero_le _, rfl, [], a0, [], ok0, Same.refl _, fun b hb => upd_ne (fun e => by subst e; rw [fD] at hb; cases hb), upd_same, .nil⟩, ?_⟩
  rintro i n H' ⟨hi, rfl, acc, ac, zz⟩
  obtain ⟨_, ok, ex, _⟩ := id zz
  by_cases hl : i < ds.length
  · refine .inr ⟨S.go i M1 H' hl ok ex, fun H3 => ∃ acc, Ac (i + 1) acc ∧ Z acc H3, fun H3 w => ⟨ds.length - (i + 1), by omega, by omega, rfl, w⟩, fun x H3 y => ?_⟩
    have hd : ds[i]? = some ds[i] := List.getElem?_eq_getElem hl
    obtain ⟨g3, rx⟩ := S.yl i M1 H' x H3 _ hd ok ex y
    have z3 := zgo zz g3
    have en3 : EnvR K (vis H3 M1 (fadd F Dl)) (wipe σ vs) (wipeD δ vs) := ((((en.mono g1'.ex).mono vn).mono ex).mono g3.ex).wipe vs
    refine at' i _ acc hd ac (fadd F Dl) (wipe σ vs) H3 x en3 g3.ok rx _ fun δ4 M4 σ4 H4 z4 g4 en4 w4 => ⟨?_, ?_⟩
    · rw [w4 vs hj, wipe_wipe σ vs vs fun _ h => h]
    · obtain ⟨rfl, z4⟩ := z4
      refine z4 (fadd F Dl) σ4 H4 en4 g4.ok _ fun bb M5 H5 z5 g5 => ?_
      obtain ⟨rfl, z5⟩ := z5
      have z6 := zgo z3 (g4.trans g5)
      cases bb with
      | false =>
        rw [if_neg Bool.false_ne_true] at z5
        rw [if_neg Bool.false_ne_true]
        exact ⟨acc, z5, z6⟩
      | true =>
        rw [if_pos rfl] at z5
        rw [if_pos rfl]
        have en5 := en4.mono g5.ex
        refine z5 (fadd F Dl) σ4 H5 en5 g5.ok _ fun es M6 J1 H6 y6 g6 _ T => ?_
        obtain ⟨rfl, Bc, b0, bt, be⟩ := y6
        have z7 := zgo z6 g6
        have en6 := en5.mono g6.ex
        refine ⟨fun j n H' => j ≤ es.length ∧ n = es.length - j ∧ ∃ bcc, Bc j bcc ∧ Z bcc H' ∧ Same (vis H6 M6 (fadd F Dl)) (vis H' M6 (fadd F Dl)), ⟨es.length, Nat.zero_le _, rfl, acc, b0, z7, Same.refl _⟩, ?_⟩
        rintro j n H7 ⟨hj', rfl, bcc, bc, zb, ex7⟩
        obtain ⟨_, ok7, _⟩ := id zb
        by_cases hm : j < es.length
        · refine .inr ⟨T.go j M6 H7 hm ok7 ex7, fun H3 => ∃ bcc, Bc (j + 1) bcc ∧ Z bcc H3 ∧ Same (vis H6 M6 (fadd F Dl)) (vis H3 M6 (fadd F Dl)), fun H3 w => ⟨es.length - (j + 1), by omega, by omega, rfl, w⟩, fun x H8 y => ?_⟩
          have he : es[j]? = some es[j] := List.getElem?_eq_getElem hm
          obtain ⟨g8, rx8⟩ := T.yl j M6 H7 x H8 _ he ok7 ex7 y
          have z8 := zgo zb g8
          have en8 : EnvR K (vis H8 M6 (fadd F Dl)) (wipe σ4 vs1) (wipeD δ4 vs1) := ((en6.mono ex7).mono g8.ex).wipe vs1
          refine bt j _ bcc he bc (fadd F Dl) (wipe σ4 vs1) H8 x en8 g8.ok rx8 _ fun δ9 M9 σ9 H9 z9 g9 en9 w9 => ⟨?_, ?_⟩
          · rw [w9 vs1 hj1, wipe_wipe σ4 vs1 vs1 fun _ h => h]
          · obtain ⟨rfl, z9⟩ := z9
            refine z9 (fadd F Dl) σ9 H9 en9 g9.ok _ fun cc M10 H10 z10 g10 => ?_
            obtain ⟨rfl, z10⟩ := z10
            have g910 := g9.trans g10
            have z11 := zgo z8 g910
            have ex11 := (ex7.trans g8.ex).trans g910.ex
            cases cc with
            | false =>
              rw [if_neg Bool.false_ne_true] at z10
              rw [if_neg Bool.false_ne_true]
              exact ⟨bcc, z10, z11, ex11⟩
            | true =>
              rw [if_pos rfl] at z10
              rw [if_pos rfl]
              refine z10 (fadd F Dl) σ9 H10 (en9.mono g10.ex) g10.ok _ fun e M12 v H12 z12 g12 r12 => ?_
              obtain ⟨rfl, hz, z12⟩ := z12
              obtain ⟨xs, hx, hxl, zn, sm⟩ := zadd (zgo z11 g12) r12
              exact ⟨xs, hx, by rw [hxl]; exact hz, bcc ++ [e], z12, zn, (ex11.trans g12.ex).trans sm⟩
        · have hj2 : j = es.length := by omega
          subst hj2
          exact .inl ⟨T.stop _ M6 H7 rfl ok7 ex7, bcc, be bcc bc, zb⟩
  · have hi' : i = ds.length := by omega
    subst hi'
    refine .inl ⟨S.stop _ M1 H' rfl ok ex, ?_⟩
    obtain ⟨xs, ok, ex, fr, hDl, rl⟩ := zz
    have sv : Same (vis H' M1 (fadd F Dl)) (vis H' M1 F) := fun b u hb => by
      obtain ⟨h1, h2, h3⟩ := vis_of hb
      exact vis_mk h1 (fadd_no h2).1 h3
    have g2 : Go K F M1 H1 M1 H' := by
      refine ⟨⟨fun b hb => ok.fr b (fadd_mk hb), fun a mo hm => ?_, tb_back ok.tb hDl⟩, (vn.trans ex).trans sv, fr⟩
      obtain ⟨ho, e1, ro⟩ := ok.mo a mo hm
      exact ⟨ho, e1, ro.mono sv⟩
    exact k (.lst acc) M1 _ H' (ae acc ac) (g1'.trans g2) (.lst (.inl (.inl (vis_mk hDl fD mD))) (rl.mono sv))
end
end DL
set_option Elab.async false
set_option linter.all false
set_option maxRecDepth 100000
set_option maxHeartbeats 4000000
namespace DL
open PySem PySem.Spec PyProof.Rows L2
mutual
def pyD : D → PyData
  | .bl b => .bool b | .int i => .int i | .str x => .str x
  | .lst xs => .list (pyL xs) | .tup xs => .tuple (pyL xs) | _ => .none
def pyL : List D → List PyData
  | [] => []
  | x :: r => pyD x :: pyL r
end
mutual
/-- its weight: above what its text takes; a million and more where it isn't plain -/
def wD : D → Nat
  | .non => 4 | .bl _ => 5 | .int i => if 0 ≤ i ∧ i < 1000 then 10 else 1000000
  | .lst xs => 4 + wL xs | .tup xs => 4 + wL xs | _ => 1000000
def wL : List D → Nat
  | [] => 0
  | x :: r => wD x + 2 + wL r
end
mutual
theorem lay_pyD : ∀ d : D, wD d < 1000000 → (pyD d).canLay0 = true
  | .non, _ => rfl
  | .bl _, _ => rfl
  | .int _, _ => rfl
  | .str _, h => by simp only [wD] at h; omega
  | .lst xs, h => by
    rw [wD] at h
    rw [pyD, PyData.canLay0, lay_pyL xs (by omega)]
  | .tup xs, h => by
    rw [wD] at h
    rw [pyD, PyData.canLay0, lay_pyL xs (by omega)]
  | .dic _, h => by simp only [wD] at h; omega
  | .obj _ _, h => by simp only [wD] at h; omega
  | .raw _, h => by simp only [wD] at h; omega
theorem lay_pyL : ∀ l : List D, wL l < 1000000 → PyData.canLayAll0 (pyL l) = true
  | [], _ => rfl
  | x :: r, h => by
    rw [wL] at h
    rw [pyL, PyData.canLayAll0, lay_pyD x (by omega), lay_pyL r (by omega)]; rfl
end
mutual
def dD : D → Nat
  | .lst xs => dL xs + 1 | .tup xs => dL xs + 1 | _ => 0
def dL : List D → Nat
  | [] => 0
  | x :: r => max (dD x) (dL r)
end
mutual
theorem depth_pyD : ∀ d : D, (pyD d).depth = dD d
  | .non => rfl
  | .bl _ => rfl
  | .int _ => rfl
  | .str _ => rfl
  | .lst xs => by rw [pyD, PyData.depth, dD, depth_pyL xs]
  | .tup xs => by rw [pyD, PyData.depth, dD, depth_pyL xs]
  | .dic _ => rfl
  | .obj _ _ => rfl
  | .raw _ => rfl
theorem depth_pyL : ∀ l : List D, PyData.depthAll (pyL l) = dL l
  | [] => rfl
  | x :: r => by rw [pyL, PyData.depthAll, dL, depth_pyD x, depth_pyL r]
end
abbrev nD (a : Nat) : D := .int (a : Int)
def nL (l : List Nat) : List D := l.map nD
section
variable {K : PySem.W.Frag} {M : Mem} {Q : D → Mem → Prop} {d e : D}
def Pl (d : D) : Prop := wD d < 1000000 ∧ dD d ≤ 50
theorem Pl.shaped (h : Pl d) : SeqAt.shaped (pyD d) = true := by
  unfold SeqAt.shaped
  rw [lay_pyD d h.1, depth_pyD]
  exact decide_eq_true (by have := h.2; omega)
theorem dr_eqNN {a b : Nat} (h : Q (.bl (decide (a = b))) M) : DR K (rEqD K) (.int (a : Int)) (.int (b : Int)) M Q := dr_eqD rfl rfl rfl rfl (by
  have e : PyData.eqv (.int (a : Int)) (.int (b : Int)) = decide (a = b) := by
    rw [PyData.eqv]
    by_cases h : a = b
    · subst h; simp
    · rw [decide_eq_false h, beq_eq_false_iff_ne]; intro z; exact h (by omega)
  rw [e]; exact h)
theorem dr_neNN {a b : Nat} (h : Q (.bl (!decide (a = b))) M) : DR K (rNeD K) (.int (a : Int)) (.int (b : Int)) M Q := dr_neD rfl rfl rfl rfl (by
  have e : PyData.eqv (.int (a : Int)) (.int (b : Int)) = decide (a = b) := by
    rw [PyData.eqv]
    by_cases h : a = b
    · subst h; simp
    · rw [decide_eq_false h, beq_eq_false_iff_ne]; intro z; exact h (by omega)
  rw [e]; exact h)
theorem dr_eqBB {a b : Bool} (h : Q (.bl (a == b)) M) : DR K (rEqD K) (.bl a) (.bl b) M Q := dr_eqD rfl rfl rfl rfl (by rw [PyData.eqv]; exact h)
theorem dr_shl1 {b : Nat} (h : b ≤ 1000000 ∧ Q (.int ((2 ^ b : Nat) : Int)) M) : DR K (rI CPow fun i j => .int (i * 2 ^ j.toNat)) (.int 1) (.int (b : Int)) M Q := by
  have := dr_shlN (K := K) (M := M) (Q := Q) (a := 1) (b := b) (by decide) h.1 (by rw [Nat.one_mul]; exact h.2)
  exact this
theorem dr_and1 {a : Nat} (h : Q (.int ((a % 2 : Nat) : Int)) M) : DR K (rI0 fun i j => .int (Builtin.bitAnd i j)) (.int (a : Int)) (.int 1) M Q := by
  have := dr_andN (K := K) (M := M) (Q := Q) (a := a) (b := 1) (by rw [Nat.and_one_is_mod]; exact h)
  exact this
end
def isBl : D → Bool
  | .bl _ => true | _ => false
def isTup : D → Bool
  | .tup _ => true | _ => false
def isStr : D → Bool
  | .str _ => true | _ => false
section
variable {K : PySem.W.Frag} {M : Mem} {Q : D → Mem → Prop} {d : D}
end
section
variable {K : PySem.W.Frag} {M : Mem} {Q : D → Mem → Prop}
theorem dr_eqN1 {a : Nat} (h : Q (.bl (decide (a = 1))) M) : DR K (rEqD K) (.int (a : Int)) (.int 1) M Q := dr_eqNN (b := 1) h
theorem dr_eqN0 {a : Nat} (h : Q (.bl (decide (a = 0))) M) : DR K (rEqD K) (.int (a : Int)) (.int 0) M Q := dr_eqNN (b := 0) h
theorem dr_neN0 {a : Nat} (h : Q (.bl (!decide (a = 0))) M) : DR K (rNeD K) (.int (a : Int)) (.int 0) M Q := dr_neNN (b := 0) h
end
section
variable {K : PySem.W.Frag} {δ : En} {M : Mem} {Q : D → Mem → Prop} {te : TE}
theorem all_bl (n : Nat) : (List.replicate n true).all id = true := by
  rw [List.all_eq_true]
  intro x hx
  exact (List.mem_replicate.mp hx).2
theorem map_bl (n : Nat) : List.replicate n (D.bl true) = (List.replicate n true).map D.bl := by rw [List.map_replicate]
theorem de_allT {wi : TI} {vs : List Nat} {j : Nat} (hj : j ∈ vs) (h : DI K wi δ M fun ds M1 => ds.length < sizeLine ∧ (∀ d, d ∈ ds → DE K te ((wipeD δ vs).set j (some d)) M1 fun e M4 => M4 = M1 ∧ e = .bl true) ∧ Q (.bl true) M1) : DE K (tCB (rAll K) (tCons (tLc wi (gName j) tYes te vs) tNil)) δ M Q := by
  refine de_CB (da_cons (de_map hj ?_))
  intro F σ H en m R k
  refine h F σ H en m R fun ds M1 J H1 z => k ds M1 J H1 ⟨z.1, fun _ => .bl true, z.2.1, da_nil (dc_all (bs := List.replicate ds.length true) ?_ ?_)⟩
  · rw [List.map_const']
    exact congrArg D.lst (map_bl _)
  · rw [all_bl]
    exact z.2.2
theorem de_allT2 {wi wi1 : TI} {vs vs1 : List Nat} {j j1 : Nat} (hj : j ∈ vs) (hj1 : j1 ∈ vs1) (hv : ∀ i ∈ vs1, i ∈ vs) (h : DI K wi δ M fun ds M1 => ds.length ≤ 1000 ∧ (∀ d, d ∈ ds → DI K wi1 ((wipeD δ vs).set j (some d)) M1 fun es M4 => M4 = M1 ∧ es.length ≤ 1000 ∧
      ∀ e, e ∈ es → DE K te ((wipeD ((wipeD δ vs).set j (some d)) vs1).set j1 (some e)) M1 fun x M7 => M7 = M1 ∧ x = .bl true) ∧ Q (.bl true) M1) : DE K (tCB (rAll K) (tCons (tLc2 wi (gName j) tYes wi1 (gName j1) tYes te vs vs1) tNil)) δ M Q := by
  refine de_CB (da_cons (de_lc2 (js := [j]) (js1 := [j1]) (fun i hi => by rw [List.mem_singleton.mp hi]; exact hj) (fun i hi => by rw [List.mem_singleton.mp hi]; exact hj1) hv ?_))
  intro F σ H en m R k
  refine h F σ H en m R fun ds M1 J H1 z => k ds M1 J H1 ?_
  obtain ⟨hl, ht, q⟩ := z
  refine ⟨fun i acc => ∃ n, n ≤ 1000 * i ∧ acc = List.replicate n (.bl true), ⟨0, by omega, rfl⟩, fun i d acc hd ⟨n, hn, ha⟩ => dg_name ⟨rfl, dt_yes ⟨rfl, ?_⟩⟩, fun acc ⟨n, hn, ha⟩ => ?_⟩
  · rw [if_pos rfl]
    have hi := take_lt hd
    intro F σ H en m R k
    refine ht d (mem_of_get hd) F σ H en m R fun es M4 J H1 z => k es M4 J H1 ?_
    obtain ⟨rfl, hes, he⟩ := z
    refine ⟨rfl, fun j acc => ∃ n, n ≤ 1000 * i + j ∧ acc = List.replicate n (.bl true), ⟨n, by omega, ha⟩, fun j e bcc hej ⟨n2, hn2, hb⟩ => dg_name ⟨rfl, dt_yes ⟨rfl, ?_⟩⟩, fun bcc ⟨n2, hn2, hb⟩ => ⟨n2, by omega, hb⟩⟩
    rw [if_pos rfl]
    have hj2 := take_lt hej
    refine (he e (mem_of_get hej)).imp fun x M7 hx => ⟨hx.1, ?_, n2 + 1, by omega, ?_⟩
    · rw [hb, List.length_replicate, sizeLine_eq]; omega
    · rw [hb, hx.2, List.replicate_succ']
  · refine da_nil (dc_all (bs := List.replicate n true) ?_ ?_)
    · rw [ha]
      exact congrArg D.lst (map_bl _)
    · rw [all_bl]
      exact q
end
section
variable {K : PySem.W.Frag} {M : Mem} {Q : D → Mem → Prop}
theorem dc_lenM {p : Addr} {xs : List D} (h : M p = some (.lst xs) ∧ Q (.int (xs.length : Int)) M) : DC K (fun xs H Q => ∃ x n, xs = [x] ∧ LenV K x H n ∧ Q (.int n) H) [.raw (.ref p)] M Q := fun F H vs m r QV k => by
  obtain ⟨v, rfl, r1⟩ := vs1 r
  clear r
  cases r1
  obtain ⟨ho, e, ro⟩ := m.mo p _ h.1
  cases ro with
  | lst ro => exact ⟨_, xs.length, rfl, .inl ⟨_, SqL.of e, ro.length.symm⟩, k _ M _ H h.2 (Go.refl m) (.int _)⟩
end
theorem pe_bmK {X : Cx} {T id : String} {name : Str} {r : V → List V → Hp → VK → Prop} {o e : Expr} {es : List Expr} {to : TE} {t : TA} {apos cpos : Pos} (K : PySem.W.Frag) (pa : PlainAttrs T) (slot : Slot T name id) (hty : typeOf (.builtin id) = pure (.type "method_descriptor")) (hm : MtR X id r) (ho : PE X o to) (ha : PA X (e :: es) t) (hK : X.K = K := by rfl)
    (hbase : attributeBase o name X.env (eval o X.env) = eval o X.env := by rfl)
    (hfew : ((backTo cpos (starEach (e :: es) X.env)).all (fun x => !x.1) && (backToKw cpos (keywordEach [] X.env)).all (fun x => x.1.isSome) && decide ((e :: es).length + ([] : List Keyword).length + (if ([] : List Keyword).isEmpty then 0 else 1) < 30)) = true := by rfl)
    (hline : (apos.endLine == cpos.line) = true := by rfl) (hs : starEach (e :: es) X.env = (false, eval e X.env) :: starEach es X.env := by rfl) (hplain : (backTo cpos (starEach es X.env)).any (·.1) = false := by rfl) :
    PE X (.Call (.Attribute o name apos) (e :: es) [] cpos) (tBM K T r to t) := by
  subst hK
  exact pe_bm pa slot hty hm ho ha hbase hfew hline hs hplain
section
variable {K : PySem.W.Frag} {δ : En} {M : Mem} {Q : D → Mem → Prop}
end
section
variable {K : PySem.W.Frag} {M : Mem} {Q : D → Mem → Prop}
end
section
variable {K : PySem.W.Frag} {M : Mem} {Q : D → Mem → Prop} {p : Addr} {ds : List D}
theorem dr_ixM {i : Int} {d : D} (h : M p = some (.lst ds) ∧ atI ds i = some d ∧ Q d M) : DR K (rIx K) (.raw (.ref p)) (.int i) M Q := dr_or1 fun F H v u m a b QV k => by
  obtain ⟨hp, hi, q⟩ := h
  cases a; cases b
  obtain ⟨ho, e, ro⟩ := m.mo p _ hp
  cases ro with
  | lst ro =>
    obtain ⟨w, hw, rw'⟩ := atI_rep ro hi
    exact ⟨p, _, _, w, rfl, rfl, SqL.of e, hw, k d M w H q (Go.refl m) rw'⟩
end
end DL
set_option Elab.async false
set_option linter.all false
set_option maxRecDepth 100000
set_option maxHeartbeats 4000000
namespace DL
open PySem PySem.Spec PyProof.Rows L2
section
variable {X : Cx}
theorem units65 {k : Nat} {A : Around} (r : Room k A) : A.units + 65 < cLine := by have := r.un; omega
theorem op_catAK (K : PySem.W.Frag) (h : X.K = K := by rfl) : OpR X (binaryOp .Add) (rCatA K) := by subst h; exact op_catA
theorem list_extendW (l : Addr) (xs : Array Value) (n : Nat) (b : Addr) (ys : Array Value) (n2 : Nat) (dd : Option Addr) (sl : Array (Option Value)) (h0 : ¬(!xs.isEmpty && Builtin.List.listTooLong (xs.size + ys.size)) = true) (h1 : xs.size ≤ sizeLine) (h2 : xs.size + ys.size ≤ sizeLine + 1) :
    Meets (Builtin.«list.extend» ⟨[.ref l, .ref b], []⟩) (fun _ R s => s.heap.get? l = some { cls := .type "list", dict := none, data := .seq xs n, slots := #[] } ∧ s.heap.get? b = some { cls := .type "list", dict := dd, data := .seq ys n2, slots := sl } ∧
      R (.ok (.ret Value.none)) { s with heap := s.heap.update l (Obj.mapSeq fun x => x ++ ys), toks := s.toks }) := by
  refine .of_wp fun prog w A R s h => ?_
  obtain ⟨hp, g, d, tk, os⟩ := s
  obtain ⟨hl, hb, h⟩ := h
  have f1 := AutoSeq1.idx_int
  have f2 := AutoSeq1.sub_tuple_tuple
  have f3 := AutoSeq1.sub_list_list
  have f4 := AutoSeq1.sub_tuple_list
  have f5 := AutoSeq1.sub_list_tuple
  have hz : (xs ++ ys).size ≤ sizeLine + 1 := by
    rw [Array.size_append]
    exact h2
  wp_walk using (wpAny_updateSeq hl rfl (hz := h1) (_hz' := hz)), wpAny_loadPart' hl, wpAny_loadPart' hb
  exact ⟨_, rfl, h⟩
def rExtS (K : PySem.W.Frag) : V → List V → Hp → VK → Prop := fun x vs H Q => ∃ l b xs zs, x = .ref l ∧ vs = [.ref b] ∧ H l = some (.lst xs) ∧ SqL K H b zs ∧ xs.length + zs.length ≤ sizeLine ∧ Q .non (upd H l (.lst (xs ++ zs)))
theorem mt_extS (K : PySem.W.Frag) (h : X.K = K := by rfl) : MtM X "list.extend" (rExtS K) := by
  subst h
  intro pins s σ H x vs v us Q I rx rv h
  obtain ⟨l, b, xs, zs, rfl, rfl, hH, hB, hz, q⟩ := h
  cases rx
  obtain ⟨u, rfl, ru⟩ := rv.one
  cases ru
  obtain ⟨z, its, n, r, hl, e⟩ := I.lstM hH
  obtain ⟨its2, r2, pl2, hl2⟩ := I.list hB
  obtain ⟨⟨cls2, dd2, data2, sl2⟩, ho2, hc2, n2, hd2⟩ := pl2.isList
  simp only at hc2 hd2
  subst hc2 hd2
  have e1 := r.length
  have e2 := r2.length
  have hsz : its.toArray.size + its2.toArray.size ≤ sizeLine := by rw [List.size_toArray, List.size_toArray]; omega
  have hlong : ¬ (!its.toArray.isEmpty && Builtin.List.listTooLong (its.toArray.size + its2.toArray.size)) = true := by
    rw [notLongL hsz, Bool.and_false]
    exact Bool.false_ne_true
  refine call_meets PySem.F.slot_list_extend ⟨_, e, rfl⟩ PySem.F.entry_list_extend (PySem.F.args_list_extend_2 _ _)
    (list_extendW l its.toArray n b its2.toArray n2 dd2 sl2 hlong (by rw [List.size_toArray]; omega) (by omega)) ⟨e, ho2, ?_⟩
  refine ⟨.non, _, I.lset (its' := its ++ its2) hH e (by simp) (r.append r2) ?_, rfl, q⟩
  rw [List.length_append]
  omega
end
theorem sl_tupK {X : Cx} (K : PySem.W.Frag) (h : X.K = K := by rfl) : SlR X (rSlA K) := by subst h; exact sl_tupA
theorem sl_listK {X : Cx} (K : PySem.W.Frag) (h : X.K = K := by rfl) : SlR X (rSlL K) := by subst h; exact sl_list
def rSortV (K : PySem.W.Frag) : List V → Hp → VK → Prop := fun vs H Q => ∃ (d : Nat) (B : Int), 1 ≤ d ∧ rSortU K d B vs H Q
theorem cr_sortVK {X : Cx} (K : PySem.W.Frag) (h : X.K = K := by rfl) : CallR X (.builtin "sorted") (rSortV K) := by
  subst h
  intro pins s σ H vs us Q I r ⟨d, B, hd, h⟩
  exact cr_sortT hd pins s σ H vs us Q I r h
section
variable {K : PySem.W.Frag} {δ : En} {M : Mem} {Q : D → Mem → Prop} {R : Bool → Mem → Prop} {te to : TE} {d e : D} {tr : TA} {C : Addr} {m : Str}
theorem dr_catA {xs ys : List D} (h : xs.length + ys.length ≤ sizeLine ∧ Q (.tup (xs ++ ys)) M) : DR K (rCatA K) (.tup xs) (.tup ys) M Q := fun F H v u m a b QV k => by
  obtain ⟨hz, q⟩ := h
  cases a with
  | @tup a1 vs1 _ s r =>
    cases b with
    | @tup a2 vs2 _ s2 r2 =>
      refine ⟨a1, a2, vs1, vs2, rfl, rfl, sqt_mono vis_le s, sqt_mono vis_le s2, by rw [r.length, r2.length]; exact hz, fun hx => ?_, fun hx hy => ?_, fun hx hy p hp => ?_⟩
      · subst hx
        cases r
        exact k _ M _ H q (Go.refl m) (.tup s2 r2)
      · subst hy
        cases r2
        rw [List.append_nil] at q
        exact k _ M _ H q (Go.refl m) (.tup s r)
      · obtain ⟨g, e⟩ := go_new (o := .tup _) m hp
        exact k _ M _ _ q g (.tup (.inl (.inl e)) ((r.mono g.ex).append (r2.mono g.ex)))
def cutD (xs : List D) (lo hi : Option Int) : List D := (xs.drop (HT.sIx xs.length 0 lo)).take (HT.sIx xs.length xs.length hi - HT.sIx xs.length 0 lo)
theorem RepL.cut {G : Hp} {vs : List V} {ds : List D} (r : RepL K G vs ds) (lo hi : Option Int) : RepL K G (cutV vs lo hi) (cutD ds lo hi) := by
  unfold cutV cutD
  rw [r.length]
  exact (r.drop _).take _
theorem cutD_all {ds : List D} {lo hi : Option Int} (h : HT.sIx ds.length 0 lo = 0 ∧ HT.sIx ds.length ds.length hi = ds.length) : cutD ds lo hi = ds := by
  unfold cutD
  rw [h.1, h.2, List.drop_zero, Nat.sub_zero, List.take_length]
def tL (L : List (List Nat)) : List D := L.map fun l => .tup (nL l)
theorem RepL.of_tL {G : Hp} : ∀ {L : List (List Nat)} {vs : List V}, RepL K G vs (tL L) → vs.length = L.length ∧ ∀ v, v ∈ vs → ∃ l, l ∈ L ∧ ∃ t, v = .ref t ∧ SqT K G t ((l.map fun (a : Nat) => (a : Int)).map V.int)
  | [], _, .nil => ⟨rfl, fun _ h => nomatch h⟩
  | l :: L, _, .cons a b => by
    obtain ⟨h1, h2⟩ := RepL.of_tL b
    refine ⟨by rw [List.length_cons, List.length_cons, h1], fun v hv => ?_⟩
    rcases List.mem_cons.mp hv with rfl | hv
    · cases a with
      | tup s r =>
        have e : nL l = (l.map fun (a : Nat) => (a : Int)).map D.int := by unfold nL; rw [List.map_map]; rfl
        rw [e] at r
        obtain rfl := RepL.of_ints r
        exact ⟨l, List.mem_cons_self, _, rfl, s⟩
    · obtain ⟨l2, hl, q⟩ := h2 v hv
      exact ⟨l2, List.mem_cons_of_mem _ hl, q⟩
end
theorem RepL.perm {K : PySem.W.Frag} {G : Hp} {vs ws : List V} {ds : List D} (p : ws.Perm vs) : RepL K G vs ds → ∃ es, es.Perm ds ∧ RepL K G ws es := by
  induction p generalizing ds with
  | nil => exact fun r => ⟨ds, List.Perm.refl _, r⟩
  | cons x p ih =>
    intro r
    cases r with
    | cons a b =>
      obtain ⟨es, h1, h2⟩ := ih b
      exact ⟨_, h1.cons _, .cons a h2⟩
  | swap x y l =>
    intro r
    cases r with
    | cons a b =>
      cases b with
      | cons b c => exact ⟨_, List.Perm.swap _ _ _, .cons b (.cons a c)⟩
  | trans p1 p2 ih1 ih2 =>
    intro r
    obtain ⟨es, h1, h2⟩ := ih2 r
    obtain ⟨fs, h3, h4⟩ := ih1 h2
    exact ⟨fs, h3.trans h1, h4⟩
theorem perm_tL {es : List D} {L : List (List Nat)} (h : es.Perm (tL L)) : ∃ L', es = tL L' ∧ L'.Perm L := by
  obtain ⟨L', h1, h2⟩ : ∃ L', es = tL L' ∧ L'.Perm L := by
    unfold tL at h ⊢
    have hm : ∀ e, e ∈ es → ∃ l, e = D.tup (nL l) := fun e he => by
      obtain ⟨l, _, rfl⟩ := List.mem_map.mp (h.mem_iff.mp he)
      exact ⟨l, rfl⟩
    let f : D → List Nat := fun d => match d with | .tup xs => xs.map (fun x => match x with | .int i => i.toNat | _ => 0) | _ => []
    have hf : ∀ l, f (.tup (nL l)) = l := fun l => by
      show (nL l).map _ = l
      unfold nL
      rw [List.map_map]
      exact (List.map_congr_left fun a _ => Int.toNat_natCast a).trans (List.map_id _)
    refine ⟨es.map f, ?_, ?_⟩
    · rw [List.map_map]
      refine (List.map_id es).symm.trans (List.map_congr_left fun e he => ?_)
      obtain ⟨l, rfl⟩ := hm e he
      show D.tup (nL l) = D.tup (nL (f (.tup (nL l))))
      rw [hf]
    · have h2 := h.map f
      rw [List.map_map] at h2
      have e : L.map (f ∘ fun l => D.tup (nL l)) = L := (List.map_congr_left fun a _ => hf a).trans (List.map_id _)
      rwa [e] at h2
  exact ⟨L', h1, h2⟩
def cdN (B : Int) (l : List Nat) : Int := TS.code B (l.map fun (a : Nat) => (a : Int))
section
variable {K : PySem.W.Frag} {δ : En} {M : Mem} {Q : D → Mem → Prop}
theorem pair_vals {G : Hp} {B : Int} : ∀ {vs : List V} {L : List (List Nat)}, RepL K G vs (tL L) → vs.Pairwise (fun x y => ∀ n m, TupI K G x n → TupI K G y m → TS.code B n ≤ TS.code B m) → L.Pairwise fun a b => cdN B a ≤ cdN B b
  | _, [], .nil, _ => .nil
  | v :: vs, l :: L, .cons a b, h => by
    obtain ⟨h1, h2⟩ := List.pairwise_cons.mp h
    have tup : ∀ {v : V} {l : List Nat}, Rep K G v (.tup (nL l)) → TupI K G v (l.map fun (a : Nat) => (a : Int)) := fun {v l} a => by
      cases a with
      | tup s r =>
        have e : nL l = (l.map fun (a : Nat) => (a : Int)).map D.int := by unfold nL; rw [List.map_map]; rfl
        rw [e] at r
        obtain rfl := RepL.of_ints r
        exact ⟨_, rfl, s⟩
    refine .cons (fun l2 hl2 => ?_) (pair_vals b h2)
    obtain ⟨i, hi⟩ := List.mem_iff_getElem?.mp hl2
    have hd : (tL L)[i]? = some (.tup (nL l2)) := by unfold tL; rw [List.getElem?_map, hi]; rfl
    obtain ⟨u, hu, ru⟩ := b.get hd
    exact h1 u (List.mem_of_getElem? hu) _ _ (tup a) (tup ru)
theorem dc_sortT {L : List (List Nat)} {k : Nat} {B : Int} (h64 : L.length < 64) (hL : ∀ l, l ∈ L → l.length = k ∧ ∀ a, a ∈ l → (a : Int) < B) (q : ∀ L' : List (List Nat), L'.Perm L → (L'.Pairwise fun a b => cdN B a ≤ cdN B b) → Q (.lst (tL L')) M) : DC K (rSortU K k B) [.lst (tL L)] M Q := fun F H vs m r QV kk => by
  obtain ⟨v, rfl, r1⟩ := vs1 r
  clear r
  cases r1 with
  | @lst a us _ s r =>
    obtain ⟨h1, h2⟩ := RepL.of_tL r
    have sqh := fun {t : Addr} {xs : List V} (z : SqT K (vis H M F) t xs) => sqt_mono (G' := H) (vis_le (H := H) (M := M) (F := F)) z
    refine ⟨a, us, rfl, vis_le.seq s, by omega, fun x hx => ?_, fun ys p hp hw hn => ?_⟩
    · obtain ⟨l, hl, t, rfl, st⟩ := h2 x hx
      obtain ⟨z1, z2⟩ := hL l hl
      refine ⟨_, ⟨t, rfl, sqh st⟩, by rw [List.length_map]; exact z1, fun i hi => ?_⟩
      obtain ⟨b, hb, rfl⟩ := List.mem_map.mp hi
      exact ⟨Int.natCast_nonneg b, z2 b hb⟩
    · obtain ⟨es, he, re⟩ := RepL.perm hp r
      obtain ⟨L', rfl, pl⟩ := perm_tL he
      obtain ⟨g, e⟩ := go_new (o := .lst ys) m hn
      refine kk _ M _ _ (q L' pl (pair_vals (re.mono vis_le) hw)) g (.lst (.inl (.inl e)) (re.mono g.ex))
theorem dc_sortV {L : List (List Nat)} (h : ∃ (k : Nat) (B : Int), 1 ≤ k ∧ L.length < 64 ∧ (∀ l, l ∈ L → l.length = k ∧ ∀ a, a ∈ l → (a : Int) < B) ∧ ∀ L' : List (List Nat), L'.Perm L → (L'.Pairwise fun a b => cdN B a ≤ cdN B b) → Q (.lst (tL L')) M) : DC K (rSortV K) [.lst (tL L)] M Q := by
  obtain ⟨k, B, h1, h2, h3, h4⟩ := h
  intro F H vs m r QV kk
  exact ⟨k, B, h1, dc_sortT h2 h3 h4 F H vs m r QV kk⟩
theorem asc_uniq {α : Type} {f : α → Int} : ∀ {a b : List α}, a.Perm b → (a.Pairwise fun x y => f x ≤ f y) → (b.Pairwise fun x y => f x < f y) → a = b
  | [], [], _, _, _ => rfl
  | [], y :: b, p, _, _ => by have := p.length_eq; simp at this
  | x :: a, [], p, _, _ => by have := p.length_eq; simp at this
  | x :: a, y :: b, p, ha, hb => by
    obtain ⟨h1, h2⟩ := List.pairwise_cons.mp ha
    obtain ⟨h3, h4⟩ := List.pairwise_cons.mp hb
    have e : x = y := by
      rcases List.mem_cons.mp (p.mem_iff.mp List.mem_cons_self) with z | z
      · exact z
      · rcases List.mem_cons.mp (p.mem_iff.mpr List.mem_cons_self) with z2 | z2
        · exact z2.symm
        · have := h1 y z2
          have := h3 x z
          omega
    subst e
    exact congrArg (x :: ·) (asc_uniq p.cons_inv h2 h4)
end
section
variable {K : PySem.W.Frag} {δ : En} {M : Mem} {Q : D → Mem → Prop} {te : TE} {tt : TT} {g : TG} {js : List Nat}
theorem DG.imp {d : D} {G G' : En → Mem → Prop} (h : DG K js g d δ M G) (i : ∀ δ M, G δ M → G' δ M) : DG K js g d δ M G' := fun F σ H v en m r QG k =>
  h F σ H v en m r QG fun δ' M' σ' H' z => k δ' M' σ' H' (i _ _ z)
end
section
variable {K : PySem.W.Frag} {δ : En} {M : Mem} {Q : D → Mem → Prop} {te : TE} {tr : TA} {d : D} {C : Addr} {m : Str}
theorem mut_ins {F : Fm} {H : Hp} {p : Addr} {fs : List (Str × D)} (k : MOk K F M H) (hp : M p = some (.ins C fs)) : ∃ dx xs, H p = some (.ins C dx xs) ∧ RepS K (vis H M F) xs fs := by
  obtain ⟨ho, e, ro⟩ := k.mo p _ hp
  cases ro with
  | ins ro => exact ⟨_, _, e, ro⟩
theorem de_propM {p : PT0} {E : XK} (h : DE K te δ M fun d M1 => ∃ b fs, d = .raw (.ref b) ∧ M1 b = some (.ins C fs) ∧ p [.raw (.ref b)] M1 Q) : DE K (tProp C (spD K p) [] E te) δ M Q := fun F σ H en mm QV k => by
  refine h F σ H en mm _ fun d M1 v H1 z g1 r1 => ?_
  obtain ⟨b, fs, rfl, hb, z⟩ := z
  cases r1
  obtain ⟨dx, xs, e, rs⟩ := mut_ins g1.ok hb
  exact ⟨b, dx, xs, rfl, e, F, M1, [.raw (.ref b)], Q, .cons (.raw _) .nil, g1.ok, z, fun d M3 u H3 q3 g3 r3 => k d M3 u H3 q3 (g1.trans g3) r3⟩
theorem de_makeM {p : PT0} {E : XK} (h : DA K tr δ M fun ds M1 => ∀ x, M1 x = none → p (.raw (.ref x) :: ds) (mup M1 x (.ins C [])) fun d M2 => d = .non ∧ Q (.raw (.ref x)) M2) : DE K (tMake C (spD K p) [] E tr) δ M Q := fun F σ H en m QV k => by
  refine h F σ H en m _ fun ds M1 vs H1 z g1 r1 x dx hx hdx hne => ?_
  rw [List.append_nil]
  obtain ⟨g2, _⟩ := go_new (o := .own x) g1.ok hdx
  have hx2 : upd H1 dx (.own x) x = none := by rw [upd_ne hne.symm]; exact hx
  have g3 := go_newM (o := .ins C dx []) (m := .ins C []) g2.ok hx2 (.ins .nil)
  have g := (g1.trans g2).trans g3
  have mx := (g1.ok.new hx).2
  refine ⟨F, mup M1 x (.ins C []), .raw (.ref x) :: ds, _, .cons (.raw _) ((r1.mono g2.ex).mono g3.ex), g3.ok, z x mx, fun d M2 u H2 hq g4 r4 => ?_⟩
  obtain ⟨rfl, q⟩ := hq
  cases r4
  exact ⟨rfl, k _ M2 _ H2 q (g.trans g4) (.raw _)⟩
end
end DL
set_option Elab.async false
set_option linter.all false
set_option maxRecDepth 100000
set_option maxHeartbeats 8000000
namespace DQ
open PySem PySem.Spec PyProof.Rows L2
section
variable {P : Program} {w : World} {A : Around} {E : Value → Shared → Prop} {s : Shared}
end
end DQ
set_option Elab.async false
set_option linter.all false
set_option maxRecDepth 100000
set_option maxHeartbeats 8000000
namespace DQ
open PySem PySem.Spec PyProof.Rows L2 TS
section
variable {prog : Program} {w : World} {A : Around} {E : Value → Shared → Prop} {s : Shared}
end
end DQ
namespace DL
open PySem PySem.Spec PyProof.Rows L2
section
variable {X : Cx}
def rSetA (K : PySem.W.Frag) (P : Program) (w : World) : List V → Hp → VK → Prop := fun xs H Q => ∃ (l : Addr) (ks : List (Addr × List Int)), xs = [V.ref l] ∧ (SqL K H l (ks.map fun p => V.ref p.1) ∨ SqT K H l (ks.map fun p => V.ref p.1)) ∧ (∀ p ∈ ks, SqT K H p.1 (p.2.map V.int)) ∧ ks.length < 64 ∧
  ∀ a L, H a = none → (∀ p ∈ L, p ∈ ks) → (∀ p ∈ ks, p.2 ∈ L.map (·.2)) → Q (.ref a) (upd H a (SetTO P w a L))
def rLenTO (P : Program) (w : World) : List V → Hp → VK → Prop := fun xs H Q => ∃ (a : Addr) (L : List (Addr × List Int)), xs = [V.ref a] ∧ H a = some (SetTO P w a L) ∧ ((L.map (·.2)).Nodup → Q (.int (L.length : Int)) H)
end
section
variable {K : PySem.W.Frag} {δ : En} {M : Mem} {Q : D → Mem → Prop} {tr : TA} {P : Program} {w : World}
abbrev iL (l : List Nat) : List Int := l.map fun (a : Nat) => (a : Int)
def nI (ns : List Int) : List Nat := ns.map Int.toNat
theorem nI_iL (l : List Nat) : nI (iL l) = l := by
  unfold nI iL
  rw [List.map_map]
  exact (List.map_congr_left fun a _ => Int.toNat_natCast a).trans (List.map_id _)
theorem rep_iL {G : Hp} {t : Addr} {l : List Nat} (s : SqT K G t ((iL l).map V.int)) : Rep K G (.ref t) (.tup (nL l)) := by
  have e : nL l = (iL l).map D.int := by unfold nL iL; rw [List.map_map]; rfl
  rw [e]
  exact .tup s (RepL.ints _)
theorem RepL.keys {G : Hp} : ∀ {L : List (List Nat)} {vs : List V}, RepL K G vs (tL L) → ∃ ks : List (Addr × List Int), vs = ks.map (fun p => V.ref p.1) ∧ (∀ p ∈ ks, SqT K G p.1 (p.2.map V.int)) ∧ ks.map (·.2) = L.map iL
  | [], _, .nil => ⟨[], rfl, (fun _ h => nomatch h), rfl⟩
  | l :: L, _, .cons a b => by
    obtain ⟨ks, e, h, z⟩ := RepL.keys b
    cases a with
    | @tup t us _ s r =>
      have en : nL l = (iL l).map D.int := by unfold nL iL; rw [List.map_map]; rfl
      rw [en] at r
      obtain rfl := RepL.of_ints r
      refine ⟨(t, iL l) :: ks, by rw [e]; rfl, fun p hp => ?_, by rw [List.map_cons, z]; rfl⟩
      rcases List.mem_cons.mp hp with rfl | hp
      · exact s
      · exact h p hp
theorem keys_set {ks S : List (Addr × List Int)} {L : List (List Nat)} (e : ks.map (·.2) = L.map iL) (h1 : ∀ p ∈ S, p ∈ ks) (h2 : ∀ p ∈ ks, p.2 ∈ S.map (·.2)) (nd : (S.map (·.2)).Nodup) :
    ∃ L' : List (List Nat), S.map (·.2) = L'.map iL ∧ L'.Nodup ∧ ∀ x, x ∈ L' ↔ x ∈ L := by
  have inL : ∀ p ∈ S, ∃ l, l ∈ L ∧ p.2 = iL l := fun p hp => by
    have : p.2 ∈ L.map iL := by rw [← e]; exact List.mem_map.mpr ⟨p, h1 p hp, rfl⟩
    obtain ⟨l, hl, he⟩ := List.mem_map.mp this
    exact ⟨l, hl, he.symm⟩
  have eS : S.map (·.2) = (S.map fun p => nI p.2).map iL := by
    rw [List.map_map]
    refine List.map_congr_left fun p hp => ?_
    obtain ⟨l, _, he⟩ := inL p hp
    show p.2 = iL (nI p.2)
    rw [he, nI_iL]
  refine ⟨S.map fun p => nI p.2, eS, ?_, fun x => ⟨fun hx => ?_, fun hx => ?_⟩⟩
  · rw [eS] at nd
    exact List.Pairwise.of_map iL (fun a b h e => h (congrArg iL e)) nd
  · obtain ⟨p, hp, rfl⟩ := List.mem_map.mp hx
    obtain ⟨l, hl, he⟩ := inL p hp
    rw [he, nI_iL]; exact hl
  · have : iL x ∈ ks.map (·.2) := by rw [e]; exact List.mem_map.mpr ⟨x, hx, rfl⟩
    obtain ⟨p, hp, he⟩ := List.mem_map.mp this
    obtain ⟨q, hq, he2⟩ := List.mem_map.mp (h2 p hp)
    refine List.mem_map.mpr ⟨q, hq, ?_⟩
    have he3 : q.2 = iL x := he2.trans he
    rw [he3, nI_iL]
theorem set_arg {F : Fm} {M : Mem} {H : Hp} {v : V} {L : List (List Nat)} {d : D} (hd : d = .tup (tL L) ∨ d = .lst (tL L)) (r : Rep K (vis H M F) v d) :
    ∃ (l : Addr) (ks : List (Addr × List Int)), v = .ref l ∧ (SqL K H l (ks.map fun p => V.ref p.1) ∨ SqT K H l (ks.map fun p => V.ref p.1)) ∧ (∀ p ∈ ks, SqT K (vis H M F) p.1 (p.2.map V.int)) ∧ ks.map (·.2) = L.map iL ∧ ks.length = L.length := by
  rcases hd with rfl | rfl
  · cases r with
    | tup s r =>
      obtain ⟨ks, rfl, h, e⟩ := r.keys
      refine ⟨_, ks, rfl, .inr (sqt_mono vis_le s), h, e, ?_⟩
      have := congrArg List.length e
      rwa [List.length_map, List.length_map] at this
  · cases r with
    | lst s r =>
      obtain ⟨ks, rfl, h, e⟩ := r.keys
      refine ⟨_, ks, rfl, .inl (vis_le.seq s), h, e, ?_⟩
      have := congrArg List.length e
      rwa [List.length_map, List.length_map] at this
theorem de_lenset (h : DA K tr δ M fun ds M1 => ∃ (d : D) (L : List (List Nat)), ds = [d] ∧ (d = .tup (tL L) ∨ d = .lst (tL L)) ∧ L.length < 64 ∧ ∀ L' : List (List Nat), L'.Nodup → (∀ x, x ∈ L' ↔ x ∈ L) → Q (.int (L'.length : Int)) M1) : DE K (tCB (rLenTO P w) (tCons (tCB (rSetA K P w) tr) tNil)) δ M Q := fun F σ H en m QV k => by
  refine h F σ H en m _ fun ds M1 vs H1 z g1 r1 => ?_
  obtain ⟨d, L, rfl, hd, few, q⟩ := z
  obtain ⟨v, rfl, r2⟩ := vs1 r1
  obtain ⟨l, ks, rfl, hl, hk, e, el⟩ := set_arg hd r2
  refine ⟨l, ks, rfl, hl, fun p hp => sqt_mono vis_le (hk p hp), by omega, fun a S ha s1 s2 => ?_⟩
  obtain ⟨g2, _⟩ := go_new (o := SetTO P w a S) g1.ok ha
  refine ⟨a, S, rfl, upd_same, fun nd => ?_⟩
  obtain ⟨L', e2, nd2, mm⟩ := keys_set e s1 s2 nd
  have q2 := q L' nd2 mm
  have : S.length = L'.length := by
    have := congrArg List.length e2
    rwa [List.length_map, List.length_map] at this
  rw [← this] at q2
  exact k _ M1 _ _ q2 (g1.trans g2) (.int _)
theorem de_ssetT (h : DA K tr δ M fun ds M1 => ∃ (d : D) (L : List (List Nat)) (n : Nat) (B : Int), ds = [d] ∧ (d = .tup (tL L) ∨ d = .lst (tL L)) ∧ L.length < 64 ∧ 1 ≤ n ∧ (∀ l, l ∈ L → l.length = n ∧ ∀ a, a ∈ l → (a : Int) < B) ∧ ∀ L' : List (List Nat), L'.Nodup → (∀ x, x ∈ L' ↔ x ∈ L) → (L'.Pairwise fun a b => cdN B a ≤ cdN B b) → Q (.lst (tL L')) M1) :
    DE K (tCB (rSortedT K P w) (tCons (tCB (rSetA K P w) tr) tNil)) δ M Q := fun F σ H en m QV k => by
  refine h F σ H en m _ fun ds M1 vs H1 z g1 r1 => ?_
  obtain ⟨d, L, n, B, rfl, hd, few, hn, hB, q⟩ := z
  obtain ⟨v, rfl, r2⟩ := vs1 r1
  obtain ⟨l, ks, rfl, hl, hk, e, el⟩ := set_arg hd r2
  refine ⟨l, ks, rfl, hl, fun p hp => sqt_mono vis_le (hk p hp), by omega, fun a S ha s1 s2 => ?_⟩
  obtain ⟨g2, _⟩ := go_new (o := SetTO P w a S) g1.ok ha
  have kS : ∀ p ∈ S, SqT K (vis (upd H1 a (SetTO P w a S)) M1 F) p.1 (p.2.map V.int) := fun p hp => sqt_mono g2.ex (hk p (s1 p hp))
  have inL : ∀ p ∈ S, ∃ l, l ∈ L ∧ p.2 = iL l := fun p hp => by
    have : p.2 ∈ L.map iL := by rw [← e]; exact List.mem_map.mpr ⟨p, s1 p hp, rfl⟩
    obtain ⟨l, hl, he⟩ := List.mem_map.mp this
    exact ⟨l, hl, he.symm⟩
  refine ⟨a, S, n, B, rfl, upd_same, fun p hp => sqt_mono vis_le (kS p hp), hn, fun p hp => ?_, fun T p pm nd few2 asc hp => ?_⟩
  · obtain ⟨l, hl, he⟩ := inL p hp
    obtain ⟨z1, z2⟩ := hB l hl
    rw [he]
    refine ⟨by rw [List.length_map]; exact z1, fun i hi => ?_⟩
    obtain ⟨b, hb, rfl⟩ := List.mem_map.mp hi
    exact ⟨Int.natCast_nonneg b, z2 b hb⟩
  · obtain ⟨g3, e3⟩ := go_new (o := .lst (T.map fun q => V.ref q.1)) g2.ok hp
    have kT : ∀ p ∈ T, p ∈ S := fun p hp => pm.mem_iff.mp hp
    obtain ⟨L', e2, nd2, mm⟩ := keys_set (S := T) e (fun p hp => s1 p (kT p hp)) (fun p hp => (pm.map (·.2)).mem_iff.mpr (s2 p hp)) nd
    have asc2 : L'.Pairwise fun a b => cdN B a ≤ cdN B b := by
      have a1 : (T.map (·.2)).Pairwise fun x y => TS.code B x ≤ TS.code B y := List.pairwise_map.mpr asc
      rw [e2] at a1
      exact (List.pairwise_map.mp a1).imp fun h => h
    refine k _ M1 _ _ (q L' nd2 mm asc2) ((g1.trans g2).trans g3) (.lst (.inl (.inl e3)) ?_)
    have go : ∀ (G : Hp) (T : List (Addr × List Int)) (L' : List (List Nat)), T.map (·.2) = L'.map iL → (∀ p ∈ T, SqT K G p.1 (p.2.map V.int)) → RepL K G (T.map fun q => V.ref q.1) (tL L') := fun G T => by
      induction T with
      | nil =>
        intro L' e _
        cases L' with
        | nil => exact .nil
        | cons _ _ => cases e
      | cons p T ih =>
        intro L' e hs
        cases L' with
        | nil => cases e
        | cons l L' =>
          rw [List.map_cons, List.map_cons] at e
          injection e with e1 e2
          have hp := hs p List.mem_cons_self
          rw [show p.2 = iL l from e1] at hp
          exact .cons (rep_iL hp) (ih L' e2 fun q hq => hs q (List.mem_cons_of_mem _ hq))
    exact go _ T L' e2 fun p hp => sqt_mono g3.ex (kS p (kT p hp))
end
end DL
set_option Elab.async false
set_option linter.all false
set_option maxRecDepth 100000
set_option maxHeartbeats 4000000
namespace DL
open PySem PySem.Spec PyProof.Rows L2 StX
theorem RepL.split {K : PySem.W.Frag} {G : Hp} : ∀ {as bs : List D} {vs : List V}, RepL K G vs (as ++ bs) → ∃ us ws, vs = us ++ ws ∧ RepL K G us as ∧ RepL K G ws bs
  | [], _, vs, r => ⟨[], vs, rfl, .nil, r⟩
  | _ :: as, bs, _, .cons a b => by
    obtain ⟨us, ws, rfl, h1, h2⟩ := RepL.split (as := as) b
    exact ⟨_ :: us, ws, rfl, .cons a h1, h2⟩
section
variable {X : Cx} {P : Program} {w : World} {K : PySem.W.Frag} {mg : Str → Option Value} {base : Heap} {C : Addr} {k : Nat} {m x : Str} {sh : List Str} {p : PT0} {o e : Expr} {es : List Expr} {ta : TE} {t : TA} {apos pos pp : Pos} {pl : Sem Bool} {f : Addr} {pins : List (Addr × Obj)} {σ : Sg} {H : Hp} {s : Shared} {Q : VK}
end
section
variable {K : PySem.W.Frag} {δ : En} {M : Mem} {Q : D → Mem → Prop} {p : PT0} {d : D} {rest : List D}
end
end DL
set_option Elab.async false
set_option linter.all false
set_option maxRecDepth 100000
set_option maxHeartbeats 4000000
namespace DL
open PySem PySem.Spec PyProof.Rows L2
section
variable {K : PySem.W.Frag} {δ : En} {M : Mem} {I : List D → Mem → Prop} {tr : TA}
end
section
variable {K : PySem.W.Frag} {δ : En} {M : Mem} {Q : D → Mem → Prop} {te : TE} {tt tt1 : TT} {g : TG} {js : List Nat}
end
end DL
set_option Elab.async false
set_option linter.all false
set_option maxRecDepth 100000
set_option maxHeartbeats 4000000
namespace DL
open PySem PySem.Spec PyProof.Rows L2
section
variable {P : Program} {w : World} {K : PySem.W.Frag} {mg : Str → Option Value} {base : Heap}
end
section
variable {X : Cx} {P : Program} {w : World} {K : PySem.W.Frag} {mg : Str → Option Value} {base : Heap} {k n : Nat} {x : Str} {ps ks : List Str} {st : Stmt} {kws : List (Str × V)} {p : PT0} {e : Expr} {es : List Expr} {kw : List Keyword} {t tk : TA} {pp pos : Pos}
end
section
variable {K : PySem.W.Frag} {δ : En} {M : Mem} {Q : D → Mem → Prop} {p : PT0} {t tk : TA} {n m : Nat} {gV : List V → List V → List V}
end
end DL
namespace DL
open PySem PySem.Spec PyProof.Rows L2
end DL
set_option Elab.async false
set_option linter.all false
set_option maxRecDepth 100000
set_option maxHeartbeats 4000000
namespace DL
open PySem PySem.Spec PyProof.Rows L2 LamX
section
variable {K : PySem.W.Frag} {H H1 : Hp} {M : Mem} {F : Fm} {P c' : Addr} {q : Str}
end
section
variable {X : Cx} {pins : List (Addr × Obj)} {σ : L2.St} {H : Hp} {s : Shared}
end
end DL
namespace DL
open PySem PySem.Spec PyProof.Rows L2 LamX
section
variable {X : Cx} {pins : List (Addr × Obj)} {σ : L2.St} {H : Hp} {s : Shared}
end
end DL
namespace DL
open PySem PySem.Spec PyProof.Rows L2 LamX
section
variable {X : Cx}
end
end DL
namespace DL
open PySem PySem.Spec PyProof.Rows L2 LamX
section
variable {X : Cx} {x n : Str} {c : Value} {i : Nat} {body suite : List Stmt} {b₀ : Stmt} {np pos pos' : Pos} {tb : WX → TS} {ts : Addr → Value → Option Addr → TS} {Wout : WX} {hds : List ExceptHandler} {l : List (Value × (Addr → Value → Option Addr → TS))}
end
end DL
set_option Elab.async false
set_option linter.all false
set_option maxRecDepth 100000
set_option maxHeartbeats 4000000
namespace DL
open PySem PySem.Spec PyProof.Rows L2 LamX
abbrev XP := Addr → List (Str × D) → Mem → Prop
abbrev PTX := List D → Mem → (D → Mem → Prop) → XP → Prop
def XRep (K : PySem.W.Frag) (G : Hp) (dd : Option Addr) (fs : List (Str × D)) : Prop := (fs = [] ∧ dd = none) ∨ ∃ (d : Addr) (xs : List (Str × V)), dd = some d ∧ G d = some (.xd xs) ∧ RepS K G xs fs ∧ fs ≠ []
def XG (K : PySem.W.Frag) (E : XK) (RX : XP) (F : Fm) (M : Mem) (H : Hp) : Prop := ∀ C fs M' H' dd, RX C fs M' → Go K F M H M' H' → XRep K (vis H' M' F) dd fs → E (.ref C) dd H'
section
variable {K : PySem.W.Frag} {E : XK} {RX : XP} {F : Fm} {M M1 : Mem} {H H1 : Hp}
theorem XG.go (g : XG K E RX F M H) (h : Go K F M H M1 H1) : XG K E RX F M1 H1 := fun C fs M' H' dd r g2 x => g C fs M' H' dd r (h.trans g2) x
theorem XG.imp {RX' : XP} (g : XG K E RX F M H) (h : ∀ C fs M', RX' C fs M' → RX C fs M') : XG K E RX' F M H := fun C fs M' H' dd r g2 x => g C fs M' H' dd (h _ _ _ r) g2 x
end
def DSX (K : PySem.W.Frag) (X : XK) (RX : XP) (ts : TS) (δ : En) (M : Mem) (q : DK) : Prop :=
  ∀ (F : Fm) (σ : Sg) (H : Hp), EnvR K (vis H M F) σ δ → MOk K F M H → XG K X RX F M H → ∀ E : Ends,
    (∀ δ' M' σ' H', q.nx δ' M' → Go K F M H M' H' → EnvR K (vis H' M' F) σ' δ' → E.nx σ' H') →
    (∀ d M' v H', q.rt d M' → Go K F M H M' H' → Rep K (vis H' M' F) v d → E.rt v H') →
    (∀ δ' M' σ' H', q.bk δ' M' → Go K F M H M' H' → EnvR K (vis H' M' F) σ' δ' → E.bk σ' H') →
    (∀ δ' M' σ' H', q.ct δ' M' → Go K F M H M' H' → EnvR K (vis H' M' F) σ' δ' → E.ct σ' H') → ts E σ H
section
variable {K : PySem.W.Frag} {X : XK} {RX : XP} {δ : En} {M : Mem} {q : DK} {t u : TS} {tt : TT} {ta : TA}
end
end DL
set_option Elab.async false
set_option linter.all false
set_option maxRecDepth 100000
set_option maxHeartbeats 4000000
namespace PySem
namespace HandSPX
open PySem.W PySem.Calls PyProof.Rows
def Over (B l : List Value) : Prop := ∃ cs : List Addr, l = cs.map Value.ref ++ B
theorem over_has {B : List Value} (X : String) : ∀ {l : List Value}, Over B l → l.contains (.type X) = B.contains (.type X) := by
  rintro l ⟨cs, rfl⟩
  induction cs with
  | nil => rfl
  | cons c cs ih => rw [List.map_cons, List.cons_append, List.contains_cons, ih]; rfl
section
open Builtin Builtin.ObjectAttr
variable {prog : Program} {w : World} {A : Around} {E : Value → Shared → Prop} {R : Result → Shared → Prop} {hp : Heap} {g : Array GenState} {d : Drawn} {t : Nat} {os : OsState}
end
end HandSPX
end PySem
namespace DL
open PySem PySem.Spec PyProof.Rows L2
section
variable {X : Cx} {pins : List (Addr × Obj)} {σ : L2.St} {H : Hp} {s : Shared} {a C : Addr} {f : Str} {y : V} {u : Value} {Q : Unit → Shared → Prop} {E : Value → Shared → Prop} {A : Around} {B : List Value} {newId : String}
end
section
variable {X : Cx} {B : List Value} {newId initId b : String} {C fI : Addr} {f x : Str} {o e : Expr} {to te : TE} {ta : TA} {p p' pos pos2 : Pos}
end
end DL
set_option Elab.async false
set_option linter.all false
set_option maxRecDepth 100000
set_option maxHeartbeats 4000000
namespace DL
open PySem PySem.Spec PyProof.Rows L2
section
variable {P : Program} {w : World} {K : PySem.W.Frag} {mg : Str → Option Value} {base : Heap} {C : Addr}
end
section
variable {X : Cx} {P : Program} {w : World} {K : PySem.W.Frag} {mg : Str → Option Value} {base : Heap} {C : Addr} {k : Nat} {m x : Str} {ps : List Str} {p : PTX} {o e : Expr} {es : List Expr} {ta : TE} {t : TA} {apos pos pp : Pos} {pl : Sem Bool} {E : XK}
end
section
variable {X : Cx} {B : List Value} {newId initId b : String} {C fI : Addr} {f x : Str} {e : Expr} {ta : TA} {p pos pos2 : Pos} {E : XK}
end
def DEX (K : PySem.W.Frag) (X : XK) (RX : XP) (te : TE) (δ : En) (M : Mem) (Q : D → Mem → Prop) : Prop :=
  ∀ (F : Fm) (σ : Sg) (H : Hp), EnvR K (vis H M F) σ δ → MOk K F M H → XG K X RX F M H → ∀ QV : VK, (∀ d M' v H', Q d M' → Go K F M H M' H' → Rep K (vis H' M' F) v d → QV v H') → te σ H QV
section
variable {K : PySem.W.Frag} {X : XK} {RX : XP} {δ : En} {M : Mem} {Q : D → Mem → Prop} {q : DK} {te : TE} {tr : TA} {p : PTX} {C : Addr} {m : Str}
end
end DL
set_option Elab.async false
set_option linter.all false
set_option maxRecDepth 100000
set_option maxHeartbeats 4000000
namespace DL
open PySem PySem.Spec PyProof.Rows L2 LamX
section
variable {K : PySem.W.Frag} {Eo : VK → XK} {X : XK} {RX : XP} {δ : En} {M : Mem} {Q : D → Mem → Prop} {te : TE} {tr : TA} {t : XK → TE} {P C : Addr} {q m : Str} {p : PTX}
end
end DL
set_option Elab.async false
set_option linter.all false
set_option maxRecDepth 100000
set_option maxHeartbeats 4000000
namespace DL
open PySem PySem.Spec PyProof.Rows L2 LamX
section
variable {X : Cx} {P : Program} {w : World} {K : PySem.W.Frag} {mg : Str → Option Value} {base : Heap} {x f m : Str} {C : Addr} {e : Expr} {ta : TA} {E : XK} {j : Nat} {p p2 pos pos2 : Pos}
end
section
variable {X : Cx} {P : Program} {w : World} {K : PySem.W.Frag} {mg : Str → Option Value} {base : Heap} {Eo : VK → XK}
end
section
variable {X : Cx} {P : Program} {w : World} {K : PySem.W.Frag} {mg : Str → Option Value} {base : Heap} {C : Addr} {k : Nat} {x : Str} {ps : List Str} {p : PTX} {e : Expr} {es : List Expr} {t : TA} {pos pp : Pos} {E : XK}
end
section
variable {K : PySem.W.Frag} {X : XK} {RX : XP} {δ : En} {M : Mem} {Q : D → Mem → Prop} {tr : TA} {p : PTX} {C : Addr}
end
section
variable {P : Program} {w : World} {K : PySem.W.Frag} {mg : Str → Option Value} {base : Heap}
end
end DL
set_option Elab.async false
set_option linter.all false
set_option maxRecDepth 100000
set_option maxHeartbeats 4000000
namespace DL
open PySem PySem.Spec PyProof.Rows L2 LamX
end DL
set_option Elab.async false
set_option linter.all false
set_option maxRecDepth 100000
set_option maxHeartbeats 4000000
namespace DL
open PySem PySem.Spec PyProof.Rows L2 LamX
section
variable {K : PySem.W.Frag} {c : Value} {i n : Nat} {ts : Addr → Value → Option Addr → TS} {Wout : WX} {D : Ends} {cls : Value} {d : Option Addr} {σ : Sg} {H : Hp} {l : List (Value × (Addr → Value → Option Addr → TS))} {A B : Addr}
end
section
variable {K : PySem.W.Frag} {mg : Str → Option Value} {n i : Nat} {C C' : Addr} {f s : Str} {l : List (Value × (Addr → Value → Option Addr → TS))} {Q : D → Mem → Prop} {QV : VK} {F : Fm} {M : Mem} {H : Hp} {dd : Option Addr} {fs : List (Str × D)} {d : D}
end
section
variable {X : Cx} {Ng : List Str} {x a n e f s q : Str} {sg : Scope} {g C : Addr} {cdg : Value} {i j : Nat} {hds : List ExceptHandler} {l : List (Value × (Addr → Value → Option Addr → TS))} {p1 p2 p3 p4 p5 p6 p7 p8 p9 p10 p11 : Pos}
end
end DL
set_option Elab.async false
set_option linter.all false
set_option maxRecDepth 100000
set_option maxHeartbeats 4000000
namespace DL
open PySem PySem.Spec PyProof.Rows L2
mutual
/-- this value is this datum in the heap; a dict is empty, and none of the interpreter's own -/
inductive Sw (h : Heap) : Value → PyData → Prop
  | non : Sw h .none .none
  | bl (b : Bool) : Sw h (.bool b) (.bool b)
  | int (i : Int) (t : Tok) : Sw h (.int i t) (.int i)
  | str (x : Str) (t : Tok) : Sw h (.str x t) (.str x)
  | lst {a : Addr} {o : Obj} {vs : Array Value} {n : Nat} {xs : List PyData} : h.get? a = some o → o.cls = .type "list" → o.data = .seq vs n → SwL h vs.toList xs → Sw h (.ref a) (.list xs)
  | tup {a : Addr} {o : Obj} {vs : Array Value} {n : Nat} {xs : List PyData} : h.get? a = some o → o.cls = .type "tuple" → o.data = .seq vs n → SwL h vs.toList xs → Sw h (.ref a) (.tuple xs)
  | dic {a : Addr} {o : Obj} {n : Nat} : h.get? a = some o → o.cls = .type "dict" → o.data = .dict #[] n → (a == sysModules) = false → Sw h (.ref a) (.dict [])
inductive SwL (h : Heap) : List Value → List PyData → Prop
  | nil : SwL h [] []
  | cons {v : Value} {vs : List Value} {d : PyData} {ds : List PyData} : Sw h v d → SwL h vs ds → SwL h (v :: vs) (d :: ds)
end
mutual
theorem Sw.reads {h : Heap} : ∀ {v : Value} {d : PyData}, Sw h v d → ∃ as, Reads h v d as
  | _, _, .non => ⟨_, .none⟩
  | _, _, .bl b => ⟨_, .bool b⟩
  | _, _, .int i t => ⟨_, .int i t⟩
  | _, _, .str x t => ⟨_, .str x t⟩
  | _, _, .lst z1 z2 z3 z4 => let ⟨_, r⟩ := SwL.reads z4; ⟨_, .list z1 z2 z3 r⟩
  | _, _, .tup z1 z2 z3 z4 => let ⟨_, r⟩ := SwL.reads z4; ⟨_, .tuple z1 z2 z3 r⟩
  | _, _, .dic z1 z2 z3 _ => ⟨_, .dict z1 z2 z3 .nil .nil⟩
theorem SwL.reads {h : Heap} : ∀ {v : List Value} {d : List PyData}, SwL h v d → ∃ as, ReadsAll h v d as
  | _, _, .nil => ⟨_, .nil⟩
  | _, _, .cons a b => let ⟨_, r⟩ := Sw.reads a; let ⟨_, q⟩ := SwL.reads b; ⟨_, .cons r q⟩
end
section
variable {P : Program} {w : World} {h : Heap}
end
end DL
set_option Elab.async false
set_option linter.all false
set_option maxRecDepth 100000
set_option maxHeartbeats 1000000
namespace DL
open PySem PySem.Spec PyProof.Rows L2
section
variable {X : Cx} {pins : List (Addr × Obj)} {σ : L2.St} {H : Hp} {s : Shared}
end
mutual
def toPyE : D → Option PyData
  | .non => some .none | .bl b => some (.bool b) | .int i => some (.int i) | .str x => some (.str x)
  | .lst xs => (toPyEL xs).map .list | .tup xs => (toPyEL xs).map .tuple
  | .dic kvs => if kvs.isEmpty then some (.dict []) else none
  | _ => none
def toPyEL : List D → Option (List PyData)
  | [] => some []
  | x :: r => match toPyE x, toPyEL r with | some a, some b => some (a :: b) | _, _ => none
end
section
variable {K : PySem.W.Frag} {M : Mem} {Q : D → Mem → Prop} {d : D}
end
end DL
set_option Elab.async false
set_option linter.all false
set_option maxRecDepth 100000
set_option maxHeartbeats 1000000
namespace DLM
open PySem PySem.Spec PyProof.Rows PySem.W
section
variable {prog : Program} {w : World} {A : Around} {E : Value → Shared → Prop} {s : Shared} {K : Frag} {x C f L : Addr} {ox : Obj} {od : Option Obj} {b tb : Value} {h₀ : Heap} {m : Str → Option Value}
end
end DLM
namespace DL
open PySem PySem.Spec PyProof.Rows L2
section
variable {X : Cx} {P : Program} {w : World} {K : PySem.W.Frag} {mg : Str → Option Value} {base : Heap} {C : Addr} {k : Nat} {ps : List Str} {p : PT0}
end
section
variable {K : PySem.W.Frag} {M : Mem} {Q : D → Mem → Prop} {d e : D} {C : Addr}
end
section
variable {K : PySem.W.Frag} {δ : En} {M : Mem} {Q : D → Mem → Prop} {te : TE} {ts : List TE}
def DJ (K : PySem.W.Frag) (ts : List TE) (acc : Str) (δ : En) (M : Mem) (Q : Str → Mem → Prop) : Prop :=
  ∀ (F : Fm) (σ : Sg) (H : Hp), EnvR K (vis H M F) σ δ → MOk K F M H → ∀ QV : Str → Hp → Prop, (∀ y M' H', Q y M' → Go K F M H M' H' → QV y H') → tJs ts acc σ H QV
end
end DL
set_option Elab.async false
set_option linter.all false
set_option maxRecDepth 100000
set_option maxHeartbeats 1000000
namespace DL
open PySem PySem.Spec PyProof.Rows L2
section
variable {X : Cx}
end
section
variable {K : PySem.W.Frag} {δ : En} {M : Mem} {Q : D → Mem → Prop} {te : TE}
end
end DL
set_option Elab.async false
set_option linter.all false
set_option maxRecDepth 100000
set_option maxHeartbeats 1000000
namespace DL
open PySem PySem.Spec PyProof.Rows L2
section
variable {K : PySem.W.Frag} {M : Mem} {Q : D → Mem → Prop} {d : D} {C : Addr}
end
end DL
set_option Elab.async false
set_option linter.all false
set_option maxRecDepth 100000
set_option maxHeartbeats 3200000
namespace DL
open PySem PySem.Spec PyProof.Rows L2
section
variable {prog : Program} {w : World} {A : Around} {Z : Type} [DecidableEq Z] {knd : PySem.KeyKind prog w Z}
def Holds (knd : PySem.KeyKind prog w Z) (xs : List Z) (a : Addr) (h : Heap) (i : Nat) : Prop := ∃ L : List Z, L.Nodup ∧ L.length ≤ i ∧ (∀ z, z ∈ L ↔ z ∈ xs.take i) ∧ h.SetOf knd a (fun z => decide (z ∈ L)) L.length
theorem Holds.keep {xs : List Z} {a : Addr} {h h' : Heap} {i : Nat} (x : Holds knd xs a h i) (k : ∀ o, h.get? a = some o → h'.get? a = some o) : Holds knd xs a h' i := by
  obtain ⟨L, nd, le, m, o, es, ep, t, ho, r⟩ := x
  exact ⟨L, nd, le, m, o, es, ep, t, k o ho, r⟩
theorem Holds.more {xs : List Z} {a : Addr} {h' : Heap} {i : Nat} {x : Z} {L : List Z} (hx : xs[i]? = some x) (nd : L.Nodup) (le : L.length ≤ i) (m : ∀ z, z ∈ L ↔ z ∈ xs.take i)
    (S : h'.SetOf knd a (fun z => decide (z ∈ L) || decide (z = x)) (if decide (x ∈ L) then L.length else L.length + 1)) : Holds knd xs a h' (i + 1) := by
  have e : ∀ z, z ∈ xs.take (i + 1) ↔ z ∈ xs.take i ∨ z = x := fun z => by
    rw [List.take_add_one, hx, List.mem_append]; simp
  by_cases c : x ∈ L
  · refine ⟨L, nd, Nat.le_succ_of_le le, fun z => by rw [e z, ← m z]; exact ⟨.inl, fun q => q.elim id fun q => q ▸ c⟩, PyProof.Rows.SetOf_congr S (fun z => ?_) (by rw [if_pos (decide_eq_true c)])⟩
    by_cases hz : z = x
    · subst hz; simp [c]
    · simp [hz]
  · refine ⟨x :: L, List.nodup_cons.mpr ⟨c, nd⟩, Nat.succ_le_succ le, fun z => by rw [e z, ← m z, List.mem_cons, or_comm], PyProof.Rows.SetOf_congr S (fun z => ?_) (by rw [if_neg (by simp [c])]; rfl)⟩
    by_cases hz : z = x <;> simp [hz]
theorem into_loop {a I : Addr} {R : Result → Shared → Prop} {s : Shared} (h : wpAny (model prog w) A.in1 (Builtin.«set.update.loop» ⟨[.ref a, .ref I], []⟩) (fun f s' => match f with | .done r => R (.ok r) s' | .again c => c.quiet = true ∧ codeAny (model prog w) A c R s') (fun e s' => R (.error e) s') s) :
    codeAny (model prog w) A (.builtin "set.update.loop" ⟨[.ref a, .ref I], []⟩) R s :=
  codeAny_builtin PyProof.Rows.F.entry_set_update_loop (by rw [Around.under_plainId PyProof.Rows.F.plain_set_update_loop _]; exact h)
theorem fill_loop {I a : Addr} {fp wr : List Addr} {G : Array GenState → Array GenState → Prop} {n : Nat} {Pv : Nat → Value → Prop} {St : Nat → Shared → Prop} {R : Result → Shared → Prop} {xs : List Z}
    (W : WalksS prog w A.in1 I fp wr G n Pv St) (out : a ∉ fp) (hn : xs.length = n) (fits : n + 1 < scanBound) (item : ∀ i v, Pv i v → ∃ x, xs[i]? = some x ∧ knd.is x v = true ∧ v.scannable = true) (left : Nat) :
    ∀ (i : Nat) (s : Shared), i + left = n → St i s → Holds knd xs a s.heap i → (∀ s', Moved (a :: wr) G s s' → Holds knd xs a s'.heap n → R (.ok (.ret .none)) s') → codeAny (model prog w) A (.builtin "set.update.loop" ⟨[.ref a, .ref I], []⟩) R s := by
  have aw : a ∉ wr := fun z => out (W.sub _ z)
  have wide : ∀ b ∈ wr, b ∈ a :: wr := fun b z => List.mem_cons_of_mem _ z
  induction left with
  | zero =>
    intro i s e st hs hR
    obtain rfl : i = n := e
    refine into_loop ?_
    exact wpAny_bind (W.done s _ _ st fun s' mv => wpAny_pure (hR s' (mv.mono wide) (hs.keep fun o ho => mv.heap a o aw ho)))
  | succ left ih =>
    intro i s e st hs hR
    refine into_loop (wpAny_bind (W.item i s _ _ (by omega) st fun v s' pv st' mv => ?_))
    obtain ⟨x, hx, iv, sc⟩ := item i v pv
    obtain ⟨L, nd, le, mm, so⟩ := hs.keep fun o ho => mv.heap a o aw ho
    show wpAny _ A.in1 (holding [v] (setAdd a v) >>= _) _ _ s'
    refine wpAny_bind (wpAny_holding ?_); unfold setAdd
    refine wpAny_holding (wpAny_bind (knd.pyHash iv ?_))
    refine wpAny_setAddHashed_of (knd := knd) (s := { s' with toks := s'.toks + 1 }) iv sc so (by omega) fun h2 sb so2 => ?_
    have same : ∀ b, b ≠ a → ∀ o, s'.heap.get? b = some o → h2.get? b = some o := fun b ne o ho => (sb.2 b ne).trans ho
    refine wpAny_pure ⟨plainId_quiet PyProof.Rows.F.plain_set_update_loop _, ih (i + 1) _ (by omega) (W.frame _ s' _ _ st' (Nat.le_succ _) fun b hb o ho => same b (fun z => out (z ▸ hb)) o ho) (Holds.more hx nd le mm so2) fun s3 mv3 hs3 => hR s3 (Moved.trans W.gtrans ((mv.mono wide).then_heap (Nat.le_succ _) fun b o hb ho => same b (fun z => hb (z ▸ List.mem_cons_self)) o ho) mv3) hs3⟩
variable {E : Value → Shared → Prop} {s : Shared}
abbrev setAt (led : Bool) : Obj := { cls := .type "set", dict := none, data := .set #[] 0 (.fresh 0 0 led) }
theorem call_set_of {l : Addr} {its : Array Value} {xs : List Z} {Q : Value → Shared → Prop} (hh : A.handled = none) (hl : s.heap.IsList l its ∨ s.heap.IsTuple l its) (sz : xs.length = its.size) (fits : its.size + 1 < scanBound)
    (item : ∀ (i : Nat) (v : Value), its[i]? = some v → ∃ x, xs[i]? = some x ∧ knd.is x v = true ∧ v.scannable = true)
    (h : ∀ (h' : Heap) (tk : Nat), Holds knd xs s.heap.objs.size h' its.size → (∀ b o, s.heap.get? b = some o → h'.get? b = some o) → Q (.ref s.heap.objs.size) { s with heap := h', toks := tk }) : wpAny (model prog w) A (call (.type "set") [.ref l]) Q E s := by
  generalize hS : s.heap.objs.size = S at h
  have lt : l < S := by rcases hl with ⟨o, q, _⟩ | ⟨o, q, _⟩ <;> (rw [← hS]; exact Heap.lt_size q)
  obtain ⟨_, _, mro⟩ := PySem.F.called_set.mro
  have made := PySem.F.called_set.made
  have sub := PySem.F.called_set.sub
  have nt := PySem.F.called_set.notType
  have cc := PySem.F.called_set.canCreate
  have ct := PySem.F.typeCall_set_1 (.ref l)
  refine wpAny_call (codeAny_of_tree (show wpAny _ _ (callAny (.type "set") _) _ _ _ from wpAny_pure ⟨Code.quiet_builtin _ (by decide +kernel), codeAny_builtin PySem.F.entry_type_call ?_⟩))
  rw [Around.under_plain (weight_type_call_type "set" [.ref l] []) rfl]; repeat any_goals (first | assumption | wp_step)
  refine codeAny_mono (code_set_new_1 (.ref l) (E := E) (Q₁ := fun obj s₁ => ∃ led : Bool, obj = .ref S ∧ s₁ = { s with heap := s.heap.push (setAt led) }) fun led => ⟨led, by rw [← hS], rfl⟩) fun r s₁ hr => ?_
  match r, hr with
  | .error e, hr => exact hr
  | .ok .next, hr => exact hr.elim
  | .ok .brk, hr => exact hr.elim
  | .ok .cont, hr => exact hr.elim
  | .ok (.ret obj), hr =>
    obtain ⟨led, rfl, rfl⟩ := hr
    generalize hP : s.heap.push (setAt led) = hp
    have at_ : hp.get? S = some (setAt led) := by rw [← hP, ← hS]; exact Heap.get?_push_size _ rfl
    have kept : ∀ b o, s.heap.get? b = some o → hp.get? b = some o := fun b o q => by rw [← hP]; exact Heap.get?_push_of_some _ q
    have szP : hp.objs.size = S + 1 := by rw [← hP, ← hS, Heap.size_push]
    have ty : Shared.TypeIs { s with heap := hp } (.ref S) "set" := ⟨_, at_, rfl⟩
    have li := PySem.F.called_set.init.lookup
    have bi := PySem.F.called_set.init.bind (.ref S)
    repeat any_goals (first | assumption | wp_step)
    let Done : Value → Shared → Prop := fun r s2 => r = .none ∧ ∃ h' tk, s2 = { s with heap := h', toks := tk } ∧ Holds knd xs S h' its.size ∧ ∀ b o, s.heap.get? b = some o → h'.get? b = some o
    refine codeAny_mono (codeAny_call_builtin (R := wants Done E) PySem.F.called_set.init.plain PySem.F.entry_set_init (check_set_init_1 ty ?_)) fun r2 s2 hr2 => ?_
    · have fin : ∀ (it : Addr) (g : Heap) (tk : Nat), it = hp.objs.size → ∀ s', Moved [S, it] (fun a b => b = a) { s with heap := g, toks := tk } s' → (∀ b o, hp.get? b = some o → g.get? b = some o) → Holds knd xs S s'.heap its.size → Done .none s' := fun it g tk hit s' mv kp hs => by
        obtain ⟨h2, g2, d2, t2, o2⟩ := s'
        obtain rfl : g2 = s.gens := mv.gens
        obtain rfl : d2 = s.drawn := mv.drawn
        obtain rfl : o2 = s.os := mv.os
        refine ⟨rfl, h2, t2, rfl, hs, fun b o q => mv.heap b o ?_ (kp b o (kept b o q))⟩
        have := Heap.lt_size q
        rw [hS] at this
        simp only [List.mem_cons, List.mem_singleton, List.not_mem_nil, or_false, not_or]
        exact ⟨Nat.ne_of_lt this, by rw [hit, szP]; exact Nat.ne_of_lt (Nat.lt_succ_of_lt this)⟩
      have start : ∀ ob, Holds knd xs S (hp.push ob) 0 := fun ob => ⟨[], List.nodup_nil, Nat.le_refl _, fun z => by simp, PyProof.Rows.SetOf_congr ((PyProof.Rows.setObjOf_fresh (knd := knd) led).setOf (Heap.get?_push_of_some _ at_) (by unfold scanBound; omega)) (fun _ => rfl) rfl⟩
      rcases hl with hl | hl
      · obtain ⟨⟨oc, od, odt, osl⟩, q0, q1, nl, q2⟩ := hl
        obtain rfl : oc = .type "list" := q1
        obtain rfl : odt = .seq its nl := q2
        have lat := kept _ _ q0
        have f1 := PySem.F.sub_list_set
        have f2 := PySem.F.sub_list_frozenset
        have f3 : (Value.type "list" == Value.type "dict") = false := by decide
        have il : hp.IsList l its := ⟨_, lat, rfl, nl, rfl⟩
        unfold Builtin.«set.__init__» noKeywords Builtin.Frozenset.updateFrom; generalize hIt : pyIter = PI
        wp_walk
        subst hIt
        refine wpAny_pyIter_list il (wpAny_bind (wpAny_runValue ?_))
        refine fill_loop (knd := knd) ((Walks.list (by simp [hh]) _ l (by rw [szP]; exact Nat.ne_of_lt (Nat.lt_succ_of_lt lt)) its).toS) (by rw [szP]; simp only [List.mem_cons, List.mem_singleton, List.not_mem_nil, or_false, not_or]; exact ⟨Nat.ne_of_lt (Nat.lt_succ_self _), Nat.ne_of_gt lt⟩) sz fits item its.size 0 _ (by omega)
          ⟨⟨_, Heap.get?_push_size _ rfl, rfl, rfl⟩, il.push _⟩ (start _) fun s' mv hs => ?_
        show wpAny _ _ _ _ _ _
        refine wpAny_pure (show wpAny _ _ (ret Value.none) _ _ _ from ?_)
        exact wpAny_pure (fin _ _ _ rfl s' mv (fun b o q => Heap.get?_push_of_some _ q) hs)
      · obtain ⟨⟨oc, od, odt, osl⟩, q0, q1, nl, q2⟩ := hl
        obtain rfl : oc = .type "tuple" := q1
        obtain rfl : odt = .seq its nl := q2
        have lat := kept _ _ q0
        have f1 := PySem.F.sub_tuple_set
        have f2 := PySem.F.sub_tuple_frozenset
        have f3 : (Value.type "tuple" == Value.type "dict") = false := by decide
        have il : hp.IsTuple l its := ⟨_, lat, rfl, nl, rfl⟩
        unfold Builtin.«set.__init__» noKeywords Builtin.Frozenset.updateFrom; generalize hIt : pyIter = PI
        wp_walk
        subst hIt
        refine wpAny_pyIter_tuple il (wpAny_bind (wpAny_runValue ?_))
        refine fill_loop (knd := knd) ((Walks.tuple (by simp [hh]) _ l (by rw [szP]; exact Nat.ne_of_lt (Nat.lt_succ_of_lt lt)) its).toS) (by rw [szP]; simp only [List.mem_cons, List.mem_singleton, List.not_mem_nil, or_false, not_or]; exact ⟨Nat.ne_of_lt (Nat.lt_succ_self _), Nat.ne_of_gt lt⟩) sz fits item its.size 0 _ (by omega)
          ⟨⟨_, Heap.get?_push_size _ rfl, rfl, rfl⟩, il.push _⟩ (start _) fun s' mv hs => ?_
        show wpAny _ _ _ _ _ _
        refine wpAny_pure (show wpAny _ _ (ret Value.none) _ _ _ from ?_)
        exact wpAny_pure (fin _ _ _ rfl s' mv (fun b o q => Heap.get?_push_of_some _ q) hs)
    · match r2, hr2 with
      | .error e, hr2 => exact hr2
      | .ok .next, hr2 => exact hr2.elim
      | .ok .brk, hr2 => exact hr2.elim
      | .ok .cont, hr2 => exact hr2.elim
      | .ok (.ret r), hr2 =>
        obtain ⟨rfl, h', tk, rfl, hs, kp⟩ := hr2
        repeat any_goals (first | assumption | wp_step)
        exact h _ _ hs kp
end
end DL
set_option Elab.async false
set_option linter.all false
set_option maxRecDepth 100000
set_option maxHeartbeats 1000000
namespace DL
open PySem PySem.Spec PyProof.Rows L2
section
variable {X : Cx}
def tLenSetS (K : PySem.W.Frag) (ta : TE) : TE := fun σ H Q => ta σ H fun x H1 => ∃ (l : Addr) (ys : List Str), x = .ref l ∧ (SqL K H1 l (ys.map V.str) ∨ SqT K H1 l (ys.map V.str)) ∧ ys.length ≤ 1000 ∧ ∀ L : List Str, L.Nodup → (∀ k, k ∈ L ↔ k ∈ ys) → Q (.int (L.length : Nat)) H1
theorem strItem {w : World} {P : Program} {us : List Value} {ys : List Str} (h : StrsAre us ys) (i : Nat) (v : Value) (hv : us.toArray[i]? = some v) : ∃ x, ys[i]? = some x ∧ (PySem.strKind P w).is x v = true ∧ v.scannable = true := by
  rw [List.getElem?_toArray] at hv
  obtain ⟨t, rfl⟩ := SS.strs_at h i v hv
  have lt : i < ys.length := by
    have := (List.getElem?_eq_some_iff.mp hv).1
    rwa [StrsAre.len_eq h] at this
  refine ⟨ys.getD i Str.empty, ?_, strKind_is _ _ _ _, rfl⟩
  rw [List.getD_eq_getElem?_getD, List.getElem?_eq_getElem lt]; rfl
theorem pe_lenSetSK (K : PySem.W.Frag) {a : Expr} {ta : TE} {p p2 q pos : Pos} (hg : Gl X "len") (hm : X.mg "len" = none) (hg2 : Gl X "set") (hm2 : X.mg "set" = none) (ha : PE X a ta) (hc : X.calm = true := by rfl) (hK : X.K = K := by rfl)
    (na : starEach [a] X.env = (false, eval a X.env) :: starEach [] X.env := by rfl) : PE X (.Call (.Name "len" p) [.Call (.Name "set" p2) [a] [] q] [] pos) (tLenSetS K ta) := by
  subst hK
  refine ⟨fun pins s σ H Q I h => Call_ (ld_blt I hg hm boot_len (PyProof.Rows.callWith_builtin1 (PyProof.Rows.args_cons ?_ rfl) rfl rfl))⟩
  refine Call_ (ld_blt I hg2 hm2 boot_set (PyProof.Rows.callWith_type1 (PyProof.Rows.args_cons (thn (ha.run pins s σ H _ I h) fun v s1 z => PyProof.Rows.args_nil ?_) na) na rfl))
  obtain ⟨x, H1, I1, r1, l, ys, rfl, hq, few, q1⟩ := z
  cases r1
  have go : ∀ (its : List Value), Vals (ys.map V.str) its → (s1.heap.IsList l its.toArray ∨ s1.heap.IsTuple l its.toArray) → wpAny (model X.prog X.w) X.A (call (.type "set") [.ref l]) (fun v2 s2 => wpAny (model X.prog X.w) X.A (spliced (backTo pos (starEach [] X.env))) (fun vs s₂ => wpAny (model X.prog X.w) X.A (call (.builtin "len") (v2 :: vs)) (EP X pins σ Q) X.xe s₂) X.xe s2) X.xe s1 := fun its r il => by
    have sa := strsAre_of r
    have sz : ys.length = its.toArray.size := by rw [List.size_toArray, StrsAre.len_eq sa]
    refine call_set_of (knd := PySem.strKind X.prog X.w) (I1.ok.hd hc) il sz (by rw [← sz]; unfold scanBound; omega) (strItem sa) fun g tk R old => PyProof.Rows.args_nil ?_
    obtain ⟨L, nd, _, mm, o, es, ep, t, ho, hex, hd, _, _, sb, hf, hn⟩ := R
    have I2 : Inv X pins σ H1 { s1 with heap := g, toks := tk } := I1.kept old
    rw [← sz, List.take_length] at mm
    exact call_len_set ho hex hd hf (by unfold scanBound at sb; omega) ⟨.int (L.length : Nat), H1, I2.tok _, ⟨_, by rw [hn]⟩, q1 _ nd mm⟩
  rcases hq with hq | hq
  · obtain ⟨its, r, pl, hz⟩ := I1.list hq
    exact go its r (.inl pl.isList)
  · obtain ⟨its, r, pl, hz⟩ := I1.tuple hq
    exact go its r (.inr pl)
end
section
variable {K : PySem.W.Frag} {δ : En} {M : Mem} {Q : D → Mem → Prop} {te : TE}
theorem de_lenSetS (h : DE K te δ M fun d M1 => ∃ l : List Str, (d = .tup (l.map D.str) ∨ d = .lst (l.map D.str)) ∧ l.length ≤ 1000 ∧ ∀ L : List Str, L.Nodup → (∀ k, k ∈ L ↔ k ∈ l) → Q (.int (L.length : Nat)) M1) : DE K (tLenSetS K te) δ M Q := fun F σ H en m QV k => by
  refine h F σ H en m _ fun d M1 v H1 z g1 r1 => ?_
  obtain ⟨l, hd, few, q⟩ := z
  rcases hd with rfl | rfl
  · cases r1 with
    | tup s r =>
      obtain rfl := RepL.of_strs r
      exact ⟨_, l, rfl, .inr (sqt_mono vis_le s), few, fun L nd mm => k _ M1 _ H1 (q L nd mm) g1 (.int _)⟩
  · cases r1 with
    | lst s r =>
      obtain rfl := RepL.of_strs r
      exact ⟨_, l, rfl, .inl (vis_le.seq s), few, fun L nd mm => k _ M1 _ H1 (q L nd mm) g1 (.int _)⟩
end
end DL
namespace DLM
open PySem PySem.Spec PyProof.Rows PySem.SeqAt PySem.MeetsSeq PySem.SeqRoads2
end DLM
namespace DL
open PySem PySem.Spec PyProof.Rows L2
section
variable {X : Cx}
end
def Lay (d : D) : Prop := ∃ p, toPyE d = some p
theorem all_lay : ∀ (xs : List D) (ps : List PyData), toPyEL xs = some ps → ∀ x, x ∈ xs → Lay x
  | [], _, _, x, hx => by cases hx
  | y :: r, ps, e, x, hx => by
    rw [toPyEL] at e
    cases e1 : toPyE y with
    | none => rw [e1] at e; cases e
    | some a =>
      cases e2 : toPyEL r with
      | none => rw [e1, e2] at e; cases e
      | some b =>
        rcases List.mem_cons.mp hx with rfl | hx
        · exact ⟨a, e1⟩
        · exact all_lay r b e2 x hx
theorem Lay.tup {xs : List D} (h : Lay (.tup xs)) : ∀ x, x ∈ xs → Lay x := by
  obtain ⟨p, e⟩ := h
  rw [toPyE] at e
  cases e2 : toPyEL xs with
  | none => rw [e2] at e; cases e
  | some b => exact all_lay xs b e2
theorem Lay.lst {xs : List D} (h : Lay (.lst xs)) : ∀ x, x ∈ xs → Lay x := by
  obtain ⟨p, e⟩ := h
  rw [toPyE] at e
  cases e2 : toPyEL xs with
  | none => rw [e2] at e; cases e
  | some b => exact all_lay xs b e2
section
variable {K : PySem.W.Frag} {M : Mem} {Q : D → Mem → Prop} {d e : D}
end
section
variable {K : PySem.W.Frag} {δ : En} {M : Mem} {q : DK}
end
end DL
set_option Elab.async false
set_option linter.all false
set_option maxRecDepth 100000
set_option maxHeartbeats 1000000
namespace DL
open PySem PySem.Spec PyProof.Rows L2
def rOrd (f : Int → Int → Bool) (g : List Nat → List Nat → Bool) : R2 := fun x y H Q => (∃ i j : Int, x = .int i ∧ y = .int j ∧ Q (.bl (f i j)) H) ∨ ∃ i j : Str, x = .str i ∧ y = .str j ∧ Q (.bl (g i.cps.toList j.cps.toList)) H
abbrev rLtX : R2 := rOrd (fun i j => decide (i < j)) fun x y => decide (x < y)
section
variable {X : Cx}
theorem op_ltX : OpR X (compareOp .Lt) rLtX := by
  intro pins s σ H x y v u Q I rx ry h
  rcases h with ⟨i, j, rfl, rfl, q⟩ | ⟨i, j, rfl, rfl, q⟩
  · exact op_lt pins s σ H _ _ v u Q I rx ry ⟨i, j, rfl, rfl, q⟩
  · exact op_lt_str pins s σ H _ _ v u Q I rx ry ⟨i, j, rfl, rfl, q⟩
end
section
variable {K : PySem.W.Frag} {M : Mem} {Q : D → Mem → Prop}
end
def rSlE (K : PySem.W.Frag) : V → Option Int → Option Int → Hp → VK → Prop := fun x lo hi H Q => rSlA K x lo hi H Q ∨ rSlL K x lo hi H Q
theorem sl_anyK {X : Cx} (K : PySem.W.Frag) (h : X.K = K := by rfl) : SlR X (rSlE K) := (sl_tupK K h).or (sl_listK K h)
section
variable {K : PySem.W.Frag} {δ : En} {M : Mem} {Q : D → Mem → Prop} {te : TE}
end
end DL
set_option Elab.async false
set_option linter.all false
set_option maxRecDepth 100000
set_option maxHeartbeats 1000000
namespace DL
open PySem PySem.Spec PyProof.Rows L2
section
variable {K : PySem.W.Frag} {δ : En} {M : Mem} {Q : D → Mem → Prop} {te : TE} {tt : TT} {g : TG} {js : List Nat}
end
end DL
set_option Elab.async false
set_option linter.all false
set_option maxRecDepth 100000
set_option maxHeartbeats 1000000
namespace DL
open PySem PySem.Spec PyProof.Rows L2
section
variable {X : Cx}
end
section
variable {K : PySem.W.Frag} {M : Mem} {Q : D → Mem → Prop} {xs : List D}
end
end DL
set_option Elab.async false
set_option linter.all false
set_option maxRecDepth 100000
set_option maxHeartbeats 1000000
namespace DL
open PySem PySem.Spec PyProof.Rows L2
end DL
set_option Elab.async false
set_option linter.all false
set_option maxRecDepth 100000
set_option maxHeartbeats 4000000
namespace DL
open PySem PySem.Spec PyProof.Rows L2
section
variable {P : Program} {w : World} {A : Around} {E : Value → Shared → Prop} {s : Shared}
structure TSet (P : Program) (w : World) (h : Heap) (a : Addr) (l : List Str) : Prop where
  ex : ∃ D : Froz.SD, h.get? a = some (Froz.sObj "set" D) ∧ Froz.TxOk P w D l ∧ Ris D.2.2.place.toList ∧ (w.params.followText "set-order" = true ∨ D.2.2.led = true)
  nd : l.Nodup
theorem TSet.keep {h h' : Heap} {a : Addr} {l : List Str} (x : TSet P w h a l) (k : ∀ o, h.get? a = some o → h'.get? a = some o) : TSet P w h' a l := by
  obtain ⟨⟨D, e, r⟩, nd⟩ := x
  exact ⟨⟨D, k _ e, r⟩, nd⟩
end
end DL
set_option Elab.async false
set_option linter.all false
set_option maxRecDepth 100000
set_option maxHeartbeats 1000000
namespace DL
open PySem PySem.Spec PyProof.Rows L2
section
variable {X : Cx}
end
section
variable {K : PySem.W.Frag} {δ : En} {M : Mem} {Q : D → Mem → Prop} {te : TE}
end
end DL
set_option Elab.async false
set_option linter.all false
set_option maxRecDepth 100000
set_option maxHeartbeats 1000000
namespace DL
open PySem PySem.Spec PyProof.Rows L2
section
variable {X : Cx} {K : PySem.W.Frag} {P : Program} {w : World} {mg : Str → Option Value} {base : Heap} {k : Nat} {C : Addr} {ps : List Str} {p : PT0}
end
section
variable {K : PySem.W.Frag} {M : Mem} {Q : D → Mem → Prop} {C : Addr}
end
end DL
set_option Elab.async false
set_option linter.all false
set_option maxRecDepth 100000
set_option maxHeartbeats 1000000
namespace FL
open PySem PySem.Spec PyProof.Rows L2 DL
inductive SL where
  | no
  | d (x : D)
  | own (l : List D)
abbrev Sls := List SL
abbrev KE := D → Sls → Mem → Prop
abbrev WE := Sls → Mem → KE → Prop
abbrev WB := Sls → Mem → (Bool → Sls → Mem → Prop) → Prop
abbrev WA := Sls → Mem → (List D → Sls → Mem → Prop) → Prop
abbrev WG := D → Sls → Mem → (Sls → Mem → Prop) → Prop
abbrev WGs := List D → Sls → Mem → (Sls → Mem → Prop) → Prop
structure KS where
  nx : Sls → Mem → Prop
  rt : D → Mem → Prop
  bk : Sls → Mem → Prop := fun _ _ => False
  ct : Sls → Mem → Prop := fun _ _ => False
abbrev WS := Sls → Mem → KS → Prop
def gd (b : Bool) (P : Prop) : Prop := match b with | true => P | false => False
def br (b : Bool) (P Q : Prop) : Prop := match b with | true => P | false => Q
theorem gd_mk {b : Bool} {P : Prop} (h : b = true) (p : P) : gd b P := by subst h; exact p
theorem gd_of {b : Bool} {P : Prop} (h : gd b P) : b = true ∧ P := by
  cases b with
  | true => exact ⟨rfl, h⟩
  | false => exact h.elim
@[simp] theorem gd_true {P : Prop} : gd true P = P := rfl
@[simp] theorem br_true {P Q : Prop} : br true P Q = P := rfl
@[simp] theorem br_false {P Q : Prop} : br false P Q = Q := rfl
abbrev Ow := Nat → Option Addr
structure RelE (η : Sls) (A : Ow) (δ : En) : Prop where
  len : δ.length = η.length
  dat : ∀ (i : Nat) (x : D), η[i]? = some (SL.d x) → δ[i]? = some (some x)
  own : ∀ (i : Nat) (l : List D), η[i]? = some (SL.own l) → ∃ p, A i = some p ∧ δ[i]? = some (some (.raw (.ref p)))
  inj : ∀ (i j : Nat) (p : Addr), A i = some p → A j = some p → i = j
def IsOwn (η : Sls) (A : Ow) (a : Addr) : Prop := ∃ (i : Nat) (l : List D), η[i]? = some (SL.own l) ∧ A i = some a
structure RelM (η : Sls) (A : Ow) (M0 O M : Mem) : Prop where
  own : ∀ (i : Nat) (l : List D) (p : Addr), η[i]? = some (SL.own l) → A i = some p → M p = some (.lst l) ∧ O p = none ∧ M0 p = none
  out : ∀ a o, O a = some o → M a = some o ∧ M0 a = none
  rest : ∀ a, O a = none → ¬ IsOwn η A a → M a = M0 a
structure Jn (M0 O M : Mem) : Prop where
  a : ∀ a, O a = none → M a = M0 a
  b : ∀ a o, O a = some o → M a = some o ∧ M0 a = none
def Sub (M0 M : Mem) : Prop := ∀ a o, M0 a = some o → M a = some o
theorem RelM.sub {η : Sls} {A : Ow} {M0 O M : Mem} (m : RelM η A M0 O M) : Sub M0 M := fun a o h => by
  have hO : O a = none := by
    cases e : O a with
    | none => rfl
    | some u =>
      have := (m.out a u e).2
      rw [h] at this; cases this
  rw [m.rest a hO fun ⟨i, l, h1, h2⟩ => by
    have := (m.own i l a h1 h2).2.2
    rw [h] at this; cases this]
  exact h
def besides (M0 M : Mem) : Mem := fun a => match M0 a with | some _ => none | none => M a
theorem jn_besides {M0 M : Mem} (s : Sub M0 M) : Jn M0 (besides M0 M) M := by
  constructor
  · intro a h
    cases e : M0 a with
    | some o => exact s a o e
    | none =>
      unfold besides at h
      rw [e] at h
      exact h
  · intro a o h
    unfold besides at h
    cases e : M0 a with
    | some u => rw [e] at h; cases h
    | none => rw [e] at h; exact ⟨h, rfl⟩
theorem RelM.jn {η : Sls} {A : Ow} {M0 O M M0' M' : Mem} (m : RelM η A M0 O M) (j : Jn M0' (besides M0 M) M') : RelM η A M0' O M' := by
  have bo : ∀ a o, M a = some o → M0 a = none → besides M0 M a = some o := fun a o h n => by unfold besides; rw [n]; exact h
  constructor
  · intro i l p h1 h2
    obtain ⟨z1, z2, z3⟩ := m.own i l p h1 h2
    obtain ⟨y1, y2⟩ := j.b p _ (bo _ _ z1 z3)
    exact ⟨y1, z2, y2⟩
  · intro a o h
    obtain ⟨z1, z2⟩ := m.out a o h
    exact j.b a o (bo _ _ z1 z2)
  · intro a h1 h2
    refine j.a a ?_
    have e := m.rest a h1 h2
    unfold besides
    cases e2 : M0 a with
    | some _ => rfl
    | none => rw [e2] at e; exact e
def DenE (K : PySem.W.Frag) (te : TE) (fe : WE) : Prop := ∀ (η : Sls) (A : Ow) (M0 O M : Mem) (δ : En) (k : KE), RelE η A δ → RelM η A M0 O M → fe η M0 k →
  DE K te δ M fun d M' => ∃ η' M0', RelE η' A δ ∧ RelM η' A M0' O M' ∧ k d η' M0'
def DenT (K : PySem.W.Frag) (tt : TT) (ft : WB) : Prop := ∀ (η : Sls) (A : Ow) (M0 O M : Mem) (δ : En) (k : Bool → Sls → Mem → Prop), RelE η A δ → RelM η A M0 O M → ft η M0 k →
  DT K tt δ M fun b M' => ∃ η' M0', RelE η' A δ ∧ RelM η' A M0' O M' ∧ k b η' M0'
def DenA (K : PySem.W.Frag) (ta : TA) (fa : WA) : Prop := ∀ (η : Sls) (A : Ow) (M0 O M : Mem) (δ : En) (k : List D → Sls → Mem → Prop), RelE η A δ → RelM η A M0 O M → fa η M0 k →
  DA K ta δ M fun ds M' => ∃ η' M0', RelE η' A δ ∧ RelM η' A M0' O M' ∧ k ds η' M0'
def DenI (K : PySem.W.Frag) (wi : TI) (fi : WA) : Prop := ∀ (η : Sls) (A : Ow) (M0 O M : Mem) (δ : En) (k : List D → Sls → Mem → Prop), RelE η A δ → RelM η A M0 O M → fi η M0 k →
  DI K wi δ M fun ds M' => ∃ η' M0', RelE η' A δ ∧ RelM η' A M0' O M' ∧ k ds η' M0'
def DenG (K : PySem.W.Frag) (js : List Nat) (g : TG) (fg : WG) : Prop := ∀ (x : D) (η : Sls) (A : Ow) (M0 O M : Mem) (δ : En) (k : Sls → Mem → Prop), RelE η A δ → RelM η A M0 O M → fg x η M0 k →
  DG K js g x δ M fun δ' M' => ∃ η' M0', RelE η' A δ' ∧ RelM η' A M0' O M' ∧ k η' M0'
def DenGs (K : PySem.W.Frag) (js : List Nat) (g : TGs) (fg : WGs) : Prop := ∀ (xs : List D) (η : Sls) (A : Ow) (M0 O M : Mem) (δ : En) (k : Sls → Mem → Prop), RelE η A δ → RelM η A M0 O M → fg xs η M0 k →
  DGs K js g xs δ M fun δ' M' => ∃ η' M0', RelE η' A δ' ∧ RelM η' A M0' O M' ∧ k η' M0'
def lift (O : Mem) (k : KS) : DK where
  nx := fun δ' M' => ∃ η' A' M0', RelE η' A' δ' ∧ RelM η' A' M0' O M' ∧ k.nx η' M0'
  rt := fun d M' => ∃ η' A' M0' δ', RelE η' A' δ' ∧ RelM η' A' M0' O M' ∧ k.rt d M0'
  bk := fun δ' M' => ∃ η' A' M0', RelE η' A' δ' ∧ RelM η' A' M0' O M' ∧ k.bk η' M0'
  ct := fun δ' M' => ∃ η' A' M0', RelE η' A' δ' ∧ RelM η' A' M0' O M' ∧ k.ct η' M0'
def DenS (K : PySem.W.Frag) (ts : TS) (fs : WS) : Prop := ∀ (η : Sls) (A : Ow) (M0 O M : Mem) (δ : En) (k : KS), RelE η A δ → RelM η A M0 O M → fs η M0 k → DS K ts δ M (lift O k)
section
variable {K : PySem.W.Frag} {ta tb tc te : TE} {fa fb fc fe : WE} {tt tu : TT} {ft fu : WB} {tr : TA} {fr : WA} {t u : TS} {fs gs : WS}
def eVar (i : Nat) : WE := fun η M k => match η[i]? with | some (.d x) => k x η M | _ => False
theorem den_var {i : Nat} : DenE K (tVar i) (eVar i) := fun η A M0 O M δ k re rm h => by
  unfold eVar at h
  split at h
  · rename_i x e
    exact de_var (re.dat i x e) ⟨η, M0, re, rm, h⟩
  · exact h.elim
def eC (x : D) : WE := fun η M k => k x η M
theorem den_c {v : V} {x : D} (r : ∀ G, Rep K G v x) : DenE K (tC v) (eC x) := fun η A M0 O M δ k re rm h => de_c r ⟨η, M0, re, rm, h⟩
theorem den_int {i : Int} : DenE K (tC (.int i)) (eC (.int i)) := den_c fun _ => .int i
theorem den_bl {i : Bool} : DenE K (tC (.bl i)) (eC (.bl i)) := den_c fun _ => .bl i
theorem den_str {i : Str} : DenE K (tC (.str i)) (eC (.str i)) := den_c fun _ => .str i
theorem den_non : DenE K (tC .non) (eC .non) := den_c fun _ => .non
theorem den_raw {v : V} : DenE K (tC v) (eC (.raw v)) := den_c fun _ => .raw v
abbrev F2 := Mem → D → D → (D → Prop) → Prop
abbrev F1 := Mem → D → (D → Prop) → Prop
abbrev Fn := Mem → List D → (D → Prop) → Prop
def FOp (K : PySem.W.Frag) (r : R2) (f : F2) : Prop := ∀ (d e : D) (M0 M : Mem) (Q : D → Prop), Sub M0 M → f M0 d e Q → DR K r d e M fun x M' => M' = M ∧ Q x
def FCl (K : PySem.W.Frag) (r : List V → Hp → VK → Prop) (f : Fn) : Prop := ∀ (ds : List D) (M0 M : Mem) (Q : D → Prop), Sub M0 M → f M0 ds Q → DC K r ds M fun x M' => M' = M ∧ Q x
def eOp (f : F2) (fa fb : WE) : WE := fun η M k => fa η M fun d η1 M1 => fb η1 M1 fun e η2 M2 => f M2 d e fun x => k x η2 M2
theorem DR.imp {r : R2} {d e : D} {M : Mem} {Q Q' : D → Mem → Prop} (h : DR K r d e M Q) (k : ∀ x M', Q x M' → Q' x M') : DR K r d e M Q' := fun F H v u m a b QV q => h F H v u m a b QV fun x M' z H' y => q x M' z H' (k x M' y)
theorem DU.imp {r : V → Hp → VK → Prop} {d : D} {M : Mem} {Q Q' : D → Mem → Prop} (h : DU K r d M Q) (k : ∀ x M', Q x M' → Q' x M') : DU K r d M Q' := fun F H v m a QV q => h F H v m a QV fun x M' z H' y => q x M' z H' (k x M' y)
theorem DC.imp {r : List V → Hp → VK → Prop} {ds : List D} {M : Mem} {Q Q' : D → Mem → Prop} (h : DC K r ds M Q) (k : ∀ x M', Q x M' → Q' x M') : DC K r ds M Q' := fun F H v m a QV q => h F H v m a QV fun x M' z H' y => q x M' z H' (k x M' y)
theorem den_op {r : R2} {f : F2} (o : FOp K r f) (a : DenE K ta fa) (b : DenE K tb fb) : DenE K (tOp r ta tb) (eOp f fa fb) := fun η A M0 O M δ k re rm h =>
  de_op ((a η A M0 O M δ _ re rm h).imp fun d M1 ⟨η1, M01, re1, rm1, h1⟩ => (b η1 A M01 O M1 δ _ re1 rm1 h1).imp fun e M2 ⟨η2, M02, re2, rm2, h2⟩ => DR.imp (o d e M02 M2 _ rm2.sub h2) fun x M' ⟨e1, h3⟩ => by subst e1; exact ⟨η2, M02, re2, rm2, h3⟩)
def eUn (f : F1) (fa : WE) : WE := fun η M k => fa η M fun d η1 M1 => f M1 d fun x => k x η1 M1
def aNil : WA := fun η M k => k [] η M
def aCons (fe : WE) (fr : WA) : WA := fun η M k => fe η M fun d η1 M1 => fr η1 M1 fun ds η2 M2 => k (d :: ds) η2 M2
theorem DA.imp {δ : En} {M : Mem} {A A' : List D → Mem → Prop} (h : DA K tr δ M A) (k : ∀ d M', A d M' → A' d M') : DA K tr δ M A' := fun F σ H e m QV q => h F σ H e m QV fun d M' v H' z => q d M' v H' (k d M' z)
theorem den_nil : DenA K tNil aNil := fun η A M0 O M δ k re rm h => da_nil ⟨η, M0, re, rm, h⟩
theorem den_cons (a : DenE K te fe) (b : DenA K tr fr) : DenA K (tCons te tr) (aCons fe fr) := fun η A M0 O M δ k re rm h =>
  da_cons ((a η A M0 O M δ _ re rm h).imp fun d M1 ⟨η1, M01, re1, rm1, h1⟩ => b η1 A M01 O M1 δ _ re1 rm1 h1)
def eCB (f : Fn) (fr : WA) : WE := fun η M k => fr η M fun ds η1 M1 => f M1 ds fun x => k x η1 M1
theorem den_cb {r : List V → Hp → VK → Prop} {f : Fn} (o : FCl K r f) (a : DenA K tr fr) : DenE K (tCB r tr) (eCB f fr) := fun η A M0 O M δ k re rm h =>
  de_CB (DA.imp (a η A M0 O M δ _ re rm h) fun ds M1 ⟨η1, M01, re1, rm1, h1⟩ => DC.imp (o ds M01 M1 _ rm1.sub h1) fun x M' ⟨e1, h3⟩ => by subst e1; exact ⟨η1, M01, re1, rm1, h3⟩)
def szOk (n : Nat) : Bool := Nat.ble n sizeLine
theorem szOk_le {n : Nat} (h : szOk n = true) : n ≤ sizeLine := Nat.le_of_ble_eq_true h
theorem szOk_mk {n : Nat} (h : n ≤ 1000000) : szOk n = true := Nat.ble_eq_true_of_le (by rw [sizeLine_eq]; omega)
def eTup (fr : WA) : WE := fun η M k => fr η M fun ds η1 M1 => gd (szOk ds.length) (k (.tup ds) η1 M1)
def eLst (fr : WA) : WE := fun η M k => fr η M fun ds η1 M1 => gd (szOk ds.length) (k (.lst ds) η1 M1)
theorem den_tup (a : DenA K tr fr) : DenE K (tTup tr) (eTup fr) := fun η A M0 O M δ k re rm h =>
  de_tup (DA.imp (a η A M0 O M δ _ re rm h) fun ds M1 ⟨η1, M01, re1, rm1, h1⟩ => ⟨szOk_le (gd_of h1).1, η1, M01, re1, rm1, (gd_of h1).2⟩)
theorem den_lst (a : DenA K tr fr) : DenE K (tLst tr) (eLst fr) := fun η A M0 O M δ k re rm h =>
  de_lst (DA.imp (a η A M0 O M δ _ re rm h) fun ds M1 ⟨η1, M01, re1, rm1, h1⟩ => ⟨szOk_le (gd_of h1).1, η1, M01, re1, rm1, (gd_of h1).2⟩)
def bTest (fe : WE) : WB := fun η M k => fe η M fun d η1 M1 => match d with | .bl b => k b η1 M1 | _ => False
theorem bTest_of {k : Bool → Sls → Mem → Prop} {d : D} {η1 : Sls} {M1 : Mem} (h : match d with | .bl b => k b η1 M1 | _ => False) : ∃ b, d = .bl b ∧ k b η1 M1 := by
  cases d <;> first | exact h.elim | exact ⟨_, rfl, h⟩
theorem den_test (a : DenE K te fe) : DenT K (tTest te) (bTest fe) := fun η A M0 O M δ k re rm h =>
  dt_test' ((a η A M0 O M δ _ re rm h).imp fun d M1 ⟨η1, M01, re1, rm1, h1⟩ => let ⟨b, e, h2⟩ := bTest_of h1; ⟨b, e, η1, M01, re1, rm1, h2⟩)
def bNot (ft : WB) : WB := fun η M k => ft η M fun b => k (!b)
theorem den_not (a : DenT K tt ft) : DenT K (tNot tt) (bNot ft) := fun η A M0 O M δ k re rm h => dt_not (a η A M0 O M δ _ re rm h)
def bAnd (ft fu : WB) : WB := fun η M k => ft η M fun b η1 M1 => br b (fu η1 M1 k) (k false η1 M1)
def bOr (ft fu : WB) : WB := fun η M k => ft η M fun b η1 M1 => br b (k true η1 M1) (fu η1 M1 k)
theorem den_and (a : DenT K tt ft) (b : DenT K tu fu) : DenT K (tAnd tt tu) (bAnd ft fu) := fun η A M0 O M δ k re rm h =>
  dt_and ((a η A M0 O M δ _ re rm h).imp fun c M1 ⟨η1, M01, re1, rm1, h1⟩ => by
    cases c with
    | true => rw [if_pos rfl]; exact b η1 A M01 O M1 δ _ re1 rm1 h1
    | false => rw [if_neg Bool.false_ne_true]; exact ⟨η1, M01, re1, rm1, h1⟩)
theorem den_or (a : DenT K tt ft) (b : DenT K tu fu) : DenT K (tOr tt tu) (bOr ft fu) := fun η A M0 O M δ k re rm h =>
  dt_or ((a η A M0 O M δ _ re rm h).imp fun c M1 ⟨η1, M01, re1, rm1, h1⟩ => by
    cases c with
    | true => rw [if_pos rfl]; exact ⟨η1, M01, re1, rm1, h1⟩
    | false => rw [if_neg Bool.false_ne_true]; exact b η1 A M01 O M1 δ _ re1 rm1 h1)
def truF : D → (Bool → Prop) → Prop
  | .str x, k => gd (szOk x.length) (k (x.length != 0))
  | .non, k => k false | .bl b, k => k b | .int i, k => k (i != 0) | .lst xs, k => k (!xs.isEmpty) | .tup xs, k => k (!xs.isEmpty) | _, _ => False
def bTru (fe : WE) : WB := fun η M k => fe η M fun d η1 M1 => truF d fun b => k b η1 M1
theorem den_tru (a : DenE K te fe) : DenT K (tTru K te) (bTru fe) := fun η A M0 O M δ k re rm h =>
  dt_tru ((a η A M0 O M δ _ re rm h).imp fun d M1 ⟨η1, M01, re1, rm1, h1⟩ => by
    cases d with
    | str x =>
      obtain ⟨h2, h3⟩ := gd_of h1
      refine ⟨_, rfl, fun y e => by cases e; exact szOk_le h2, η1, M01, re1, rm1, ?_⟩
      have : ((x.length : Int) != 0) = (x.length != 0) := by
        rw [Bool.eq_iff_iff, bne_iff_ne, bne_iff_ne]; omega
      rw [this]; exact h3
    | non => exact ⟨_, rfl, (fun _ e => (nomatch e)), η1, M01, re1, rm1, h1⟩
    | bl _ => exact ⟨_, rfl, (fun _ e => (nomatch e)), η1, M01, re1, rm1, h1⟩
    | int _ => exact ⟨_, rfl, (fun _ e => (nomatch e)), η1, M01, re1, rm1, h1⟩
    | lst _ => exact ⟨_, rfl, (fun _ e => (nomatch e)), η1, M01, re1, rm1, h1⟩
    | tup _ => exact ⟨_, rfl, (fun _ e => (nomatch e)), η1, M01, re1, rm1, h1⟩
    | _ => exact h1.elim)
def blF (d : D) (k : Bool → Prop) : Prop := match d with | .bl b => k b | _ => False
theorem blF_of {d : D} {k : Bool → Prop} (h : blF d k) : ∃ b, d = .bl b ∧ k b := by
  cases d <;> first | exact h.elim | exact ⟨_, rfl, h⟩
def eAnd (fa fb : WE) : WE := fun η M k => fa η M fun d η1 M1 => blF d fun c => br c (fb η1 M1 k) (k (.bl false) η1 M1)
def eOr (fa fb : WE) : WE := fun η M k => fa η M fun d η1 M1 => blF d fun c => br c (k (.bl true) η1 M1) (fb η1 M1 k)
def eNot (fa : WE) : WE := fun η M k => fa η M fun d η1 M1 => blF d fun c => k (.bl (!c)) η1 M1
theorem den_andV (a : DenE K ta fa) (b : DenE K tb fb) : DenE K (tAndV ta tb) (eAnd fa fb) := fun η A M0 O M δ k re rm h =>
  de_andV ((a η A M0 O M δ _ re rm h).imp fun d M1 ⟨η1, M01, re1, rm1, h1⟩ => by
    obtain ⟨c, rfl, h1⟩ := blF_of h1
    refine ⟨c, rfl, ?_⟩
    cases c with
    | true => rw [if_pos rfl]; exact b η1 A M01 O M1 δ _ re1 rm1 h1
    | false => rw [if_neg Bool.false_ne_true]; exact ⟨η1, M01, re1, rm1, h1⟩)
theorem den_orV (a : DenE K ta fa) (b : DenE K tb fb) : DenE K (tOrV ta tb) (eOr fa fb) := fun η A M0 O M δ k re rm h =>
  de_orV ((a η A M0 O M δ _ re rm h).imp fun d M1 ⟨η1, M01, re1, rm1, h1⟩ => by
    obtain ⟨c, rfl, h1⟩ := blF_of h1
    refine ⟨c, rfl, ?_⟩
    cases c with
    | true => rw [if_pos rfl]; exact ⟨η1, M01, re1, rm1, h1⟩
    | false => rw [if_neg Bool.false_ne_true]; exact b η1 A M01 O M1 δ _ re1 rm1 h1)
theorem den_notV (a : DenE K ta fa) : DenE K (tNotV ta) (eNot fa) := fun η A M0 O M δ k re rm h =>
  de_notV ((a η A M0 O M δ _ re rm h).imp fun d M1 ⟨η1, M01, re1, rm1, h1⟩ => by
    obtain ⟨c, rfl, h1⟩ := blF_of h1
    exact ⟨c, rfl, η1, M01, re1, rm1, h1⟩)
def eIf (ft : WB) (fa fb : WE) : WE := fun η M k => ft η M fun b η1 M1 => br b (fa η1 M1 k) (fb η1 M1 k)
theorem den_if (c : DenT K tt ft) (a : DenE K ta fa) (b : DenE K tb fb) : DenE K (tIf tt ta tb) (eIf ft fa fb) := fun η A M0 O M δ k re rm h =>
  de_if ((c η A M0 O M δ _ re rm h).imp fun d M1 ⟨η1, M01, re1, rm1, h1⟩ => by
    cases d with
    | true => rw [if_pos rfl]; exact a η1 A M01 O M1 δ _ re1 rm1 h1
    | false => rw [if_neg Bool.false_ne_true]; exact b η1 A M01 O M1 δ _ re1 rm1 h1)
def eChain (f g : F2) (fa fb fc : WE) : WE := fun η M k => fa η M fun d η1 M1 => fb η1 M1 fun e η2 M2 => f M2 d e fun x => blF x fun c => br c (fc η2 M2 fun z η3 M3 => g M3 e z fun y => k y η3 M3) (k (.bl false) η2 M2)
theorem den_chain {r r' : R2} {f g : F2} (o : FOp K r f) (o' : FOp K r' g) (a : DenE K ta fa) (b : DenE K tb fb) (c : DenE K tc fc) : DenE K (tChain r r' ta tb tc) (eChain f g fa fb fc) := fun η A M0 O M δ k re rm h =>
  de_chain ((a η A M0 O M δ _ re rm h).imp fun d M1 ⟨η1, M01, re1, rm1, h1⟩ => (b η1 A M01 O M1 δ _ re1 rm1 h1).imp fun e M2 ⟨η2, M02, re2, rm2, h2⟩ => DR.imp (o d e M02 M2 _ rm2.sub h2) fun x M' ⟨e1, h3⟩ => by
    subst e1
    obtain ⟨bb, rfl, h3⟩ := blF_of h3
    refine ⟨bb, rfl, ?_⟩
    cases bb with
    | true =>
      rw [if_pos rfl]
      exact (c η2 A M02 O M' δ _ re2 rm2 h3).imp fun z M3 ⟨η3, M03, re3, rm3, h4⟩ => DR.imp (o' e z M03 M3 _ rm3.sub h4) fun x M5 ⟨e5, h5⟩ => by subst e5; exact ⟨η3, M03, re3, rm3, h5⟩
    | false => rw [if_neg Bool.false_ne_true]; exact ⟨η2, M02, re2, rm2, h3⟩)
abbrev FF := List D → Mem → (D → Mem → Prop) → Prop
def prom (n : Nat) (f : FF) : PT0 := fun ds M R => ds.length = n ∧ ∃ (M0 O : Mem) (Q : D → Mem → Prop), Jn M0 O M ∧ f ds M0 Q ∧ ∀ d M0' M', Q d M0' → Jn M0' O M' → R d M'
def eCall (f : FF) (n : Nat) (fr : WA) : WE := fun η M k => fr η M fun ds η1 M1 => gd (Nat.beq ds.length n) (f ds M1 fun d M2 => k d η1 M2)
theorem den_call {f : FF} {n : Nat} {E : XK} (a : DenA K tr fr) : DenE K (tCall (spD K (prom n f)) [] E tr) (eCall f n fr) := fun η A M0 O M δ k re rm h =>
  de_call (DA.imp (a η A M0 O M δ _ re rm h) fun ds M1 ⟨η1, M01, re1, rm1, h1⟩ => by
    obtain ⟨h2, h1⟩ := gd_of h1
    exact ⟨Nat.eq_of_beq_eq_true h2, M01, besides M01 M1, _, jn_besides rm1.sub, h1, fun d M0' M' hq hj => ⟨η1, M0', re1, rm1.jn hj, hq⟩⟩)
end
end FL
set_option Elab.async false
set_option linter.all false
set_option maxRecDepth 100000
set_option maxHeartbeats 1000000
namespace FL
open PySem PySem.Spec PyProof.Rows L2 DL
section
variable {K : PySem.W.Frag} {ta tb tc te : TE} {fa fb fc fe : WE} {tt tu : TT} {ft fu : WB} {tr : TA} {fr : WA} {t u : TS} {fs gs : WS} {g : TG} {fg : WG} {gg : TGs} {fgs : WGs} {wi : TI} {fi : WA}
def notOwn (η : Sls) (i : Nat) : Bool := match η[i]? with | some (.own _) => false | _ => true
theorem notOwn_no {η : Sls} {i : Nat} (h : notOwn η i = true) {l : List D} (e : η[i]? = some (.own l)) : False := by
  unfold notOwn at h
  rw [e] at h
  cases h
theorem RelE.set {η : Sls} {A : Ow} {δ : En} (r : RelE η A δ) (i : Nat) (x : D) : RelE (η.set i (.d x)) A (δ.set i (some x)) := by
  constructor
  · rw [List.length_set, List.length_set]; exact r.len
  · intro j y h
    by_cases hj : i = j
    · subst hj
      by_cases hl : i < η.length
      · rw [List.getElem?_set_self hl] at h; cases h
        rw [List.getElem?_set_self (by rw [r.len]; exact hl)]
      · rw [List.getElem?_eq_none (by rw [List.length_set]; omega)] at h; cases h
    · rw [List.getElem?_set_ne hj] at h ⊢
      exact r.dat j y h
  · intro j l h
    by_cases hj : i = j
    · subst hj
      by_cases hl : i < η.length
      · rw [List.getElem?_set_self hl] at h; cases h
      · rw [List.getElem?_eq_none (by rw [List.length_set]; omega)] at h; cases h
    · rw [List.getElem?_set_ne hj] at h ⊢
      exact r.own j l h
  · exact r.inj
theorem own_set {η : Sls} {i j : Nat} {x : D} {l : List D} (h : (η.set i (.d x))[j]? = some (.own l)) : i ≠ j ∧ η[j]? = some (.own l) := by
  by_cases hj : i = j
  · subst hj
    by_cases hl : i < η.length
    · rw [List.getElem?_set_self hl] at h; cases h
    · rw [List.getElem?_eq_none (by rw [List.length_set]; omega)] at h; cases h
  · rw [List.getElem?_set_ne hj] at h
    exact ⟨hj, h⟩
theorem RelM.set {η : Sls} {A : Ow} {M0 O M : Mem} (m : RelM η A M0 O M) {i : Nat} {x : D} (no : notOwn η i = true) : RelM (η.set i (.d x)) A M0 O M := by
  constructor
  · intro j l p h1 h2
    exact m.own j l p (own_set h1).2 h2
  · exact m.out
  · intro a h1 h2
    refine m.rest a h1 fun ⟨j, l, e1, e2⟩ => h2 ⟨j, l, ?_, e2⟩
    have hj : i ≠ j := fun e => by subst e; exact notOwn_no no e1
    rw [List.getElem?_set_ne hj]; exact e1
def gNm (i : Nat) : WG := fun x η M k => gd (notOwn η i) (k (η.set i (.d x)) M)
theorem den_gname {i : Nat} : DenG K [i] (gName i) (gNm i) := fun x η A M0 O M δ k re rm h =>
  let ⟨h1, h2⟩ := gd_of h
  dg_name ⟨_, M0, re.set i x, rm.set h1, h2⟩
def gsNil : WGs := fun xs η M k => match xs with | [] => k η M | _ => False
def gsCons (fg : WG) (fgs : WGs) : WGs := fun xs η M k => match xs with | x :: r => fg x η M fun η1 M1 => fgs r η1 M1 k | [] => False
theorem den_gsnil : DenGs K [] gNil gsNil := fun xs η A M0 O M δ k re rm h => by
  cases xs with
  | nil => exact dgs_nil ⟨η, M0, re, rm, h⟩
  | cons _ _ => exact h.elim
theorem DG.imp {js : List Nat} {x : D} {δ : En} {M : Mem} {Q Q' : En → Mem → Prop} (h : DG K js g x δ M Q) (k : ∀ δ M, Q δ M → Q' δ M) : DG K js g x δ M Q' := fun F σ H v en m r QG q => h F σ H v en m r QG fun δ' M' σ' H' z => q δ' M' σ' H' (k _ _ z)
theorem den_gscons {js1 js2 : List Nat} (a : DenG K js1 g fg) (b : DenGs K js2 gg fgs) : DenGs K (js1 ++ js2) (gCons g gg) (gsCons fg fgs) := fun xs η A M0 O M δ k re rm h => by
  cases xs with
  | nil => exact h.elim
  | cons x r => exact dgs_cons ((a x η A M0 O M δ _ re rm h).imp fun δ1 M1 ⟨η1, M01, re1, rm1, h1⟩ => b r η1 A M01 O M1 δ1 k re1 rm1 h1)
def gTp (n : Nat) (fgs : WGs) : WG := fun x η M k => match x with | .tup xs => gd (Nat.beq xs.length n) (fgs xs η M k) | _ => False
theorem den_gtup {js : List Nat} {n : Nat} (a : DenGs K js gg fgs) : DenG K js (gTup K n gg) (gTp n fgs) := fun x η A M0 O M δ k re rm h => by
  cases x with
  | tup xs =>
    obtain ⟨h1, h2⟩ := gd_of h
    exact dg_tup (Nat.eq_of_beq_eq_true h1) (a xs η A M0 O M δ k re rm h2)
  | _ => exact h.elim
def sNext : WS := fun η M k => k.nx η M
theorem den_next : DenS K tNext sNext := fun η A M0 O M δ k re rm h => ds_next ⟨η, A, M0, re, rm, h⟩
def sSeq (fs gs : WS) : WS := fun η M k => fs η M { k with nx := fun η1 M1 => gs η1 M1 k }
theorem den_seq (a : DenS K t fs) (b : DenS K u gs) : DenS K (tSeq t u) (sSeq fs gs) := fun η A M0 O M δ k re rm h =>
  ds_seq ((a η A M0 O M δ _ re rm h).imp (fun δ1 M1 ⟨η1, A1, M01, re1, rm1, h1⟩ => b η1 A1 M01 O M1 δ1 k re1 rm1 h1) (fun _ _ z => z) (fun _ _ z => z) fun _ _ z => z)
def sDrop (fe : WE) : WS := fun η M k => fe η M fun _ η1 M1 => k.nx η1 M1
theorem den_drop (a : DenE K te fe) : DenS K (tDrop te) (sDrop fe) := fun η A M0 O M δ k re rm h =>
  ds_drop ((a η A M0 O M δ _ re rm h).imp fun d M1 ⟨η1, M01, re1, rm1, h1⟩ => ⟨η1, A, M01, re1, rm1, h1⟩)
def sRet (fe : WE) : WS := fun η M k => fe η M fun d _ M1 => k.rt d M1
theorem den_ret (a : DenE K te fe) : DenS K (tRet te) (sRet fe) := fun η A M0 O M δ k re rm h =>
  ds_ret ((a η A M0 O M δ _ re rm h).imp fun d M1 ⟨η1, M01, re1, rm1, h1⟩ => ⟨η1, A, M01, δ, re1, rm1, h1⟩)
def sIf (ft : WB) (fs gs : WS) : WS := fun η M k => ft η M fun b η1 M1 => br b (fs η1 M1 k) (gs η1 M1 k)
theorem den_ifs (c : DenT K tt ft) (a : DenS K t fs) (b : DenS K u gs) : DenS K (tIfS tt t u) (sIf ft fs gs) := fun η A M0 O M δ k re rm h =>
  ds_if ((c η A M0 O M δ _ re rm h).imp fun d M1 ⟨η1, M01, re1, rm1, h1⟩ => by
    cases d with
    | true => rw [if_pos rfl]; exact a η1 A M01 O M1 δ k re1 rm1 h1
    | false => rw [if_neg Bool.false_ne_true]; exact b η1 A M01 O M1 δ k re1 rm1 h1)
def sNever : WS := fun _ _ _ => False
theorem den_never : DenS K tNever sNever := fun η A M0 O M δ k re rm h => h.elim
theorem de_freeL {δ : En} {M : Mem} {Q : D → Mem → Prop} (h : DE K te δ M fun d M1 => Q d M1 ∨ ∃ p xs, M1 p = some (.lst xs) ∧ Q d (mdel M1 p)) : DE K te δ M Q := fun F σ H en mm QV k => h F σ H en mm _ fun d M1 v H1 z g r => by
  rcases z with q | ⟨p, m, hp, q⟩
  · exact k d _ v H1 q g r
  · obtain ⟨g2, _⟩ := go_frz g.ok hp
    exact k d _ v H1 q (g.trans g2) (r.mono g2.ex)
theorem RelM.drop {η : Sls} {A : Ow} {M0 O M : Mem} {i : Nat} {l : List D} {p : Addr} {x : D} (re : ∀ (i j : Nat) (p : Addr), A i = some p → A j = some p → i = j) (m : RelM η A M0 O M) (h : η[i]? = some (.own l)) (hp : A i = some p) : RelM (η.set i (.d x)) A M0 O (mdel M p) := by
  have hpo := m.own i l p h hp
  constructor
  · intro j l2 q h1 h2
    obtain ⟨hj, h1⟩ := own_set h1
    have hq : q ≠ p := fun e => by subst e; exact hj (re _ _ _ hp h2)
    rw [mdel_ne hq]
    exact m.own j l2 q h1 h2
  · intro a o h1
    have ha : a ≠ p := fun e => by subst e; rw [hpo.2.1] at h1; cases h1
    rw [mdel_ne ha]
    exact m.out a o h1
  · intro a h1 h2
    by_cases ha : a = p
    · subst ha
      rw [mdel_same, hpo.2.2]
    · rw [mdel_ne ha]
      refine m.rest a h1 fun ⟨j, l2, e1, e2⟩ => h2 ⟨j, l2, ?_, e2⟩
      have hj : i ≠ j := fun e => by
        subst e
        rw [hp] at e2; cases e2; exact ha rfl
      rw [List.getElem?_set_ne hj]; exact e1
def sSet (i : Nat) (fe : WE) : WS := fun η M k => fe η M fun d η1 M1 => k.nx (η1.set i (.d d)) M1
theorem den_set {i : Nat} (a : DenE K te fe) : DenS K (tAsg te (gName i)) (sSet i fe) := fun η A M0 O M δ k re rm h => by
  refine ds_set (de_freeL ((a η A M0 O M δ _ re rm h).imp fun d M1 ⟨η1, M01, re1, rm1, h1⟩ => ?_))
  cases e : notOwn η1 i with
  | true => exact .inl ⟨_, A, M01, re1.set i d, rm1.set e, h1⟩
  | false =>
    obtain ⟨l, hl⟩ : ∃ l, η1[i]? = some (.own l) := by
      unfold notOwn at e
      split at e
      · rename_i l hl; exact ⟨l, hl⟩
      · cases e
    obtain ⟨p, hp, _⟩ := re1.own i l hl
    exact .inr ⟨p, l, (rm1.own i l p hl hp).1, _, A, M01, re1.set i d, rm1.drop re1.inj hl hp, h1⟩
def sOwn (i : Nat) (fr : WA) : WS := fun η M k => fr η M fun ds η1 M1 => gd (szOk ds.length) (gd (Nat.blt i η1.length) (k.nx (η1.set i (.own ds)) M1))
def ownA (η : Sls) (A : Ow) (i : Nat) (p : Addr) : Ow := fun j => if j = i then some p else match η[j]? with | some (.own _) => A j | _ => none
theorem ownA_i {η : Sls} {A : Ow} {i : Nat} {p : Addr} : ownA η A i p i = some p := if_pos rfl
theorem ownA_ne {η : Sls} {A : Ow} {i j : Nat} {p : Addr} {l : List D} (hj : j ≠ i) (h : η[j]? = some (.own l)) : ownA η A i p j = A j := by
  unfold ownA
  rw [if_neg hj, h]
theorem ownA_of {η : Sls} {A : Ow} {i j : Nat} {p q : Addr} (h : ownA η A i p j = some q) : (j = i ∧ q = p) ∨ (j ≠ i ∧ ∃ l, η[j]? = some (.own l) ∧ A j = some q) := by
  unfold ownA at h
  by_cases hj : j = i
  · rw [if_pos hj] at h; cases h
    exact .inl ⟨hj, rfl⟩
  · rw [if_neg hj] at h
    split at h
    · rename_i l hl
      exact .inr ⟨hj, l, hl, h⟩
    · cases h
theorem RelE.setOwn {η : Sls} {A : Ow} {δ : En} (r : RelE η A δ) {i : Nat} {l : List D} {p : Addr} (hl : i < η.length) (np : ∀ (j : Nat) l2, j ≠ i → η[j]? = some (.own l2) → A j ≠ some p) : RelE (η.set i (.own l)) (ownA η A i p) (δ.set i (some (.raw (.ref p)))) := by
  constructor
  · rw [List.length_set, List.length_set]; exact r.len
  · intro j y h
    by_cases hj : i = j
    · subst hj
      rw [List.getElem?_set_self hl] at h; cases h
    · rw [List.getElem?_set_ne hj] at h ⊢
      exact r.dat j y h
  · intro j l2 h
    by_cases hj : i = j
    · subst hj
      exact ⟨p, ownA_i, by rw [List.getElem?_set_self (by rw [r.len]; exact hl)]⟩
    · rw [List.getElem?_set_ne hj] at h ⊢
      obtain ⟨q, e1, e2⟩ := r.own j l2 h
      exact ⟨q, by rw [ownA_ne (fun e => hj e.symm) h]; exact e1, e2⟩
  · intro j1 j2 q h1 h2
    rcases ownA_of h1 with ⟨e1, rfl⟩ | ⟨n1, l1, o1, a1⟩
    · rcases ownA_of h2 with ⟨e2, _⟩ | ⟨n2, l2, o2, a2⟩
      · rw [e1, e2]
      · exact absurd a2 (np j2 l2 n2 o2)
    · rcases ownA_of h2 with ⟨e2, rfl⟩ | ⟨n2, l2, o2, a2⟩
      · exact absurd a1 (np j1 l1 n1 o1)
      · exact r.inj j1 j2 q a1 a2
theorem RelM.put {η : Sls} {A : Ow} {M0 O M : Mem} (m : RelM η A M0 O M) {i : Nat} {l : List D} {p : Addr} (hl : i < η.length) (no : notOwn η i = true) (n : M p = none) : RelM (η.set i (.own l)) (ownA η A i p) M0 O (mup M p (.lst l)) := by
  have nO : O p = none := by
    cases e : O p with
    | none => rfl
    | some o =>
      have := (m.out p o e).1
      rw [n] at this; cases this
  have n0 : M0 p = none := by
    cases e : M0 p with
    | none => rfl
    | some o =>
      have := m.sub p o e
      rw [n] at this; cases this
  constructor
  · intro j l2 q h1 h2
    by_cases hj : i = j
    · subst hj
      rw [List.getElem?_set_self hl] at h1; cases h1
      rw [ownA_i] at h2; cases h2
      exact ⟨mup_same, nO, n0⟩
    · rw [List.getElem?_set_ne hj] at h1
      rw [ownA_ne (fun e => hj e.symm) h1] at h2
      have z := m.own j l2 q h1 h2
      have hq : q ≠ p := fun e => by rw [e, n] at z; cases z.1
      rw [mup_ne hq]; exact z
  · intro a o h
    have z := m.out a o h
    have ha : a ≠ p := fun e => by rw [e, n] at z; cases z.1
    rw [mup_ne ha]; exact z
  · intro a h1 h2
    have ha : a ≠ p := fun e => by
      subst e
      exact h2 ⟨i, l, by rw [List.getElem?_set_self hl], ownA_i⟩
    rw [mup_ne ha]
    refine m.rest a h1 fun ⟨j, l2, e1, e2⟩ => h2 ⟨j, l2, ?_, ?_⟩
    · have hj : i ≠ j := fun e => by subst e; exact notOwn_no no e1
      rw [List.getElem?_set_ne hj]; exact e1
    · have hj : j ≠ i := fun e => by subst e; exact notOwn_no no e1
      rw [ownA_ne hj e1]; exact e2
theorem notOwn_of {η : Sls} {i : Nat} (e : notOwn η i = false) : ∃ l, η[i]? = some (.own l) := by
  unfold notOwn at e
  split at e
  · rename_i l hl; exact ⟨l, hl⟩
  · cases e
theorem own_lt {η : Sls} {i : Nat} {l : List D} (h : η[i]? = some (.own l)) : i < η.length := (List.getElem?_eq_some_iff.mp h).1
theorem den_own {i : Nat} (a : DenA K tr fr) : DenS K (tAsg (tLst tr) (gName i)) (sOwn i fr) := fun η A M0 O M δ k re rm h => by
  refine ds_set (de_freeL (de_lstM (DA.imp (a η A M0 O M δ _ re rm h) fun ds M1 ⟨η1, M01, re1, rm1, h1⟩ => ?_)))
  obtain ⟨h2, h1⟩ := gd_of h1
  obtain ⟨h3, h1⟩ := gd_of h1
  have h3 : i < η1.length := Nat.blt_eq.mp h3
  refine ⟨szOk_le h2, fun p hp => ?_⟩
  have np : ∀ (j : Nat) l2, j ≠ i → η1[j]? = some (.own l2) → A j ≠ some p := fun j l2 _ o e => by
    have := (rm1.own j l2 p o e).1
    rw [hp] at this; cases this
  cases e : notOwn η1 i with
  | true => exact .inl ⟨_, ownA η1 A i p, M01, re1.setOwn h3 np, rm1.put h3 e hp, h1⟩
  | false =>
    obtain ⟨l, hl⟩ := notOwn_of e
    obtain ⟨q, hq, _⟩ := re1.own i l hl
    have z := rm1.own i l q hl hq
    have qp : q ≠ p := fun e => by rw [e, hp] at z; cases z.1
    have d := rm1.drop (x := .non) re1.inj hl hq
    have h3' : i < (η1.set i (.d .non)).length := by rw [List.length_set]; exact h3
    have no : notOwn (η1.set i (.d .non)) i = true := by unfold notOwn; rw [List.getElem?_set_self h3]
    have pn : mdel M1 q p = none := by rw [mdel_ne (fun e => qp e.symm)]; exact hp
    have y := d.put (l := ds) h3' no pn
    have x := (re1.set i D.non).setOwn (l := ds) h3' (p := p) fun j l2 hj o => np j l2 hj (by rw [List.getElem?_set_ne (fun e => hj e.symm)] at o; exact o)
    rw [List.set_set, List.set_set] at x
    rw [List.set_set] at y
    refine .inr ⟨q, l, by rw [mup_ne qp]; exact z.1, _, _, M01, x, ?_, h1⟩
    have em : mdel (mup M1 p (.lst ds)) q = mup (mdel M1 q) p (.lst ds) := by
      funext b
      unfold mdel mup
      by_cases hb : b = q
      · subst hb
        simp [qp]
      · simp [hb]
    rw [em]; exact y
theorem RelE.chg {η : Sls} {A : Ow} {δ : En} (r : RelE η A δ) {i : Nat} {l l' : List D} (h : η[i]? = some (.own l)) : RelE (η.set i (.own l')) A δ := by
  have hl := own_lt h
  constructor
  · rw [List.length_set]; exact r.len
  · intro j y h
    by_cases hj : i = j
    · subst hj
      rw [List.getElem?_set_self hl] at h; cases h
    · rw [List.getElem?_set_ne hj] at h
      exact r.dat j y h
  · intro j l2 h'
    by_cases hj : i = j
    · subst hj
      exact r.own i l h
    · rw [List.getElem?_set_ne hj] at h'
      exact r.own j l2 h'
  · exact r.inj
theorem RelM.chg {η : Sls} {A : Ow} {M0 O M : Mem} (m : RelM η A M0 O M) (inj : ∀ (i j : Nat) (p : Addr), A i = some p → A j = some p → i = j) {i : Nat} {l l' : List D} {p : Addr} (h : η[i]? = some (.own l)) (hp : A i = some p) : RelM (η.set i (.own l')) A M0 O (mup M p (.lst l')) := by
  have hl := own_lt h
  have z := m.own i l p h hp
  constructor
  · intro j l2 q h1 h2
    by_cases hj : i = j
    · subst hj
      rw [List.getElem?_set_self hl] at h1; cases h1
      rw [hp] at h2; cases h2
      exact ⟨mup_same, z.2⟩
    · rw [List.getElem?_set_ne hj] at h1
      have hq : q ≠ p := fun e => by subst e; exact hj (inj _ _ _ hp h2)
      rw [mup_ne hq]; exact m.own j l2 q h1 h2
  · intro a o h1
    have ha : a ≠ p := fun e => by subst e; rw [z.2.1] at h1; cases h1
    rw [mup_ne ha]; exact m.out a o h1
  · intro a h1 h2
    have ha : a ≠ p := fun e => by
      subst e
      exact h2 ⟨i, l', by rw [List.getElem?_set_self hl], hp⟩
    rw [mup_ne ha]
    refine m.rest a h1 fun ⟨j, l2, e1, e2⟩ => ?_
    by_cases hj : i = j
    · subst hj
      rw [hp] at e2; cases e2; exact ha rfl
    · exact h2 ⟨j, l2, by rw [List.getElem?_set_ne hj]; exact e1, e2⟩
def ownF (η : Sls) (i : Nat) (k : List D → Prop) : Prop := match η[i]? with | some (.own l) => k l | _ => False
theorem ownF_of {η : Sls} {i : Nat} {k : List D → Prop} (h : ownF η i k) : ∃ l, η[i]? = some (.own l) ∧ k l := by
  unfold ownF at h
  split at h
  · rename_i l e; exact ⟨l, e, h⟩
  · exact h.elim
def eApp (i : Nat) (fe : WE) : WE := fun η M k => ownF η i fun _ => fe η M fun d η1 M1 => ownF η1 i fun l => gd (szOk (l.length + 1)) (k .non (η1.set i (.own (l ++ [d]))) M1)
theorem den_app {i : Nat} (a : DenE K te fe) : DenE K (tBM K "list" rAppend (tVar i) (tCons te tNil)) (eApp i fe) := fun η A M0 O M δ k re rm h => by
  obtain ⟨l0, e0, h⟩ := ownF_of h
  obtain ⟨p, hp, hd⟩ := re.own i l0 e0
  refine de_append (de_var hd ⟨p, l0, rfl, (rm.own i l0 p e0 hp).1, da_cons ((a η A M0 O M δ _ re rm h).imp fun d M1 ⟨η1, M01, re1, rm1, h1⟩ => ?_)⟩)
  obtain ⟨l, e1, h1⟩ := ownF_of h1
  obtain ⟨h2, h1⟩ := gd_of h1
  exact da_nil ⟨d, l, rfl, (rm1.own i l p e1 hp).1, szOk_le h2, _, M01, re1.chg e1, rm1.chg re1.inj e1 hp, h1⟩
def eExt (i : Nat) (fe : WE) : WE := fun η M k => ownF η i fun _ => fe η M fun d η1 M1 => match d with
  | .lst xs => ownF η1 i fun l => gd (szOk (l.length + xs.length)) (k .non (η1.set i (.own (l ++ xs))) M1)
  | _ => False
def sFrz (i : Nat) (fs : WS) : WS := fun η M k => match η[i]? with | some (.own l) => fs (η.set i (.d (.lst l))) M k | _ => fs η M k
theorem den_frz {i : Nat} (a : DenS K t fs) : DenS K t (sFrz i fs) := fun η A M0 O M δ k re rm h => by
  unfold sFrz at h
  split at h
  · rename_i l e
    obtain ⟨p, hp, hd⟩ := re.own i l e
    exact ds_frz hd (rm.own i l p e hp).1 (a _ A M0 O _ _ k (re.set i _) (rm.drop re.inj e hp) h)
  · exact a η A M0 O M δ k re rm h
end
end FL
set_option Elab.async false
set_option linter.all false
set_option maxRecDepth 100000
set_option maxHeartbeats 1000000
namespace FL
open PySem PySem.Spec PyProof.Rows L2 DL
section
variable {K : PySem.W.Frag} {ta tb tc te : TE} {fa fb fc fe : WE} {tt tu : TT} {ft fu : WB} {tr : TA} {fr : WA} {t u : TS} {fs gs : WS} {g : TG} {fg : WG} {gg : TGs} {fgs : WGs} {wi : TI} {fi : WA}
theorem DI.imp {δ : En} {M : Mem} {Q Q' : List D → Mem → Prop} (h : DI K wi δ M Q) (k : ∀ ds M', Q ds M' → Q' ds M') : DI K wi δ M Q' := fun F σ H en m R q => h F σ H en m R fun ds M' J H' z => q ds M' J H' (k _ _ z)
def lstF (d : D) (k : List D → Prop) : Prop := match d with | .lst xs => k xs | _ => False
def tupF (d : D) (k : List D → Prop) : Prop := match d with | .tup xs => k xs | _ => False
def strF (d : D) (k : Str → Prop) : Prop := match d with | .str xs => k xs | _ => False
def intF (d : D) (k : Int → Prop) : Prop := match d with | .int xs => k xs | _ => False
theorem lstF_of {d : D} {k : List D → Prop} (h : lstF d k) : ∃ xs, d = .lst xs ∧ k xs := by cases d <;> first | exact h.elim | exact ⟨_, rfl, h⟩
theorem tupF_of {d : D} {k : List D → Prop} (h : tupF d k) : ∃ xs, d = .tup xs ∧ k xs := by cases d <;> first | exact h.elim | exact ⟨_, rfl, h⟩
theorem strF_of {d : D} {k : Str → Prop} (h : strF d k) : ∃ xs, d = .str xs ∧ k xs := by cases d <;> first | exact h.elim | exact ⟨_, rfl, h⟩
theorem intF_of {d : D} {k : Int → Prop} (h : intF d k) : ∃ xs, d = .int xs ∧ k xs := by cases d <;> first | exact h.elim | exact ⟨_, rfl, h⟩
def iLst (fe : WE) : WA := fun η M k => fe η M fun d η1 M1 => lstF d fun xs => k xs η1 M1
def iTupl (fe : WE) : WA := fun η M k => fe η M fun d η1 M1 => tupF d fun xs => k xs η1 M1
def iText (fe : WE) : WA := fun η M k => fe η M fun d η1 M1 => strF d fun x => k (sigs x) η1 M1
theorem den_ilst (a : DenE K te fe) : DenI K (iList K te) (iLst fe) := fun η A M0 O M δ k re rm h =>
  di_list ((a η A M0 O M δ _ re rm h).imp fun d M1 ⟨η1, M01, re1, rm1, h1⟩ => let ⟨xs, e, h2⟩ := lstF_of h1; ⟨xs, e, η1, M01, re1, rm1, h2⟩)
theorem den_itup (a : DenE K te fe) : DenI K (iTup K te) (iTupl fe) := fun η A M0 O M δ k re rm h =>
  di_tup ((a η A M0 O M δ _ re rm h).imp fun d M1 ⟨η1, M01, re1, rm1, h1⟩ => let ⟨xs, e, h2⟩ := tupF_of h1; ⟨xs, e, η1, M01, re1, rm1, h2⟩)
theorem den_istr (a : DenE K te fe) : DenI K (iStr te) (iText fe) := fun η A M0 O M δ k re rm h =>
  di_str ((a η A M0 O M δ _ re rm h).imp fun d M1 ⟨η1, M01, re1, rm1, h1⟩ => let ⟨xs, e, h2⟩ := strF_of h1; ⟨xs, e, η1, M01, re1, rm1, h2⟩)
@[irreducible] def rgOk (j : Int) : Bool := decide (-(2 ^ 62) ≤ j) && decide (j < 2 ^ 62)
theorem rgOk_of {j : Int} (h : rgOk j = true) : -(2 ^ 62) ≤ j ∧ j < 2 ^ 62 := by
  unfold rgOk at h
  rw [Bool.and_eq_true] at h
  exact ⟨of_decide_eq_true h.1, of_decide_eq_true h.2⟩
def int1F (ds : List D) (k : Int → Prop) : Prop := match ds with | [.int j] => k j | _ => False
def int2F (ds : List D) (k : Int → Int → Prop) : Prop := match ds with | [.int i, .int j] => k i j | _ => False
theorem int1F_of {ds : List D} {k : Int → Prop} (h : int1F ds k) : ∃ j, ds = [.int j] ∧ k j := by
  unfold int1F at h
  split at h
  · exact ⟨_, rfl, h⟩
  · exact h.elim
theorem int2F_of {ds : List D} {k : Int → Int → Prop} (h : int2F ds k) : ∃ i j, ds = [.int i, .int j] ∧ k i j := by
  unfold int2F at h
  split at h
  · exact ⟨_, _, rfl, h⟩
  · exact h.elim
@[irreducible] def iR1 (fr : WA) : WA := fun η M k => fr η M fun ds η1 M1 => int1F ds fun j => gd (rgOk j) (k (rngD 0 j.toNat) η1 M1)
theorem iR1_u {fr : WA} {η : Sls} {M : Mem} {k : List D → Sls → Mem → Prop} : iR1 fr η M k ↔ fr η M fun ds η1 M1 => int1F ds fun j => gd (rgOk j) (k (rngD 0 j.toNat) η1 M1) := by unfold iR1; exact Iff.rfl
theorem den_ir1 (a : DenA K tr fr) : DenI K (iRng1 tr) (iR1 fr) := fun η A M0 O M δ k re rm h =>
  di_rng1 (DA.imp (a η A M0 O M δ _ re rm (iR1_u.mp h)) fun ds M1 ⟨η1, M01, re1, rm1, h1⟩ => by
    obtain ⟨j, rfl, h1⟩ := int1F_of h1
    obtain ⟨h2, h1⟩ := gd_of h1
    obtain ⟨z1, z2⟩ := rgOk_of h2
    exact ⟨j, rfl, z1, z2, η1, M01, re1, rm1, h1⟩)
def forL (fg : WG) (fb : WS) (k : KS) : List D → Sls → Mem → Prop
  | [], η, M => k.nx η M
  | x :: r, η, M => fg x η M fun η1 M1 => fb η1 M1 { nx := forL fg fb k r, rt := k.rt, bk := k.nx, ct := forL fg fb k r }
@[irreducible] def sFor (fi : WA) (fg : WG) (fb : WS) : WS := fun η M k => fi η M fun ds η1 M1 => forL fg fb k ds η1 M1
theorem sFor_u {fi : WA} {fg : WG} {fb : WS} {η : Sls} {M : Mem} {k : KS} : sFor fi fg fb η M k ↔ fi η M fun ds η1 M1 => forL fg fb k ds η1 M1 := by unfold sFor; exact Iff.rfl
theorem drop_get {ds : List D} {i : Nat} {d : D} (h : ds[i]? = some d) : ds.drop i = d :: ds.drop (i + 1) := by
  obtain ⟨hl, e⟩ := List.getElem?_eq_some_iff.mp h
  rw [List.drop_eq_getElem_cons hl, e]
theorem den_for {js : List Nat} (i : DenI K wi fi) (gt : DenG K js g fg) (b : DenS K t fs) : DenS K (tFor wi g t) (sFor fi fg fs) := fun η A M0 O M δ k re rm h =>
  ds_for (js := js) (DI.imp (i η A M0 O M δ _ re rm (sFor_u.mp h)) fun ds M1 ⟨η1, M01, re1, rm1, h1⟩ =>
    ⟨fun i δ' M' => ∃ η' A' M0', RelE η' A' δ' ∧ RelM η' A' M0' O M' ∧ forL fg fs k (ds.drop i) η' M0', ⟨η1, A, M01, re1, rm1, h1⟩,
      fun i d δ' M' hd ⟨η2, A2, M02, re2, rm2, h2⟩ => by
        rw [drop_get hd] at h2
        exact (gt d η2 A2 M02 O M' δ' _ re2 rm2 h2).imp fun δ3 M3 ⟨η3, M03, re3, rm3, h3⟩ => (b η3 A2 M03 O M3 δ3 _ re3 rm3 h3).imp (fun _ _ z => z) (fun _ _ z => z) (fun _ _ z => z) fun _ _ z => z,
      fun δ' M' ⟨η2, A2, M02, re2, rm2, h2⟩ => by
        rw [List.drop_length] at h2
        exact ⟨η2, A2, M02, re2, rm2, h2⟩⟩)
def whN (ft : WB) (fb : WS) (k : KS) : Nat → Sls → Mem → Prop
  | 0, _, _ => False
  | n + 1, η, M => ft η M fun b η1 M1 => br b (fb η1 M1 { nx := whN ft fb k n, rt := k.rt, bk := k.nx, ct := whN ft fb k n }) (k.nx η1 M1)
def sWhile (ft : WB) (fb : WS) : WS := fun η M k => ∃ n, whN ft fb k n η M
theorem den_while (c : DenT K tt ft) (b : DenS K t fs) : DenS K (tWhile tt t) (sWhile ft fs) := fun η A M0 O M δ k re rm ⟨n, h⟩ =>
  ds_while (fun n δ' M' => ∃ η' A' M0', RelE η' A' δ' ∧ RelM η' A' M0' O M' ∧ whN ft fs k n η' M0') n ⟨η, A, M0, re, rm, h⟩ fun n δ' M' ⟨η2, A2, M02, re2, rm2, h2⟩ => by
    cases n with
    | zero => exact h2.elim
    | succ n =>
      refine (c η2 A2 M02 O M' δ' _ re2 rm2 h2).imp fun x M3 ⟨η3, M03, re3, rm3, h3⟩ => ?_
      cases x with
      | true =>
        rw [if_pos rfl]
        exact (b η3 A2 M03 O M3 δ' _ re3 rm3 h3).imp (fun _ _ z => ⟨n, Nat.lt_succ_self n, z⟩) (fun _ _ z => z) (fun _ _ z => z) fun _ _ z => ⟨n, Nat.lt_succ_self n, z⟩
      | false =>
        rw [if_neg Bool.false_ne_true]
        exact ⟨η3, A2, M03, re3, rm3, h3⟩
def isOwnS : SL → Bool
  | .own _ => true
  | _ => false
def sameOwn : Sls → Sls → Bool
  | [], [] => true
  | a :: r, b :: s => (isOwnS a == isOwnS b) && sameOwn r s
  | _, _ => false
def keepF : Sls → Sls → Sls
  | .own _ :: r, b :: s => b :: keepF r s
  | a :: r, _ :: s => a :: keepF r s
  | _, _ => []
def wipeF (η : Sls) : List Nat → Sls
  | [] => η
  | v :: vs => (wipeF η vs).set v .no
theorem same_get : ∀ {η ζ : Sls} {i : Nat}, sameOwn η ζ = true → (∀ l, η[i]? = some (.own l) → ∃ l', ζ[i]? = some (.own l')) ∧ (∀ l, ζ[i]? = some (.own l) → ∃ l', η[i]? = some (.own l'))
  | [], [], _, _ => ⟨fun l h => by simp at h, fun l h => by simp at h⟩
  | a :: r, b :: s, i, h => by
    rw [sameOwn, Bool.and_eq_true] at h
    cases i with
    | zero =>
      have h1 : isOwnS a = isOwnS b := by simpa using h.1
      constructor
      · intro l e
        simp only [List.getElem?_cons_zero, Option.some.injEq] at e ⊢
        subst e
        cases b <;> first | exact ⟨_, rfl⟩ | cases h1
      · intro l e
        simp only [List.getElem?_cons_zero, Option.some.injEq] at e ⊢
        subst e
        cases a <;> first | exact ⟨_, rfl⟩ | cases h1
    | succ i =>
      simp only [List.getElem?_cons_succ]
      exact same_get h.2
theorem keep_len : ∀ {η ζ : Sls}, sameOwn η ζ = true → (keepF η ζ).length = η.length
  | [], [], _ => rfl
  | a :: r, b :: s, h => by
    rw [sameOwn, Bool.and_eq_true] at h
    have ih := keep_len h.2
    cases a <;> simp [keepF, ih]
theorem keep_d : ∀ {η ζ : Sls} {i : Nat} {x : D}, sameOwn η ζ = true → (keepF η ζ)[i]? = some (.d x) → η[i]? = some (.d x)
  | [], [], _, _, _, e => by simp [keepF] at e
  | a :: r, b :: s, i, x, h, e => by
    rw [sameOwn, Bool.and_eq_true] at h
    cases i with
    | zero =>
      have h1 : isOwnS a = isOwnS b := by simpa using h.1
      cases a with
      | own l =>
        simp only [keepF, List.getElem?_cons_zero, Option.some.injEq] at e
        subst e
        cases h1
      | no => simp [keepF] at e
      | d y => simpa [keepF] using e
    | succ i =>
      have ih := keep_d (i := i) (x := x) h.2
      cases a <;> (simp only [keepF, List.getElem?_cons_succ] at e ⊢; exact ih e)
theorem keep_own : ∀ {η ζ : Sls} {i : Nat} {l : List D}, sameOwn η ζ = true → ((keepF η ζ)[i]? = some (.own l) ↔ ζ[i]? = some (.own l))
  | [], [], _, _, _ => by simp [keepF]
  | a :: r, b :: s, i, l, h => by
    rw [sameOwn, Bool.and_eq_true] at h
    cases i with
    | zero =>
      have h1 : isOwnS a = isOwnS b := by simpa using h.1
      cases a with
      | own l => simp [keepF]
      | no =>
        simp only [keepF, List.getElem?_cons_zero, Option.some.injEq]
        constructor
        · intro e; cases e
        · intro e; subst e; cases h1
      | d y =>
        simp only [keepF, List.getElem?_cons_zero, Option.some.injEq]
        constructor
        · intro e; cases e
        · intro e; subst e; cases h1
    | succ i =>
      have ih := keep_own (i := i) (l := l) h.2
      cases a <;> (simp only [keepF, List.getElem?_cons_succ]; exact ih)
theorem RelE.keep {η ζ : Sls} {A : Ow} {δ : En} (r : RelE η A δ) (h : sameOwn η ζ = true) : RelE (keepF η ζ) A δ :=
  ⟨by rw [keep_len h]; exact r.len, fun i x e => r.dat i x (keep_d h e), fun i l e => let ⟨l', e'⟩ := (same_get h).2 l ((keep_own h).mp e); r.own i l' e', r.inj⟩
theorem RelM.keep {η ζ : Sls} {A : Ow} {M0 O M : Mem} (m : RelM ζ A M0 O M) (h : sameOwn η ζ = true) : RelM (keepF η ζ) A M0 O M :=
  ⟨fun i l p e => m.own i l p ((keep_own h).mp e), m.out, fun a h1 h2 => m.rest a h1 fun ⟨i, l, e1, e2⟩ => h2 ⟨i, l, (keep_own h).mpr e1, e2⟩⟩
theorem set_no {η : Sls} {i j : Nat} {s : SL} (h : (η.set i .no)[j]? = some s) : s = .no ∨ (i ≠ j ∧ η[j]? = some s) := by
  by_cases hj : i = j
  · subst hj
    by_cases hl : i < η.length
    · rw [List.getElem?_set_self hl] at h; cases h; exact .inl rfl
    · rw [List.getElem?_eq_none (by rw [List.length_set]; omega)] at h; cases h
  · rw [List.getElem?_set_ne hj] at h
    exact .inr ⟨hj, h⟩
theorem RelE.wipe {A : Ow} : ∀ {η : Sls} {δ : En} (vs : List Nat), RelE η A δ → RelE (wipeF η vs) A (wipeD δ vs)
  | η, δ, [], r => r
  | η, δ, v :: vs, r => by
    have ih := RelE.wipe vs r
    show RelE ((wipeF η vs).set v .no) A ((wipeD δ vs).set v none)
    constructor
    · rw [List.length_set, List.length_set]; exact ih.len
    · intro i x e
      rcases set_no e with e | ⟨hj, e⟩
      · cases e
      · rw [List.getElem?_set_ne hj]; exact ih.dat i x e
    · intro i x e
      rcases set_no e with e | ⟨hj, e⟩
      · cases e
      · rw [List.getElem?_set_ne hj]; exact ih.own i x e
    · exact ih.inj
theorem wipe_get : ∀ {η : Sls} (vs : List Nat) {i : Nat} {l : List D}, (∀ v ∈ vs, notOwn η v = true) → ((wipeF η vs)[i]? = some (.own l) ↔ η[i]? = some (.own l))
  | η, [], i, l, _ => Iff.rfl
  | η, v :: vs, i, l, h => by
    have ih := wipe_get vs (i := i) (l := l) fun v hv => h v (List.mem_cons_of_mem _ hv)
    show ((wipeF η vs).set v .no)[i]? = _ ↔ _
    constructor
    · intro e
      rcases set_no e with e | ⟨_, e⟩
      · cases e
      · exact ih.mp e
    · intro e
      have hj : v ≠ i := fun z => by subst z; exact notOwn_no (h v List.mem_cons_self) e
      rw [List.getElem?_set_ne hj]; exact ih.mpr e
theorem RelM.wipe {η : Sls} {A : Ow} {M0 O M : Mem} (m : RelM η A M0 O M) {vs : List Nat} (h : ∀ v ∈ vs, notOwn η v = true) : RelM (wipeF η vs) A M0 O M :=
  ⟨fun i l p e => m.own i l p ((wipe_get vs h).mp e), m.out, fun a h1 h2 => m.rest a h1 fun ⟨i, l, e1, e2⟩ => h2 ⟨i, l, (wipe_get vs h).mpr e1, e2⟩⟩
def lcL (fg : WG) (ft : WB) (fe : WE) (k : List D → Sls → Mem → Prop) : List D → List D → Sls → Mem → Prop
  | [], acc, η, M => k acc η M
  | x :: r, acc, η, M => fg x η M fun η1 M1 => ft η1 M1 fun b η2 M2 => br b
      (fe η2 M2 fun e η3 M3 => gd (szOk (acc.length + 1)) (gd (sameOwn η η3) (lcL fg ft fe k r (acc ++ [e]) (keepF η η3) M3)))
      (gd (sameOwn η η2) (lcL fg ft fe k r acc (keepF η η2) M2))
def bYes : WB := fun η M k => k true η M
theorem den_yes : DenT K tYes bYes := fun η A M0 O M δ k re rm h => dt_yes ⟨η, M0, re, rm, h⟩
@[irreducible] def eLc (fi : WA) (fg : WG) (ft : WB) (fe : WE) (vs : List Nat) : WE := fun η M k => fi η M fun ds η1 M1 => gd (vs.all (notOwn η1))
  (lcL fg ft fe (fun acc η2 M2 => gd (sameOwn η1 η2) (k (.lst acc) (keepF η1 η2) M2)) ds [] (wipeF η1 vs) M1)
theorem eLc_u {fi : WA} {fg : WG} {ft : WB} {fe : WE} {vs : List Nat} {η : Sls} {M : Mem} {k : KE} : eLc fi fg ft fe vs η M k ↔ fi η M fun ds η1 M1 => gd (vs.all (notOwn η1))
  (lcL fg ft fe (fun acc η2 M2 => gd (sameOwn η1 η2) (k (.lst acc) (keepF η1 η2) M2)) ds [] (wipeF η1 vs) M1) := by unfold eLc; exact Iff.rfl
theorem den_lc {js vs : List Nat} (hj : ∀ j ∈ js, j ∈ vs) (i : DenI K wi fi) (gt : DenG K js g fg) (c : DenT K tt ft) (a : DenE K te fe) : DenE K (tLc wi g tt te vs) (eLc fi fg ft fe vs) := fun η A M0 O M δ k re rm h =>
  de_lcM hj (DI.imp (i η A M0 O M δ _ re rm (eLc_u.mp h)) fun ds M1 ⟨η1, M01, re1, rm1, h1⟩ => by
    obtain ⟨hv, h1⟩ := gd_of h1
    have hv : ∀ v ∈ vs, notOwn η1 v = true := fun v hm => List.all_eq_true.mp hv v hm
    refine ⟨fun i acc M' => ∃ η' M0', RelE η' A (wipeD δ vs) ∧ RelM η' A M0' O M' ∧ lcL fg ft fe (fun acc η2 M2 => gd (sameOwn η1 η2) (k (.lst acc) (keepF η1 η2) M2)) (ds.drop i) acc η' M0', ⟨_, M01, re1.wipe vs, rm1.wipe hv, h1⟩, fun i d acc M' hd ⟨η2, M02, re2, rm2, h2⟩ => ?_, fun acc M' ⟨η2, M02, re2, rm2, h2⟩ => ?_⟩
    · rw [drop_get hd] at h2
      refine (gt d η2 A M02 O M' _ _ re2 rm2 h2).imp fun δ3 M3 ⟨η3, M03, re3, rm3, h3⟩ => (c η3 A M03 O M3 δ3 _ re3 rm3 h3).imp fun b M4 ⟨η4, M04, re4, rm4, h4⟩ => ?_
      cases b with
      | true =>
        rw [if_pos rfl]
        refine (a η4 A M04 O M4 δ3 _ re4 rm4 h4).imp fun e M5 ⟨η5, M05, re5, rm5, h5⟩ => ?_
        obtain ⟨z1, h5⟩ := gd_of h5
        obtain ⟨z2, h5⟩ := gd_of h5
        exact ⟨szOk_le z1, _, M05, re2.keep z2, rm5.keep z2, h5⟩
      | false =>
        rw [if_neg Bool.false_ne_true]
        obtain ⟨z2, h5⟩ := gd_of h4
        exact ⟨_, M04, re2.keep z2, rm4.keep z2, h5⟩
    · rw [List.drop_length] at h2
      obtain ⟨z2, h5⟩ := gd_of h2
      exact ⟨_, M02, re1.keep z2, rm2.keep z2, h5⟩)
def isLstO : Option MO → Bool
  | some (.lst _) => true
  | _ => false
def dropS (M : Mem) (p : Addr) : Mem := if isLstO (M p) = true then mdel M p else M
theorem dropS_ne {M : Mem} {p a : Addr} (h : a ≠ p) : dropS M p a = M a := by
  unfold dropS
  split
  · exact mdel_ne h
  · rfl
theorem dropS_none {M : Mem} {p a : Addr} (h : M a = none) : dropS M p a = none := by
  unfold dropS
  split
  · by_cases e : a = p
    · rw [e]; exact mdel_same
    · rw [mdel_ne e]; exact h
  · exact h
theorem dropS_same {M : Mem} {p : Addr} {l : List D} (h : M p = some (.lst l)) : dropS M p p = none := by
  unfold dropS
  rw [h]
  show (if true = true then mdel M p else M) p = none
  rw [if_pos rfl]; exact mdel_same
def dropL : Mem → List Addr → Mem
  | M, [] => M
  | M, p :: ps => dropL (dropS M p) ps
theorem go_dropS {F : Fm} {H : Hp} {M : Mem} {p : Addr} (m : MOk K F M H) : Go K F M H (dropS M p) H := by
  unfold dropS
  split
  · rename_i h
    cases e : M p with
    | none => rw [e] at h; cases h
    | some o =>
      rw [e] at h
      cases o with
      | lst l => exact (go_frz m e).1
      | _ => cases h
  · exact Go.refl m
theorem go_dropL {F : Fm} {H : Hp} : ∀ (ps : List Addr) {M : Mem}, MOk K F M H → Go K F M H (dropL M ps) H
  | [], M, m => Go.refl m
  | p :: ps, M, m => (go_dropS m).trans (go_dropL ps (go_dropS (p := p) m).ok)
theorem dropL_no : ∀ (ps : List Addr) {M : Mem} {a : Addr}, a ∉ ps → dropL M ps a = M a
  | [], M, a, _ => rfl
  | p :: ps, M, a, h => by
    have h1 : a ≠ p := fun e => h (by rw [e]; exact List.mem_cons_self)
    have h2 : a ∉ ps := fun e => h (List.mem_cons_of_mem _ e)
    rw [dropL, dropL_no ps h2, dropS_ne h1]
theorem dropL_none : ∀ (ps : List Addr) {M : Mem} {a : Addr}, M a = none → dropL M ps a = none
  | [], M, a, h => h
  | p :: ps, M, a, h => by
    rw [dropL]
    exact dropL_none ps (dropS_none h)
theorem dropL_in : ∀ (ps : List Addr) {M : Mem} {a : Addr} {l : List D}, a ∈ ps → M a = some (.lst l) → dropL M ps a = none
  | p :: ps, M, a, l, h, e => by
    rw [dropL]
    by_cases hp : a = p
    · subst hp
      exact dropL_none ps (dropS_same e)
    · exact dropL_in ps ((List.mem_cons.mp h).resolve_left hp) (by rw [dropS_ne hp]; exact e)
theorem ds_fin {δ : En} {M : Mem} {q q' : DK} (h : DS K t δ M q) (h1 : ∀ δ' M', q.nx δ' M' → ∃ ps, q'.nx δ' (dropL M' ps)) (h2 : ∀ d M', q.rt d M' → ∃ ps, q'.rt d (dropL M' ps)) (h3 : ∀ δ' M', q.bk δ' M' → False) (h4 : ∀ δ' M', q.ct δ' M' → False) : DS K t δ M q' := fun F σ H en m E n r b c =>
  h F σ H en m E (fun δ' M' σ' H' z g e => by
      obtain ⟨ps, z⟩ := h1 _ _ z
      have g2 := go_dropL ps g.ok
      exact n _ _ _ _ z (g.trans g2) (e.mono g2.ex)) (fun d M' v H' z g e => by
      obtain ⟨ps, z⟩ := h2 _ _ z
      have g2 := go_dropL ps g.ok
      exact r _ _ _ _ z (g.trans g2) (e.mono g2.ex)) (fun _ _ _ _ z _ _ => (h3 _ _ z).elim) fun _ _ _ _ z _ _ => (h4 _ _ z).elim
def ownsOf (η : Sls) (A : Ow) : List Addr := (List.range η.length).filterMap fun i => match η[i]? with | some (SL.own _) => A i | _ => none
theorem mem_owns {η : Sls} {A : Ow} {a : Addr} : a ∈ ownsOf η A ↔ IsOwn η A a := by
  unfold ownsOf IsOwn
  rw [List.mem_filterMap]
  constructor
  · rintro ⟨i, _, h⟩
    split at h
    · rename_i l e; exact ⟨i, l, e, h⟩
    · cases h
  · rintro ⟨i, l, e, h⟩
    exact ⟨i, List.mem_range.mpr (own_lt e), by rw [e]; exact h⟩
theorem RelM.fin {η : Sls} {A : Ow} {M0 O M : Mem} (m : RelM η A M0 O M) : Jn M0 O (dropL M (ownsOf η A)) := by
  constructor
  · intro a h
    by_cases ho : IsOwn η A a
    · obtain ⟨i, l, e1, e2⟩ := ho
      have z := m.own i l a e1 e2
      rw [dropL_in _ (mem_owns.mpr ⟨i, l, e1, e2⟩) z.1, z.2.2]
    · rw [dropL_no _ fun z => ho (mem_owns.mp z)]
      exact m.rest a h ho
  · intro a o h
    have no : ¬ IsOwn η A a := fun ⟨i, l, e1, e2⟩ => by
      have := (m.own i l a e1 e2).2.1
      rw [h] at this; cases this
    rw [dropL_no _ fun z => no (mem_owns.mp z)]
    exact m.out a o h
def initS (ds : List D) (n : Nat) : Sls := ds.map SL.d ++ List.replicate (n - ds.length) SL.no
def bodyF (n : Nat) (fs : WS) : FF := fun ds M Q => fs (initS ds n) M { nx := fun _ M' => Q .non M', rt := Q }
theorem init_get {ds : List D} {n i : Nat} {s : SL} (h : (initS ds n)[i]? = some s) : s = .no ∨ ∃ x, s = .d x ∧ ds[i]? = some x := by
  unfold initS at h
  by_cases hi : i < ds.length
  · rw [List.getElem?_append_left (by rw [List.length_map]; exact hi), List.getElem?_map] at h
    cases e : ds[i]? with
    | none => rw [e] at h; cases h
    | some x => rw [e] at h; cases h; exact .inr ⟨x, rfl, rfl⟩
  · rw [List.getElem?_append_right (by rw [List.length_map]; omega), List.getElem?_replicate] at h
    split at h
    · cases h; exact .inl rfl
    · cases h
theorem den_body {n N : Nat} (b : DenS K t fs) : ∀ ds M R, prom n (bodyF N fs) ds M R → DS K t (ds.map some ++ List.replicate (N - ds.length) none) M { nx := fun _ M' => R .non M', rt := R } := by
  rintro ds M R ⟨_, M0, O, Q, j, hf, hq⟩
  have re : RelE (initS ds N) (fun _ => none) (ds.map some ++ List.replicate (N - ds.length) none) := by
    refine ⟨by unfold initS; simp, fun i x h => ?_, fun i l h => ?_, fun i j p h => by cases h⟩
    · rcases init_get h with e | ⟨y, e, hy⟩
      · cases e
      · cases e
        have hi := (List.getElem?_eq_some_iff.mp hy).1
        rw [List.getElem?_append_left (by rw [List.length_map]; exact hi), List.getElem?_map, hy]; rfl
    · rcases init_get h with e | ⟨y, e, hy⟩ <;> cases e
  have rm : RelM (initS ds N) (fun _ => none) M0 O M := ⟨fun i l p _ h => (by cases h), j.b, fun a h _ => j.a a h⟩
  refine ds_fin (b _ _ M0 O M _ _ re rm hf) (fun δ' M' ⟨η', A', M0', re', rm', h'⟩ => ⟨ownsOf η' A', hq _ _ _ h' rm'.fin⟩) (fun d M' ⟨η', A', M0', _, re', rm', h'⟩ => ⟨ownsOf η' A', hq _ _ _ h' rm'.fin⟩) (fun _ _ ⟨_, _, _, _, _, h⟩ => h.elim) fun _ _ ⟨_, _, _, _, _, h⟩ => h.elim
theorem prom_len {n : Nat} {f : FF} : ∀ ds M R, prom n f ds M R → ds.length = n := fun _ _ _ h => h.1
end
end FL
set_option Elab.async false
set_option linter.all false
set_option maxRecDepth 100000
set_option maxHeartbeats 1000000
namespace FL
open PySem PySem.Spec PyProof.Rows L2 DL
mutual
def eqD : D → D → Bool
  | .non, .non => true
  | .bl a, .bl b => a == b
  | .bl a, .int i => (if a then (1 : Int) else 0) == i
  | .int i, .bl b => i == (if b then (1 : Int) else 0)
  | .int i, .int j => i == j
  | .str x, .str y => x == y
  | .lst xs, .lst ys => eqDL xs ys
  | .tup xs, .tup ys => eqDL xs ys
  | _, _ => false
def eqDL : List D → List D → Bool
  | [], [] => true
  | x :: xs, y :: ys => eqD x y && eqDL xs ys
  | _, _ => false
end
mutual
def isPl : D → Bool
  | .non => true | .bl _ => true | .int _ => true | .str _ => true
  | .lst xs => isPlL xs | .tup xs => isPlL xs
  | _ => false
def isPlL : List D → Bool
  | [] => true
  | x :: xs => isPl x && isPlL xs
end
mutual
theorem pl_py : ∀ {d : D}, isPl d = true → ∃ p, toPy d = some p
  | .non, _ => ⟨_, rfl⟩
  | .bl _, _ => ⟨_, rfl⟩
  | .int _, _ => ⟨_, rfl⟩
  | .str _, _ => ⟨_, rfl⟩
  | .lst xs, h => by
    rw [isPl] at h
    obtain ⟨ps, e⟩ := plL_py h
    exact ⟨.list ps, by rw [toPy, e]; rfl⟩
  | .tup xs, h => by
    rw [isPl] at h
    obtain ⟨ps, e⟩ := plL_py h
    exact ⟨.tuple ps, by rw [toPy, e]; rfl⟩
  | .dic _, h => by simp [isPl] at h
  | .obj _ _, h => by simp [isPl] at h
  | .raw _, h => by simp [isPl] at h
theorem plL_py : ∀ {l : List D}, isPlL l = true → ∃ ps, toPyL l = some ps
  | [], _ => ⟨[], rfl⟩
  | x :: xs, h => by
    rw [isPlL, Bool.and_eq_true] at h
    obtain ⟨p, e1⟩ := pl_py h.1
    obtain ⟨ps, e2⟩ := plL_py h.2
    exact ⟨p :: ps, by rw [toPyL, e1, e2]⟩
end
theorem toPy_lst {xs : List D} {p : PyData} (h : toPy (.lst xs) = some p) : ∃ ps, toPyL xs = some ps ∧ p = .list ps := by
  rw [toPy] at h
  cases e : toPyL xs with
  | none => rw [e] at h; cases h
  | some ps => rw [e] at h; cases h; exact ⟨ps, rfl, rfl⟩
theorem toPy_tup {xs : List D} {p : PyData} (h : toPy (.tup xs) = some p) : ∃ ps, toPyL xs = some ps ∧ p = .tuple ps := by
  rw [toPy] at h
  cases e : toPyL xs with
  | none => rw [e] at h; cases h
  | some ps => rw [e] at h; cases h; exact ⟨ps, rfl, rfl⟩
theorem toPyL_cons {x : D} {xs : List D} {l : List PyData} (h : toPyL (x :: xs) = some l) : ∃ p ps, toPy x = some p ∧ toPyL xs = some ps ∧ l = p :: ps := by
  rw [toPyL] at h
  cases e1 : toPy x with
  | none => rw [e1] at h; cases h
  | some p =>
    cases e2 : toPyL xs with
    | none => rw [e1, e2] at h; cases h
    | some ps => rw [e1, e2] at h; cases h; exact ⟨p, ps, rfl, rfl, rfl⟩
mutual
theorem eqv_eqD : ∀ {d e : D} {p q : PyData}, toPy d = some p → toPy e = some q → PyData.eqv p q = eqD d e
  | .lst xs, e, p, q, h1, h2 => by
    obtain ⟨ps, e1, rfl⟩ := toPy_lst h1
    cases e with
    | lst ys =>
      obtain ⟨qs, e2, rfl⟩ := toPy_lst h2
      rw [PyData.eqv, eqvL_eqD e1 e2, eqD]
    | tup ys => obtain ⟨qs, e2, rfl⟩ := toPy_tup h2; simp [PyData.eqv, eqD]
    | non => cases h2; simp [PyData.eqv, eqD]
    | bl _ => cases h2; simp [PyData.eqv, eqD]
    | int _ => cases h2; simp [PyData.eqv, eqD]
    | str _ => cases h2; simp [PyData.eqv, eqD]
    | dic _ => cases h2
    | obj _ _ => cases h2
    | raw _ => cases h2
  | .tup xs, e, p, q, h1, h2 => by
    obtain ⟨ps, e1, rfl⟩ := toPy_tup h1
    cases e with
    | tup ys =>
      obtain ⟨qs, e2, rfl⟩ := toPy_tup h2
      rw [PyData.eqv, eqvL_eqD e1 e2, eqD]
    | lst ys => obtain ⟨qs, e2, rfl⟩ := toPy_lst h2; simp [PyData.eqv, eqD]
    | non => cases h2; simp [PyData.eqv, eqD]
    | bl _ => cases h2; simp [PyData.eqv, eqD]
    | int _ => cases h2; simp [PyData.eqv, eqD]
    | str _ => cases h2; simp [PyData.eqv, eqD]
    | dic _ => cases h2
    | obj _ _ => cases h2
    | raw _ => cases h2
  | .non, e, p, q, h1, h2 => by
    cases h1
    cases e with
    | tup ys => obtain ⟨qs, e2, rfl⟩ := toPy_tup h2; simp [PyData.eqv, eqD]
    | lst ys => obtain ⟨qs, e2, rfl⟩ := toPy_lst h2; simp [PyData.eqv, eqD]
    | non => cases h2; simp [PyData.eqv, eqD]
    | bl _ => cases h2; simp [PyData.eqv, eqD]
    | int _ => cases h2; simp [PyData.eqv, eqD]
    | str _ => cases h2; simp [PyData.eqv, eqD]
    | dic _ => cases h2
    | obj _ _ => cases h2
    | raw _ => cases h2
  | .bl b, e, p, q, h1, h2 => by
    cases h1
    cases e with
    | tup ys => obtain ⟨qs, e2, rfl⟩ := toPy_tup h2; simp [PyData.eqv, eqD]
    | lst ys => obtain ⟨qs, e2, rfl⟩ := toPy_lst h2; simp [PyData.eqv, eqD]
    | non => cases h2; simp [PyData.eqv, eqD]
    | bl _ => cases h2; simp [PyData.eqv, eqD]
    | int _ => cases h2; simp [PyData.eqv, eqD]
    | str _ => cases h2; simp [PyData.eqv, eqD]
    | dic _ => cases h2
    | obj _ _ => cases h2
    | raw _ => cases h2
  | .int i, e, p, q, h1, h2 => by
    cases h1
    cases e with
    | tup ys => obtain ⟨qs, e2, rfl⟩ := toPy_tup h2; simp [PyData.eqv, eqD]
    | lst ys => obtain ⟨qs, e2, rfl⟩ := toPy_lst h2; simp [PyData.eqv, eqD]
    | non => cases h2; simp [PyData.eqv, eqD]
    | bl _ => cases h2; simp [PyData.eqv, eqD]
    | int _ => cases h2; simp [PyData.eqv, eqD]
    | str _ => cases h2; simp [PyData.eqv, eqD]
    | dic _ => cases h2
    | obj _ _ => cases h2
    | raw _ => cases h2
  | .str x, e, p, q, h1, h2 => by
    cases h1
    cases e with
    | tup ys => obtain ⟨qs, e2, rfl⟩ := toPy_tup h2; simp [PyData.eqv, eqD]
    | lst ys => obtain ⟨qs, e2, rfl⟩ := toPy_lst h2; simp [PyData.eqv, eqD]
    | non => cases h2; simp [PyData.eqv, eqD]
    | bl _ => cases h2; simp [PyData.eqv, eqD]
    | int _ => cases h2; simp [PyData.eqv, eqD]
    | str _ => cases h2; simp [PyData.eqv, eqD]
    | dic _ => cases h2
    | obj _ _ => cases h2
    | raw _ => cases h2
  | .dic _, _, _, _, h1, _ => by cases h1
  | .obj _ _, _, _, _, h1, _ => by cases h1
  | .raw _, _, _, _, h1, _ => by cases h1
theorem eqvL_eqD : ∀ {d e : List D} {p q : List PyData}, toPyL d = some p → toPyL e = some q → PyData.eqvAll p q = eqDL d e
  | [], [], _, _, h1, h2 => by cases h1; cases h2; rw [PyData.eqvAll, eqDL]
  | [], y :: ys, _, _, h1, h2 => by
    cases h1
    obtain ⟨q, qs, _, _, rfl⟩ := toPyL_cons h2
    simp [PyData.eqvAll, eqDL]
  | x :: xs, [], _, _, h1, h2 => by
    cases h2
    obtain ⟨q, qs, _, _, rfl⟩ := toPyL_cons h1
    simp [PyData.eqvAll, eqDL]
  | x :: xs, y :: ys, _, _, h1, h2 => by
    obtain ⟨p, ps, e1, e2, rfl⟩ := toPyL_cons h1
    obtain ⟨q, qs, e3, e4, rfl⟩ := toPyL_cons h2
    rw [PyData.eqvAll, eqv_eqD e1 e3, eqvL_eqD e2 e4, eqDL]
end
mutual
def dpD : D → Nat
  | .lst xs => dpL xs + 1 | .tup xs => dpL xs + 1
  | _ => 0
def dpL : List D → Nat
  | [] => 0
  | x :: xs => max (dpD x) (dpL xs)
end
mutual
theorem dp_depth : ∀ {d : D} {p : PyData}, toPy d = some p → p.depth = dpD d
  | .lst xs, p, h1 => by
    obtain ⟨ps, e1, rfl⟩ := toPy_lst h1
    rw [PyData.depth, dp_depthL e1, dpD]
  | .tup xs, p, h1 => by
    obtain ⟨ps, e1, rfl⟩ := toPy_tup h1
    rw [PyData.depth, dp_depthL e1, dpD]
  | .non, _, h => by cases h; rw [PyData.depth] <;> rfl
  | .bl _, _, h => by cases h; rw [PyData.depth] <;> rfl
  | .int _, _, h => by cases h; rw [PyData.depth] <;> rfl
  | .str _, _, h => by cases h; rw [PyData.depth] <;> rfl
  | .dic _, _, h => by cases h
  | .obj _ _, _, h => by cases h
  | .raw _, _, h => by cases h
theorem dp_depthL : ∀ {d : List D} {p : List PyData}, toPyL d = some p → PyData.depthAll p = dpL d
  | [], _, h => by cases h; rfl
  | x :: xs, _, h => by
    obtain ⟨p, ps, e1, e2, rfl⟩ := toPyL_cons h
    rw [PyData.depthAll, dp_depth e1, dp_depthL e2, dpL]
end
mutual
theorem dp_plain {K : PySem.W.Frag} {H : Hp} : ∀ {v : V} {p : PyData}, Dp K H v p → p.plain = true
  | _, _, .non => rfl
  | _, _, .bl _ => rfl
  | _, _, .int _ => rfl
  | _, _, .str _ => rfl
  | _, _, .lst _ r => by rw [PyData.plain]; exact dpAll_plain r
  | _, _, .tup _ r => by rw [PyData.plain]; exact dpAll_plain r
theorem dpAll_plain {K : PySem.W.Frag} {H : Hp} : ∀ {v : List V} {p : List PyData}, DpAll K H v p → PyData.plainAll p = true
  | _, _, .nil => rfl
  | _, _, .cons a b => by rw [PyData.plainAll, dp_plain a, dpAll_plain b]; rfl
end
section
variable {X : Cx}
def rEqX (K : PySem.W.Frag) (neg : Bool) : R2 := fun x y H Q => ∃ d e, Dp K H x d ∧ Dp K H y e ∧ min d.depth e.depth ≤ 60 ∧ Q (.bl (if neg then !PyData.eqv d e else PyData.eqv d e)) H
theorem op_eqX (K : PySem.W.Frag) (hu : X.A.units + 65 < cLine) (h : X.K = K := by rfl) : OpR X (compareOp .Eq) (rEqX K false) := by
  subst h
  intro pins s σ H x y v u Q I rx ry h
  obtain ⟨d, e, hd, he, hz, q⟩ := h
  obtain ⟨as, r1⟩ := Dp.reads I d x v hd rx
  obtain ⟨bs, r2⟩ := Dp.reads I e y u he ry
  exact SeqAt.eq_plain r1 r2 (dp_plain hd) (dp_plain he) (by omega) ⟨.bl _, H, I, rfl, q⟩
theorem op_neX (K : PySem.W.Frag) (hu : X.A.units + 65 < cLine) (h : X.K = K := by rfl) : OpR X (compareOp .NotEq) (rEqX K true) := by
  subst h
  intro pins s σ H x y v u Q I rx ry h
  obtain ⟨d, e, hd, he, hz, q⟩ := h
  obtain ⟨as, r1⟩ := Dp.reads I d x v hd rx
  obtain ⟨bs, r2⟩ := Dp.reads I e y u he ry
  exact SeqAt.ne_plain r1 r2 (dp_plain hd) (dp_plain he) (by omega) ⟨.bl _, H, I, rfl, q⟩
def rInX (K : PySem.W.Frag) (neg : Bool) : R2 := fun x y H Q => ∃ d es, Dp K H x d ∧ (Dp K H y (.list es) ∨ Dp K H y (.tuple es)) ∧ d.depth ≤ 60 ∧ Q (.bl (if neg then !es.any fun z => PyData.eqv z d else es.any fun z => PyData.eqv z d)) H
theorem op_inX (K : PySem.W.Frag) (hu : X.A.units + 65 < cLine) (h : X.K = K := by rfl) : OpR X (compareOp .In) (rInX K false) := by
  subst h
  intro pins s σ H x y v u Q I rx ry h
  obtain ⟨d, e, hd, he, hz, q⟩ := h
  obtain ⟨as, r1⟩ := Dp.reads I d x v hd rx
  rcases he with he | he
  · obtain ⟨bs, r2⟩ := Dp.reads I _ y u he ry
    have hp := dp_plain he
    rw [PyData.plain] at hp
    exact SeqAt.in_list_data r2 r1 hp (dp_plain hd) (by omega) ⟨.bl _, H, I, rfl, q⟩
  · obtain ⟨bs, r2⟩ := Dp.reads I _ y u he ry
    have hp := dp_plain he
    rw [PyData.plain] at hp
    exact SeqAt.in_tuple_data r2 r1 hp (dp_plain hd) (by omega) ⟨.bl _, H, I, rfl, q⟩
end
section
variable {K : PySem.W.Frag}
def eqF (neg : Bool) : F2 := fun _ d e k => gd (isPl d && isPl e && Nat.ble (min (dpD d) (dpD e)) 60) (k (.bl (if neg then !eqD d e else eqD d e)))
theorem fo_eq {neg : Bool} : FOp K (rEqX K neg) (eqF neg) := fun d e M0 M Q _ h => by
  obtain ⟨h1, h2⟩ := gd_of h
  rw [Bool.and_eq_true, Bool.and_eq_true] at h1
  obtain ⟨⟨p1, p2⟩, p3⟩ := h1
  obtain ⟨p, e1⟩ := pl_py p1
  obtain ⟨q, e2⟩ := pl_py p2
  have p3 := Nat.le_of_ble_eq_true p3
  intro F H v u m a b QV k
  refine ⟨p, q, toPy_dp (a.mono vis_le) e1, toPy_dp (b.mono vis_le) e2, by rw [dp_depth e1, dp_depth e2]; exact p3, ?_⟩
  rw [eqv_eqD e1 e2]
  exact k _ M _ H ⟨rfl, h2⟩ (Go.refl m) (.bl _)
theorem any_eqD {d : D} {p : PyData} (e1 : toPy d = some p) : ∀ {xs : List D} {ps : List PyData}, toPyL xs = some ps → (ps.any fun z => PyData.eqv z p) = xs.any fun z => eqD z d
  | [], _, h => by cases h; rfl
  | x :: xs, _, h => by
    obtain ⟨q, qs, e2, e3, rfl⟩ := toPyL_cons h
    rw [List.any_cons, List.any_cons, eqv_eqD e2 e1, any_eqD e1 e3]
def seqOf : D → Option (List D)
  | .lst xs => some xs
  | .tup xs => some xs
  | _ => none
def inF (neg : Bool) : F2 := fun _ d e k => match seqOf e with
  | some xs => gd (isPl d && isPlL xs && Nat.ble (dpD d) 60) (k (.bl (if neg then !xs.any fun z => eqD z d else xs.any fun z => eqD z d)))
  | none => False
theorem fo_in {neg : Bool} : FOp K (rInX K neg) (inF neg) := fun d e M0 M Q _ h => by
  unfold inF at h
  split at h
  · rename_i xs hs
    obtain ⟨h1, h2⟩ := gd_of h
    rw [Bool.and_eq_true, Bool.and_eq_true] at h1
    obtain ⟨⟨p1, p2⟩, p3⟩ := h1
    obtain ⟨p, e1⟩ := pl_py p1
    obtain ⟨ps, e2⟩ := plL_py p2
    have p3 := Nat.le_of_ble_eq_true p3
    intro F H v u m a b QV k
    refine ⟨p, ps, toPy_dp (a.mono vis_le) e1, ?_, by rw [dp_depth e1]; exact p3, ?_⟩
    · cases e with
      | lst ys => cases hs; exact .inl (toPy_dp (b.mono vis_le) (by rw [toPy, e2]; rfl))
      | tup ys => cases hs; exact .inr (toPy_dp (b.mono vis_le) (by rw [toPy, e2]; rfl))
      | _ => cases hs
    · rw [any_eqD e1 e2]
      exact k _ M _ H ⟨rfl, h2⟩ (Go.refl m) (.bl _)
  · exact h.elim
end
end FL
set_option Elab.async false
set_option linter.all false
set_option maxRecDepth 100000
set_option maxHeartbeats 1000000
namespace FL
open PySem PySem.Spec PyProof.Rows L2 DL
section
variable {X : Cx}
def rAddX (K : PySem.W.Frag) : R2 := fun x y H Q => rAddA K x y H Q ∨ rCatA K x y H Q
theorem op_addX (K : PySem.W.Frag) (h : X.K = K := by rfl) : OpR X (binaryOp .Add) (rAddX K) := by
  intro pins s σ H x y v u Q I rx ry hq
  rcases hq with hq | hq
  · exact op_addK K h pins s σ H x y v u Q I rx ry hq
  · exact op_catAK K h pins s σ H x y v u Q I rx ry hq
end
section
variable {K : PySem.W.Frag} {ta tb tc te : TE} {fa fb fc fe : WE} {tt tu : TT} {ft fu : WB} {tr : TA} {fr : WA}
def addF : F2 := fun _ d e k => match d, e with
  | .int i, .int j => k (.int (i + j))
  | .str a, .str b => gd (szOk (a.length + b.length)) (k (.str (a ++ b)))
  | .lst a, .lst b => gd (szOk (a.length + b.length)) (k (.lst (a ++ b)))
  | .tup a, .tup b => gd (szOk (a.length + b.length)) (k (.tup (a ++ b)))
  | _, _ => False
theorem fo_add : FOp K (rAddX K) addF := fun d e M0 M Q _ h => by
  unfold addF at h
  split at h
  · exact dr_or1 (dr_addI ⟨rfl, h⟩)
  · obtain ⟨h1, h2⟩ := gd_of h
    exact dr_or1 (dr_addS (szOk_le h1) ⟨rfl, h2⟩)
  · obtain ⟨h1, h2⟩ := gd_of h
    exact dr_or1 (dr_addL (szOk_le h1) ⟨rfl, h2⟩)
  · obtain ⟨h1, h2⟩ := gd_of h
    exact dr_or2 (dr_catA ⟨szOk_le h1, rfl, h2⟩)
  · exact h.elim
def iiF (f : Int → Int → Int) : F2 := fun _ d e k => match d, e with | .int i, .int j => k (.int (f i j)) | _, _ => False
def ibF (f : Int → Int → Bool) : F2 := fun _ d e k => match d, e with | .int i, .int j => k (.bl (f i j)) | _, _ => False
theorem fo_ii {f : Int → Int → Int} : FOp K (rI0 fun i j => .int (f i j)) (iiF f) := fun d e M0 M Q _ h => by
  unfold iiF at h
  split at h
  · exact dr_I0 ⟨rfl, h⟩
  · exact h.elim
theorem fo_ib {f : Int → Int → Bool} : FOp K (rI0 fun i j => .bl (f i j)) (ibF f) := fun d e M0 M Q _ h => by
  unfold ibF at h
  split at h
  · exact dr_B0 ⟨rfl, h⟩
  · exact h.elim
def icF (C : Int → Int → Bool) (f : Int → Int → Int) : F2 := fun _ d e k => match d, e with | .int i, .int j => gd (C i j) (k (.int (f i j))) | _, _ => False
theorem fo_ic {P : Int → Int → Prop} {C : Int → Int → Bool} {f : Int → Int → Int} (hc : ∀ i j, C i j = true → P i j) : FOp K (rI P fun i j => .int (f i j)) (icF C f) := fun d e M0 M Q _ h => by
  unfold icF at h
  split at h
  · obtain ⟨h1, h2⟩ := gd_of h
    exact dr_I (hc _ _ h1) ⟨rfl, h2⟩
  · exact h.elim
def cPos (_ j : Int) : Bool := decide (0 < j)
theorem cPos_of (i j : Int) (h : cPos i j = true) : 0 < j := of_decide_eq_true h
def isNone : D → Option Bool
  | .non => some true
  | .raw _ => none
  | _ => some false
def isNF (neg : Bool) : F2 := fun _ d e k => match isNone d, e with
  | some b, .non => k (.bl (if neg then !b else b))
  | _, _ => False
theorem rep_non {G : Hp} {v : V} {d : D} {b : Bool} (r : Rep K G v d) (h : isNone d = some b) : decide (v = V.non) = b := by
  cases r <;> first | (cases h; rfl) | (cases h; simp) | cases h
theorem fo_isN : FOp K (fun x y H Q => y = .non ∧ Q (.bl (decide (x = .non))) H) (isNF false) := fun d e M0 M Q _ h => by
  unfold isNF at h
  split at h
  · rename_i b hb
    intro F H v u m a bb QV k
    cases bb
    refine ⟨rfl, ?_⟩
    rw [rep_non a hb]
    exact k _ M _ H ⟨rfl, h⟩ (Go.refl m) (.bl _)
  · exact h.elim
theorem fo_notN : FOp K (fun x y H Q => y = .non ∧ Q (.bl (!decide (x = .non))) H) (isNF true) := fun d e M0 M Q _ h => by
  unfold isNF at h
  split at h
  · rename_i b hb
    intro F H v u m a bb QV k
    cases bb
    refine ⟨rfl, ?_⟩
    rw [rep_non a hb]
    exact k _ M _ H ⟨rfl, h⟩ (Go.refl m) (.bl _)
  · exact h.elim
def inSignF (neg : Bool) : F2 := fun _ d e k => match d, e with
  | .str ⟨⟨[c]⟩⟩, .str z => k (.bl (if neg then !decide (c ∈ z.cps.toList) else decide (c ∈ z.cps.toList)))
  | _, _ => False
theorem fo_inSign : FOp K (fun x y H Q => ∃ (c : Nat) (z : Str), x = .str ⟨#[c]⟩ ∧ y = .str z ∧ Q (.bl (decide (c ∈ z.cps.toList))) H) (inSignF false) := fun d e M0 M Q _ h => by
  unfold inSignF at h
  split at h
  · rename_i c z
    intro F H v u m r s QV k
    cases r; cases s
    exact ⟨c, z, rfl, rfl, k _ M _ H ⟨rfl, h⟩ (Go.refl m) (.bl _)⟩
  · exact h.elim
def ordF (f : Int → Int → Bool) (g : List Nat → List Nat → Bool) : F2 := fun _ d e k => match d, e with
  | .int i, .int j => k (.bl (f i j))
  | .str i, .str j => k (.bl (g i.cps.toList j.cps.toList))
  | _, _ => False
theorem fo_ord {f : Int → Int → Bool} {g : List Nat → List Nat → Bool} : FOp K (rOrd f g) (ordF f g) := fun d e M0 M Q _ h => by
  unfold ordF at h
  split at h
  · rename_i i j
    intro F H v u m r s QV k
    cases r; cases s
    exact .inl ⟨i, j, rfl, rfl, k _ M _ H ⟨rfl, h⟩ (Go.refl m) (.bl _)⟩
  · rename_i i j
    intro F H v u m r s QV k
    cases r; cases s
    exact .inr ⟨i, j, rfl, rfl, k _ M _ H ⟨rfl, h⟩ (Go.refl m) (.bl _)⟩
  · exact h.elim
def optF {α : Type} (o : Option α) (k : α → Prop) : Prop := match o with | some a => k a | none => False
theorem optF_of {α : Type} {o : Option α} {k : α → Prop} (h : optF o k) : ∃ a, o = some a ∧ k a := by
  cases o with
  | none => exact h.elim
  | some a => exact ⟨a, rfl, h⟩
def ixD {α : Type} (xs : List α) : Int → Option α
  | .ofNat n => xs[n]?
  | .negSucc n => atI xs (.negSucc n)
theorem ixD_eq {α : Type} (xs : List α) (i : Int) : ixD xs i = atI xs i := by
  cases i with
  | negSucc n => rfl
  | ofNat n =>
    show xs[n]? = atI xs (n : Int)
    cases e : xs[n]? with
    | some v => exact (atI_nat e).symm
    | none =>
      cases e2 : atI xs (n : Int) with
      | none => rfl
      | some v =>
        obtain ⟨j, h1, h2, h3, _, h5⟩ := atI_get e2
        rw [List.getElem?_eq_none_iff] at e
        omega
def ixF : F2 := fun _ d e k => match d, e with
  | .lst xs, .int i => optF (ixD xs i) k
  | .tup xs, .int i => optF (ixD xs i) k
  | .str x, .int i => gd (szOk x.length) (optF (atI x.cps.toList i) fun c => k (.str ⟨#[c]⟩))
  | _, _ => False
theorem fo_ix : FOp K (rIx K) ixF := fun d e M0 M Q _ h => by
  unfold ixF at h
  split at h
  · obtain ⟨a, e1, h1⟩ := optF_of h
    rw [ixD_eq] at e1
    exact dr_ixL e1 ⟨rfl, h1⟩
  · obtain ⟨a, e1, h1⟩ := optF_of h
    rw [ixD_eq] at e1
    exact dr_ixT e1 ⟨rfl, h1⟩
  · obtain ⟨h2, h⟩ := gd_of h
    obtain ⟨a, e1, h1⟩ := optF_of h
    exact dr_ixS (szOk_le h2) e1 ⟨rfl, h1⟩
  · exact h.elim
abbrev WO := Sls → Mem → (Option Int → Sls → Mem → Prop) → Prop
def DenO (K : PySem.W.Frag) (to : TO) (fo : WO) : Prop := ∀ (η : Sls) (A : Ow) (M0 O M : Mem) (δ : En) (k : Option Int → Sls → Mem → Prop), RelE η A δ → RelM η A M0 O M → fo η M0 k →
  DO K to δ M fun o M' => ∃ η' M0', RelE η' A δ ∧ RelM η' A M0' O M' ∧ k o η' M0'
def oNo : WO := fun η M k => k none η M
def oPt (fe : WE) : WO := fun η M k => fe η M fun d η1 M1 => intF d fun i => k (some i) η1 M1
theorem den_ono : DenO K tNoPart oNo := fun η A M0 O M δ k re rm h => do_no ⟨η, M0, re, rm, h⟩
theorem den_opt (a : DenE K te fe) : DenO K (tPart te) (oPt fe) := fun η A M0 O M δ k re rm h =>
  do_pt ((a η A M0 O M δ _ re rm h).imp fun d M1 ⟨η1, M01, re1, rm1, h1⟩ => let ⟨i, e, h2⟩ := intF_of h1; ⟨i, e, η1, M01, re1, rm1, h2⟩)
theorem de_slX {δ : En} {M : Mem} {Q : D → Mem → Prop} {tl th : TO} (h : DE K te δ M fun d M1 => ∃ (xs : List D) (w : List D → D), ((d = .tup xs ∧ w = D.tup) ∨ (d = .lst xs ∧ w = D.lst)) ∧ DO K tl δ M1 fun l M2 => DO K th δ M2 fun u M3 => Q (w (cutD xs l u)) M3) : DE K (tSl (rSlE K) te tl th) δ M Q := fun F σ H en m QV k => by
  refine h F σ H en m _ fun d M1 v H1 z g1 r => ?_
  obtain ⟨xs, w, e, z⟩ := z
  rcases e with ⟨rfl, rfl⟩ | ⟨rfl, rfl⟩
  · cases r with
    | @tup a vs _ s r =>
      refine z F σ H1 (en.mono g1.ex) g1.ok _ fun l M2 H2 z2 g2 => ?_
      refine z2 F σ H2 ((en.mono g1.ex).mono g2.ex) g2.ok _ fun u M3 H3 z3 g3 => ?_
      have g := (g1.trans g2).trans g3
      have ex := g2.ex.trans g3.ex
      have s3 := sqt_mono ex s
      have r3 := r.mono ex
      refine .inl ⟨a, vs, rfl, sqt_mono vis_le s3, fun hw => ?_, fun hw p hp => ?_⟩
      · rw [r.length] at hw
        have z4 : Q (.tup (cutD xs l u)) M3 := z3
        rw [cutD_all hw] at z4
        exact k _ M3 _ H3 z4 g (.tup s3 r3)
      · obtain ⟨g4, e⟩ := go_new (o := .tup _) g3.ok hp
        exact k _ M3 _ _ z3 (g.trans g4) (.tup (.inl (.inl e)) ((r3.mono g4.ex).cut l u))
  · cases r with
    | @lst a vs _ s r =>
      refine z F σ H1 (en.mono g1.ex) g1.ok _ fun l M2 H2 z2 g2 => ?_
      refine z2 F σ H2 ((en.mono g1.ex).mono g2.ex) g2.ok _ fun u M3 H3 z3 g3 => ?_
      have g := (g1.trans g2).trans g3
      have ex := g2.ex.trans g3.ex
      refine .inr ⟨a, vs, rfl, vis_le.seq (ex.seq s), fun p hp => ?_⟩
      obtain ⟨g4, e⟩ := go_new (o := .lst _) g3.ok hp
      exact k _ M3 _ _ z3 (g.trans g4) (.lst (.inl (.inl e)) (((r.mono ex).mono g4.ex).cut l u))
def rowW : D → Option (List D × (List D → D))
  | .tup xs => some (xs, .tup)
  | .lst xs => some (xs, .lst)
  | _ => none
def cutE (xs : List D) : Option Int → Option Int → List D
  | none, none => xs
  | some (.ofNat n), none => xs.drop n
  | none, some (.ofNat n) => xs.take n
  | lo, hi => DL.cutD xs lo hi
theorem cutE_eq (xs : List D) (lo hi : Option Int) : cutE xs lo hi = DL.cutD xs lo hi := by
  unfold cutE
  split
  · unfold DL.cutD
    rw [HT.sIx_none, HT.sIx_none, List.drop_zero, Nat.sub_zero, List.take_length]
  · rename_i n
    unfold DL.cutD
    rw [show some (Int.ofNat n) = some (n : Int) from rfl, HT.sIx_nat, HT.sIx_none]
    by_cases h : n ≤ xs.length
    · rw [Nat.min_eq_left h, List.take_of_length_le (by rw [List.length_drop]; omega)]
    · rw [Nat.min_eq_right (by omega), List.drop_of_length_le (by omega), List.drop_of_length_le (Nat.le_refl _), List.take_nil]
  · rename_i n
    unfold DL.cutD
    rw [show some (Int.ofNat n) = some (n : Int) from rfl, HT.sIx_nat, HT.sIx_none, List.drop_zero, Nat.sub_zero]
    by_cases h : n ≤ xs.length
    · rw [Nat.min_eq_left h]
    · rw [Nat.min_eq_right (by omega), List.take_length, List.take_of_length_le (by omega)]
  · rfl
def eSl (fe : WE) (fl fh : WO) : WE := fun η M k => fe η M fun d η1 M1 => optF (rowW d) fun p => fl η1 M1 fun l η2 M2 => fh η2 M2 fun u η3 M3 => k (p.2 (cutE p.1 l u)) η3 M3
theorem DO.imp {to : TO} {δ : En} {M : Mem} {Q Q' : Option Int → Mem → Prop} (h : DO K to δ M Q) (k : ∀ d M', Q d M' → Q' d M') : DO K to δ M Q' := fun F σ H e m QV q => h F σ H e m QV fun d M' H' z => q d M' H' (k d M' z)
theorem den_sl {tl th : TO} {fl fh : WO} (a : DenE K te fe) (l : DenO K tl fl) (u : DenO K th fh) : DenE K (tSl (rSlE K) te tl th) (eSl fe fl fh) := fun η A M0 O M δ k re rm h =>
  de_slX ((a η A M0 O M δ _ re rm h).imp fun d M1 ⟨η1, M01, re1, rm1, h1⟩ => by
    obtain ⟨⟨xs, w⟩, e, h1⟩ := optF_of h1
    refine ⟨xs, w, ?_, DO.imp (l η1 A M01 O M1 δ _ re1 rm1 h1) fun lo M2 ⟨η2, M02, re2, rm2, h2⟩ => DO.imp (u η2 A M02 O M2 δ _ re2 rm2 h2) fun hi M3 ⟨η3, M03, re3, rm3, h3⟩ => by rw [cutE_eq] at h3; exact ⟨η3, M03, re3, rm3, h3⟩⟩
    cases d with
    | tup ys => cases e; exact .inl ⟨rfl, rfl⟩
    | lst ys => cases e; exact .inr ⟨rfl, rfl⟩
    | _ => cases e)
def eRev (fe : WE) : WE := fun η M k => fe η M fun d η1 M1 => tupF d fun xs => k (.tup xs.reverse) η1 M1
def one1 (ds : List D) (k : D → Prop) : Prop := match ds with | [d] => k d | _ => False
theorem one1_of {ds : List D} {k : D → Prop} (h : one1 ds k) : ∃ d, ds = [d] ∧ k d := by
  unfold one1 at h
  split at h
  · exact ⟨_, rfl, h⟩
  · exact h.elim
def two2 (ds : List D) (k : D → D → Prop) : Prop := match ds with | [d, e] => k d e | _ => False
theorem two2_of {ds : List D} {k : D → D → Prop} (h : two2 ds k) : ∃ d e, ds = [d, e] ∧ k d e := by
  unfold two2 at h
  split at h
  · exact ⟨_, _, rfl, h⟩
  · exact h.elim
def strLen : D → Bool
  | .str x => szOk x.length
  | _ => true
def lenF : Fn := fun _ ds k => one1 ds fun d => gd (strLen d) (optF (lenD d) fun n => k (.int (n : Int)))
theorem fc_len : FCl K (fun xs H Q => ∃ x n, xs = [x] ∧ LenV K x H n ∧ Q (.int n) H) lenF := fun ds M0 M Q _ h => by
  obtain ⟨d, rfl, h⟩ := one1_of h
  obtain ⟨h1, h⟩ := gd_of h
  obtain ⟨n, e, h⟩ := optF_of h
  exact dc_len e (fun x e => by subst e; exact szOk_le h1) ⟨rfl, h⟩
def kindF (d : D) (U : String) : Option Bool := (tyD d).bind fun T => kitB T U
def isiF : Fn := fun _ ds k => two2 ds fun d e => match e with
  | .raw (.ty U) => optF (kindF d U) fun b => k (.bl b)
  | _ => False
theorem fc_isi : FCl K (rIsi K) isiF := fun ds M0 M Q _ h => by
  obtain ⟨d, e, rfl, h2⟩ := two2_of h
  clear h
  split at h2
  · rename_i U
    obtain ⟨b, e1, h⟩ := optF_of h2
    unfold kindF at e1
    cases e2 : tyD d with
    | none => rw [e2] at e1; cases e1
    | some T =>
      rw [e2] at e1
      exact dc_isi e2 e1 ⟨rfl, h⟩
  · exact h2.elim
def blsOf : List D → Option (List Bool)
  | [] => some []
  | .bl b :: r => (blsOf r).map (b :: ·)
  | _ => none
theorem blsOf_eq : ∀ {l : List D} {bs : List Bool}, blsOf l = some bs → l = bs.map D.bl
  | [], _, h => by cases h; rfl
  | .bl b :: r, _, h => by
    rw [blsOf] at h
    cases e : blsOf r with
    | none => rw [e] at h; cases h
    | some bs => rw [e] at h; cases h; rw [blsOf_eq e]; rfl
  | .non :: _, _, h => by cases h
  | .int _ :: _, _, h => by cases h
  | .str _ :: _, _, h => by cases h
  | .lst _ :: _, _, h => by cases h
  | .tup _ :: _, _, h => by cases h
  | .dic _ :: _, _, h => by cases h
  | .obj _ _ :: _, _, h => by cases h
  | .raw _ :: _, _, h => by cases h
theorem bls_map : ∀ bs : List Bool, blsOf (bs.map D.bl) = some bs
  | [] => rfl
  | b :: r => by
    show (blsOf (r.map D.bl)).map (b :: ·) = _
    rw [bls_map r]; rfl
def allF : Fn := fun _ ds k => one1 ds fun d => lstF d fun xs => optF (blsOf xs) fun bs => k (.bl (bs.all id))
theorem fc_all : FCl K (rAll K) allF := fun ds M0 M Q _ h => by
  obtain ⟨d, rfl, h⟩ := one1_of h
  obtain ⟨xs, rfl, h⟩ := lstF_of h
  obtain ⟨bs, e, h⟩ := optF_of h
  rw [blsOf_eq e]
  exact dc_all rfl ⟨rfl, h⟩
def tupleF : Fn := fun _ ds k => one1 ds fun d => optF (seqOf d) fun xs => k (.tup xs)
def int1 : Fn := fun _ ds k => one1 ds fun d => match d with
  | .int i => k (.int i)
  | .bl b => k (.int (if b then 1 else 0))
  | _ => False
def minF : Fn := fun _ ds k => int2F ds fun i j => k (.int (if j < i then j else i))
def maxF : Fn := fun _ ds k => int2F ds fun i j => k (.int (if j > i then j else i))
theorem fc_min : FCl K (fun xs H Q => ∃ i j, xs = [.int i, .int j] ∧ Q (.int (if j < i then j else i)) H) minF := fun ds M0 M Q _ h => by
  obtain ⟨i, j, rfl, h⟩ := int2F_of h
  exact dc_min2 ⟨rfl, h⟩
theorem fc_max : FCl K (fun xs H Q => ∃ i j, xs = [.int i, .int j] ∧ Q (.int (if j > i then j else i)) H) maxF := fun ds M0 M Q _ h => by
  obtain ⟨i, j, rfl, h⟩ := int2F_of h
  exact dc_max2 ⟨rfl, h⟩
def iZipF (fr : WA) : WA := fun η M k => fr η M fun ds η1 M1 => two2 ds fun d e => match d, e with
  | .tup xs, .tup ys => k (zipD xs ys) η1 M1
  | .lst xs, .lst ys => k (zipD xs ys) η1 M1
  | _, _ => False
theorem den_izip (a : DenA K tr fr) : DenI K (RZ.iZipA K tr) (iZipF fr) := fun η A M0 O M δ k re rm h =>
  di_zip (DA.imp (a η A M0 O M δ _ re rm h) fun ds M1 ⟨η1, M01, re1, rm1, h1⟩ => by
    obtain ⟨d, e, rfl, h2⟩ := two2_of h1
    clear h1
    split at h2
    · exact ⟨_, _, .inl rfl, η1, M01, re1, rm1, h2⟩
    · exact ⟨_, _, .inr rfl, η1, M01, re1, rm1, h2⟩
    · exact h2.elim)
end
end FL
set_option Elab.async false
set_option linter.all false
set_option maxRecDepth 100000
set_option maxHeartbeats 1000000
namespace FL
open PySem PySem.Spec PyProof.Rows L2 DL
section
variable {K : PySem.W.Frag} {ta tb tc te : TE} {fa fb fc fe : WE} {tt tu : TT} {ft fu : WB} {tr : TA} {fr : WA} {t u : TS} {fs gs : WS} {g : TG} {fg : WG}
theorem de_revX {δ : En} {M : Mem} {Q : D → Mem → Prop} (h : DE K te δ M fun d M1 => ∃ xs, d = .tup xs ∧ Q (.tup xs.reverse) M1) : DE K (tRevT K te) δ M Q := de_revT (h.imp fun d M1 ⟨xs, e, q⟩ => ⟨xs, e, q⟩)
theorem den_rev (a : DenE K te fe) : DenE K (tRevT K te) (eRev fe) := fun η A M0 O M δ k re rm h =>
  de_revX ((a η A M0 O M δ _ re rm h).imp fun d M1 ⟨η1, M01, re1, rm1, h1⟩ => let ⟨xs, e, h2⟩ := tupF_of h1; ⟨xs, e, η1, M01, re1, rm1, h2⟩)
theorem dc_tupT {xs : List D} {M : Mem} {Q : D → Mem → Prop} (q : Q (.tup xs) M) : DC K (rTupO K) [.tup xs] M Q := fun F H vs m r QV k => by
  cases r with
  | cons a b =>
    cases b
    cases a with
    | tup s r => exact ⟨_, _, rfl, .inr ⟨sqt_mono vis_le s, k _ M _ H q (Go.refl m) (.tup s r)⟩⟩
theorem fc_tuple : FCl K (rTupO K) tupleF := fun ds M0 M Q _ h => by
  obtain ⟨d, rfl, h2⟩ := one1_of h
  clear h
  obtain ⟨xs, e, h⟩ := optF_of h2
  cases d with
  | lst ys => cases e; exact dc_tupL ⟨rfl, h⟩
  | tup ys => cases e; exact dc_tupT ⟨rfl, h⟩
  | _ => cases e
theorem FnG.weak {P : Program} {w : World} {mg : Str → Option Value} {base : Heap} {k : Nat} {f : Addr} {fd : FuncData} {ps : List Str} {p p' : PT0} (h : FnG P w K mg base k f fd ps p) (i : ∀ ds M R, p' ds M R → p ds M R) : FnG P w K mg base k f fd ps p' :=
  ⟨fun ds M R z => h.len ds M R (i ds M R z), fun A ou s H as us vs Q room gd e0 bt rel ⟨F, M, ds, R, r, m, hp, q⟩ => h.run A ou s H as us vs Q room gd e0 bt rel ⟨F, M, ds, R, r, m, i ds M R hp, q⟩⟩
theorem Df.weak {P : Program} {w : World} {mg : Str → Option Value} {base : Heap} {k : Nat} {x : Str} {ps : List Str} {p p' : PT0} (h : Df P w K mg base k x ps p) (i : ∀ ds M R, p' ds M R → p ds M R) : Df P w K mg base k x ps p' := by
  obtain ⟨f, fd, G, rest⟩ := h.ex
  exact ⟨f, fd, FnG.weak G i, rest⟩
theorem jn_some {M0 O M : Mem} (j : Jn M0 O M) {a : Addr} {o : MO} (h : M0 a = some o) : M a = some o ∧ O a = none := by
  have hO : O a = none := by
    cases e : O a with
    | none => rfl
    | some u =>
      have := (j.b a u e).2
      rw [h] at this; cases this
  exact ⟨by rw [j.a a hO]; exact h, hO⟩
theorem jn_none {M0 O M : Mem} (j : Jn M0 O M) {a : Addr} (h : M a = none) : M0 a = none ∧ O a = none := by
  have hO : O a = none := by
    cases e : O a with
    | none => rfl
    | some u =>
      have := (j.b a u e).1
      rw [h] at this; cases this
  exact ⟨by rw [← j.a a hO]; exact h, hO⟩
theorem jn_mup {M0 O M : Mem} (j : Jn M0 O M) {a : Addr} {o : MO} (hO : O a = none) : Jn (mup M0 a o) O (mup M a o) := by
  constructor
  · intro b h
    by_cases e : b = a
    · subst e; rw [mup_same, mup_same]
    · rw [mup_ne e, mup_ne e]; exact j.a b h
  · intro b u h
    have e : b ≠ a := fun z => by subst z; rw [hO] at h; cases h
    rw [mup_ne e, mup_ne e]; exact j.b b u h
end
end FL
set_option Elab.async false
set_option linter.all false
set_option maxRecDepth 100000
set_option maxHeartbeats 1000000
namespace FL
open PySem PySem.Spec PyProof.Rows L2 DL
theorem pss_none {X : Cx} {st : List Stmt} : PSs X st fun _ _ _ => False := ⟨fun _ _ _ _ _ _ h => h.elim⟩
section
variable {K : PySem.W.Frag} {ta tb tc te : TE} {fa fb fc fe : WE} {tt tu : TT} {ft fu : WB} {tr : TA} {fr : WA} {t u : TS} {fs gs : WS} {g g1 : TG} {fg fg1 : WG} {wi wi1 : TI} {fi fi1 : WA}
theorem de_extendX {δ : En} {M : Mem} {Q : D → Mem → Prop} (h : DE K ta δ M fun o M1 => ∃ p ys, o = .raw (.ref p) ∧ M1 p = some (.lst ys) ∧ DA K tr δ M1 fun ds M2 => ∃ xs zs, ds = [.lst zs] ∧ M2 p = some (.lst xs) ∧ xs.length + zs.length ≤ sizeLine ∧ Q .non (mup M2 p (.lst (xs ++ zs)))) : DE K (tBM K "list" (rExtS K) ta tr) δ M Q := fun F σ H en m QV k => by
  refine h F σ H en m _ fun o M1 v H1 z g1 r1 => ?_
  obtain ⟨p, ys, rfl, hp, z⟩ := z
  cases r1
  obtain ⟨h1, e1, o1⟩ := g1.ok.mo p _ hp
  cases o1 with
  | lst o1 =>
    refine ⟨tyV_lst (SqL.of e1), z F σ H1 (en.mono g1.ex) g1.ok _ fun ds M2 vs H2 z2 g2 r2 => ?_⟩
    obtain ⟨xs, zs, rfl, hp2, hz, q⟩ := z2
    obtain ⟨w, rfl, rw'⟩ := vs1 r2
    obtain ⟨h2, e2, o2⟩ := g2.ok.mo p _ hp2
    cases o2 with
    | lst o2 =>
      cases rw' with
      | @lst b ws _ s rr =>
        have g3 := go_mut (m := .lst (xs ++ zs)) g2.ok hp2 (.lst (o2.append rr))
        exact ⟨p, b, _, ws, rfl, rfl, e2, vis_le.seq s, by rw [o2.length, rr.length]; exact hz, k _ _ _ _ q ((g1.trans g2).trans g3) .non⟩
theorem den_ext {i : Nat} (a : DenE K te fe) : DenE K (tBM K "list" (rExtS K) (tVar i) (tCons te tNil)) (eExt i fe) := fun η A M0 O M δ k re rm h => by
  obtain ⟨l0, e0, h⟩ := ownF_of h
  obtain ⟨p, hp, hd⟩ := re.own i l0 e0
  refine de_extendX (de_var hd ⟨p, l0, rfl, (rm.own i l0 p e0 hp).1, da_cons ((a η A M0 O M δ _ re rm h).imp fun d M1 ⟨η1, M01, re1, rm1, h1⟩ => ?_)⟩)
  cases d with
  | lst zs =>
    obtain ⟨l, e1, h1⟩ := ownF_of h1
    obtain ⟨h2, h1⟩ := gd_of h1
    exact da_nil ⟨l, zs, rfl, (rm1.own i l p e1 hp).1, szOk_le h2, _, M01, re1.chg e1, rm1.chg re1.inj e1 hp, h1⟩
  | _ => exact h1.elim
def objF (C : Addr) (d : D) (k : List (Str × D) → Prop) : Prop := match d with | .obj C' fs => gd (decide (C' = C)) (k fs) | _ => False
theorem objF_of {C : Addr} {d : D} {k : List (Str × D) → Prop} (h : objF C d k) : ∃ fs, d = .obj C fs ∧ k fs := by
  cases d with
  | obj C' fs =>
    obtain ⟨h1, h2⟩ := gd_of h
    have h1 := of_decide_eq_true h1
    subst h1
    exact ⟨fs, rfl, h2⟩
  | _ => exact h.elim
def fldF (C : Addr) (M : Mem) (d : D) (k : List (Str × D) → Prop) : Prop := match d with
  | .obj C' fs => gd (decide (C' = C)) (k fs)
  | .raw (.ref p) => (match M p with
    | some (.ins C' fs) => gd (decide (C' = C)) (k fs)
    | _ => False)
  | _ => False
theorem fldF_of {C : Addr} {M : Mem} {d : D} {k : List (Str × D) → Prop} (h : fldF C M d k) : ∃ fs, (d = .obj C fs ∨ ∃ p, d = .raw (.ref p) ∧ M p = some (.ins C fs)) ∧ k fs := by
  unfold fldF at h
  split at h
  · rename_i C' fs
    obtain ⟨h1, h2⟩ := gd_of h
    have h1 := of_decide_eq_true h1
    subst h1
    exact ⟨fs, .inl rfl, h2⟩
  · rename_i p
    split at h
    · rename_i C' fs e
      obtain ⟨h1, h2⟩ := gd_of h
      have h1 := of_decide_eq_true h1
      subst h1
      exact ⟨fs, .inr ⟨p, rfl, e⟩, h2⟩
    · exact h.elim
  · exact h.elim
def eFld (C : Addr) (f : Str) (fe : WE) : WE := fun η M k => fe η M fun d η1 M1 => fldF C M1 d fun fs => optF (fs.lookup f) fun v => k v η1 M1
theorem den_fld {C : Addr} {f : Str} (c : Cls K C) (n : NoAttr K C f) (a : DenE K te fe) : DenE K (tFld K te f) (eFld C f fe) := fun η A M0 O M δ k re rm h =>
  de_fld ((a η A M0 O M δ _ re rm h).imp fun d M1 ⟨η1, M01, re1, rm1, h1⟩ => by
    obtain ⟨fs, hd, h2⟩ := fldF_of h1
    obtain ⟨v, e, h3⟩ := optF_of h2
    rcases hd with rfl | ⟨p, rfl, hp⟩
    · exact fld_obj c n e ⟨η1, M01, re1, rm1, h3⟩
    · exact fld_mut (rm1.sub p _ hp) c n e ⟨η1, M01, re1, rm1, h3⟩)
theorem prom_of {f : FF} {n : Nat} {η : Sls} {A : Ow} {M0 O M : Mem} {δ : En} {k : KE} {ds : List D} (re : RelE η A δ) (rm : RelM η A M0 O M) (hl : ds.length = n) (h : f ds M0 fun d M2 => k d η M2) :
    prom n f ds M fun d M' => ∃ η' M0', RelE η' A δ ∧ RelM η' A M0' O M' ∧ k d η' M0' :=
  ⟨hl, M0, besides M0 M, _, jn_besides rm.sub, h, fun d M0' M' hq hj => ⟨η, M0', re, rm.jn hj, hq⟩⟩
def eMeth (C : Addr) (m : Str) (f : FF) (n : Nat) (fe : WE) (fr : WA) : WE := fun η M k => fe η M fun d η1 M1 => objF C d fun fs => gd (fs.lookup m).isNone (fr η1 M1 fun ds η2 M2 => gd (Nat.beq (ds.length + 1) n) (f (d :: ds) M2 fun x M3 => k x η2 M3))
theorem den_meth {C : Addr} {m : Str} {f : FF} {n : Nat} {E : XK} (a : DenE K te fe) (b : DenA K tr fr) : DenE K (tMeth C m (spD K (prom n f)) [] E te tr) (eMeth C m f n fe fr) := fun η A M0 O M δ k re rm h =>
  de_meth ((a η A M0 O M δ _ re rm h).imp fun d M1 ⟨η1, M01, re1, rm1, h1⟩ => by
    obtain ⟨fs, rfl, h2⟩ := objF_of h1
    obtain ⟨z, h3⟩ := gd_of h2
    exact ⟨fs, rfl, Option.isNone_iff_eq_none.mp z, DA.imp (b η1 A M01 O M1 δ _ re1 rm1 h3) fun ds M2 ⟨η2, M02, re2, rm2, h2⟩ => by
      obtain ⟨z2, h2⟩ := gd_of h2
      exact prom_of re2 rm2 (Nat.eq_of_beq_eq_true z2) h2⟩)
end
end FL
set_option Elab.async false
set_option linter.all false
set_option maxRecDepth 100000
set_option maxHeartbeats 1000000
namespace FL
open PySem PySem.Spec PyProof.Rows L2 DL
def noOwn (η : Sls) : Bool := η.all fun s => !isOwnS s
def still (Mf : Mem) (η : Sls) (M : Mem) (P : Prop) : Prop := gd (noOwn η) (M = Mf ∧ P)
theorem noOwn_get {η : Sls} (h : noOwn η = true) {i : Nat} {l : List D} : η[i]? ≠ some (.own l) := fun e => by
  have := List.all_eq_true.mp h _ (List.mem_of_getElem? e)
  cases this
theorem relM_eq {η η' : Sls} {A A' : Ow} {M0 O M M' : Mem} (h : noOwn η = true) (h' : noOwn η' = true) (m : RelM η A M0 O M) (m' : RelM η' A' M0 O M') : M' = M := by
  funext a
  cases e : O a with
  | some o => rw [(m.out a o e).1, (m'.out a o e).1]
  | none => rw [m.rest a e fun ⟨i, l, z, _⟩ => noOwn_get h z, m'.rest a e fun ⟨i, l, z, _⟩ => noOwn_get h' z]
section
variable {K : PySem.W.Frag} {te : TE} {fe : WE} {tt tt1 : TT} {ft ft1 : WB} {g g1 : TG} {fg fg1 : WG} {wi wi1 : TI} {fi fi1 : WA}
def in2L (fg1 : WG) (ft1 : WB) (fe : WE) (η : Sls) (Mf : Mem) (k : List D → Prop) : List D → List D → Prop
  | [], acc => k acc
  | y :: r, acc => fg1 y η Mf fun η3 M3 => still Mf η3 M3 (ft1 η3 Mf fun b η4 M4 => still Mf η4 M4 (br b
      (fe η4 Mf fun e η5 M5 => still Mf η5 M5 (gd (szOk (acc.length + 1)) (in2L fg1 ft1 fe η Mf k r (acc ++ [e])))) (in2L fg1 ft1 fe η Mf k r acc)))
def out2L (fg : WG) (ft : WB) (fi1 : WA) (fg1 : WG) (ft1 : WB) (fe : WE) (vs1 : List Nat) (η : Sls) (Mf : Mem) (k : List D → Prop) : List D → List D → Prop
  | [], acc => k acc
  | x :: r, acc => fg x η Mf fun η2 M2 => still Mf η2 M2 (ft η2 Mf fun b η3 M3 => still Mf η3 M3 (br b
      (fi1 η3 Mf fun es η4 M4 => still Mf η4 M4 (in2L fg1 ft1 fe (wipeF η4 vs1) Mf (fun acc' => out2L fg ft fi1 fg1 ft1 fe vs1 η Mf k r acc') es acc)) (out2L fg ft fi1 fg1 ft1 fe vs1 η Mf k r acc)))
@[irreducible] def eLc2 (fi : WA) (fg : WG) (ft : WB) (fi1 : WA) (fg1 : WG) (ft1 : WB) (fe : WE) (vs vs1 : List Nat) : WE := fun η M k => fi η M fun ds η1 M1 => gd (noOwn η1) (out2L fg ft fi1 fg1 ft1 fe vs1 (wipeF η1 vs) M1 (fun acc => k (.lst acc) η1 M1) ds [])
theorem eLc2_u {fi : WA} {fg : WG} {ft : WB} {fi1 : WA} {fg1 : WG} {ft1 : WB} {fe : WE} {vs vs1 : List Nat} {η : Sls} {M : Mem} {k : KE} : eLc2 fi fg ft fi1 fg1 ft1 fe vs vs1 η M k ↔ fi η M fun ds η1 M1 => gd (noOwn η1) (out2L fg ft fi1 fg1 ft1 fe vs1 (wipeF η1 vs) M1 (fun acc => k (.lst acc) η1 M1) ds []) := by unfold eLc2; exact Iff.rfl
theorem RelM.wipeN {η : Sls} {A : Ow} {M0 O M : Mem} (m : RelM η A M0 O M) (h : noOwn η = true) (vs : List Nat) : RelM (wipeF η vs) A M0 O M :=
  m.wipe fun v _ => by
    unfold notOwn
    split
    · rename_i l e; exact absurd e (noOwn_get h)
    · rfl
theorem den_lc2 {js js1 vs vs1 : List Nat} (hj : ∀ j ∈ js, j ∈ vs) (hj1 : ∀ j ∈ js1, j ∈ vs1) (hv : ∀ j ∈ vs1, j ∈ vs) (i : DenI K wi fi) (gt : DenG K js g fg) (c : DenT K tt ft) (i1 : DenI K wi1 fi1) (gt1 : DenG K js1 g1 fg1) (c1 : DenT K tt1 ft1) (a : DenE K te fe) :
    DenE K (tLc2 wi g tt wi1 g1 tt1 te vs vs1) (eLc2 fi fg ft fi1 fg1 ft1 fe vs vs1) := fun η A M0 O M δ k re rm h =>
  de_lc2 hj hj1 hv (DI.imp (i η A M0 O M δ _ re rm (eLc2_u.mp h)) fun ds M1 ⟨η1, M01, re1, rm1, h1⟩ => by
    obtain ⟨no1, h1⟩ := gd_of h1
    have st : ∀ {η' : Sls} {M0' M' : Mem} {P : Prop}, RelM η' A M0' O M' → still M01 η' M0' P → M' = M1 ∧ M0' = M01 ∧ noOwn η' = true ∧ P := fun r s => by
      obtain ⟨z1, z2, z3⟩ := gd_of s
      subst z2
      exact ⟨relM_eq no1 z1 rm1 r, rfl, z1, z3⟩
    refine ⟨fun i acc => out2L fg ft fi1 fg1 ft1 fe vs1 (wipeF η1 vs) M01 (fun acc => k (.lst acc) η1 M01) (ds.drop i) acc, h1, fun i d acc hd h2 => ?_, fun acc h2 => ?_⟩
    · dsimp only at h2
      rw [drop_get hd] at h2
      refine (gt d _ A M01 O M1 _ _ (re1.wipe vs) (rm1.wipeN no1 vs) h2).imp fun δ2 M2 ⟨η2, M02, re2, rm2, h3⟩ => ?_
      obtain ⟨rfl, rfl, no2, h3⟩ := st rm2 h3
      refine ⟨rfl, (c η2 A M02 O M2 δ2 _ re2 rm2 h3).imp fun b M3 ⟨η3, M03, re3, rm3, h4⟩ => ?_⟩
      obtain ⟨rfl, rfl, no3, h4⟩ := st rm3 h4
      refine ⟨rfl, ?_⟩
      cases b with
      | false => rw [if_neg Bool.false_ne_true]; exact h4
      | true =>
        rw [if_pos rfl]
        refine DI.imp (i1 η3 A M03 O M3 δ2 _ re3 rm3 h4) fun es M4 ⟨η4, M04, re4, rm4, h5⟩ => ?_
        obtain ⟨rfl, rfl, no4, h5⟩ := st rm4 h5
        refine ⟨rfl, fun j bcc => in2L fg1 ft1 fe (wipeF η4 vs1) M04 (fun acc' => out2L fg ft fi1 fg1 ft1 fe vs1 (wipeF η1 vs) M04 (fun acc => k (.lst acc) η1 M04) (ds.drop (i + 1)) acc') (es.drop j) bcc, h5, fun j e bcc he h6 => ?_, fun bcc h6 => ?_⟩
        · dsimp only at h6
          rw [drop_get he] at h6
          refine (gt1 e _ A M04 O M4 _ _ (re4.wipe vs1) (rm4.wipeN no4 vs1) h6).imp fun δ3 M5 ⟨η5, M05, re5, rm5, h7⟩ => ?_
          obtain ⟨rfl, rfl, no5, h7⟩ := st rm5 h7
          refine ⟨rfl, (c1 η5 A M05 O M5 δ3 _ re5 rm5 h7).imp fun b M6 ⟨η6, M06, re6, rm6, h8⟩ => ?_⟩
          obtain ⟨rfl, rfl, no6, h8⟩ := st rm6 h8
          refine ⟨rfl, ?_⟩
          cases b with
          | false => rw [if_neg Bool.false_ne_true]; exact h8
          | true =>
            rw [if_pos rfl]
            refine (a η6 A M06 O M6 δ3 _ re6 rm6 h8).imp fun x M7 ⟨η7, M07, re7, rm7, h9⟩ => ?_
            obtain ⟨rfl, rfl, no7, h9⟩ := st rm7 h9
            obtain ⟨z, h9⟩ := gd_of h9
            exact ⟨rfl, szOk_le z, h9⟩
        · dsimp only at h6
          rw [List.drop_length] at h6
          exact h6
    · dsimp only at h2
      rw [List.drop_length] at h2
      exact ⟨η1, M01, re1, rm1, h2⟩)
end
end FL
set_option Elab.async false
set_option linter.all false
set_option maxRecDepth 100000
set_option maxHeartbeats 1000000
namespace FL
open PySem PySem.Spec PyProof.Rows L2 DL
section
variable {K : PySem.W.Frag} {ta tb te : TE} {fa fb fe : WE} {tr : TA} {fr : WA}
theorem RelM.mupM {η : Sls} {A : Ow} {M0 O M : Mem} (m : RelM η A M0 O M) {p : Addr} {o o' : MO} (h : M0 p = some o) : RelM η A (mup M0 p o') O (mup M p o') := by
  have nO : O p = none := by
    cases e : O p with
    | none => rfl
    | some u =>
      have := (m.out p u e).2
      rw [h] at this; cases this
  constructor
  · intro i l q h1 h2
    have z := m.own i l q h1 h2
    have hq : q ≠ p := fun e => by rw [e, h] at z; cases z.2.2
    rw [mup_ne hq, mup_ne hq]; exact z
  · intro a u h1
    have ha : a ≠ p := fun e => by rw [e, nO] at h1; cases h1
    rw [mup_ne ha, mup_ne ha]; exact m.out a u h1
  · intro a h1 h2
    by_cases ha : a = p
    · subst ha; rw [mup_same, mup_same]
    · rw [mup_ne ha, mup_ne ha]; exact m.rest a h1 h2
def insF (C : Addr) (M : Mem) (d : D) (k : Addr → List (Str × D) → Prop) : Prop := match d with
  | .raw (.ref p) => match M p with
    | some (.ins C' fs) => gd (decide (C' = C)) (k p fs)
    | _ => False
  | _ => False
theorem insF_of {C : Addr} {M : Mem} {d : D} {k : Addr → List (Str × D) → Prop} (h : insF C M d k) : ∃ p fs, d = .raw (.ref p) ∧ M p = some (.ins C fs) ∧ k p fs := by
  unfold insF at h
  split at h
  · rename_i p
    split at h
    · rename_i C' fs e
      obtain ⟨z, h2⟩ := gd_of h
      have z := of_decide_eq_true z
      subst z
      exact ⟨p, fs, rfl, e, h2⟩
    · exact h.elim
  · exact h.elim
@[irreducible] def sPut (C : Addr) (f : Str) (fo fe : WE) : WS := fun η M k => fe η M fun d η1 M1 => fo η1 M1 fun o η2 M2 => insF C M2 o fun p fs => gd (Nat.blt fs.length 1000) (k.nx η2 (mup M2 p (.ins C (putD f d fs))))
theorem sPut_u {C : Addr} {f : Str} {fo fe : WE} {η : Sls} {M : Mem} {k : KS} : sPut C f fo fe η M k ↔ fe η M fun d η1 M1 => fo η1 M1 fun o η2 M2 => insF C M2 o fun p fs => gd (Nat.blt fs.length 1000) (k.nx η2 (mup M2 p (.ins C (putD f d fs)))) := by unfold sPut; exact Iff.rfl
theorem den_put {C : Addr} {f : Str} (c : Cls K C) (n : NoAttr K C f) (o : DenE K ta fa) (a : DenE K te fe) : DenS K (sFld K ta te f) (sPut C f fa fe) := fun η A M0 O M δ k re rm h =>
  ds_fld ((a η A M0 O M δ _ re rm (sPut_u.mp h)).imp fun d M1 ⟨η1, M01, re1, rm1, h1⟩ => (o η1 A M01 O M1 δ _ re1 rm1 h1).imp fun x M2 ⟨η2, M02, re2, rm2, h2⟩ => by
    obtain ⟨p, fs, rfl, e, h3⟩ := insF_of h2
    obtain ⟨z, h4⟩ := gd_of h3
    exact ⟨p, C, fs, rfl, rm2.sub p _ e, c, n, Nat.blt_eq.mp z, η2, A, _, re2, rm2.mupM e, h4⟩)
def eMake (C : Addr) (f : FF) (n : Nat) (fr : WA) : WE := fun η M k => fr η M fun ds η1 M1 => gd (Nat.beq (ds.length + 1) n) (∀ x, M1 x = none → f (.raw (.ref x) :: ds) (mup M1 x (.ins C [])) fun d M2 => d = .non ∧ ∃ fs, M2 = mup M1 x (.ins C fs) ∧ k (.obj C fs) η1 M1)
theorem den_make {C : Addr} {f : FF} {n : Nat} {E : XK} (b : DenA K tr fr) : DenE K (tMake C (spD K (prom n f)) [] E tr) (eMake C f n fr) := fun η A M0 O M δ k re rm h =>
  de_make (DA.imp (b η A M0 O M δ _ re rm h) fun ds M1 ⟨η1, M01, re1, rm1, h1⟩ x hx => by
    obtain ⟨z, h1⟩ := gd_of h1
    have hx0 : M01 x = none := by
      cases e : M01 x with
      | none => rfl
      | some o =>
        have := rm1.sub x o e
        rw [hx] at this; cases this
    have sb : Sub (mup M01 x (.ins C [])) (mup M1 x (.ins C [])) := fun a o e => by
      by_cases ha : a = x
      · subst ha; rw [mup_same] at e ⊢; exact e
      · rw [mup_ne ha] at e ⊢; exact rm1.sub a o e
    refine ⟨Nat.eq_of_beq_eq_true z, _, besides (mup M01 x (.ins C [])) (mup M1 x (.ins C [])), _, jn_besides sb, h1 x hx0, fun d M2' M' hq hj => ?_⟩
    obtain ⟨rfl, fs, rfl, hk⟩ := hq
    refine ⟨fs, rfl, ?_, η1, M01, re1, rm1, hk⟩
    funext a
    by_cases ha : a = x
    · subst ha
      have bz : besides (mup M01 a (.ins C [])) (mup M1 a (.ins C [])) a = none := by unfold besides; rw [mup_same]
      rw [hj.a a bz, mup_same, mup_same]
    · rw [mup_ne ha]
      cases e : M01 a with
      | some o =>
        have bz : besides (mup M01 x (.ins C [])) (mup M1 x (.ins C [])) a = none := by unfold besides; rw [mup_ne ha, e]
        rw [hj.a a bz, mup_ne ha, e, rm1.sub a o e]
      | none =>
        have bz : besides (mup M01 x (.ins C [])) (mup M1 x (.ins C [])) a = M1 a := by unfold besides; rw [mup_ne ha, e]; exact mup_ne ha
        cases e2 : M1 a with
        | some o => exact (hj.b a o (by rw [bz, e2])).1
        | none => rw [hj.a a (by rw [bz, e2]), mup_ne ha, e])
end
end FL
set_option Elab.async false
set_option linter.all false
set_option maxRecDepth 100000
set_option maxHeartbeats 1000000
namespace FL
open PySem PySem.Spec PyProof.Rows L2 DL
def ltS (x y : Str) : Prop := x.cps.toList < y.cps.toList
instance (x y : Str) : Decidable (ltS x y) := inferInstanceAs (Decidable (_ < _))
theorem str_ext {x y : Str} (h : x.cps.toList = y.cps.toList) : x = y := by
  obtain ⟨x⟩ := x
  obtain ⟨y⟩ := y
  have : x = y := Array.toList_inj.mp h
  rw [this]
theorem ltS_total {x y : Str} (h1 : ¬ ltS x y) (h2 : ¬ ltS y x) : x = y := by
  refine str_ext ?_
  unfold ltS at h1 h2
  rw [List.not_lt] at h1 h2
  exact List.le_antisymm h2 h1
def Asc (l : List Str) : Prop := l.Pairwise fun a b => ¬ ltS b a
def insS (x : Str) : List Str → List Str
  | [] => [x]
  | y :: r => if ltS y x then y :: insS x r else x :: y :: r
def sortS : List Str → List Str
  | [] => []
  | x :: r => insS x (sortS r)
theorem asc_uniq : ∀ {l m : List Str}, Asc l → Asc m → l.Nodup → m.Nodup → (∀ k, k ∈ l ↔ k ∈ m) → l = m
  | [], [], _, _, _, _, _ => rfl
  | [], y :: r, _, _, _, _, h => by have := (h y).mpr List.mem_cons_self; cases this
  | x :: r, [], _, _, _, _, h => by have := (h x).mp List.mem_cons_self; cases this
  | x :: r, y :: s, a, b, nl, nm, h => by
    obtain ⟨a1, a2⟩ := List.pairwise_cons.mp a
    obtain ⟨b1, b2⟩ := List.pairwise_cons.mp b
    obtain ⟨n1, n2⟩ := List.nodup_cons.mp nl
    obtain ⟨m1, m2⟩ := List.nodup_cons.mp nm
    have e : x = y := by
      rcases List.mem_cons.mp ((h x).mp List.mem_cons_self) with e | hx
      · exact e
      · rcases List.mem_cons.mp ((h y).mpr List.mem_cons_self) with e | hy
        · exact e.symm
        · exact ltS_total (b1 x hx) (a1 y hy)
    subst e
    rw [asc_uniq a2 b2 n2 m2 fun k => ?_]
    constructor
    · intro hk
      exact ((List.mem_cons.mp ((h k).mp (List.mem_cons_of_mem _ hk))).resolve_left fun e => n1 (e ▸ hk))
    · intro hk
      exact ((List.mem_cons.mp ((h k).mpr (List.mem_cons_of_mem _ hk))).resolve_left fun e => m1 (e ▸ hk))
def nubS : List Str → List Str
  | [] => []
  | x :: r => if x ∈ r then nubS r else x :: nubS r
theorem mem_nubS {z : Str} : ∀ {l : List Str}, z ∈ nubS l ↔ z ∈ l
  | [] => Iff.rfl
  | x :: r => by
    unfold nubS
    by_cases h : x ∈ r
    · rw [if_pos h, mem_nubS, List.mem_cons]
      exact ⟨.inr, fun q => q.elim (fun e => e ▸ h) id⟩
    · rw [if_neg h, List.mem_cons, List.mem_cons, mem_nubS]
theorem nubS_nodup : ∀ l : List Str, (nubS l).Nodup
  | [] => List.nodup_nil
  | x :: r => by
    unfold nubS
    by_cases h : x ∈ r
    · rw [if_pos h]; exact nubS_nodup r
    · rw [if_neg h]; exact List.nodup_cons.mpr ⟨fun q => h (mem_nubS.mp q), nubS_nodup r⟩
theorem nubS_len {L l : List Str} (nd : L.Nodup) (h : ∀ k, k ∈ L ↔ k ∈ l) : L.length = (nubS l).length := ((List.perm_ext_iff_of_nodup nd (nubS_nodup l)).mpr fun k => (h k).trans mem_nubS.symm).length_eq
def ascS (l : List Str) : List Str := sortS (nubS l)
def strsL : List D → Option (List Str)
  | [] => some []
  | .str x :: r => (strsL r).map (x :: ·)
  | _ => none
theorem strsL_eq : ∀ {l : List D} {ys : List Str}, strsL l = some ys → l = ys.map D.str
  | [], _, h => by cases h; rfl
  | .str x :: r, _, h => by
    rw [strsL] at h
    cases e : strsL r with
    | none => rw [e] at h; cases h
    | some ys => rw [e] at h; cases h; rw [strsL_eq e]; rfl
  | .non :: _, _, h => by cases h
  | .bl _ :: _, _, h => by cases h
  | .int _ :: _, _, h => by cases h
  | .lst _ :: _, _, h => by cases h
  | .tup _ :: _, _, h => by cases h
  | .dic _ :: _, _, h => by cases h
  | .obj _ _ :: _, _, h => by cases h
  | .raw _ :: _, _, h => by cases h
@[simp] theorem strsL_map : ∀ ys : List Str, strsL (ys.map D.str) = some ys
  | [] => rfl
  | y :: r => by
    show (strsL (r.map D.str)).map (y :: ·) = _
    rw [strsL_map r]; rfl
section
variable {K : PySem.W.Frag} {te : TE} {fe : WE}
def eLenSet (fe : WE) : WE := fun η M k => fe η M fun d η1 M1 => optF (seqOf d) fun xs => optF (strsL xs) fun l => gd (Nat.ble l.length 1000) (k (.int ((nubS l).length : Nat)) η1 M1)
theorem den_lenSet (a : DenE K te fe) : DenE K (tLenSetS K te) (eLenSet fe) := fun η A M0 O M δ k re rm h =>
  de_lenSetS ((a η A M0 O M δ _ re rm h).imp fun d M1 ⟨η1, M01, re1, rm1, h1⟩ => by
    obtain ⟨xs, e1, h2⟩ := optF_of h1
    obtain ⟨l, e2, h3⟩ := optF_of h2
    obtain ⟨z, h4⟩ := gd_of h3
    have e3 := strsL_eq e2
    subst e3
    refine ⟨l, ?_, Nat.le_of_ble_eq_true z, fun L nd mm => ⟨η1, M01, re1, rm1, by rw [nubS_len nd mm]; exact h4⟩⟩
    cases d with
    | lst ys => cases e1; exact .inr rfl
    | tup ys => cases e1; exact .inl rfl
    | _ => cases e1)
@[irreducible] def eSortSet (fe : WE) : WE := fun η M k => fe η M fun d η1 M1 => lstF d fun xs => optF (strsL xs) fun l => gd (Nat.ble l.length 1000 && Nat.blt (nubS l).length 64) (k (.lst ((ascS l).map D.str)) η1 M1)
theorem eSortSet_u {fe : WE} {η : Sls} {M : Mem} {k : KE} : eSortSet fe η M k ↔ fe η M fun d η1 M1 => lstF d fun xs => optF (strsL xs) fun l => gd (Nat.ble l.length 1000 && Nat.blt (nubS l).length 64) (k (.lst ((ascS l).map D.str)) η1 M1) := by unfold eSortSet; exact Iff.rfl
end
end FL
set_option Elab.async false
set_option linter.all false
set_option maxRecDepth 100000
set_option maxHeartbeats 1000000
namespace FL
open PySem PySem.Spec PyProof.Rows L2 DL
structure Hold (P : Program) (w : World) (K : PySem.W.Frag) (mg : Str → Option Value) (base : Heap) (k n : Nat) (a : Addr) (f : FF) : Prop where
  fn : ∃ fd ps, FnG P w K mg base k a fd ps (prom n f) ∧ Binds K fd ps []
  kp : PySem.W.keepIn K (.ref a) = true
theorem Hold.of {P : Program} {w : World} {K : PySem.W.Frag} {mg : Str → Option Value} {base : Heap} {k j n : Nat} {x : Str} {ps : List Str} {f : FF} {a : Addr} (h : Df P w K mg base j x ps (prom n f)) (hk : j ≤ k) (e : mg x = some (.ref a)) : Hold P w K mg base k n a f := by
  obtain ⟨a', fd, G, g, kp, b, _⟩ := h.ex
  rw [e] at g
  cases g
  exact ⟨⟨fd, ps, ⟨G.len, fun A ou s H as us vs Q room => G.run A ou s H as us vs Q (room.mono hk)⟩, b⟩, kp⟩
structure Tab (P : Program) (w : World) (K : PySem.W.Frag) (mg : Str → Option Value) (base : Heap) (k n : Nat) (x : Str) (d : Addr) (look : Str → Option FF) : Prop where
  at_ : mg x = some (.ref d)
  kd : ∃ es m, KDict K w d es m
  tab : ∀ z, (look z = none ∧ PySem.W.nsIn K d z = some none) ∨ ∃ f a, look z = some f ∧ PySem.W.nsIn K d z = some (some (.ref a)) ∧ Hold P w K mg base k n a f
section
variable {X : Cx} {P : Program} {w : World} {K : PySem.W.Frag} {mg : Str → Option Value} {base : Heap} {k n : Nat} {x : Str} {d : Addr} {look : Str → Option FF} {pos p : Pos}
theorem pe_tabG (T : Tab P w K mg base k n x d look) (hg : Gl X x) (hm : X.mg = mg := by rfl) (hd : (x == ("__debug__" : Str)) = false := by decide) : PE X (.Name x pos) (tC (.ref d)) := by
  subst hm
  exact pe_glob hg T.at_ rfl hd
def rTab (K : PySem.W.Frag) (d : Addr) (neg : Bool) : R2 := fun x y H Q => ∃ (z : Str) (r : Option Value), x = .str z ∧ y = .ref d ∧ PySem.W.nsIn K d z = some r ∧ Q (.bl (if neg then !r.isSome else r.isSome)) H
theorem op_tabNin (T : Tab P w K mg base k n x d look) (hk : X.K = K := by rfl) (hw : X.w = w := by rfl) : OpR X (compareOp .NotIn) (rTab K d true) := by
  subst hk hw
  obtain ⟨es, m, D⟩ := T.kd
  exact op_notIn_kd D
theorem ix_tab (K : PySem.W.Frag) (w : World) (hk : X.K = K := by rfl) (hw : X.w = w := by rfl) : IxR X (rIxD K w) := by
  subst hk hw
  exact ix_kdict
def tCallV (S : Addr → PT0 → Prop) (K : PySem.W.Frag) (i : Nat) (t : TA) : TE := fun σ H Q => ∃ f p, σ[i]? = some (some (.ref f)) ∧ S f p ∧ t σ H fun vs H1 => spD K p vs H1 Q E0
def HoldS (P : Program) (w : World) (K : PySem.W.Frag) (mg : Str → Option Value) (base : Heap) (k : Nat) (a : Addr) (p : PT0) : Prop := ∃ n f, p = prom n f ∧ Hold P w K mg base k n a f
theorem pe_callV {i : Nat} {y : Str} {e : Expr} {es : List Expr} {t : TA} (hr : Room k X.A) (gd : X.A.guards = some []) (hN : X.N[i]? = some y) (hv : Vis X.env.scope y) (ha : PA X (e :: es) t) (hX : Is X P w K mg base := by exact ⟨rfl, rfl, rfl, rfl, rfl⟩)
    (hdb : (y == ("__debug__" : Str)) = false := by decide) (hcd : (y == ("__classdict__" : Str)) = false := by decide)
    (he : starEach (e :: es) X.env = (false, eval e X.env) :: starEach es X.env := by rfl) (hpl : (backTo pos (starEach es X.env)).any (·.1) = false := by rfl) : PE X (.Call (.Name y p) (e :: es) [] pos) (tCallV (HoldS P w K mg base k) K i t) := by
  obtain ⟨rfl, rfl, rfl, rfl, rfl⟩ := hX
  refine ⟨fun pins s σ H Q I h => ?_⟩
  obtain ⟨f, pr, hs, ⟨n, ff, rfl, hh⟩, ht⟩ := h
  obtain ⟨fd, ps, G, b⟩ := hh.fn
  refine wpAny_Call_Name_kw (thn ((pe_var (pos := p) hN hv hdb hcd).run pins s σ H (fun v H1 => v = .ref f ∧ H1 = H) I ⟨.ref f, hs, rfl, rfl⟩) fun u s1 ⟨v, H1, I1, r1, q1⟩ => ?_)
  obtain ⟨rfl, rfl⟩ := q1
  cases r1
  refine PySem.W.callWith_K (h₀ := X.base) I1.ok.mod.kin hh.kp (wpAny_mono (ha.run pos pins s1 σ H1 _ I1 ht) (fun us s2 hs2 => ?_) fun _ _ z => z) he hpl
  obtain ⟨vs, H2, I2, r, q⟩ := hs2
  exact ⟨I2.kIn, run_g G hr gd b I2 r q⟩
end
section
variable {P : Program} {w : World} {K : PySem.W.Frag} {mg : Str → Option Value} {base : Heap} {k n : Nat} {x : Str} {d : Addr} {look : Str → Option FF} {te : TE} {fe : WE} {tr : TA} {fr : WA}
def eTabIn (look : Str → Option FF) (neg : Bool) (fe : WE) : WE := fun η M k => fe η M fun v η1 M1 => strF v fun z => k (.bl (if neg then !(look z).isSome else (look z).isSome)) η1 M1
theorem den_tabIn {neg : Bool} (T : Tab P w K mg base k n x d look) (a : DenE K te fe) : DenE K (tOp (rTab K d neg) te (tC (.ref d))) (eTabIn look neg fe) := fun η A M0 O M δ kk re rm h =>
  de_op ((a η A M0 O M δ _ re rm h).imp fun v M1 ⟨η1, M01, re1, rm1, h1⟩ => de_raw (by
    obtain ⟨z, rfl, h2⟩ := strF_of h1
    intro F H u y m r1 r2 QV q
    cases r1; cases r2
    rcases T.tab z with ⟨e1, e2⟩ | ⟨f, b, e1, e2, _⟩
    · refine ⟨z, none, rfl, rfl, e2, q _ M1 _ H ⟨η1, M01, re1, rm1, ?_⟩ (Go.refl m) (.bl _)⟩
      rw [e1] at h2; exact h2
    · refine ⟨z, some (.ref b), rfl, rfl, e2, q _ M1 _ H ⟨η1, M01, re1, rm1, ?_⟩ (Go.refl m) (.bl _)⟩
      rw [e1] at h2; exact h2))
def sTabRet (look : Str → Option FF) (n i : Nat) (fe : WE) (fr : WA) : WS := fun η M k => fe η M fun v η1 M1 => strF v fun z => optF (look z) fun f => gd (notOwn η1 i && Nat.blt i η1.length) (fr (η1.set i .no) M1 fun ds η2 M2 => gd (Nat.beq ds.length n) (f ds M2 fun y M3 => k.rt y M3))
theorem de_callV {S : Addr → PT0 → Prop} {i : Nat} {δ : En} {M : Mem} {Q : D → Mem → Prop} {f : Addr} {p : PT0} (h : δ[i]? = some (some (.raw (.ref f)))) (s : S f p) (ha : DA K tr δ M fun ds M1 => p ds M1 Q) : DE K (tCallV S K i tr) δ M Q := fun F σ H en m QV k => by
  obtain ⟨v, hv, rv⟩ := en.2 i _ h
  cases rv
  exact ⟨f, p, hv, s, ha F σ H en m _ fun ds M1 vs H1 q g r => ⟨F, M1, ds, Q, r, g.ok, q, fun d M2 v H2 q2 g2 r2 => k d M2 v H2 q2 (g.trans g2) r2⟩⟩
theorem RelE.hide {η : Sls} {A : Ow} {δ : En} (r : RelE η A δ) (i : Nat) (x : D) : RelE (η.set i .no) A (δ.set i (some x)) := by
  have e : ∀ {j : Nat} {s : SL}, (η.set i .no)[j]? = some s → s = .no ∨ (i ≠ j ∧ η[j]? = some s) := fun h => set_no h
  refine ⟨by rw [List.length_set, List.length_set]; exact r.len, fun j y h => ?_, fun j l h => ?_, r.inj⟩
  · rcases e h with h | ⟨hj, h⟩
    · cases h
    · rw [List.getElem?_set_ne hj]; exact r.dat j y h
  · rcases e h with h | ⟨hj, h⟩
    · cases h
    · rw [List.getElem?_set_ne hj]; exact r.own j l h
theorem RelM.hide {η : Sls} {A : Ow} {M0 O M : Mem} (m : RelM η A M0 O M) {i : Nat} (no : notOwn η i = true) : RelM (η.set i .no) A M0 O M := by
  have e : ∀ {j : Nat} {l : List D}, (η.set i .no)[j]? = some (.own l) ↔ η[j]? = some (.own l) := fun {j l} => by
    constructor
    · intro h
      rcases set_no h with h | ⟨_, h⟩
      · cases h
      · exact h
    · intro h
      have hj : i ≠ j := fun z => by subst z; exact notOwn_no no h
      rw [List.getElem?_set_ne hj]; exact h
  exact ⟨fun j l p h => m.own j l p (e.mp h), m.out, fun a h1 h2 => m.rest a h1 fun ⟨j, l, z1, z2⟩ => h2 ⟨j, l, e.mpr z1, z2⟩⟩
theorem den_tabRet {i : Nat} (T : Tab P w K mg base k n x d look) (a : DenE K te fe) (b : DenA K tr fr) : DenS K (tSeq (tAsg (tOp (rIxD K w) (tC (.ref d)) te) (gName i)) (tRet (tCallV (HoldS P w K mg base k) K i tr))) (sTabRet look n i fe fr) := fun η A M0 O M δ kk re rm h => by
  refine ds_seq (ds_set (de_op (de_raw ((a η A M0 O M δ _ re rm h).imp fun v M1 ⟨η1, M01, re1, rm1, h1⟩ => ?_))))
  obtain ⟨z, rfl, h2⟩ := strF_of h1
  obtain ⟨f, e1, h3⟩ := optF_of h2
  obtain ⟨no, h4⟩ := gd_of h3
  rw [Bool.and_eq_true] at no
  have hi : i < δ.length := by rw [re1.len]; exact Nat.blt_eq.mp no.2
  have no := no.1
  rcases T.tab z with ⟨e2, _⟩ | ⟨f2, ad, e2, e3, hh⟩
  · rw [e1] at e2; cases e2
  · rw [e1] at e2; cases e2
    obtain ⟨es, mm, KD⟩ := T.kd
    intro F H u y m r1 r2 QV q
    cases r1; cases r2
    refine ⟨d, z, .ref ad, rfl, rfl, ⟨es, mm, .ref ad, KD.at_, KD.lit, e3, rfl⟩, q (.raw (.ref ad)) M1 _ H ?_ (Go.refl m) (.raw _)⟩
    have hd : (δ.set i (some (D.raw (V.ref ad))))[i]? = some (some (D.raw (V.ref ad))) := List.getElem?_set_self hi
    refine ds_ret (de_callV hd ⟨n, f, rfl, hh⟩ (DA.imp (b _ A M01 O M1 _ _ (re1.hide i _) (rm1.hide no) h4) fun ds M2 ⟨η2, M02, re2, rm2, h5⟩ => ?_))
    obtain ⟨hl, h6⟩ := gd_of h5
    exact ⟨Nat.eq_of_beq_eq_true hl, M02, besides M02 M2, _, jn_besides rm2.sub, h6, fun y M0' M' hq hj => ⟨η2, A, M0', _, re2, rm2.jn hj, hq⟩⟩
end
end FL
set_option Elab.async false
set_option linter.all false
set_option maxRecDepth 100000
set_option maxHeartbeats 1000000
namespace FL
open PySem PySem.Spec PyProof.Rows L2 DL
section
variable {K : PySem.W.Frag} {ta tb te : TE} {fa fb fe : WE} {tr : TA} {fr : WA}
inductive DenL (K : PySem.W.Frag) : List TE → List WE → Prop
  | nil : DenL K [] []
  | cons {te : TE} {fe : WE} {ts : List TE} {fs : List WE} : DenE K te fe → DenL K ts fs → DenL K (te :: ts) (fe :: fs)
theorem DJ.imp {ts : List TE} {acc : Str} {δ : En} {M : Mem} {Q Q' : Str → Mem → Prop} (h : DJ K ts acc δ M Q) (k : ∀ y M', Q y M' → Q' y M') : DJ K ts acc δ M Q' := fun F σ H en m QV q => h F σ H en m QV fun y M1 H1 z => q y M1 H1 (k y M1 z)
end
end FL
set_option Elab.async false
set_option linter.all false
set_option maxRecDepth 100000
set_option maxHeartbeats 1000000
namespace DL
open PySem PySem.Spec PyProof.Rows L2
theorem fadd_no' {F : Fm} {p b : Addr} (h : fadd F p b = true) (n : b ≠ p) : F b = true := (fadd_of h).resolve_right n
section
variable {K : PySem.W.Frag} {δ : En} {M : Mem} {Q : D → Mem → Prop} {te : TE} {tt : TT} {g : TG} {js : List Nat}
end
end DL
namespace FL
open PySem PySem.Spec PyProof.Rows L2 DL
section
variable {K : PySem.W.Frag} {ta tb te : TE} {fa fb fe : WE} {tr : TA} {fr : WA} {tt : TT} {ft : WB} {g : TG} {fg : WG}
theorem Sub.none {M0 M : Mem} (s : Sub M0 M) {p : Addr} (h : M p = none) : M0 p = none := by
  cases e : M0 p with
  | none => rfl
  | some o => have := s p o e; rw [h] at this; cases this
theorem RelM.mupN {η : Sls} {A : Ow} {M0 O M : Mem} (m : RelM η A M0 O M) {p : Addr} {o : MO} (h : M p = none) : RelM η A (mup M0 p o) O (mup M p o) := by
  have nO : O p = none := by
    cases e : O p with
    | none => rfl
    | some u =>
      have := (m.out p u e).1
      rw [h] at this; cases this
  constructor
  · intro i l q h1 h2
    have z := m.own i l q h1 h2
    have hq : q ≠ p := fun e => by rw [e, h] at z; cases z.1
    rw [mup_ne hq, mup_ne hq]; exact z
  · intro a u h1
    have ha : a ≠ p := fun e => by rw [e, nO] at h1; cases h1
    rw [mup_ne ha, mup_ne ha]; exact m.out a u h1
  · intro a h1 h2
    by_cases ha : a = p
    · subst ha; rw [mup_same, mup_same]
    · rw [mup_ne ha, mup_ne ha]; exact m.rest a h1 h2
theorem mdel_mup {M : Mem} {p : Addr} {o : MO} (h : M p = none) : mdel (mup M p o) p = M := by
  funext a
  by_cases e : a = p
  · subst e; rw [mdel_same, h]
  · rw [mdel_ne e, mup_ne e]
def lstM (M : Mem) (d : D) (k : Addr → List D → Prop) : Prop := match d with
  | .raw (.ref p) => match M p with
    | some (.lst l) => k p l
    | _ => False
  | _ => False
def eLenW (i : Nat) : WE := fun η M k => ownF η i fun l => k (.int l.length) η M
theorem den_lenW {i : Nat} : DenE K (tCB (fun xs H Q => ∃ x n, xs = [x] ∧ LenV K x H n ∧ Q (.int n) H) (tCons (tVar i) tNil)) (eLenW i) := fun η A M0 O M δ k re rm h => by
  obtain ⟨l, e, h1⟩ := ownF_of h
  obtain ⟨p, hp, hd⟩ := re.own i l e
  exact de_CB (da_cons (de_var hd (da_nil (dc_lenM ⟨(rm.own i l p e hp).1, η, M0, re, rm, h1⟩))))
def natF (d : D) (k : Nat → Prop) : Prop := match d with | .int (.ofNat j) => k j | _ => False
theorem natF_of {d : D} {k : Nat → Prop} (h : natF d k) : ∃ j : Nat, d = .int (j : Int) ∧ k j := by
  unfold natF at h
  split at h
  · exact ⟨_, rfl, h⟩
  · exact h.elim
end
end FL
set_option Elab.async false
set_option linter.all false
set_option maxRecDepth 100000
set_option maxHeartbeats 1000000
namespace DL
open PySem PySem.Spec PyProof.Rows L2
def keyD : D → Option Key
  | .int i => some (.inl i)
  | .str x => some (.inr x)
  | _ => none
def valKD (kvs : List (Key × D)) (k : Key) : Option D := (kvs.find? fun kv => decide (kv.1 = k)).map (·.2)
def putKD (kvs : List (Key × D)) (k : Key) (d : D) : List (Key × D) :=
  if (kvs.any fun kv => decide (kv.1 = k)) = true then kvs.map (fun kv => if kv.1 = k then (kv.1, d) else kv) else kvs ++ [(k, d)]
def distinctK (kvs : List (Key × D)) : Bool := decide (kvs.map (·.1)).Nodup
section
variable {K : PySem.W.Frag} {G : Hp}
theorem RepK.keys : ∀ {vs : List (Key × V)} {ds : List (Key × D)}, RepK K G vs ds → vs.map (·.1) = ds.map (·.1)
  | _, _, .nil => rfl
  | _, _, .cons _ b => congrArg (_ :: ·) (RepK.keys b)
theorem RepK.len {vs : List (Key × V)} {ds : List (Key × D)} (r : RepK K G vs ds) : vs.length = ds.length := by
  have := congrArg List.length r.keys
  rwa [List.length_map, List.length_map] at this
theorem RepK.val {k : Key} : ∀ {vs : List (Key × V)} {ds : List (Key × D)}, RepK K G vs ds → (∀ d, valKD ds k = some d → ∃ v, valV vs k = some v ∧ Rep K G v d) ∧ (valKD ds k).isSome = (valV vs k).isSome
  | _, _, .nil => ⟨fun d h => (by cases h), rfl⟩
  | _, _, .cons (k := k') (v := v) (vs := vs) (d := d) (ds := ds) a b => by
    by_cases e : k' = k
    · have e1 : valKD ((k', d) :: ds) k = some d := by unfold valKD; simp [List.find?_cons, e]
      have e2 : valV ((k', v) :: vs) k = some v := valV_pos e
      rw [e1, e2]
      exact ⟨fun x h => by cases h; exact ⟨v, rfl, a⟩, rfl⟩
    · have e1 : valKD ((k', d) :: ds) k = valKD ds k := by unfold valKD; simp [List.find?_cons, e]
      have e2 : valV ((k', v) :: vs) k = valV vs k := valV_neg e
      rw [e1, e2]
      exact RepK.val b
theorem RepK.any {k : Key} {vs : List (Key × V)} {ds : List (Key × D)} (r : RepK K G vs ds) : (vs.any fun kv => decide (kv.1 = k)) = (ds.any fun kv => decide (kv.1 = k)) := by
  have h1 : (vs.any fun kv => decide (kv.1 = k)) = ((vs.map (·.1)).any fun x => decide (x = k)) := by rw [List.any_map]; rfl
  have h2 : (ds.any fun kv => decide (kv.1 = k)) = ((ds.map (·.1)).any fun x => decide (x = k)) := by rw [List.any_map]; rfl
  rw [h1, h2, r.keys]
theorem RepK.repl {k : Key} {v : V} {d : D} (h : Rep K G v d) : ∀ {vs : List (Key × V)} {ds : List (Key × D)}, RepK K G vs ds → RepK K G (vs.map fun kv => if kv.1 = k then (kv.1, v) else kv) (ds.map fun kv => if kv.1 = k then (kv.1, d) else kv)
  | _, _, .nil => .nil
  | _, _, .cons (k := k') a b => by
    rw [List.map_cons, List.map_cons]
    by_cases e : k' = k
    · rw [if_pos e, if_pos e]; exact .cons h (RepK.repl h b)
    · rw [if_neg e, if_neg e]; exact .cons a (RepK.repl h b)
theorem RepK.snoc {k : Key} {v : V} {d : D} (h : Rep K G v d) : ∀ {vs : List (Key × V)} {ds : List (Key × D)}, RepK K G vs ds → RepK K G (vs ++ [(k, v)]) (ds ++ [(k, d)])
  | _, _, .nil => .cons h .nil
  | _, _, .cons a b => .cons a (RepK.snoc h b)
theorem RepK.put {k : Key} {v : V} {d : D} (h : Rep K G v d) {vs : List (Key × V)} {ds : List (Key × D)} (r : RepK K G vs ds) : RepK K G (putK vs k v) (putKD ds k d) := by
  unfold putK putKD
  rw [r.any]
  split
  · exact r.repl h
  · exact r.snoc h
end
theorem merge_distinct : ∀ (more acc : List (Key × V)), ((acc ++ more).map (·.1)).Nodup → mergeK acc more = acc ++ more
  | [], acc, _ => by rw [List.append_nil]; rfl
  | (k, v) :: r, acc, h => by
    have hn : valV acc k = none := by
      cases e : valV acc k with
      | none => rfl
      | some x =>
        exfalso
        unfold valV at e
        cases e2 : acc.find? fun kv => decide (kv.1 = k) with
        | none => rw [e2] at e; cases e
        | some q =>
          have h1 := List.find?_some e2
          have h2 := List.mem_of_find?_eq_some e2
          have h1 : q.1 = k := of_decide_eq_true h1
          rw [List.map_append, List.nodup_append] at h
          exact h.2.2 q.1 (List.mem_map_of_mem h2) k (by rw [List.map_cons]; exact List.mem_cons_self) h1
    show mergeK (putK acc k v) r = _
    rw [putK_new v hn, merge_distinct r _ (by rw [List.append_assoc]; exact h), List.append_assoc]
    rfl
def DPr (K : PySem.W.Frag) (trs : List (TE × TE)) (δ : En) (M : Mem) (Q : List (Key × D) → Mem → Prop) : Prop :=
  ∀ (F : Fm) (σ : Sg) (H : Hp), EnvR K (vis H M F) σ δ → MOk K F M H → ∀ QV : List (V × V) → Hp → Prop, (∀ ds M' vs H', Q ds M' → Go K F M H M' H' → RepK K (vis H' M' F) vs ds → QV (vs.map fun kv => (kV kv.1, kv.2)) H') → tPairs trs σ H QV
section
variable {K : PySem.W.Frag} {δ : En} {M : Mem} {Q : D → Mem → Prop} {te tv td ty : TE} {trs : List (TE × TE)}
theorem dp_nil {Q : List (Key × D) → Mem → Prop} (q : Q [] M) : DPr K [] δ M Q := fun F σ H en m QV k => k [] M [] H q (Go.refl m) .nil
theorem dp_cons {k : Key} {Q : List (Key × D) → Mem → Prop} (h : DE K tv δ M fun d M1 => DPr K trs δ M1 fun kvs M2 => Q ((k, d) :: kvs) M2) : DPr K ((tC (kV k), tv) :: trs) δ M Q := fun F σ H en m QV kk =>
  h F σ H en m _ fun d M1 v H1 z g1 r1 => z F σ H1 (en.mono g1.ex) g1.ok _ fun ds M2 vs H2 z2 g2 r2 => kk _ M2 ((k, v) :: vs) H2 z2 (g1.trans g2) (.cons (r1.mono g2.ex) r2)
theorem tb_addD {F : Fm} {H : Hp} {p : Addr} {xs : List (Key × V)} (k : ∀ b ps, H b = some (.tbl ps) → F b = true ∨ ∃ m, M b = some m) : ∀ b ps, upd H p (.dK xs) b = some (.tbl ps) → fadd F p b = true ∨ ∃ m, M b = some m := fun b ps hb => by
  by_cases e : b = p
  · subst e; exact .inl fadd_self
  · rw [upd_ne e] at hb
    rcases k b ps hb with z | z
    · exact .inl (fadd_mk z)
    · exact .inr z
theorem de_disp {Q : D → Mem → Prop} (h : DPr K trs δ M fun kvs M1 => (kvs.map (·.1)).Nodup ∧ kvs.length ≤ 15 ∧ (Q (.dic kvs) M1 ∨ ∀ p, M1 p = none → Q (.raw (.ref p)) (mup M1 p (.dic kvs)))) : DE K (tDisp trs) δ M Q := fun F σ H en m QV k => fun p hp => by
  obtain ⟨fD, mD⟩ := m.new hp
  have vn : Same (vis H M F) (vis (upd H p (.dK [])) M (fadd F p)) := vis_new hp
  have ok0 : MOk K (fadd F p) M (upd H p (.dK [])) := by
    obtain ⟨g, _⟩ := go_new (o := .dK []) m hp
    refine ⟨fun b hb => ?_, fun a mo hm => ?_, tb_addD m.tb⟩
    · rcases fadd_of hb with hb | rfl
      · exact g.ok.fr b hb
      · exact ⟨by rw [upd_same]; simp, mD⟩
    · obtain ⟨ho, e, ro⟩ := m.mo a mo hm
      exact ⟨ho, by rw [upd_ne (ne_of_none e hp)]; exact e, ro.mono vn⟩
  refine h (fadd F p) σ _ (en.mono vn) ok0 _ fun ds M' vs H2 z g2 r2 => ?_
  obtain ⟨nd, h15, z⟩ := z
  have e2 : H2 p = some (.dK []) := by rw [g2.fr p fadd_self, upd_same]
  have mDe := (g2.ok.fr p fadd_self).2
  refine ⟨e2, vs, rfl, by rw [r2.len]; exact h15, ?_⟩
  have em : mergeK [] vs = vs := merge_distinct vs [] (by rw [List.nil_append, r2.keys]; exact nd)
  rw [em]
  have hv : Same (vis H2 M' (fadd F p)) (vis (upd H2 p (.dK vs)) M' (fadd F p)) := fun b u hb => by
    obtain ⟨h1, h2, h3⟩ := vis_of hb
    exact vis_mk (by rw [upd_ne (fadd_no h2).2]; exact h1) h2 h3
  have fr : ∀ b, F b = true → upd H2 p (.dK vs) b = H b := fun b hb => by
    have hne : b ≠ p := fun e => by subst e; rw [fD] at hb; cases hb
    rw [upd_ne hne, g2.fr b (fadd_mk hb), upd_ne hne]
  have ex := (vn.trans g2.ex).trans hv
  have mo : ∀ a mo, M' a = some mo → ∃ ho, upd H2 p (.dK vs) a = some ho ∧ RepO K (vis (upd H2 p (.dK vs)) M' (fadd F p)) ho mo := fun a mo hm => by
    obtain ⟨ho, e1, ro⟩ := g2.ok.mo a mo hm
    have hne : a ≠ p := fun z => by subst z; rw [mDe] at hm; cases hm
    exact ⟨ho, by rw [upd_ne hne]; exact e1, ro.mono hv⟩
  have tb : ∀ b ps, upd H2 p (.dK vs) b = some (.tbl ps) → F b = true ∨ ∃ m, M' b = some m := fun b ps hb => by
    have hne : b ≠ p := fun e => by subst e; rw [upd_same] at hb; cases hb
    rw [upd_ne hne] at hb
    rcases g2.ok.tb b ps hb with z | z
    · exact .inl (fadd_no' z hne)
    · exact .inr z
  have fr1 : ∀ b, F b = true → upd H2 p (.dK vs) b ≠ none := fun b hb => by
    have hne : b ≠ p := fun e => by subst e; rw [fD] at hb; cases hb
    rw [upd_ne hne]; exact (g2.ok.fr b (fadd_mk hb)).1
  rcases z with z | z
  · have sv : Same (vis (upd H2 p (.dK vs)) M' (fadd F p)) (vis (upd H2 p (.dK vs)) M' F) := fun b u hb => by
      obtain ⟨h1, h2, h3⟩ := vis_of hb
      exact vis_mk h1 (fadd_no h2).1 h3
    refine k (.dic ds) M' _ _ z ⟨⟨fun b hb => ⟨fr1 b hb, (g2.ok.fr b (fadd_mk hb)).2⟩, fun a m1 hm => ?_, tb⟩, ex.trans sv, fr⟩ (.dic (.inl (vis_mk upd_same fD mDe)) ((r2.mono hv).mono sv))
    obtain ⟨ho, e1, ro⟩ := mo a m1 hm
    exact ⟨ho, e1, ro.mono sv⟩
  · have ve : vis (upd H2 p (.dK vs)) (mup M' p (.dic ds)) F = vis (upd H2 p (.dK vs)) M' (fadd F p) := by
      funext b
      unfold vis
      by_cases hb : b = p
      · subst hb
        rw [mup_same, fadd_self]; simp
      · rw [mup_ne hb]
        have e : fadd F p b = F b := by unfold fadd; simp [hb]
        rw [e]
    refine k (.raw (.ref p)) _ _ _ (z p mDe) ⟨⟨fun b hb => ⟨fr1 b hb, ?_⟩, fun a m1 hm => ?_, fun b ps hb => ?_⟩, by rw [ve]; exact ex, fr⟩ (.raw _)
    · have hne : b ≠ p := fun e => by subst e; rw [fD] at hb; cases hb
      rw [mup_ne hne]; exact (g2.ok.fr b (fadd_mk hb)).2
    · rw [ve]
      by_cases e : a = p
      · subst e
        rw [mup_same] at hm; cases hm
        exact ⟨_, upd_same, .dic (r2.mono hv)⟩
      · rw [mup_ne e] at hm
        exact mo a m1 hm
    · rcases tb b ps hb with z | ⟨m2, z⟩
      · exact .inl z
      · by_cases e : b = p
        · subst e; exact .inr ⟨_, mup_same⟩
        · exact .inr ⟨m2, by rw [mup_ne e]; exact z⟩
def IsDic (M : Mem) (d : D) (kvs : List (Key × D)) : Prop := d = .dic kvs ∨ ∃ p, d = .raw (.ref p) ∧ M p = some (.dic kvs)
theorem isDic_rd {F : Fm} {H : Hp} {v : V} {d : D} {kvs : List (Key × D)} (m : MOk K F M H) (r : Rep K (vis H M F) v d) (h : IsDic M d kvs) : ∃ a xs, v = .ref a ∧ Rd H a (.dK xs) ∧ RepK K (vis H M F) xs kvs := by
  rcases h with rfl | ⟨p, rfl, hp⟩
  · cases r with
    | dic r1 r2 => exact ⟨_, _, rfl, rd_mono vis_le r1, r2⟩
  · cases r
    obtain ⟨h1, e1, o1⟩ := m.mo p _ hp
    cases o1 with
    | dic o1 => exact ⟨p, _, rfl, .inl e1, o1⟩
theorem rep_key {G : Hp} {v : V} {d : D} {k : Key} (r : Rep K G v d) (h : keyD d = some k) : v = kV k := by
  cases r <;> first | (cases h; rfl) | cases h
theorem de_dGet (h : DE K td δ M fun d M1 => DE K ty δ M1 fun y M2 => ∃ kvs k x, IsDic M2 d kvs ∧ keyD y = some k ∧ valKD kvs k = some x ∧ Q x M2) : DE K (tDGet td ty) δ M Q := fun F σ H en m QV kk => by
  refine h F σ H en m _ fun d M1 v H1 z g1 r1 => ?_
  refine z F σ H1 (en.mono g1.ex) g1.ok _ fun y M2 u H2 z2 g2 r2 => ?_
  obtain ⟨kvs, k, x, hd, hk, hx, q⟩ := z2
  obtain ⟨a, xs, rfl, hr, rk⟩ := isDic_rd g2.ok (r1.mono g2.ex) hd
  obtain ⟨v, hv, rv⟩ := (rk.val (k := k)).1 x hx
  exact ⟨a, v, rfl, .inl ⟨xs, k, hr, rep_key r2 hk, hv.symm⟩, kk x M2 v H2 q (g1.trans g2) rv⟩
end
end DL
set_option Elab.async false
set_option linter.all false
set_option maxRecDepth 100000
set_option maxHeartbeats 1000000
namespace DL
open PySem PySem.Spec PyProof.Rows L2
section
variable {X : Cx}
theorem units2 {k : Nat} {A : Around} (r : Room k A) : A.units + 1 < cLine := by have := r.un; omega
end
section
variable {K : PySem.W.Frag} {δ : En} {M : Mem} {Q : D → Mem → Prop} {te : TE}
theorem repL_rg {G : Hp} (n : Nat) : RepL K G (rgV 0 (n : Int)) ((List.range n).map fun i => D.int (i : Nat)) := by
  have : ∀ l : List Nat, RepL K G (l.map fun i => V.int (0 + (i : Nat))) (l.map fun i => D.int (i : Nat)) := fun l => by
    induction l with
    | nil => exact .nil
    | cons a r ih =>
      rw [List.map_cons, List.map_cons, Int.zero_add]
      exact .cons (.int _) ih
  unfold rgV
  rw [show ((n : Int) - 0).toNat = n by omega]
  exact this _
theorem de_listRg (h : DE K te δ M fun d M1 => ∃ n : Nat, d = .int (n : Int) ∧ n < 1000 ∧ Q (.lst ((List.range n).map fun i => D.int (i : Nat))) M1) : DE K (tLstRg (tRg1 te)) δ M Q := fun F σ H en m QV k => by
  refine h F σ H en m _ fun d M1 v H1 z g1 r1 => ?_
  obtain ⟨n, rfl, hn, q⟩ := z
  cases r1
  refine ⟨_, rfl, RgOk.of_le (by omega) (by omega) (by omega) (by omega), fun p hp => ?_⟩
  obtain ⟨g, e⟩ := go_new (o := .lst (rgV 0 (n : Int))) g1.ok hp
  exact k _ M1 _ _ q (g1.trans g) (.lst (.inl (.inl e)) (repL_rg n))
end
end DL
namespace FL
open PySem PySem.Spec PyProof.Rows L2 DL
section
variable {K : PySem.W.Frag} {ta tb tc te : TE} {fa fb fc fe : WE} {tr : TA} {fr : WA}
def cPow (i j : Int) : Bool := decide (0 ≤ j) && decide (j ≤ 1000) && decide (i.natAbs < 1000)
theorem cPow_of (i j : Int) (h : cPow i j = true) : CPow i j := by
  unfold cPow at h
  rw [Bool.and_eq_true, Bool.and_eq_true] at h
  have a := of_decide_eq_true h.1.1
  have b := of_decide_eq_true h.1.2
  have c := of_decide_eq_true h.2
  exact ⟨a, by omega, by omega⟩
def eListRg (fe : WE) : WE := fun η M k => fe η M fun d η1 M1 => natF d fun n => gd (Nat.blt n 1000) (k (.lst ((List.range n).map fun i => D.int (i : Nat))) η1 M1)
theorem den_listRg (a : DenE K te fe) : DenE K (tLstRg (tRg1 te)) (eListRg fe) := fun η A M0 O M δ k re rm h =>
  de_listRg ((a η A M0 O M δ _ re rm h).imp fun d M1 ⟨η1, M01, re1, rm1, h1⟩ => by
    obtain ⟨n, rfl, h2⟩ := natF_of h1
    obtain ⟨z, h3⟩ := gd_of h2
    exact ⟨n, rfl, Nat.blt_eq.mp z, η1, M01, re1, rm1, h3⟩)
abbrev WP := Sls → Mem → (List (Key × D) → Sls → Mem → Prop) → Prop
def pNil : WP := fun η M k => k [] η M
def pCons (x : Key) (fe : WE) (fp : WP) : WP := fun η M k => fe η M fun d η1 M1 => fp η1 M1 fun kvs η2 M2 => k ((x, d) :: kvs) η2 M2
def DenP (K : PySem.W.Frag) (trs : List (TE × TE)) (fp : WP) : Prop := ∀ (η : Sls) (A : Ow) (M0 O M : Mem) (δ : En) (k : List (Key × D) → Sls → Mem → Prop), RelE η A δ → RelM η A M0 O M → fp η M0 k →
  DPr K trs δ M fun kvs M' => ∃ η' M0', RelE η' A δ ∧ RelM η' A M0' O M' ∧ k kvs η' M0'
variable {trs : List (TE × TE)} {fp : WP}
theorem denP_nil : DenP K [] pNil := fun η A M0 O M δ k re rm h => dp_nil ⟨η, M0, re, rm, h⟩
theorem denP_cons {x : Key} (a : DenE K te fe) (b : DenP K trs fp) : DenP K ((tC (kV x), te) :: trs) (pCons x fe fp) := fun η A M0 O M δ k re rm h =>
  dp_cons ((a η A M0 O M δ _ re rm h).imp fun d M1 ⟨η1, M01, re1, rm1, h1⟩ => b η1 A M01 O M1 δ _ re1 rm1 h1)
theorem denP_str {x : Str} (a : DenE K te fe) (b : DenP K trs fp) : DenP K ((tC (.str x), te) :: trs) (pCons (.inr x) fe fp) := denP_cons (x := .inr x) a b
def eDicF (fp : WP) : WE := fun η M k => fp η M fun kvs η1 M1 => gd (distinctK kvs && Nat.ble kvs.length 15) (k (.dic kvs) η1 M1)
theorem den_dicF (a : DenP K trs fp) : DenE K (tDisp trs) (eDicF fp) := fun η A M0 O M δ k re rm h =>
  de_disp fun F σ H en m QV kk => a η A M0 O M δ _ re rm h F σ H en m QV fun kvs M1 vs H1 ⟨η1, M01, re1, rm1, h1⟩ => kk kvs M1 vs H1 (by
    obtain ⟨z, h2⟩ := gd_of h1
    rw [Bool.and_eq_true] at z
    exact ⟨of_decide_eq_true z.1, Nat.le_of_ble_eq_true z.2, .inl ⟨η1, M01, re1, rm1, h2⟩⟩)
theorem den_dnew : DenE K tDNewK (eC (.dic [])) := fun η A M0 O M δ k re rm h => de_dnew ⟨η, M0, re, rm, h⟩
def dicF (M : Mem) (d : D) (k : List (Key × D) → Prop) : Prop := match d with
  | .dic kvs => k kvs
  | .raw (.ref p) => (match M p with
    | some (.dic kvs) => k kvs
    | _ => False)
  | _ => False
theorem dicF_of {M : Mem} {d : D} {k : List (Key × D) → Prop} (h : dicF M d k) : ∃ kvs, IsDic M d kvs ∧ k kvs := by
  unfold dicF at h
  split at h
  · exact ⟨_, .inl rfl, h⟩
  · rename_i p
    split at h
    · rename_i kvs e; exact ⟨kvs, .inr ⟨p, rfl, e⟩, h⟩
    · exact h.elim
  · exact h.elim
theorem isDic_sub {M0 M : Mem} {d : D} {kvs : List (Key × D)} (h : IsDic M0 d kvs) (s : Sub M0 M) : IsDic M d kvs := by
  rcases h with h | ⟨p, h1, h2⟩
  · exact .inl h
  · exact .inr ⟨p, h1, s p _ h2⟩
def eGet (fd fk : WE) : WE := fun η M k => fd η M fun d η1 M1 => fk η1 M1 fun y η2 M2 => dicF M2 d fun kvs => optF (keyD y) fun x => optF (valKD kvs x) fun v => k v η2 M2
theorem den_get (a : DenE K ta fa) (b : DenE K tb fb) : DenE K (tDGet ta tb) (eGet fa fb) := fun η A M0 O M δ k re rm h =>
  de_dGet ((a η A M0 O M δ _ re rm h).imp fun d M1 ⟨η1, M01, re1, rm1, h1⟩ => (b η1 A M01 O M1 δ _ re1 rm1 h1).imp fun y M2 ⟨η2, M02, re2, rm2, h2⟩ => by
    obtain ⟨kvs, hd, h3⟩ := dicF_of h2
    obtain ⟨x, e1, h4⟩ := optF_of h3
    obtain ⟨v, e2, h5⟩ := optF_of h4
    exact ⟨kvs, x, v, isDic_sub hd rm2.sub, e1, e2, η2, M02, re2, rm2, h5⟩)
def listAF : Fn := fun _ ds k => one1 ds fun d => optF (seqOf d) fun xs => k (.lst xs)
theorem fc_listA : FCl K (rListO K) listAF := fun ds M0 M Q _ h => by
  obtain ⟨d, rfl, h1⟩ := one1_of h
  obtain ⟨xs, e, h2⟩ := optF_of h1
  cases d with
  | lst ys => cases e; exact dc_listL ⟨rfl, h2⟩
  | tup ys => cases e; exact dc_listT ⟨rfl, h2⟩
  | _ => cases e
end
end FL
set_option Elab.async false
set_option linter.all false
set_option maxRecDepth 100000
set_option maxHeartbeats 1000000
namespace FL
open PySem PySem.Spec PyProof.Rows L2 DL
end FL
namespace DL
open PySem PySem.Spec PyProof.Rows L2
section
variable {K : PySem.W.Frag} {M : Mem} {Q : D → Mem → Prop}
end
end DL
namespace FL
open PySem PySem.Spec PyProof.Rows L2 DL
section
variable {K : PySem.W.Frag}
end
end FL
set_option Elab.async false
set_option linter.all false
set_option maxRecDepth 100000
set_option maxHeartbeats 1000000
namespace FL
open PySem PySem.Spec PyProof.Rows L2 DL
theorem same_self : ∀ η : Sls, sameOwn η η = true
  | [] => rfl
  | a :: r => by rw [sameOwn, same_self r]; simp
theorem keep_self : ∀ η : Sls, keepF η η = η
  | [] => rfl
  | .own l :: r => by rw [keepF, keep_self r]
  | .no :: r => by rw [keepF, keep_self r]; exact fun _ h => nomatch h
  | .d x :: r => by rw [keepF, keep_self r]; exact fun _ h => nomatch h
theorem same_set : ∀ {η : Sls} {i : Nat} {x : D}, notOwn η i = true → sameOwn η (η.set i (.d x)) = true
  | [], _, _, _ => rfl
  | a :: r, 0, x, h => by
    rw [List.set_cons_zero, sameOwn, same_self]
    cases a with
    | own l => simp [notOwn] at h
    | no => rfl
    | d y => rfl
  | a :: r, i + 1, x, h => by
    have h' : notOwn r i = true := by
      unfold notOwn at h ⊢
      rw [List.getElem?_cons_succ] at h
      exact h
    rw [List.set_cons_succ, sameOwn, same_set h']
    simp
theorem keep_set : ∀ {η : Sls} {i : Nat} {x : D}, notOwn η i = true → keepF η (η.set i (.d x)) = η
  | [], _, _, _ => rfl
  | a :: r, 0, x, h => by
    rw [List.set_cons_zero]
    cases a with
    | own l => simp [notOwn] at h
    | no => rw [keepF, keep_self]; exact fun _ h => nomatch h
    | d y => rw [keepF, keep_self]; exact fun _ h => nomatch h
  | a :: r, i + 1, x, h => by
    have h' : notOwn r i = true := by
      unfold notOwn at h ⊢
      rw [List.getElem?_cons_succ] at h
      exact h
    rw [List.set_cons_succ]
    cases a with
    | own l => rw [keepF, keep_set h']
    | no => rw [keepF, keep_set h']; exact fun _ h => nomatch h
    | d y => rw [keepF, keep_set h']; exact fun _ h => nomatch h
theorem gd_i {b : Bool} {P : Prop} (h : b = true) (p : P) : gd b P := gd_mk h p
theorem lcL_pure {i : Nat} {ft : WB} {fe : WE} {k : List D → Sls → Mem → Prop} {η : Sls} {M : Mem} (no : notOwn η i = true) (c : D → Bool) (f : D → D) : ∀ (ds acc : List D), acc.length + ds.length ≤ 1000000 →
    (∀ x ∈ ds, ∀ k' : Bool → Sls → Mem → Prop, k' (c x) (η.set i (.d x)) M → ft (η.set i (.d x)) M k') →
    (∀ x ∈ ds, c x = true → ∀ k' : KE, k' (f x) (η.set i (.d x)) M → fe (η.set i (.d x)) M k') → k (acc ++ (ds.filter c).map f) η M → lcL (gNm i) ft fe k ds acc η M
  | [], acc, _, _, _, h => by rw [List.filter_nil, List.map_nil, List.append_nil] at h; exact h
  | x :: r, acc, hl, ht, he, h => by
    rw [List.length_cons] at hl
    refine gd_i no (ht x List.mem_cons_self _ ?_)
    cases e : c x with
    | true =>
      rw [br_true]
      refine he x List.mem_cons_self e _ (gd_i (szOk_mk (by omega)) (gd_i (same_set no) ?_))
      rw [keep_set no]
      refine lcL_pure no c f r _ (by rw [List.length_append]; show acc.length + 1 + r.length ≤ _; omega) (fun y hy => ht y (List.mem_cons_of_mem _ hy)) (fun y hy => he y (List.mem_cons_of_mem _ hy)) ?_
      rw [List.filter_cons_of_pos e, List.map_cons] at h
      rw [List.append_assoc]; exact h
    | false =>
      rw [br_false]
      refine gd_i (same_set no) ?_
      rw [keep_set no]
      refine lcL_pure no c f r _ (by omega) (fun y hy => ht y (List.mem_cons_of_mem _ hy)) (fun y hy => he y (List.mem_cons_of_mem _ hy)) ?_
      rw [List.filter_cons_of_neg (by rw [e]; exact Bool.false_ne_true)] at h
      exact h
theorem same_no : ∀ {η : Sls} {i : Nat}, notOwn η i = true → sameOwn η (η.set i .no) = true
  | [], _, _ => rfl
  | a :: r, 0, h => by
    rw [List.set_cons_zero, sameOwn, same_self]
    cases a with
    | own l => simp [notOwn] at h
    | no => rfl
    | d y => rfl
  | a :: r, i + 1, h => by
    have h' : notOwn r i = true := by
      unfold notOwn at h ⊢
      rw [List.getElem?_cons_succ] at h
      exact h
    rw [List.set_cons_succ, sameOwn, same_no h']
    simp
theorem keep_no : ∀ {η : Sls} {i : Nat}, notOwn η i = true → keepF η (η.set i .no) = η
  | [], _, _ => rfl
  | a :: r, 0, h => by
    rw [List.set_cons_zero]
    cases a with
    | own l => simp [notOwn] at h
    | no => rw [keepF, keep_self]; exact fun _ h => nomatch h
    | d y => rw [keepF, keep_self]; exact fun _ h => nomatch h
  | a :: r, i + 1, h => by
    have h' : notOwn r i = true := by
      unfold notOwn at h ⊢
      rw [List.getElem?_cons_succ] at h
      exact h
    rw [List.set_cons_succ]
    cases a with
    | own l => rw [keepF, keep_no h']
    | no => rw [keepF, keep_no h']; exact fun _ h => nomatch h
    | d y => rw [keepF, keep_no h']; exact fun _ h => nomatch h
theorem no_no {η : Sls} {i : Nat} : notOwn (η.set i .no) i = true := by
  unfold notOwn
  split
  · rename_i l e
    rcases set_no e with e | ⟨e, _⟩
    · cases e
    · exact absurd rfl e
  · rfl
theorem eLc_pure {i : Nat} {ft : WB} {fe : WE} {k : KE} {η : Sls} {M : Mem} {ds : List D} (no : notOwn η i = true) (hl : ds.length ≤ 1000000) (c : D → Bool) (f : D → D)
    (ht : ∀ x ∈ ds, ∀ k' : Bool → Sls → Mem → Prop, k' (c x) (η.set i (.d x)) M → ft (η.set i (.d x)) M k')
    (he : ∀ x ∈ ds, c x = true → ∀ k' : KE, k' (f x) (η.set i (.d x)) M → fe (η.set i (.d x)) M k') (h : k (.lst ((ds.filter c).map f)) η M) :
    gd ([i].all (notOwn η)) (lcL (gNm i) ft fe (fun acc η2 M2 => gd (sameOwn η η2) (k (.lst acc) (keepF η η2) M2)) ds [] (wipeF η [i]) M) := by
  refine gd_i (by rw [List.all_cons, no]; rfl) ?_
  show lcL (gNm i) ft fe _ ds [] (η.set i .no) M
  refine lcL_pure no_no c f ds [] (by show 0 + ds.length ≤ _; omega) (fun x hx => by rw [List.set_set]; exact ht x hx) (fun x hx => by rw [List.set_set]; exact he x hx) ?_
  rw [List.nil_append]
  refine gd_i (same_no no) ?_
  rw [keep_no no]; exact h
theorem eLc_map {i : Nat} {fe : WE} {k : KE} {η : Sls} {M : Mem} {ds : List D} (no : notOwn η i = true) (hl : ds.length ≤ 1000000) (f : D → D)
    (he : ∀ x ∈ ds, ∀ k' : KE, k' (f x) (η.set i (.d x)) M → fe (η.set i (.d x)) M k') (h : k (.lst (ds.map f)) η M) :
    gd ([i].all (notOwn η)) (lcL (gNm i) bYes fe (fun acc η2 M2 => gd (sameOwn η η2) (k (.lst acc) (keepF η η2) M2)) ds [] (wipeF η [i]) M) :=
  eLc_pure no hl (fun _ => true) f (fun _ _ _ h => h) (fun x hx _ => he x hx) (by rw [List.filter_eq_self.mpr fun _ _ => rfl]; exact h)
theorem forL_ind {fg : WG} {fb : WS} {k : KS} {P : List D → Sls → Mem → Prop} (step : ∀ x r η M, P (x :: r) η M → ∀ N : Sls → Mem → Prop, (∀ η' M', P r η' M' → N η' M') → fg x η M fun η1 M1 => fb η1 M1 { nx := N, rt := k.rt, bk := k.nx, ct := N })
    (fin : ∀ η M, P [] η M → k.nx η M) : ∀ (ds : List D) (η : Sls) (M : Mem), P ds η M → forL fg fb k ds η M
  | [], η, M, h => fin η M h
  | x :: r, η, M, h => step x r η M h _ fun η' M' h' => forL_ind step fin r η' M' h'
theorem eLc_pureX {fi : WA} {i : Nat} {ft : WB} {fe : WE} {k : KE} {η η1 : Sls} {M M1 : Mem} {ds : List D} (c : D → Bool) (f : D → D) (hi : ∀ K : List D → Sls → Mem → Prop, K ds η1 M1 → fi η M K) (no : notOwn η1 i = true) (hl : ds.length ≤ 1000000)
    (ht : ∀ x ∈ ds, ∀ k' : Bool → Sls → Mem → Prop, k' (c x) (η1.set i (.d x)) M1 → ft (η1.set i (.d x)) M1 k')
    (he : ∀ x ∈ ds, c x = true → ∀ k' : KE, k' (f x) (η1.set i (.d x)) M1 → fe (η1.set i (.d x)) M1 k') (h : k (.lst ((ds.filter c).map f)) η1 M1) : eLc fi (gNm i) ft fe [i] η M k :=
  eLc_u.mpr (hi _ (eLc_pure no hl c f ht he h))
theorem eLc_mapX {fi : WA} {i : Nat} {fe : WE} {k : KE} {η η1 : Sls} {M M1 : Mem} {ds : List D} (f : D → D) (hi : ∀ K : List D → Sls → Mem → Prop, K ds η1 M1 → fi η M K) (no : notOwn η1 i = true) (hl : ds.length ≤ 1000000)
    (he : ∀ x ∈ ds, ∀ k' : KE, k' (f x) (η1.set i (.d x)) M1 → fe (η1.set i (.d x)) M1 k') (h : k (.lst (ds.map f)) η1 M1) : eLc fi (gNm i) bYes fe [i] η M k :=
  eLc_u.mpr (hi _ (eLc_map no hl f he h))
theorem sFor_indX {fi : WA} {fg : WG} {fb : WS} {k : KS} {η η1 : Sls} {M M1 : Mem} {ds : List D} (P : List D → Sls → Mem → Prop) (hi : ∀ K : List D → Sls → Mem → Prop, K ds η1 M1 → fi η M K)
    (step : ∀ x r η M, P (x :: r) η M → ∀ N : Sls → Mem → Prop, (∀ η' M', P r η' M' → N η' M') → fg x η M fun η1 M1 => fb η1 M1 { nx := N, rt := k.rt, bk := k.nx, ct := N })
    (fin : ∀ η M, P [] η M → k.nx η M) (h : P ds η1 M1) : sFor fi fg fb η M k :=
  sFor_u.mpr (hi _ (forL_ind step fin ds η1 M1 h))
theorem noOwn_set {η : Sls} {i : Nat} {s : SL} (h : noOwn η = true) (hs : isOwnS s = false) : noOwn (η.set i s) = true := by
  refine List.all_eq_true.mpr fun t ht => ?_
  rcases List.mem_or_eq_of_mem_set ht with h1 | h1
  · exact List.all_eq_true.mp h t h1
  · rw [h1, hs]; rfl
theorem noOwn_not {η : Sls} {i : Nat} (h : noOwn η = true) : notOwn η i = true := by
  unfold notOwn
  split
  · rename_i l e; exact absurd e (noOwn_get h)
  · rfl
theorem still_i {M : Mem} {η : Sls} {P : Prop} (h : noOwn η = true) (p : P) : still M η M P := gd_i h ⟨rfl, p⟩
theorem in2_pure {j : Nat} {fe : WE} {η : Sls} {M : Mem} {k : List D → Prop} (no : noOwn η = true) (f : D → D) : ∀ (es acc : List D), acc.length + es.length ≤ 1000000 →
    (∀ y ∈ es, ∀ k' : KE, k' (f y) (η.set j (.d y)) M → fe (η.set j (.d y)) M k') → k (acc ++ es.map f) → in2L (gNm j) bYes fe η M k es acc
  | [], acc, _, _, h => by rw [List.map_nil, List.append_nil] at h; exact h
  | y :: r, acc, hl, he, h => by
    rw [List.length_cons] at hl
    have n1 : noOwn (η.set j (.d y)) = true := noOwn_set no rfl
    refine gd_i (noOwn_not no) (still_i n1 (still_i n1 ?_))
    rw [br_true]
    refine he y List.mem_cons_self _ (still_i n1 (gd_i (szOk_mk (by omega)) ?_))
    refine in2_pure no f r _ (by rw [List.length_append]; show acc.length + 1 + r.length ≤ _; omega) (fun z hz => he z (List.mem_cons_of_mem _ hz)) ?_
    rw [List.append_assoc]; exact h
theorem out2_pure {i j : Nat} {ft : WB} {fi1 : WA} {fe : WE} {η : Sls} {M : Mem} {k : List D → Prop} (no : noOwn η = true) (c : D → Bool) (g : D → List D) (f : D → D) : ∀ (ds acc : List D), acc.length + ((ds.filter c).flatMap g).length ≤ 1000000 →
    (∀ x ∈ ds, ∀ k' : Bool → Sls → Mem → Prop, k' (c x) (η.set i (.d x)) M → ft (η.set i (.d x)) M k') →
    (∀ x ∈ ds, c x = true → ∀ K : List D → Sls → Mem → Prop, K (g x) (η.set i (.d x)) M → fi1 (η.set i (.d x)) M K) →
    (∀ x ∈ ds, c x = true → ∀ y ∈ g x, ∀ k' : KE, k' (f y) (((η.set i (.d x)).set j .no).set j (.d y)) M → fe (((η.set i (.d x)).set j .no).set j (.d y)) M k') →
    k (acc ++ ((ds.filter c).flatMap g).map f) → out2L (gNm i) ft fi1 (gNm j) bYes fe [j] η M k ds acc
  | [], acc, _, _, _, _, h => by simpa [out2L] using h
  | x :: r, acc, hl, ht, hg, he, h => by
    have n1 : noOwn (η.set i (.d x)) = true := noOwn_set no rfl
    have rest := fun acc' hl' h' => out2_pure no c g f r acc' hl' (fun y hy => ht y (List.mem_cons_of_mem _ hy)) (fun y hy => hg y (List.mem_cons_of_mem _ hy)) (fun y hy => he y (List.mem_cons_of_mem _ hy)) h' (j := j) (k := k)
    refine gd_i (noOwn_not no) (still_i n1 (ht x List.mem_cons_self _ (still_i n1 ?_)))
    cases e : c x with
    | true =>
      rw [List.filter_cons_of_pos e, List.flatMap_cons, List.length_append] at hl
      rw [List.filter_cons_of_pos e, List.flatMap_cons, List.map_append, ← List.append_assoc] at h
      rw [br_true]
      refine hg x List.mem_cons_self e _ (still_i n1 ?_)
      refine in2_pure (η := (η.set i (.d x)).set j .no) (noOwn_set n1 rfl) f _ acc (by omega) (fun y hy => he x List.mem_cons_self e y hy) ?_
      refine rest _ (by rw [List.length_append, List.length_map]; omega) h
    | false =>
      have e' : ¬ c x = true := by rw [e]; exact Bool.false_ne_true
      rw [List.filter_cons_of_neg e'] at hl h
      rw [br_false]
      exact rest _ hl h
theorem eLc2_pureX {fi : WA} {i j : Nat} {ft : WB} {fi1 : WA} {fe : WE} {k : KE} {η η1 : Sls} {M M1 : Mem} {ds : List D} (c : D → Bool) (g : D → List D) (f : D → D) (hi : ∀ K : List D → Sls → Mem → Prop, K ds η1 M1 → fi η M K) (no : noOwn η1 = true) (hl : ((ds.filter c).flatMap g).length ≤ 1000000)
    (ht : ∀ x ∈ ds, ∀ k' : Bool → Sls → Mem → Prop, k' (c x) (((η1.set j .no).set i .no).set i (.d x)) M1 → ft (((η1.set j .no).set i .no).set i (.d x)) M1 k')
    (hg : ∀ x ∈ ds, c x = true → ∀ K : List D → Sls → Mem → Prop, K (g x) (((η1.set j .no).set i .no).set i (.d x)) M1 → fi1 (((η1.set j .no).set i .no).set i (.d x)) M1 K)
    (he : ∀ x ∈ ds, c x = true → ∀ y ∈ g x, ∀ k' : KE, k' (f y) ((((((η1.set j .no).set i .no).set i (.d x))).set j .no).set j (.d y)) M1 → fe ((((((η1.set j .no).set i .no).set i (.d x))).set j .no).set j (.d y)) M1 k')
    (h : k (.lst (((ds.filter c).flatMap g).map f)) η1 M1) : eLc2 fi (gNm i) ft fi1 (gNm j) bYes fe [i, j] [j] η M k :=
  eLc2_u.mpr (hi _ (gd_i no (out2_pure (noOwn_set (noOwn_set no rfl) rfl) c g f ds [] (by show 0 + _ ≤ _; omega) ht hg he (by rw [List.nil_append]; exact h))))
theorem isPl_strs : ∀ l : List Str, isPlL (l.map D.str) = true
  | [] => rfl
  | x :: r => by rw [List.map_cons, isPlL, isPl_strs r]; rfl
theorem any_strs {y : Str} : ∀ l : List Str, ((l.map D.str).any fun z => eqD z (.str y)) = decide (y ∈ l)
  | [] => rfl
  | x :: r => by
    rw [List.map_cons, List.any_cons, any_strs r, eqD, Bool.eq_iff_iff]
    simp only [Bool.or_eq_true, beq_iff_eq, decide_eq_true_eq, List.mem_cons]
    exact ⟨fun h => h.imp Eq.symm id, fun h => h.imp Eq.symm id⟩
theorem inF_strs {neg : Bool} {y : Str} {l : List Str} {M : Mem} {k : D → Prop} (h : k (.bl (if neg then !decide (y ∈ l) else decide (y ∈ l)))) : inF neg M (.str y) (.tup (l.map D.str)) k := by
  show gd (isPl (.str y) && isPlL (l.map D.str) && Nat.ble (dpD (.str y)) 60) (k (.bl (if neg then !((l.map D.str).any fun z => eqD z (.str y)) else (l.map D.str).any fun z => eqD z (.str y))))
  rw [isPl_strs, any_strs]
  exact h
end FL
set_option Elab.async false
set_option linter.all false
set_option maxRecDepth 100000
set_option maxHeartbeats 1000000
namespace FL
open PySem PySem.Spec PyProof.Rows L2 DL
structure Yv (fe : WE) (η : Sls) (M : Mem) (v : D) : Prop where go : ∀ K : KE, K v η M → fe η M K
structure YA (fr : WA) (η : Sls) (M : Mem) (ds : List D) : Prop where go : ∀ K : List D → Sls → Mem → Prop, K ds η M → fr η M K
structure YT (ft : WB) (η : Sls) (M : Mem) (b : Bool) : Prop where go : ∀ K : Bool → Sls → Mem → Prop, K b η M → ft η M K
structure YO (fo : WO) (η : Sls) (M : Mem) (o : Option Int) : Prop where go : ∀ K : Option Int → Sls → Mem → Prop, K o η M → fo η M K
structure Y2 (f : F2) (M : Mem) (x y z : D) : Prop where go : ∀ k : D → Prop, k z → f M x y k
structure Y1 (f : F1) (M : Mem) (x z : D) : Prop where go : ∀ k : D → Prop, k z → f M x k
structure Yn (f : Fn) (M : Mem) (ds : List D) (z : D) : Prop where go : ∀ k : D → Prop, k z → f M ds k
structure YF (f : FF) (M : Mem) (ds : List D) (z : D) : Prop where go : ∀ Q : D → Mem → Prop, Q z M → f ds M Q
section
variable {η : Sls} {M : Mem} {fa fb fc fe : WE} {ft fu : WB} {fr : WA} {x y z v : D} {ds : List D} {b c : Bool}
theorem y_var {i : Nat} (h : η[i]? = some (.d x)) : Yv (eVar i) η M x := ⟨fun K hk => by
  unfold eVar; simp only [h]; exact hk⟩
theorem y_c : Yv (eC x) η M x := ⟨fun K hk => hk⟩
theorem y_op {f : F2} (a : Yv fa η M x) (b : Yv fb η M y) (h : Y2 f M x y z) : Yv (eOp f fa fb) η M z := ⟨fun K hk => a.go _ (b.go _ (h.go _ hk))⟩
theorem y_un {f : F1} (a : Yv fa η M x) (h : Y1 f M x z) : Yv (eUn f fa) η M z := ⟨fun K hk => a.go _ (h.go _ hk)⟩
theorem y_cb {f : Fn} (a : YA fr η M ds) (h : Yn f M ds z) : Yv (eCB f fr) η M z := ⟨fun K hk => a.go _ (h.go _ hk)⟩
theorem ya_nil : YA aNil η M [] := ⟨fun K hk => hk⟩
theorem ya_cons (a : Yv fa η M x) (r : YA fr η M ds) : YA (aCons fa fr) η M (x :: ds) := ⟨fun K hk => a.go _ (r.go _ hk)⟩
theorem sz0 : szOk ([] : List D).length = true := szOk_mk (by simp)
theorem sz1 {a : D} : szOk [a].length = true := szOk_mk (by simp)
theorem sz2 {a b : D} : szOk [a, b].length = true := szOk_mk (by simp)
theorem sz3 {a b c : D} : szOk [a, b, c].length = true := szOk_mk (by simp)
theorem sz4 {a b c d : D} : szOk [a, b, c, d].length = true := szOk_mk (by simp)
theorem sz5 {a b c d e : D} : szOk [a, b, c, d, e].length = true := szOk_mk (by simp)
theorem sz6 {a b c d e f : D} : szOk [a, b, c, d, e, f].length = true := szOk_mk (by simp)
theorem sz7 {a b c d e f g : D} : szOk [a, b, c, d, e, f, g].length = true := szOk_mk (by simp)
theorem sz8 {a b c d e f g h : D} : szOk [a, b, c, d, e, f, g, h].length = true := szOk_mk (by simp)
theorem sz9 {a b c d e f g h i : D} : szOk [a, b, c, d, e, f, g, h, i].length = true := szOk_mk (by simp)
theorem sz10 {a b c d e f g h i j : D} : szOk [a, b, c, d, e, f, g, h, i, j].length = true := szOk_mk (by simp)
theorem sz11 {a b c d e f g h i j k : D} : szOk [a, b, c, d, e, f, g, h, i, j, k].length = true := szOk_mk (by simp)
theorem sz12 {a b c d e f g h i j k l : D} : szOk [a, b, c, d, e, f, g, h, i, j, k, l].length = true := szOk_mk (by simp)
theorem sz13 {a b c d e f g h i j k l m : D} : szOk [a, b, c, d, e, f, g, h, i, j, k, l, m].length = true := szOk_mk (by simp)
theorem sz14 {a b c d e f g h i j k l m n : D} : szOk [a, b, c, d, e, f, g, h, i, j, k, l, m, n].length = true := szOk_mk (by simp)
theorem sz15 {a b c d e f g h i j k l m n o : D} : szOk [a, b, c, d, e, f, g, h, i, j, k, l, m, n, o].length = true := szOk_mk (by simp)
theorem sz16 {a b c d e f g h i j k l m n o p : D} : szOk [a, b, c, d, e, f, g, h, i, j, k, l, m, n, o, p].length = true := szOk_mk (by simp)
theorem y_tup (a : YA fr η M ds) (h : szOk ds.length = true) : Yv (eTup fr) η M (.tup ds) := ⟨fun K hk => a.go _ (gd_mk h hk)⟩
theorem y_lst (a : YA fr η M ds) (h : szOk ds.length = true) : Yv (eLst fr) η M (.lst ds) := ⟨fun K hk => a.go _ (gd_mk h hk)⟩
theorem y_call {f : FF} {n : Nat} (a : YA fr η M ds) (hn : Nat.beq ds.length n = true) (h : YF f M ds z) : Yv (eCall f n fr) η M z := ⟨fun K hk => a.go _ (gd_mk hn (h.go _ hk))⟩
theorem c_call {f : FF} {n : Nat} {K : KE} (a : YA fr η M ds) (hn : Nat.beq ds.length n = true) (h : f ds M fun d M2 => K d η M2) : eCall f n fr η M K := a.go _ (gd_mk hn h)
theorem y_call1 {f : FF} (a : Yv fa η M x) (h : YF f M [x] z) : Yv (eCall f 1 (aCons fa aNil)) η M z := ⟨fun K hk => a.go _ (h.go _ hk)⟩
theorem y_call2 {f : FF} (a : Yv fa η M x) (b : Yv fb η M y) (h : YF f M [x, y] z) : Yv (eCall f 2 (aCons fa (aCons fb aNil))) η M z := ⟨fun K hk => a.go _ (b.go _ (h.go _ hk))⟩
theorem y_and (a : Yv fa η M (.bl b)) (d : b = true → Yv fb η M (.bl c)) : Yv (eAnd fa fb) η M (.bl (b && c)) := ⟨fun K hk => a.go _ (by
  cases b with
  | true => exact (d rfl).go _ hk
  | false => exact hk)⟩
theorem y_or (a : Yv fa η M (.bl b)) (d : b = false → Yv fb η M (.bl c)) : Yv (eOr fa fb) η M (.bl (b || c)) := ⟨fun K hk => a.go _ (by
  cases b with
  | false => exact (d rfl).go _ hk
  | true => exact hk)⟩
theorem y_not (a : Yv fa η M (.bl b)) : Yv (eNot fa) η M (.bl (!b)) := ⟨fun K hk => a.go _ hk⟩
theorem y_chain {f g : F2} (a : Yv fa η M x) (d : Yv fb η M y) (h : Y2 f M x y (.bl b)) (e : b = true → Yv fc η M z) (h2 : b = true → Y2 g M y z (.bl c)) : Yv (eChain f g fa fb fc) η M (.bl (b && c)) := ⟨fun K hk => a.go _ (d.go _ (h.go _ (by
  cases b with
  | true => exact (e rfl).go _ ((h2 rfl).go _ hk)
  | false => exact hk)))⟩
theorem y_fld {C : Addr} {f : Str} {fs : List (Str × D)} (a : Yv fa η M (.obj C fs)) (h : fs.lookup f = some v) : Yv (eFld C f fa) η M v := ⟨fun K hk => a.go _ (by
  unfold fldF
  simp only [h]
  exact gd_mk (by simp) hk)⟩
theorem dicF_d {kvs : List (Key × D)} : ∀ k : List (Key × D) → Prop, k kvs → dicF M (.dic kvs) k := fun k h => h
theorem dicF_r {a : Addr} {kvs : List (Key × D)} (h : M a = some (.dic kvs)) : ∀ k : List (Key × D) → Prop, k kvs → dicF M (.raw (.ref a)) k := fun k hk => by
  unfold dicF
  simp only [h]; exact hk
theorem y_sl {xs : List D} {w : List D → D} {fl fh : WO} {l u : Option Int} (a : Yv fa η M x) (h : rowW x = some (xs, w)) (hl : YO fl η M l) (hu : YO fh η M u) : Yv (eSl fa fl fh) η M (w (cutE xs l u)) := ⟨fun K hk => a.go _ (by
  rw [h]; exact hl.go _ (hu.go _ hk))⟩
theorem yo_no : YO oNo η M none := ⟨fun K hk => hk⟩
theorem yo_pt {i : Int} (a : Yv fa η M (.int i)) : YO (oPt fa) η M (some i) := ⟨fun K hk => a.go _ hk⟩
theorem yt_test (a : Yv fe η M (.bl b)) : YT (bTest fe) η M b := ⟨fun K hk => a.go _ hk⟩
theorem yt_not (a : YT ft η M b) : YT (bNot ft) η M (!b) := ⟨fun K hk => a.go _ hk⟩
theorem yt_and (a : YT ft η M b) (d : b = true → YT fu η M c) : YT (bAnd ft fu) η M (b && c) := ⟨fun K hk => a.go _ (by
  cases b with
  | true => exact (d rfl).go _ hk
  | false => exact hk)⟩
theorem yt_or (a : YT ft η M b) (d : b = false → YT fu η M c) : YT (bOr ft fu) η M (b || c) := ⟨fun K hk => a.go _ (by
  cases b with
  | false => exact (d rfl).go _ hk
  | true => exact hk)⟩
theorem yt_or_t (a : YT ft η M true) : YT (bOr ft fu) η M true := ⟨fun K hk => a.go _ hk⟩
theorem yt_or_f (a : YT ft η M false) (d : YT fu η M c) : YT (bOr ft fu) η M c := ⟨fun K hk => a.go _ (d.go _ hk)⟩
theorem yt_eq (a : YT ft η M b) (e : b = c) : YT ft η M c := e ▸ a
theorem yv_eq (a : Yv fe η M x) (e : x = y) : Yv fe η M y := e ▸ a
theorem yt_tru (a : Yv fe η M v) (h : ∀ k : Bool → Prop, k b → truF v k) : YT (bTru fe) η M b := ⟨fun K hk => a.go _ (h _ hk)⟩
theorem tru_b : ∀ k : Bool → Prop, k b → truF (.bl b) k := fun k h => h
theorem tru_n : ∀ k : Bool → Prop, k false → truF .non k := fun k h => h
theorem tru_i {i : Int} : ∀ k : Bool → Prop, k (i != 0) → truF (.int i) k := fun k h => h
theorem tru_l {l : List D} : ∀ k : Bool → Prop, k (!l.isEmpty) → truF (.lst l) k := fun k h => h
theorem tru_t {l : List D} : ∀ k : Bool → Prop, k (!l.isEmpty) → truF (.tup l) k := fun k h => h
theorem o_addI {i j : Int} : Y2 addF M (.int i) (.int j) (.int (i + j)) := ⟨fun k h => h⟩
theorem o_addS {i j : Str} (h : szOk (i.length + j.length) = true) : Y2 addF M (.str i) (.str j) (.str (i ++ j)) := ⟨fun k hk => gd_mk h hk⟩
theorem o_addL {i j : List D} (h : szOk (i.length + j.length) = true) : Y2 addF M (.lst i) (.lst j) (.lst (i ++ j)) := ⟨fun k hk => gd_mk h hk⟩
theorem o_addT {i j : List D} (h : szOk (i.length + j.length) = true) : Y2 addF M (.tup i) (.tup j) (.tup (i ++ j)) := ⟨fun k hk => gd_mk h hk⟩
theorem o_ii {f : Int → Int → Int} {i j : Int} : Y2 (iiF f) M (.int i) (.int j) (.int (f i j)) := ⟨fun k h => h⟩
theorem o_ib {f : Int → Int → Bool} {i j : Int} : Y2 (ibF f) M (.int i) (.int j) (.bl (f i j)) := ⟨fun k h => h⟩
theorem o_eq {neg : Bool} (h : (isPl x && isPl y && Nat.ble (min (dpD x) (dpD y)) 60) = true) : Y2 (eqF neg) M x y (.bl (if neg then !eqD x y else eqD x y)) := ⟨fun k hk => gd_mk h hk⟩
theorem o_in {neg : Bool} {xs : List D} (hs : seqOf y = some xs) (h : (isPl x && isPlL xs && Nat.ble (dpD x) 60) = true) : Y2 (inF neg) M x y (.bl (if neg then !xs.any fun z => eqD z x else xs.any fun z => eqD z x)) := ⟨fun k hk => by
  unfold inF
  simp only [hs]
  exact gd_mk h hk⟩
theorem o_eqF (h : (isPl x && isPl y && Nat.ble (min (dpD x) (dpD y)) 60) = true) : Y2 (eqF false) M x y (.bl (eqD x y)) := o_eq (neg := false) h
theorem o_inF {xs : List D} (hs : seqOf y = some xs) (h : (isPl x && isPlL xs && Nat.ble (dpD x) 60) = true) : Y2 (inF false) M x y (.bl (xs.any fun z => eqD z x)) := o_in (neg := false) hs h
theorem o_eqN {a b : Nat} : Y2 (eqF false) M (.int (a : Int)) (.int (b : Int)) (.bl (a == b)) := ⟨fun k hk => by
    refine gd_mk (b := isPl (.int (a : Int)) && isPl (.int (b : Int)) && Nat.ble (min (dpD (.int (a : Int))) (dpD (.int (b : Int)))) 60) rfl ?_
    have e : eqD (.int (a : Int)) (.int (b : Int)) = (a == b) := by
      rw [eqD, Bool.eq_iff_iff, beq_iff_eq, beq_iff_eq]; omega
    rw [e]; exact hk⟩
theorem o_neN {a b : Nat} : Y2 (eqF true) M (.int (a : Int)) (.int (b : Int)) (.bl (a != b)) := ⟨fun k hk => by
    refine gd_mk (b := isPl (.int (a : Int)) && isPl (.int (b : Int)) && Nat.ble (min (dpD (.int (a : Int))) (dpD (.int (b : Int)))) 60) rfl ?_
    have e : eqD (.int (a : Int)) (.int (b : Int)) = (a == b) := by
      rw [eqD, Bool.eq_iff_iff, beq_iff_eq, beq_iff_eq]; omega
    rw [e]; exact hk⟩
theorem o_leN {a b : Nat} : Y2 (ibF fun i j => decide (i ≤ j)) M (.int (a : Int)) (.int (b : Int)) (.bl (decide (a ≤ b))) := ⟨fun k hk => by
    show k (.bl (decide ((a : Int) ≤ (b : Int))))
    have e : decide ((a : Int) ≤ (b : Int)) = decide (a ≤ b) := by rw [decide_eq_decide]; omega
    rw [e]; exact hk⟩
theorem o_geN {a b : Nat} : Y2 (ibF fun i j => decide (j ≤ i)) M (.int (a : Int)) (.int (b : Int)) (.bl (decide (b ≤ a))) := ⟨fun k hk => by
    show k (.bl (decide ((b : Int) ≤ (a : Int))))
    have e : decide ((b : Int) ≤ (a : Int)) = decide (b ≤ a) := by rw [decide_eq_decide]; omega
    rw [e]; exact hk⟩
theorem o_gtN {a b : Nat} : Y2 (ibF fun i j => decide (j < i)) M (.int (a : Int)) (.int (b : Int)) (.bl (decide (b < a))) := ⟨fun k hk => by
    show k (.bl (decide ((b : Int) < (a : Int))))
    have e : decide ((b : Int) < (a : Int)) = decide (b < a) := by rw [decide_eq_decide]; omega
    rw [e]; exact hk⟩
theorem o_isN (h : x ≠ .non) (hx : (tyD x).isSome = true) : Y2 (isNF false) M x .non (.bl false) := ⟨fun k hk => by
    unfold isNF
    cases x with
    | non => exact absurd rfl h
    | obj _ _ => cases hx
    | raw _ => cases hx
    | _ => exact hk⟩
theorem optF_mk {α : Type} {o : Option α} {a : α} {k : α → Prop} (h : o = some a) (q : k a) : optF o k := by subst h; exact q
theorem o_ixT {xs : List D} {i : Nat} (h : xs[i]? = some z) : Y2 ixF M (.tup xs) (.int (i : Int)) z := ⟨fun k hk => optF_mk h hk⟩
theorem n_lenL {xs : List D} : Yn lenF M [.lst xs] (.int (xs.length : Nat)) := ⟨fun k h => h⟩
theorem n_lenT {xs : List D} : Yn lenF M [.tup xs] (.int (xs.length : Nat)) := ⟨fun k h => h⟩
theorem n_lenS {s : Str} (h : szOk s.length = true) : Yn lenF M [.str s] (.int (s.length : Nat)) := ⟨fun k hk => gd_mk h hk⟩
theorem n_tuple {xs : List D} (h : seqOf x = some xs) : Yn tupleF M [x] (.tup xs) := ⟨fun k hk => optF_mk h hk⟩
theorem n_list {xs : List D} (h : seqOf x = some xs) : Yn listAF M [x] (.lst xs) := ⟨fun k hk => optF_mk h hk⟩
theorem n_intI {i : Int} : Yn int1 M [.int i] (.int i) := ⟨fun k h => h⟩
theorem n_intB : Yn int1 M [.bl b] (.int (if b then 1 else 0)) := ⟨fun k h => h⟩
theorem n_isi {U : String} (h : kindF x U = some b) : Yn isiF M [x, .raw (.ty U)] (.bl b) := ⟨fun k hk => optF_mk h hk⟩
theorem n_all {bs : List Bool} {xs : List D} (h : blsOf xs = some bs) : Yn allF M [.lst xs] (.bl (bs.all id)) := ⟨fun k hk => optF_mk h hk⟩
section
variable {K : KE} {KA : List D → Sls → Mem → Prop} {KT : Bool → Sls → Mem → Prop}
theorem w_nil (h : KA [] η M) : aNil η M KA := h
theorem w_cons (h : fe η M fun d η1 M1 => fr η1 M1 fun ds η2 M2 => KA (d :: ds) η2 M2) : aCons fe fr η M KA := h
theorem w_opY {f : F2} (a : Yv fa η M x) (h : fb η M fun e η2 M2 => f M2 x e fun z => K z η2 M2) : eOp f fa fb η M K := a.go _ h
theorem w_call {f : FF} {n : Nat} (h : fr η M fun ds η1 M1 => gd (Nat.beq ds.length n) (f ds M1 fun d M2 => K d η1 M2)) : eCall f n fr η M K := h
theorem w_tru (h : fe η M fun d η1 M1 => truF d fun b => KT b η1 M1) : bTru fe η M KT := h
theorem w_not (h : ft η M fun b => KT (!b)) : bNot ft η M KT := h
end
variable {k : KS} {fs gs : WS} {fg : WG}
theorem t_seq (h : fs η M { k with nx := fun η1 M1 => gs η1 M1 k }) : sSeq fs gs η M k := h
theorem t_set {i : Nat} (a : Yv fe η M v) (q : k.nx (η.set i (.d v)) M) : sSet i fe η M k := a.go _ q
theorem t_ret (a : Yv fe η M v) (q : k.rt v M) : sRet fe η M k := a.go _ q
theorem t_drop (a : Yv fe η M v) (q : k.nx η M) : sDrop fe η M k := a.go _ q
theorem t_ift (h : YT ft η M true) (a : fs η M k) : sIf ft fs gs η M k := h.go _ a
theorem t_iff (h : YT ft η M false) (a : gs η M k) : sIf ft fs gs η M k := h.go _ a
theorem t_if (h : YT ft η M b) (a : b = true → fs η M k) (d : b = false → gs η M k) : sIf ft fs gs η M k := h.go _ (by
  cases b with
  | true => exact a rfl
  | false => exact d rfl)
theorem t_skip {fs gs : WS} (h : YT ft η M false) (q : gs η M k) : sSeq (sIf ft fs sNext) gs η M k := h.go _ q
theorem t_hit {fs' : WS} (h : YT ft η M true) (a : Yv fe η M v) (q : k.rt v M) : sSeq (sIf ft (sRet fe) fs') gs η M k := h.go _ (a.go _ q)
theorem t_sets {i : Nat} (a : Yv fe η M v) (q : gs (η.set i (.d v)) M k) : sSeq (sSet i fe) gs η M k := a.go _ q
theorem s_if (h : ft η M fun b η1 M1 => br b (fs η1 M1 k) (gs η1 M1 k)) : sIf ft fs gs η M k := h
theorem t_next (q : k.nx η M) : sNext η M k := q
theorem i_lst {xs : List D} (a : Yv fe η M (.lst xs)) : YA (iLst fe) η M xs := ⟨fun K hk => a.go _ hk⟩
theorem i_tup {xs : List D} (a : Yv fe η M (.tup xs)) : YA (iTupl fe) η M xs := ⟨fun K hk => a.go _ hk⟩
theorem int1F_int {j : Int} {k : Int → Prop} : int1F [.int j] k = k j := rfl
theorem rgOk_nat {n : Nat} (h : n < 1000000) : rgOk (n : Int) = true := by
  unfold rgOk; rw [Bool.and_eq_true]; exact ⟨decide_eq_true (by omega), decide_eq_true (by omega)⟩
theorem i_r1 {n : Nat} (he : Yv fe η M (.int (n : Int))) (hn : n < 1000000) : YA (iR1 (aCons fe aNil)) η M (rngD 0 n) := ⟨fun K q => by
  refine iR1_u.mpr ?_
  unfold aCons aNil
  refine he.go _ ?_
  dsimp only
  rw [int1F_int, rgOk_nat hn, Int.toNat_natCast, gd_true]
  exact q⟩
theorem y_lc {fi : WA} {i : Nat} (f : D → D) (hi : YA fi η M ds) (no : notOwn η i = true) (hl : ds.length ≤ 1000000) (he : ∀ x ∈ ds, Yv fe (η.set i (.d x)) M (f x)) : Yv (eLc fi (gNm i) bYes fe [i]) η M (.lst (ds.map f)) := ⟨fun K hk =>
  eLc_mapX f hi.go no hl (fun x hx => (he x hx).go) hk⟩
theorem y_lcf {fi : WA} {i : Nat} (c : D → Bool) (f : D → D) (hi : YA fi η M ds) (no : notOwn η i = true) (hl : ds.length ≤ 1000000) (ht : ∀ x ∈ ds, YT ft (η.set i (.d x)) M (c x)) (he : ∀ x ∈ ds, c x = true → Yv fe (η.set i (.d x)) M (f x)) : Yv (eLc fi (gNm i) ft fe [i]) η M (.lst ((ds.filter c).map f)) := ⟨fun K hk =>
  eLc_pureX c f hi.go no hl (fun x hx => (ht x hx).go) (fun x hx hc => (he x hx hc).go) hk⟩
theorem y_lc2 {fi fi1 : WA} {i j : Nat} (c : D → Bool) (g : D → List D) (f : D → D) (hi : YA fi η M ds) (no : noOwn η = true) (hl : ((ds.filter c).flatMap g).length ≤ 1000000)
    (ht : ∀ x ∈ ds, YT ft (((η.set j .no).set i .no).set i (.d x)) M (c x))
    (hg : ∀ x ∈ ds, c x = true → YA fi1 (((η.set j .no).set i .no).set i (.d x)) M (g x))
    (he : ∀ x ∈ ds, c x = true → ∀ y ∈ g x, Yv fe (((((η.set j .no).set i .no).set i (.d x)).set j .no).set j (.d y)) M (f y)) : Yv (eLc2 fi (gNm i) ft fi1 (gNm j) bYes fe [i, j] [j]) η M (.lst (((ds.filter c).flatMap g).map f)) := ⟨fun K hk =>
  eLc2_pureX c g f hi.go no hl (fun x hx => (ht x hx).go) (fun x hx hc => (hg x hx hc).go) (fun x hx hc y hy => (he x hx hc y hy).go) hk⟩
theorem calm_two : ∀ {η ζ : Sls}, noOwn η = true → noOwn ζ = true → η.length = ζ.length → sameOwn η ζ = true ∧ keepF η ζ = η
  | [], [], _, _, _ => ⟨rfl, rfl⟩
  | a :: r, b :: s, h1, h2, hl => by
    unfold noOwn at h1 h2
    rw [List.all_cons, Bool.and_eq_true] at h1 h2
    obtain ⟨i1, i2⟩ := calm_two (η := r) (ζ := s) h1.2 h2.2 (by simpa using hl)
    have e1 : isOwnS a = false := by simpa using h1.1
    have e2 : isOwnS b = false := by simpa using h2.1
    refine ⟨by rw [sameOwn, e1, e2, i1]; rfl, ?_⟩
    cases a with
    | own l => cases e1
    | no => rw [keepF, i2]; exact fun _ h => nomatch h
    | d x => rw [keepF, i2]; exact fun _ h => nomatch h
theorem lcL_two {i j : Nat} {k : List D → Sls → Mem → Prop} (no : noOwn η = true) (f : D → D) : ∀ (ds acc : List D), acc.length + ds.length ≤ 1000000 → (∀ x ∈ ds, ∃ a b, x = .tup [a, b] ∧ Yv fe ((η.set i (.d a)).set j (.d b)) M (f x)) → k (acc ++ ds.map f) η M → lcL (gTp 2 (gsCons (gNm i) (gsCons (gNm j) gsNil))) bYes fe k ds acc η M
  | [], acc, _, _, h => by rw [List.map_nil, List.append_nil] at h; exact h
  | x :: r, acc, hl, he, h => by
    rw [List.length_cons] at hl
    obtain ⟨a, b, e, hy⟩ := he x List.mem_cons_self
    subst e
    have n1 : noOwn (η.set i (.d a)) = true := noOwn_set no rfl
    have n2 : noOwn ((η.set i (.d a)).set j (.d b)) = true := noOwn_set n1 rfl
    obtain ⟨s1, s2⟩ := calm_two no n2 (by rw [List.length_set, List.length_set])
    refine gd_mk (b := Nat.beq 2 2) rfl (gd_mk (noOwn_not no) (gd_mk (noOwn_not n1) ?_))
    refine hy.go _ (gd_mk (szOk_mk (by omega)) (gd_mk s1 ?_))
    rw [s2]
    refine lcL_two no f r _ (by rw [List.length_append]; show acc.length + 1 + r.length ≤ _; omega) (fun y hy => he y (List.mem_cons_of_mem _ hy)) ?_
    rw [List.append_assoc]; exact h
theorem y_lcT {fi : WA} {i j : Nat} (f : D → D) (hi : YA fi η M ds) (no : noOwn η = true) (hl : ds.length ≤ 1000000) (he : ∀ x ∈ ds, ∃ a b, x = .tup [a, b] ∧ Yv fe ((((η.set j .no).set i .no).set i (.d a)).set j (.d b)) M (f x)) : Yv (eLc fi (gTp 2 (gsCons (gNm i) (gsCons (gNm j) gsNil))) bYes fe [i, j]) η M (.lst (ds.map f)) := ⟨fun K hk => by
  refine eLc_u.mpr (hi.go _ (gd_mk ?_ ?_))
  · rw [List.all_cons, List.all_cons, noOwn_not no, noOwn_not no]; rfl
  · have n1 : noOwn ((η.set j .no).set i .no) = true := noOwn_set (noOwn_set no rfl) rfl
    refine lcL_two (η := (η.set j .no).set i .no) n1 f ds [] (by show 0 + _ ≤ _; omega) he ?_
    obtain ⟨s1, s2⟩ := calm_two no n1 (by rw [List.length_set, List.length_set])
    refine gd_mk s1 ?_
    rw [s2, List.nil_append]; exact hk⟩
theorem i_zipL {xs ys : List D} (a : YA fr η M [.lst xs, .lst ys]) : YA (iZipF fr) η M (zipD xs ys) := ⟨fun K hk => a.go _ hk⟩
theorem i_zipT {xs ys : List D} (a : YA fr η M [.tup xs, .tup ys]) : YA (iZipF fr) η M (zipD xs ys) := ⟨fun K hk => a.go _ hk⟩
theorem not_set {i : Nat} {s : SL} (hs : isOwnS s = false) : notOwn (η.set i s) i = true := by
  unfold notOwn
  by_cases hl : i < η.length
  · rw [List.getElem?_set_self hl]
    cases s with
    | own l => cases hs
    | no => rfl
    | d x => rfl
  · rw [List.getElem?_eq_none (by rw [List.length_set]; omega)]
theorem set_get {i : Nat} {s : SL} (h : η[i]? = some s) : η.set i s = η := by
  obtain ⟨hl, e⟩ := List.getElem?_eq_some_iff.mp h
  rw [← e, List.set_getElem_self]
theorem forL_all {i : Nat} {fb : WS} {k : KS} {p : D → Bool} {v : D} : ∀ (ds : List D) (s : SL), isOwnS s = false → (∀ x ∈ ds, ∀ k' : KS, (p x = true → k'.nx (η.set i (.d x)) M) → (p x = false → k'.rt v M) → fb (η.set i (.d x)) M k') → (ds.all p = true → ∀ s, isOwnS s = false → k.nx (η.set i s) M) → (ds.all p = false → k.rt v M) → forL (gNm i) fb k ds (η.set i s) M
  | [], s, hs, _, q, _ => q rfl s hs
  | x :: r, s, hs, st, q, e => by
    refine gd_mk (not_set hs) ?_
    rw [List.set_set]
    refine st x List.mem_cons_self _ (fun hp => ?_) (fun hp => e (by rw [List.all_cons, hp]; rfl))
    exact forL_all r (.d x) rfl (fun y hy => st y (List.mem_cons_of_mem _ hy)) (fun h => q (by rw [List.all_cons, hp, h]; rfl)) (fun h => e (by rw [List.all_cons, hp, h]; rfl))
theorem t_forAll {fi : WA} {i : Nat} {fb : WS} {p : D → Bool} {s0 : SL} (hi : YA fi η M ds) (h0 : η[i]? = some s0) (hs : isOwnS s0 = false) (st : ∀ x ∈ ds, ∀ k' : KS, (p x = true → k'.nx (η.set i (.d x)) M) → (p x = false → k'.rt v M) → fb (η.set i (.d x)) M k') (q : ds.all p = true → ∀ s, isOwnS s = false → k.nx (η.set i s) M) (e : ds.all p = false → k.rt v M) : sFor fi (gNm i) fb η M k := by
  refine sFor_u.mpr (hi.go _ ?_)
  have := forL_all (η := η) ds s0 hs st q e
  rw [set_get h0] at this
  exact this
end
end FL
set_option Elab.async false
set_option linter.all false
set_option maxRecDepth 100000
set_option maxHeartbeats 1000000
namespace FL
open PySem PySem.Spec PyProof.Rows L2 DL
theorem dicW_ex {K : PySem.W.Frag} {P : Params} {a : Addr} {ks : List Str} (h : He.dicW K a = some (He.keysIn P ks)) : ∃ es n, K.lookup a = some ⟨.type "dict", none, .dict es n, #[]⟩ ∧ es.toList.map He.keyOf = He.keysIn P ks := by
  unfold He.dicW at h
  split at h
  · rename_i c es n sl e
    split at h
    · rename_i z
      rw [Bool.and_eq_true, Bool.and_eq_true] at z
      have e1 := of_decide_eq_true z.1
      have e2 := Array.isEmpty_iff.mp z.2.1
      subst e1 e2
      exact ⟨es, n, e, Option.some.inj h⟩
    · cases h
  · cases h
theorem keys_mem {P : Params} : ∀ {l : List DictEntry} {ks : List Str}, l.map He.keyOf = He.keysIn P ks → ∀ e ∈ l, ∃ x t, e.key = .str x t ∧ x ∈ ks
  | [], _, _, _, h => nomatch h
  | e :: r, [], h, _, _ => by cases h
  | e :: r, k :: ks, h, e', he => by
    rw [List.map_cons] at h
    have h1 : He.keyOf e :: r.map He.keyOf = some (k, PyData.keyHash P k) :: He.keysIn P ks := h
    injection h1 with h2 h3
    rcases List.mem_cons.mp he with rfl | he
    · unfold He.keyOf at h2
      split at h2
      · rename_i x t q
        obtain ⟨h5, h6⟩ := Prod.mk.inj (Option.some.inj h2)
        exact ⟨x, t, q, by rw [h5]; exact List.mem_cons_self⟩
      · cases h2
    · obtain ⟨x, t, q, hx⟩ := keys_mem h3 e' he
      exact ⟨x, t, q, List.mem_cons_of_mem _ hx⟩
theorem nsIn_none {K : PySem.W.Frag} {P : Params} {a : Addr} {ks : List Str} (h : He.dicW K a = some (He.keysIn P ks)) {z : Str} (hz : z ∉ ks) : PySem.W.nsIn K a z = some none := by
  obtain ⟨es, n, e, hk⟩ := dicW_ex h
  unfold PySem.W.nsIn
  rw [e]
  dsimp only
  have h1 : es.toList.find? (·.key.isStr z) = none := by
    rw [List.find?_eq_none]
    intro en hen hs
    obtain ⟨x, t, q, hx⟩ := keys_mem hk en hen
    rw [q] at hs
    have : x = z := by simpa [Value.isStr] using hs
    exact hz (this ▸ hx)
  have h2 : ¬ es.toList.any (·.refKey) = true := by
    intro hs
    obtain ⟨en, hen, hs⟩ := List.any_eq_true.mp hs
    obtain ⟨x, t, q, hx⟩ := keys_mem hk en hen
    unfold DictEntry.refKey at hs
    rw [q] at hs
    cases hs
  rw [h1]
  dsimp only
  rw [if_neg h2]
theorem tab_mk {P : Program} {w : World} {K : PySem.W.Frag} {mg : Str → Option Value} {base : Heap} {k n : Nat} {x : Str} {d : Addr} {look : Str → Option FF} {ks : List Str} (a : mg x = some (.ref d)) (dw : He.dicW K d = some (He.keysIn w.params ks)) (hl : ∀ z, z ∉ ks → look z = none)
    (hs : ∀ z ∈ ks, ∃ f a, look z = some f ∧ PySem.W.nsIn K d z = some (some (.ref a)) ∧ Hold P w K mg base k n a f) : Tab P w K mg base k n x d look :=
  ⟨a, He.dicW_ok dw, fun z => by
    by_cases h : z ∈ ks
    · exact .inr (hs z h)
    · exact .inl ⟨hl z h, nsIn_none dw h⟩⟩
end FL
set_option Elab.async false
set_option linter.all false
set_option maxRecDepth 100000
set_option maxHeartbeats 1000000
namespace DL
open PySem PySem.Spec PyProof.Rows L2 L2
section
variable {F : Fm} {H : Hp} {M : Mem} {p : Addr} {xs : List (Key × V)}
end
section
variable {K : PySem.W.Frag} {δ : En} {M : Mem} {Q : D → Mem → Prop} {te td ty : TE} {tt : TT} {g : TG} {js : List Nat}
end
section
variable {X : Cx} {P : Program} {w : World} {K : PySem.W.Frag} {mg : Str → Option Value} {base : Heap} {C : Addr} {k : Nat} {ps : List Str} {p : PT0} {a b : Expr} {ta tb : TE} {pos : Pos}
end
section
variable {P : Program} {w : World} {K : PySem.W.Frag} {mg : Str → Option Value} {base : Heap} {C : Addr}
variable {X : Cx} {k : Nat} {m : Str} {ps : List Str} {p : PT0} {o e : Expr} {es : List Expr} {ta : TE} {t : TA} {apos pos : Pos} {pl : Sem Bool}
end
section
variable {X : Cx} {P : Program} {w : World} {K : PySem.W.Frag} {mg : Str → Option Value} {base : Heap} {C : Addr} {k : Nat} {x : Str} {p : PT0} {e : Expr} {es : List Expr} {t : TA} {pos pp : Pos}
end
section
variable {K : PySem.W.Frag} {δ : En} {M : Mem} {Q : D → Mem → Prop} {te : TE} {t : TA}
end
end DL
namespace FL
open PySem PySem.Spec PyProof.Rows L2 DL
section
variable {K : PySem.W.Frag} {ta tb te tk : TE} {fa fb fe fk : WE} {tt : TT} {ft : WB} {tr : TA} {fr : WA} {g : TG} {fg : WG} {wi : TI} {fi : WA}
end
end FL
set_option Elab.async false
set_option linter.all false
set_option maxRecDepth 100000
set_option maxHeartbeats 1000000
namespace DL
open PySem PySem.Spec PyProof.Rows L2
end DL
namespace FL
open PySem PySem.Spec PyProof.Rows L2 DL
end FL
set_option Elab.async false
set_option linter.all false
set_option maxRecDepth 100000
set_option maxHeartbeats 1000000
namespace FL
open PySem PySem.Spec PyProof.Rows L2 DL
section
variable {kf : D → Str} {vf : D → D}
end
section
variable {η : Sls} {M : Mem} {fa fb fe fk : WE} {fi : WA} {fr : WA} {ft : WB} {x y z v : D} {ds : List D} {k : KS}
structure YI (f : FF) (C : Addr) (M : Mem) (ds : List D) (fs : List (Str × D)) : Prop where go : ∀ (x : Addr), M x = none → ∀ Q : D → Mem → Prop, Q .non (mup M x (.ins C fs)) → f (.raw (.ref x) :: ds) (mup M x (.ins C [])) Q
theorem notOwn_ne {η : Sls} {i j : Nat} {s : SL} (h : notOwn η j = true) (hij : i ≠ j) : notOwn (η.set i s) j = true := by
  unfold notOwn at h ⊢
  rw [List.getElem?_set_ne hij]; exact h
end
end FL
set_option Elab.async false
set_option linter.all false
set_option maxRecDepth 100000
set_option maxHeartbeats 1000000
namespace DLT
open PySem PySem.SeqAt GQ
open AutoSeq1 (wpAny_loadPart')
open MeetsSeq MeetsSeq2 MeetsSeq3 SeqRoads2
section
variable {prog : Program} {w : World} {A : Around} {R : Result → Shared → Prop}
end
section
variable {prog : Program} {w : World} {A : Around} {E : Value → Shared → Prop} {s : Shared}
end
end DLT
namespace DL
open PySem PySem.Spec PyProof.Rows L2
structure InjH (K : PySem.W.Frag) (H : Hp) : Prop where
  t : ∀ a xs ys, SqT K H a xs → SqT K H a ys → xs = ys
  l : ∀ a xs ys, SqL K H a xs → SqL K H a ys → xs = ys
  n : ∀ a xs ys, SqL K H a xs → SqT K H a ys → False
section
variable {X : Cx} {P : Program} {w : World} {K : PySem.W.Frag} {mg : Str → Option Value} {base : Heap} {C : Addr} {k : Nat} {ps : List Str} {p : PT0}
end
section
variable {K : PySem.W.Frag} {p : PT0} {C : Addr} {F : Fm}
theorem InjH.vis {H : Hp} {M : Mem} (i : InjH K H) : InjH K (vis H M F) := ⟨fun a xs ys h h' => i.t a xs ys (sqt_mono vis_le h) (sqt_mono vis_le h'), fun a xs ys h h' => i.l a xs ys (vis_le.seq h) (vis_le.seq h'), fun a xs ys h h' => i.n a xs ys (vis_le.seq h) (sqt_mono vis_le h')⟩
end
end DL
namespace FL
open PySem PySem.Spec PyProof.Rows L2 DL
section
variable {K : PySem.W.Frag} {ta tb : TE} {fa fb : WE} {C : Addr} {f : FF}
variable {η : Sls} {M : Mem}
end
end FL
set_option Elab.async false
set_option linter.all false
set_option maxRecDepth 100000
set_option maxHeartbeats 1000000
namespace DL
open PySem PySem.Spec PyProof.Rows L2 StX LamX
section
variable {P : Program} {w : World} {K : PySem.W.Frag} {mg : Str → Option Value} {base : Heap} {C : Addr}
variable {X : Cx} {k : Nat} {m x : Str} {ps : List Str} {p : PTX} {o e : Expr} {es : List Expr} {ta tb : TE} {t : TA} {apos pos pp : Pos} {pl : Sem Bool} {E : XK}
end
end DL
namespace FL
open PySem PySem.Spec PyProof.Rows L2 DL LamX
abbrev XE := Addr → List (Str × D) → Sls → Mem → Prop
abbrev WEX := Sls → Mem → KE → XE → Prop
abbrev WSX := Sls → Mem → KS → XP → Prop
abbrev FFX := List D → Mem → (D → Mem → Prop) → XP → Prop
section
variable {K : PySem.W.Frag} {te ta : TE} {fe fa : WE} {t : XK → TE} {fx : WEX} {tr : TA} {fr : WA} {C : Addr} {f : FFX} {n : Nat}
variable {ts us : XK → TS} {s u : WSX} {ts0 : TS} {fs : WS} {tt : TT} {ft : WB}
theorem DSX.imp {X : XK} {RX : XP} {t : TS} {δ : En} {M : Mem} {q q' : DK} (h : DSX K X RX t δ M q) (h1 : ∀ δ M, q.nx δ M → q'.nx δ M) (h2 : ∀ d M, q.rt d M → q'.rt d M) (h3 : ∀ δ M, q.bk δ M → q'.bk δ M) (h4 : ∀ δ M, q.ct δ M → q'.ct δ M) : DSX K X RX t δ M q' := fun F σ H en m x E n r b c =>
  h F σ H en m x E (fun _ _ _ _ z => n _ _ _ _ (h1 _ _ z)) (fun _ _ _ _ z => r _ _ _ _ (h2 _ _ z)) (fun _ _ _ _ z => b _ _ _ _ (h3 _ _ z)) fun _ _ _ _ z => c _ _ _ _ (h4 _ _ z)
theorem DEX.imp {X : XK} {RX : XP} {te : TE} {δ : En} {M : Mem} {Q Q' : D → Mem → Prop} (h : DEX K X RX te δ M Q) (k : ∀ d M, Q d M → Q' d M) : DEX K X RX te δ M Q' := fun F σ H en m xg QV q => h F σ H en m xg QV fun d M' v H' z => q d M' v H' (k _ _ z)
end
end FL
set_option Elab.async false
set_option linter.all false
set_option maxRecDepth 100000
set_option maxHeartbeats 1000000
namespace DL
open PySem PySem.Spec PyProof.Rows L2
section
variable {K : PySem.W.Frag} {G : Hp}
end
end DL
namespace FL
open PySem PySem.Spec PyProof.Rows L2 DL
section
variable {K : PySem.W.Frag} {te : TE} {fe : WE}
def over (M B : Mem) : Mem := fun a => match B a with | some o => some o | none => M a
structure Keep (p : Addr) (M M' : Mem) : Prop where
  die : M' p = some .die
  sub : ∀ a o, a ≠ p → M a = some o → M' a = some o
theorem Keep.refl {p : Addr} {M : Mem} (h : M p = some .die) : Keep p M M := ⟨h, fun a o _ h => h⟩
theorem Keep.trans {p : Addr} {M M1 M2 : Mem} (h : Keep p M M1) (g : Keep p M1 M2) : Keep p M M2 := ⟨g.die, fun a o n e => g.sub a o n (h.sub a o n e)⟩
theorem Keep.tab {p P : Addr} {M M' : Mem} {q : Str} (h : Keep p M M') (hd : M p = some .die) (e : M P = some (.tab q)) : M' P = some (.tab q) := h.sub P _ (fun z => by subst z; rw [hd] at e; cases e) e
variable {η : Sls} {M : Mem} {x : D} {xs : List D}
variable {f : FFX} {n i : Nat} {fr : WA} {ds ws rest : List D} {z : D} {C E : Addr} {es fs : List (Str × D)} {fx : WEX}
variable {ft : WB} {s u : WSX} {k : KS} {rx : XP} {v : D}
end
end FL
set_option Elab.async false
set_option linter.all false
set_option maxRecDepth 100000
set_option maxHeartbeats 4000000
namespace DL
open PySem PySem.Spec PyProof.Rows L2
section
variable {P : Program} {w : World} {A : Around} {E : Value → Shared → Prop} {s : Shared}
end
section
variable {X : Cx}
end
section
variable {K : PySem.W.Frag} {δ : En} {M : Mem} {Q : D → Mem → Prop} {te : TE}
end
end DL
namespace FL
open PySem PySem.Spec PyProof.Rows L2 DL
section
variable {K : PySem.W.Frag} {te : TE} {fe : WE}
end
end FL
set_option Elab.async false
set_option linter.all false
set_option maxRecDepth 100000
set_option maxHeartbeats 1000000
namespace DL
open PySem PySem.Spec PyProof.Rows L2
section
variable {K : PySem.W.Frag} {M : Mem} {δ : En} {td ty tx : TE} {Q : D → Mem → Prop}
end
end DL
namespace FL
open PySem PySem.Spec PyProof.Rows L2 DL
section
variable {K : PySem.W.Frag} {ta tb tx : TE} {fa fb fx : WE} {tr : TA} {fr : WA}
end
end FL
set_option Elab.async false
set_option linter.all false
set_option maxRecDepth 100000
set_option maxHeartbeats 1000000
namespace DLT
open PySem PySem.SeqAt GQ
open AutoSeq1 (wpAny_loadPart')
open MeetsSeq MeetsSeq2 MeetsSeq3 SeqRoads2
section
variable {prog : Program} {w : World} {A : Around} {R : Result → Shared → Prop}
end
section
variable {prog : Program} {w : World} {A : Around} {E : Value → Shared → Prop} {s : Shared}
end
end DLT
namespace DL
open PySem PySem.Spec PyProof.Rows L2 FL
section
variable {X : Cx} {P : Program} {w : World} {K : PySem.W.Frag} {mg : Str → Option Value} {base : Heap} {C : Addr} {k : Nat} {ps : List Str} {p : PT0}
end
section
variable {K : PySem.W.Frag} {p : PT0} {C : Addr} {F : Fm}
end
end DL
namespace FL
open PySem PySem.Spec PyProof.Rows L2 DL
section
variable {K : PySem.W.Frag} {ta tb : TE} {fa fb fe : WE} {C : Addr} {f : FF}
inductive Pairs (C : Addr) (f : FF) (M : Mem) : List D → List D → Prop
  | nil : Pairs C f M [] []
  | data {d e : D} {ds es : List D} : (isPl d && isPl e && Nat.ble (min (dpD d) (dpD e)) 60 && eqD d e) = true → Pairs C f M ds es → Pairs C f M (d :: ds) (e :: es)
  | own {fs gs : List (Str × D)} {ds es : List D} : YF f M [.obj C fs, .obj C gs] (.bl true) → Pairs C f M ds es → Pairs C f M (.obj C fs :: ds) (.obj C gs :: es)
variable {η : Sls} {M : Mem}
end
end FL
set_option Elab.async false
set_option linter.all false
set_option maxRecDepth 100000
set_option maxHeartbeats 1000000
namespace DL
open PySem PySem.Spec PyProof.Rows L2 StX LamX
def DTX (K : PySem.W.Frag) (X : XK) (RX : XP) (tt : TT) (δ : En) (M : Mem) (Q : Bool → Mem → Prop) : Prop :=
  ∀ (F : Fm) (σ : Sg) (H : Hp), EnvR K (vis H M F) σ δ → MOk K F M H → XG K X RX F M H → ∀ QV : Bool → Hp → Prop, (∀ b M' H', Q b M' → Go K F M H M' H' → QV b H') → tt σ H QV
section
variable {K : PySem.W.Frag} {X : XK} {RX : XP} {δ : En} {M : Mem} {R : Bool → Mem → Prop} {q : DK} {te : TE} {tt : TT} {t u : TS}
theorem DTX.imp {Q Q' : Bool → Mem → Prop} (h : DTX K X RX tt δ M Q) (k : ∀ d M, Q d M → Q' d M) : DTX K X RX tt δ M Q' := fun F σ H en m xg QV q => h F σ H en m xg QV fun d M' H' z => q d M' H' (k _ _ z)
end
section
variable {X : Cx} {P : Program} {w : World} {K : PySem.W.Frag} {mg : Str → Option Value} {base : Heap} {C : Addr} {k : Nat} {ps : List Str} {p : PTX} {a b : Expr} {ta tb : TE} {pos : Pos} {E : XK}
end
end DL
namespace FL
open PySem PySem.Spec PyProof.Rows L2 DL LamX
abbrev WTX := Sls → Mem → (Bool → Sls → Mem → Prop) → XE → Prop
section
variable {K : PySem.W.Frag} {te : XK → TE} {fx : WEX} {tt : XK → TT} {ft : WTX} {ts us : XK → TS} {s u : WSX} {C : Addr} {ta tb : TE} {fa fb : WE} {f : FFX}
variable {η : Sls} {M : Mem} {z : D} {b : Bool} {E : Addr} {es fs : List (Str × D)} {k : KS} {rx : XP}
end
end FL
set_option Elab.async false
set_option linter.all false
set_option maxRecDepth 100000
set_option maxHeartbeats 4000000
namespace PySem
namespace HandSPK
open PySem.W PySem.Calls PyProof.Rows HandSPX
structure Below (l : List Value) (b : String) : Prop where
  has : l.contains (.type b) = true
  na : l.contains (.type "AttributeError") = false
  nn : l.contains (.type "NameError") = false
theorem Below.cons {l : List Value} {b : String} {C : Addr} (h : Below l b) : Below (.ref C :: l) b := ⟨by rw [List.contains_cons, h.has, Bool.or_true], by rw [List.contains_cons, h.na]; rfl, by rw [List.contains_cons, h.nn]; rfl⟩
section
variable {Mo : Model} {A : Around} {Ex : Value → Shared → Prop} {s0 : Heap} {gs : Array GenState} {dr : Drawn} {tk : Nat} {os : OsState}
variable {nm q : Str} {C N : Addr} {bs mr bl : List Value} {hd : Bool} {sn : List Str} {su : List Value} {ab : Bool} {co : Option Bool} {di : Option Addr} {e0 e1 e2 e3 e5 : Option Value} {b nw ini : String}
end
section
variable {pr : Program} {w : World} {A : Around} {Ex : Value → Shared → Prop} {R : Result → Shared → Prop} {s0 : Heap} {gs : Array GenState} {dr : Drawn} {tk : Nat} {os : OsState}
variable {nm q : Str} {C N : Addr} {bs mr bl : List Value} {hd : Bool} {sn : List Str} {su : List Value} {ab : Bool} {co : Option Bool} {di : Option Addr} {e0 e1 e2 e3 e5 : Option Value} {b nw ini : String}
end
end HandSPK
end PySem
set_option Elab.async false
set_option linter.all false
set_option maxRecDepth 100000
set_option maxHeartbeats 4000000
namespace PySem.HandSPK
open PySem.HandSPX
theorem Below.over {B l : List Value} {b : String} (h : Below B b) (o : Over B l) : Below l b := ⟨(over_has b o).trans h.has, (over_has "AttributeError" o).trans h.na, (over_has "NameError" o).trans h.nn⟩
end PySem.HandSPK
namespace DL
open PySem PySem.Spec PyProof.Rows L2 StX
section
variable {X : Cx} {B B0 : List Value} {newId initId b : String} {C fI : Addr} {f x : Str} {o e : Expr} {to te : TE} {ta : TA} {p p' pos pos2 : Pos}
end
section
variable {X : Cx} {P : Program} {w : World} {K : PySem.W.Frag} {mg : Str → Option Value} {base : Heap} {x f : Str} {C : Addr} {e : Expr} {ta : TA} {E : XK} {p pos pos2 : Pos}
end
end DL
set_option Elab.async false
set_option linter.all false
set_option maxRecDepth 100000
set_option maxHeartbeats 4000000
namespace DL
open PySem PySem.Spec PyProof.Rows L2 LamX
section
variable {X : Cx} {n : Str} {i : Nat} {body : List Stmt} {h₀ : ExceptHandler} {pos : Pos} {tb : WX → TS} {Wout : WX} {hds : List ExceptHandler} {l : List (Value × (Addr → Value → Option Addr → TS))}
inductive HdsAs (X : Cx) (n : Str) : List ExceptHandler → List (Value × (Addr → Value → Option Addr → TS)) → Prop
  | nil : HdsAs X n [] []
  | cons {x : Str} {c : Value} {ts : Addr → Value → Option Addr → TS} {b₀ : Stmt} {suite : List Stmt} {np pos' : Pos} {hds : List ExceptHandler} {l : List (Value × (Addr → Value → Option Addr → TS))} (hc : Names X x c)
      (su : ∀ (a : Addr) (oe : Obj) (cls : Value) (d : Option Addr) (pn : List (Addr × Obj)), Zc cls d oe → (∃ vs, oe.data = .fields vs) → PSs (X.suite a ((a, oe) :: pn)) (b₀ :: suite) (ts a cls d)) (r : HdsAs X n hds l) :
      HdsAs X n (.ExceptHandler (some (.Name x np)) (some n) (b₀ :: suite) pos' :: hds) ((c, ts) :: l)
end
end DL
set_option Elab.async false
set_option linter.all false
set_option maxRecDepth 100000
set_option maxHeartbeats 4000000
namespace DL
open PySem PySem.Spec PyProof.Rows L2 LamX
section
variable {X : Cx} {P : Program} {w : World} {K : PySem.W.Frag} {mg : Str → Option Value} {base : Heap} {Eo : VK → XK} {z : V}
end
section
variable {K : PySem.W.Frag} {Eo : VK → XK} {X : XK} {RX : XP} {δ : En} {M : Mem} {Q : D → Mem → Prop} {t : XK → TE} {P : Addr} {q : Str} {z : V} {dz : D}
end
section
variable {X : Cx} {Ng : List Str} {x a n q : Str} {sg : Scope} {g : Addr} {cdg : Value} {i : Nat} {h0 : ExceptHandler} {hds : List ExceptHandler} {l : List (Value × (Addr → Value → Option Addr → TS))} {z : V} {e : Expr} {p1 p2 p3 p4 p5 : Pos}
end
end DL
namespace FL
open PySem PySem.Spec PyProof.Rows L2 DL LamX
section
variable {K : PySem.W.Frag} {Eo : VK → XK} {t : XK → TE} {fx : WEX} {z : V} {dz : D}
variable {η : Sls} {M : Mem} {x d : D} {E : Addr} {es : List (Str × D)}
end
end FL
set_option Elab.async false
set_option linter.all false
set_option maxRecDepth 100000
set_option maxHeartbeats 1000000
namespace DL
open PySem PySem.Spec PyProof.Rows L2
section
variable {K : PySem.W.Frag} {M : Mem} {Q : D → Mem → Prop} {d : D}
end
end DL
namespace FL
open PySem PySem.Spec PyProof.Rows L2 DL
section
variable {K : PySem.W.Frag} {M : Mem} {d : D} {x : Str}
end
end FL
set_option Elab.async false
set_option linter.all false
set_option maxRecDepth 100000
set_option maxHeartbeats 1000000
namespace DL
open PySem PySem.Spec PyProof.Rows L2 LamX
section
variable {K : PySem.W.Frag} {i n : Nat} {Q : D → Mem → Prop} {M' : Mem} {F : Fm} {H' : Hp} {QV : VK} {dd : Option Addr} {C : Addr} {d : D} {fs : List (Str × D)} {z : V}
end
end DL
set_option Elab.async false
set_option linter.all false
set_option maxRecDepth 100000
set_option maxHeartbeats 1000000
namespace DL
open PySem PySem.Spec PyProof.Rows L2 LamX
section
variable {X : Cx} {a C HE : Addr} {oe : Obj} {cls : Value} {d : Option Addr} {pn : List (Addr × Obj)} {n h f A B w : Str} {i : Nat} {j1 j2 : Nat} {p1 p2 p3 p4 p5 p6 p7 p8 : Pos}
end
end DL
set_option Elab.async false
set_option linter.all false
set_option maxRecDepth 100000
set_option maxHeartbeats 1000000
namespace DL
open PySem PySem.Spec PyProof.Rows L2
end DL
namespace FL
open PySem PySem.Spec PyProof.Rows L2 DL
section
variable {K : PySem.W.Frag} {M : Mem} {d : D} {b : Bool}
end
end FL
set_option Elab.async false
set_option linter.all false
set_option maxRecDepth 100000
set_option maxHeartbeats 1000000
namespace DL
section
open PySem PySem.SeqAt
open PySem.AutoSeq1 (wpAny_loadPart')
open PySem.MeetsSeq PySem.MeetsSeq2 PySem.MeetsSeq3
variable {A : Around} {s : Shared}
end
open PySem PySem.Spec PyProof.Rows L2
section
variable {X : Cx}
end
section
variable {K : PySem.W.Frag} {M : Mem} {δ : En} {to : TE} {tr : TA} {Q : D → Mem → Prop}
end
end DL
namespace FL
open PySem PySem.Spec PyProof.Rows L2 DL
section
variable {K : PySem.W.Frag} {ta tb : TE} {fa fb : WE}
end
end FL
set_option Elab.async false
set_option linter.all false
set_option maxRecDepth 100000
set_option maxHeartbeats 1000000
namespace FL
open PySem PySem.Spec PyProof.Rows L2 DL
section
variable {K : PySem.W.Frag} {te : TE} {tr : TA} {fe : WE} {fr : WA}
def objM (M : Mem) (C : Addr) (d : D) (k : Prop) : Prop := match d with
  | .raw (.ref b) => (match M b with
    | some (.ins C' _) => gd (decide (C' = C)) k
    | _ => False)
  | _ => False
theorem objM_of {M : Mem} {C : Addr} {d : D} {k : Prop} (h : objM M C d k) : ∃ b fs, d = .raw (.ref b) ∧ M b = some (.ins C fs) ∧ k := by
  unfold objM at h
  split at h
  · rename_i b
    split at h
    · rename_i C' fs e
      obtain ⟨z, h2⟩ := gd_of h
      have z := of_decide_eq_true z
      subst z
      exact ⟨b, fs, rfl, e, h2⟩
    · exact h.elim
  · exact h.elim
def ePropM (C : Addr) (f : FF) (fe : WE) : WE := fun η M k => fe η M fun d η1 M1 => objM M1 C d (f [d] M1 fun x M2 => k x η1 M2)
theorem den_propM {C : Addr} {f : FF} {E : XK} (a : DenE K te fe) : DenE K (tProp C (spD K (prom 1 f)) [] E te) (ePropM C f fe) := fun η A M0 O M δ k re rm h =>
  de_propM ((a η A M0 O M δ _ re rm h).imp fun d M1 ⟨η1, M01, re1, rm1, h1⟩ => by
    obtain ⟨b, fs, rfl, e, h2⟩ := objM_of h1
    exact ⟨b, fs, rfl, rm1.sub b _ e, prom_of re1 rm1 rfl h2⟩)
def eMakeM (C : Addr) (f : FF) (n : Nat) (fr : WA) : WE := fun η M k => fr η M fun ds η1 M1 => gd (Nat.beq (ds.length + 1) n) (∀ x, M1 x = none → f (.raw (.ref x) :: ds) (mup M1 x (.ins C [])) fun d M2 => d = .non ∧ k (.raw (.ref x)) η1 M2)
theorem den_makeM {C : Addr} {f : FF} {n : Nat} {E : XK} (b : DenA K tr fr) : DenE K (tMake C (spD K (prom n f)) [] E tr) (eMakeM C f n fr) := fun η A M0 O M δ k re rm h =>
  de_makeM (DA.imp (b η A M0 O M δ _ re rm h) fun ds M1 ⟨η1, M01, re1, rm1, h1⟩ x hx => by
    obtain ⟨z, h1⟩ := gd_of h1
    have rm2 := rm1.mupN (o := .ins C []) hx
    exact ⟨Nat.eq_of_beq_eq_true z, _, besides (mup M01 x (.ins C [])) (mup M1 x (.ins C [])), _, jn_besides rm2.sub, h1 x (rm1.sub.none hx), fun d M0' M' hq hj => ⟨hq.1, η1, M0', re1, rm2.jn hj, hq.2⟩⟩)
def intsL : List D → Option (List Int)
  | [] => some []
  | .int i :: r => (intsL r).map (i :: ·)
  | _ => none
theorem intsL_eq : ∀ {l : List D} {ys : List Int}, intsL l = some ys → l = ys.map D.int
  | [], _, h => by cases h; rfl
  | .int x :: r, _, h => by
    rw [intsL] at h
    cases e : intsL r with
    | none => rw [e] at h; cases h
    | some ys => rw [e] at h; cases h; rw [List.map_cons, intsL_eq e]
def sumF : Fn := fun _ ds k => one1 ds fun d => lstF d fun xs => optF (intsL xs) fun l => k (.int l.sum)
theorem fc_sum : FCl K (rSum K) sumF := fun ds M0 M Q _ h => by
  obtain ⟨d, rfl, h1⟩ := one1_of h
  obtain ⟨xs, rfl, h2⟩ := lstF_of h1
  obtain ⟨l, e, h3⟩ := optF_of h2
  exact dc_sum (by rw [intsL_eq e]) ⟨rfl, h3⟩
def cShr (_ j : Int) : Bool := decide (0 ≤ j)
theorem cShr_of (i j : Int) (h : cShr i j = true) : 0 ≤ j := of_decide_eq_true h
end
end FL
set_option Elab.async false
set_option linter.all false
set_option maxRecDepth 100000
set_option maxHeartbeats 1000000
namespace DL
open PySem PySem.Spec PyProof.Rows L2
section
variable {X : Cx}
inductive HitsV (K : PySem.W.Frag) (H : Hp) (ls : List (Key × V)) : List (Key × V) → Bool → Prop
  | nil : HitsV K H ls [] true
  | miss {k : Key} {v : V} {r : List (Key × V)} : valV ls k = none → HitsV K H ls ((k, v) :: r) false
  | hit {k : Key} {v y : V} {r : List (Key × V)} {d e : PyData} {b : Bool} : valV ls k = some y → Dp K H v d → Dp K H y e → min d.depth e.depth ≤ 60 → HitsV K H ls r b → HitsV K H ls ((k, v) :: r) (PyData.eqv d e && b)
end
end DL
namespace FL
open PySem PySem.Spec PyProof.Rows L2 DL
section
variable {K : PySem.W.Frag}
end
end FL
set_option Elab.async false
set_option linter.all false
set_option maxRecDepth 100000
set_option maxHeartbeats 4000000
namespace DQ
open PySem PySem.Spec PyProof.Rows L2 PySem.W
theorem en_no_len : typeLookup (.type "enumerate") "__len__" = pure none := by rw [typeLookup_type, builtinLookup_eq_fast]; kernel_rfl
theorem en_no_hint : typeLookup (.type "enumerate") "__length_hint__" = pure none := by rw [typeLookup_type, builtinLookup_eq_fast]; kernel_rfl
section
variable {prog : Program} {w : World} {A : Around} {E : Value → Shared → Prop} {s : Shared}
theorem en_step {e it T : Addr} {fp : List Addr} {n i : Nat} {P : Nat → Value → Prop} {St : Nat → Heap → Prop} {old : Value} {f : Bool} {oT : Obj} {Q : Value → Shared → Prop}
    (D : Draws prog w A it fp n P St) (he : IsEnumHeld s.heap e it i old T f) (hT : s.heap.get? T = some oT) (hTe : T ≠ e) (hTi : T ≠ it) (hst : St i s.heap) (hlt : i < n) (hne : e ≠ it) (hef : e ∉ fp)
    (k : ∀ x g tk, P i x → IsEnumHeld g e it ((i : Int) + 1) old T true → St (i + 1) g →
      g.get? s.heap.objs.size = some { cls := .type "tuple", data := .seq #[.int i tk, x] } → g.objs.size = s.heap.objs.size + 1 →
      (∀ b o, b ≠ e → b ≠ it → s.heap.get? b = some o → g.get? b = some o) → Q (.ref s.heap.objs.size) { s with heap := g, toks := tk + 1 }) :
    wpAny (model prog w) A (Builtin.«enumerate.__next__» ⟨[.ref e], []⟩) (fun fin z => ∃ v, fin = .done (.ret v) ∧ Q v z) E s := by
  obtain ⟨hp, ge, dr, tk0, os⟩ := s
  show wpAny _ _ (field (.ref e) 2 >>= _) _ _ _
  refine wpAny_bind (wpAny_field (x := .ref it) he rfl rfl ?_)
  refine wpAny_bind (D.item i _ _ _ hlt hst fun x g1 tk px st1 sb1 => ?_)
  have a1 : IsEnumHeld g1 e it i old T f := (sb1.2 e hne).trans he
  show wpAny _ _ (field (.ref e) 3 >>= _) _ _ ⟨g1, ge, dr, tk, os⟩
  refine wpAny_bind (wpAny_field (x := rawInt i) a1 rfl rfl ?_)
  show wpAny _ _ (field (.ref e) 4 >>= _) _ _ ⟨g1, ge, dr, tk, os⟩
  refine wpAny_bind (wpAny_field (x := .none) a1 rfl rfl ?_)
  show wpAny _ _ (mkInt i >>= _) _ _ ⟨g1, ge, dr, tk, os⟩
  refine wpAny_bind (wpAny_mkInt ?_)
  show wpAny _ _ (setField (.ref e) 3 (rawInt ((i : Int) + 1)) >>= _) _ _ ⟨g1, ge, dr, tk + 1, os⟩
  refine wpAny_bind (wpAny_setField_rec a1 (by simp) fun g2 a2 sb2 => ?_)
  have sb2' : Heap.SameBut e g1 g2 := sb2
  have a2' : IsEnumHeld g2 e it ((i : Int) + 1) old T f := a2
  show wpAny _ _ (setField (.ref e) 4 .none >>= _) _ _ ⟨g2, ge, dr, tk + 1, os⟩
  refine wpAny_bind (wpAny_setField_rec a2' (by simp) fun g3 a3 sb3 => ?_)
  have sb3' : Heap.SameBut e g2 g3 := sb3
  have a3' : IsEnumHeld g3 e it ((i : Int) + 1) old T f := a3
  have sb1' : Heap.SameBut it hp g1 := sb1
  show wpAny _ _ (newTuple [.int i tk, x] >>= _) _ _ ⟨g3, ge, dr, tk + 1, os⟩
  refine wpAny_bind (wpAny_newTuple ?_)
  have a4 : IsEnumHeld (g3.push { cls := .type "tuple", data := .seq #[.int i tk, x] }) e it ((i : Int) + 1) old T f := Heap.get?_push_of_some _ a3'
  generalize q4 : g3.push { cls := .type "tuple", data := .seq #[.int i tk, x] } = g4 at a4
  have z3 : g3.objs.size = hp.objs.size := by rw [sb3'.1, sb2'.1, sb1'.1]
  have le : e < hp.objs.size := Heap.lt_size he
  have t4 : g4.get? hp.objs.size = some { cls := .type "tuple", data := .seq #[.int i tk, x] } := by rw [← q4, ← z3]; exact Heap.get?_push_size _ rfl
  have z4 : g4.objs.size = hp.objs.size + 1 := by rw [← q4, Heap.size_push, z3]
  have k4 : ∀ b o, b ≠ e → b ≠ it → hp.get? b = some o → g4.get? b = some o := fun b o n1 n2 hb => by
    rw [← q4]
    exact Heap.get?_push_of_some _ (sb3'.extBut b o n1 (sb2'.extBut b o n1 (sb1'.extBut b o n2 hb)))
  have st4 : St (i + 1) g4 := D.frame _ _ _ st1 fun b hb o y => by
    have n1 : b ≠ e := fun q => hef (q ▸ hb)
    rw [← q4]
    exact Heap.get?_push_of_some _ (sb3'.extBut b o n1 (sb2'.extBut b o n1 y))
  show wpAny _ _ (Builtin.SmallTypes.ownedTupleIsFree (.ref e) >>= _) _ _ ⟨g4, ge, dr, tk + 1, os⟩
  rw [z3]
  refine wpAny_bind (wpAny_tupleHeld_enum (s := ⟨g4, ge, dr, tk + 1, os⟩) a4 (k4 T oT hTe hTi hT) fun g5 a5 sb5 => ?_)
  have sb5' : Heap.SameBut e g4 g5 := sb5
  simp only [Bool.false_eq_true, if_false]
  refine wpAny_pure ⟨_, rfl, k x g5 tk px a5 (D.frame _ _ _ st4 fun b hb o y => sb5'.extBut b o (fun q => hef (q ▸ hb)) y) (sb5'.extBut _ _ (Nat.ne_of_gt le) t4) ?_ fun b o n1 n2 hb => sb5'.extBut b o n1 (k4 b o n1 n2 hb)⟩
  show g5.objs.size = hp.objs.size + 1
  rw [sb5'.1, z4]
def EnS (h : Heap) (e it S i : Nat) : Prop := (∃ old, IsEnum h e it ((i : Nat) : Int) old) ∨ ∃ old T f oT, IsEnumHeld h e it ((i : Nat) : Int) old T f ∧ h.get? T = some oT ∧ T ≠ e ∧ T ≠ it ∧ T ≠ S
theorem EnS.keep {h g : Heap} {e it S i : Nat} (x : EnS h e it S i) (k : ∀ b o, b ≠ S → h.get? b = some o → g.get? b = some o) (n : e ≠ S) : EnS g e it S i := by
  rcases x with ⟨old, a⟩ | ⟨old, T, f, oT, a, b, c1, c2, c3⟩
  · exact .inl ⟨old, k _ _ n a⟩
  · exact .inr ⟨old, T, f, oT, k _ _ n a, k _ _ c3 b, c1, c2, c3⟩
theorem en_item {e it t S : Addr} {i : Nat} {us : Array Value} {Q : Option Value → Shared → Prop} (cool : A.handled = none) (st : EnS s.heap e it S i) (hi : s.heap.IsTupleIter it t i) (ht : s.heap.IsTuple t us)
    (lt : i < us.size) (ne : e ≠ it) (nt : t ≠ it) (te : e ≠ t) (hS : S < s.heap.objs.size) (hit : it < s.heap.objs.size)
    (k : ∀ g tk, EnS g e it S (i + 1) → g.IsTupleIter it t (i + 1) → g.get? s.heap.objs.size = some { cls := .type "tuple", data := .seq #[.int i tk, us[i]] } → g.objs.size = s.heap.objs.size + 1 →
      (∀ b o, b ≠ e → b ≠ it → s.heap.get? b = some o → g.get? b = some o) → Q (some (.ref s.heap.objs.size)) { s with heap := g, toks := tk + 1 }) : wpAny (model prog w) A (pyNext (.ref e)) Q E s := by
  have hef : e ∉ [it, t] := fun z => by
    rcases List.mem_cons.mp z with z | z
    · exact ne z
    · exact te (List.mem_singleton.mp z)
  have ec : ((i + 1 : Nat) : Int) = (i : Int) + 1 := by omega
  have D := Draws.tuple (prog := prog) (w := w) (A := A.in1) cool it t nt us
  rcases st with ⟨old, he⟩ | ⟨old, T, f, oT, he, hT, c1, c2, c3⟩
  · refine wpAny_pyNext_enum_itemD D he ⟨hi, ht⟩ lt ne hef fun y g tk hy ho st2 hT hsz hk => ?_
    have ey : y = us[i] := by
      rw [Array.getElem?_eq_getElem lt] at hy
      exact (Option.some.inj hy).symm
    subst ey
    exact k g tk (.inr ⟨_, s.heap.objs.size, false, _, by rw [ec]; exact ho, hT, Nat.ne_of_gt (Heap.lt_size he), Nat.ne_of_gt hit, Nat.ne_of_gt hS⟩) st2.1 hT hsz hk
  · have ty : s.TypeIs (.ref e) "enumerate" := ⟨_, he, rfl⟩
    unfold pyNext
    refine wpAny_bind (wpAny_attempt (wpAny_callSpecial?_slot (name := Str.ofString "__next__") ty F.slot_enumerate_next (wpAny_call_entry F.slot_enumerate_next ty F.entry_enumerate_next
      (en_step D he hT c1 c2 ⟨hi, ht⟩ lt ne hef fun y g tk hy ho st2 hT2 hsz hk => ?_) (F.args_enumerate_next_1 _))))
    have ey : y = us[i] := by
      rw [Array.getElem?_eq_getElem lt] at hy
      exact (Option.some.inj hy).symm
    subst ey
    exact wpAny_pure (k g tk (.inr ⟨old, T, true, oT, by rw [ec]; exact ho, hk T oT c1 c2 hT, c1, c2, c3⟩) st2.1 hT2 hsz hk)
theorem en_stop {e it t S : Addr} {i : Nat} {us : Array Value} {Q : Option Value → Shared → Prop} (cool : A.handled = none) (st : EnS s.heap e it S i) (hi : s.heap.IsTupleIter it t i) (ht : s.heap.IsTuple t us) (stop : us[i]? = none)
    (fin : ∀ g, Heap.ExtBut it s.heap g → Q none { s with heap := g }) : wpAny (model prog w) A (pyNext (.ref e)) Q E s := by
  rcases st with ⟨old, he⟩ | ⟨old, T, f, oT, he, hT, c1, c2, c3⟩
  · exact en_end cool he hi ht stop fin
  · have ty : s.TypeIs (.ref e) "enumerate" := ⟨_, he, rfl⟩
    unfold pyNext
    refine wpAny_bind (wpAny_attempt (wpAny_callSpecial?_slot (name := Str.ofString "__next__") ty F.slot_enumerate_next (wpAny_call_entry F.slot_enumerate_next ty F.entry_enumerate_next ?_ (F.args_enumerate_next_1 _))))
    refine wpAny_bind (m := field (.ref e) 2) (wpAny_field he rfl (x := .ref it) rfl ?_)
    refine wpAny_bind (wpAny_nextOf_tuple_end cool hi ht stop fun g x k ⟨o, ho, hc⟩ => ?_)
    exact wpAny_bind (wpAny_isInstance (T := "StopIteration") (b := true) ⟨o, ho, hc⟩ isSubtype_stop (wpAny_pure (fin _ k)))
end
structure EnG (us : Array Value) (lo : Addr) (h : Heap) (as : List Addr) : Prop where
  up : as.Pairwise (· < ·)
  hi : ∀ a, a ∈ as → lo < a
  at' : ∀ (j : Nat) (a : Addr), as[j]? = some a → ∃ (hj : j < us.size) (t : Nat), h.get? a = some { cls := .type "tuple", data := .seq #[.int j t, us[j]] }
section
variable {prog : Program} {w : World} {A : Around} {s : Shared} {R : Result → Shared → Prop} {us : Array Value}
theorem en_loop {S e it t : Addr} (cool : A.handled = none) (se : e < S) (si : it < S) (sx : t < S) (ne : e ≠ it) (nt : t ≠ it) (te : e ≠ t) (small : us.size ≤ sizeLine) (res : Value) {h0 : Heap}
    (hR : ∀ g tk acc c as, (∀ b o, b ≠ S → b ≠ e → b ≠ it → h0.get? b = some o → g.get? b = some o) → g.get? S = some { cls := .type "list", dict := none, data := .seq acc c, slots := #[] } → as.length = us.size → EnG us S g as →
      acc.toList = as.map Value.ref → R (.ok (.ret res)) { s with heap := g, toks := tk }) :
    ∀ (k i : Nat) (h : Heap) (tk c : Nat) (acc : Array Value) (as : List Addr), us.size - i = k → i ≤ us.size → EnS h e it S i → h.IsTupleIter it t i → h.IsTuple t us → (∀ b o, b ≠ S → b ≠ e → b ≠ it → h0.get? b = some o → h.get? b = some o) →
      h.get? S = some { cls := .type "list", dict := none, data := .seq acc c, slots := #[] } → acc.toList = as.map Value.ref → as.length = i → EnG us S h as →
      codeAny (model prog w) A (.builtin "list.extend.loop" ⟨[.ref S, .ref e, res], []⟩) R { s with heap := h, toks := tk } := by
  intro k
  induction k with
  | zero =>
    intro i h tk c acc as ek il st hi ht kp hS ea la hG
    have ei : i = us.size := by omega
    refine codeAny_builtin F.entry_extend_loop ?_
    rw [Around.under_plainId F.plain_extend_loop _]
    show wpAny _ A.in1 (pyNext (.ref e) >>= _) _ _ _
    refine wpAny_bind (en_stop (s := { s with heap := h, toks := tk }) (A := A.in1) cool st hi ht (by rw [Array.getElem?_eq_none (by omega)]) fun g x => ?_)
    refine wpAny_pure (hR g tk acc c as (fun b o n1 n2 n3 y => x b o n3 (kp b o n1 n2 n3 y)) (x S _ (Nat.ne_of_gt si) hS) (by omega) ⟨hG.up, hG.hi, fun j a hj => ?_⟩ ea)
    obtain ⟨hj2, t2, e2⟩ := hG.at' j a hj
    exact ⟨hj2, t2, x a _ (Nat.ne_of_gt (Nat.lt_trans si (hG.hi a (List.mem_of_getElem? hj)))) e2⟩
  | succ k ih =>
    intro i h tk c acc as ek il st hi ht kp hS ea la hG
    have lt : i < us.size := by omega
    have za : acc.size = i := by rw [← Array.length_toList, ea, List.length_map, la]
    have lS : S < h.objs.size := Heap.lt_size hS
    refine codeAny_builtin F.entry_extend_loop ?_
    rw [Around.under_plainId F.plain_extend_loop _]
    show wpAny _ A.in1 (pyNext (.ref e) >>= _) _ _ _
    refine wpAny_bind (en_item (s := { s with heap := h, toks := tk }) (A := A.in1) (S := S) cool st hi ht lt ne nt te lS (Nat.lt_trans si lS) fun g tk2 st2 hi2 nw zs kk => ?_)
    dsimp only at nw zs kk ⊢
    have hS2 := kk S _ (Nat.ne_of_gt se) (Nat.ne_of_gt si) hS
    have up : ∀ b o, b ≠ S → g.get? b = some o → (g.update S (Obj.mapSeq (·.push (Value.ref h.objs.size)))).get? b = some o := fun b o n y => (Heap.get?_update_other _ _ (Ne.symm n)).trans y
    show wpAny _ A.in1 (updateSeq S (·.push (Value.ref h.objs.size)) >>= _) _ _ _
    refine wpAny_bind ?_
    refine wpAny_updateSeq hS2 rfl (wpAny_pure ⟨plainId_quiet F.plain_extend_loop _, ih (i + 1) _ (tk2 + 1) _ (acc.push (Value.ref h.objs.size)) (as ++ [h.objs.size]) (by omega) lt (st2.keep up (Nat.ne_of_lt se))
      (hi2.at fun o y => up it o (Nat.ne_of_lt si) y) (ht.at fun o y => up t o (Nat.ne_of_lt sx) (kk t o (Ne.symm te) nt y))
      (fun b o n1 n2 n3 y => up b o n1 (kk b o n2 n3 (kp b o n1 n2 n3 y))) (Heap.get?_update_self _ hS2 rfl) (by rw [Array.toList_push, ea, List.map_append]; rfl) (by rw [List.length_append, la]; rfl) ⟨?_, ?_, ?_⟩⟩) (by rw [za]; omega) (by show (acc.push (Value.ref h.objs.size)).size ≤ sizeLine + 1; rw [Array.size_push, za]; omega)
    · refine List.pairwise_append.mpr ⟨hG.up, List.pairwise_singleton _ _, fun a ha b hb => ?_⟩
      obtain ⟨j, hj⟩ := List.mem_iff_getElem?.mp ha
      obtain ⟨_, _, e2⟩ := hG.at' j a hj
      rw [List.mem_singleton.mp hb]
      exact Heap.lt_size e2
    · intro a ha
      rcases List.mem_append.mp ha with ha | ha
      · exact hG.hi a ha
      · rw [List.mem_singleton.mp ha]; exact lS
    · intro j b hj
      rcases Nat.lt_trichotomy j as.length with h1 | h1 | h1
      · rw [List.getElem?_append_left h1] at hj
        obtain ⟨hj2, t2, e2⟩ := hG.at' j b hj
        have hb := hG.hi b (List.mem_of_getElem? hj)
        exact ⟨hj2, t2, up b _ (Nat.ne_of_gt hb) (kk b _ (Nat.ne_of_gt (Nat.lt_trans se hb)) (Nat.ne_of_gt (Nat.lt_trans si hb)) e2)⟩
      · subst h1
        have hb : h.objs.size = b := by simpa using hj
        subst hb
        exact ⟨by omega, tk2, by subst la; exact up _ _ (Nat.ne_of_gt lS) nw⟩
      · rw [show (as ++ [h.objs.size])[j]? = none from List.getElem?_eq_none (by rw [List.length_append, List.length_singleton]; omega)] at hj
        cases hj
end
section
variable {prog : Program} {w : World} {A : Around} {E : Value → Shared → Prop} {s : Shared} {us : Array Value} {e it t : Addr}
theorem en_hint {e : Addr} (hT : s.TypeIs (.ref e) "enumerate") {Q : Bool → Shared → Prop} (h : Q true s) : wpAny (model prog w) A (Builtin.List.listLengthHint (.ref e)) Q E s := by
  unfold Builtin.List.listLengthHint
  refine wpAny_bind (wpAny_specialOf hT en_no_len ?_)
  show wpAny _ _ (specialOf (Value.ref e) (Str.ofString "__length_hint__") >>= _) _ _ _
  refine wpAny_bind (wpAny_specialOf hT en_no_hint ?_)
  exact wpAny_pure h
theorem en_extend {R : Result → Shared → Prop} (cool : A.handled = none) (he : IsEnum s.heap e it 0 .none) (hi : s.heap.IsTupleIter it t 0) (ht : s.heap.IsTuple t us) (S : Addr) (se : e < S) (si : it < S) (sx : t < S) (ne : e ≠ it) (nt : t ≠ it) (te : e ≠ t) (small : us.size ≤ sizeLine) (res : Value) (c0 : Nat)
    (hS : s.heap.get? S = some { cls := .type "list", data := .seq #[] c0 })
    (hR : ∀ g tk acc c as, (∀ b o, b ≠ S → b ≠ e → b ≠ it → s.heap.get? b = some o → g.get? b = some o) → g.get? S = some { cls := .type "list", dict := none, data := .seq acc c, slots := #[] } → as.length = us.size → EnG us S g as →
      acc.toList = as.map Value.ref → R (.ok (.ret res)) { s with heap := g, toks := tk }) :
    wpAny (model prog w) A.in1 (Builtin.List.listExtendWith (.ref S) (.ref e) res)
      (fun fin z => match fin with | .done f => R (.ok f) z | .again c' => c'.quiet = true ∧ codeAny (model prog w) A c' R z) (fun x z => R (.error x) z) s := by
  have ty : s.TypeIs (.ref e) "enumerate" := ⟨_, he, rfl⟩
  unfold Builtin.List.listExtendWith
  refine wpAny_bind (wpAny_typeOf ty ?_)
  have h1 : Builtin.List.listSameRef (.ref S) (.ref e) = false := by simp [Builtin.List.listSameRef, Nat.ne_of_gt se]
  have h2 : (Value.type "enumerate" == Value.type "list") = false := by decide
  have h3 : (Value.type "enumerate" == Value.type "tuple") = false := by decide
  simp only [h1, h2, h3, Bool.or_false, Bool.false_eq_true, if_false]
  refine wpAny_bind (wpAny_pyIter_enum he ?_)
  refine wpAny_bind (wpAny_holding (en_hint ty ?_))
  refine wpAny_ite_split (fun _ => ?_) (fun y => absurd rfl y)
  refine wpAny_bind (wpAny_rule ?_)
  refine wpAny_bind ?_
  show wpAny _ _ (updateSeq S (·.push .none) >>= fun _ => updateSeq S (·.pop)) _ _ _
  refine wpAny_bind (wpAny_updateSeq hS rfl ?_)
  have hS2 := Heap.get?_update_self (Obj.mapSeq (·.push Value.none)) hS rfl
  refine wpAny_updateSeq (hz := by seq_fits) hS2 rfl ?_
  have hS3 := Heap.get?_update_self (Obj.mapSeq (·.pop)) hS2 rfl
  have kp : ∀ b o, b ≠ S → s.heap.get? b = some o → ((s.heap.update S (Obj.mapSeq (·.push Value.none))).update S (Obj.mapSeq (·.pop))).get? b = some o :=
    fun b o n y => (Heap.get?_update_other _ _ (Ne.symm n)).trans ((Heap.get?_update_other _ _ (Ne.symm n)).trans y)
  refine wpAny_pure ⟨plainId_quiet F.plain_extend_loop _, en_loop (h0 := s.heap) cool se si sx ne nt te small res hR us.size 0 _ _ _ #[] [] (Nat.sub_zero _) (Nat.zero_le _) (.inl ⟨_, kp e _ (Nat.ne_of_lt se) he⟩)
    (hi.at fun o y => kp it o (Nat.ne_of_lt si) y) (ht.at fun o y => kp t o (Nat.ne_of_lt sx) y) (fun b o n _ _ y => kp b o n y) hS3 rfl rfl ⟨.nil, (fun _ h => nomatch h), fun j a hj => by simp at hj⟩⟩
theorem en_init {R : Result → Shared → Prop} (cool : A.handled = none) (he : IsEnum s.heap e it 0 .none) (hi : s.heap.IsTupleIter it t 0) (ht : s.heap.IsTuple t us) (S : Addr) (se : e < S) (si : it < S) (sx : t < S) (ne : e ≠ it) (nt : t ≠ it) (te : e ≠ t) (small : us.size ≤ sizeLine)
    (hS : s.heap.get? S = some { cls := .type "list", data := .seq #[] })
    (hR : ∀ g tk acc c as, (∀ b o, b ≠ S → b ≠ e → b ≠ it → s.heap.get? b = some o → g.get? b = some o) → g.get? S = some { cls := .type "list", dict := none, data := .seq acc c, slots := #[] } → as.length = us.size → EnG us S g as →
      acc.toList = as.map Value.ref → R (.ok (.ret .none)) { s with heap := g, toks := tk }) :
    wpAny (model prog w) A.in1 (Builtin.«list.__init__» ⟨[.ref S, .ref e], []⟩)
      (fun fin z => match fin with | .done f => R (.ok f) z | .again c' => c'.quiet = true ∧ codeAny (model prog w) A c' R z) (fun x z => R (.error x) z) s := by
  show wpAny _ _ (do let old ← Builtin.List.listItems (.ref S); Builtin.List.listUpdate (.ref S) (fun _ => #[]); letGo old.toList.reverse; Builtin.List.listExtendWith (.ref S) (.ref e) .none) _ _ s
  refine wpAny_bind ?_
  unfold Builtin.List.listItems
  refine wpAny_bind (wpAny_seqItems hS rfl (wpAny_pure ?_))
  show wpAny _ _ (updateSeq S (fun _ => #[]) >>= fun _ => letGo (#[] : Array Value).toList.reverse >>= fun _ => Builtin.List.listExtendWith (.ref S) (.ref e) .none) _ _ s
  refine wpAny_bind (wpAny_updateSeq hS rfl ?_)
  have hS2 := Heap.get?_update_self (Obj.mapSeq (fun _ => (#[] : Array Value))) hS rfl
  have kp : ∀ b o, b ≠ S → s.heap.get? b = some o → (s.heap.update S (Obj.mapSeq (fun _ => (#[] : Array Value)))).get? b = some o := fun b o n y => (Heap.get?_update_other _ _ (Ne.symm n)).trans y
  refine wpAny_bind (wpAny_letGo ?_)
  refine en_extend cool (kp e _ (Nat.ne_of_lt se) he) (hi.at fun o y => kp it o (Nat.ne_of_lt si) y) (ht.at fun o y => kp t o (Nat.ne_of_lt sx) y) S se si sx ne nt te small .none _ hS2 fun g tk acc c as kk h2 h3 h4 h5 => ?_
  exact hR g tk acc c as (fun b o n1 n2 n3 y => kk b o n1 n2 n3 (kp b o n1 y)) h2 h3 h4 h5
theorem en_call {Q : Value → Shared → Prop} (cool : A.handled = none) (he : IsEnum s.heap e it 0 .none) (hi : s.heap.IsTupleIter it t 0) (ht : s.heap.IsTuple t us) (li : it < s.heap.objs.size) (lx : t < s.heap.objs.size) (ne : e ≠ it) (nt : t ≠ it) (te : e ≠ t) (small : us.size ≤ sizeLine)
    (k : ∀ g tk acc c as, (∀ b o, b ≠ e → b ≠ it → s.heap.get? b = some o → g.get? b = some o) → g.get? s.heap.objs.size = some { cls := .type "list", dict := none, data := .seq acc c, slots := #[] } → as.length = us.size → EnG us s.heap.objs.size g as →
      acc.toList = as.map Value.ref → Q (.ref s.heap.objs.size) { s with heap := g, toks := tk }) :
    wpAny (model prog w) A (call (.type "list") [.ref e]) Q E s := by
  refine callType_codes (Q₁ := fun obj z => obj = .ref s.heap.objs.size ∧ z = { s with heap := s.heap.push { cls := .type "list", data := .seq #[] } }) F.called_list (F.typeCall_list_1 _) F.entry_list_init (code_list_new _ ⟨rfl, rfl⟩) fun obj z hz => ?_
  obtain ⟨rfl, rfl⟩ := hz
  have hS : (s.heap.push { cls := .type "list", data := .seq #[] }).get? s.heap.objs.size = some { cls := .type "list", data := .seq #[] } := Heap.get?_push_size _ rfl
  refine ⟨⟨_, hS, rfl⟩, F.args_list_init_2 _ _, en_init (A := A.in1) cool (Heap.get?_push_of_some _ he) (hi.at fun o y => Heap.get?_push_of_some _ y) (ht.at fun o y => Heap.get?_push_of_some _ y) _ (Heap.lt_size he) li lx ne nt te small hS fun g tk acc c as kk h2 h3 h4 h5 => ?_⟩
  exact ⟨rfl, k g tk acc c as (fun b o n1 n2 y => kk b o (Nat.ne_of_lt (Heap.lt_size y)) n1 n2 (Heap.get?_push_of_some _ y)) h2 h3 h4 h5⟩
end
end DQ
set_option Elab.async false
set_option linter.all false
set_option maxRecDepth 100000
set_option maxHeartbeats 2000000
namespace DQ
open PySem PySem.Spec PyProof.Rows L2
def putE : Hp → List Addr → List V → Nat → Hp
  | H, a :: as, x :: xs, n => putE (upd H a (.tup [.int (n : Nat), x])) as xs (n + 1)
  | H, _, _, _ => H
theorem putE_off {b : Addr} : ∀ (as : List Addr) (xs : List V) (H : Hp) (n : Nat), b ∉ as → putE H as xs n b = H b
  | [], _, _, _, _ => rfl
  | _ :: _, [], _, _, _ => rfl
  | a :: as, x :: xs, H, n, h => (putE_off as xs _ (n + 1) fun z => h (List.mem_cons_of_mem _ z)).trans (upd_ne fun z => h (by rw [z]; exact List.mem_cons_self))
theorem putE_at : ∀ (as : List Addr) (xs : List V) (H : Hp) (n : Nat), as.length = xs.length → as.Nodup → ∀ (j : Nat) (a : Addr), as[j]? = some a → ∃ x, xs[j]? = some x ∧ putE H as xs n a = some (.tup [.int ((n + j : Nat) : Int), x])
  | [], _, _, _, _, _, _, _, h => by simp at h
  | _ :: _, [], _, _, h, _, _, _, _ => by cases h
  | a :: as, x :: xs, H, n, h, nd, 0, b, hb => by
    cases hb
    refine ⟨x, rfl, ?_⟩
    show putE (upd H a (.tup [.int (n : Nat), x])) as xs (n + 1) a = _
    rw [putE_off _ _ _ _ (List.nodup_cons.mp nd).1, upd_same]
    rfl
  | a :: as, x :: xs, H, n, h, nd, j + 1, b, hb => by
    obtain ⟨y, e1, e2⟩ := putE_at as xs (upd H a (.tup [.int (n : Nat), x])) (n + 1) (Nat.succ.inj h) (List.nodup_cons.mp nd).2 j b hb
    refine ⟨y, e1, ?_⟩
    show putE (upd H a (.tup [.int (n : Nat), x])) as xs (n + 1) b = _
    rw [e2, show n + 1 + j = n + (j + 1) by omega]
theorem pairs_laid {X : Cx} {pins : List (Addr × Obj)} {σ : L2.St} {H : Hp} {s : Shared} {g : Heap} {tk : Nat} {xs : List V} {us : List Value} {acc : Array Value} {c : Nat} {as : List Addr} {S : Addr} (I : Inv X pins σ H s) (rv : Vals xs us) (hz : xs.length ≤ sizeLine)
    (kk : ∀ b o, s.heap.get? b = some o → g.get? b = some o) (lo : s.heap.objs.size ≤ S) (hS : g.get? S = some { cls := .type "list", dict := none, data := .seq acc c, slots := #[] }) (la : as.length = us.toArray.size) (hG : EnG us.toArray S g as) (ea : acc.toList = as.map Value.ref) :
    as.length = xs.length ∧ as.Nodup ∧ (∀ t ∈ as, H t = none) ∧ H S = none ∧ S ∉ as ∧ Inv X pins σ (upd (putE H as xs 0) S (.lst (as.map V.ref))) { s with heap := g, toks := tk } := by
  have l2 : as.length = xs.length := by rw [la, List.size_toArray, ← rv.length]
  have nS : S ∉ as := fun z => Nat.lt_irrefl _ (hG.hi _ z)
  have nd : as.Nodup := List.Pairwise.imp (fun {a b} (h : a < b) => Nat.ne_of_lt h) hG.up
  have n1 : ∀ t ∈ as, H t = none := fun t ht => I.hok.fresh (Nat.le_trans lo (Nat.le_of_lt (hG.hi t ht)))
  have n2 : H S = none := I.hok.fresh lo
  have off : ∀ b, b ∉ as → b ≠ S → upd (putE H as xs 0) S (.lst (as.map V.ref)) b = H b := fun b h1 h2 => by rw [upd_ne h2, putE_off _ _ _ _ h1]
  have low : ∀ b o, s.heap.get? b = some o → b ∉ as ∧ b ≠ S := fun b o e => ⟨fun z => absurd (Heap.lt_size e) (Nat.not_lt.mpr (Nat.le_trans lo (Nat.le_of_lt (hG.hi b z)))), Nat.ne_of_lt (Nat.lt_of_lt_of_le (Heap.lt_size e) lo)⟩
  have kp : ∀ b u, H b = some u → upd (putE H as xs 0) S (.lst (as.map V.ref)) b = some u := fun b u e => (off b (fun z => by rw [n1 b z] at e; cases e) fun z => by rw [z, n2] at e; cases e).trans e
  refine ⟨l2, nd, n1, n2, nS, ?_⟩
  refine I.call' (ch := []) rfl ⟨(fun b o q _ _ _ => kk b o q), (fun b o q _ _ _ => ⟨o.slots, kk b o q⟩), (fun b o q n _ => ?_), (fun b o q _ => ⟨o, kk b o q⟩), (fun b xs q => kp b _ q), (fun b o u q => kp b _ q), fun b ps q => ⟨#[], by rw [kp b _ q]; simp⟩⟩ (fun b u q => ?_) I.bare fun b z => by simp at z
  · obtain ⟨z1, z2⟩ := low b o q
    rw [off b z1 z2]
    exact n
  · by_cases hb2 : b = S
    · rw [hb2] at q ⊢
      rw [upd_same] at q
      cases q
      refine ⟨by rw [List.length_map, l2]; exact hz, acc.toList, c, by rw [ea]; exact LiI.vals_refs as, ?_⟩
      rw [Array.toArray_toList]
      exact hS
    · by_cases hb : b ∈ as
      · obtain ⟨j, hj⟩ := List.mem_iff_getElem?.mp hb
        obtain ⟨x, e1, e2⟩ := putE_at as xs H 0 l2 nd j b hj
        rw [upd_ne hb2, e2] at q
        cases q
        obtain ⟨hj2, t, e3⟩ := hG.at' j b hj
        obtain ⟨u, e4, ru⟩ := rv.get e1
        have e5 : us.toArray[j] = u := by
          have : us.toArray[j]? = some u := by simpa using e4
          rw [Array.getElem?_eq_getElem hj2] at this
          exact Option.some.inj this
        rw [e5] at e3
        exact ⟨by show 2 ≤ sizeLine; decide, [.int j t, u], .cons ⟨t, by rw [Nat.zero_add]⟩ (.cons ru .nil), ⟨_, e3, rfl, _, rfl⟩⟩
      · rw [off b hb hb2] at q
        exact (I.hok b u q).stay (fun d v _ y => kk d v y) (fun d y => kp d _ y) fun d xs y => kp d _ y
end DQ
namespace DL
open PySem PySem.Spec PyProof.Rows L2 DQ
def tLstEn (K : PySem.W.Frag) (ta : TA) : TE := fun σ H Q => ta σ H fun vs H1 => ∃ a xs, vs = [.ref a] ∧ SqT K H1 a xs ∧ ∀ (p : Addr) (as : List Addr), as.length = xs.length → as.Nodup → (∀ t ∈ as, H1 t = none) → H1 p = none → p ∉ as → Q (.ref p) (upd (putE H1 as xs 0) p (.lst (as.map V.ref)))
theorem pe_listEn {X : Cx} {e : Expr} {ta : TA} {p p2 pos pos2 : Pos} (K : PySem.W.Frag) (hc : X.calm = true) (hg : Gl X "list") (hm : X.mg "list" = none) (hg2 : Gl X "enumerate") (hm2 : X.mg "enumerate" = none) (ha : PA X [e] ta) (hK : X.K = K := by rfl) (hs : starEach [e] X.env = [(false, eval e X.env)] := by rfl)
    (na : starEach [.Call (.Name "enumerate" p2) [e] [] pos2] X.env = (false, eval (.Call (.Name "enumerate" p2) [e] [] pos2) X.env) :: starEach [] X.env := by rfl) :
    PE X (.Call (.Name "list" p) [.Call (.Name "enumerate" p2) [e] [] pos2] [] pos) (tLstEn K ta) := by
  subst hK
  refine ⟨fun pins s σ H Q I h => ?_⟩
  refine Call_ (ld_blt I hg hm boot_list (PyProof.Rows.callWith_type1 (args_cons (Call_ (ld_blt I hg2 hm2 boot_enumerate (PyProof.Rows.callWith_type1 (wpAny_mono (ha.run pos2 pins s σ H _ I h) (fun us s1 hs1 => ?_) fun _ _ z => z) hs rfl))) na) na))
  obtain ⟨vs, H1, I1, r1, a, xs, rfl, hq, q⟩ := hs1
  obtain ⟨u, rfl, ru⟩ := r1.one
  cases ru
  obtain ⟨its, rv, pt, hz⟩ := I1.tuple hq
  have pt2 : s1.heap.IsTuple a its.toArray := pt
  refine DQ.call_enumT pt2 fun g he hit old => args_nil ?_
  have la : a < s1.heap.objs.size := by obtain ⟨_, o, _⟩ := pt2; exact Heap.lt_size o
  have ez : g.objs.size > s1.heap.objs.size + 1 := Heap.lt_size (by exact he)
  refine en_call (s := { s1 with heap := g }) (us := its.toArray) (t := a) (e := s1.heap.objs.size + 1) (it := s1.heap.objs.size) (I1.ok.hd hc) he hit (pt2.at fun o y => old a o y) (Nat.lt_trans (Nat.lt_succ_self _) ez) (Nat.lt_trans (Nat.lt_succ_of_lt la) ez) (Nat.succ_ne_self _) (Nat.ne_of_lt la) (Nat.ne_of_gt (Nat.lt_succ_of_lt la)) (by rw [List.size_toArray, ← rv.length]; exact hz) fun g2 tk acc c as kk h2 h3 h4 h5 => ?_
  obtain ⟨b1, b2, b3, b4, b5, b6⟩ := pairs_laid (tk := tk) I1 rv hz (fun b o y => kk b o (Nat.ne_of_lt (Nat.lt_succ_of_lt (Heap.lt_size y))) (Nat.ne_of_lt (Heap.lt_size y)) (old b o y)) (Nat.le_of_lt (Nat.lt_trans (Nat.lt_succ_self _) ez)) h2 h3 h4 h5
  exact ⟨.ref _, _, b6, rfl, q _ as b1 b2 b3 b4 b5⟩
section
variable {K : PySem.W.Frag} {δ : En} {M : Mem} {Q : D → Mem → Prop} {tr : TA} {F : Fm}
theorem go_putE : ∀ (as : List Addr) (xs : List V) (H : Hp) (n : Nat), MOk K F M H → as.Nodup → (∀ t ∈ as, H t = none) → Go K F M H M (putE H as xs n)
  | [], _, _, _, k, _, _ => Go.refl k
  | _ :: _, [], _, _, k, _, _ => Go.refl k
  | a :: as, x :: xs, H, n, k, nd, h => by
    obtain ⟨g, _⟩ := go_new (o := .tup [.int (n : Nat), x]) k (h a List.mem_cons_self)
    obtain ⟨n1, n2⟩ := List.nodup_cons.mp nd
    exact g.trans (go_putE as xs _ (n + 1) g.ok n2 fun t ht => by
      rw [upd_ne fun z => n1 (by rw [← z]; exact ht)]
      exact h t (List.mem_cons_of_mem _ ht))
theorem repL_of {G : Hp} : ∀ (vs : List V) (ds : List D), vs.length = ds.length → (∀ (j : Nat) v d, vs[j]? = some v → ds[j]? = some d → Rep K G v d) → RepL K G vs ds
  | [], [], _, _ => .nil
  | [], _ :: _, h, _ => by cases h
  | _ :: _, [], h, _ => by cases h
  | v :: vs, d :: ds, h, f => .cons (f 0 v d rfl rfl) (repL_of vs ds (Nat.succ.inj h) fun j a b h1 h2 => f (j + 1) a b h1 h2)
theorem de_listEn (h : DA K tr δ M fun ds M1 => ∃ xs, ds = [.tup xs] ∧ Q (.lst (enumD xs)) M1) : DE K (tLstEn K tr) δ M Q := fun F σ H en m QV k => by
  refine h F σ H en m _ fun ds M1 vs H1 z g1 r1 => ?_
  obtain ⟨xs, rfl, z⟩ := z
  obtain ⟨v, rfl, r2⟩ := vs1 r1
  cases r2 with
  | @tup a us _ s r =>
    refine ⟨a, us, rfl, sqt_mono vis_le s, fun p as l1 nd n1 n2 n3 => ?_⟩
    have ga := go_putE as us H1 0 g1.ok nd n1
    have np : putE H1 as us 0 p = none := (putE_off as us H1 0 n3).trans n2
    obtain ⟨gp, ep⟩ := go_new (o := .lst (as.map V.ref)) ga.ok np
    refine k _ M1 _ _ z (g1.trans (ga.trans gp)) (.lst (.inl (.inl ep)) (repL_of _ _ (by rw [List.length_map, enumD_len, l1]; exact r.length) fun j v d hv hd => ?_))
    obtain ⟨x, hx, rfl⟩ := enumD_get hd
    rw [List.getElem?_map] at hv
    cases ej : as[j]? with
    | none => rw [ej] at hv; cases hv
    | some t =>
      rw [ej] at hv
      cases hv
      obtain ⟨w, e1, e2⟩ := putE_at as us H1 0 l1 nd j t ej
      obtain ⟨w2, e3, r3⟩ := r.get hx
      rw [e1] at e3
      cases e3
      have ht : t ∈ as := List.mem_of_getElem? ej
      obtain ⟨f1, f2⟩ := g1.ok.new (n1 t ht)
      refine .tup (.inl (.inl (gp.ex _ _ (vis_mk e2 f1 f2)))) (.cons ?_ (.cons ((r3.mono ga.ex).mono gp.ex) .nil))
      rw [Nat.zero_add]
      exact .int _
end
end DL
namespace FL
open PySem PySem.Spec PyProof.Rows L2 DL
section
variable {K : PySem.W.Frag} {te : TE} {tr : TA} {fr : WA}
def tupl1 (ds : List D) (k : List D → Prop) : Prop := match ds with
  | [.tup xs] => k xs
  | _ => False
theorem tupl1_of {ds : List D} {k : List D → Prop} (h : tupl1 ds k) : ∃ xs, ds = [.tup xs] ∧ k xs := by
  unfold tupl1 at h
  split at h
  · exact ⟨_, rfl, h⟩
  · exact h.elim
def eListEn (fr : WA) : WE := fun η M k => fr η M fun ds η1 M1 => tupl1 ds fun xs => k (.lst (enumD xs)) η1 M1
theorem den_listEn (a : DenA K tr fr) : DenE K (tLstEn K tr) (eListEn fr) := fun η A M0 O M δ k re rm h =>
  de_listEn (DA.imp (a η A M0 O M δ _ re rm h) fun ds M1 ⟨η1, M01, re1, rm1, h1⟩ => by
    obtain ⟨xs, e, h2⟩ := tupl1_of h1
    exact ⟨xs, e, η1, M01, re1, rm1, h2⟩)
end
end FL
set_option Elab.async false
set_option linter.all false
set_option maxRecDepth 100000
set_option maxHeartbeats 1000000
namespace DL
open PySem PySem.Spec PyProof.Rows L2
section
variable {K : PySem.W.Frag} {M : Mem} {Q : D → Mem → Prop} {d : D}
theorem call_maxLK {X : Cx} (K : PySem.W.Frag) (hc : X.calm = true := by rfl) (h : X.K = K := by rfl) : CallR X (.builtin "max") (rMax K) := by subst h; exact cr_max hc
theorem dc_maxL {ns : List Int} (h : d = .lst (ns.map D.int)) (h0 : 0 < ns.length) (q : ∀ m, m ∈ ns → (∀ y, y ∈ ns → y ≤ m) → Q (.int m) M) : DC K (rMax K) [d] M Q := fun F H vs m r QV k => by
  subst h
  obtain ⟨v, rfl, r1⟩ := vs1 r
  clear r
  cases r1 with
  | lst s r =>
    obtain rfl := RepL.of_ints r
    exact ⟨_, ns, rfl, vis_le.seq s, h0, fun x h1 h2 => k _ M _ H (q x h1 h2) (Go.refl m) (.int _)⟩
end
end DL
namespace FL
open PySem PySem.Spec PyProof.Rows L2 DL
section
variable {K : PySem.W.Frag} {te ta tb : TE} {tr : TA} {fe fa fb : WE} {fr : WA}
def topI : List Int → Int
  | [] => 0
  | [x] => x
  | x :: y :: r => if topI (y :: r) > x then topI (y :: r) else x
theorem topI_ok : ∀ l : List Int, 0 < l.length → topI l ∈ l ∧ ∀ y, y ∈ l → y ≤ topI l
  | [x], _ => ⟨List.mem_singleton.mpr rfl, fun y h => by rw [List.mem_singleton.mp h]; exact Int.le_refl _⟩
  | x :: y :: r, _ => by
    obtain ⟨h1, h2⟩ := topI_ok (y :: r) (Nat.succ_pos _)
    unfold topI
    split
    · rename_i c
      refine ⟨List.mem_cons_of_mem _ h1, fun z hz => ?_⟩
      rcases List.mem_cons.mp hz with e | e
      · rw [e]; omega
      · exact h2 z e
    · rename_i c
      refine ⟨List.mem_cons_self, fun z hz => ?_⟩
      rcases List.mem_cons.mp hz with e | e
      · rw [e]; exact Int.le_refl _
      · have := h2 z e; omega
def maxLF : Fn := fun _ ds k => one1 ds fun d => lstF d fun xs => optF (intsL xs) fun l => gd (Nat.blt 0 l.length) (k (.int (topI l)))
theorem fc_maxL : FCl K (rMax K) maxLF := fun ds M0 M Q _ h => by
  obtain ⟨d, rfl, h1⟩ := one1_of h
  obtain ⟨xs, rfl, h2⟩ := lstF_of h1
  obtain ⟨l, e, h3⟩ := optF_of h2
  obtain ⟨z, h4⟩ := gd_of h3
  have h0 := Nat.blt_eq.mp z
  obtain ⟨c1, c2⟩ := topI_ok l h0
  refine dc_maxL (by rw [intsL_eq e]) h0 fun m h1 h2 => ⟨rfl, ?_⟩
  rw [show m = topI l from Int.le_antisymm (c2 m h1) (h2 _ c1)]
  exact h4
def eIxW (i : Nat) (fe : WE) : WE := fun η M k => ownF η i fun _ => fe η M fun d η1 M1 => intF d fun j => ownF η1 i fun l => optF (atI l j) fun y => k y η1 M1
theorem den_ixW {i : Nat} (a : DenE K te fe) : DenE K (tOp (rIx K) (tVar i) te) (eIxW i fe) := fun η A M0 O M δ k re rm h => by
  obtain ⟨l0, e0, h⟩ := ownF_of h
  obtain ⟨p, hp, hd⟩ := re.own i l0 e0
  refine de_op (de_var hd ((a η A M0 O M δ _ re rm h).imp fun d M1 ⟨η1, M01, re1, rm1, h1⟩ => ?_))
  obtain ⟨j, rfl, h2⟩ := intF_of h1
  obtain ⟨l, e1, h3⟩ := ownF_of h2
  obtain ⟨y, ey, h4⟩ := optF_of h3
  exact dr_ixM ⟨(rm1.own i l p e1 hp).1, ey, η1, M01, re1, rm1, h4⟩
def sParON (i j : Nat) (fr : WA) (d : D) : WS := fun η M k => fr η M fun ds η1 M1 => gd (szOk ds.length && (notOwn η1 i && notOwn η1 j) && Nat.blt i η1.length && !Nat.beq j i) (k.nx ((η1.set i (.own ds)).set j (.d d)) M1)
theorem den_parON {i j : Nat} {v : V} {d : D} (h : ∀ G, Rep K G v d) (a : DenA K tr fr) : DenS K (tPar i j (tCons (tLst tr) (tCons (tC v) tNil))) (sParON i j fr d) := fun η A M0 O M δ k re rm q =>
  ds_par (da_cons (de_lstM (DA.imp (a η A M0 O M δ _ re rm q) fun ds M1 ⟨η1, M01, re1, rm1, h1⟩ => by
    obtain ⟨z, h1⟩ := gd_of h1
    simp only [Bool.and_eq_true, Bool.not_eq_true', Nat.blt_eq] at z
    obtain ⟨⟨⟨sz, n1, n2⟩, l1⟩, d1⟩ := z
    have d1 : j ≠ i := fun e => by subst e; rw [Nat.beq_refl] at d1; cases d1
    refine ⟨szOk_le sz, fun p hp => da_cons (de_c h (da_nil ⟨_, d, rfl, ?_⟩))⟩
    have np : ∀ (j' : Nat) l', j' ≠ i → η1[j']? = some (.own l') → A j' ≠ some p := fun j' l' _ o e => by
      have := (rm1.own j' l' p o e).1
      rw [hp] at this; cases this
    have e1 := re1.setOwn (i := i) (l := ds) (p := p) l1 np
    have m1 := rm1.put (i := i) (l := ds) (p := p) l1 n1 hp
    have no2 : notOwn (η1.set i (.own ds)) j = true := notOwn_ne n2 (fun e => d1 e.symm)
    exact ⟨_, _, M01, e1.set j d, m1.set (i := j) (x := d) no2, h1⟩)))
end
end FL
set_option Elab.async false
set_option linter.all false
set_option maxRecDepth 100000
set_option maxHeartbeats 1000000
namespace FL
open PySem PySem.Spec PyProof.Rows L2 DL
def natsL : List D → Option (List Nat)
  | [] => some []
  | .int (.ofNat n) :: r => (natsL r).map (n :: ·)
  | _ => none
theorem natsL_eq : ∀ {l : List D} {ns : List Nat}, natsL l = some ns → l = nL ns
  | [], _, h => by cases h; rfl
  | .int (.ofNat n) :: r, _, h => by
    rw [natsL] at h
    cases e : natsL r with
    | none => rw [e] at h; cases h
    | some ys => rw [e] at h; cases h; rw [natsL_eq e]; rfl
def tupsN : List D → Option (List (List Nat))
  | [] => some []
  | .tup xs :: r => (natsL xs).bind fun l => (tupsN r).map (l :: ·)
  | _ => none
theorem tupsN_eq : ∀ {l : List D} {L : List (List Nat)}, tupsN l = some L → l = tL L
  | [], _, h => by cases h; rfl
  | .tup xs :: r, _, h => by
    rw [tupsN] at h
    cases e : natsL xs with
    | none => rw [e] at h; cases h
    | some ns =>
      rw [e] at h
      cases e2 : tupsN r with
      | none => simp [e2] at h
      | some L => simp [e2] at h; subst h; rw [tupsN_eq e2, natsL_eq e]; rfl
def insN (B : Int) (x : List Nat) : List (List Nat) → List (List Nat)
  | [] => [x]
  | y :: r => if cdN B x ≤ cdN B y then x :: y :: r else y :: insN B x r
def srtN (B : Int) : List (List Nat) → List (List Nat)
  | [] => []
  | x :: r => insN B x (srtN B r)
theorem perm_insN (B : Int) (x : List Nat) : ∀ r, (insN B x r).Perm (x :: r)
  | [] => .refl _
  | y :: r => by
    unfold insN
    split
    · exact .refl _
    · exact ((perm_insN B x r).cons y).trans (.swap x y r)
theorem perm_srtN (B : Int) : ∀ r, (srtN B r).Perm r
  | [] => .refl _
  | x :: r => (perm_insN B x _).trans ((perm_srtN B r).cons x)
def ascB (B : Int) : List (List Nat) → Bool
  | x :: y :: r => decide (cdN B x < cdN B y) && ascB B (y :: r)
  | _ => true
theorem ascB_pw {B : Int} : ∀ {L : List (List Nat)}, ascB B L = true → L.Pairwise fun a b => cdN B a < cdN B b
  | [], _ => .nil
  | [x], _ => List.pairwise_singleton _ _
  | x :: y :: r, h => by
    rw [ascB, Bool.and_eq_true] at h
    have h1 := of_decide_eq_true h.1
    have ih := ascB_pw h.2
    refine .cons (fun z hz => ?_) ih
    rcases List.mem_cons.mp hz with e | e
    · rw [e]; exact h1
    · exact Int.lt_trans h1 ((List.pairwise_cons.mp ih).1 z e)
def lenN : List (List Nat) → Nat
  | [] => 1
  | l :: _ => l.length
def okN (L : List (List Nat)) : Bool := Nat.blt L.length 64 && Nat.blt 0 (lenN L) && L.all fun l => Nat.beq l.length (lenN L) && l.all fun a => Nat.blt a 1000
section
variable {K : PySem.W.Frag}
def sortVF : Fn := fun _ ds k => one1 ds fun d => lstF d fun xs => optF (tupsN xs) fun L => gd (okN L && ascB 1000 (srtN 1000 L)) (k (.lst (tL (srtN 1000 L))))
theorem fc_sortV : FCl K (rSortV K) sortVF := fun ds M0 M Q _ h => by
  obtain ⟨d, rfl, h1⟩ := one1_of h
  obtain ⟨xs, rfl, h2⟩ := lstF_of h1
  obtain ⟨L, e, h3⟩ := optF_of h2
  obtain ⟨z, h4⟩ := gd_of h3
  have e3 := tupsN_eq e
  subst e3
  rw [Bool.and_eq_true, okN, Bool.and_eq_true, Bool.and_eq_true] at z
  obtain ⟨⟨⟨z1, z2⟩, z3⟩, z4⟩ := z
  refine dc_sortV ⟨lenN L, 1000, Nat.blt_eq.mp z2, Nat.blt_eq.mp z1, fun l hl => ?_, fun L' pm so => ⟨rfl, ?_⟩⟩
  · have := List.all_eq_true.mp z3 l hl
    rw [Bool.and_eq_true] at this
    refine ⟨Nat.eq_of_beq_eq_true this.1, fun a ha => ?_⟩
    have := Nat.blt_eq.mp (List.all_eq_true.mp this.2 a ha)
    omega
  · rw [DL.asc_uniq (f := cdN 1000) (pm.trans (perm_srtN 1000 L).symm) so (ascB_pw z4)]
    exact h4
def anyF : Fn := fun _ ds k => one1 ds fun d => lstF d fun xs => optF (blsOf xs) fun bs => k (.bl (bs.any id))
def cDiv (i j : Int) : Bool := decide (0 < j) && decide (j ≤ 1000000) && decide (-1000000 < i) && decide (i < 1000000)
theorem cDiv_of (i j : Int) (h : cDiv i j = true) : CDiv i j := by
  unfold cDiv at h
  simp only [Bool.and_eq_true, decide_eq_true_eq] at h
  obtain ⟨⟨⟨a, b⟩, c⟩, d⟩ := h
  exact ⟨a, by omega⟩
theorem fc_any : FCl K (rAny K) anyF := fun ds M0 M Q _ h => by
  obtain ⟨d, rfl, h⟩ := one1_of h
  obtain ⟨xs, rfl, h⟩ := lstF_of h
  obtain ⟨bs, e, h⟩ := optF_of h
  rw [blsOf_eq e]
  exact dc_any rfl ⟨rfl, h⟩
end
end FL
set_option Elab.async false
set_option linter.all false
set_option maxRecDepth 100000
set_option maxHeartbeats 1000000
namespace PK
open PySem PySem.Spec PyProof.Rows L2 DL LamX FL
def B_is_name : WS := (sSeq (sIf (bOr (bNot (bTru (eCB isiF (aCons (eVar 0) (aCons (eC (.raw (.ty "str"))) aNil))))) (bNot (bTest (eChain (ibF fun i j => decide (i ≤ j)) (ibF fun i j => decide (i ≤ j)) (eC (.int 1)) (eCB lenF (aCons (eVar 0) aNil)) (eC (.int 8)))))) (sRet (eC (.bl false))) sNext) (sRet (eCB allF (aCons (eLc (iText (eVar 0)) (gNm 1) bYes (eOp (inSignF false) (eVar 1) (eC (.str "abcdefghijklmnopqrstuvwxyz"))) [1]) aNil))))
def F_is_name : FF := bodyF 2 (B_is_name)
abbrev p_is_name : PT0 := prom 1 (F_is_name)
def B_is_number : WS := (sRet (eAnd (eCB isiF (aCons (eVar 0) (aCons (eC (.raw (.ty "int"))) aNil))) (eNot (eCB isiF (aCons (eVar 0) (aCons (eC (.raw (.ty "bool"))) aNil))))))
def F_is_number : FF := bodyF 1 (B_is_number)
abbrev p_is_number : PT0 := prom 1 (F_is_number)
def B_is_index : WS := (sRet (eAnd (eCall F_is_number 1 (aCons (eVar 0) aNil)) (eChain (ibF fun i j => decide (i ≤ j)) (ibF fun i j => decide (i < j)) (eC (.int 0)) (eVar 0) (eVar 1))))
def F_is_index : FF := bodyF 2 (B_is_index)
abbrev p_is_index : PT0 := prom 2 (F_is_index)
def B_are_ascending : WS := (sRet (eCB allF (aCons (eLc (iZipF (aCons (eVar 0) (aCons (eSl (eVar 0) (oPt (eC (.int 1))) oNo) aNil))) (gTp 2 (gsCons (gNm 1) (gsCons (gNm 2) gsNil))) bYes (eOp (ordF (fun i j => decide (i < j)) fun x y => decide (x < y)) (eVar 1) (eVar 2)) [1, 2]) aNil)))
def F_are_ascending : FF := bodyF 3 (B_are_ascending)
abbrev p_are_ascending : PT0 := prom 1 (F_are_ascending)
def B_is_deed : WS := (sSeq (sIf (bOr (bTest (eOp (eqF true) (eCB lenF (aCons (eVar 0) aNil)) (eC (.int 3)))) (bOr (bNot (bTru (eCall F_is_name 1 (aCons (eOp ixF (eVar 0) (eC (.int 1))) aNil)))) (bNot (bTru (eCB isiF (aCons (eOp ixF (eVar 0) (eC (.int 2))) (aCons (eC (.raw (.ty "tuple"))) aNil))))))) (sRet (eC (.bl false))) sNext) (sSeq (sIf (bNot (bTest (eChain (ibF fun i j => decide (i ≤ j)) (ibF fun i j => decide (i ≤ j)) (eC (.int 1)) (eCB lenF (aCons (eOp ixF (eVar 0) (eC (.int 2))) aNil)) (eC (.int 3))))) (sRet (eC (.bl false))) sNext) (sRet (eCB allF (aCons (eLc (iTupl (eOp ixF (eVar 0) (eC (.int 2)))) (gNm 1) bYes (eOr (eOp (isNF false) (eVar 1) (eC .non)) (eCall F_is_index 2 (aCons (eVar 1) (aCons (eC (.int 3)) aNil)))) [1]) aNil)))))
def F_is_deed : FF := bodyF 2 (B_is_deed)
abbrev p_is_deed : PT0 := prom 1 (F_is_deed)
def B_is_sequence : WS := (sRet (eC (.bl true)))
def F_is_sequence : FF := bodyF 1 (B_is_sequence)
abbrev p_is_sequence : PT0 := prom 1 (F_is_sequence)
def B_is_choice : WS := (sRet (eOp (ibF fun i j => decide (j ≤ i)) (eCB lenF (aCons (eVar 0) aNil)) (eC (.int 2))))
def F_is_choice : FF := bodyF 1 (B_is_choice)
abbrev p_is_choice : PT0 := prom 1 (F_is_choice)
def B_is_case : WS := (sRet (eChain (ibF fun i j => decide (i ≤ j)) (ibF fun i j => decide (i ≤ j)) (eC (.int 1)) (eOp (iiF fun i j => i - j) (eCB lenF (aCons (eVar 0) aNil)) (eC (.int 1))) (eC (.int 3))))
def F_is_case : FF := bodyF 1 (B_is_case)
abbrev p_is_case : PT0 := prom 1 (F_is_case)
def B_is_named : WS := (sRet (eAnd (eOp (eqF false) (eCB lenF (aCons (eVar 0) aNil)) (eC (.int 2))) (eCall F_is_name 1 (aCons (eOp ixF (eVar 0) (eC (.int 1))) aNil))))
def F_is_named : FF := bodyF 1 (B_is_named)
abbrev p_is_named : PT0 := prom 1 (F_is_named)
def B_is_call : WS := (sRet (eAnd (eOp (ibF fun i j => decide (j ≤ i)) (eCB lenF (aCons (eVar 0) aNil)) (eC (.int 2))) (eCall F_is_name 1 (aCons (eOp ixF (eVar 0) (eC (.int 1))) aNil))))
def F_is_call : FF := bodyF 1 (B_is_call)
abbrev p_is_call : PT0 := prom 1 (F_is_call)
def B_is_scope : WS := (sRet (eAnd (eOp (eqF false) (eCB lenF (aCons (eVar 0) aNil)) (eC (.int 3))) (eCall F_is_name 1 (aCons (eOp ixF (eVar 0) (eC (.int 1))) aNil))))
def F_is_scope : FF := bodyF 1 (B_is_scope)
abbrev p_is_scope : PT0 := prom 1 (F_is_scope)
def B_is_answer : WS := (sSeq (sIf (bOr (bTest (eOp (eqF true) (eCB lenF (aCons (eVar 0) aNil)) (eC (.int 3)))) (bOr (bNot (bTru (eCB isiF (aCons (eOp ixF (eVar 0) (eC (.int 1))) (aCons (eC (.raw (.ty "tuple"))) aNil))))) (bTest (eOp (eqF false) (eCB lenF (aCons (eOp ixF (eVar 0) (eC (.int 1))) aNil)) (eC (.int 0)))))) (sRet (eC (.bl false))) sNext) (sSeq (sFor (iTupl (eOp ixF (eVar 0) (eC (.int 1)))) (gNm 1) (sIf (bOr (bNot (bTru (eCB isiF (aCons (eVar 1) (aCons (eC (.raw (.ty "tuple"))) aNil))))) (bOr (bTest (eOp (eqF true) (eCB lenF (aCons (eVar 1) aNil)) (eC (.int 2)))) (bNot (bTru (eCall F_is_name 1 (aCons (eOp ixF (eVar 1) (eC (.int 0))) aNil)))))) (sRet (eC (.bl false))) sNext)) (sRet (eCall F_are_ascending 1 (aCons (eLc (iTupl (eOp ixF (eVar 0) (eC (.int 1)))) (gNm 1) bYes (eOp ixF (eVar 1) (eC (.int 0))) [1]) aNil)))))
def F_is_answer : FF := bodyF 2 (B_is_answer)
abbrev p_is_answer : PT0 := prom 1 (F_is_answer)
def B_terms_in_5 : WS := (sRet (eTup aNil))
def B_terms_in_4 : WS := (sSeq (sIf (bTest (eOp (eqF false) (eVar 1) (eC (.str "answer")))) (sRet (eOp addF (eCB tupleF (aCons (eLc (iTupl (eOp ixF (eVar 0) (eC (.int 1)))) (gNm 2) bYes (eOp ixF (eVar 2) (eC (.int 1))) [2]) aNil)) (eSl (eVar 0) (oPt (eC (.int 2))) oNo))) sNext) B_terms_in_5)
def B_terms_in_3 : WS := (sSeq (sIf (bTest (eOp (eqF false) (eVar 1) (eC (.str "scope")))) (sRet (eSl (eVar 0) (oPt (eC (.int 2))) oNo)) sNext) B_terms_in_4)
def B_terms_in_2 : WS := (sSeq (sIf (bTest (eOp (eqF false) (eVar 1) (eC (.str "call")))) (sRet (eSl (eVar 0) (oPt (eC (.int 2))) oNo)) sNext) B_terms_in_3)
def B_terms_in_1 : WS := (sSeq (sIf (bTest (eOp (inF false) (eVar 1) (eTup (aCons (eC (.str "seq")) (aCons (eC (.str "or")) (aCons (eC (.str "and")) (aCons (eC (.str "case")) aNil))))))) (sRet (eSl (eVar 0) (oPt (eC (.int 1))) oNo)) sNext) B_terms_in_2)
def B_terms_in : WS := (sSeq (sSet 1 (eOp ixF (eVar 0) (eC (.int 0)))) B_terms_in_1)
def F_terms_in : FF := bodyF 3 (B_terms_in)
abbrev p_terms_in : PT0 := prom 1 (F_terms_in)
def look_FORMS : Str → Option FF := fun z => if z = ("do" : Str) then some F_is_deed else if z = ("seq" : Str) then some F_is_sequence else if z = ("or" : Str) then some F_is_choice else if z = ("and" : Str) then some F_is_choice else if z = ("case" : Str) then some F_is_case else if z = ("run" : Str) then some F_is_named else if z = ("call" : Str) then some F_is_call else if z = ("scope" : Str) then some F_is_scope else if z = ("exit" : Str) then some F_is_named else if z = ("raise" : Str) then some F_is_named else if z = ("answer" : Str) then some F_is_answer else none
def B_has_form : WS := (sSeq (sIf (bOr (bNot (bTru (eCB isiF (aCons (eVar 0) (aCons (eC (.raw (.ty "tuple"))) aNil))))) (bTest (eOp (eqF false) (eCB lenF (aCons (eVar 0) aNil)) (eC (.int 0))))) (sRet (eC (.bl false))) sNext) (sSeq (sIf (bOr (bNot (bTru (eCB isiF (aCons (eOp ixF (eVar 0) (eC (.int 0))) (aCons (eC (.raw (.ty "str"))) aNil))))) (bTest (eTabIn look_FORMS true (eOp ixF (eVar 0) (eC (.int 0)))))) (sRet (eC (.bl false))) sNext) (sTabRet look_FORMS 1 1 (eOp ixF (eVar 0) (eC (.int 0))) (aCons (eVar 0) aNil))))
def F_has_form : FF := bodyF 2 (B_has_form)
abbrev p_has_form : PT0 := prom 1 (F_has_form)
def B_terms_of (rec : FF) : WS := (sSeq (sSet 1 (eLst (aCons (eVar 0) aNil))) (sSeq (sFor (iTupl (eCall F_terms_in 1 (aCons (eVar 0) aNil))) (gNm 2) (sSet 1 (eOp addF (eVar 1) (eCall rec 1 (aCons (eVar 2) aNil))))) (sRet (eVar 1))))
def F_terms_of : Nat → FF
  | 0 => fun _ _ _ => False
  | n + 1 => bodyF 3 (B_terms_of (F_terms_of n))
abbrev p_terms_of : PT0 := prom 1 (F_terms_of 10)
def B_exits_fit (rec : FF) : WS := (sSeq (sIf (bTest (eOp (eqF false) (eOp ixF (eVar 0) (eC (.int 0))) (eC (.str "exit")))) (sRet (eOp (inF false) (eOp ixF (eVar 0) (eC (.int 1))) (eVar 1))) sNext) (sSeq (sSet 2 (eVar 1)) (sSeq (sIf (bTest (eOp (eqF false) (eOp ixF (eVar 0) (eC (.int 0))) (eC (.str "scope")))) (sSet 2 (eOp addF (eVar 1) (eTup (aCons (eOp ixF (eVar 0) (eC (.int 1))) aNil)))) sNext) (sRet (eCB allF (aCons (eLc (iTupl (eCall F_terms_in 1 (aCons (eVar 0) aNil))) (gNm 3) bYes (eCall rec 2 (aCons (eVar 3) (aCons (eVar 2) aNil))) [3]) aNil))))))
def F_exits_fit : Nat → FF
  | 0 => fun _ _ _ => False
  | n + 1 => bodyF 4 (B_exits_fit (F_exits_fit n))
abbrev p_exits_fit : PT0 := prom 2 (F_exits_fit 10)
def B_are_names : WS := (sSeq (sIf (bOr (bNot (bTru (eCB isiF (aCons (eVar 0) (aCons (eC (.raw (.ty "tuple"))) aNil))))) (bNot (bTru (eCB allF (aCons (eLc (iTupl (eVar 0)) (gNm 1) bYes (eCall F_is_name 1 (aCons (eVar 1) aNil)) [1]) aNil))))) (sRet (eC (.bl false))) sNext) (sRet (eOp (eqF false) (eLenSet (eVar 0)) (eCB lenF (aCons (eVar 0) aNil)))))
def F_are_names : FF := bodyF 2 (B_are_names)
abbrev p_are_names : PT0 := prom 1 (F_are_names)
def B_are_parameters : WS := (sRet (eAnd (eCall F_are_names 1 (aCons (eVar 0) aNil)) (eOp (ibF fun i j => decide (i ≤ j)) (eCB lenF (aCons (eVar 0) aNil)) (eC (.int 3)))))
def F_are_parameters : FF := bodyF 1 (B_are_parameters)
abbrev p_are_parameters : PT0 := prom 1 (F_are_parameters)
def B_is_small_f0_2 : WS := (sSet 1 (eLc2 (iLst (eVar 1)) (gNm 4) bYes (iTupl (eCall F_terms_in 1 (aCons (eVar 4) aNil))) (gNm 5) bYes (eVar 5) [4, 5] [5]))
def B_is_small_f0_1 : WS := (sSeq (sIf (bOr (bTest (eOp (ibF fun i j => decide (j < i)) (eVar 2) (eC (.int 40)))) (bNot (bTru (eCB allF (aCons (eLc (iLst (eVar 1)) (gNm 4) bYes (eCall F_has_form 1 (aCons (eVar 4) aNil)) [4]) aNil))))) (sRet (eC (.bl false))) sNext) B_is_small_f0_2)
def B_is_small_f0 : WS := (sSeq (sSet 2 (eOp addF (eVar 2) (eCB lenF (aCons (eVar 1) aNil)))) B_is_small_f0_1)
def B_is_small_3 : WS := (sRet (eOp (eqF false) (eCB lenF (aCons (eVar 1) aNil)) (eC (.int 0))))
def B_is_small_2 : WS := (sSeq (sFor (iR1 (aCons (eC (.int 6)) aNil)) (gNm 3) B_is_small_f0) B_is_small_3)
def B_is_small_1 : WS := (sSeq (sSet 2 (eC (.int 0))) B_is_small_2)
def B_is_small : WS := (sSeq (sSet 1 (eLst (aCons (eVar 0) aNil))) B_is_small_1)
def F_is_small : FF := bodyF 6 (B_is_small)
abbrev p_is_small : PT0 := prom 1 (F_is_small)
def B_is_bound_3 : WS := (sRet (eAnd (eOp (eqF false) (eLenSet (eVar 3)) (eCB lenF (aCons (eVar 3) aNil))) (eCall (F_exits_fit 10) 2 (aCons (eVar 0) (aCons (eTup aNil) aNil)))))
def B_is_bound_2 : WS := (sSeq (sSet 3 (eLc (iLst (eVar 2)) (gNm 4) (bTest (eOp (eqF false) (eOp ixF (eVar 4) (eC (.int 0))) (eC (.str "scope")))) (eOp ixF (eVar 4) (eC (.int 1))) [4])) B_is_bound_3)
def B_is_bound_1 : WS := (sSeq (sIf (bNot (bTru (eCB allF (aCons (eLc (iLst (eVar 2)) (gNm 4) (bTest (eOp (eqF false) (eOp ixF (eVar 4) (eC (.int 0))) (eC (.str "run")))) (eOp (inF false) (eOp ixF (eVar 4) (eC (.int 1))) (eVar 1)) [4]) aNil)))) (sRet (eC (.bl false))) sNext) B_is_bound_2)
def B_is_bound : WS := (sSeq (sSet 2 (eCall (F_terms_of 10) 1 (aCons (eVar 0) aNil))) B_is_bound_1)
def F_is_bound : FF := bodyF 5 (B_is_bound)
abbrev p_is_bound : PT0 := prom 2 (F_is_bound)
def B_is_term : WS := (sSeq (sIf (bNot (bTru (eCall F_are_parameters 1 (aCons (eVar 1) aNil)))) sNever sNext) (sRet (eAnd (eCall F_is_small 1 (aCons (eVar 0) aNil)) (eCall F_is_bound 2 (aCons (eVar 0) (aCons (eVar 1) aNil))))))
def F_is_term : FF := bodyF 2 (B_is_term)
abbrev p_is_term : PT0 := prom 2 (F_is_term)
def B_ascending : WS := (sRet (eCB tupleF (aCons (eSortSet (eVar 0)) aNil)))
def F_ascending : FF := bodyF 1 (B_ascending)
def B_named_in : WS := (sRet (eCall F_ascending 1 (aCons (eLc (iLst (eVar 0)) (gNm 2) (bTest (eOp (eqF false) (eOp ixF (eVar 2) (eC (.int 0))) (eVar 1))) (eOp ixF (eVar 2) (eC (.int 1))) [2]) aNil)))
def F_named_in : FF := bodyF 3 (B_named_in)
def B_signals_in : WS := (sSeq (sSet 1 (eLc (iLst (eVar 0)) (gNm 3) (bTest (eOp (eqF false) (eOp ixF (eVar 3) (eC (.int 0))) (eC (.str "raise")))) (eOp ixF (eVar 3) (eC (.int 1))) [3])) (sSeq (sSet 2 (eLc2 (iLst (eVar 0)) (gNm 3) (bTest (eOp (eqF false) (eOp ixF (eVar 3) (eC (.int 0))) (eC (.str "answer")))) (iTupl (eOp ixF (eVar 3) (eC (.int 1)))) (gNm 4) bYes (eOp ixF (eVar 4) (eC (.int 0))) [3, 4] [4])) (sRet (eCall F_ascending 1 (aCons (eOp addF (eVar 1) (eVar 2)) aNil)))))
def F_signals_in : FF := bodyF 5 (B_signals_in)
def B_Procedure___init___9 (C_Procedure : Addr) : WS := (sPut C_Procedure "_uses" (eVar 0) (eCall F_named_in 2 (aCons (eFld C_Procedure "_terms" (eVar 0)) (aCons (eC (.str "call")) aNil))))
def B_Procedure___init___8 (C_Procedure : Addr) : WS := (sSeq (sPut C_Procedure "_labels" (eVar 0) (eCall F_named_in 2 (aCons (eFld C_Procedure "_terms" (eVar 0)) (aCons (eC (.str "scope")) aNil)))) (B_Procedure___init___9 C_Procedure))
def B_Procedure___init___7 (C_Procedure : Addr) : WS := (sSeq (sPut C_Procedure "_signals" (eVar 0) (eCall F_signals_in 1 (aCons (eFld C_Procedure "_terms" (eVar 0)) aNil))) (B_Procedure___init___8 C_Procedure))
def B_Procedure___init___6 (C_Procedure : Addr) : WS := (sSeq (sPut C_Procedure "_words" (eVar 0) (eCall F_named_in 2 (aCons (eFld C_Procedure "_terms" (eVar 0)) (aCons (eC (.str "do")) aNil)))) (B_Procedure___init___7 C_Procedure))
def B_Procedure___init___5 (C_Procedure : Addr) : WS := (sSeq (sPut C_Procedure "_terms" (eVar 0) (eCall (F_terms_of 10) 1 (aCons (eVar 3) aNil))) (B_Procedure___init___6 C_Procedure))
def B_Procedure___init___4 (C_Procedure : Addr) : WS := (sSeq (sPut C_Procedure "_body" (eVar 0) (eVar 3)) (B_Procedure___init___5 C_Procedure))
def B_Procedure___init___3 (C_Procedure : Addr) : WS := (sSeq (sPut C_Procedure "_parameters" (eVar 0) (eVar 2)) (B_Procedure___init___4 C_Procedure))
def B_Procedure___init___2 (C_Procedure : Addr) : WS := (sSeq (sPut C_Procedure "_named" (eVar 0) (eVar 1)) (B_Procedure___init___3 C_Procedure))
def B_Procedure___init___1 (C_Procedure : Addr) : WS := (sSeq (sIf (bNot (bTru (eCall F_is_term 2 (aCons (eVar 3) (aCons (eVar 2) aNil))))) sNever sNext) (B_Procedure___init___2 C_Procedure))
def B_Procedure___init__ (C_Procedure : Addr) : WS := (sSeq (sIf (bNot (bTru (eCall F_is_name 1 (aCons (eVar 1) aNil)))) sNever sNext) (B_Procedure___init___1 C_Procedure))
def F_Procedure___init__ (C_Procedure : Addr) : FF := bodyF 4 (B_Procedure___init__ C_Procedure)
local macro_rules | `(tactic| walk_at "mul") => `(tactic| first | exact Or.inl ⟨by decide, by decide⟩ | exact Or.inr ⟨by decide, by decide⟩ | exact Or.inl ⟨by omega, by omega⟩ | exact Or.inr ⟨by omega, by omega⟩)
local macro_rules | `(tactic| walk_at "dx") => `(tactic| first
  | (with_reducible refine' de_int ?_) | (with_reducible refine' de_bl ?_) | (with_reducible refine' de_non ?_) | (with_reducible refine' de_str ?_)
  | (with_reducible refine' de_varE ?_; refine' ⟨_, rfl, ?_⟩)
  | (with_reducible refine' de_raw ?_) | (with_reducible refine' de_dnew ?_)
  | (with_reducible refine' de_op ?_) | (with_reducible refine' de_un ?_)
  | (with_reducible refine' dr_addI ?_) | (with_reducible refine' dr_I0 ?_) | (with_reducible refine' dr_B0 ?_) | (with_reducible refine' dr_IE ?_; refine' ⟨?_, ?_⟩) | (with_reducible refine' du_I ?_)
  | (with_reducible refine' dt_test' ?_) | (with_reducible refine' dt_B ?_) | (with_reducible refine' dt_not ?_) | (with_reducible refine' dt_and ?_) | (with_reducible refine' dt_or ?_) | (with_reducible refine' dt_tru ?_)
  | (with_reducible refine' isB_mk ?_) | (with_reducible refine' tru_bl ?_) | (with_reducible refine' tru_int ?_) | (with_reducible refine' tru_lst ?_) | (with_reducible refine' tru_tup ?_) | (with_reducible refine' tru_non ?_)
  | (with_reducible refine' ex_str ?_) | (with_reducible refine' ex_lst ?_) | (with_reducible refine' ex_tup ?_) | (with_reducible refine' ex_int ?_) | (with_reducible refine' ex_i1 ?_) | (with_reducible refine' ex_i2 ?_) | (with_reducible refine' ex_p2 ?_)
  | (with_reducible refine' di_list ?_) | (with_reducible refine' di_tup ?_) | (with_reducible refine' di_str ?_) | (with_reducible refine' di_rng1 ?_) | (with_reducible refine' di_rng2 ?_)
  | (with_reducible refine' de_chain ?_) | (with_reducible refine' de_if ?_) | (with_reducible refine' de_andV ?_) | (with_reducible refine' de_orV ?_) | (with_reducible refine' de_notV ?_)
  | (with_reducible refine' da_nil ?_) | (with_reducible refine' da_cons ?_)
  | (with_reducible refine' de_call ?_) | (with_reducible refine' de_CB ?_)
  | (with_reducible refine' ds_next ?_) | (with_reducible refine' ds_seq ?_) | (with_reducible refine' ds_drop ?_) | (with_reducible refine' ds_ret ?_) | (with_reducible refine' ds_retN ?_) | (with_reducible refine' ds_if ?_) | (with_reducible refine' ds_set ?_; dsimp only [List.set_cons_succ, List.set_cons_zero]) | (with_reducible refine' ds_asgx ?_) | (with_reducible refine' ds_par ?_)
  | (with_reducible refine' dg_name ?_; dsimp only [List.set_cons_succ, List.set_cons_zero])
  | (with_reducible refine' dr_ixDE0 ?_; refine' ⟨by assumption, fun i => ?_⟩) | (with_reducible refine' dr_ixDE1 ?_; refine' ⟨by assumption, fun i => ?_⟩) | (with_reducible refine' dr_ixDE2 ?_; refine' ⟨by assumption, fun i => ?_⟩)
  | (with_reducible refine' ite_1 ?_) | (with_reducible refine' ite_0 ?_)
  | (with_reducible refine' ite_d ?_ ?_ <;> intro hb) | (with_reducible refine' ite_nn ?_)
  | (with_reducible refine' dc_len_lst ?_) | (with_reducible refine' dc_len_tup ?_) | (with_reducible refine' dc_abs ?_) | (with_reducible refine' dc_max2 ?_) | (with_reducible refine' dc_min2 ?_) | (with_reducible refine' dc_intI ?_) | (with_reducible refine' dc_intB ?_) | (with_reducible refine' dc_reprB ?_))
local macro_rules | `(tactic| walk_at "go") => `(tactic| repeat' walk_at "dx")
local macro_rules | `(tactic| walk_at "gol") => `(tactic| repeat' first | walk_at "dx" | (with_reducible refine' de_tup ?_) | (with_reducible refine' de_lst ?_) | (with_reducible refine' sz_and ?_ ?_; exact Nat.le_of_ble_eq_true rfl))
local macro_rules | `(tactic| walk_at "x0") => `(tactic| try dsimp only [cxOf, Cx.nox, Cx.wish, List.map_cons, List.map_nil, wipeD, List.set_cons_succ, List.set_cons_zero])
def isDie : Option MO → Bool
  | some .die => true
  | _ => false
theorem isDie_of {o : Option MO} (h : isDie o = true) : o = some .die := by
  unfold isDie at h
  split at h
  · rfl
  · cases h
def F__law_numbers : FF := fun ds M Q => ∃ (ns : List Int) (k : Nat), ds = [.lst (ns.map D.int), .int (k : Int)] ∧ ns.length ≤ 63 ∧ ∀ p, M p = none → Q (.raw (.ref p)) (mup M p .die)
def castK (p : Addr) (n : Int) (M : Mem) (Q : D → Mem → Prop) : Prop := gd (isDie (M p)) (gd (decide (0 < n) && decide (n < 1000000)) (∀ i : Nat, (i : Int) < n → Q (.int (i : Int)) M))
def F__law_cast : FF := fun ds M Q => match ds with
  | [.raw (.ref p), .int n] => castK p n M Q
  | _ => False
abbrev p__law_numbers : PT0 := prom 2 F__law_numbers
abbrev p__law_cast : PT0 := prom 2 F__law_cast
theorem numbers_of {ds : List D} {M : Mem} {R : D → Mem → Prop} (h : p__law_numbers ds M R) : ∃ (ns : List Int) (k : Nat), ds = [.lst (ns.map D.int), .int (k : Int)] ∧ ns.length ≤ 63 ∧ ∀ p, M p = none → R (.raw (.ref p)) (mup M p .die) := by
  obtain ⟨_, M0, O, Q, j, ⟨ns, k, e, hl, q⟩, hq⟩ := h
  exact ⟨ns, k, e, hl, fun p hp => hq _ _ _ (q p (jn_none j hp).1) (jn_mup j (jn_none j hp).2)⟩
theorem cast_of {ds : List D} {M : Mem} {R : D → Mem → Prop} (h : p__law_cast ds M R) : ∃ (p : Addr) (n : Int), ds = [.raw (.ref p), .int n] ∧ M p = some .die ∧ 0 < n ∧ n < 1000000 ∧ ∀ i : Int, 0 ≤ i → i < n → R (.int i) M := by
  obtain ⟨_, M0, O, Q, j, hf, hq⟩ := h
  have key : ∀ (p : Addr) (n : Int), ds = [.raw (.ref p), .int n] → castK p n M0 Q → ∃ (p : Addr) (n : Int), ds = [.raw (.ref p), .int n] ∧ M p = some .die ∧ 0 < n ∧ n < 1000000 ∧ ∀ i : Int, 0 ≤ i → i < n → R (.int i) M := fun p n e hk => by
    obtain ⟨z, h2⟩ := gd_of hk
    obtain ⟨z2, h3⟩ := gd_of h2
    rw [Bool.and_eq_true] at z2
    refine ⟨p, n, e, (jn_some j (isDie_of z)).1, of_decide_eq_true z2.1, of_decide_eq_true z2.2, fun i h0 h1 => ?_⟩
    have := h3 i.toNat (by omega)
    rw [Int.toNat_of_nonneg h0] at this
    exact hq _ _ _ this j
  unfold F__law_cast at hf
  split at hf
  · exact key _ _ rfl hf
  · exact hf.elim
def B__law_pick : WS := (sRet (eOp ixF (eVar 1) (eCall F__law_cast 2 (aCons (eVar 0) (aCons (eCB lenF (aCons (eVar 1) aNil)) aNil)))))
def F__law_pick : FF := bodyF 2 (B__law_pick)
abbrev p__law_pick : PT0 := prom 2 (F__law_pick)
end PK
set_option Elab.async false
set_option linter.all false
set_option maxRecDepth 100000
set_option maxHeartbeats 1000000
namespace PK
open PySem PySem.Spec PyProof.Rows L2 DL LamX FL
def AZ : List Nat := ("abcdefghijklmnopqrstuvwxyz" : Str).cps.toList
def nameB (x : Str) : Bool := decide (1 ≤ x.length) && decide (x.length ≤ 8) && x.cps.toList.all fun c => decide (c ∈ AZ)
structure NamesT where
def NAMES : NamesT := ⟨⟩
instance : Membership Str NamesT := ⟨fun _ x => nameB x = true⟩
instance {x : Str} {N : NamesT} : Decidable (x ∈ N) := inferInstanceAs (Decidable (nameB x = true))
theorem names_mk {x : Str} (h : nameB x = true) : x ∈ NAMES := h
theorem names_b {x : Str} (h : x ∈ NAMES) : nameB x = true := h
theorem names_len {x : Str} (h : x ∈ NAMES) : x.length ≤ 8 := by
  have h := names_b h
  unfold nameB at h
  rw [Bool.and_eq_true, Bool.and_eq_true] at h
  exact of_decide_eq_true h.1.2
section
variable {M : Mem} {Q : D → Mem → Prop} {η : Sls}
theorem i_text {fe : WE} {x : Str} (a : Yv fe η M (.str x)) : YA (iText fe) η M (sigs x) := ⟨fun K hk => a.go _ hk⟩
def oneB (c : D) : D := match c with | .str ⟨⟨[c]⟩⟩ => .bl (decide (c ∈ AZ)) | _ => .non
theorem sigs_bls (x : Str) : (sigs x).map oneB = (x.cps.toList.map fun c => decide (c ∈ AZ)).map D.bl := by
  unfold sigs
  rw [List.map_map, List.map_map]
  rfl
theorem is_name_str {x : Str} (hx : x.length ≤ 1000000) : YF F_is_name M [.str x] (.bl (nameB x)) := by
  refine ⟨fun Q hq => ?_⟩
  unfold F_is_name B_is_name
  have z : ((x.length : Nat) : Int) = (x.length : Int) := rfl
  have l1 : Yv (eCB lenF (aCons (eVar 0) aNil)) [.d (.str x), .no] M (.int (x.length : Nat)) := y_cb (ya_cons (y_var rfl) ya_nil) (n_lenS (szOk_mk hx))
  have hb : YT (bTest (eChain (ibF fun i j => decide (i ≤ j)) (ibF fun i j => decide (i ≤ j)) (eC (.int 1)) (eCB lenF (aCons (eVar 0) aNil)) (eC (.int 8)))) [.d (.str x), .no] M (decide ((1 : Int) ≤ (x.length : Nat)) && decide (((x.length : Nat) : Int) ≤ 8)) := yt_test (y_chain y_c l1 o_ib (fun _ => y_c) fun _ => o_ib)
  have e1 : decide ((1 : Int) ≤ (x.length : Nat)) = decide (1 ≤ x.length) := by rw [decide_eq_decide]; omega
  have e2 : decide (((x.length : Nat) : Int) ≤ 8) = decide (x.length ≤ 8) := by rw [decide_eq_decide]; omega
  rw [e1, e2] at hb
  have hi : YT (bNot (bTru (eCB isiF (aCons (eVar 0) (aCons (eC (.raw (.ty "str"))) aNil))))) [.d (.str x), .no] M (!true) := yt_not (yt_tru (y_cb (ya_cons (y_var rfl) (ya_cons y_c ya_nil)) (n_isi (b := true) (by show kitB "str" "str" = some true; decide +kernel))) tru_b)
  refine t_seq (η := [.d (.str x), .no]) (t_if (yt_or hi fun _ => yt_not hb) (fun e => ?_) fun e => ?_)
  · have : nameB x = false := by
      unfold nameB
      rw [Bool.not_true, Bool.false_or, Bool.not_eq_true'] at e
      rw [e]; rfl
    rw [this] at hq
    exact t_ret y_c hq
  · rw [Bool.not_true, Bool.false_or, Bool.not_eq_false'] at e
    have hl : (sigs x).length ≤ 1000000 := by rw [sigs_len]; exact hx
    have hA : Yv (eLc (iText (eVar 0)) (gNm 1) bYes (eOp (inSignF false) (eVar 1) (eC (.str "abcdefghijklmnopqrstuvwxyz"))) [1]) [.d (.str x), .no] M (.lst ((sigs x).map oneB)) := y_lc oneB (i_text (y_var rfl)) (by rfl) hl fun y hy => by
      unfold sigs at hy
      obtain ⟨c, _, rfl⟩ := List.mem_map.mp hy
      exact ⟨fun K hk => hk⟩
    rw [sigs_bls] at hA
    refine t_next (t_ret (y_cb (ya_cons hA ya_nil) (n_all (bls_map _))) ?_)
    have : nameB x = (x.cps.toList.map fun c => decide (c ∈ AZ)).all id := by
      unfold nameB
      rw [e, Bool.true_and, List.all_map]; rfl
    rw [← this]; exact hq
theorem is_name_no {d : D} (h : kindF d "str" = some false) : YF F_is_name M [d] (.bl false) := by
  refine ⟨fun Q hq => ?_⟩
  unfold F_is_name B_is_name
  have hi : YT (bNot (bTru (eCB isiF (aCons (eVar 0) (aCons (eC (.raw (.ty "str"))) aNil))))) [.d d, .no] M (!false) := yt_not (yt_tru (y_cb (ya_cons (y_var rfl) (ya_cons y_c ya_nil)) (n_isi h)) tru_b)
  exact t_seq (η := [.d d, .no]) (t_ift (yt_or (c := true) hi fun e => nomatch e) (t_ret y_c hq))
def ltB (a b : Str) : Bool := decide (a.cps.toList < b.cps.toList)
def ascB (l : List Str) : Bool := (List.zipWith ltB l (l.drop 1)).all id
def ltD (x : D) : D := match x with | .tup [.str a, .str b] => .bl (ltB a b) | _ => .non
theorem zip_lt : ∀ l m : List Str, (zipD (l.map D.str) (m.map D.str)).map ltD = (List.zipWith ltB l m).map D.bl
  | [], _ => by simp [zipD]
  | _ :: _, [] => by simp [zipD]
  | a :: l, b :: m => by
    have ih := zip_lt l m
    unfold zipD at ih ⊢
    rw [List.map_cons, List.map_cons, List.zipWith_cons_cons, List.map_cons, ih, List.zipWith_cons_cons, List.map_cons]; rfl
theorem zip_mem {l m : List Str} {x : D} (h : x ∈ zipD (l.map D.str) (m.map D.str)) : ∃ a b, x = .tup [.str a, .str b] := by
  unfold zipD at h
  obtain ⟨i, hi⟩ := List.mem_iff_getElem?.mp h
  obtain ⟨a, b, h1, h2, rfl⟩ := zipD_get hi
  rw [List.getElem?_map] at h1 h2
  cases e1 : l[i]? with
  | none => rw [e1] at h1; cases h1
  | some a' =>
    cases e2 : m[i]? with
    | none => rw [e2] at h2; cases h2
    | some b' => rw [e1] at h1; rw [e2] at h2; cases h1; cases h2; exact ⟨_, _, rfl⟩
theorem asc_y {w : List D → D} {l : List Str} (hw : w = .tup ∨ w = .lst) (hl : l.length ≤ 1000) : YF F_are_ascending M [w (l.map D.str)] (.bl (ascB l)) := ⟨fun Q hq => by
  unfold F_are_ascending B_are_ascending
  have hd : (l.map D.str).drop 1 = (l.drop 1).map D.str := by rw [List.map_drop]
  have hz : (zipD (l.map D.str) ((l.drop 1).map D.str)).length ≤ 1000000 := by
    unfold zipD
    rw [List.length_zipWith, List.length_map]
    exact Nat.le_trans (Nat.min_le_left _ _) (by omega)
  have hY : ∀ η : Sls, η = [.d (w (l.map D.str)), .no, .no] → Yv (eLc (iZipF (aCons (eVar 0) (aCons (eSl (eVar 0) (oPt (eC (.int 1))) oNo) aNil))) (gTp 2 (gsCons (gNm 1) (gsCons (gNm 2) gsNil))) bYes (eOp (ordF (fun i j => decide (i < j)) fun x y => decide (x < y)) (eVar 1) (eVar 2)) [1, 2]) η M (.lst ((List.zipWith ltB l (l.drop 1)).map D.bl)) := fun η hη => by
    rw [← zip_lt]
    have hx : YA (iZipF (aCons (eVar 0) (aCons (eSl (eVar 0) (oPt (eC (.int 1))) oNo) aNil))) η M (zipD (l.map D.str) ((l.drop 1).map D.str)) := by
      subst hη
      rw [← hd]
      rcases hw with rfl | rfl
      · exact i_zipT (ya_cons (y_var rfl) (ya_cons (y_sl (w := .tup) (u := none) (l := some 1) (y_var rfl) rfl (yo_pt y_c) yo_no) ya_nil))
      · exact i_zipL (ya_cons (y_var rfl) (ya_cons (y_sl (w := .lst) (u := none) (l := some 1) (y_var rfl) rfl (yo_pt y_c) yo_no) ya_nil))
    refine y_lcT ltD hx (by subst hη; rfl) hz fun x hx => ?_
    obtain ⟨a, b, rfl⟩ := zip_mem hx
    refine ⟨_, _, rfl, ?_⟩
    subst hη
    exact y_op (y_var rfl) (y_var rfl) ⟨fun k hk => hk⟩
  refine t_ret (η := [.d (w (l.map D.str)), .no, .no]) (y_cb (ya_cons (hY _ rfl) ya_nil) (n_all (bls_map _))) ?_
  exact hq⟩
end
end PK
set_option Elab.async false
set_option linter.all false
set_option maxRecDepth 100000
set_option maxHeartbeats 1000000
namespace PK
open PySem PySem.Spec PyProof.Rows L2 DL LamX FL
mutual
def knD : D → Bool
  | .lst xs => Nat.ble xs.length 1000 && knL xs
  | .tup xs => Nat.ble xs.length 1000 && knL xs
  | .str x => Nat.ble x.length 1000
  | .obj _ _ => false
  | .raw _ => false
  | _ => true
def knL : List D → Bool
  | [] => true
  | x :: xs => knD x && knL xs
end
theorem kn_all : ∀ {l : List D}, knL l = true → ∀ x ∈ l, knD x = true
  | y :: r, h, x, hx => by
    rw [knL, Bool.and_eq_true] at h
    rcases List.mem_cons.mp hx with rfl | hx
    · exact h.1
    · exact kn_all h.2 x hx
theorem kn_mk : ∀ {l : List D}, (∀ x ∈ l, knD x = true) → knL l = true
  | [], _ => rfl
  | x :: r, h => by rw [knL, h x List.mem_cons_self, kn_mk fun y hy => h y (List.mem_cons_of_mem _ hy)]; rfl
theorem kn_tup {l : List D} (h : knD (.tup l) = true) : l.length ≤ 1000 ∧ ∀ x ∈ l, knD x = true := by
  rw [knD, Bool.and_eq_true] at h
  exact ⟨Nat.le_of_ble_eq_true h.1, kn_all h.2⟩
theorem kn_str {x : Str} (h : knD (.str x) = true) : x.length ≤ 1000 := by
  rw [knD] at h; exact Nat.le_of_ble_eq_true h
theorem tup_kn {l : List D} (hl : l.length ≤ 1000) (h : ∀ x ∈ l, knD x = true) : knD (.tup l) = true := by
  rw [knD, kn_mk h, Nat.ble_eq_true_of_le hl]; rfl
def nmB : D → Bool
  | .str x => nameB x
  | _ => false
def idxB (n : Nat) : D → Bool
  | .int i => decide (0 ≤ i) && decide (i < n)
  | _ => false
def isTup : D → Bool
  | .tup _ => true
  | _ => false
def isStr : D → Bool
  | .str _ => true
  | _ => false
theorem ki_tuple {d : D} (h : knD d = true) : kindF d "tuple" = some (isTup d) := by
  cases d with
  | obj _ _ => rw [knD] at h; cases h
  | raw _ => rw [knD] at h; cases h
  | non => show kitB "NoneType" "tuple" = some false; decide +kernel
  | bl _ => show kitB "bool" "tuple" = some false; decide +kernel
  | int _ => show kitB "int" "tuple" = some false; decide +kernel
  | str _ => show kitB "str" "tuple" = some false; decide +kernel
  | lst _ => show kitB "list" "tuple" = some false; decide +kernel
  | tup _ => show kitB "tuple" "tuple" = some true; decide +kernel
  | dic _ => show kitB "dict" "tuple" = some false; decide +kernel
theorem ki_str {d : D} (h : knD d = true) : kindF d "str" = some (isStr d) := by
  cases d with
  | obj _ _ => rw [knD] at h; cases h
  | raw _ => rw [knD] at h; cases h
  | non => show kitB "NoneType" "str" = some false; decide +kernel
  | bl _ => show kitB "bool" "str" = some false; decide +kernel
  | int _ => show kitB "int" "str" = some false; decide +kernel
  | str _ => show kitB "str" "str" = some true; decide +kernel
  | lst _ => show kitB "list" "str" = some false; decide +kernel
  | tup _ => show kitB "tuple" "str" = some false; decide +kernel
  | dic _ => show kitB "dict" "str" = some false; decide +kernel
def isNum : D → Bool
  | .int _ => true
  | _ => false
def isIB : D → Bool
  | .int _ => true
  | .bl _ => true
  | _ => false
def isBl : D → Bool
  | .bl _ => true
  | _ => false
theorem ki_int {d : D} (h : knD d = true) : kindF d "int" = some (isIB d) := by
  cases d with
  | obj _ _ => rw [knD] at h; cases h
  | raw _ => rw [knD] at h; cases h
  | non => show kitB "NoneType" "int" = some false; decide +kernel
  | bl _ => show kitB "bool" "int" = some true; decide +kernel
  | int _ => show kitB "int" "int" = some true; decide +kernel
  | str _ => show kitB "str" "int" = some false; decide +kernel
  | lst _ => show kitB "list" "int" = some false; decide +kernel
  | tup _ => show kitB "tuple" "int" = some false; decide +kernel
  | dic _ => show kitB "dict" "int" = some false; decide +kernel
theorem ki_bool {d : D} (h : knD d = true) : kindF d "bool" = some (isBl d) := by
  cases d with
  | obj _ _ => rw [knD] at h; cases h
  | raw _ => rw [knD] at h; cases h
  | non => show kitB "NoneType" "bool" = some false; decide +kernel
  | bl _ => show kitB "bool" "bool" = some true; decide +kernel
  | int _ => show kitB "int" "bool" = some false; decide +kernel
  | str _ => show kitB "str" "bool" = some false; decide +kernel
  | lst _ => show kitB "list" "bool" = some false; decide +kernel
  | tup _ => show kitB "tuple" "bool" = some false; decide +kernel
  | dic _ => show kitB "dict" "bool" = some false; decide +kernel
section
variable {M : Mem} {Q : D → Mem → Prop} {η : Sls} {d : D}
theorem isi_y {fe : WE} {U : String} {b : Bool} (a : Yv fe η M d) (h : kindF d U = some b) : Yv (eCB isiF (aCons fe (aCons (eC (.raw (.ty U))) aNil))) η M (.bl b) := y_cb (ya_cons a (ya_cons y_c ya_nil)) (n_isi h)
theorem is_name_y (h : knD d = true) : YF F_is_name M [d] (.bl (nmB d)) := by
  cases d with
  | str x => exact is_name_str (Nat.le_trans (kn_str h) (by decide))
  | _ => exact is_name_no (ki_str h)
theorem is_number_y (h : knD d = true) : YF F_is_number M [d] (.bl (isNum d)) := ⟨fun Q hq => by
  unfold F_is_number B_is_number
  refine t_ret (η := [.d d]) (v := .bl (isNum d)) (yv_eq (y_and (isi_y (y_var rfl) (ki_int h)) fun _ => y_not (isi_y (y_var rfl) (ki_bool h))) ?_) hq
  cases d <;> rfl⟩
theorem is_index_y {n : Nat} (h : knD d = true) : YF F_is_index M [d, .int (n : Int)] (.bl (idxB n d)) := ⟨fun Q hq => by
  have hn := is_number_y (M := M) h
  unfold F_is_index B_is_index
  generalize F_is_number = f at hn ⊢
  cases d with
  | int i =>
    refine t_ret (η := [.d (.int i), .d (.int (n : Int))]) (v := .bl (idxB n (.int i))) (yv_eq (y_and (b := true) (c := decide (0 ≤ i) && decide (i < n)) (y_call1 (y_var rfl) hn) fun _ => y_chain y_c (y_var rfl) (o_ib (f := fun i j => decide (i ≤ j))) (fun _ => y_var (i := 1) rfl) fun _ => (o_ib (f := fun i j => decide (i < j)))) rfl) hq
  | _ => exact t_ret (η := [.d _, .d (.int (n : Int))]) (yv_eq (y_and (b := false) (c := false) (y_call1 (y_var rfl) hn) fun e => nomatch e) rfl) hq⟩
end
end PK
set_option Elab.async false
set_option linter.all false
set_option maxRecDepth 100000
set_option maxHeartbeats 1000000
namespace PK
open PySem PySem.Spec PyProof.Rows L2 DL LamX FL
def entB (e : D) : Bool := (match e with | .non => true | _ => false) || idxB 3 e
def deedB : List D → Bool
  | [w, .tup tab] => nmB w && (decide (1 ≤ tab.length) && decide (tab.length ≤ 3) && tab.all entB)
  | _ => false
def namedB : List D → Bool
  | [x] => nmB x
  | _ => false
def callB : List D → Bool
  | x :: _ => nmB x
  | _ => false
def scopeB : List D → Bool
  | [x, _] => nmB x
  | _ => false
def prB : D → Bool
  | .tup [x, _] => nmB x
  | _ => false
def fstN : D → Str
  | .tup (.str a :: _) => a
  | _ => ""
def answerB : List D → Bool
  | [.tup prs, _] => !prs.isEmpty && (prs.all prB && ascB (prs.map fstN))
  | _ => false
def FT : List (Str × (List D → Bool)) := [("do", deedB), ("seq", fun _ => true), ("or", fun l => !l.isEmpty), ("and", fun l => !l.isEmpty), ("case", fun l => decide (1 ≤ l.length) && decide (l.length ≤ 3)), ("run", namedB), ("call", callB), ("scope", scopeB), ("exit", namedB), ("raise", namedB), ("answer", answerB)]
def formB : D → Bool
  | .tup (.str k :: l) => match FT.lookup k with
    | some f => f l
    | none => false
  | _ => false
section
variable {M : Mem} {Q : D → Mem → Prop} {η : Sls} {d : D} {l : List D} {k : Str}
theorem item_t {i j : Nat} {xs : List D} {x : D} (h : η[i]? = some (.d (.tup xs))) (hx : xs[j]? = some x) : Yv (eOp ixF (eVar i) (eC (.int (j : Nat)))) η M x := y_op (y_var h) y_c (o_ixT hx)
theorem len_t {i : Nat} {xs : List D} (h : η[i]? = some (.d (.tup xs))) : Yv (eCB lenF (aCons (eVar i) aNil)) η M (.int (xs.length : Nat)) := y_cb (ya_cons (y_var h) ya_nil) n_lenT
theorem y_and_t {fa fb : WE} {x : D} (a : Yv fa η M (.bl true)) (b : Yv fb η M x) : Yv (eAnd fa fb) η M x := ⟨fun K hk => a.go _ (b.go _ hk)⟩
theorem y_and_f {fa fb : WE} (a : Yv fa η M (.bl false)) : Yv (eAnd fa fb) η M (.bl false) := ⟨fun K hk => a.go _ hk⟩
theorem is_named_y (h : knD (.tup (.str k :: l)) = true) : YF F_is_named M [.tup (.str k :: l)] (.bl (namedB l)) := ⟨fun Q hq => by
  have hk := (kn_tup h).2
  have hn : ∀ x ∈ l, YF F_is_name M [x] (.bl (nmB x)) := fun x hx => is_name_y (hk x (List.mem_cons_of_mem _ hx))
  unfold F_is_named B_is_named
  generalize F_is_name = f at hn ⊢
  have e1 : Yv (eOp (eqF false) (eCB lenF (aCons (eVar 0) aNil)) (eC (.int (2 : Nat)))) [.d (.tup (.str k :: l))] M (.bl ((l.length + 1) == 2)) := y_op (len_t rfl) y_c o_eqN
  match l, e1, hn, hq with
  | [], e1, _, hq => exact t_ret (η := [.d (.tup [.str k])]) (y_and_f e1) hq
  | [x], e1, hn, hq => exact t_ret (η := [.d (.tup [.str k, x])]) (y_and_t e1 (y_call1 (item_t (j := 1) rfl rfl) (hn x List.mem_cons_self))) hq
  | x :: y :: r, e1, _, hq => exact t_ret (η := [.d (.tup (.str k :: x :: y :: r))]) (y_and_f (yv_eq e1 (by rw [List.length_cons, List.length_cons, beq_eq_false_iff_ne.mpr (by omega)]))) hq⟩
theorem is_call_y (h : knD (.tup (.str k :: l)) = true) : YF F_is_call M [.tup (.str k :: l)] (.bl (callB l)) := ⟨fun Q hq => by
  have hk := (kn_tup h).2
  have hn : ∀ x ∈ l, YF F_is_name M [x] (.bl (nmB x)) := fun x hx => is_name_y (hk x (List.mem_cons_of_mem _ hx))
  unfold F_is_call B_is_call
  generalize F_is_name = f at hn ⊢
  have e1 : Yv (eOp (ibF fun i j => decide (j ≤ i)) (eCB lenF (aCons (eVar 0) aNil)) (eC (.int (2 : Nat)))) [.d (.tup (.str k :: l))] M (.bl (decide (2 ≤ l.length + 1))) := y_op (len_t rfl) y_c o_geN
  match l, e1, hn, hq with
  | [], e1, _, hq => exact t_ret (η := [.d (.tup [.str k])]) (y_and_f e1) hq
  | x :: r, e1, hn, hq => exact t_ret (η := [.d (.tup (.str k :: x :: r))]) (y_and_t (yv_eq e1 (by rw [List.length_cons, decide_eq_true (by omega)])) (y_call1 (item_t (j := 1) rfl rfl) (hn x List.mem_cons_self))) hq⟩
theorem is_scope_y (h : knD (.tup (.str k :: l)) = true) : YF F_is_scope M [.tup (.str k :: l)] (.bl (scopeB l)) := ⟨fun Q hq => by
  have hk := (kn_tup h).2
  have hn : ∀ x ∈ l, YF F_is_name M [x] (.bl (nmB x)) := fun x hx => is_name_y (hk x (List.mem_cons_of_mem _ hx))
  unfold F_is_scope B_is_scope
  generalize F_is_name = f at hn ⊢
  have e1 : Yv (eOp (eqF false) (eCB lenF (aCons (eVar 0) aNil)) (eC (.int (3 : Nat)))) [.d (.tup (.str k :: l))] M (.bl ((l.length + 1) == 3)) := y_op (len_t rfl) y_c o_eqN
  match l, e1, hn, hq with
  | [], e1, _, hq => exact t_ret (η := [.d (.tup [.str k])]) (y_and_f e1) hq
  | [x], e1, hn, hq => exact t_ret (η := [.d (.tup [.str k, x])]) (y_and_f e1) hq
  | [x, y], e1, hn, hq => exact t_ret (η := [.d (.tup [.str k, x, y])]) (y_and_t e1 (y_call1 (item_t (j := 1) rfl rfl) (hn x List.mem_cons_self))) hq
  | x :: y :: z :: r, e1, _, hq => exact t_ret (η := [.d (.tup (.str k :: x :: y :: z :: r))]) (y_and_f (yv_eq e1 (by rw [List.length_cons, List.length_cons, List.length_cons, beq_eq_false_iff_ne.mpr (by omega)]))) hq⟩
theorem is_choice_y : YF F_is_choice M [.tup (.str k :: l)] (.bl (!l.isEmpty)) := ⟨fun Q hq => by
  unfold F_is_choice B_is_choice
  refine t_ret (η := [.d (.tup (.str k :: l))]) (yv_eq (y_op (y := .int (2 : Nat)) (len_t rfl) y_c o_geN) ?_) hq
  cases l with
  | nil => rfl
  | cons x r => rw [List.length_cons, List.length_cons, decide_eq_true (by omega)]; rfl⟩
theorem is_case_y : YF F_is_case M [.tup (.str k :: l)] (.bl (decide (1 ≤ l.length) && decide (l.length ≤ 3))) := ⟨fun Q hq => by
  unfold F_is_case B_is_case
  have e : ((l.length + 1 : Nat) : Int) - 1 = (l.length : Int) := by omega
  have h1 : Yv (eOp (iiF fun i j => i - j) (eCB lenF (aCons (eVar 0) aNil)) (eC (.int 1))) [.d (.tup (.str k :: l))] M (.int (l.length : Nat)) := yv_eq (y_op (len_t rfl) y_c (o_ii (f := fun i j => i - j))) (by rw [List.length_cons, e])
  exact t_ret (η := [.d (.tup (.str k :: l))]) (y_chain (x := .int (1 : Nat)) (z := .int (3 : Nat)) y_c h1 o_leN (fun _ => y_c) fun _ => o_leN) hq⟩
theorem is_seq_y {x : D} : YF F_is_sequence M [x] (.bl true) := ⟨fun Q hq => by
  unfold F_is_sequence B_is_sequence
  exact t_ret (η := [.d x]) y_c hq⟩
theorem ent_y {x y : D} (h : knD x = true) : Yv (eOr (eOp (isNF false) (eVar 1) (eC .non)) (eCall F_is_index 2 (aCons (eVar 1) (aCons (eC (.int (3 : Nat))) aNil)))) [.d y, .d x] M (.bl (entB x)) := by
  have hi := is_index_y (M := M) (n := 3) h
  generalize F_is_index = f at hi ⊢
  unfold entB
  cases x with
  | non => exact yv_eq (y_or (b := true) (c := true) (y_op (y_var rfl) y_c ⟨fun k hk => hk⟩) fun e => nomatch e) rfl
  | obj _ _ => rw [knD] at h; cases h
  | raw _ => rw [knD] at h; cases h
  | _ => exact y_or (b := false) (y_op (y_var rfl) y_c (o_isN (by simp) rfl)) fun _ => y_call2 (y_var rfl) y_c hi
theorem is_deed_y (h : knD (.tup (.str k :: l)) = true) : YF F_is_deed M [.tup (.str k :: l)] (.bl (deedB l)) := ⟨fun Q hq => by
  have hk := (kn_tup h).2
  have hn : ∀ x ∈ l, YF F_is_name M [x] (.bl (nmB x)) := fun x hx => is_name_y (hk x (List.mem_cons_of_mem _ hx))
  have he : ∀ x y : D, knD x = true → Yv (eOr (eOp (isNF false) (eVar 1) (eC .non)) (eCall F_is_index 2 (aCons (eVar 1) (aCons (eC (.int (3 : Nat))) aNil)))) [.d y, .d x] M (.bl (entB x)) := fun x y h => ent_y h
  unfold F_is_deed B_is_deed
  have e3 : (eC (.int 3)) = (eC (.int ((3 : Nat) : Int))) := rfl
  rw [e3]
  generalize (eOr (eOp (isNF false) (eVar 1) (eC .non)) (eCall F_is_index 2 (aCons (eVar 1) (aCons (eC (.int ((3 : Nat) : Int))) aNil)))) = g at he ⊢
  generalize F_is_name = f at hn ⊢
  have e1 : YT (bTest (eOp (eqF true) (eCB lenF (aCons (eVar 0) aNil)) (eC (.int (3 : Nat))))) [.d (.tup (.str k :: l)), .no] M ((l.length + 1) != 3) := yt_test (y_op (len_t rfl) y_c o_neN)
  match l, e1, hn, hq, hk with
  | [], e1, _, hq, _ => exact t_seq (η := [.d (.tup [.str k]), .no]) (t_ift (yt_or_t e1) (t_ret y_c hq))
  | [x], e1, _, hq, _ => exact t_seq (η := [.d (.tup [.str k, x]), .no]) (t_ift (yt_or_t e1) (t_ret y_c hq))
  | x :: y :: z :: r, e1, _, hq, _ =>
    have : deedB (x :: y :: z :: r) = false := by cases y <;> rfl
    rw [this] at hq
    exact t_seq (η := [.d (.tup (.str k :: x :: y :: z :: r)), .no]) (t_ift (yt_or_t (yt_eq e1 (by simp))) (t_ret y_c hq))
  | [w, t], e1, hn, hq, hk =>
    have ht : knD t = true := hk t (by simp)
    have hw := hn w List.mem_cons_self
    refine t_seq (η := [.d (.tup [.str k, w, t]), .no]) ?_
    have c1 : YT (bNot (bTru (eCall f 1 (aCons (eOp ixF (eVar 0) (eC (.int ((1 : Nat) : Int)))) aNil)))) [.d (.tup [.str k, w, t]), .no] M (!nmB w) := yt_not (yt_tru (y_call1 (item_t (j := 1) rfl rfl) hw) tru_b)
    have c2 : YT (bNot (bTru (eCB isiF (aCons (eOp ixF (eVar 0) (eC (.int ((2 : Nat) : Int)))) (aCons (eC (.raw (.ty "tuple"))) aNil))))) [.d (.tup [.str k, w, t]), .no] M (!isTup t) := yt_not (yt_tru (isi_y (item_t (j := 2) rfl rfl) (ki_tuple ht)) tru_b)
    cases hb : nmB w with
    | false =>
      have : deedB [w, t] = false := by cases t <;> simp [deedB, hb]
      rw [this] at hq
      exact t_ift (yt_or_f e1 (yt_or_t (yt_eq c1 (by rw [hb]; rfl)))) (t_ret y_c hq)
    | true =>
      cases t with
      | tup tab =>
        obtain ⟨htl, hte⟩ := kn_tup ht
        refine t_iff (yt_or_f e1 (yt_or_f (yt_eq c1 (by rw [hb]; rfl)) c2)) (t_next ?_)
        have lt : Yv (eCB lenF (aCons (eOp ixF (eVar 0) (eC (.int ((2 : Nat) : Int)))) aNil)) [.d (.tup [.str k, w, .tup tab]), .no] M (.int (tab.length : Nat)) := y_cb (ya_cons (item_t (j := 2) rfl rfl) ya_nil) n_lenT
        have c3 : YT (bNot (bTest (eChain (ibF fun i j => decide (i ≤ j)) (ibF fun i j => decide (i ≤ j)) (eC (.int ((1 : Nat) : Int))) (eCB lenF (aCons (eOp ixF (eVar 0) (eC (.int ((2 : Nat) : Int)))) aNil)) (eC (.int ((3 : Nat) : Int)))))) [.d (.tup [.str k, w, .tup tab]), .no] M (!(decide (1 ≤ tab.length) && decide (tab.length ≤ 3))) := yt_not (yt_test (y_chain y_c lt o_leN (fun _ => y_c) fun _ => o_leN))
        dsimp only
        refine t_seq (t_if c3 (fun e => ?_) fun e => ?_)
        · have : deedB [w, .tup tab] = false := by
            rw [Bool.not_eq_true'] at e
            show (nmB w && (decide (1 ≤ tab.length) && decide (tab.length ≤ 3) && tab.all entB)) = false
            rw [e, Bool.false_and, Bool.and_false]
          rw [this] at hq
          exact t_ret y_c hq
        · rw [Bool.not_eq_false'] at e
          have hA : Yv (eLc (iTupl (eOp ixF (eVar 0) (eC (.int ((2 : Nat) : Int))))) (gNm 1) bYes g [1]) [.d (.tup [.str k, w, .tup tab]), .no] M (.lst (tab.map fun x => .bl (entB x))) := y_lc (fun x => .bl (entB x)) (i_tup (item_t (j := 2) rfl rfl)) (by rfl) (by omega) fun x hx => he x _ (hte x hx)
          refine t_next (t_ret (y_cb (ya_cons hA ya_nil) (n_all (bs := tab.map entB) (by rw [← bls_map, List.map_map]; rfl))) ?_)
          have : deedB [w, .tup tab] = (tab.map entB).all id := by
            show (nmB w && (decide (1 ≤ tab.length) && decide (tab.length ≤ 3) && tab.all entB)) = _
            rw [hb, e, Bool.true_and, Bool.true_and, List.all_map]; rfl
          rw [← this]; exact hq
      | _ =>
        refine t_ift (yt_or_f e1 (yt_or_f (yt_eq c1 (by rw [hb]; rfl)) c2)) (t_ret y_c ?_)
        simpa [deedB] using hq⟩
end
end PK
set_option Elab.async false
set_option linter.all false
set_option maxRecDepth 100000
set_option maxHeartbeats 1000000
namespace PK
open PySem PySem.Spec PyProof.Rows L2 DL LamX FL
section
variable {M : Mem} {Q : D → Mem → Prop} {η : Sls} {d : D} {l : List D} {k : Str}
def sndD : D → D
  | .tup [_, y] => y
  | d => d
def fstD : D → D
  | .tup (x :: _) => x
  | d => d
theorem pr_of {x : D} (h : prB x = true) : ∃ a y, x = .tup [.str a, y] ∧ nameB a = true := by
  unfold prB at h
  split at h
  · rename_i x y
    cases x with
    | str a => exact ⟨a, y, rfl, h⟩
    | _ => cases h
  · cases h
theorem fst_prs {prs : List D} (h : prs.all prB = true) : prs.map fstD = (prs.map fstN).map D.str := by
  rw [List.map_map]
  refine List.map_congr_left fun x hx => ?_
  obtain ⟨a, y, rfl, _⟩ := pr_of (List.all_eq_true.mp h x hx)
  rfl
theorem is_answer_y (h : knD (.tup (.str k :: l)) = true) : YF F_is_answer M [.tup (.str k :: l)] (.bl (answerB l)) := ⟨fun Q hq => by
  have hk := (kn_tup h).2
  have hn : ∀ x : D, knD x = true → YF F_is_name M [x] (.bl (nmB x)) := fun x hx => is_name_y hx
  have ha : ∀ {M : Mem} {l : List Str}, l.length ≤ 1000 → YF F_are_ascending M [.lst (l.map D.str)] (.bl (ascB l)) := fun hl => asc_y (w := .lst) (.inr rfl) hl
  unfold F_is_answer B_is_answer
  generalize F_is_name = f at hn ⊢
  generalize F_are_ascending = g at ha ⊢
  have e1 : YT (bTest (eOp (eqF true) (eCB lenF (aCons (eVar 0) aNil)) (eC (.int (3 : Nat))))) [.d (.tup (.str k :: l)), .no] M ((l.length + 1) != 3) := yt_test (y_op (len_t rfl) y_c o_neN)
  match l, e1, hq, hk with
  | [], e1, hq, _ => exact t_seq (η := [.d (.tup [.str k]), .no]) (t_ift (yt_or_t e1) (t_ret y_c hq))
  | [x], e1, hq, _ => exact t_seq (η := [.d (.tup [.str k, x]), .no]) (t_ift (yt_or_t e1) (t_ret y_c (by cases x <;> exact hq)))
  | x :: y :: z :: r, e1, hq, _ =>
    have : answerB (x :: y :: z :: r) = false := by cases x <;> rfl
    rw [this] at hq
    exact t_seq (η := [.d (.tup (.str k :: x :: y :: z :: r)), .no]) (t_ift (yt_or_t (yt_eq e1 (by simp))) (t_ret y_c hq))
  | [ps, t], e1, hq, hk =>
    have hp : knD ps = true := hk ps (by simp)
    have c2 : YT (bNot (bTru (eCB isiF (aCons (eOp ixF (eVar 0) (eC (.int ((1 : Nat) : Int)))) (aCons (eC (.raw (.ty "tuple"))) aNil))))) [.d (.tup [.str k, ps, t]), .no] M (!isTup ps) := yt_not (yt_tru (isi_y (item_t (j := 1) rfl rfl) (ki_tuple hp)) tru_b)
    cases ps with
    | tup prs =>
      obtain ⟨hpl, hpe⟩ := kn_tup hp
      have c3 : YT (bTest (eOp (eqF false) (eCB lenF (aCons (eOp ixF (eVar 0) (eC (.int ((1 : Nat) : Int)))) aNil)) (eC (.int ((0 : Nat) : Int))))) [.d (.tup [.str k, .tup prs, t]), .no] M (prs.length == 0) := yt_test (y_op (y_cb (ya_cons (item_t (j := 1) rfl rfl) ya_nil) n_lenT) y_c o_eqN)
      refine t_seq (η := [.d (.tup [.str k, .tup prs, t]), .no]) ?_
      cases prs with
      | nil => exact t_ift (yt_or_f e1 (yt_or_f c2 c3)) (t_ret y_c hq)
      | cons p0 pr =>
        refine t_iff (yt_or_f e1 (yt_or_f c2 c3)) (t_next ?_)
        generalize hP : p0 :: pr = prs at *
        have hq : Q (.bl (prs.all prB && ascB (prs.map fstN))) M := by
          have : answerB [.tup prs, t] = (prs.all prB && ascB (prs.map fstN)) := by
            subst hP; rfl
          rw [← this]; exact hq
        refine t_seq (t_forAll (p := prB) (v := .bl false) (s0 := .no) (i_tup (item_t (j := 1) rfl rfl)) rfl rfl (fun x hx k' h1 h2 => ?_) (fun hall s hs => ?_) fun hno => ?_)
        · have hkx := hpe x hx
          dsimp only [List.set_cons_succ, List.set_cons_zero] at h1 ⊢
          have d1 : YT (bNot (bTru (eCB isiF (aCons (eVar 1) (aCons (eC (.raw (.ty "tuple"))) aNil))))) [.d (.tup [.str k, .tup prs, t]), .d x] M (!isTup x) := yt_not (yt_tru (isi_y (y_var rfl) (ki_tuple hkx)) tru_b)
          cases x with
          | tup xs =>
            have d2 : YT (bTest (eOp (eqF true) (eCB lenF (aCons (eVar 1) aNil)) (eC (.int ((2 : Nat) : Int))))) [.d (.tup [.str k, .tup prs, t]), .d (.tup xs)] M (xs.length != 2) := yt_test (y_op (len_t rfl) y_c o_neN)
            match xs, d1, d2, h1, h2, hkx with
            | [], d1, d2, h1, h2, _ => exact t_ift (yt_or_f d1 (yt_or_t d2)) (t_ret y_c (h2 rfl))
            | [a], d1, d2, h1, h2, _ => exact t_ift (yt_or_f d1 (yt_or_t d2)) (t_ret y_c (h2 rfl))
            | a :: b :: c :: r, d1, d2, h1, h2, _ => exact t_ift (yt_or_f d1 (yt_or_t (yt_eq d2 (by simp)))) (t_ret y_c (h2 rfl))
            | [a, b], d1, d2, h1, h2, hkx =>
              have hna := hn a ((kn_tup hkx).2 a List.mem_cons_self)
              have d3 : YT (bNot (bTru (eCall f 1 (aCons (eOp ixF (eVar 1) (eC (.int ((0 : Nat) : Int)))) aNil)))) [.d (.tup [.str k, .tup prs, t]), .d (.tup [a, b])] M (!nmB a) := yt_not (yt_tru (y_call1 (item_t (j := 0) rfl rfl) hna) tru_b)
              cases hb : nmB a with
              | true => exact t_iff (yt_or_f d1 (yt_or_f d2 (yt_eq d3 (by rw [hb]; rfl)))) (t_next (h1 hb))
              | false => exact t_ift (yt_or_f d1 (yt_or_f d2 (yt_eq d3 (by rw [hb]; rfl)))) (t_ret y_c (h2 hb))
          | _ => exact t_ift (yt_or_t d1) (t_ret y_c (h2 rfl))
        · dsimp only [List.set_cons_succ, List.set_cons_zero]
          rw [hall, Bool.true_and] at hq
          have hA : Yv (eLc (iTupl (eOp ixF (eVar 0) (eC (.int ((1 : Nat) : Int))))) (gNm 1) bYes (eOp ixF (eVar 1) (eC (.int ((0 : Nat) : Int)))) [1]) [.d (.tup [.str k, .tup prs, t]), s] M (.lst (prs.map fstD)) := y_lc fstD (i_tup (item_t (j := 1) rfl rfl)) (by unfold notOwn; cases s <;> first | rfl | cases hs) (by omega) fun x hx => by
            obtain ⟨a, y, rfl, _⟩ := pr_of (List.all_eq_true.mp hall x hx)
            exact item_t (j := 0) rfl rfl
          rw [fst_prs hall] at hA
          exact t_ret (y_call1 hA (ha (by rw [List.length_map]; omega))) hq
        · rw [hno, Bool.false_and] at hq
          exact hq
    | _ => exact t_seq (η := [.d (.tup [.str k, _, t]), .no]) (t_ift (yt_or_f e1 (yt_or_t c2)) (t_ret y_c hq))⟩
theorem look_fits (h : knD (.tup (.str k :: l)) = true) : match FT.lookup k with
    | some f => ∃ F, look_FORMS k = some F ∧ YF F M [.tup (.str k :: l)] (.bl (f l))
    | none => look_FORMS k = none := by
  have ne : ∀ {a : Str}, ¬ k = a → (k == a) = false := fun h => beq_eq_false_iff_ne.mpr h
  unfold FT look_FORMS
  by_cases h1 : k = "do"
  · subst h1; exact ⟨_, rfl, is_deed_y h⟩
  by_cases h2 : k = "seq"
  · subst h2; exact ⟨_, rfl, is_seq_y⟩
  by_cases h3 : k = "or"
  · subst h3; exact ⟨_, rfl, is_choice_y⟩
  by_cases h4 : k = "and"
  · subst h4; exact ⟨_, rfl, is_choice_y⟩
  by_cases h5 : k = "case"
  · subst h5; exact ⟨_, rfl, is_case_y⟩
  by_cases h6 : k = "run"
  · subst h6; exact ⟨_, rfl, is_named_y h⟩
  by_cases h7 : k = "call"
  · subst h7; exact ⟨_, rfl, is_call_y h⟩
  by_cases h8 : k = "scope"
  · subst h8; exact ⟨_, rfl, is_scope_y h⟩
  by_cases h9 : k = "exit"
  · subst h9; exact ⟨_, rfl, is_named_y h⟩
  by_cases h10 : k = "raise"
  · subst h10; exact ⟨_, rfl, is_named_y h⟩
  by_cases h11 : k = "answer"
  · subst h11; exact ⟨_, rfl, is_answer_y h⟩
  simp only [List.lookup_cons, ne h1, ne h2, ne h3, ne h4, ne h5, ne h6, ne h7, ne h8, ne h9, ne h10, ne h11, List.lookup_nil]
  rw [if_neg h1, if_neg h2, if_neg h3, if_neg h4, if_neg h5, if_neg h6, if_neg h7, if_neg h8, if_neg h9, if_neg h10, if_neg h11]
theorem y_tabIn {look : Str → Option FF} {fe : WE} {z : Str} (a : Yv fe η M (.str z)) : Yv (eTabIn look true fe) η M (.bl (!(look z).isSome)) := ⟨fun K hk => a.go _ hk⟩
theorem has_form_y (h : knD d = true) : YF F_has_form M [d] (.bl (formB d)) := ⟨fun Q hq => by
  have hl := fun (k : Str) (l : List D) (h : knD (.tup (.str k :: l)) = true) => look_fits (M := M) h
  unfold F_has_form B_has_form
  generalize look_FORMS = lk at hl ⊢
  have c1 : YT (bNot (bTru (eCB isiF (aCons (eVar 0) (aCons (eC (.raw (.ty "tuple"))) aNil))))) [.d d, .no] M (!isTup d) := yt_not (yt_tru (isi_y (y_var rfl) (ki_tuple h)) tru_b)
  refine t_seq (η := [.d d, .no]) ?_
  cases d with
  | tup xs =>
    have c2 : YT (bTest (eOp (eqF false) (eCB lenF (aCons (eVar 0) aNil)) (eC (.int ((0 : Nat) : Int))))) [.d (.tup xs), .no] M (xs.length == 0) := yt_test (y_op (len_t rfl) y_c o_eqN)
    cases xs with
    | nil => exact t_ift (yt_or_f c1 c2) (t_ret y_c hq)
    | cons x l =>
      refine t_iff (yt_or_f c1 c2) (t_next ?_)
      dsimp only
      refine t_seq ?_
      have hx := (kn_tup h).2 x List.mem_cons_self
      have c3 : YT (bNot (bTru (eCB isiF (aCons (eOp ixF (eVar 0) (eC (.int ((0 : Nat) : Int)))) (aCons (eC (.raw (.ty "str"))) aNil))))) [.d (.tup (x :: l)), .no] M (!isStr x) := yt_not (yt_tru (isi_y (item_t (j := 0) rfl rfl) (ki_str hx)) tru_b)
      cases x with
      | str k =>
        have hfit := hl k l h
        have c4 : YT (bTest (eTabIn lk true (eOp ixF (eVar 0) (eC (.int ((0 : Nat) : Int)))))) [.d (.tup (.str k :: l)), .no] M (!(lk k).isSome) := yt_test (y_tabIn (item_t (j := 0) rfl rfl))
        have hform : formB (.tup (.str k :: l)) = match FT.lookup k with | some f => f l | none => false := rfl
        cases hL : FT.lookup k with
        | none =>
          rw [hL] at hfit hform
          rw [hform] at hq
          exact t_ift (yt_or_f c3 (yt_eq c4 (by rw [hfit]; rfl))) (t_ret y_c hq)
        | some f =>
          rw [hL] at hfit hform
          obtain ⟨F, hF, hy⟩ := hfit
          dsimp only at hform
          rw [hform] at hq
          refine t_iff (yt_or_f c3 (yt_eq c4 (by rw [hF]; rfl))) (t_next ?_)
          dsimp only
          unfold sTabRet
          refine (item_t (j := 0) (x := .str k) rfl rfl).go _ ?_
          refine optF_mk (a := F) hF ?_
          exact hy.go Q hq
      | _ => exact t_ift (yt_or_t c3) (t_ret y_c hq)
  | _ => exact t_ift (yt_or_t c1) (t_ret y_c hq)⟩
end
end PK
set_option Elab.async false
set_option linter.all false
set_option maxRecDepth 100000
set_option maxHeartbeats 1000000
namespace PK
open PySem PySem.Spec PyProof.Rows L2 DL LamX FL
def ROWS : List Str := ["seq", "or", "and", "case"]
def ansP : List D → List D
  | [.tup prs, t] => prs.map sndD ++ [t]
  | _ => []
def partsD : D → List D
  | .tup (.str k :: l) => if k ∈ ROWS then l else if k = "call" ∨ k = "scope" then l.drop 1 else if k = "answer" then ansP l else []
  | _ => []
section
variable {M : Mem} {Q : D → Mem → Prop} {η : Sls} {d : D} {l : List D} {k : Str}
theorem form_of (h : formB d = true) : ∃ k l f, d = .tup (.str k :: l) ∧ FT.lookup k = some f ∧ f l = true := by
  unfold formB at h
  split at h
  · rename_i k l
    cases e : FT.lookup k with
    | none => rw [e] at h; cases h
    | some f => rw [e] at h; exact ⟨k, l, f, rfl, e, h⟩
  · cases h
inductive Fm1 : D → List D → Prop
  | deed {w : Str} {tab : List D} : nameB w = true → 1 ≤ tab.length → tab.length ≤ 3 → (∀ e ∈ tab, entB e = true) → Fm1 (.tup [.str "do", .str w, .tup tab]) []
  | leaf {k x : Str} : k ∈ (["run", "exit", "raise"] : List Str) → nameB x = true → Fm1 (.tup [.str k, .str x]) []
  | row {k : Str} {l : List D} : k ∈ ROWS → (k = "seq" ∨ l ≠ []) → (k = "case" → l.length ≤ 3) → Fm1 (.tup (.str k :: l)) l
  | call {x : Str} {l : List D} : nameB x = true → Fm1 (.tup (.str "call" :: .str x :: l)) l
  | scope {x : Str} {t : D} : nameB x = true → Fm1 (.tup [.str "scope", .str x, t]) [t]
  | ans {prs : List D} {t : D} : prs ≠ [] → (∀ p ∈ prs, ∃ a y, p = .tup [.str a, y] ∧ nameB a = true) → ascB (prs.map fstN) = true → Fm1 (.tup [.str "answer", .tup prs, t]) (prs.map sndD ++ [t])
theorem nm_of {x : D} (h : nmB x = true) : ∃ a, x = .str a ∧ nameB a = true := by
  cases x with
  | str a => exact ⟨a, rfl, h⟩
  | _ => cases h
theorem fm_of (h : formB d = true) : Fm1 d (partsD d) := by
  obtain ⟨k, l, f, rfl, hL, hf⟩ := form_of h
  unfold FT at hL
  simp only [List.lookup_cons] at hL
  split at hL
  · rename_i e; cases eq_of_beq e; cases hL
    unfold deedB at hf
    split at hf
    · rename_i w tab
      rw [Bool.and_eq_true, Bool.and_eq_true, Bool.and_eq_true] at hf
      obtain ⟨a, rfl, ha⟩ := nm_of hf.1
      exact .deed ha (of_decide_eq_true hf.2.1.1) (of_decide_eq_true hf.2.1.2) (List.all_eq_true.mp hf.2.2)
    · cases hf
  split at hL
  · rename_i e; cases eq_of_beq e; cases hL
    exact .row (by decide) (.inl rfl) (fun h => absurd h (by decide))
  split at hL
  · rename_i e; cases eq_of_beq e; cases hL
    exact .row (by decide) (.inr (by intro e; subst e; cases hf)) (fun h => absurd h (by decide))
  split at hL
  · rename_i e; cases eq_of_beq e; cases hL
    exact .row (by decide) (.inr (by intro e; subst e; cases hf)) (fun h => absurd h (by decide))
  split at hL
  · rename_i e; cases eq_of_beq e; cases hL
    rw [Bool.and_eq_true] at hf
    have h1 := of_decide_eq_true hf.1
    exact .row (by decide) (.inr (by intro e; subst e; simp at h1)) (fun _ => of_decide_eq_true hf.2)
  split at hL
  · rename_i e; cases eq_of_beq e; cases hL
    unfold namedB at hf
    split at hf
    · obtain ⟨a, rfl, ha⟩ := nm_of hf
      exact .leaf (by decide) ha
    · cases hf
  split at hL
  · rename_i e; cases eq_of_beq e; cases hL
    unfold callB at hf
    split at hf
    · obtain ⟨a, rfl, ha⟩ := nm_of hf
      exact .call ha
    · cases hf
  split at hL
  · rename_i e; cases eq_of_beq e; cases hL
    unfold scopeB at hf
    split at hf
    · obtain ⟨a, rfl, ha⟩ := nm_of hf
      exact .scope ha
    · cases hf
  split at hL
  · rename_i e; cases eq_of_beq e; cases hL
    unfold namedB at hf
    split at hf
    · obtain ⟨a, rfl, ha⟩ := nm_of hf
      exact .leaf (by decide) ha
    · cases hf
  split at hL
  · rename_i e; cases eq_of_beq e; cases hL
    unfold namedB at hf
    split at hf
    · obtain ⟨a, rfl, ha⟩ := nm_of hf
      exact .leaf (by decide) ha
    · cases hf
  split at hL
  · rename_i e; cases eq_of_beq e; cases hL
    unfold answerB at hf
    split at hf
    · rename_i prs t
      rw [Bool.and_eq_true, Bool.and_eq_true] at hf
      refine .ans (by intro e; subst e; cases hf.1) (fun p hp => pr_of (List.all_eq_true.mp hf.2.1 p hp)) hf.2.2
    · cases hf
  · cases hL
theorem parts_kn (h : knD d = true) (hf : formB d = true) : (partsD d).length ≤ 1001 ∧ ∀ x ∈ partsD d, knD x = true := by
  have hs := fm_of hf
  generalize partsD d = ps at hs
  cases hs with
  | deed => exact ⟨by simp, fun x hx => nomatch hx⟩
  | leaf => exact ⟨by simp, fun x hx => nomatch hx⟩
  | row =>
    obtain ⟨h1, h2⟩ := kn_tup h
    rw [List.length_cons] at h1
    exact ⟨by omega, fun x hx => h2 x (List.mem_cons_of_mem _ hx)⟩
  | call =>
    obtain ⟨h1, h2⟩ := kn_tup h
    rw [List.length_cons, List.length_cons] at h1
    exact ⟨by omega, fun x hx => h2 x (List.mem_cons_of_mem _ (List.mem_cons_of_mem _ hx))⟩
  | scope =>
    obtain ⟨h1, h2⟩ := kn_tup h
    exact ⟨by simp, fun x hx => h2 x (List.mem_cons_of_mem _ (List.mem_cons_of_mem _ hx))⟩
  | @ans prs t hp he ha =>
    obtain ⟨h1, h2⟩ := kn_tup h
    obtain ⟨h3, h4⟩ := kn_tup (h2 (.tup prs) (by simp))
    refine ⟨by rw [List.length_append, List.length_map, List.length_singleton]; omega, fun x hx => ?_⟩
    rcases List.mem_append.mp hx with hx | hx
    · obtain ⟨p, hp, rfl⟩ := List.mem_map.mp hx
      obtain ⟨a, y, rfl, _⟩ := he p hp
      exact (kn_tup (h4 _ hp)).2 y (by simp)
    · rw [List.mem_singleton.mp hx]; exact h2 t (by simp)
theorem test_k {i : Nat} {w c : Str} (h : η[i]? = some (.d (.str w))) : YT (bTest (eOp (eqF false) (eVar i) (eC (.str c)))) η M (w == c) := yt_test (y_op (y_var h) y_c (o_eq (neg := false) rfl))
theorem test_kk {i : Nat} {w : Str} (h : η[i]? = some (.d (.str w))) : YT (bTest (eOp (inF false) (eVar i) (eTup (aCons (eC (.str "seq")) (aCons (eC (.str "or")) (aCons (eC (.str "and")) (aCons (eC (.str "case")) aNil))))))) η M (decide (w ∈ ROWS)) := by
  have := yt_test (y_op (M := M) (y_var h) (y_tup (ya_cons (y_c (x := .str "seq")) (ya_cons (y_c (x := .str "or")) (ya_cons (y_c (x := .str "and")) (ya_cons (y_c (x := .str "case")) ya_nil)))) sz4) (o_inF rfl rfl))
  exact yt_eq this (any_strs ROWS)
theorem sl1_y {i : Nat} {x : D} {l : List D} (h : η[i]? = some (.d (.tup (x :: l)))) : Yv (eSl (eVar i) (oPt (eC (.int 1))) oNo) η M (.tup l) := y_sl (w := .tup) (u := none) (l := some 1) (y_var h) rfl (yo_pt y_c) yo_no
theorem sl2_y {i : Nat} {x y : D} {l : List D} (h : η[i]? = some (.d (.tup (x :: y :: l)))) : Yv (eSl (eVar i) (oPt (eC (.int 2))) oNo) η M (.tup l) := y_sl (w := .tup) (u := none) (l := some 2) (y_var h) rfl (yo_pt y_c) yo_no
theorem in4 {k : Str} {p : Str → Prop} {a b c d : Str} (h : k ∈ [a, b, c, d]) (h1 : p a) (h2 : p b) (h3 : p c) (h4 : p d) : p k := by
  rcases List.mem_cons.mp h with rfl | h
  · exact h1
  rcases List.mem_cons.mp h with rfl | h
  · exact h2
  rcases List.mem_cons.mp h with rfl | h
  · exact h3
  rcases List.mem_cons.mp h with rfl | h
  · exact h4
  · cases h
theorem rows_ind {p : Str → Prop} {k : Str} (h : k ∈ ROWS) (h1 : p "seq") (h2 : p "or") (h3 : p "and") (h4 : p "case") : p k := in4 h h1 h2 h3 h4
theorem in3 {k : Str} {p : Str → Prop} {a b c : Str} (h : k ∈ [a, b, c]) (h1 : p a) (h2 : p b) (h3 : p c) : p k := by
  rcases List.mem_cons.mp h with rfl | h
  · exact h1
  rcases List.mem_cons.mp h with rfl | h
  · exact h2
  rcases List.mem_cons.mp h with rfl | h
  · exact h3
  · cases h
theorem prs_y {i j : Nat} {x y : D} {prs l : List D} (h : η[i]? = some (.d (.tup (x :: .tup prs :: l)))) (hj : notOwn η j = true) (hl : j < η.length) (hp : prs.length ≤ 1000) (he : ∀ p ∈ prs, ∃ a y, p = .tup [.str a, y] ∧ nameB a = true) : Yv (eLc (iTupl (eOp ixF (eVar i) (eC (.int 1)))) (gNm j) bYes (eOp ixF (eVar j) (eC (.int 1))) [j]) η M (.lst (prs.map sndD)) :=
  y_lc sndD (i_tup (item_t (j := 1) h rfl)) hj (by omega) fun x hx => by
    obtain ⟨a, y, rfl, _⟩ := he x hx
    exact item_t (j := 1) (List.getElem?_set_self hl) rfl
theorem terms_in_y (h : knD d = true) (hf : formB d = true) : YF F_terms_in M [d] (.tup (partsD d)) := ⟨fun Q hq => by
  have hs := fm_of hf
  generalize partsD d = ps at hs hq
  have go : ∀ {kk : Str} {l : List D}, d = .tup (.str kk :: l) → B_terms_in_1 [.d d, .d (.str kk), .no] M { nx := fun _ M' => Q .non M', rt := Q } → F_terms_in [d] M Q := fun {kk l} e z => by
    unfold F_terms_in B_terms_in
    exact t_sets (η := [.d d, .no, .no]) (v := .str kk) (by subst e; exact item_t (j := 0) rfl rfl) z
  unfold B_terms_in_1 B_terms_in_2 B_terms_in_3 B_terms_in_4 at go
  have no : ∀ {kk : Str} {l : List D}, d = .tup (.str kk :: l) → decide (kk ∈ ROWS) = false → (kk == "call") = false → (kk == "scope") = false → (kk == "answer") = false → Q (.tup []) M → F_terms_in [d] M Q := fun {kk l} e h0 h1 h2 h3 q => by
    refine go e (t_skip (yt_eq (test_kk rfl) h0) (t_skip (yt_eq (test_k rfl) h1) (t_skip (yt_eq (test_k rfl) h2) (t_skip (yt_eq (test_k rfl) h3) (t_ret (y_tup ya_nil sz0) q)))))
  cases hs with
  | deed => exact no rfl (by decide) (by decide) (by decide) (by decide) hq
  | @leaf kk x hk _ =>
    exact in3 (p := fun k => k = kk → F_terms_in [.tup [.str kk, .str x]] M Q) hk (fun e => no rfl (by subst e; decide) (by subst e; decide) (by subst e; decide) (by subst e; decide) hq) (fun e => no rfl (by subst e; decide) (by subst e; decide) (by subst e; decide) (by subst e; decide) hq) (fun e => no rfl (by subst e; decide) (by subst e; decide) (by subst e; decide) (by subst e; decide) hq) rfl
  | row hk _ _ => exact go rfl (t_hit (yt_eq (test_kk rfl) (decide_eq_true hk)) (sl1_y rfl) hq)
  | call _ => exact go rfl (t_skip (yt_eq (test_kk rfl) (by decide)) (t_hit (yt_eq (test_k rfl) (by decide)) (sl2_y rfl) hq))
  | scope _ => exact go rfl (t_skip (yt_eq (test_kk rfl) (by decide)) (t_skip (yt_eq (test_k rfl) (by decide)) (t_hit (yt_eq (test_k rfl) (by decide)) (sl2_y rfl) hq)))
  | @ans prs t hp he ha =>
    have hpl := (kn_tup ((kn_tup h).2 (.tup prs) (by simp))).1
    refine go rfl (t_skip (yt_eq (test_kk rfl) (by decide)) (t_skip (yt_eq (test_k rfl) (by decide)) (t_skip (yt_eq (test_k rfl) (by decide)) (t_hit (v := .tup (prs.map sndD ++ [t])) (yt_eq (test_k rfl) (by decide)) ?_ hq))))
    exact y_op (y_cb (ya_cons (prs_y (y := t) rfl (by rfl) (by simp) hpl he) ya_nil) (n_tuple rfl)) (sl2_y rfl) (o_addT (szOk_mk (by rw [List.length_map]; simp; omega)))⟩
end
end PK
set_option Elab.async false
set_option linter.all false
set_option maxRecDepth 100000
set_option maxHeartbeats 1000000
namespace PK
open PySem PySem.Spec PyProof.Rows L2 DL LamX FL
def allD : Nat → D → List D
  | 0, d => [d]
  | n + 1, d => d :: (partsD d).flatMap (allD n)
def okT : Nat → D → Prop
  | 0, _ => False
  | n + 1, d => knD d = true ∧ formB d = true ∧ ∀ x ∈ partsD d, okT n x
def smallN : Nat → Nat → List D → Bool
  | 0, _, lv => lv.isEmpty
  | n + 1, m, lv => decide (m + lv.length ≤ 40) && (lv.all formB && smallN n (m + lv.length) (lv.flatMap partsD))
def smallB (d : D) : Bool := smallN 6 0 [d]
theorem flat_ge {k : Nat} : ∀ {lv : List D}, lv.length ≤ (lv.flatMap (allD k)).length
  | [] => Nat.le_refl _
  | x :: r => by
    have ih := flat_ge (k := k) (lv := r)
    have h1 : 1 ≤ (allD k x).length := by
      cases k with
      | zero => exact Nat.le_refl _
      | succ k => show 1 ≤ (x :: _).length; rw [List.length_cons]; omega
    rw [List.flatMap_cons, List.length_append, List.length_cons]; omega
theorem flat_next {k : Nat} : ∀ {lv : List D}, (lv.flatMap (allD (k + 1))).length = lv.length + ((lv.flatMap partsD).flatMap (allD k)).length
  | [] => rfl
  | x :: r => by
    have ih := flat_next (k := k) (lv := r)
    have e : allD (k + 1) x = x :: (partsD x).flatMap (allD k) := rfl
    rw [List.flatMap_cons, List.flatMap_cons, List.flatMap_append, List.length_append, List.length_append, ih, e, List.length_cons, List.length_cons]; omega
theorem flat_le' {f : D → List D} {b : Nat} : ∀ (l : List D), (∀ x ∈ l, (f x).length ≤ b) → (l.flatMap f).length ≤ l.length * b
  | [], _ => Nat.zero_le _
  | x :: r, h => by
    have h1 := h x List.mem_cons_self
    have h2 := flat_le' r fun y hy => h y (List.mem_cons_of_mem _ hy)
    rw [List.flatMap_cons, List.length_append, List.length_cons, Nat.add_mul]; omega
theorem small_okT : ∀ {n m : Nat} {lv : List D}, (∀ x ∈ lv, knD x = true) → smallN n m lv = true → ∀ x ∈ lv, okT n x
  | 0, m, lv, _, h, x, hx => by
    rw [smallN, List.isEmpty_iff] at h
    subst h; cases hx
  | n + 1, m, lv, hk, h, x, hx => by
    rw [smallN, Bool.and_eq_true, Bool.and_eq_true] at h
    have hf := List.all_eq_true.mp h.2.1
    refine ⟨hk x hx, hf x hx, fun y hy => small_okT (fun z hz => ?_) h.2.2 y (List.mem_flatMap.mpr ⟨x, hx, hy⟩)⟩
    obtain ⟨p, hp, hz⟩ := List.mem_flatMap.mp hz
    exact (parts_kn (hk p hp) (hf p hp)).2 z hz
theorem small_cnt : ∀ {n m : Nat} {lv : List D}, m ≤ 40 → smallN n m lv = true → m + (lv.flatMap (allD n)).length ≤ 40
  | 0, m, lv, hm, h => by
    rw [smallN, List.isEmpty_iff] at h
    subst h; exact hm
  | n + 1, m, lv, hm, h => by
    rw [smallN, Bool.and_eq_true, Bool.and_eq_true] at h
    have := small_cnt (of_decide_eq_true h.1) h.2.2
    rw [flat_next]; omega
theorem smallB_ok {d : D} (hk : knD d = true) (h : smallB d = true) : okT 6 d ∧ (allD 6 d).length ≤ 40 := by
  have h1 := small_okT (lv := [d]) (fun x hx => by rw [List.mem_singleton.mp hx]; exact hk) h d (List.mem_singleton.mpr rfl)
  have h2 := small_cnt (lv := [d]) (by omega) h
  rw [List.flatMap_cons, List.flatMap_nil, List.append_nil] at h2
  exact ⟨h1, by omega⟩
theorem small_mk : ∀ {n m k : Nat} {lv : List D}, (∀ x ∈ lv, okT k x) → k ≤ n → m + (lv.flatMap (allD k)).length ≤ 40 → smallN n m lv = true
  | 0, m, k, lv, h, hk, _ => by
    have : k = 0 := by omega
    subst this
    cases lv with
    | nil => rfl
    | cons x r => exact (h x List.mem_cons_self).elim
  | n + 1, m, k, lv, h, hk, hc => by
    have hge := flat_ge (k := k) (lv := lv)
    rw [smallN, Bool.and_eq_true, Bool.and_eq_true]
    cases k with
    | zero =>
      cases lv with
      | cons x r => exact (h x List.mem_cons_self).elim
      | nil => exact ⟨decide_eq_true (by omega), rfl, small_mk (k := 0) (fun x hx => nomatch hx) (by omega) (by show m + 0 + 0 ≤ 40; simp at hc; omega)⟩
    | succ k =>
      rw [flat_next] at hc
      refine ⟨decide_eq_true (by omega), List.all_eq_true.mpr fun x hx => (h x hx).2.1, small_mk (k := k) (fun y hy => ?_) (by omega) (by omega)⟩
      obtain ⟨p, hp, hy⟩ := List.mem_flatMap.mp hy
      exact (h p hp).2.2 y hy
theorem smallB_mk {n : Nat} {d : D} (h : okT n d) (hn : n ≤ 6) (hc : (allD n d).length ≤ 40) : smallB d = true :=
  small_mk (k := n) (lv := [d]) (fun x hx => by rw [List.mem_singleton.mp hx]; exact h) hn (by rw [List.flatMap_cons, List.flatMap_nil, List.append_nil]; omega)
section
variable {M : Mem} {Q : D → Mem → Prop} {η : Sls} {d : D} {l : List D} {k : Str}
theorem y_len {fe : WE} {xs : List D} (a : Yv fe η M (.lst xs)) : Yv (eCB lenF (aCons fe aNil)) η M (.int (xs.length : Nat)) := y_cb (ya_cons a ya_nil) n_lenL
theorem y_addN {fa fb : WE} {a b : Nat} (x : Yv fa η M (.int (a : Int))) (y : Yv fb η M (.int (b : Int))) : Yv (eOp addF fa fb) η M (.int ((a + b : Nat) : Int)) := by
  rw [Int.natCast_add]; exact y_op x y o_addI
theorem y_allB {fe : WE} {l : List D} {p : D → Bool} (a : Yv fe η M (.lst (l.map fun x => .bl (p x)))) : Yv (eCB allF (aCons fe aNil)) η M (.bl (l.all p)) := by
  have e : (l.map fun x => D.bl (p x)) = (l.map p).map D.bl := by rw [List.map_map]; rfl
  have e2 : l.all p = (l.map p).all id := by rw [List.all_map]; rfl
  rw [e] at a
  rw [e2]
  exact y_cb (ya_cons a ya_nil) (n_all (bls_map _))
theorem small_step {f g : FF} {lv : List D} {m : Nat} {x : D} {k' : KS} (hf : ∀ x : D, knD x = true → YF f M [x] (.bl (formB x))) (hg : ∀ x : D, knD x = true → formB x = true → YF g M [x] (.tup (partsD x)))
    (hk : ∀ x ∈ lv, knD x = true) (hl : lv.length ≤ 1000000) (q1 : (decide (m + lv.length ≤ 40) && lv.all formB) = true → k'.nx [.d d, .d (.lst (lv.flatMap partsD)), .d (.int ((m + lv.length : Nat) : Int)), .d x, .no, .no] M) (q2 : (decide (m + lv.length ≤ 40) && lv.all formB) = false → k'.rt (.bl false) M) :
    sSeq (sSet 2 (eOp addF (eVar 2) (eCB lenF (aCons (eVar 1) aNil)))) (sSeq (sIf (bOr (bTest (eOp (ibF fun i j => decide (j < i)) (eVar 2) (eC (.int ((40 : Nat) : Int))))) (bNot (bTru (eCB allF (aCons (eLc (iLst (eVar 1)) (gNm 4) bYes (eCall f 1 (aCons (eVar 4) aNil)) [4]) aNil))))) (sRet (eC (.bl false))) sNext) (sSet 1 (eLc2 (iLst (eVar 1)) (gNm 4) bYes (iTupl (eCall g 1 (aCons (eVar 4) aNil))) (gNm 5) bYes (eVar 5) [4, 5] [5]))) [.d d, .d (.lst lv), .d (.int (m : Int)), .d x, .no, .no] M k' := by
  refine t_sets (y_addN (y_var rfl) (y_len (y_var rfl))) ?_
  dsimp only [List.set_cons_succ, List.set_cons_zero]
  refine t_seq ?_
  have c1 : YT (bTest (eOp (ibF fun i j => decide (j < i)) (eVar 2) (eC (.int ((40 : Nat) : Int))))) [.d d, .d (.lst lv), .d (.int ((m + lv.length : Nat) : Int)), .d x, .no, .no] M (decide (40 < m + lv.length)) := yt_test (y_op (y_var rfl) y_c o_gtN)
  by_cases h40 : m + lv.length ≤ 40
  · have c1 := yt_eq c1 (decide_eq_false (show ¬ 40 < m + lv.length by omega))
    have c2 : YT (bNot (bTru (eCB allF (aCons (eLc (iLst (eVar 1)) (gNm 4) bYes (eCall f 1 (aCons (eVar 4) aNil)) [4]) aNil)))) [.d d, .d (.lst lv), .d (.int ((m + lv.length : Nat) : Int)), .d x, .no, .no] M (!lv.all formB) := yt_not (yt_tru (y_allB (y_lc (fun x => .bl (formB x)) (i_lst (y_var rfl)) (by rfl) hl fun x hx => y_call1 (y_var rfl) (hf x (hk x hx)))) tru_b)
    rw [decide_eq_true h40, Bool.true_and] at q1 q2
    cases ha : lv.all formB with
    | false => exact t_ift (yt_or_f c1 (yt_eq c2 (by rw [ha]; rfl))) (t_ret y_c (q2 ha))
    | true =>
      refine t_iff (yt_or_f c1 (yt_eq c2 (by rw [ha]; rfl))) (t_next ?_)
      have hfa := List.all_eq_true.mp ha
      have e1 : lv.filter (fun _ => true) = lv := List.filter_eq_self.mpr fun _ _ => rfl
      have hz : (lv.flatMap partsD).length ≤ 1000000 := Nat.le_trans (flat_le' (b := 1001) lv fun x hx => (parts_kn (hk x hx) (hfa x hx)).1) (by omega)
      have := y_lc2 (fi := iLst (eVar 1)) (fi1 := iTupl (eCall g 1 (aCons (eVar 4) aNil))) (ft := bYes) (fe := eVar 5) (i := 4) (j := 5) (η := [.d d, .d (.lst lv), .d (.int ((m + lv.length : Nat) : Int)), .d x, .no, .no]) (M := M) (ds := lv) (fun _ => true) partsD id (i_lst (y_var rfl)) (by rfl) (by rw [e1]; exact hz) (fun x hx => ⟨fun K hk => hk⟩) (fun x hx _ => i_tup (y_call1 (y_var rfl) (hg x (hk x hx) (hfa x hx)))) (fun x hx _ y hy => y_var rfl)
      rw [e1, List.map_id] at this
      exact t_set this (q1 ha)
  · have c1 := yt_eq c1 (decide_eq_true (show 40 < m + lv.length by omega))
    rw [decide_eq_false h40, Bool.false_and] at q2
    exact t_ift (yt_or_t c1) (t_ret y_c (q2 rfl))
theorem rng_len {n : Nat} : (rngD 0 n).length = n := by
  unfold rngD
  simp
theorem small_loop {fb : WS} {k' : KS} {d : D} (st : ∀ (lv : List D) (m : Nat) (x : D), (∀ x ∈ lv, knD x = true) → lv.length ≤ 1000000 → ∀ k' : KS, ((decide (m + lv.length ≤ 40) && lv.all formB) = true → k'.nx [.d d, .d (.lst (lv.flatMap partsD)), .d (.int ((m + lv.length : Nat) : Int)), .d x, .no, .no] M) → ((decide (m + lv.length ≤ 40) && lv.all formB) = false → k'.rt (.bl false) M) → fb [.d d, .d (.lst lv), .d (.int (m : Int)), .d x, .no, .no] M k') : ∀ (ds lv : List D) (m : Nat) (s : SL), isOwnS s = false → (∀ x ∈ lv, knD x = true) → lv.length ≤ 1000000 →
    (∀ (lv' : List D) (m' : Nat) (s' : SL), smallN ds.length m lv = lv'.isEmpty → k'.nx [.d d, .d (.lst lv'), .d (.int (m' : Int)), s', .no, .no] M) → (smallN ds.length m lv = false → k'.rt (.bl false) M) → forL (gNm 3) fb k' ds [.d d, .d (.lst lv), .d (.int (m : Int)), s, .no, .no] M
  | [], lv, m, s, hs, _, _, q, _ => q lv m s rfl
  | x :: r, lv, m, s, hs, hk, hl, q, e => by
    refine gd_mk (by cases s <;> first | rfl | cases hs) ?_
    refine st lv m x hk hl _ (fun h => ?_) (fun h => e ?_)
    · rw [Bool.and_eq_true] at h
      have hf := List.all_eq_true.mp h.2
      have h40 := of_decide_eq_true h.1
      have e1 : smallN (x :: r).length m lv = smallN r.length (m + lv.length) (lv.flatMap partsD) := by
        show (decide (m + lv.length ≤ 40) && (lv.all formB && smallN r.length (m + lv.length) (lv.flatMap partsD))) = _
        rw [h.1, h.2]; rfl
      rw [e1] at q e
      refine small_loop st r _ _ _ rfl (fun z hz => ?_) (Nat.le_trans (flat_le' (b := 1001) lv fun x hx => (parts_kn (hk x hx) (hf x hx)).1) (by omega)) q e
      obtain ⟨p, hp, hz⟩ := List.mem_flatMap.mp hz
      exact (parts_kn (hk p hp) (hf p hp)).2 z hz
    · show (decide (m + lv.length ≤ 40) && (lv.all formB && smallN r.length (m + lv.length) (lv.flatMap partsD))) = false
      rw [← Bool.and_assoc, h]; rfl
theorem is_small_y (h : knD d = true) : YF F_is_small M [d] (.bl (smallB d)) := ⟨fun Q hq => by
  have hf : ∀ x : D, knD x = true → YF F_has_form M [x] (.bl (formB x)) := fun x hx => has_form_y hx
  have hg : ∀ x : D, knD x = true → formB x = true → YF F_terms_in M [x] (.tup (partsD x)) := fun x hx hf => terms_in_y hx hf
  unfold F_is_small B_is_small B_is_small_1 B_is_small_2 B_is_small_3 B_is_small_f0 B_is_small_f0_1 B_is_small_f0_2
  generalize F_has_form = f at hf ⊢
  generalize F_terms_in = g at hg ⊢
  refine t_sets (η := [.d d, .no, .no, .no, .no, .no]) (v := .lst [d]) (y_lst (ya_cons (y_var rfl) ya_nil) sz1) ?_
  refine t_sets y_c ?_
  dsimp only [List.set_cons_succ, List.set_cons_zero]
  refine t_seq (sFor_u.mpr ((i_r1 (n := 6) y_c (by omega)).go _ ?_))
  refine small_loop (d := d) (fun lv m x hk hl k' q1 q2 => small_step hf hg hk hl q1 q2) (rngD 0 6) [d] 0 .no rfl (fun x hx => by rw [List.mem_singleton.mp hx]; exact h) (by simp) (fun lv' m' s' e => ?_) (fun e => ?_)
  · rw [rng_len] at e
    have c : Yv (eOp (eqF false) (eCB lenF (aCons (eVar 1) aNil)) (eC (.int ((0 : Nat) : Int)))) [.d d, .d (.lst lv'), .d (.int (m' : Int)), s', .no, .no] M (.bl (lv'.length == 0)) := y_op (y_len (y_var rfl)) y_c o_eqN
    have e0 : (lv'.length == 0) = smallN 6 0 [d] := by rw [e]; cases lv' <;> rfl
    rw [e0] at c
    dsimp only
    refine t_ret c ?_
    exact hq
  · rw [rng_len] at e
    show Q (.bl false) M
    unfold smallB at hq
    rw [e] at hq; exact hq⟩
end
end PK
set_option Elab.async false
set_option linter.all false
set_option maxRecDepth 100000
set_option maxHeartbeats 1000000
namespace PK
open PySem PySem.Spec PyProof.Rows L2 DL LamX FL
section
variable {M : Mem} {Q : D → Mem → Prop} {η : Sls} {d : D} {l : List D} {k : Str}
theorem acc_loop {rec : FF} {k' : KS} {fun_ : D → List D} : ∀ (ds acc : List D) (s : SL), isOwnS s = false → (∀ x ∈ ds, YF rec M [x] (.lst (fun_ x))) → acc.length + (ds.flatMap fun_).length ≤ 1000000 → (∀ s, isOwnS s = false → k'.nx [.d d, .d (.lst (acc ++ ds.flatMap fun_)), s] M) → forL (gNm 2) (sSet 1 (eOp addF (eVar 1) (eCall rec 1 (aCons (eVar 2) aNil)))) k' ds [.d d, .d (.lst acc), s] M
  | [], acc, s, hs, _, _, q => by
    have := q s hs
    rw [List.flatMap_nil, List.append_nil] at this
    exact this
  | x :: r, acc, s, hs, hr, hl, q => by
    rw [List.flatMap_cons, List.length_append] at hl
    refine gd_mk (by cases s <;> first | rfl | cases hs) ?_
    refine t_set (v := .lst (acc ++ fun_ x)) (y_op (y_var rfl) (y_call1 (y_var rfl) (hr x List.mem_cons_self)) (o_addL (szOk_mk (by omega)))) ?_
    refine acc_loop r (acc ++ fun_ x) (.d x) rfl (fun y hy => hr y (List.mem_cons_of_mem _ hy)) (by rw [List.length_append]; omega) fun s hs => ?_
    have := q s hs
    rw [List.flatMap_cons, ← List.append_assoc] at this
    exact this
theorem terms_of_y : ∀ (n m : Nat) (d : D), okT n d → n ≤ m → (allD n d).length ≤ 1000000 → YF (F_terms_of m) M [d] (.lst (allD n d)) := fun n => by
  induction n with
  | zero => exact fun m d h _ _ => h.elim
  | succ n ih =>
    intro m d h hm hl
    obtain ⟨m, rfl⟩ : ∃ m', m = m' + 1 := ⟨m - 1, by omega⟩
    refine ⟨fun Q hq => ?_⟩
    have ih := ih m
    have ht := terms_in_y (M := M) h.1 h.2.1
    have e : allD (n + 1) d = d :: (partsD d).flatMap (allD n) := rfl
    rw [e, List.length_cons] at hl
    rw [e] at hq
    show bodyF 3 (B_terms_of (F_terms_of m)) [d] M Q
    unfold B_terms_of
    generalize F_terms_of m = rec at ih ⊢
    generalize F_terms_in = f at ht ⊢
    refine t_sets (η := [.d d, .no, .no]) (v := .lst [d]) (y_lst (ya_cons (y_var rfl) ya_nil) sz1) ?_
    dsimp only [List.set_cons_succ, List.set_cons_zero]
    refine t_seq (sFor_u.mpr ((i_tup (y_call1 (y_var rfl) ht)).go _ ?_))
    refine acc_loop (fun_ := allD n) (partsD d) [d] .no rfl (fun x hx => ih x (h.2.2 x hx) (by omega) ?_) (by rw [List.length_singleton]; omega) fun s hs => ?_
    · have h1 : (allD n x).length ≤ ((partsD d).flatMap (allD n)).length := by
        obtain ⟨a, b, e⟩ := List.append_of_mem hx
        rw [e, List.flatMap_append, List.flatMap_cons, List.length_append, List.length_append]; omega
      omega
    · dsimp only
      refine t_ret (η := [.d d, .d (.lst ([d] ++ (partsD d).flatMap (allD n))), s]) (y_var rfl) ?_
      exact hq
def exB : Nat → List Str → D → Bool
  | 0, _, _ => true
  | n + 1, labs, .tup (.str k :: .str x :: l) => if k = "exit" then decide (x ∈ labs) else (partsD (.tup (.str k :: .str x :: l))).all (exB n (if k = "scope" then labs ++ [x] else labs))
  | n + 1, labs, d => (partsD d).all (exB n labs)
theorem strs_in {x : Str} {labs : List Str} {fa fb : WE} (a : Yv fa η M (.str x)) (b : Yv fb η M (.tup (labs.map D.str))) : Yv (eOp (inF false) fa fb) η M (.bl (decide (x ∈ labs))) := ⟨fun K hk => a.go _ (b.go _ (inF_strs (neg := false) (M := M) (k := fun z => K z η M) hk))⟩
theorem exits_y : ∀ (n m : Nat) (labs : List Str) (d : D), okT n d → n ≤ m → labs.length + n ≤ 1000 → YF (F_exits_fit m) M [d, .tup (labs.map D.str)] (.bl (exB n labs d)) := fun n => by
  induction n with
  | zero => exact fun m labs d h => h.elim
  | succ n ih =>
    intro m labs d h hm hl
    obtain ⟨m, rfl⟩ : ∃ m', m = m' + 1 := ⟨m - 1, by omega⟩
    refine ⟨fun Q hq => ?_⟩
    have ih := ih m
    have ht := terms_in_y (M := M) h.1 h.2.1
    have hpl := (parts_kn h.1 h.2.1).1
    show bodyF 4 (B_exits_fit (F_exits_fit m)) [d, .tup (labs.map D.str)] M Q
    unfold B_exits_fit
    generalize F_exits_fit m = rec at ih ⊢
    generalize F_terms_in = f at ht ⊢
    -- the end, with the labels that hold within
    have fin : ∀ labs' : List Str, labs'.length + n ≤ 1000 → Q (.bl ((partsD d).all (exB n labs'))) M → sRet (eCB allF (aCons (eLc (iTupl (eCall f 1 (aCons (eVar 0) aNil))) (gNm 3) bYes (eCall rec 2 (aCons (eVar 3) (aCons (eVar 2) aNil))) [3]) aNil)) [.d d, .d (.tup (labs.map D.str)), .d (.tup (labs'.map D.str)), .no] M { nx := fun _ M' => Q .non M', rt := Q } := fun labs' hl' q => by
      refine t_ret (y_allB (y_lc (fun x => .bl (exB n labs' x)) (i_tup (y_call1 (y_var rfl) ht)) (by rfl) (by omega) fun x hx => y_call2 (y_var rfl) (y_var rfl) (ih labs' x (h.2.2 x hx) (by omega) hl'))) ?_
      exact q
    have hd0 : ∀ {c : Str} {kk : Str} {l : List D} {y z : SL}, d = .tup (.str kk :: l) → YT (bTest (eOp (eqF false) (eOp ixF (eVar 0) (eC (.int ((0 : Nat) : Int)))) (eC (.str c)))) [.d d, .d (.tup (labs.map D.str)), y, z] M (kk == c) := fun {c kk l y z} e => by
      subst e
      exact yt_test (y_op (item_t (j := 0) rfl rfl) y_c (o_eq (neg := false) rfl))
    have skip : ∀ {kk : Str} {l : List D}, d = .tup (.str kk :: l) → (kk == "exit") = false → (kk == "scope") = false → exB (n + 1) labs d = (partsD d).all (exB n labs) → bodyF 4 (sSeq (sIf (bTest (eOp (eqF false) (eOp ixF (eVar 0) (eC (.int 0))) (eC (.str "exit")))) (sRet (eOp (inF false) (eOp ixF (eVar 0) (eC (.int 1))) (eVar 1))) sNext) (sSeq (sSet 2 (eVar 1)) (sSeq (sIf (bTest (eOp (eqF false) (eOp ixF (eVar 0) (eC (.int 0))) (eC (.str "scope")))) (sSet 2 (eOp addF (eVar 1) (eTup (aCons (eOp ixF (eVar 0) (eC (.int 1))) aNil)))) sNext) (sRet (eCB allF (aCons (eLc (iTupl (eCall f 1 (aCons (eVar 0) aNil))) (gNm 3) bYes (eCall rec 2 (aCons (eVar 3) (aCons (eVar 2) aNil))) [3]) aNil)))))) [d, .tup (labs.map D.str)] M Q := fun {kk l} e h1 h2 h3 => by
      rw [h3] at hq
      refine t_skip (η := [.d d, .d (.tup (labs.map D.str)), .no, .no]) (yt_eq (hd0 e) h1) ?_
      refine t_sets (v := .tup (labs.map D.str)) (y_var rfl) ?_
      dsimp only [List.set_cons_succ, List.set_cons_zero]
      exact t_skip (yt_eq (hd0 e) h2) (fin labs (by omega) hq)
    have hs := fm_of h.2.1
    generalize hp : partsD d = ps at hs
    cases hs with
    | deed => exact skip rfl (by decide) (by decide) (by rfl)
    | @leaf kk x hk _ =>
      exact in3 (p := fun k => k = kk → bodyF 4 _ _ M Q) hk (fun e => by subst e; exact skip rfl (by decide) (by decide) (by rfl)) (fun e => by
        subst e
        exact t_hit (η := [.d _, .d (.tup (labs.map D.str)), .no, .no]) (yt_eq (hd0 rfl) (by decide)) (strs_in (item_t (j := 1) rfl rfl) (y_var rfl)) hq) (fun e => by subst e; exact skip rfl (by decide) (by decide) (by rfl)) rfl
    | @row kk _ hk _ _ =>
      refine skip rfl ?_ ?_ ?_
      · exact rows_ind (p := fun k => (k == ("exit" : Str)) = false) hk (by decide) (by decide) (by decide) (by decide)
      · exact rows_ind (p := fun k => (k == ("scope" : Str)) = false) hk (by decide) (by decide) (by decide) (by decide)
      · have h1 : kk ≠ "exit" := rows_ind (p := fun k => k ≠ ("exit" : Str)) hk (by decide) (by decide) (by decide) (by decide)
        have h2 : kk ≠ "scope" := rows_ind (p := fun k => k ≠ ("scope" : Str)) hk (by decide) (by decide) (by decide) (by decide)
        cases ps with
        | nil => rfl
        | cons y r =>
          cases y with
          | str x => show (if kk = "exit" then _ else _) = _; rw [if_neg h1, if_neg h2]
          | _ => rfl
    | call _ => exact skip rfl (by decide) (by decide) (by rfl)
    | @scope x t hx =>
      have e3 : exB (n + 1) labs (.tup [.str "scope", .str x, t]) = (partsD (.tup [.str "scope", .str x, t])).all (exB n (labs ++ [x])) := by rfl
      rw [e3] at hq
      refine t_skip (η := [.d _, .d (.tup (labs.map D.str)), .no, .no]) (yt_eq (hd0 rfl) (by decide)) ?_
      refine t_sets (v := .tup (labs.map D.str)) (y_var rfl) ?_
      dsimp only [List.set_cons_succ, List.set_cons_zero]
      refine t_seq (t_ift (yt_eq (hd0 rfl) (by decide)) (t_set (v := .tup ((labs ++ [x]).map D.str)) ?_ ?_))
      · rw [List.map_append]
        exact y_op (y_var rfl) (y_tup (ya_cons (item_t (j := 1) rfl rfl) ya_nil) sz1) (o_addT (szOk_mk (by rw [List.length_map]; simp; omega)))
      · exact fin (labs ++ [x]) (by rw [List.length_append, List.length_singleton]; omega) hq
    | ans => exact skip rfl (by decide) (by decide) (by rfl)
end
end PK
set_option Elab.async false
set_option linter.all false
set_option maxRecDepth 100000
set_option maxHeartbeats 1000000
namespace PK
open PySem PySem.Spec PyProof.Rows L2 DL LamX FL
def headIs (k : Str) : D → Bool
  | .tup (.str k' :: _) => k' == k
  | _ => false
def sec : D → D
  | .tup (_ :: y :: _) => y
  | d => d
def secS : D → Str
  | .tup (_ :: .str y :: _) => y
  | _ => ""
def namesOf (k : Str) (l : List D) : List Str := (l.filter (headIs k)).map secS
def AllF (l : List D) : Prop := ∀ t ∈ l, formB t = true
theorem allD_form : ∀ (n : Nat) {d : D}, okT n d → AllF (allD n d)
  | 0, _, h => h.elim
  | n + 1, d, h => fun t ht => by
    rcases List.mem_cons.mp (show t ∈ d :: (partsD d).flatMap (allD n) from ht) with rfl | ht
    · exact h.2.1
    · obtain ⟨p, hp, ht⟩ := List.mem_flatMap.mp ht
      exact allD_form n (h.2.2 p hp) t ht
theorem form_head {t : D} (h : formB t = true) : ∃ k l, t = .tup (.str k :: l) := by
  obtain ⟨k, l, _, e, _⟩ := form_of h
  exact ⟨k, l, e⟩
def SECK : List Str := ["do", "run", "exit", "raise", "call", "scope"]
theorem sec_of {t : D} {k : Str} (h : formB t = true) (hk : k ∈ SECK) (hh : headIs k t = true) : sec t = .str (secS t) ∧ nameB (secS t) = true ∧ ∃ l, t = .tup (.str k :: .str (secS t) :: l) := by
  have eq : ∀ {c : Str}, (c == k) = true → c = k := fun h => eq_of_beq h
  have hs := fm_of h
  generalize partsD t = ps at hs
  cases hs with
  | deed hn => obtain rfl := eq hh; exact ⟨rfl, hn, _, rfl⟩
  | leaf _ hn => obtain rfl := eq hh; exact ⟨rfl, hn, _, rfl⟩
  | row hr => obtain rfl := eq hh; exact absurd hk (rows_ind (p := fun k => ¬ k ∈ SECK) hr (by decide) (by decide) (by decide) (by decide))
  | call hn => obtain rfl := eq hh; exact ⟨rfl, hn, _, rfl⟩
  | scope hn => obtain rfl := eq hh; exact ⟨rfl, hn, _, rfl⟩
  | ans => obtain rfl := eq hh; exact absurd hk (by decide)
theorem sec_nmF {k : Str} (hk : k ∈ SECK) : ∀ {l : List D}, AllF l → (l.filter (headIs k)).map sec = (namesOf k l).map D.str := fun {l} h => by
  unfold namesOf
  rw [List.map_map]
  refine List.map_congr_left fun t ht => ?_
  obtain ⟨ht1, ht2⟩ := List.mem_filter.mp ht
  exact (sec_of (h t ht1) hk ht2).1
theorem names_le {k : Str} {l : List D} : (namesOf k l).length ≤ l.length := by
  unfold namesOf
  rw [List.length_map]; exact List.length_filter_le _ _
section
variable {M : Mem} {Q : D → Mem → Prop} {η : Sls} {d : D} {l : List D} {k : Str}
theorem headF_y {i : Nat} {t : D} (h : formB t = true) (hη : η[i]? = some (.d t)) : YT (bTest (eOp (eqF false) (eOp ixF (eVar i) (eC (.int ((0 : Nat) : Int)))) (eC (.str k)))) η M (headIs k t) := by
  obtain ⟨c, r, e⟩ := form_head h
  subst e
  exact yt_test (y_op (item_t (j := 0) hη rfl) y_c (o_eq (neg := false) rfl))
theorem head_yV {i j : Nat} {t : D} (h : formB t = true) (hη : η[i]? = some (.d t)) (hj : η[j]? = some (.d (.str k))) : YT (bTest (eOp (eqF false) (eOp ixF (eVar i) (eC (.int ((0 : Nat) : Int)))) (eVar j))) η M (headIs k t) := by
  obtain ⟨c, r, e⟩ := form_head h
  subst e
  exact yt_test (y_op (item_t (j := 0) hη rfl) (y_var hj) (o_eq (neg := false) rfl))
theorem sec_y {i : Nat} {t : D} (h : formB t = true) (hk : k ∈ SECK) (hh : headIs k t = true) (hη : η[i]? = some (.d t)) : Yv (eOp ixF (eVar i) (eC (.int ((1 : Nat) : Int)))) η M (.str (secS t)) := by
  obtain ⟨_, _, r, e⟩ := sec_of h hk hh
  have hx : ∃ xs, t = .tup xs ∧ xs[1]? = some (.str (secS t)) := ⟨_, e, rfl⟩
  obtain ⟨xs, e2, e3⟩ := hx
  rw [e2] at hη
  exact item_t (j := 1) hη e3
theorem lc_nmF {fi : WA} {i : Nat} {ft : WB} (hi : YA fi η M l) (no : notOwn η i = true) (hb : i < η.length) (hk : k ∈ SECK) (h : AllF l) (hl : l.length ≤ 1000000) (ht : ∀ t ∈ l, YT ft (η.set i (.d t)) M (headIs k t)) :
    Yv (eLc fi (gNm i) ft (eOp ixF (eVar i) (eC (.int ((1 : Nat) : Int)))) [i]) η M (.lst ((namesOf k l).map D.str)) := by
  rw [← sec_nmF hk h]
  exact y_lcf (headIs k) sec hi no hl ht fun t htl hc => by
    rw [(sec_of (h t htl) hk hc).1]
    exact sec_y (h t htl) hk hc (List.getElem?_set_self hb)
theorem nubS_self : ∀ {l : List Str}, l.Nodup → nubS l = l
  | [], _ => rfl
  | x :: r, h => by
    obtain ⟨h1, h2⟩ := List.nodup_cons.mp h
    rw [nubS, if_neg h1, nubS_self h2]
def ndB (l : List Str) : Bool := (nubS l).length == l.length
theorem ndB_mk {l : List Str} (h : l.Nodup) : ndB l = true := by unfold ndB; rw [nubS_self h]; exact beq_self_eq_true _
theorem eqlen_y {i : Nat} {l : List Str} (hd : η[i]? = some (.d (.lst (l.map D.str))) ∨ η[i]? = some (.d (.tup (l.map D.str)))) (hl : l.length ≤ 1000) : Yv (eOp (eqF false) (eLenSet (eVar i)) (eCB lenF (aCons (eVar i) aNil))) η M (.bl (ndB l)) := by
  have h1 : Yv (eLenSet (eVar i)) η M (.int ((nubS l).length : Nat)) := by
    refine ⟨fun K hk => ?_⟩
    rcases hd with h | h
    · refine (y_var h).go _ ?_
      refine optF_mk (a := l.map D.str) rfl (optF_mk (strsL_map l) (gd_mk (Nat.ble_eq_true_of_le hl) hk))
    · refine (y_var h).go _ ?_
      refine optF_mk (a := l.map D.str) rfl (optF_mk (strsL_map l) (gd_mk (Nat.ble_eq_true_of_le hl) hk))
  have h2 : Yv (eCB lenF (aCons (eVar i) aNil)) η M (.int ((l.map D.str).length : Nat)) := by
    rcases hd with h | h
    · exact y_len (y_var h)
    · exact len_t h
  rw [List.length_map] at h2
  exact y_op h1 h2 o_eqN
def strsOf : List D → List Str
  | [] => []
  | .str x :: r => x :: strsOf r
  | _ :: r => strsOf r
theorem strs_nm : ∀ {l : List D}, l.all nmB = true → (strsOf l).map D.str = l
  | [], _ => rfl
  | x :: r, h => by
    rw [List.all_cons, Bool.and_eq_true] at h
    cases x with
    | str a => show D.str a :: _ = _; rw [strs_nm h.2]
    | _ => cases h.1
theorem strsOf_map : ∀ l : List Str, strsOf (l.map D.str) = l
  | [] => rfl
  | x :: r => by show x :: strsOf (r.map D.str) = _; rw [strsOf_map r]
def nmsB : D → Bool
  | .tup xs => xs.all nmB && ndB (strsOf xs)
  | _ => false
theorem are_names_y (h : knD d = true) : YF F_are_names M [d] (.bl (nmsB d)) := ⟨fun Q hq => by
  have hf : ∀ x : D, knD x = true → YF F_is_name M [x] (.bl (nmB x)) := fun x hx => is_name_y hx
  unfold F_are_names B_are_names
  generalize F_is_name = f at hf ⊢
  have c1 : YT (bNot (bTru (eCB isiF (aCons (eVar 0) (aCons (eC (.raw (.ty "tuple"))) aNil))))) [.d d, .no] M (!isTup d) := yt_not (yt_tru (isi_y (y_var rfl) (ki_tuple h)) tru_b)
  refine t_seq (η := [.d d, .no]) ?_
  cases d with
  | tup xs =>
    obtain ⟨hl, hx⟩ := kn_tup h
    have c2 : YT (bNot (bTru (eCB allF (aCons (eLc (iTupl (eVar 0)) (gNm 1) bYes (eCall f 1 (aCons (eVar 1) aNil)) [1]) aNil)))) [.d (.tup xs), .no] M (!xs.all nmB) := yt_not (yt_tru (y_allB (y_lc (fun x => .bl (nmB x)) (i_tup (y_var rfl)) (by rfl) (by omega) fun x hx' => y_call1 (y_var rfl) (hf x (hx x hx')))) tru_b)
    have e0 : nmsB (.tup xs) = (xs.all nmB && ndB (strsOf xs)) := rfl
    rw [e0] at hq
    cases ha : xs.all nmB with
    | false =>
      rw [ha] at hq
      exact t_ift (yt_or_f c1 (yt_eq c2 (by rw [ha]; rfl))) (t_ret y_c hq)
    | true =>
      rw [ha, Bool.true_and] at hq
      refine t_iff (yt_or_f c1 (yt_eq c2 (by rw [ha]; rfl))) (t_next ?_)
      dsimp only
      refine t_ret (eqlen_y (i := 0) (.inr ?_) ?_) hq
      · show some (SL.d (.tup xs)) = _; rw [strs_nm ha]
      · have : ((strsOf xs).map D.str).length = xs.length := by rw [strs_nm ha]
        rw [List.length_map] at this; omega
  | _ => exact t_ift (yt_or_t c1) (t_ret y_c hq)⟩
def parB : D → Bool
  | .tup xs => nmsB (.tup xs) && decide (xs.length ≤ 3)
  | _ => false
theorem are_parameters_y (h : knD d = true) : YF F_are_parameters M [d] (.bl (parB d)) := ⟨fun Q hq => by
  have hf := are_names_y (M := M) h
  unfold F_are_parameters B_are_parameters
  generalize F_are_names = f at hf ⊢
  cases d with
  | tup xs => exact t_ret (η := [.d (.tup xs)]) (v := .bl (nmsB (.tup xs) && decide (xs.length ≤ 3))) (y_and (y_call1 (y_var rfl) hf) fun _ => y_op (len_t rfl) y_c (o_leN (b := 3))) hq
  | _ => exact t_ret (η := [.d _]) (y_and_f (y_call1 (y_var rfl) hf)) hq⟩
def boundB (own : List Str) (d : D) : Bool := (namesOf "run" (allD 6 d)).all (fun x => decide (x ∈ own)) && (ndB (namesOf "scope" (allD 6 d)) && exB 6 [] d)
theorem is_bound_y {own : List Str} (h : okT 6 d) (hc : (allD 6 d).length ≤ 40) : YF F_is_bound M [d, .tup (own.map D.str)] (.bl (boundB own d)) := ⟨fun Q hq => by
  have hat := allD_form 6 h
  have hT := terms_of_y (M := M) 6 10 d h (by omega) (by omega)
  have hE := exits_y (M := M) 6 10 [] d h (by omega) (by show 0 + 6 ≤ _; omega)
  unfold F_is_bound B_is_bound B_is_bound_1 B_is_bound_2 B_is_bound_3
  generalize F_terms_of 10 = tf at hT ⊢
  generalize F_exits_fit 10 = ef at hE ⊢
  have hll := names_le (k := "scope") (l := allD 6 d)
  unfold boundB at hq
  generalize allD 6 d = all at *
  refine t_sets (η := [.d d, .d (.tup (own.map D.str)), .no, .no, .no]) (y_call1 (y_var rfl) hT) ?_
  dsimp only [List.set_cons_succ, List.set_cons_zero]
  have c1 : Yv (eLc (iLst (eVar 2)) (gNm 4) (bTest (eOp (eqF false) (eOp ixF (eVar 4) (eC (.int ((0 : Nat) : Int)))) (eC (.str "run")))) (eOp (inF false) (eOp ixF (eVar 4) (eC (.int ((1 : Nat) : Int)))) (eVar 1)) [4]) [.d d, .d (.tup (own.map D.str)), .d (.lst all), .no, .no] M (.lst ((all.filter (headIs "run")).map fun t => .bl (decide (secS t ∈ own)))) :=
    y_lcf (headIs "run") _ (i_lst (y_var rfl)) (by rfl) (by omega) (fun t ht => headF_y (hat t ht) rfl) fun t ht hc => strs_in (sec_y (hat t ht) (by decide) hc rfl) (y_var rfl)
  have c2 : YT (bNot (bTru (eCB allF (aCons (eLc (iLst (eVar 2)) (gNm 4) (bTest (eOp (eqF false) (eOp ixF (eVar 4) (eC (.int ((0 : Nat) : Int)))) (eC (.str "run")))) (eOp (inF false) (eOp ixF (eVar 4) (eC (.int ((1 : Nat) : Int)))) (eVar 1)) [4]) aNil)))) [.d d, .d (.tup (own.map D.str)), .d (.lst all), .no, .no] M (!(namesOf "run" all).all fun x => decide (x ∈ own)) := by
    have e : (all.filter (headIs "run")).all (fun t => decide (secS t ∈ own)) = (namesOf "run" all).all fun x => decide (x ∈ own) := by
      unfold namesOf; rw [List.all_map]; rfl
    rw [← e]
    exact yt_not (yt_tru (y_allB c1) tru_b)
  cases hr : (namesOf "run" all).all fun x => decide (x ∈ own) with
  | false =>
    rw [hr] at hq
    exact t_seq (t_ift (yt_eq c2 (by rw [hr]; rfl)) (t_ret y_c hq))
  | true =>
    rw [hr, Bool.true_and] at hq
    refine t_skip (yt_eq c2 (by rw [hr]; rfl)) ?_
    refine t_sets (lc_nmF (k := "scope") (i_lst (y_var rfl)) (by rfl) (by simp) (by decide) hat (by omega) fun t ht => headF_y (hat t ht) rfl) ?_
    dsimp only [List.set_cons_succ, List.set_cons_zero]
    exact t_ret (y_and (eqlen_y (i := 3) (.inl rfl) (by omega)) fun _ => y_call2 (y_var rfl) (y_tup ya_nil sz0) hE) hq⟩
def termB (own : List Str) (d : D) : Bool := smallB d && boundB own d
theorem is_term_y {own : List Str} (hk : knD d = true) (ho : parB (.tup (own.map D.str)) = true) (hko : knD (.tup (own.map D.str)) = true) : YF F_is_term M [d, .tup (own.map D.str)] (.bl (termB own d)) := ⟨fun Q hq => by
  have h1 := are_parameters_y (M := M) hko
  have h2 := is_small_y (M := M) hk
  have h3 : smallB d = true → YF F_is_bound M [d, .tup (own.map D.str)] (.bl (boundB own d)) := fun h => is_bound_y (smallB_ok hk h).1 (smallB_ok hk h).2
  unfold F_is_term B_is_term
  generalize F_are_parameters = f1 at h1 ⊢
  generalize F_is_small = f2 at h2 ⊢
  generalize F_is_bound = f3 at h3 ⊢
  rw [ho] at h1
  refine t_seq (η := [.d d, .d (.tup (own.map D.str))]) (t_iff (yt_not (yt_tru (y_call1 (y_var rfl) h1) tru_b)) (t_next ?_))
  dsimp only
  exact t_ret (y_and (y_call1 (y_var rfl) h2) fun e => y_call2 (y_var rfl) (y_var rfl) (h3 e)) hq⟩
theorem nub_le : ∀ l : List Str, (nubS l).length ≤ l.length
  | [] => Nat.le_refl _
  | x :: r => by
    have ih := nub_le r
    rw [nubS, List.length_cons]
    split
    · omega
    · rw [List.length_cons]; omega
def few (l : List Str) : Bool := Nat.ble l.length 1000 && Nat.blt (nubS l).length 64
theorem few_of {l : List Str} (hl : l.length < 64) : few l = true := by
  have := nub_le l
  unfold few
  rw [Bool.and_eq_true]
  exact ⟨Nat.ble_eq_true_of_le (by omega), Nat.blt_eq.mpr (by omega)⟩
theorem y_sortSet {fe : WE} {l : List Str} (h : Yv fe η M (.lst (l.map D.str))) (hl : few l = true) : Yv (eSortSet fe) η M (.lst ((ascS l).map D.str)) := ⟨fun K hk => by
  refine eSortSet_u.mpr (h.go _ ?_)
  show optF (strsL (l.map D.str)) _
  rw [strsL_map]
  exact gd_mk hl hk⟩
theorem asc_few_y {l : List Str} (hl : few l = true) : YF F_ascending M [.lst (l.map D.str)] (.tup ((ascS l).map D.str)) := ⟨fun Q hq => by
  unfold F_ascending B_ascending
  exact t_ret (y_cb (ya_cons (y_sortSet (y_var (x := .lst (l.map D.str)) rfl) hl) ya_nil) (n_tuple rfl)) hq⟩
theorem asc_set_y {l : List Str} (hl : l.length < 64) : YF F_ascending M [.lst (l.map D.str)] (.tup ((ascS l).map D.str)) := asc_few_y (few_of hl)
theorem named_in_y (hk : k ∈ SECK) (h : AllF l) (hl : l.length ≤ 40) : YF F_named_in M [.lst l, .str k] (.tup ((ascS (namesOf k l)).map D.str)) := ⟨fun Q hq => by
  have hA : YF F_ascending M [.lst ((namesOf k l).map D.str)] (.tup ((ascS (namesOf k l)).map D.str)) := asc_set_y (by have := names_le (k := k) (l := l); omega)
  unfold F_named_in B_named_in
  generalize F_ascending = f at hA ⊢
  exact t_ret (η := [.d (.lst l), .d (.str k), .no]) (y_call1 (lc_nmF (k := k) (i_lst (y_var rfl)) (by rfl) (by simp) hk h (by omega) fun t ht => head_yV (k := k) (i := 2) (j := 1) (h t ht) rfl rfl) hA) hq⟩
end
end PK
set_option Elab.async false
set_option linter.all false
set_option maxRecDepth 100000
set_option maxHeartbeats 1000000
namespace PK
open PySem PySem.Spec PyProof.Rows L2 DL LamX FL
def pairsD : D → List D
  | .tup [_, .tup prs, _] => prs
  | _ => []
def fstS : D → Str
  | .tup (.str a :: _) => a
  | _ => ""
def answersOf (l : List D) : List Str := ((l.filter (headIs "answer")).flatMap pairsD).map fstS
theorem ans_of {t : D} (h : formB t = true) (hh : headIs "answer" t = true) : ∃ prs t', t = .tup [.str "answer", .tup prs, t'] ∧ ∀ p ∈ prs, ∃ a y, p = .tup [.str a, y] ∧ nameB a = true := by
  have nr : ∀ k ∈ ROWS, ¬ (k == ("answer" : Str)) = true := by decide
  have nl : ∀ k ∈ (["run", "exit", "raise"] : List Str), ¬ (k == ("answer" : Str)) = true := by decide
  have hs := fm_of h
  generalize partsD t = ps at hs
  cases hs with
  | deed => exact absurd hh (show ¬ (("do" : Str) == "answer") = true by decide)
  | leaf hk => exact absurd hh (nl _ hk)
  | row hr => exact absurd hh (nr _ hr)
  | call => exact absurd hh (show ¬ (("call" : Str) == "answer") = true by decide)
  | scope => exact absurd hh (show ¬ (("scope" : Str) == "answer") = true by decide)
  | ans _ he => exact ⟨_, _, rfl, he⟩
theorem fst_strsF {l : List D} (h : AllF l) : ((l.filter (headIs "answer")).flatMap pairsD).map fstD = (answersOf l).map D.str := by
  unfold answersOf
  rw [List.map_map]
  refine List.map_congr_left fun p hp => ?_
  obtain ⟨t, ht, hp⟩ := List.mem_flatMap.mp hp
  obtain ⟨ht1, ht2⟩ := List.mem_filter.mp ht
  obtain ⟨prs, t', e2, hq⟩ := ans_of (h t ht1) ht2
  rw [e2] at hp
  obtain ⟨a, y, rfl, _⟩ := hq p hp
  rfl
section
variable {M : Mem} {Q : D → Mem → Prop} {η : Sls} {d : D} {l : List D} {k : Str}
theorem signals_in_y (h : AllF l) (hl : l.length ≤ 40) (h64 : (namesOf "raise" l).length + (answersOf l).length < 64) : YF F_signals_in M [.lst l] (.tup ((ascS (namesOf "raise" l ++ answersOf l)).map D.str)) := ⟨fun Q hq => by
  have hA : YF F_ascending M [.lst ((namesOf "raise" l ++ answersOf l).map D.str)] (.tup ((ascS (namesOf "raise" l ++ answersOf l)).map D.str)) := asc_set_y (by rw [List.length_append]; exact h64)
  unfold F_signals_in B_signals_in
  generalize F_ascending = f at hA ⊢
  have hlen : ((l.filter (headIs "answer")).flatMap pairsD).length = (answersOf l).length := by unfold answersOf; rw [List.length_map]
  refine t_sets (η := [.d (.lst l), .no, .no, .no, .no]) (lc_nmF (k := "raise") (i_lst (y_var rfl)) (by rfl) (by simp) (by decide) h (by omega) fun t ht => headF_y (h t ht) rfl) ?_
  dsimp only [List.set_cons_succ, List.set_cons_zero]
  have c2 : Yv (eLc2 (iLst (eVar 0)) (gNm 3) (bTest (eOp (eqF false) (eOp ixF (eVar 3) (eC (.int ((0 : Nat) : Int)))) (eC (.str "answer")))) (iTupl (eOp ixF (eVar 3) (eC (.int ((1 : Nat) : Int))))) (gNm 4) bYes (eOp ixF (eVar 4) (eC (.int ((0 : Nat) : Int)))) [3, 4] [4]) [.d (.lst l), .d (.lst ((namesOf "raise" l).map D.str)), .no, .no, .no] M (.lst ((answersOf l).map D.str)) := by
    rw [← fst_strsF h]
    refine y_lc2 (headIs "answer") pairsD fstD (i_lst (y_var rfl)) (by rfl) (by omega) (fun t ht => headF_y (h t ht) rfl) (fun t ht hc => ?_) fun t ht hc y hy => ?_
    · obtain ⟨prs, t', e, _⟩ := ans_of (h t ht) hc
      subst e
      exact i_tup (item_t (j := 1) rfl rfl)
    · obtain ⟨prs, t', e, hp⟩ := ans_of (h t ht) hc
      subst e
      obtain ⟨a, z, e, _⟩ := hp y hy
      subst e
      exact item_t (j := 0) rfl rfl
  refine t_sets c2 ?_
  dsimp only [List.set_cons_succ, List.set_cons_zero]
  have c3 : Yv (eOp addF (eVar 1) (eVar 2)) [.d (.lst l), .d (.lst ((namesOf "raise" l).map D.str)), .d (.lst ((answersOf l).map D.str)), .no, .no] M (.lst ((namesOf "raise" l ++ answersOf l).map D.str)) := by
    rw [List.map_append]
    exact y_op (y_var rfl) (y_var rfl) (o_addL (szOk_mk (by rw [List.length_map, List.length_map]; omega)))
  exact t_ret (y_call1 c3 hA) hq⟩
end
end PK
set_option Elab.async false
set_option linter.all false
set_option maxRecDepth 100000
set_option maxHeartbeats 1000000
namespace PK
open PySem PySem.Spec PyProof.Rows L2 DL LamX FL
def strsT (l : List Str) : D := .tup ((ascS l).map D.str)
def fieldsP (nm : Str) (own : List Str) (d : D) (all : List D) : List (Str × D) :=
  [("_named", .str nm), ("_parameters", .tup (own.map D.str)), ("_body", d), ("_terms", .lst all), ("_words", strsT (namesOf "do" all)), ("_signals", strsT (namesOf "raise" all ++ answersOf all)), ("_labels", strsT (namesOf "scope" all)), ("_uses", strsT (namesOf "call" all))]
theorem allD_mono : ∀ (n m : Nat) {d : D}, okT n d → n ≤ m → allD m d = allD n d
  | 0, _, _, h, _ => h.elim
  | n + 1, m, d, h, hm => by
    obtain ⟨m, rfl⟩ : ∃ m', m = m' + 1 := ⟨m - 1, by omega⟩
    show d :: (partsD d).flatMap (allD m) = d :: (partsD d).flatMap (allD n)
    have : (partsD d).map (allD m) = (partsD d).map (allD n) := List.map_congr_left fun x hx => allD_mono n m (h.2.2 x hx) (by omega)
    rw [List.flatMap_def, List.flatMap_def, this]
theorem okT_mono : ∀ {n m : Nat} {d : D}, okT n d → n ≤ m → okT m d
  | 0, _, _, h, _ => h.elim
  | n + 1, m, d, h, hm => by
    obtain ⟨m, rfl⟩ : ∃ m', m = m' + 1 := ⟨m - 1, by omega⟩
    exact ⟨h.1, h.2.1, fun x hx => okT_mono (h.2.2 x hx) (by omega)⟩
structure BodyG (own : List Str) (d : D) (n : Nat) : Prop where
  ok : okT n d
  hn : n ≤ 6
  par : parB (.tup (own.map D.str)) = true
  all : (allD n d).length ≤ 40
  bound : boundB own d = true
  sig : (namesOf "raise" (allD n d)).length + (answersOf (allD n d)).length < 64
section
variable {M : Mem} {Q : D → Mem → Prop} {η : Sls} {k : KS}
theorem t_put {C x : Addr} {i : Nat} {f : Str} {fe : WE} {v : D} {fs : List (Str × D)} (he : Yv fe η (mup M x (.ins C fs)) v) (hη : η[i]? = some (.d (.raw (.ref x)))) (hl : Nat.blt fs.length 1000 = true) (h : k.nx η (mup M x (.ins C (putD f v fs)))) : sPut C f (eVar i) fe η (mup M x (.ins C fs)) k := by
  unfold sPut
  refine he.go _ ((y_var hη).go _ ?_)
  unfold insF
  simp only [mup_same, mup_mup]
  exact gd_mk (by simp) (gd_mk hl h)
theorem t_puts {C x : Addr} {i : Nat} {f : Str} {fe : WE} {v : D} {gs : WS} {fs : List (Str × D)} (he : Yv fe η (mup M x (.ins C fs)) v) (hη : η[i]? = some (.d (.raw (.ref x)))) (hl : Nat.blt fs.length 1000 = true) (h : gs η (mup M x (.ins C (putD f v fs))) k) : sSeq (sPut C f (eVar i) fe) gs η (mup M x (.ins C fs)) k := t_put he hη hl h
theorem y_fldR {C x : Addr} {i : Nat} {f : Str} {v : D} {fs : List (Str × D)} (hη : η[i]? = some (.d (.raw (.ref x)))) (hl : fs.lookup f = some v) : Yv (eFld C f (eVar i)) η (mup M x (.ins C fs)) v := ⟨fun K hk => by
  unfold eFld
  refine (y_var hη).go _ ?_
  unfold fldF
  simp only [mup_same, hl]
  exact gd_mk (by simp) hk⟩
theorem par_kn {own : List Str} (h : parB (.tup (own.map D.str)) = true) : knD (.tup (own.map D.str)) = true := by
  unfold parB nmsB at h
  rw [Bool.and_eq_true, Bool.and_eq_true] at h
  have hl := of_decide_eq_true h.2
  refine tup_kn (by omega) fun x hx => ?_
  obtain ⟨a, rfl, ha⟩ := nm_of (List.all_eq_true.mp h.1.1 x hx)
  have := names_len (names_mk ha)
  rw [knD]; exact Nat.ble_eq_true_of_le (by omega)
theorem init_y {C x : Addr} {nm : Str} {own : List Str} {d : D} {n : Nat} (b : BodyG own d n) (hnm : nameB nm = true) (q : Q .non (mup M x (.ins C (fieldsP nm own d (allD n d))))) :
    F_Procedure___init__ C [.raw (.ref x), .str nm, .tup (own.map D.str), d] (mup M x (.ins C [])) Q := by
  have e6 := allD_mono n 6 b.ok b.hn
  have ok6 := okT_mono b.ok b.hn
  have hk : knD d = true := ok6.1
  have hat := allD_form n b.ok
  have hl := b.all
  have hsm : termB own d = true := by
    unfold termB
    rw [smallB_mk b.ok b.hn b.all, b.bound]; rfl
  have h1 : ∀ {M : Mem}, YF F_is_name M [.str nm] (.bl true) := fun {M} => by
    have := is_name_str (M := M) (x := nm) (by have := names_len (names_mk hnm); omega)
    rw [hnm] at this; exact this
  have h2 : ∀ {M : Mem}, YF F_is_term M [d, .tup (own.map D.str)] (.bl true) := fun {M} => by
    have := is_term_y (M := M) hk b.par (par_kn b.par)
    rw [hsm] at this; exact this
  have h3 : ∀ {M : Mem}, YF (F_terms_of 10) M [d] (.lst (allD n d)) := fun {M} => terms_of_y n 10 d b.ok (by have := b.hn; omega) (by omega)
  have h4 : ∀ {M : Mem} (c : Str), c ∈ SECK → YF F_named_in M [.lst (allD n d), .str c] (strsT (namesOf c (allD n d))) := fun c hc => named_in_y hc hat hl
  have h5 : ∀ {M : Mem}, YF F_signals_in M [.lst (allD n d)] (strsT (namesOf "raise" (allD n d) ++ answersOf (allD n d))) := signals_in_y hat hl b.sig
  unfold F_Procedure___init__ B_Procedure___init__ B_Procedure___init___1 B_Procedure___init___2 B_Procedure___init___3 B_Procedure___init___4 B_Procedure___init___5 B_Procedure___init___6 B_Procedure___init___7 B_Procedure___init___8 B_Procedure___init___9
  generalize F_is_name = f1 at h1 ⊢
  generalize F_is_term = f2 at h2 ⊢
  generalize F_terms_of 10 = f3 at h3 ⊢
  generalize F_named_in = f4 at h4 ⊢
  generalize F_signals_in = f5 at h5 ⊢
  clear hat hsm e6 hl
  generalize allD n d = all at *
  generalize hη : ([.d (.raw (.ref x)), .d (.str nm), .d (.tup (own.map D.str)), .d d] : Sls) = η
  have hi : initS [.raw (.ref x), .str nm, .tup (own.map D.str), d] 4 = η := by rw [← hη]; rfl
  have e0 : η[0]? = some (.d (.raw (.ref x))) := by rw [← hη]; rfl
  have e1 : η[1]? = some (.d (.str nm)) := by rw [← hη]; rfl
  have e2 : η[2]? = some (.d (.tup (own.map D.str))) := by rw [← hη]; rfl
  have e3 : η[3]? = some (.d d) := by rw [← hη]; rfl
  unfold bodyF
  rw [hi]
  clear hi hη
  refine t_skip (yt_not (yt_tru (y_call1 (y_var e1) h1) tru_b)) ?_
  refine t_skip (yt_not (yt_tru (y_call2 (y_var e3) (y_var e2) h2) tru_b)) ?_
  refine t_puts (y_var e1) e0 (by rfl) ?_
  refine t_puts (y_var e2) e0 (by rfl) ?_
  refine t_puts (y_var e3) e0 (by rfl) ?_
  refine t_puts (y_call1 (y_var e3) h3) e0 (by rfl) ?_
  refine t_puts (y_call2 (y_fldR e0 (by rfl)) y_c (h4 "do" (by decide))) e0 (by rfl) ?_
  refine t_puts (y_call1 (y_fldR e0 (by rfl)) h5) e0 (by rfl) ?_
  refine t_puts (y_call2 (y_fldR e0 (by rfl)) y_c (h4 "scope" (by decide))) e0 (by rfl) ?_
  refine t_put (y_call2 (y_fldR e0 (by rfl)) y_c (h4 "call" (by decide))) e0 (by rfl) ?_
  exact q
end
end PK
set_option Elab.async false
set_option linter.all false
set_option maxRecDepth 100000
set_option maxHeartbeats 1000000
namespace PK
open PySem PySem.Spec PyProof.Rows L2 DL LamX FL
def pairD (p : Str × D) : D := .tup [.str p.1, p.2]
inductive Sh : D → List D → Prop
  | leaf {k : Str} {l : List D} : k ∈ (["do", "run", "exit", "raise"] : List Str) → Sh (.tup (.str k :: l)) []
  | row {k : Str} {l : List D} : k ∈ ROWS → Sh (.tup (.str k :: l)) l
  | call {x : D} {l : List D} : Sh (.tup (.str "call" :: x :: l)) l
  | scope {x : D} {l : List D} : Sh (.tup (.str "scope" :: x :: l)) l
  | ans {prs : List (Str × D)} {t : D} : prs.length ≤ 1000 → Sh (.tup [.str "answer", .tup (prs.map pairD), t]) (prs.map (·.2) ++ [t])
theorem snd_pairs (prs : List (Str × D)) : (prs.map pairD).map sndD = prs.map (·.2) := by rw [List.map_map]; rfl
end PK
set_option Elab.async false
set_option linter.all false
set_option maxRecDepth 100000
set_option maxHeartbeats 1000000
namespace PK
open PySem PySem.Spec PyProof.Rows L2 DL LamX FL
theorem sh_parts {d : D} {ps : List D} (h : Sh d ps) : partsD d = ps := by
  cases h with
  | leaf hk => exact in4 (p := fun k => partsD (.tup (.str k :: _)) = []) hk rfl rfl rfl rfl
  | row hk => exact if_pos hk
  | call => rfl
  | scope => rfl
  | @ans prs t hl =>
    show (prs.map pairD).map sndD ++ [t] = _
    rw [snd_pairs]
end PK
set_option Elab.async false
set_option linter.all false
set_option maxRecDepth 100000
set_option maxHeartbeats 1000000
namespace PK
open PySem PySem.Spec PyProof.Rows L2 DL LamX FL
def PAIRS : List (Str × Str) := [("late", "need"), ("b", "late"), ("need", "zz"), ("b", "zz"), ("late", "zz")]
def SG1 : List Str := ["need", "b", "zz", "late"]
theorem pairs_ind {p : Str → Str → Prop} {a b : Str} (h : (a, b) ∈ PAIRS) (h1 : p "late" "need") (h2 : p "b" "late") (h3 : p "need" "zz") (h4 : p "b" "zz") (h5 : p "late" "zz") : p a b := by
  rcases List.mem_cons.mp h with e | h
  · cases e; exact h1
  rcases List.mem_cons.mp h with e | h
  · cases e; exact h2
  rcases List.mem_cons.mp h with e | h
  · cases e; exact h3
  rcases List.mem_cons.mp h with e | h
  · cases e; exact h4
  rcases List.mem_cons.mp h with e | h
  · cases e; exact h5
  cases h
def okE (e : D) : Prop := e = .non ∨ ∃ i : Nat, i < 3 ∧ e = .int (i : Int)
def VOC : List Str := ["go", "work", "flip", "help", "run", "a", "use", "give", "look", "u", "v", "never", "b", "x"]
inductive Tq (own sg : List Str) (md : Nat) (hds : List (Str × Nat)) : Nat → List Str → D → Prop
  | deed {n : Nat} {labs : List Str} {w : Str} {tab : List D} : w ∈ NAMES → tab ≠ [] → tab.length ≤ 3 → (∀ e ∈ tab, okE e) → tab.length = md → (∀ e ∈ tab, e = .non ∨ ∃ i : Nat, i < md ∧ e = .int (i : Int)) → w ∈ VOC → Tq own sg md hds (n + 1) labs (.tup [.str "do", .str w, .tup tab])
  | run {n : Nat} {labs : List Str} {x : Str} : x ∈ own → x ∈ NAMES → Tq own sg md hds (n + 1) labs (.tup [.str "run", .str x])
  | exit {n : Nat} {labs : List Str} {x : Str} : x ∈ labs → x ∈ NAMES → Tq own sg md hds (n + 1) labs (.tup [.str "exit", .str x])
  | raise {n : Nat} {labs : List Str} {x : Str} : x ∈ sg → x ∈ NAMES → Tq own sg md hds (n + 1) labs (.tup [.str "raise", .str x])
  | row {n : Nat} {labs : List Str} {k : Str} {l : List D} : k ∈ ROWS → (k = "seq" ∨ l ≠ []) → l.length ≤ 3 → (∀ t ∈ l, Tq own sg md hds n labs t) → (k = "case" → l.length = md) → Tq own sg md hds (n + 1) labs (.tup (.str k :: l))
  | call {n : Nat} {labs : List Str} {x : Str} {l : List D} : x ∈ NAMES → l.length ≤ 3 → (∀ t ∈ l, Tq own sg md hds n labs t) → (x, l.length) ∈ hds → Tq own sg md hds (n + 1) labs (.tup (.str "call" :: .str x :: l))
  | scope {n : Nat} {labs : List Str} {x : Str} {t : D} : x ∈ NAMES → Tq own sg md hds n (labs ++ [x]) t → Tq own sg md hds (n + 1) labs (.tup [.str "scope", .str x, t])
  | ans1 {n : Nat} {labs : List Str} {a : Str} {t1 t : D} : a ∈ NAMES → a ∈ sg → Tq own sg md hds n labs t1 → Tq own sg md hds n labs t → Tq own sg md hds (n + 1) labs (.tup [.str "answer", .tup [pairD (a, t1)], t])
  | ans2 {n : Nat} {labs : List Str} {a b : Str} {t1 t2 t : D} : (a, b) ∈ PAIRS → a ∈ sg → b ∈ sg → Tq own sg md hds n labs t1 → Tq own sg md hds n labs t2 → Tq own sg md hds n labs t → Tq own sg md hds (n + 1) labs (.tup [.str "answer", .tup [pairD (a, t1), pairD (b, t2)], t])
section
variable {own sg : List Str} {md : Nat} {hds : List (Str × Nat)}
theorem tq_sh {n : Nat} {labs : List Str} {d : D} (h : Tq own sg md hds (n + 1) labs d) : ∃ ps, Sh d ps ∧ ps.length ≤ 3 ∧ ∀ p ∈ ps, ∃ labs', Tq own sg md hds n labs' p := by
  have no : ∀ p ∈ ([] : List D), ∃ labs', Tq own sg md hds n labs' p := fun p hp => (nomatch hp)
  cases h with
  | deed => exact ⟨[], .leaf (by decide), by decide, no⟩
  | run => exact ⟨[], .leaf (by decide), by decide, no⟩
  | exit => exact ⟨[], .leaf (by decide), by decide, no⟩
  | raise => exact ⟨[], .leaf (by decide), by decide, no⟩
  | row hk _ hl ht => exact ⟨_, .row hk, hl, fun p hp => ⟨_, ht p hp⟩⟩
  | call _ hl ht => exact ⟨_, .call, hl, fun p hp => ⟨_, ht p hp⟩⟩
  | scope _ ht => exact ⟨[_], .scope, Nat.le_of_ble_eq_true rfl, fun p hp => by rcases List.mem_cons.mp hp with rfl | hp; exact ⟨_, ht⟩; cases hp⟩
  | @ans1 _ _ a t1 t _ _ h1 h2 =>
    refine ⟨[t1, t], .ans (prs := [(a, t1)]) (Nat.le_of_ble_eq_true rfl), Nat.le_of_ble_eq_true rfl, fun p hp => ?_⟩
    rcases List.mem_cons.mp hp with rfl | hp
    · exact ⟨_, h1⟩
    rcases List.mem_cons.mp hp with rfl | hp
    · exact ⟨_, h2⟩
    cases hp
  | @ans2 _ _ a b t1 t2 t _ _ _ h1 h2 h3 =>
    refine ⟨[t1, t2, t], .ans (prs := [(a, t1), (b, t2)]) (Nat.le_of_ble_eq_true rfl), Nat.le_of_ble_eq_true rfl, fun p hp => ?_⟩
    rcases List.mem_cons.mp hp with rfl | hp
    · exact ⟨_, h1⟩
    rcases List.mem_cons.mp hp with rfl | hp
    · exact ⟨_, h2⟩
    rcases List.mem_cons.mp hp with rfl | hp
    · exact ⟨_, h3⟩
    cases hp
theorem all_tq : ∀ (n : Nat) {labs : List Str} {d : D}, Tq own sg md hds n labs d → ∀ t ∈ allD n d, ∃ k labs', Tq own sg md hds (k + 1) labs' t
  | 0, _, _, h, _, _ => nomatch h
  | n + 1, labs, d, h, t, ht => by
    obtain ⟨ps, hs, hl, hp⟩ := tq_sh h
    have ht : t ∈ d :: (partsD d).flatMap (allD n) := ht
    rw [sh_parts hs] at ht
    rcases List.mem_cons.mp ht with rfl | ht
    · exact ⟨n, labs, h⟩
    · obtain ⟨p, hp1, hp2⟩ := List.mem_flatMap.mp ht
      obtain ⟨labs', z⟩ := hp p hp1
      exact all_tq n z t hp2
theorem kn_name {x : Str} (h : x ∈ NAMES) : knD (.str x) = true := by
  have := names_len h
  rw [knD]; exact Nat.ble_eq_true_of_le (by omega)
theorem kn_row {k : Str} {l : List D} (hk : k.length ≤ 1000) (hl : l.length ≤ 100) (h : ∀ x ∈ l, knD x = true) : knD (.tup (.str k :: l)) = true :=
  tup_kn (by rw [List.length_cons]; omega) fun x hx => by
    rcases List.mem_cons.mp hx with rfl | hx
    · rw [knD]; exact Nat.ble_eq_true_of_le hk
    · exact h x hx
theorem okE_ent {e : D} (h : okE e) : entB e = true ∧ knD e = true := by
  rcases h with rfl | ⟨i, hi, rfl⟩
  · exact ⟨rfl, rfl⟩
  · refine ⟨?_, rfl⟩
    show (false || idxB 3 (.int (i : Int))) = true
    unfold idxB
    rw [Bool.false_or, Bool.and_eq_true]
    exact ⟨decide_eq_true (by omega), decide_eq_true (by omega)⟩
theorem kn_pair {a : Str} {t : D} (h : a ∈ NAMES) (ht : knD t = true) : knD (pairD (a, t)) = true :=
  tup_kn (by show 2 ≤ 1000; omega) fun x hx => by
    rcases List.mem_cons.mp hx with rfl | hx
    · exact kn_name h
    · rw [List.mem_singleton.mp hx]; exact ht
theorem pairs_nmB {a b : Str} (h : (a, b) ∈ PAIRS) : a ∈ NAMES ∧ b ∈ NAMES ∧ ascB [a, b] = true :=
  ⟨pairs_ind (p := fun a _ => a ∈ NAMES) h (by decide +kernel) (by decide +kernel) (by decide +kernel) (by decide +kernel) (by decide +kernel), pairs_ind (p := fun _ b => b ∈ NAMES) h (by decide +kernel) (by decide +kernel) (by decide +kernel) (by decide +kernel) (by decide +kernel), pairs_ind (p := fun a b => ascB [a, b] = true) h (by decide +kernel) (by decide +kernel) (by decide +kernel) (by decide +kernel) (by decide +kernel)⟩
theorem tq_frm : ∀ (n : Nat) {labs : List Str} {d : D}, Tq own sg md hds n labs d → okT n d
  | 0, _, _, h => nomatch h
  | n + 1, labs, d, h => by
    have hsh := tq_sh h
    obtain ⟨ps, hs, hl, hp⟩ := hsh
    have hps : ∀ x ∈ partsD d, okT n x := fun x hx => by
      rw [sh_parts hs] at hx
      obtain ⟨_, z⟩ := hp x hx
      exact tq_frm n z
    have kn : ∀ {labs' : List Str} {t : D}, Tq own sg md hds n labs' t → knD t = true := fun z => by
      have := tq_frm n z
      cases n with
      | zero => exact this.elim
      | succ n => exact this.1
    refine ⟨?_, ?_, hps⟩
    · cases h with
      | deed hw h0 hl he =>
        refine kn_row (by decide) (by show 2 ≤ 100; omega) fun x hx => ?_
        rcases List.mem_cons.mp hx with rfl | hx
        · exact kn_name hw
        · rw [List.mem_singleton.mp hx]
          exact tup_kn (by omega) fun e he' => (okE_ent (he e he')).2
      | run _ h => exact kn_row (by decide) (by show 1 ≤ 100; omega) fun x hx => by rw [List.mem_singleton.mp hx]; exact kn_name h
      | exit _ h => exact kn_row (by decide) (by show 1 ≤ 100; omega) fun x hx => by rw [List.mem_singleton.mp hx]; exact kn_name h
      | raise _ h => exact kn_row (by decide) (by show 1 ≤ 100; omega) fun x hx => by rw [List.mem_singleton.mp hx]; exact kn_name h
      | row hk _ hl ht => exact kn_row (rows_ind (p := fun k => k.length ≤ 1000) hk (by decide) (by decide) (by decide) (by decide)) (by omega) fun x hx => kn (ht x hx)
      | call hx hl ht =>
        refine kn_row (by decide) (by rw [List.length_cons]; omega) fun x hx' => ?_
        rcases List.mem_cons.mp hx' with rfl | hx'
        · exact kn_name hx
        · exact kn (ht x hx')
      | scope hx ht =>
        refine kn_row (by decide) (by show 2 ≤ 100; omega) fun x hx' => ?_
        rcases List.mem_cons.mp hx' with rfl | hx'
        · exact kn_name hx
        · rw [List.mem_singleton.mp hx']; exact kn ht
      | ans1 ha _ h1 h2 =>
        refine kn_row (by decide) (by show 2 ≤ 100; omega) fun x hx' => ?_
        rcases List.mem_cons.mp hx' with rfl | hx'
        · exact tup_kn (by show 1 ≤ 1000; omega) fun x hx => by rw [List.mem_singleton.mp hx]; exact kn_pair ha (kn h1)
        · rw [List.mem_singleton.mp hx']; exact kn h2
      | ans2 ha _ _ h1 h2 h3 =>
        obtain ⟨na, nb, _⟩ := pairs_nmB ha
        refine kn_row (by decide) (by show 2 ≤ 100; omega) fun x hx' => ?_
        rcases List.mem_cons.mp hx' with rfl | hx'
        · refine tup_kn (by show 2 ≤ 1000; omega) fun x hx => ?_
          rcases List.mem_cons.mp hx with rfl | hx
          · exact kn_pair na (kn h1)
          · rw [List.mem_singleton.mp hx]; exact kn_pair nb (kn h2)
        · rw [List.mem_singleton.mp hx']; exact kn h3
    · cases h with
      | @deed _ _ w tab hw h0 hl he =>
        show (nameB w && (decide (1 ≤ tab.length) && decide (tab.length ≤ 3) && tab.all entB)) = true
        rw [names_b hw, decide_eq_true hl, decide_eq_true (show 1 ≤ tab.length from List.length_pos_iff.mpr h0), List.all_eq_true.mpr fun e he' => (okE_ent (he e he')).1]; rfl
      | run _ h => exact names_b h
      | exit _ h => exact names_b h
      | raise _ h => exact names_b h
      | @row _ _ k l hk hn hl ht =>
        have hc : l ≠ [] → (!l.isEmpty) = true := fun h => by cases l <;> first | exact absurd rfl h | rfl
        have hz : l ≠ [] → (decide (1 ≤ l.length) && decide (l.length ≤ 3)) = true := fun h => by
          rw [decide_eq_true hl, decide_eq_true (show 1 ≤ l.length from List.length_pos_iff.mpr h)]; rfl
        have : k = "seq" ∨ k = "or" ∨ k = "and" ∨ k = "case" := by simpa [ROWS] using hk
        rcases this with rfl | rfl | rfl | rfl
        · rfl
        · exact hc (hn.resolve_left (by decide))
        · exact hc (hn.resolve_left (by decide))
        · exact hz (hn.resolve_left (by decide))
      | call hx _ _ => exact names_b hx
      | scope hx _ => exact names_b hx
      | @ans1 _ _ a t1 t ha _ _ _ =>
        show (true && ((nameB a && true) && ascB [a])) = true
        rw [names_b ha]; rfl
      | @ans2 _ _ a b t1 t2 t ha _ _ _ _ _ =>
        obtain ⟨na, nb, h3⟩ := pairs_nmB ha
        show (true && ((nameB a && (nameB b && true)) && ascB [a, b])) = true
        rw [names_b na, names_b nb, h3]; rfl
end
end PK
set_option Elab.async false
set_option linter.all false
set_option maxRecDepth 100000
set_option maxHeartbeats 1000000
namespace PK
open PySem PySem.Spec PyProof.Rows L2 DL LamX FL
section
variable {own sg : List Str} {md : Nat} {hds : List (Str × Nat)} {M : Mem} {Q : D → Mem → Prop} {fe fa fb : WE} {fs gs : WS} {η : Sls} {k : KS}
def AllT (own sg : List Str) (md : Nat) (hds : List (Str × Nat)) (l : List D) : Prop := ∀ t ∈ l, ∃ k labs, Tq own sg md hds (k + 1) labs t
theorem sec_str {n : Nat} {labs : List Str} {t : D} {k : Str} (h : Tq own sg md hds n labs t) (hk : k ∈ SECK) (hh : headIs k t = true) : sec t = .str (secS t) ∧ ∃ l, t = .tup (.str k :: .str (secS t) :: l) := by
  have eq : ∀ {c : Str}, (c == k) = true → c = k := fun h => eq_of_beq h
  cases h with
  | deed => obtain rfl := eq hh; exact ⟨rfl, _, rfl⟩
  | run => obtain rfl := eq hh; exact ⟨rfl, _, rfl⟩
  | exit => obtain rfl := eq hh; exact ⟨rfl, _, rfl⟩
  | raise => obtain rfl := eq hh; exact ⟨rfl, _, rfl⟩
  | row hr => obtain rfl := eq hh; exact absurd hk (rows_ind (p := fun k => ¬ k ∈ SECK) hr (by decide) (by decide) (by decide) (by decide))
  | call => obtain rfl := eq hh; exact ⟨rfl, _, rfl⟩
  | scope => obtain rfl := eq hh; exact ⟨rfl, _, rfl⟩
  | ans1 => obtain rfl := eq hh; exact absurd hk (by decide)
  | ans2 => obtain rfl := eq hh; exact absurd hk (by decide)
theorem run_own {n : Nat} {labs : List Str} {t : D} (h : Tq own sg md hds n labs t) (hh : headIs "run" t = true) : secS t ∈ own := by
  obtain ⟨e, l, e2⟩ := sec_str h (by decide) hh
  cases h with
  | run h1 _ => exact h1
  | deed => cases e2
  | exit => cases e2
  | raise => cases e2
  | row hr => 
    have : ∀ k ∈ ROWS, ¬ (k == ("run" : Str)) = true := by decide
    exact absurd hh (this _ hr)
  | call => cases e2
  | scope => cases e2
  | ans1 => cases e2
  | ans2 => cases e2
def labelsD (n : Nat) (d : D) : List Str := namesOf "scope" (allD n d)
end
end PK
set_option Elab.async false
set_option linter.all false
set_option maxRecDepth 100000
set_option maxHeartbeats 1000000
namespace PK
open PySem PySem.Spec PyProof.Rows L2 DL LamX FL
structure Body (own sg : List Str) (md : Nat) (hds : List (Str × Nat)) (d : D) (n : Nat) : Prop where
  tq : Tq own sg md hds n [] d
  hn : n ≤ 5
  names : ∀ x ∈ own, x ∈ NAMES
  nd : own.Nodup
  hl : own.length ≤ 3
  all : (allD n d).length ≤ 40
  labs : (labelsD n d).Nodup
section
variable {own sg : List Str} {md : Nat} {hds : List (Str × Nat)} {M : Mem} {Q : D → Mem → Prop} {k : KS} {η : Sls}
theorem ans_parts {n : Nat} {labs : List Str} {t : D} (h : Tq own sg md hds n labs t) (hh : headIs "answer" t = true) : ∃ prs t', t = .tup [.str "answer", .tup prs, t'] ∧ prs.length ≤ 2 ∧ ∀ p ∈ prs, ∃ a y, p = .tup [.str a, y] := by
  have nr : ∀ k ∈ ROWS, ¬ (k == ("answer" : Str)) = true := by decide
  cases h with
  | run => exact absurd hh (show ¬ (("run" : Str) == "answer") = true by decide)
  | deed => exact absurd hh (show ¬ (("do" : Str) == "answer") = true by decide)
  | exit => exact absurd hh (show ¬ (("exit" : Str) == "answer") = true by decide)
  | raise => exact absurd hh (show ¬ (("raise" : Str) == "answer") = true by decide)
  | row hr => exact absurd hh (nr _ hr)
  | call => exact absurd hh (show ¬ (("call" : Str) == "answer") = true by decide)
  | scope => exact absurd hh (show ¬ (("scope" : Str) == "answer") = true by decide)
  | ans1 =>
    refine ⟨_, _, rfl, Nat.le_of_ble_eq_true rfl, fun p hp => ?_⟩
    rcases List.mem_cons.mp hp with rfl | hp
    · exact ⟨_, _, rfl⟩
    · cases hp
  | ans2 =>
    refine ⟨_, _, rfl, Nat.le_of_ble_eq_true rfl, fun p hp => ?_⟩
    rcases List.mem_cons.mp hp with rfl | hp
    · exact ⟨_, _, rfl⟩
    rcases List.mem_cons.mp hp with rfl | hp
    · exact ⟨_, _, rfl⟩
    · cases hp
theorem exB_tq : ∀ (n : Nat) {labs : List Str} {d : D}, Tq own sg md hds n labs d → exB n labs d = true
  | 0, _, _, h => nomatch h
  | n + 1, labs, d, h => by
    have ex : ∀ {labs' : List Str} {t : D}, Tq own sg md hds n labs' t → exB n labs' t = true := fun z => exB_tq n z
    have e0 : ∀ {kk : Str} {l : List D}, kk ≠ "exit" → kk ≠ "scope" → (∀ t ∈ partsD (.tup (.str kk :: l)), Tq own sg md hds n labs t) → exB (n + 1) labs (.tup (.str kk :: l)) = true := fun {kk l} h1 h2 hp => by
      have : exB (n + 1) labs (.tup (.str kk :: l)) = (partsD (.tup (.str kk :: l))).all (exB n labs) := by
        match l with
        | [] => rfl
        | y :: r =>
          cases y with
          | str x => show (if kk = "exit" then _ else _) = _; rw [if_neg h1, if_neg h2]
          | _ => rfl
      rw [this]
      exact List.all_eq_true.mpr fun t ht => ex (hp t ht)
    cases h with
    | deed => exact e0 (by decide) (by decide) fun t ht => nomatch ht
    | run => exact e0 (by decide) (by decide) fun t ht => nomatch ht
    | raise => exact e0 (by decide) (by decide) fun t ht => nomatch ht
    | exit hx _ => exact decide_eq_true hx
    | row hk _ _ ht =>
      refine e0 (rows_ind (p := fun k => k ≠ ("exit" : Str)) hk (by decide) (by decide) (by decide) (by decide)) (rows_ind (p := fun k => k ≠ ("scope" : Str)) hk (by decide) (by decide) (by decide) (by decide)) fun t h => ?_
      rw [sh_parts (.row hk)] at h
      exact ht t h
    | call _ _ ht => exact e0 (by decide) (by decide) fun t h => ht t h
    | @scope _ _ x t hx ht =>
      have : exB (n + 1) labs (.tup [.str "scope", .str x, t]) = ([t] : List D).all (exB n (labs ++ [x])) := rfl
      rw [this]
      exact List.all_eq_true.mpr fun y hy => by rw [List.mem_singleton.mp hy]; exact ex ht
    | @ans1 _ _ a t1 t _ _ h1 h2 =>
      refine e0 (by decide) (by decide) fun x hx => ?_
      have e : partsD (.tup [.str "answer", .tup [pairD (a, t1)], t]) = [t1, t] := sh_parts (.ans (prs := [(a, t1)]) (t := t) (by show 1 ≤ 1000; omega))
      rw [e] at hx
      rcases List.mem_cons.mp hx with rfl | hx
      · exact h1
      · rw [List.mem_singleton.mp hx]; exact h2
    | @ans2 _ _ a b t1 t2 t _ _ _ h1 h2 h3 =>
      refine e0 (by decide) (by decide) fun x hx => ?_
      have e : partsD (.tup [.str "answer", .tup [pairD (a, t1), pairD (b, t2)], t]) = [t1, t2, t] := sh_parts (.ans (prs := [(a, t1), (b, t2)]) (t := t) (by show 2 ≤ 1000; omega))
      rw [e] at hx
      rcases List.mem_cons.mp hx with rfl | hx
      · exact h1
      rcases List.mem_cons.mp hx with rfl | hx
      · exact h2
      · rw [List.mem_singleton.mp hx]; exact h3
theorem exB_mono : ∀ (n m : Nat) {labs : List Str} {d : D}, okT n d → n ≤ m → exB m labs d = exB n labs d
  | 0, _, _, _, h, _ => h.elim
  | n + 1, m, labs, d, h, hm => by
    obtain ⟨m, rfl⟩ : ∃ m', m = m' + 1 := ⟨m - 1, by omega⟩
    have hp : ∀ labs' : List Str, (partsD d).all (exB m labs') = (partsD d).all (exB n labs') := fun labs' => by
      rw [Bool.eq_iff_iff, List.all_eq_true, List.all_eq_true]
      constructor
      · intro h' x hx; rw [← exB_mono n m (h.2.2 x hx) (by omega)]; exact h' x hx
      · intro h' x hx; rw [exB_mono n m (h.2.2 x hx) (by omega)]; exact h' x hx
    obtain ⟨k, l, e⟩ := form_head h.2.1
    subst e
    match l, hp with
    | [], hp => exact hp labs
    | y :: r, hp =>
      cases y with
      | str x =>
        show (if k = "exit" then _ else _) = (if k = "exit" then _ else _)
        rw [hp]
      | _ => exact hp labs
theorem par_mk (hn : ∀ x ∈ own, x ∈ NAMES) (nd : own.Nodup) (hl : own.length ≤ 3) : parB (.tup (own.map D.str)) = true := by
  show (((own.map D.str).all nmB && ndB (strsOf (own.map D.str))) && decide ((own.map D.str).length ≤ 3)) = true
  rw [strsOf_map, ndB_mk nd, List.length_map, decide_eq_true hl, List.all_eq_true.mpr]
  · rfl
  · intro x hx
    obtain ⟨a, ha, rfl⟩ := List.mem_map.mp hx
    exact names_b (hn a ha)
theorem body_g {d : D} {n : Nat} (b : Body own sg md hds d n) (h64 : (namesOf "raise" (allD n d)).length + (answersOf (allD n d)).length < 64) : BodyG own d n := by
  have ok := tq_frm n b.tq
  have hn := b.hn
  refine ⟨ok, by omega, par_mk b.names b.nd b.hl, b.all, ?_, h64⟩
  unfold boundB
  rw [allD_mono n 6 ok (by omega), exB_mono n 6 ok (by omega), exB_tq n b.tq, ndB_mk (show (namesOf "scope" (allD n d)).Nodup from b.labs), List.all_eq_true.mpr]
  · rfl
  · intro x hx
    obtain ⟨t, ht, rfl⟩ := List.mem_map.mp hx
    obtain ⟨ht1, ht2⟩ := List.mem_filter.mp ht
    obtain ⟨k, labs, z⟩ := all_tq n b.tq t ht1
    exact decide_eq_true (run_own z ht2)
theorem init_i {C x : Addr} {nm : Str} {d : D} {n : Nat} (b : Body own sg md hds d n) (hnm : nm ∈ NAMES) (h64 : (namesOf "raise" (allD n d)).length + (answersOf (allD n d)).length < 64) (q : Q .non (mup M x (.ins C (fieldsP nm own d (allD n d))))) :
    F_Procedure___init__ C [.raw (.ref x), .str nm, .tup (own.map D.str), d] (mup M x (.ins C [])) Q := init_y (body_g b h64) (names_b hnm) q
end
end PK
set_option Elab.async false
set_option linter.all false
set_option maxRecDepth 100000
set_option maxHeartbeats 1000000
namespace PK
open PySem PySem.Spec PyProof.Rows L2 DL LamX FL
section
variable {own sg : List Str} {md : Nat} {hds : List (Str × Nat)} {M : Mem} {Q : D → Mem → Prop} {k : KE} {η : Sls}
def cntA (l : List D) : Nat := (l.filter (headIs "answer")).length
theorem cntA_app (l m : List D) : cntA (l ++ m) = cntA l + cntA m := by unfold cntA; rw [List.filter_append, List.length_append]
theorem ans_two {n : Nat} {labs : List Str} {d : D} (h : Tq own sg md hds (n + 1) labs d) (hh : headIs "answer" d = true) : 2 ≤ (partsD d).length := by
  have nr : ∀ k ∈ ROWS, ¬ (k == ("answer" : Str)) = true := by decide
  cases h with
  | run => exact absurd hh (show ¬ (("run" : Str) == "answer") = true by decide)
  | deed => exact absurd hh (show ¬ (("do" : Str) == "answer") = true by decide)
  | exit => exact absurd hh (show ¬ (("exit" : Str) == "answer") = true by decide)
  | raise => exact absurd hh (show ¬ (("raise" : Str) == "answer") = true by decide)
  | row hr => exact absurd hh (nr _ hr)
  | call => exact absurd hh (show ¬ (("call" : Str) == "answer") = true by decide)
  | scope => exact absurd hh (show ¬ (("scope" : Str) == "answer") = true by decide)
  | ans1 => exact Nat.le_of_ble_eq_true rfl
  | ans2 => exact Nat.le_of_ble_eq_true rfl
theorem cnt_flat {n : Nat} : ∀ {ps : List D}, (∀ p ∈ ps, 2 * cntA (allD n p) + 1 ≤ (allD n p).length) → 2 * cntA (ps.flatMap (allD n)) + ps.length ≤ (ps.flatMap (allD n)).length
  | [], _ => Nat.zero_le _
  | p :: r, h => by
    have h1 := h p List.mem_cons_self
    have h2 := cnt_flat fun q hq => h q (List.mem_cons_of_mem _ hq)
    rw [List.flatMap_cons, cntA_app, List.length_append, List.length_cons]; omega
theorem cnt_all : ∀ (n : Nat) {labs : List Str} {d : D}, Tq own sg md hds n labs d → 2 * cntA (allD n d) + 1 ≤ (allD n d).length
  | 0, _, _, h => nomatch h
  | n + 1, labs, d, h => by
    obtain ⟨ps, hs, hl, hp⟩ := tq_sh h
    have e : allD (n + 1) d = d :: ps.flatMap (allD n) := by show d :: _ = _; rw [sh_parts hs]
    have hf := cnt_flat (n := n) (ps := ps) fun p hx => let ⟨_, z⟩ := hp p hx; cnt_all n z
    rw [e, List.length_cons]
    cases hh : headIs "answer" d with
    | true =>
      have h2 := ans_two h hh
      rw [sh_parts hs] at h2
      have : cntA (d :: ps.flatMap (allD n)) = cntA (ps.flatMap (allD n)) + 1 := by unfold cntA; rw [List.filter_cons_of_pos hh, List.length_cons]
      omega
    | false =>
      have : cntA (d :: ps.flatMap (allD n)) = cntA (ps.flatMap (allD n)) := by unfold cntA; rw [List.filter_cons_of_neg (by rw [hh]; exact Bool.false_ne_true)]
      omega
theorem raise_ans : ∀ l : List D, (namesOf "raise" l).length + cntA l ≤ l.length
  | [] => Nat.le_refl _
  | t :: r => by
    have ih := raise_ans r
    unfold namesOf cntA at ih ⊢
    rw [List.length_map] at ih ⊢
    rw [List.length_cons]
    cases h1 : headIs "raise" t with
    | true =>
      have h2 : headIs "answer" t = false := by
        unfold headIs at h1 ⊢
        split at h1
        · rename_i c _
          obtain rfl := eq_of_beq h1
          rfl
        · cases h1
      rw [List.filter_cons_of_pos h1, List.filter_cons_of_neg (by rw [h2]; exact Bool.false_ne_true), List.length_cons]; omega
    | false =>
      rw [List.filter_cons_of_neg (by rw [h1]; exact Bool.false_ne_true)]
      have := List.length_filter_le (headIs "answer") (t :: r)
      cases h2 : headIs "answer" t with
      | true => rw [List.filter_cons_of_pos h2, List.length_cons]; omega
      | false => rw [List.filter_cons_of_neg (by rw [h2]; exact Bool.false_ne_true)]; omega
theorem ans_le : ∀ {l : List D}, AllT own sg md hds l → (answersOf l).length ≤ 2 * cntA l
  | [], _ => Nat.zero_le _
  | t :: r, h => by
    have ih := ans_le (l := r) fun x hx => h x (List.mem_cons_of_mem _ hx)
    unfold answersOf cntA at ih ⊢
    rw [List.length_map] at ih ⊢
    cases e : headIs "answer" t with
    | true =>
      obtain ⟨n, labs, z⟩ := h t List.mem_cons_self
      obtain ⟨prs, t', e2, hl, _⟩ := ans_parts z e
      rw [List.filter_cons_of_pos e, List.flatMap_cons, List.length_append, List.length_cons]
      have : (pairsD t).length ≤ 2 := by rw [e2]; exact hl
      omega
    | false =>
      rw [List.filter_cons_of_neg (by rw [e]; exact Bool.false_ne_true)]; omega
theorem body64 {d : D} {n : Nat} (b : Body own sg md hds d n) : (namesOf "raise" (allD n d)).length + (answersOf (allD n d)).length < 64 := by
  have h1 := cnt_all n b.tq
  have h2 := raise_ans (allD n d)
  have h3 := ans_le (own := own) (sg := sg) (l := allD n d) fun t ht => all_tq n b.tq t ht
  have := b.all
  omega
end
end PK
set_option Elab.async false
set_option linter.all false
set_option maxRecDepth 100000
set_option maxHeartbeats 1000000
namespace PK
open PySem PySem.Spec PyProof.Rows L2 DL LamX FL
section
variable {C : Addr} {nm : Str} {own : List Str} {d : D} {all : List D} {M : Mem} {Q : D → Mem → Prop}
end
end PK
set_option Elab.async false
set_option linter.all false
set_option maxRecDepth 100000
set_option maxHeartbeats 1000000
namespace PK
open PySem PySem.Spec PyProof.Rows L2 DL LamX FL
def okD (b : Nat) (d : D) : Prop := isPl d = true ∧ dpD d ≤ b
theorem okD.le {b c : Nat} {d : D} (h : okD b d) (hc : b ≤ c) : okD c d := ⟨h.1, Nat.le_trans h.2 hc⟩
section
variable {own sg : List Str} {md : Nat} {hds : List (Str × Nat)}
end
end PK
set_option Elab.async false
set_option linter.all false
set_option maxRecDepth 100000
set_option maxHeartbeats 1000000
namespace PK
open PySem PySem.Spec PyProof.Rows L2 DL LamX FL
section
variable {C : Addr} {nm nm' : Str} {own own' : List Str} {d d' : D} {all all' : List D} {M : Mem} {Q : D → Mem → Prop} {η : Sls}
end
end PK
set_option Elab.async false
set_option linter.all false
set_option maxRecDepth 100000
set_option maxHeartbeats 1000000
namespace PK
open PySem PySem.Spec PyProof.Rows L2 DL LamX FL
section
variable {M : Mem} {Q : D → Mem → Prop} {p : Addr}
theorem cast_i {n : Int} (hp : M p = some .die) (h0 : 0 < n) (h1 : n < 1000000) (q : ∀ i : Nat, (i : Int) < n → Q (.int (i : Int)) M) : F__law_cast [.raw (.ref p), .int n] M Q := by
  show castK p n M Q
  unfold castK
  rw [hp]
  exact gd_i rfl (gd_i (by rw [decide_eq_true h0, decide_eq_true h1]; rfl) q)
theorem pick_i {d : D} {l : List D} (hp : M p = some .die) (hd : d = .lst l ∨ d = .tup l) (h0 : l ≠ []) (h1 : l.length < 1000000) (q : ∀ x ∈ l, Q x M) : F__law_pick [.raw (.ref p), d] M Q := by
  have hc : ∀ {n : Int} {Q : D → Mem → Prop}, 0 < n → n < 1000000 → (∀ i : Nat, (i : Int) < n → Q (.int (i : Int)) M) → F__law_cast [.raw (.ref p), .int n] M Q := fun a b c => cast_i hp a b c
  have hl : 0 < l.length := List.length_pos_iff.mpr h0
  unfold F__law_pick B__law_pick
  generalize F__law_cast = f at hc ⊢
  have go : ∀ i : Nat, (i : Int) < (l.length : Int) → ∃ x, l[i]? = some x ∧ Q x M := fun i hi => by
    have hi' : i < l.length := by omega
    exact ⟨l[i], List.getElem?_eq_getElem hi', q _ (List.getElem_mem hi')⟩
  rcases hd with rfl | rfl
  · refine hc (n := (l.length : Nat)) (by omega) (by omega) fun i hi => ?_
    obtain ⟨x, e, hx⟩ := go i hi
    show optF (l[i]?) fun x => Q x M
    rw [e]; exact hx
  · refine hc (n := (l.length : Nat)) (by omega) (by omega) fun i hi => ?_
    obtain ⟨x, e, hx⟩ := go i hi
    show optF (l[i]?) fun x => Q x M
    rw [e]; exact hx
end
end PK
set_option Elab.async false
set_option linter.all false
set_option maxRecDepth 100000
set_option maxHeartbeats 1000000
namespace PK
open PySem PySem.Spec PyProof.Rows L2 DL LamX FL
section
variable {C : Addr} {nm : Str} {own : List Str} {d : D} {all : List D} {M : Mem} {Q : D → Mem → Prop} {η : Sls}
end
end PK
set_option Elab.async false
set_option linter.all false
set_option maxRecDepth 100000
set_option maxHeartbeats 1000000
namespace PK
open PySem PySem.Spec PyProof.Rows L2 DL LamX FL
section
variable {M : Mem} {Q : D → Mem → Prop} {p : Addr} {η : Sls}
end
end PK
set_option Elab.async false
set_option linter.all false
set_option maxRecDepth 100000
set_option maxHeartbeats 1000000
namespace PK
open PySem PySem.Spec PyProof.Rows L2 DL LamX FL
local macro_rules | `(tactic| walk_at "y") => `(tactic| first
  | (with_reducible exact y_c) | exact y_var rfl
  | (with_reducible refine' y_op ?_ ?_ ?_) | (with_reducible refine' y_un ?_ ?_) | (with_reducible refine' y_cb ?_ ?_)
  | (with_reducible exact ya_nil) | (with_reducible refine' ya_cons ?_ ?_)
  | (with_reducible refine' y_tup ?_ ?_) | (with_reducible refine' y_lst ?_ ?_)
  | (with_reducible refine' y_call1 ?_ ?_) | (with_reducible refine' y_call2 ?_ ?_ ?_)
  | (with_reducible refine' y_and ?_ ?_) | (with_reducible refine' y_or ?_ ?_) | (with_reducible refine' y_not ?_)
  | (with_reducible refine' y_chain ?_ ?_ ?_ ?_ ?_)
  | ((with_reducible refine' y_fld ?_ ?_))
  | (with_reducible refine' y_sl ?_ ?_ ?_ ?_) | (with_reducible exact yo_no) | (with_reducible refine' yo_pt ?_)
  | (with_reducible refine' yt_test ?_) | (with_reducible refine' yt_not ?_) | (with_reducible refine' yt_and ?_ ?_) | (with_reducible refine' yt_or ?_ ?_) | (with_reducible refine' yt_tru ?_ ?_)
  | (with_reducible exact tru_b) | (with_reducible exact tru_n) | (with_reducible exact tru_i) | (with_reducible exact tru_l) | (with_reducible exact tru_t)
  | (with_reducible exact o_addI) | (with_reducible refine' o_addS ?_) | (with_reducible refine' o_addL ?_) | (with_reducible refine' o_addT ?_) | (with_reducible exact o_ii) | (with_reducible exact o_ib)
  | (with_reducible refine' o_eq ?_) | (with_reducible refine' o_in rfl ?_)
  | (with_reducible refine' n_lenS ?_) | (with_reducible exact n_lenL) | (with_reducible exact n_lenT)
  | (with_reducible exact n_intI) | (with_reducible exact n_intB) | exact n_tuple rfl | exact n_list rfl
  | (with_reducible refine' i_lst ?_) | (with_reducible refine' i_tup ?_) | (with_reducible refine' i_r1 ?_ ?_)
  | ((with_reducible refine' dicF_r ?_); assumption) | (with_reducible exact dicF_d)
  | (with_reducible exact sz0) | (with_reducible exact sz1) | (with_reducible exact sz2) | (with_reducible exact sz3) | (with_reducible exact sz4) | (with_reducible exact sz5) | (with_reducible exact sz6) | (with_reducible exact sz7) | (with_reducible exact sz8) | (with_reducible exact sz9) | (with_reducible exact sz10) | (with_reducible exact sz11) | (with_reducible exact sz12) | (with_reducible exact sz13) | (with_reducible exact sz14) | (with_reducible exact sz15) | (with_reducible exact sz16))
local macro_rules | `(tactic| walk_at "ys") => `(tactic| repeat' walk_at "y")
section
variable {M : Mem} {Q : D → Mem → Prop} {p P : Addr} {η : Sls}
end
end PK
set_option Elab.async false
set_option linter.all false
set_option maxRecDepth 100000
set_option maxHeartbeats 1000000
namespace PK
open PySem PySem.Spec PyProof.Rows L2 DL LamX FL
local macro_rules | `(tactic| walk_at "y") => `(tactic| first
  | (with_reducible exact y_c) | exact y_var rfl
  | (with_reducible refine' y_op ?_ ?_ ?_) | (with_reducible refine' y_un ?_ ?_) | (with_reducible refine' y_cb ?_ ?_)
  | (with_reducible exact ya_nil) | (with_reducible refine' ya_cons ?_ ?_)
  | (with_reducible refine' y_tup ?_ ?_) | (with_reducible refine' y_lst ?_ ?_)
  | (with_reducible refine' y_call1 ?_ ?_) | (with_reducible refine' y_call2 ?_ ?_ ?_)
  | (with_reducible refine' y_and ?_ ?_) | (with_reducible refine' y_or ?_ ?_) | (with_reducible refine' y_not ?_)
  | (with_reducible refine' y_chain ?_ ?_ ?_ ?_ ?_)
  | ((with_reducible refine' y_fld ?_ ?_))
  | (with_reducible refine' y_sl ?_ ?_ ?_ ?_) | (with_reducible exact yo_no) | (with_reducible refine' yo_pt ?_)
  | (with_reducible refine' yt_test ?_) | (with_reducible refine' yt_not ?_) | (with_reducible refine' yt_and ?_ ?_) | (with_reducible refine' yt_or ?_ ?_) | (with_reducible refine' yt_tru ?_ ?_)
  | (with_reducible exact tru_b) | (with_reducible exact tru_n) | (with_reducible exact tru_i) | (with_reducible exact tru_l) | (with_reducible exact tru_t)
  | (with_reducible exact o_addI) | (with_reducible refine' o_addS ?_) | (with_reducible refine' o_addL ?_) | (with_reducible refine' o_addT ?_) | (with_reducible exact o_ii) | (with_reducible exact o_ib)
  | (with_reducible refine' o_eq ?_) | (with_reducible refine' o_in rfl ?_)
  | (with_reducible refine' n_lenS ?_) | (with_reducible exact n_lenL) | (with_reducible exact n_lenT)
  | (with_reducible exact n_intI) | (with_reducible exact n_intB) | exact n_tuple rfl | exact n_list rfl
  | (with_reducible refine' i_lst ?_) | (with_reducible refine' i_tup ?_) | (with_reducible refine' i_r1 ?_ ?_)
  | ((with_reducible refine' dicF_r ?_); assumption) | (with_reducible exact dicF_d)
  | (with_reducible exact sz0) | (with_reducible exact sz1) | (with_reducible exact sz2) | (with_reducible exact sz3) | (with_reducible exact sz4) | (with_reducible exact sz5) | (with_reducible exact sz6) | (with_reducible exact sz7) | (with_reducible exact sz8) | (with_reducible exact sz9) | (with_reducible exact sz10) | (with_reducible exact sz11) | (with_reducible exact sz12) | (with_reducible exact sz13) | (with_reducible exact sz14) | (with_reducible exact sz15) | (with_reducible exact sz16))
local macro_rules | `(tactic| walk_at "ys") => `(tactic| repeat' walk_at "y")
def headD (h : Str × List Str) : Key × D := (.inr h.1, .tup (h.2.map D.str))
def Mf (M : Mem) (P3 : Addr) (fr : List Str) : Mem := mup M P3 (.lst (fr.map D.str))
def OkSg (sg : List Str) : Prop := sg = [] ∨ (∃ a, (a ∈ NAMES ∧ a ∈ SG1) ∧ sg = [a]) ∨ ∃ a b, (a, b) ∈ PAIRS ∧ sg = [a, b]
theorem pairs_names {a b : Str} (h : (a, b) ∈ PAIRS) : a ∈ NAMES ∧ b ∈ NAMES := pairs_ind (p := fun a b => a ∈ NAMES ∧ b ∈ NAMES) h (by decide +kernel) (by decide +kernel) (by decide +kernel) (by decide +kernel) (by decide +kernel)
theorem OkSg.names {sg : List Str} (h : OkSg sg) : ∀ x ∈ sg, x ∈ NAMES := fun x hx => by
  rcases h with rfl | ⟨a, ha, rfl⟩ | ⟨a, b, hp, rfl⟩
  · cases hx
  · rw [List.mem_singleton.mp hx]; exact ha.1
  · rcases List.mem_cons.mp hx with rfl | hx
    · exact (pairs_names hp).1
    · rw [List.mem_singleton.mp hx]; exact (pairs_names hp).2
theorem OkSg.len {sg : List Str} (h : OkSg sg) : sg.length ≤ 2 := by
  rcases h with rfl | ⟨a, ha, rfl⟩ | ⟨a, b, hp, rfl⟩
  · exact Nat.zero_le _
  · exact Nat.le_of_ble_eq_true rfl
  · exact Nat.le_of_ble_eq_true rfl
structure Pn (M : Mem) (p P P2 P3 : Addr) (md : Nat) (hd : List (Str × List Str)) (sg : List Str) (kvs : List (Key × D)) : Prop where
  die : M p = some .die
  plan : M P = some (.dic kvs)
  k1 : valKD kvs (.inr "modes") = some (.int (md : Int))
  k2 : valKD kvs (.inr "heads") = some (.raw (.ref P2))
  k3 : valKD kvs (.inr "signals") = some (.tup (sg.map D.str))
  k4 : valKD kvs (.inr "fresh") = some (.raw (.ref P3))
  heads : M P2 = some (.dic (hd.map headD))
  m1 : 1 ≤ md
  m3 : md ≤ 3
  hnd : (hd.map (·.1)).Nodup
  hne : hd ≠ []
  hlen : hd.length ≤ 10
  har : ∀ h ∈ hd, h.2.length ≤ 3 ∧ h.1 ∈ NAMES
  osg : OkSg sg
  n0 : p ≠ P3
  n1 : P ≠ P3
  n2 : P2 ≠ P3
section
variable {M : Mem} {p P P2 P3 : Addr} {md : Nat} {hd : List (Str × List Str)} {sg own labs fr : List Str} {kvs : List (Key × D)} {η : Sls}
theorem Pn.die' (h : Pn M p P P2 P3 md hd sg kvs) : Mf M P3 fr p = some .die := by unfold Mf; rw [mup_ne h.n0]; exact h.die
theorem Pn.plan' (h : Pn M p P P2 P3 md hd sg kvs) : Mf M P3 fr P = some (.dic kvs) := by unfold Mf; rw [mup_ne h.n1]; exact h.plan
theorem Pn.heads' (h : Pn M p P P2 P3 md hd sg kvs) : Mf M P3 fr P2 = some (.dic (hd.map headD)) := by unfold Mf; rw [mup_ne h.n2]; exact h.heads
end
end PK
set_option Elab.async false
set_option linter.all false
set_option maxRecDepth 100000
set_option maxHeartbeats 1000000
namespace PK
open PySem PySem.Spec PyProof.Rows L2 DL LamX FL
local macro_rules | `(tactic| walk_at "y") => `(tactic| first
  | (with_reducible exact y_c) | exact y_var rfl
  | (with_reducible refine' y_op ?_ ?_ ?_) | (with_reducible refine' y_un ?_ ?_) | (with_reducible refine' y_cb ?_ ?_)
  | (with_reducible exact ya_nil) | (with_reducible refine' ya_cons ?_ ?_)
  | (with_reducible refine' y_tup ?_ ?_) | (with_reducible refine' y_lst ?_ ?_)
  | (with_reducible refine' y_call1 ?_ ?_) | (with_reducible refine' y_call2 ?_ ?_ ?_)
  | (with_reducible refine' y_and ?_ ?_) | (with_reducible refine' y_or ?_ ?_) | (with_reducible refine' y_not ?_)
  | (with_reducible refine' y_chain ?_ ?_ ?_ ?_ ?_)
  | ((with_reducible refine' y_fld ?_ ?_))
  | (with_reducible refine' y_sl ?_ ?_ ?_ ?_) | (with_reducible exact yo_no) | (with_reducible refine' yo_pt ?_)
  | (with_reducible refine' yt_test ?_) | (with_reducible refine' yt_not ?_) | (with_reducible refine' yt_and ?_ ?_) | (with_reducible refine' yt_or ?_ ?_) | (with_reducible refine' yt_tru ?_ ?_)
  | (with_reducible exact tru_b) | (with_reducible exact tru_n) | (with_reducible exact tru_i) | (with_reducible exact tru_l) | (with_reducible exact tru_t)
  | (with_reducible exact o_addI) | (with_reducible refine' o_addS ?_) | (with_reducible refine' o_addL ?_) | (with_reducible refine' o_addT ?_) | (with_reducible exact o_ii) | (with_reducible exact o_ib)
  | (with_reducible refine' o_eq ?_) | (with_reducible refine' o_in rfl ?_)
  | (with_reducible refine' n_lenS ?_) | (with_reducible exact n_lenL) | (with_reducible exact n_lenT)
  | (with_reducible exact n_intI) | (with_reducible exact n_intB) | exact n_tuple rfl | exact n_list rfl
  | (with_reducible refine' i_lst ?_) | (with_reducible refine' i_tup ?_) | (with_reducible refine' i_r1 ?_ ?_)
  | ((with_reducible refine' dicF_r ?_); assumption) | (with_reducible exact dicF_d)
  | (with_reducible exact sz0) | (with_reducible exact sz1) | (with_reducible exact sz2) | (with_reducible exact sz3) | (with_reducible exact sz4) | (with_reducible exact sz5) | (with_reducible exact sz6) | (with_reducible exact sz7) | (with_reducible exact sz8) | (with_reducible exact sz9) | (with_reducible exact sz10) | (with_reducible exact sz11) | (with_reducible exact sz12) | (with_reducible exact sz13) | (with_reducible exact sz14) | (with_reducible exact sz15) | (with_reducible exact sz16))
local macro_rules | `(tactic| walk_at "ys") => `(tactic| repeat' walk_at "y")
section
variable {M : Mem} {p P P2 P3 : Addr} {md n : Nat} {hd : List (Str × List Str)} {sg own labs fr : List Str} {kvs : List (Key × D)} {η : Sls} {rec : FF} {Q : D → Mem → Prop} {k : KS}
end
end PK
set_option Elab.async false
set_option linter.all false
set_option maxRecDepth 100000
set_option maxHeartbeats 1000000
namespace PK
open PySem PySem.Spec PyProof.Rows L2 DL LamX FL
local macro_rules | `(tactic| walk_at "y") => `(tactic| first
  | (with_reducible exact y_c) | exact y_var rfl
  | (with_reducible refine' y_op ?_ ?_ ?_) | (with_reducible refine' y_un ?_ ?_) | (with_reducible refine' y_cb ?_ ?_)
  | (with_reducible exact ya_nil) | (with_reducible refine' ya_cons ?_ ?_)
  | (with_reducible refine' y_tup ?_ ?_) | (with_reducible refine' y_lst ?_ ?_)
  | (with_reducible refine' y_call1 ?_ ?_) | (with_reducible refine' y_call2 ?_ ?_ ?_)
  | (with_reducible refine' y_and ?_ ?_) | (with_reducible refine' y_or ?_ ?_) | (with_reducible refine' y_not ?_)
  | (with_reducible refine' y_chain ?_ ?_ ?_ ?_ ?_)
  | ((with_reducible refine' y_fld ?_ ?_))
  | (with_reducible refine' y_sl ?_ ?_ ?_ ?_) | (with_reducible exact yo_no) | (with_reducible refine' yo_pt ?_)
  | (with_reducible refine' yt_test ?_) | (with_reducible refine' yt_not ?_) | (with_reducible refine' yt_and ?_ ?_) | (with_reducible refine' yt_or ?_ ?_) | (with_reducible refine' yt_tru ?_ ?_)
  | (with_reducible exact tru_b) | (with_reducible exact tru_n) | (with_reducible exact tru_i) | (with_reducible exact tru_l) | (with_reducible exact tru_t)
  | (with_reducible exact o_addI) | (with_reducible refine' o_addS ?_) | (with_reducible refine' o_addL ?_) | (with_reducible refine' o_addT ?_) | (with_reducible exact o_ii) | (with_reducible exact o_ib)
  | (with_reducible refine' o_eq ?_) | (with_reducible refine' o_in rfl ?_)
  | (with_reducible refine' n_lenS ?_) | (with_reducible exact n_lenL) | (with_reducible exact n_lenT)
  | (with_reducible exact n_intI) | (with_reducible exact n_intB) | exact n_tuple rfl | exact n_list rfl
  | (with_reducible refine' i_lst ?_) | (with_reducible refine' i_tup ?_) | (with_reducible refine' i_r1 ?_ ?_)
  | ((with_reducible refine' dicF_r ?_); assumption) | (with_reducible exact dicF_d)
  | (with_reducible exact sz0) | (with_reducible exact sz1) | (with_reducible exact sz2) | (with_reducible exact sz3) | (with_reducible exact sz4) | (with_reducible exact sz5) | (with_reducible exact sz6) | (with_reducible exact sz7) | (with_reducible exact sz8) | (with_reducible exact sz9) | (with_reducible exact sz10) | (with_reducible exact sz11) | (with_reducible exact sz12) | (with_reducible exact sz13) | (with_reducible exact sz14) | (with_reducible exact sz15) | (with_reducible exact sz16))
local macro_rules | `(tactic| walk_at "ys") => `(tactic| repeat' walk_at "y")
section
variable {M : Mem} {p P P2 P3 : Addr} {md n : Nat} {hd : List (Str × List Str)} {sg own labs fr : List Str} {kvs : List (Key × D)} {η : Sls} {rec : FF} {Q : D → Mem → Prop} {k : KS}
end
end PK
set_option Elab.async false
set_option linter.all false
set_option maxRecDepth 100000
set_option maxHeartbeats 1000000
namespace PK
open PySem PySem.Spec PyProof.Rows L2 DL LamX FL
local macro_rules | `(tactic| walk_at "y") => `(tactic| first
  | (with_reducible exact y_c) | exact y_var rfl
  | (with_reducible refine' y_op ?_ ?_ ?_) | (with_reducible refine' y_un ?_ ?_) | (with_reducible refine' y_cb ?_ ?_)
  | (with_reducible exact ya_nil) | (with_reducible refine' ya_cons ?_ ?_)
  | (with_reducible refine' y_tup ?_ ?_) | (with_reducible refine' y_lst ?_ ?_)
  | (with_reducible refine' y_call1 ?_ ?_) | (with_reducible refine' y_call2 ?_ ?_ ?_)
  | (with_reducible refine' y_and ?_ ?_) | (with_reducible refine' y_or ?_ ?_) | (with_reducible refine' y_not ?_)
  | (with_reducible refine' y_chain ?_ ?_ ?_ ?_ ?_)
  | ((with_reducible refine' y_fld ?_ ?_))
  | (with_reducible refine' y_sl ?_ ?_ ?_ ?_) | (with_reducible exact yo_no) | (with_reducible refine' yo_pt ?_)
  | (with_reducible refine' yt_test ?_) | (with_reducible refine' yt_not ?_) | (with_reducible refine' yt_and ?_ ?_) | (with_reducible refine' yt_or ?_ ?_) | (with_reducible refine' yt_tru ?_ ?_)
  | (with_reducible exact tru_b) | (with_reducible exact tru_n) | (with_reducible exact tru_i) | (with_reducible exact tru_l) | (with_reducible exact tru_t)
  | (with_reducible exact o_addI) | (with_reducible refine' o_addS ?_) | (with_reducible refine' o_addL ?_) | (with_reducible refine' o_addT ?_) | (with_reducible exact o_ii) | (with_reducible exact o_ib)
  | (with_reducible refine' o_eq ?_) | (with_reducible refine' o_in rfl ?_)
  | (with_reducible refine' n_lenS ?_) | (with_reducible exact n_lenL) | (with_reducible exact n_lenT)
  | (with_reducible exact n_intI) | (with_reducible exact n_intB) | exact n_tuple rfl | exact n_list rfl
  | (with_reducible refine' i_lst ?_) | (with_reducible refine' i_tup ?_) | (with_reducible refine' i_r1 ?_ ?_)
  | ((with_reducible refine' dicF_r ?_); assumption) | (with_reducible exact dicF_d)
  | (with_reducible exact sz0) | (with_reducible exact sz1) | (with_reducible exact sz2) | (with_reducible exact sz3) | (with_reducible exact sz4) | (with_reducible exact sz5) | (with_reducible exact sz6) | (with_reducible exact sz7) | (with_reducible exact sz8) | (with_reducible exact sz9) | (with_reducible exact sz10) | (with_reducible exact sz11) | (with_reducible exact sz12) | (with_reducible exact sz13) | (with_reducible exact sz14) | (with_reducible exact sz15) | (with_reducible exact sz16))
local macro_rules | `(tactic| walk_at "ys") => `(tactic| repeat' walk_at "y")
section
variable {M : Mem} {p P P2 P3 : Addr} {md n : Nat} {hd : List (Str × List Str)} {sg own labs fr : List Str} {kvs : List (Key × D)} {η : Sls} {rec : FF} {Q : D → Mem → Prop} {k : KS} {x5 x6 : D} {w : Str}
abbrev KQ (Q : D → Mem → Prop) : KS := { nx := fun _ M' => Q .non M', rt := Q }
end
end PK
set_option Elab.async false
set_option linter.all false
set_option maxRecDepth 100000
set_option maxHeartbeats 1000000
namespace PK
open PySem PySem.Spec PyProof.Rows L2 DL LamX FL
local macro_rules | `(tactic| walk_at "y") => `(tactic| first
  | (with_reducible exact y_c) | exact y_var rfl
  | (with_reducible refine' y_op ?_ ?_ ?_) | (with_reducible refine' y_un ?_ ?_) | (with_reducible refine' y_cb ?_ ?_)
  | (with_reducible exact ya_nil) | (with_reducible refine' ya_cons ?_ ?_)
  | (with_reducible refine' y_tup ?_ ?_) | (with_reducible refine' y_lst ?_ ?_)
  | (with_reducible refine' y_call1 ?_ ?_) | (with_reducible refine' y_call2 ?_ ?_ ?_)
  | (with_reducible refine' y_and ?_ ?_) | (with_reducible refine' y_or ?_ ?_) | (with_reducible refine' y_not ?_)
  | (with_reducible refine' y_chain ?_ ?_ ?_ ?_ ?_)
  | ((with_reducible refine' y_fld ?_ ?_))
  | (with_reducible refine' y_sl ?_ ?_ ?_ ?_) | (with_reducible exact yo_no) | (with_reducible refine' yo_pt ?_)
  | (with_reducible refine' yt_test ?_) | (with_reducible refine' yt_not ?_) | (with_reducible refine' yt_and ?_ ?_) | (with_reducible refine' yt_or ?_ ?_) | (with_reducible refine' yt_tru ?_ ?_)
  | (with_reducible exact tru_b) | (with_reducible exact tru_n) | (with_reducible exact tru_i) | (with_reducible exact tru_l) | (with_reducible exact tru_t)
  | (with_reducible exact o_addI) | (with_reducible refine' o_addS ?_) | (with_reducible refine' o_addL ?_) | (with_reducible refine' o_addT ?_) | (with_reducible exact o_ii) | (with_reducible exact o_ib)
  | (with_reducible refine' o_eq ?_) | (with_reducible refine' o_in rfl ?_)
  | (with_reducible refine' n_lenS ?_) | (with_reducible exact n_lenL) | (with_reducible exact n_lenT)
  | (with_reducible exact n_intI) | (with_reducible exact n_intB) | exact n_tuple rfl | exact n_list rfl
  | (with_reducible refine' i_lst ?_) | (with_reducible refine' i_tup ?_) | (with_reducible refine' i_r1 ?_ ?_)
  | ((with_reducible refine' dicF_r ?_); assumption) | (with_reducible exact dicF_d)
  | (with_reducible exact sz0) | (with_reducible exact sz1) | (with_reducible exact sz2) | (with_reducible exact sz3) | (with_reducible exact sz4) | (with_reducible exact sz5) | (with_reducible exact sz6) | (with_reducible exact sz7) | (with_reducible exact sz8) | (with_reducible exact sz9) | (with_reducible exact sz10) | (with_reducible exact sz11) | (with_reducible exact sz12) | (with_reducible exact sz13) | (with_reducible exact sz14) | (with_reducible exact sz15) | (with_reducible exact sz16))
local macro_rules | `(tactic| walk_at "ys") => `(tactic| repeat' walk_at "y")
section
variable {M : Mem} {p P P2 P3 : Addr} {md n : Nat} {hd : List (Str × List Str)} {sg own labs fr : List Str} {kvs : List (Key × D)} {η : Sls} {rec : FF} {Q : D → Mem → Prop} {k : KS} {x5 x6 : D} {w : Str}
end
end PK
set_option Elab.async false
set_option linter.all false
set_option maxRecDepth 100000
set_option maxHeartbeats 1000000
namespace PK
open PySem PySem.Spec PyProof.Rows L2 DL LamX FL
local macro_rules | `(tactic| walk_at "y") => `(tactic| first
  | (with_reducible exact y_c) | exact y_var rfl
  | (with_reducible refine' y_op ?_ ?_ ?_) | (with_reducible refine' y_un ?_ ?_) | (with_reducible refine' y_cb ?_ ?_)
  | (with_reducible exact ya_nil) | (with_reducible refine' ya_cons ?_ ?_)
  | (with_reducible refine' y_tup ?_ ?_) | (with_reducible refine' y_lst ?_ ?_)
  | (with_reducible refine' y_call1 ?_ ?_) | (with_reducible refine' y_call2 ?_ ?_ ?_)
  | (with_reducible refine' y_and ?_ ?_) | (with_reducible refine' y_or ?_ ?_) | (with_reducible refine' y_not ?_)
  | (with_reducible refine' y_chain ?_ ?_ ?_ ?_ ?_)
  | ((with_reducible refine' y_fld ?_ ?_))
  | (with_reducible refine' y_sl ?_ ?_ ?_ ?_) | (with_reducible exact yo_no) | (with_reducible refine' yo_pt ?_)
  | (with_reducible refine' yt_test ?_) | (with_reducible refine' yt_not ?_) | (with_reducible refine' yt_and ?_ ?_) | (with_reducible refine' yt_or ?_ ?_) | (with_reducible refine' yt_tru ?_ ?_)
  | (with_reducible exact tru_b) | (with_reducible exact tru_n) | (with_reducible exact tru_i) | (with_reducible exact tru_l) | (with_reducible exact tru_t)
  | (with_reducible exact o_addI) | (with_reducible refine' o_addS ?_) | (with_reducible refine' o_addL ?_) | (with_reducible refine' o_addT ?_) | (with_reducible exact o_ii) | (with_reducible exact o_ib)
  | (with_reducible refine' o_eq ?_) | (with_reducible refine' o_in rfl ?_)
  | (with_reducible refine' n_lenS ?_) | (with_reducible exact n_lenL) | (with_reducible exact n_lenT)
  | (with_reducible exact n_intI) | (with_reducible exact n_intB) | exact n_tuple rfl | exact n_list rfl
  | (with_reducible refine' i_lst ?_) | (with_reducible refine' i_tup ?_) | (with_reducible refine' i_r1 ?_ ?_)
  | ((with_reducible refine' dicF_r ?_); assumption) | (with_reducible exact dicF_d)
  | (with_reducible exact sz0) | (with_reducible exact sz1) | (with_reducible exact sz2) | (with_reducible exact sz3) | (with_reducible exact sz4) | (with_reducible exact sz5) | (with_reducible exact sz6) | (with_reducible exact sz7) | (with_reducible exact sz8) | (with_reducible exact sz9) | (with_reducible exact sz10) | (with_reducible exact sz11) | (with_reducible exact sz12) | (with_reducible exact sz13) | (with_reducible exact sz14) | (with_reducible exact sz15) | (with_reducible exact sz16))
local macro_rules | `(tactic| walk_at "ys") => `(tactic| repeat' walk_at "y")
section
variable {M : Mem} {p P P2 P3 : Addr} {md n : Nat} {hd : List (Str × List Str)} {sg own labs fr : List Str} {kvs : List (Key × D)} {η : Sls} {rec : FF} {Q : D → Mem → Prop} {k : KS} {x5 x6 : D} {w : Str}
theorem valKD_ne {k key : Key} {v : D} {r : List (Key × D)} (h : k ≠ key) : valKD ((k, v) :: r) key = valKD r key := by
  unfold valKD
  rw [List.find?_cons_of_neg (by simp; exact h)]
theorem valKD_eq {key : Key} {v : D} {r : List (Key × D)} : valKD ((key, v) :: r) key = some v := by
  unfold valKD
  rw [List.find?_cons_of_pos (by simp)]; rfl
end
end PK
set_option Elab.async false
set_option linter.all false
set_option maxRecDepth 100000
set_option maxHeartbeats 1000000
namespace PK
open PySem PySem.Spec PyProof.Rows L2 DL LamX FL
local macro_rules | `(tactic| walk_at "y") => `(tactic| first
  | (with_reducible exact y_c) | exact y_var rfl
  | (with_reducible refine' y_op ?_ ?_ ?_) | (with_reducible refine' y_un ?_ ?_) | (with_reducible refine' y_cb ?_ ?_)
  | (with_reducible exact ya_nil) | (with_reducible refine' ya_cons ?_ ?_)
  | (with_reducible refine' y_tup ?_ ?_) | (with_reducible refine' y_lst ?_ ?_)
  | (with_reducible refine' y_call1 ?_ ?_) | (with_reducible refine' y_call2 ?_ ?_ ?_)
  | (with_reducible refine' y_and ?_ ?_) | (with_reducible refine' y_or ?_ ?_) | (with_reducible refine' y_not ?_)
  | (with_reducible refine' y_chain ?_ ?_ ?_ ?_ ?_)
  | ((with_reducible refine' y_fld ?_ ?_))
  | (with_reducible refine' y_sl ?_ ?_ ?_ ?_) | (with_reducible exact yo_no) | (with_reducible refine' yo_pt ?_)
  | (with_reducible refine' yt_test ?_) | (with_reducible refine' yt_not ?_) | (with_reducible refine' yt_and ?_ ?_) | (with_reducible refine' yt_or ?_ ?_) | (with_reducible refine' yt_tru ?_ ?_)
  | (with_reducible exact tru_b) | (with_reducible exact tru_n) | (with_reducible exact tru_i) | (with_reducible exact tru_l) | (with_reducible exact tru_t)
  | (with_reducible exact o_addI) | (with_reducible refine' o_addS ?_) | (with_reducible refine' o_addL ?_) | (with_reducible refine' o_addT ?_) | (with_reducible exact o_ii) | (with_reducible exact o_ib)
  | (with_reducible refine' o_eq ?_) | (with_reducible refine' o_in rfl ?_)
  | (with_reducible refine' n_lenS ?_) | (with_reducible exact n_lenL) | (with_reducible exact n_lenT)
  | (with_reducible exact n_intI) | (with_reducible exact n_intB) | exact n_tuple rfl | exact n_list rfl
  | (with_reducible refine' i_lst ?_) | (with_reducible refine' i_tup ?_) | (with_reducible refine' i_r1 ?_ ?_)
  | ((with_reducible refine' dicF_r ?_); assumption) | (with_reducible exact dicF_d)
  | (with_reducible exact sz0) | (with_reducible exact sz1) | (with_reducible exact sz2) | (with_reducible exact sz3) | (with_reducible exact sz4) | (with_reducible exact sz5) | (with_reducible exact sz6) | (with_reducible exact sz7) | (with_reducible exact sz8) | (with_reducible exact sz9) | (with_reducible exact sz10) | (with_reducible exact sz11) | (with_reducible exact sz12) | (with_reducible exact sz13) | (with_reducible exact sz14) | (with_reducible exact sz15) | (with_reducible exact sz16))
local macro_rules | `(tactic| walk_at "ys") => `(tactic| repeat' walk_at "y")
section
variable {M : Mem} {p P P2 P3 : Addr} {md n : Nat} {hd : List (Str × List Str)} {sg own labs fr : List Str} {kvs : List (Key × D)} {η : Sls} {Q : D → Mem → Prop} {k : KS}
theorem put_same : ∀ {kvs : List (Key × D)} {key : Key} {v : D}, valKD (putKD kvs key v) key = some v := fun {kvs key v} => by
  unfold putKD
  split
  · rename_i h
    induction kvs with
    | nil => cases h
    | cons x r ih =>
      rw [List.map_cons]
      by_cases e : x.1 = key
      · obtain ⟨a, b⟩ := x
        cases e
        rw [if_pos rfl]; exact valKD_eq
      · rw [if_neg e]
        obtain ⟨a, b⟩ := x
        rw [valKD_ne e]
        rw [List.any_cons, Bool.or_eq_true] at h
        exact ih (h.resolve_left (by simp; exact e))
  · rename_i h
    induction kvs with
    | nil => exact valKD_eq
    | cons x r ih =>
      obtain ⟨a, b⟩ := x
      rw [List.any_cons, Bool.or_eq_true] at h
      have e : a ≠ key := fun e => h (.inl (by simp; exact e))
      rw [List.cons_append, valKD_ne e]
      exact ih fun z => h (.inr z)
theorem put_other : ∀ {kvs : List (Key × D)} {key key' : Key} {v : D}, key ≠ key' → valKD (putKD kvs key v) key' = valKD kvs key' := fun {kvs key key' v} hn => by
  unfold putKD
  split
  · rename_i h
    clear h
    induction kvs with
    | nil => rfl
    | cons x r ih =>
      obtain ⟨a, b⟩ := x
      rw [List.map_cons]
      by_cases e : a = key
      · subst e
        rw [if_pos rfl, valKD_ne hn, valKD_ne hn]; exact ih
      · rw [if_neg e]
        by_cases e2 : a = key'
        · subst e2; rw [valKD_eq, valKD_eq]
        · rw [valKD_ne e2, valKD_ne e2]; exact ih
  · rename_i h
    clear h
    induction kvs with
    | nil => exact valKD_ne hn
    | cons x r ih =>
      obtain ⟨a, b⟩ := x
      rw [List.cons_append]
      by_cases e2 : a = key'
      · subst e2; rw [valKD_eq, valKD_eq]
      · rw [valKD_ne e2, valKD_ne e2]; exact ih
structure Pl (M : Mem) (p P P2 : Addr) (md : Nat) (hd : List (Str × List Str)) (sg : List Str) (kvs : List (Key × D)) : Prop where
  die : M p = some .die
  plan : M P = some (.dic kvs)
  k1 : valKD kvs (.inr "modes") = some (.int (md : Int))
  k2 : valKD kvs (.inr "heads") = some (.raw (.ref P2))
  k3 : valKD kvs (.inr "signals") = some (.tup (sg.map D.str))
  kl : kvs.length ≤ 10
  kf : kvs.length ≤ 3 ∨ ∃ v, valKD kvs (.inr "fresh") = some v
  heads : M P2 = some (.dic (hd.map headD))
  ne : P ≠ P2
  m1 : 1 ≤ md
  m3 : md ≤ 3
  hnd : (hd.map (·.1)).Nodup
  hne : hd ≠ []
  hlen : hd.length ≤ 10
  har : ∀ h ∈ hd, h.2.length ≤ 3 ∧ h.1 ∈ NAMES
  osg : OkSg sg
theorem Pl.fresh (pl : Pl M p P P2 md hd sg kvs) {a : Addr} {l : List D} (ha : M a = none) : Pn (mup (mup M a (.lst l)) P (.dic (putKD kvs (.inr "fresh") (.raw (.ref a))))) p P P2 a md hd sg (putKD kvs (.inr "fresh") (.raw (.ref a))) ∧ (mup (mup M a (.lst l)) P (.dic (putKD kvs (.inr "fresh") (.raw (.ref a))))) a = some (.lst l) := by
  have np : p ≠ a := fun e => by subst e; rw [pl.die] at ha; cases ha
  have nP : P ≠ a := fun e => by subst e; rw [pl.plan] at ha; cases ha
  have n2 : P2 ≠ a := fun e => by subst e; rw [pl.heads] at ha; cases ha
  have npP : p ≠ P := fun e => by subst e; have := pl.die; rw [pl.plan] at this; cases this
  have nk : ∀ s : Str, ("fresh" : Str) ≠ s → (Sum.inr ("fresh" : Str) : Key) ≠ .inr s := fun s h e => h (Sum.inr.inj e)
  refine ⟨⟨?_, mup_same, ?_, ?_, ?_, put_same, ?_, pl.m1, pl.m3, pl.hnd, pl.hne, pl.hlen, pl.har, pl.osg, np, nP, n2⟩, ?_⟩
  · rw [mup_ne npP, mup_ne np]; exact pl.die
  · rw [put_other (nk _ (by decide))]; exact pl.k1
  · rw [put_other (nk _ (by decide))]; exact pl.k2
  · rw [put_other (nk _ (by decide))]; exact pl.k3
  · rw [mup_ne pl.ne.symm, mup_ne n2]; exact pl.heads
  · rw [mup_ne nP.symm]; exact mup_same
theorem Pn.pl (pn : Pn M p P P2 P3 md hd sg kvs) (hk : kvs.length ≤ 10) (ne : P ≠ P2) {fr : List Str} : Pl (Mf M P3 fr) p P P2 md hd sg kvs :=
  ⟨pn.die', pn.plan', pn.k1, pn.k2, pn.k3, hk, .inr ⟨_, pn.k4⟩, pn.heads', ne, pn.m1, pn.m3, pn.hnd, pn.hne, pn.hlen, pn.har, pn.osg⟩
structure BodyN (most : Nat) (own sg : List Str) (md : Nat) (hds : List (Str × Nat)) (d : D) (n : Nat) : Prop where
  tq : Tq own sg md hds n [] d
  hn : n ≤ 4
  all : (allD n d).length ≤ most
  labs : (labelsD n d).Nodup
end
end PK
set_option Elab.async false
set_option linter.all false
set_option maxRecDepth 100000
set_option maxHeartbeats 1000000
namespace PK
open PySem PySem.Spec PyProof.Rows L2 DL LamX FL
local macro_rules | `(tactic| walk_at "y") => `(tactic| first
  | (with_reducible exact y_c) | exact y_var rfl
  | (with_reducible refine' y_op ?_ ?_ ?_) | (with_reducible refine' y_un ?_ ?_) | (with_reducible refine' y_cb ?_ ?_)
  | (with_reducible exact ya_nil) | (with_reducible refine' ya_cons ?_ ?_)
  | (with_reducible refine' y_tup ?_ ?_) | (with_reducible refine' y_lst ?_ ?_)
  | (with_reducible refine' y_call1 ?_ ?_) | (with_reducible refine' y_call2 ?_ ?_ ?_)
  | (with_reducible refine' y_and ?_ ?_) | (with_reducible refine' y_or ?_ ?_) | (with_reducible refine' y_not ?_)
  | (with_reducible refine' y_chain ?_ ?_ ?_ ?_ ?_)
  | ((with_reducible refine' y_fld ?_ ?_))
  | (with_reducible refine' y_sl ?_ ?_ ?_ ?_) | (with_reducible exact yo_no) | (with_reducible refine' yo_pt ?_)
  | (with_reducible refine' yt_test ?_) | (with_reducible refine' yt_not ?_) | (with_reducible refine' yt_and ?_ ?_) | (with_reducible refine' yt_or ?_ ?_) | (with_reducible refine' yt_tru ?_ ?_)
  | (with_reducible exact tru_b) | (with_reducible exact tru_n) | (with_reducible exact tru_i) | (with_reducible exact tru_l) | (with_reducible exact tru_t)
  | (with_reducible exact o_addI) | (with_reducible refine' o_addS ?_) | (with_reducible refine' o_addL ?_) | (with_reducible refine' o_addT ?_) | (with_reducible exact o_ii) | (with_reducible exact o_ib)
  | (with_reducible refine' o_eq ?_) | (with_reducible refine' o_in rfl ?_)
  | (with_reducible refine' n_lenS ?_) | (with_reducible exact n_lenL) | (with_reducible exact n_lenT)
  | (with_reducible exact n_intI) | (with_reducible exact n_intB) | exact n_tuple rfl | exact n_list rfl
  | (with_reducible refine' i_lst ?_) | (with_reducible refine' i_tup ?_) | (with_reducible refine' i_r1 ?_ ?_)
  | ((with_reducible refine' dicF_r ?_); assumption) | (with_reducible exact dicF_d)
  | (with_reducible exact sz0) | (with_reducible exact sz1) | (with_reducible exact sz2) | (with_reducible exact sz3) | (with_reducible exact sz4) | (with_reducible exact sz5) | (with_reducible exact sz6) | (with_reducible exact sz7) | (with_reducible exact sz8) | (with_reducible exact sz9) | (with_reducible exact sz10) | (with_reducible exact sz11) | (with_reducible exact sz12) | (with_reducible exact sz13) | (with_reducible exact sz14) | (with_reducible exact sz15) | (with_reducible exact sz16))
local macro_rules | `(tactic| walk_at "ys") => `(tactic| repeat' walk_at "y")
section
variable {M : Mem} {p P P2 P3 : Addr} {md n : Nat} {hd : List (Str × List Str)} {sg own labs fr : List Str} {kvs : List (Key × D)} {η : Sls} {Q : D → Mem → Prop} {k : KS}
theorem BodyN.body {own : List Str} {hds : List (Str × Nat)} {d : D} {most : Nat} (b : BodyN most own sg md hds d n) (hm : most ≤ 40) (ho : ∀ x ∈ own, x ∈ NAMES) (nd : own.Nodup) (hl : own.length ≤ 3) : Body own sg md hds d n :=
  ⟨b.tq, by have := b.hn; omega, ho, nd, hl, Nat.le_trans b.all hm, b.labs⟩
end
end PK
set_option Elab.async false
set_option linter.all false
set_option maxRecDepth 100000
set_option maxHeartbeats 1000000
namespace PK
open PySem PySem.Spec PyProof.Rows L2 DL LamX FL
local macro_rules | `(tactic| walk_at "y") => `(tactic| first
  | (with_reducible exact y_c) | exact y_var rfl
  | (with_reducible refine' y_op ?_ ?_ ?_) | (with_reducible refine' y_un ?_ ?_) | (with_reducible refine' y_cb ?_ ?_)
  | (with_reducible exact ya_nil) | (with_reducible refine' ya_cons ?_ ?_)
  | (with_reducible refine' y_tup ?_ ?_) | (with_reducible refine' y_lst ?_ ?_)
  | (with_reducible refine' y_call1 ?_ ?_) | (with_reducible refine' y_call2 ?_ ?_ ?_)
  | (with_reducible refine' y_and ?_ ?_) | (with_reducible refine' y_or ?_ ?_) | (with_reducible refine' y_not ?_)
  | (with_reducible refine' y_chain ?_ ?_ ?_ ?_ ?_)
  | ((with_reducible refine' y_fld ?_ ?_))
  | (with_reducible refine' y_sl ?_ ?_ ?_ ?_) | (with_reducible exact yo_no) | (with_reducible refine' yo_pt ?_)
  | (with_reducible refine' yt_test ?_) | (with_reducible refine' yt_not ?_) | (with_reducible refine' yt_and ?_ ?_) | (with_reducible refine' yt_or ?_ ?_) | (with_reducible refine' yt_tru ?_ ?_)
  | (with_reducible exact tru_b) | (with_reducible exact tru_n) | (with_reducible exact tru_i) | (with_reducible exact tru_l) | (with_reducible exact tru_t)
  | (with_reducible exact o_addI) | (with_reducible refine' o_addS ?_) | (with_reducible refine' o_addL ?_) | (with_reducible refine' o_addT ?_) | (with_reducible exact o_ii) | (with_reducible exact o_ib)
  | (with_reducible refine' o_eq ?_) | (with_reducible refine' o_in rfl ?_)
  | (with_reducible refine' n_lenS ?_) | (with_reducible exact n_lenL) | (with_reducible exact n_lenT)
  | (with_reducible exact n_intI) | (with_reducible exact n_intB) | exact n_tuple rfl | exact n_list rfl
  | (with_reducible refine' i_lst ?_) | (with_reducible refine' i_tup ?_) | (with_reducible refine' i_r1 ?_ ?_)
  | ((with_reducible refine' dicF_r ?_); assumption) | (with_reducible exact dicF_d)
  | (with_reducible exact sz0) | (with_reducible exact sz1) | (with_reducible exact sz2) | (with_reducible exact sz3) | (with_reducible exact sz4) | (with_reducible exact sz5) | (with_reducible exact sz6) | (with_reducible exact sz7) | (with_reducible exact sz8) | (with_reducible exact sz9) | (with_reducible exact sz10) | (with_reducible exact sz11) | (with_reducible exact sz12) | (with_reducible exact sz13) | (with_reducible exact sz14) | (with_reducible exact sz15) | (with_reducible exact sz16))
local macro_rules | `(tactic| walk_at "ys") => `(tactic| repeat' walk_at "y")
section
variable {M : Mem} {p P P2 P3 : Addr} {md n : Nat} {hd : List (Str × List Str)} {sg own labs fr : List Str} {kvs : List (Key × D)} {η : Sls} {Q : D → Mem → Prop} {k : KS}
end
end PK
set_option Elab.async false
set_option linter.all false
set_option maxRecDepth 100000
set_option maxHeartbeats 1000000
namespace PK
open PySem PySem.Spec PyProof.Rows L2 DL LamX FL
local macro_rules | `(tactic| walk_at "y") => `(tactic| first
  | (with_reducible exact y_c) | exact y_var rfl
  | (with_reducible refine' y_op ?_ ?_ ?_) | (with_reducible refine' y_un ?_ ?_) | (with_reducible refine' y_cb ?_ ?_)
  | (with_reducible exact ya_nil) | (with_reducible refine' ya_cons ?_ ?_)
  | (with_reducible refine' y_tup ?_ ?_) | (with_reducible refine' y_lst ?_ ?_)
  | (with_reducible refine' y_call1 ?_ ?_) | (with_reducible refine' y_call2 ?_ ?_ ?_)
  | (with_reducible refine' y_and ?_ ?_) | (with_reducible refine' y_or ?_ ?_) | (with_reducible refine' y_not ?_)
  | (with_reducible refine' y_chain ?_ ?_ ?_ ?_ ?_)
  | ((with_reducible refine' y_fld ?_ ?_))
  | (with_reducible refine' y_sl ?_ ?_ ?_ ?_) | (with_reducible exact yo_no) | (with_reducible refine' yo_pt ?_)
  | (with_reducible refine' yt_test ?_) | (with_reducible refine' yt_not ?_) | (with_reducible refine' yt_and ?_ ?_) | (with_reducible refine' yt_or ?_ ?_) | (with_reducible refine' yt_tru ?_ ?_)
  | (with_reducible exact tru_b) | (with_reducible exact tru_n) | (with_reducible exact tru_i) | (with_reducible exact tru_l) | (with_reducible exact tru_t)
  | (with_reducible exact o_addI) | (with_reducible refine' o_addS ?_) | (with_reducible refine' o_addL ?_) | (with_reducible refine' o_addT ?_) | (with_reducible exact o_ii) | (with_reducible exact o_ib)
  | (with_reducible refine' o_eq ?_) | (with_reducible refine' o_in rfl ?_)
  | (with_reducible refine' n_lenS ?_) | (with_reducible exact n_lenL) | (with_reducible exact n_lenT)
  | (with_reducible exact n_intI) | (with_reducible exact n_intB) | exact n_tuple rfl | exact n_list rfl
  | (with_reducible refine' i_lst ?_) | (with_reducible refine' i_tup ?_) | (with_reducible refine' i_r1 ?_ ?_)
  | ((with_reducible refine' dicF_r ?_); assumption) | (with_reducible exact dicF_d)
  | (with_reducible exact sz0) | (with_reducible exact sz1) | (with_reducible exact sz2) | (with_reducible exact sz3) | (with_reducible exact sz4) | (with_reducible exact sz5) | (with_reducible exact sz6) | (with_reducible exact sz7) | (with_reducible exact sz8) | (with_reducible exact sz9) | (with_reducible exact sz10) | (with_reducible exact sz11) | (with_reducible exact sz12) | (with_reducible exact sz13) | (with_reducible exact sz14) | (with_reducible exact sz15) | (with_reducible exact sz16))
local macro_rules | `(tactic| walk_at "ys") => `(tactic| repeat' walk_at "y")
section
variable {C : Addr} {nm : Str} {own sg : List Str} {md : Nat} {hds : List (Str × Nat)} {n : Nat} {d : D} {all : List D} {M : Mem} {Q : D → Mem → Prop} {η : Sls} {fr : WA} {x y : D}
theorem y_make (b : Body own sg md hds d n) (hnm : nm ∈ NAMES) (a : YA fr η M [.str nm, .tup (own.map D.str), d]) : Yv (eMake C (F_Procedure___init__ C) 4 fr) η M (.obj C (fieldsP nm own d (allD n d))) := ⟨fun K q => by
  have hi : ∀ {x : Addr} {M : Mem} {Q : D → Mem → Prop}, Q .non (mup M x (.ins C (fieldsP nm own d (allD n d)))) → F_Procedure___init__ C [.raw (.ref x), .str nm, .tup (own.map D.str), d] (mup M x (.ins C [])) Q := fun q => init_i b hnm (body64 b) q
  generalize F_Procedure___init__ C = f at hi ⊢
  unfold eMake
  exact a.go _ (gd_mk (by rfl) fun x hx => hi ⟨rfl, _, rfl, q⟩)⟩
abbrev PO (C : Addr) (nm : Str) (own : List Str) (d : D) (all : List D) : D := .obj C (fieldsP nm own d all)
theorem rng_i {c len : Nat} {fl : WE} (h : Yv fl η M (.int (len : Nat))) : ∃ m : Nat, m ≤ c + 1 ∧ Yv (eCB maxF (aCons (eC (.int 1)) (aCons (eCB minF (aCons (eC (.int (c : Nat))) (aCons fl aNil))) aNil))) η M (.int (m : Nat)) := by
  have h1 : Yv (eCB minF (aCons (eC (.int (c : Nat))) (aCons fl aNil))) η M (.int (if (len : Int) < (c : Nat) then (len : Int) else (c : Nat))) := y_cb (ya_cons y_c (ya_cons h ya_nil)) ⟨fun k hk => hk⟩
  have h2 : Yv (eCB maxF (aCons (eC (.int 1)) (aCons (eCB minF (aCons (eC (.int (c : Nat))) (aCons fl aNil))) aNil))) η M (.int (if (if (len : Int) < (c : Nat) then (len : Int) else (c : Nat)) > 1 then (if (len : Int) < (c : Nat) then (len : Int) else (c : Nat)) else 1)) := y_cb (ya_cons y_c (ya_cons h1 ya_nil)) ⟨fun k hk => hk⟩
  by_cases e1 : (len : Int) < (c : Nat)
  · rw [if_pos e1] at h2
    by_cases e2 : (len : Int) > 1
    · rw [if_pos e2] at h2; exact ⟨len, by omega, h2⟩
    · rw [if_neg e2] at h2; exact ⟨1, by omega, h2⟩
  · rw [if_neg e1] at h2
    by_cases e2 : ((c : Nat) : Int) > 1
    · rw [if_pos e2] at h2; exact ⟨c, by omega, h2⟩
    · rw [if_neg e2] at h2; exact ⟨1, by omega, h2⟩
end
end PK
set_option Elab.async false
set_option linter.all false
set_option maxRecDepth 100000
set_option maxHeartbeats 1000000
namespace L68
open PySem PySem.Spec L2 DL LamX FL PK
open PyProof.Rows hiding namesOf
def topS (i : Nat) : Stmt := PySem.Challenge.pw_handedworld_k68_blocks_made.main.body.getD i (.Pass ⟨0, 0, 0, 0⟩)
abbrev s_is_name : Stmt := topS 5
abbrev N_is_name : List Str := ["value", "letter"]
theorem sc_is_name : FnScope N_is_name ["value"] (defScope s_is_name) := ⟨rfl, rfl, rfl, by decide +kernel, rfl, by decide +kernel, by decide +kernel⟩
abbrev s_is_number : Stmt := topS 6
abbrev N_is_number : List Str := ["value"]
theorem sc_is_number : FnScope N_is_number ["value"] (defScope s_is_number) := ⟨rfl, rfl, rfl, by decide +kernel, rfl, by decide +kernel, by decide +kernel⟩
abbrev s_is_index : Stmt := topS 7
abbrev N_is_index : List Str := ["value", "many"]
theorem sc_is_index : FnScope N_is_index ["value", "many"] (defScope s_is_index) := ⟨rfl, rfl, rfl, by decide +kernel, rfl, by decide +kernel, by decide +kernel⟩
abbrev s_are_names : Stmt := topS 8
abbrev N_are_names : List Str := ["value", "name"]
theorem sc_are_names : FnScope N_are_names ["value"] (defScope s_are_names) := ⟨rfl, rfl, rfl, by decide +kernel, rfl, by decide +kernel, by decide +kernel⟩
abbrev s_are_ascending : Stmt := topS 9
abbrev N_are_ascending : List Str := ["names", "one", "other"]
theorem sc_are_ascending : FnScope N_are_ascending ["names"] (defScope s_are_ascending) := ⟨rfl, rfl, rfl, by decide +kernel, rfl, by decide +kernel, by decide +kernel⟩
abbrev s_is_deed : Stmt := topS 11
abbrev N_is_deed : List Str := ["term", "entry"]
theorem sc_is_deed : FnScope N_is_deed ["term"] (defScope s_is_deed) := ⟨rfl, rfl, rfl, by decide +kernel, rfl, by decide +kernel, by decide +kernel⟩
abbrev s_is_sequence : Stmt := topS 12
abbrev N_is_sequence : List Str := ["term"]
theorem sc_is_sequence : FnScope N_is_sequence ["term"] (defScope s_is_sequence) := ⟨rfl, rfl, rfl, by decide +kernel, rfl, by decide +kernel, by decide +kernel⟩
abbrev s_is_choice : Stmt := topS 13
abbrev N_is_choice : List Str := ["term"]
theorem sc_is_choice : FnScope N_is_choice ["term"] (defScope s_is_choice) := ⟨rfl, rfl, rfl, by decide +kernel, rfl, by decide +kernel, by decide +kernel⟩
abbrev s_is_case : Stmt := topS 14
abbrev N_is_case : List Str := ["term"]
theorem sc_is_case : FnScope N_is_case ["term"] (defScope s_is_case) := ⟨rfl, rfl, rfl, by decide +kernel, rfl, by decide +kernel, by decide +kernel⟩
abbrev s_is_named : Stmt := topS 15
abbrev N_is_named : List Str := ["term"]
theorem sc_is_named : FnScope N_is_named ["term"] (defScope s_is_named) := ⟨rfl, rfl, rfl, by decide +kernel, rfl, by decide +kernel, by decide +kernel⟩
abbrev s_is_call : Stmt := topS 16
abbrev N_is_call : List Str := ["term"]
theorem sc_is_call : FnScope N_is_call ["term"] (defScope s_is_call) := ⟨rfl, rfl, rfl, by decide +kernel, rfl, by decide +kernel, by decide +kernel⟩
abbrev s_is_scope : Stmt := topS 17
abbrev N_is_scope : List Str := ["term"]
theorem sc_is_scope : FnScope N_is_scope ["term"] (defScope s_is_scope) := ⟨rfl, rfl, rfl, by decide +kernel, rfl, by decide +kernel, by decide +kernel⟩
abbrev s_is_answer : Stmt := topS 18
abbrev N_is_answer : List Str := ["term", "pair"]
theorem sc_is_answer : FnScope N_is_answer ["term"] (defScope s_is_answer) := ⟨rfl, rfl, rfl, by decide +kernel, rfl, by decide +kernel, by decide +kernel⟩
abbrev s_has_form : Stmt := topS 20
abbrev N_has_form : List Str := ["value", "fits"]
theorem sc_has_form : FnScope N_has_form ["value"] (defScope s_has_form) := ⟨rfl, rfl, rfl, by decide +kernel, rfl, by decide +kernel, by decide +kernel⟩
abbrev s_terms_in : Stmt := topS 21
abbrev N_terms_in : List Str := ["term", "kind", "pair"]
theorem sc_terms_in : FnScope N_terms_in ["term"] (defScope s_terms_in) := ⟨rfl, rfl, rfl, by decide +kernel, rfl, by decide +kernel, by decide +kernel⟩
abbrev s_terms_of : Stmt := topS 22
abbrev N_terms_of : List Str := ["term", "found", "part"]
theorem sc_terms_of : FnScope N_terms_of ["term"] (defScope s_terms_of) := ⟨rfl, rfl, rfl, by decide +kernel, rfl, by decide +kernel, by decide +kernel⟩
abbrev s_are_parameters : Stmt := topS 32
abbrev N_are_parameters : List Str := ["value"]
theorem sc_are_parameters : FnScope N_are_parameters ["value"] (defScope s_are_parameters) := ⟨rfl, rfl, rfl, by decide +kernel, rfl, by decide +kernel, by decide +kernel⟩
abbrev s_is_small : Stmt := topS 33
abbrev N_is_small : List Str := ["value", "level", "many", "_", "term", "part"]
theorem sc_is_small : FnScope N_is_small ["value"] (defScope s_is_small) := ⟨rfl, rfl, rfl, by decide +kernel, rfl, by decide +kernel, by decide +kernel⟩
abbrev s_exits_fit : Stmt := topS 34
abbrev N_exits_fit : List Str := ["term", "labels", "inner", "part"]
theorem sc_exits_fit : FnScope N_exits_fit ["term", "labels"] (defScope s_exits_fit) := ⟨rfl, rfl, rfl, by decide +kernel, rfl, by decide +kernel, by decide +kernel⟩
abbrev s_is_bound : Stmt := topS 35
abbrev N_is_bound : List Str := ["body", "parameters", "terms", "labels", "term"]
theorem sc_is_bound : FnScope N_is_bound ["body", "parameters"] (defScope s_is_bound) := ⟨rfl, rfl, rfl, by decide +kernel, rfl, by decide +kernel, by decide +kernel⟩
abbrev s_is_term : Stmt := topS 36
abbrev N_is_term : List Str := ["value", "parameters"]
theorem sc_is_term : FnScope N_is_term ["value", "parameters"] (defScope s_is_term) := ⟨rfl, rfl, rfl, by decide +kernel, rfl, by decide +kernel, by decide +kernel⟩
abbrev s_fits_set : Stmt := topS 38
abbrev N_fits_set : List Str := ["modes", "value"]
theorem sc_fits_set : FnScope N_fits_set ["modes", "value"] (defScope s_fits_set) := ⟨rfl, rfl, rfl, by decide +kernel, rfl, by decide +kernel, by decide +kernel⟩
abbrev s_fits_map : Stmt := topS 39
abbrev N_fits_map : List Str := ["modes", "value", "number"]
theorem sc_fits_map : FnScope N_fits_map ["modes", "value"] (defScope s_fits_map) := ⟨rfl, rfl, rfl, by decide +kernel, rfl, by decide +kernel, by decide +kernel⟩
abbrev s_lies_within : Stmt := topS 40
abbrev N_lies_within : List Str := ["number", "other"]
theorem sc_lies_within : FnScope N_lies_within ["number", "other"] (defScope s_lies_within) := ⟨rfl, rfl, rfl, by decide +kernel, rfl, by decide +kernel, by decide +kernel⟩
abbrev s_is_rising : Stmt := topS 41
abbrev N_is_rising : List Str := ["row", "small", "large"]
theorem sc_is_rising : FnScope N_is_rising ["row"] (defScope s_is_rising) := ⟨rfl, rfl, rfl, by decide +kernel, rfl, by decide +kernel, by decide +kernel⟩
abbrev s_fits_monotone : Stmt := topS 42
abbrev N_fits_monotone : List Str := ["modes", "value"]
theorem sc_fits_monotone : FnScope N_fits_monotone ["modes", "value"] (defScope s_fits_monotone) := ⟨rfl, rfl, rfl, by decide +kernel, rfl, by decide +kernel, by decide +kernel⟩
abbrev s_level_map : Stmt := topS 43
abbrev N_level_map : List Str := ["modes", "number", "_"]
theorem sc_level_map : FnScope N_level_map ["modes", "number"] (defScope s_level_map) := ⟨rfl, rfl, rfl, by decide +kernel, rfl, by decide +kernel, by decide +kernel⟩
abbrev s_rising_bits : Stmt := topS 44
abbrev N_rising_bits : List Str := ["modes", "many", "rows", "pattern", "row", "place"]
theorem sc_rising_bits : FnScope N_rising_bits ["modes"] (defScope s_rising_bits) := ⟨rfl, rfl, rfl, by decide +kernel, rfl, by decide +kernel, by decide +kernel⟩
abbrev s_with_bits : Stmt := topS 45
abbrev N_with_bits : List Str := ["one", "bits", "mode", "number", "bit"]
theorem sc_with_bits : FnScope N_with_bits ["one", "bits", "mode"] (defScope s_with_bits) := ⟨rfl, rfl, rfl, by decide +kernel, rfl, by decide +kernel, by decide +kernel⟩
abbrev s_monotone_maps : Stmt := topS 46
abbrev N_monotone_maps : List Str := ["modes", "rows", "found", "mode", "one", "bits"]
theorem sc_monotone_maps : FnScope N_monotone_maps ["modes"] (defScope s_monotone_maps) := ⟨rfl, rfl, rfl, by decide +kernel, rfl, by decide +kernel, by decide +kernel⟩
abbrev s_sets_of_mode : Stmt := topS 47
abbrev N_sets_of_mode : List Str := ["one", "mode", "wanted", "number"]
theorem sc_sets_of_mode : FnScope N_sets_of_mode ["one", "mode", "wanted"] (defScope s_sets_of_mode) := ⟨rfl, rfl, rfl, by decide +kernel, rfl, by decide +kernel, by decide +kernel⟩
abbrev s_least_of : Stmt := topS 48
abbrev N_least_of : List Str := ["numbers", "one"]
theorem sc_least_of : FnScope N_least_of ["numbers"] (defScope s_least_of) := ⟨rfl, rfl, rfl, by decide +kernel, rfl, by decide +kernel, by decide +kernel⟩
abbrev s_has_within : Stmt := topS 49
abbrev N_has_within : List Str := ["numbers", "one", "other"]
theorem sc_has_within : FnScope N_has_within ["numbers", "one"] (defScope s_has_within) := ⟨rfl, rfl, rfl, by decide +kernel, rfl, by decide +kernel, by decide +kernel⟩
abbrev s_check_modes : Stmt := topS 51
abbrev N_check_modes : List Str := ["modes", "most"]
theorem sc_check_modes : FnScope N_check_modes ["modes", "most"] (defScope s_check_modes) := ⟨rfl, rfl, rfl, by decide +kernel, rfl, by decide +kernel, by decide +kernel⟩
abbrev s_step_between : Stmt := topS 56
abbrev N_step_between : List Str := ["modes", "old", "new", "mode"]
theorem sc_step_between : FnScope N_step_between ["modes", "old", "new"] (defScope s_step_between) := ⟨rfl, rfl, rfl, by decide +kernel, rfl, by decide +kernel, by decide +kernel⟩
abbrev s_way_from : Stmt := topS 57
abbrev N_way_from : List Str := ["modes", "mode", "members", "member"]
theorem sc_way_from : FnScope N_way_from ["modes", "mode", "members"] (defScope s_way_from) := ⟨rfl, rfl, rfl, by decide +kernel, rfl, by decide +kernel, by decide +kernel⟩
abbrev s_block_of : Stmt := topS 58
abbrev N_block_of : List Str := ["modes", "wanted", "space", "pairs", "mode", "number", "_"]
theorem sc_block_of : FnScope N_block_of ["modes", "wanted"] (defScope s_block_of) := ⟨rfl, rfl, rfl, by decide +kernel, rfl, by decide +kernel, by decide +kernel⟩
abbrev s__law_wheel : Stmt := topS 60
abbrev N__law_wheel : List Str := ["_law_script", "_law_at", "_law_cell", "_law_great", "_law_mixed"]
theorem sc__law_wheel : FnScope N__law_wheel ["_law_script", "_law_at"] (defScope s__law_wheel) := ⟨rfl, rfl, rfl, by decide +kernel, rfl, by decide +kernel, by decide +kernel⟩
abbrev s__law_spin : Stmt := topS 61
abbrev N__law_spin : List Str := ["_law_wheel_here", "_law_total", "_law_found", "_law_one", "_law_two"]
theorem sc__law_spin : FnScope N__law_spin ["_law_wheel_here", "_law_total"] (defScope s__law_spin) := ⟨rfl, rfl, rfl, by decide +kernel, rfl, by decide +kernel, by decide +kernel⟩
abbrev s__law_pick : Stmt := topS 62
abbrev N__law_pick : List Str := ["_law_wheel_here", "_law_items"]
theorem sc__law_pick : FnScope N__law_pick ["_law_wheel_here", "_law_items"] (defScope s__law_pick) := ⟨rfl, rfl, rfl, by decide +kernel, rfl, by decide +kernel, by decide +kernel⟩
abbrev s__law_has : Stmt := topS 63
abbrev N__law_has : List Str := ["_law_number", "_law_mode"]
theorem sc__law_has : FnScope N__law_has ["_law_number", "_law_mode"] (defScope s__law_has) := ⟨rfl, rfl, rfl, by decide +kernel, rfl, by decide +kernel, by decide +kernel⟩
abbrev s__law_set : Stmt := topS 64
abbrev N__law_set : List Str := ["_law_members", "_law_mode"]
theorem sc__law_set : FnScope N__law_set ["_law_members"] (defScope s__law_set) := ⟨rfl, rfl, rfl, by decide +kernel, rfl, by decide +kernel, by decide +kernel⟩
abbrev s__law_whole : Stmt := topS 65
abbrev N__law_whole : List Str := ["_law_modes"]
theorem sc__law_whole : FnScope N__law_whole ["_law_modes"] (defScope s__law_whole) := ⟨rfl, rfl, rfl, by decide +kernel, rfl, by decide +kernel, by decide +kernel⟩
abbrev s__law_joined : Stmt := topS 66
abbrev N__law_joined : List Str := ["_law_modes", "_law_sets", "_law_is_every", "_law_found", "_law_mode", "_law_inside", "_law_number"]
theorem sc__law_joined : FnScope N__law_joined ["_law_modes", "_law_sets", "_law_is_every"] (defScope s__law_joined) := ⟨rfl, rfl, rfl, by decide +kernel, rfl, by decide +kernel, by decide +kernel⟩
abbrev s__law_map : Stmt := topS 67
abbrev N__law_map : List Str := ["_law_modes", "_law_term", "_law_view", "_law_books", "_law_good_here"]
theorem sc__law_map : FnScope N__law_map ["_law_modes", "_law_term", "_law_view", "_law_books"] (defScope s__law_map) := ⟨rfl, rfl, rfl, by decide +kernel, rfl, by decide +kernel, by decide +kernel⟩
abbrev s__law_good : Stmt := topS 68
abbrev N__law_good : List Str := ["_law_modes", "_law_term", "_law_view", "_law_good_here", "_law_books", "_law_kind", "_law_ways", "_law_inner_here", "_law_sets", "_law_rows_here", "_law_mode", "_law_later", "_law_number"]
theorem sc__law_good : FnScope N__law_good ["_law_modes", "_law_term", "_law_view", "_law_good_here", "_law_books"] (defScope s__law_good) := ⟨rfl, rfl, rfl, by decide +kernel, rfl, by decide +kernel, by decide +kernel⟩
abbrev s__law_rows : Stmt := topS 72
abbrev N__law_rows : List Str := ["_law_modes", "_law_sets", "_law_found", "_law_good_here", "_law_later", "_law_row", "_law_less", "_law_part", "_law_number"]
theorem sc__law_rows : FnScope N__law_rows ["_law_modes"] (defScope s__law_rows) := ⟨rfl, rfl, rfl, by decide +kernel, rfl, by decide +kernel, by decide +kernel⟩
abbrev s__law_is_over : Stmt := topS 73
abbrev N__law_is_over : List Str := ["_law_modes", "_law_number", "_law_less", "_law_part"]
theorem sc__law_is_over : FnScope N__law_is_over ["_law_modes", "_law_number", "_law_less"] (defScope s__law_is_over) := ⟨rfl, rfl, rfl, by decide +kernel, rfl, by decide +kernel, by decide +kernel⟩
abbrev s__law_inner : Stmt := topS 75
abbrev N__law_inner : List Str := ["_law_term", "_law_pair"]
theorem sc__law_inner : FnScope N__law_inner ["_law_term"] (defScope s__law_inner) := ⟨rfl, rfl, rfl, by decide +kernel, rfl, by decide +kernel, by decide +kernel⟩
abbrev s__law_deep : Stmt := topS 76
abbrev N__law_deep : List Str := ["_law_term", "_law_inner_here"]
theorem sc__law_deep : FnScope N__law_deep ["_law_term"] (defScope s__law_deep) := ⟨rfl, rfl, rfl, by decide +kernel, rfl, by decide +kernel, by decide +kernel⟩
abbrev s__law_all_of : Stmt := topS 77
abbrev N__law_all_of : List Str := ["_law_term", "_law_found", "_law_at"]
theorem sc__law_all_of : FnScope N__law_all_of ["_law_term"] (defScope s__law_all_of) := ⟨rfl, rfl, rfl, by decide +kernel, rfl, by decide +kernel, by decide +kernel⟩
abbrev s__law_won : Stmt := topS 78
abbrev N__law_won : List Str := ["_law_modes", "_law_term"]
theorem sc__law_won : FnScope N__law_won ["_law_modes", "_law_term"] (defScope s__law_won) := ⟨rfl, rfl, rfl, by decide +kernel, rfl, by decide +kernel, by decide +kernel⟩
abbrev s__law_right : Stmt := topS 79
abbrev N__law_right : List Str := ["_law_modes", "_law_wanted", "_law_term", "_law_pieces", "_law_barred", "_law_one"]
theorem sc__law_right : FnScope N__law_right ["_law_modes", "_law_wanted"] (defScope s__law_right) := ⟨rfl, rfl, rfl, by decide +kernel, rfl, by decide +kernel, by decide +kernel⟩
abbrev s_law : Stmt := topS 80
abbrev N_law : List Str := ["_law_script", "_law_at", "_law_wheel_here", "_law_turn", "_law_modes", "_law_few", "_law_one"]
theorem sc_law : FnScope N_law ["_law_script"] (defScope s_law) := ⟨rfl, rfl, rfl, by decide +kernel, rfl, by decide +kernel, by decide +kernel⟩
abbrev s_Space___init__ : Stmt := inClass (topS 52) 0
abbrev N_Space___init__ : List Str := ["self", "modes", "number"]
theorem sc_Space___init__ : FnScope N_Space___init__ ["self", "modes"] (defScope s_Space___init__) := ⟨rfl, rfl, rfl, by decide +kernel, rfl, by decide +kernel, by decide +kernel⟩
abbrev s_Space_maps : Stmt := inClass (topS 52) 3
abbrev N_Space_maps : List Str := ["self"]
theorem sc_Space_maps : FnScope N_Space_maps ["self"] (defScope s_Space_maps) := ⟨rfl, rfl, rfl, by decide +kernel, rfl, by decide +kernel, by decide +kernel⟩
abbrev s_Space_members : Stmt := inClass (topS 52) 10
abbrev N_Space_members : List Str := ["self", "number", "mode"]
theorem sc_Space_members : FnScope N_Space_members ["self", "number"] (defScope s_Space_members) := ⟨rfl, rfl, rfl, by decide +kernel, rfl, by decide +kernel, by decide +kernel⟩
abbrev s_Space_check_monotone : Stmt := inClass (topS 52) 18
abbrev N_Space_check_monotone : List Str := ["self", "one", "mode"]
theorem sc_Space_check_monotone : FnScope N_Space_check_monotone ["self", "one", "mode"] (defScope s_Space_check_monotone) := ⟨rfl, rfl, rfl, by decide +kernel, rfl, by decide +kernel, by decide +kernel⟩
abbrev s_Space_least_sets : Stmt := inClass (topS 52) 19
abbrev N_Space_least_sets : List Str := ["self", "one", "mode"]
theorem sc_Space_least_sets : FnScope N_Space_least_sets ["self", "one", "mode"] (defScope s_Space_least_sets) := ⟨rfl, rfl, rfl, by decide +kernel, rfl, by decide +kernel, by decide +kernel⟩
theorem ok_is_name {P : Program} {w : World} {K : PySem.W.Frag} {mg : Str → Option Value} {base : Heap} {C_Space : Addr} (T : Tx K mg "is_name" s_is_name) (m_isinstance : mg "isinstance" = none) (m_str : mg "str" = none) (m_len : mg "len" = none) (c_MAX_LETTERS : GlK mg "MAX_LETTERS" (.int 8)) (m_all : mg "all" = none) (c_LETTERS : GlK mg "LETTERS" (.str "abcdefghijklmnopqrstuvwxyz")) : Df P w K mg base 1 "is_name" ["value"] p_is_name := by
  refine df_ok T sc_is_name prom_len (fun _ _ _ _ _ _ us hl => match us, hl with | [_], _ => rfl) (fun cdv A ou s H fa hr gd => ⟨_, (pss_cons (ps_if (PW.pt (pw_or (pt_not (pt_truK K (pe_callB (call_isiKK K) (by rfl) m_isinstance (by decide +kernel) (pa_cons (pv 0) (pa_cons (pe_bltn (v := .ty "str") (by rfl) m_str (by decide +kernel) rfl) pa_nil))) (fun _ => rfl))) (pw_or1 (pt_not (pt_chain op_le op_le pe_int (pe_callB (call_lenK K) (by rfl) m_len (by decide +kernel) (pa_cons (pv 0) pa_nil)) (pe_globK c_MAX_LETTERS (by rfl))))))) (pss_one (ps_ret pe_bl)) pss_nil) (pss_one (ps_ret (pe_callB (call_allK K) (by rfl) m_all (by decide +kernel) (pa_cons (pe_lc (own := [("letter", 1)]) rfl sc_is_name.nd (pi_str (pv 0)) (blkOk_by (N := N_is_name) (sc := defScope s_is_name) (by decide +kernel)) (fun _ _ _ _ _ => (pg_name (i := 1) sc_is_name.nd rfl (.inl rfl))) (fun _ _ _ _ _ => pts_nil) (fun _ _ _ _ _ => (pe_cmpR op_in_sign (pv 1) (pe_globK c_LETTERS (by rfl)) (by rfl)))) pa_nil))))), ?_⟩)
  exact den_body (N := 2) (fs := B_is_name) (den_seq (den_ifs (den_or (den_not (den_tru (den_cb fc_isi (den_cons den_var (den_cons den_raw den_nil))))) (den_not (den_test (den_chain fo_ib fo_ib den_int (den_cb fc_len (den_cons den_var den_nil)) den_int)))) (den_ret den_bl) den_next) (den_ret (den_cb fc_all (den_cons (den_lc (by simp) (den_istr den_var) den_gname den_yes (den_op fo_inSign den_var den_str)) den_nil))))
theorem ok_is_number {P : Program} {w : World} {K : PySem.W.Frag} {mg : Str → Option Value} {base : Heap} {C_Space : Addr} (T : Tx K mg "is_number" s_is_number) (m_isinstance : mg "isinstance" = none) (m_int : mg "int" = none) (m_bool : mg "bool" = none) : Df P w K mg base 1 "is_number" ["value"] p_is_number := by
  refine df_ok T sc_is_number prom_len (fun _ _ _ _ _ _ us hl => match us, hl with | [_], _ => rfl) (fun cdv A ou s H fa hr gd => ⟨_, (pss_one (ps_ret (pe_and (pe_callB (call_isiKK K) (by rfl) m_isinstance (by decide +kernel) (pa_cons (pv 0) (pa_cons (pe_bltn (v := .ty "int") (by rfl) m_int (by decide +kernel) rfl) pa_nil))) (pe_one (pe_not (pe_callB (call_isiKK K) (by rfl) m_isinstance (by decide +kernel) (pa_cons (pv 0) (pa_cons (pe_bltn (v := .ty "bool") (by rfl) m_bool (by decide +kernel) rfl) pa_nil)))))))), ?_⟩)
  exact den_body (N := 1) (fs := B_is_number) (den_ret (den_andV (den_cb fc_isi (den_cons den_var (den_cons den_raw den_nil))) (den_notV (den_cb fc_isi (den_cons den_var (den_cons den_raw den_nil))))))
theorem ok_is_index {P : Program} {w : World} {K : PySem.W.Frag} {mg : Str → Option Value} {base : Heap} {C_Space : Addr} (T : Tx K mg "is_index" s_is_index) (d_is_number : Df P w K mg base 1 "is_number" ["value"] p_is_number) : Df P w K mg base 2 "is_index" ["value", "many"] p_is_index := by
  refine df_ok T sc_is_index prom_len (fun _ _ _ _ _ _ us hl => match us, hl with | [_, _], _ => rfl) (fun cdv A ou s H fa hr gd => ⟨_, (pss_one (ps_ret (pe_and (pe_callD d_is_number (hr.mono (by decide)) gd (by rfl) (pa_cons (pv 0) pa_nil)) (pe_one (pe_chain op_le op_lt pe_int (pv 0) (pv 1)))))), ?_⟩)
  exact den_body (N := 2) (fs := B_is_index) (den_ret (den_andV (den_call (den_cons den_var den_nil)) (den_chain fo_ib fo_ib den_int den_var den_var)))
theorem ok_are_ascending {P : Program} {w : World} {K : PySem.W.Frag} {mg : Str → Option Value} {base : Heap} {C_Space : Addr} (T : Tx K mg "are_ascending" s_are_ascending) (m_all : mg "all" = none) (m_zip : mg "zip" = none) : Df P w K mg base 1 "are_ascending" ["names"] p_are_ascending := by
  refine df_ok T sc_are_ascending prom_len (fun _ _ _ _ _ _ us hl => match us, hl with | [_], _ => rfl) (fun cdv A ou s H fa hr gd => ⟨_, (pss_one (ps_ret (pe_callB (call_allK K) (by rfl) m_all (by decide +kernel) (pa_cons (pe_lc (own := [("one", 1), ("other", 2)]) rfl sc_are_ascending.nd (pi_zipK K (by rfl) m_zip (pa_cons (pv 0) (pa_cons (pe_slice (sl_anyK K) (pv 0) (po_some pe_int) po_none) pa_nil))) (blkOk_by (N := N_are_ascending) (sc := defScope s_are_ascending) (by decide +kernel)) (fun _ _ _ _ _ => (pg_tupK K (n := 2) rfl (pgs_cons (pg_name (i := 1) sc_are_ascending.nd rfl (.inl rfl)) (pgs_cons (pg_name (i := 2) sc_are_ascending.nd rfl (.inl rfl)) pgs_nil)))) (fun _ _ _ _ _ => pts_nil) (fun _ _ _ _ _ => (pe_cmpR op_ltX (pv 1) (pv 2) (nomark _)))) pa_nil)))), ?_⟩)
  exact den_body (N := 3) (fs := B_are_ascending) (den_ret (den_cb fc_all (den_cons (den_lc (by simp) (den_izip (den_cons den_var (den_cons (den_sl den_var (den_opt den_int) den_ono) den_nil))) (den_gtup (den_gscons den_gname (den_gscons den_gname den_gsnil))) den_yes (den_op fo_ord den_var den_var)) den_nil)))
theorem ok_is_deed {P : Program} {w : World} {K : PySem.W.Frag} {mg : Str → Option Value} {base : Heap} {C_Space : Addr} (T : Tx K mg "is_deed" s_is_deed) (m_len : mg "len" = none) (d_is_name : Df P w K mg base 1 "is_name" ["value"] p_is_name) (m_isinstance : mg "isinstance" = none) (m_tuple : mg "tuple" = none) (c_MAX_MODES : GlK mg "MAX_MODES" (.int 3)) (m_all : mg "all" = none) (d_is_index : Df P w K mg base 2 "is_index" ["value", "many"] p_is_index) : Df P w K mg base 3 "is_deed" ["term"] p_is_deed := by
  refine df_ok T sc_is_deed prom_len (fun _ _ _ _ _ _ us hl => match us, hl with | [_], _ => rfl) (fun cdv A ou s H fa hr gd => ⟨_, (pss_cons (ps_if (PW.pt (pw_or (pt_cmpR (op_neX K (units65 hr)) (pe_callB (call_lenK K) (by rfl) m_len (by decide +kernel) (pa_cons (pv 0) pa_nil)) pe_int (nomark _)) (pw_or (pt_not (pt_truK K (pe_callD d_is_name (hr.mono (by decide)) gd (by rfl) (pa_cons (pe_ix (ix_K K) (pv 0) pe_int (fun _ _ => rfl)) pa_nil)) (fun _ => rfl))) (pw_or1 (pt_not (pt_truK K (pe_callB (call_isiKK K) (by rfl) m_isinstance (by decide +kernel) (pa_cons (pe_ix (ix_K K) (pv 0) pe_int (fun _ _ => rfl)) (pa_cons (pe_bltn (v := .ty "tuple") (by rfl) m_tuple (by decide +kernel) rfl) pa_nil))) (fun _ => rfl))))))) (pss_one (ps_ret pe_bl)) pss_nil) (pss_cons (ps_if (pt_not (pt_chain op_le op_le pe_int (pe_callB (call_lenK K) (by rfl) m_len (by decide +kernel) (pa_cons (pe_ix (ix_K K) (pv 0) pe_int (fun _ _ => rfl)) pa_nil)) (pe_globK c_MAX_MODES (by rfl)))) (pss_one (ps_ret pe_bl)) pss_nil) (pss_one (ps_ret (pe_callB (call_allK K) (by rfl) m_all (by decide +kernel) (pa_cons (pe_lc (own := [("entry", 1)]) rfl sc_is_deed.nd (pi_tupK K (pe_ix (ix_K K) (pv 0) pe_int (fun _ _ => rfl))) (blkOk_by (N := N_is_deed) (sc := defScope s_is_deed) (by decide +kernel)) (fun _ _ _ _ _ => (pg_name (i := 1) sc_is_deed.nd rfl (.inl rfl))) (fun _ _ _ _ _ => pts_nil) (fun _ _ _ _ _ => (pe_or (pe_cmpR op_isN (pv 1) pe_non (nomark _)) (pe_one (pe_callD d_is_index (hr.mono (by decide)) gd (by rfl) (pa_cons (pv 1) (pa_cons (pe_globK c_MAX_MODES (by rfl)) pa_nil))))))) pa_nil)))))), ?_⟩)
  exact den_body (N := 2) (fs := B_is_deed) (den_seq (den_ifs (den_or (den_test (den_op fo_eq (den_cb fc_len (den_cons den_var den_nil)) den_int)) (den_or (den_not (den_tru (den_call (den_cons (den_op fo_ix den_var den_int) den_nil)))) (den_not (den_tru (den_cb fc_isi (den_cons (den_op fo_ix den_var den_int) (den_cons den_raw den_nil))))))) (den_ret den_bl) den_next) (den_seq (den_ifs (den_not (den_test (den_chain fo_ib fo_ib den_int (den_cb fc_len (den_cons (den_op fo_ix den_var den_int) den_nil)) den_int))) (den_ret den_bl) den_next) (den_ret (den_cb fc_all (den_cons (den_lc (by simp) (den_itup (den_op fo_ix den_var den_int)) den_gname den_yes (den_orV (den_op fo_isN den_var den_non) (den_call (den_cons den_var (den_cons den_int den_nil))))) den_nil)))))
theorem ok_is_sequence {P : Program} {w : World} {K : PySem.W.Frag} {mg : Str → Option Value} {base : Heap} {C_Space : Addr} (T : Tx K mg "is_sequence" s_is_sequence)  : Df P w K mg base 1 "is_sequence" ["term"] p_is_sequence := by
  refine df_ok T sc_is_sequence prom_len (fun _ _ _ _ _ _ us hl => match us, hl with | [_], _ => rfl) (fun cdv A ou s H fa hr gd => ⟨_, (pss_one (ps_ret pe_bl)), ?_⟩)
  exact den_body (N := 1) (fs := B_is_sequence) (den_ret den_bl)
theorem ok_is_choice {P : Program} {w : World} {K : PySem.W.Frag} {mg : Str → Option Value} {base : Heap} {C_Space : Addr} (T : Tx K mg "is_choice" s_is_choice) (m_len : mg "len" = none) : Df P w K mg base 1 "is_choice" ["term"] p_is_choice := by
  refine df_ok T sc_is_choice prom_len (fun _ _ _ _ _ _ us hl => match us, hl with | [_], _ => rfl) (fun cdv A ou s H fa hr gd => ⟨_, (pss_one (ps_ret (pe_cmpR op_ge (pe_callB (call_lenK K) (by rfl) m_len (by decide +kernel) (pa_cons (pv 0) pa_nil)) pe_int (nomark _)))), ?_⟩)
  exact den_body (N := 1) (fs := B_is_choice) (den_ret (den_op fo_ib (den_cb fc_len (den_cons den_var den_nil)) den_int))
theorem ok_is_case {P : Program} {w : World} {K : PySem.W.Frag} {mg : Str → Option Value} {base : Heap} {C_Space : Addr} (T : Tx K mg "is_case" s_is_case) (m_len : mg "len" = none) (c_MAX_MODES : GlK mg "MAX_MODES" (.int 3)) : Df P w K mg base 1 "is_case" ["term"] p_is_case := by
  refine df_ok T sc_is_case prom_len (fun _ _ _ _ _ _ us hl => match us, hl with | [_], _ => rfl) (fun cdv A ou s H fa hr gd => ⟨_, (pss_one (ps_ret (pe_chain op_le op_le pe_int (pe_op op_sub (pe_callB (call_lenK K) (by rfl) m_len (by decide +kernel) (pa_cons (pv 0) pa_nil)) pe_int) (pe_globK c_MAX_MODES (by rfl))))), ?_⟩)
  exact den_body (N := 1) (fs := B_is_case) (den_ret (den_chain fo_ib fo_ib den_int (den_op fo_ii (den_cb fc_len (den_cons den_var den_nil)) den_int) den_int))
theorem ok_is_named {P : Program} {w : World} {K : PySem.W.Frag} {mg : Str → Option Value} {base : Heap} {C_Space : Addr} (T : Tx K mg "is_named" s_is_named) (m_len : mg "len" = none) (d_is_name : Df P w K mg base 1 "is_name" ["value"] p_is_name) : Df P w K mg base 2 "is_named" ["term"] p_is_named := by
  refine df_ok T sc_is_named prom_len (fun _ _ _ _ _ _ us hl => match us, hl with | [_], _ => rfl) (fun cdv A ou s H fa hr gd => ⟨_, (pss_one (ps_ret (pe_and (pe_cmpR (op_eqX K (units65 hr)) (pe_callB (call_lenK K) (by rfl) m_len (by decide +kernel) (pa_cons (pv 0) pa_nil)) pe_int (nomark _)) (pe_one (pe_callD d_is_name (hr.mono (by decide)) gd (by rfl) (pa_cons (pe_ix (ix_K K) (pv 0) pe_int (fun _ _ => rfl)) pa_nil)))))), ?_⟩)
  exact den_body (N := 1) (fs := B_is_named) (den_ret (den_andV (den_op fo_eq (den_cb fc_len (den_cons den_var den_nil)) den_int) (den_call (den_cons (den_op fo_ix den_var den_int) den_nil))))
theorem ok_is_call {P : Program} {w : World} {K : PySem.W.Frag} {mg : Str → Option Value} {base : Heap} {C_Space : Addr} (T : Tx K mg "is_call" s_is_call) (m_len : mg "len" = none) (d_is_name : Df P w K mg base 1 "is_name" ["value"] p_is_name) : Df P w K mg base 2 "is_call" ["term"] p_is_call := by
  refine df_ok T sc_is_call prom_len (fun _ _ _ _ _ _ us hl => match us, hl with | [_], _ => rfl) (fun cdv A ou s H fa hr gd => ⟨_, (pss_one (ps_ret (pe_and (pe_cmpR op_ge (pe_callB (call_lenK K) (by rfl) m_len (by decide +kernel) (pa_cons (pv 0) pa_nil)) pe_int (nomark _)) (pe_one (pe_callD d_is_name (hr.mono (by decide)) gd (by rfl) (pa_cons (pe_ix (ix_K K) (pv 0) pe_int (fun _ _ => rfl)) pa_nil)))))), ?_⟩)
  exact den_body (N := 1) (fs := B_is_call) (den_ret (den_andV (den_op fo_ib (den_cb fc_len (den_cons den_var den_nil)) den_int) (den_call (den_cons (den_op fo_ix den_var den_int) den_nil))))
theorem ok_is_scope {P : Program} {w : World} {K : PySem.W.Frag} {mg : Str → Option Value} {base : Heap} {C_Space : Addr} (T : Tx K mg "is_scope" s_is_scope) (m_len : mg "len" = none) (d_is_name : Df P w K mg base 1 "is_name" ["value"] p_is_name) : Df P w K mg base 2 "is_scope" ["term"] p_is_scope := by
  refine df_ok T sc_is_scope prom_len (fun _ _ _ _ _ _ us hl => match us, hl with | [_], _ => rfl) (fun cdv A ou s H fa hr gd => ⟨_, (pss_one (ps_ret (pe_and (pe_cmpR (op_eqX K (units65 hr)) (pe_callB (call_lenK K) (by rfl) m_len (by decide +kernel) (pa_cons (pv 0) pa_nil)) pe_int (nomark _)) (pe_one (pe_callD d_is_name (hr.mono (by decide)) gd (by rfl) (pa_cons (pe_ix (ix_K K) (pv 0) pe_int (fun _ _ => rfl)) pa_nil)))))), ?_⟩)
  exact den_body (N := 1) (fs := B_is_scope) (den_ret (den_andV (den_op fo_eq (den_cb fc_len (den_cons den_var den_nil)) den_int) (den_call (den_cons (den_op fo_ix den_var den_int) den_nil))))
theorem ok_is_answer {P : Program} {w : World} {K : PySem.W.Frag} {mg : Str → Option Value} {base : Heap} {C_Space : Addr} (T : Tx K mg "is_answer" s_is_answer) (m_len : mg "len" = none) (m_isinstance : mg "isinstance" = none) (m_tuple : mg "tuple" = none) (d_is_name : Df P w K mg base 1 "is_name" ["value"] p_is_name) (d_are_ascending : Df P w K mg base 1 "are_ascending" ["names"] p_are_ascending) : Df P w K mg base 2 "is_answer" ["term"] p_is_answer := by
  refine df_ok T sc_is_answer prom_len (fun _ _ _ _ _ _ us hl => match us, hl with | [_], _ => rfl) (fun cdv A ou s H fa hr gd => ⟨_, (pss_cons (ps_if (PW.pt (pw_or (pt_cmpR (op_neX K (units65 hr)) (pe_callB (call_lenK K) (by rfl) m_len (by decide +kernel) (pa_cons (pv 0) pa_nil)) pe_int (nomark _)) (pw_or (pt_not (pt_truK K (pe_callB (call_isiKK K) (by rfl) m_isinstance (by decide +kernel) (pa_cons (pe_ix (ix_K K) (pv 0) pe_int (fun _ _ => rfl)) (pa_cons (pe_bltn (v := .ty "tuple") (by rfl) m_tuple (by decide +kernel) rfl) pa_nil))) (fun _ => rfl))) (pw_or1 (pt_cmpR (op_eqX K (units65 hr)) (pe_callB (call_lenK K) (by rfl) m_len (by decide +kernel) (pa_cons (pe_ix (ix_K K) (pv 0) pe_int (fun _ _ => rfl)) pa_nil)) pe_int (nomark _)))))) (pss_one (ps_ret pe_bl)) pss_nil) (pss_cons (ps_for PassesOwn.never rfl (pi_tupK K (pe_ix (ix_K K) (pv 0) pe_int (fun _ _ => rfl))) (pg_name (i := 1) sc_is_answer.nd rfl (.inl rfl)) (pss_one (ps_if (PW.pt (pw_or (pt_not (pt_truK K (pe_callB (call_isiKK K) (by rfl) m_isinstance (by decide +kernel) (pa_cons (pv 1) (pa_cons (pe_bltn (v := .ty "tuple") (by rfl) m_tuple (by decide +kernel) rfl) pa_nil))) (fun _ => rfl))) (pw_or (pt_cmpR (op_neX K (units65 hr)) (pe_callB (call_lenK K) (by rfl) m_len (by decide +kernel) (pa_cons (pv 1) pa_nil)) pe_int (nomark _)) (pw_or1 (pt_not (pt_truK K (pe_callD d_is_name (hr.mono (by decide)) gd (by rfl) (pa_cons (pe_ix (ix_K K) (pv 1) pe_int (fun _ _ => rfl)) pa_nil)) (fun _ => rfl))))))) (pss_one (ps_ret pe_bl)) pss_nil))) (pss_one (ps_ret (pe_callD d_are_ascending (hr.mono (by decide)) gd (by rfl) (pa_cons (pe_lc (own := [("pair", 1)]) rfl sc_is_answer.nd (pi_tupK K (pe_ix (ix_K K) (pv 0) pe_int (fun _ _ => rfl))) (blkOk_by (N := N_is_answer) (sc := defScope s_is_answer) (by decide +kernel)) (fun _ _ _ _ _ => (pg_name (i := 1) sc_is_answer.nd rfl (.inl rfl))) (fun _ _ _ _ _ => pts_nil) (fun _ _ _ _ _ => (pe_ix (ix_K K) (pv 1) pe_int (fun _ _ => rfl)))) pa_nil)))))), ?_⟩)
  exact den_body (N := 2) (fs := B_is_answer) (den_seq (den_ifs (den_or (den_test (den_op fo_eq (den_cb fc_len (den_cons den_var den_nil)) den_int)) (den_or (den_not (den_tru (den_cb fc_isi (den_cons (den_op fo_ix den_var den_int) (den_cons den_raw den_nil))))) (den_test (den_op fo_eq (den_cb fc_len (den_cons (den_op fo_ix den_var den_int) den_nil)) den_int)))) (den_ret den_bl) den_next) (den_seq (den_for (den_itup (den_op fo_ix den_var den_int)) den_gname (den_ifs (den_or (den_not (den_tru (den_cb fc_isi (den_cons den_var (den_cons den_raw den_nil))))) (den_or (den_test (den_op fo_eq (den_cb fc_len (den_cons den_var den_nil)) den_int)) (den_not (den_tru (den_call (den_cons (den_op fo_ix den_var den_int) den_nil)))))) (den_ret den_bl) den_next)) (den_ret (den_call (den_cons (den_lc (by simp) (den_itup (den_op fo_ix den_var den_int)) den_gname den_yes (den_op fo_ix den_var den_int)) den_nil)))))
theorem ok_terms_in {P : Program} {w : World} {K : PySem.W.Frag} {mg : Str → Option Value} {base : Heap} {C_Space : Addr} (T : Tx K mg "terms_in" s_terms_in) (m_tuple : mg "tuple" = none) : Df P w K mg base 1 "terms_in" ["term"] p_terms_in := by
  refine df_ok T sc_terms_in prom_len (fun _ _ _ _ _ _ us hl => match us, hl with | [_], _ => rfl) (fun cdv A ou s H fa hr gd => ⟨_, (pss_cons (ps_set (i := 1) sc_terms_in.nd rfl (.inl rfl) (pe_ix (ix_K K) (pv 0) pe_int (fun _ _ => rfl))) (pss_cons (ps_if (pt_cmpR (op_inX K (units65 hr)) (pv 1) (pe_tup (pa_cons pe_str (pa_cons pe_str (pa_cons pe_str (pa_cons pe_str pa_nil))))) (by rfl)) (pss_one (ps_ret (pe_slice (sl_anyK K) (pv 0) (po_some pe_int) po_none))) pss_nil) (pss_cons (ps_if (pt_cmpR (op_eqX K (units65 hr)) (pv 1) pe_str (nomark _)) (pss_one (ps_ret (pe_slice (sl_anyK K) (pv 0) (po_some pe_int) po_none))) pss_nil) (pss_cons (ps_if (pt_cmpR (op_eqX K (units65 hr)) (pv 1) pe_str (nomark _)) (pss_one (ps_ret (pe_slice (sl_anyK K) (pv 0) (po_some pe_int) po_none))) pss_nil) (pss_cons (ps_if (pt_cmpR (op_eqX K (units65 hr)) (pv 1) pe_str (nomark _)) (pss_one (ps_ret (pe_op (op_addX K) (pe_callTy (call_tupleK K) (by rfl) m_tuple (by decide +kernel) (pa_cons (pe_lc (own := [("pair", 2)]) rfl sc_terms_in.nd (pi_tupK K (pe_ix (ix_K K) (pv 0) pe_int (fun _ _ => rfl))) (blkOk_by (N := N_terms_in) (sc := defScope s_terms_in) (by decide +kernel)) (fun _ _ _ _ _ => (pg_name (i := 2) sc_terms_in.nd rfl (.inl rfl))) (fun _ _ _ _ _ => pts_nil) (fun _ _ _ _ _ => (pe_ix (ix_K K) (pv 2) pe_int (fun _ _ => rfl)))) pa_nil)) (pe_slice (sl_anyK K) (pv 0) (po_some pe_int) po_none)))) pss_nil) (pss_one (ps_ret (pe_tup pa_nil)))))))), ?_⟩)
  exact den_body (N := 3) (fs := B_terms_in) (den_seq (den_set (den_op fo_ix den_var den_int)) (den_seq (den_ifs (den_test (den_op fo_in den_var (den_tup (den_cons den_str (den_cons den_str (den_cons den_str (den_cons den_str den_nil))))))) (den_ret (den_sl den_var (den_opt den_int) den_ono)) den_next) (den_seq (den_ifs (den_test (den_op fo_eq den_var den_str)) (den_ret (den_sl den_var (den_opt den_int) den_ono)) den_next) (den_seq (den_ifs (den_test (den_op fo_eq den_var den_str)) (den_ret (den_sl den_var (den_opt den_int) den_ono)) den_next) (den_seq (den_ifs (den_test (den_op fo_eq den_var den_str)) (den_ret (den_op fo_add (den_cb fc_tuple (den_cons (den_lc (by simp) (den_itup (den_op fo_ix den_var den_int)) den_gname den_yes (den_op fo_ix den_var den_int)) den_nil)) (den_sl den_var (den_opt den_int) den_ono))) den_next) (den_ret (den_tup den_nil)))))))
theorem ok_has_form {P : Program} {w : World} {K : PySem.W.Frag} {mg : Str → Option Value} {base : Heap} {C_Space : Addr} {TB_FORMS : Addr} (T : Tx K mg "has_form" s_has_form) (m_isinstance : mg "isinstance" = none) (m_tuple : mg "tuple" = none) (m_len : mg "len" = none) (m_str : mg "str" = none) (tb_FORMS : Tab P w K mg base 3 1 "FORMS" TB_FORMS look_FORMS) : Df P w K mg base 4 "has_form" ["value"] p_has_form := by
  refine df_ok T sc_has_form prom_len (fun _ _ _ _ _ _ us hl => match us, hl with | [_], _ => rfl) (fun cdv A ou s H fa hr gd => ⟨_, (pss_cons (ps_if (PW.pt (pw_or (pt_not (pt_truK K (pe_callB (call_isiKK K) (by rfl) m_isinstance (by decide +kernel) (pa_cons (pv 0) (pa_cons (pe_bltn (v := .ty "tuple") (by rfl) m_tuple (by decide +kernel) rfl) pa_nil))) (fun _ => rfl))) (pw_or1 (pt_cmpR (op_eqX K (units65 hr)) (pe_callB (call_lenK K) (by rfl) m_len (by decide +kernel) (pa_cons (pv 0) pa_nil)) pe_int (nomark _))))) (pss_one (ps_ret pe_bl)) pss_nil) (pss_cons (ps_if (PW.pt (pw_or (pt_not (pt_truK K (pe_callB (call_isiKK K) (by rfl) m_isinstance (by decide +kernel) (pa_cons (pe_ix (ix_K K) (pv 0) pe_int (fun _ _ => rfl)) (pa_cons (pe_bltn (v := .ty "str") (by rfl) m_str (by decide +kernel) rfl) pa_nil))) (fun _ => rfl))) (pw_or1 (pt_cmpR (op_tabNin tb_FORMS) (pe_ix (ix_K K) (pv 0) pe_int (fun _ _ => rfl)) (pe_tabG tb_FORMS (by rfl)) (by rfl))))) (pss_one (ps_ret pe_bl)) pss_nil) (pss_cons (ps_set (i := 1) sc_has_form.nd rfl (.inl rfl) (pe_ix (ix_tab K w) (pe_tabG tb_FORMS (by rfl)) (pe_ix (ix_K K) (pv 0) pe_int (fun _ _ => rfl)) (fun _ _ => rfl))) (pss_one (ps_ret (pe_callV (P := P) (w := w) (K := K) (mg := mg) (base := base) (k := 3) (i := 1) (hr.mono (by decide)) gd rfl (.inl rfl) (pa_cons (pv 0) pa_nil))))))), ?_⟩)
  exact den_body (N := 2) (fs := B_has_form) (den_seq (den_ifs (den_or (den_not (den_tru (den_cb fc_isi (den_cons den_var (den_cons den_raw den_nil))))) (den_test (den_op fo_eq (den_cb fc_len (den_cons den_var den_nil)) den_int))) (den_ret den_bl) den_next) (den_seq (den_ifs (den_or (den_not (den_tru (den_cb fc_isi (den_cons (den_op fo_ix den_var den_int) (den_cons den_raw den_nil))))) (den_test (den_tabIn tb_FORMS (den_op fo_ix den_var den_int)))) (den_ret den_bl) den_next) (den_tabRet tb_FORMS (den_op fo_ix den_var den_int) (den_cons den_var den_nil))))
theorem okn_terms_of {P : Program} {w : World} {K : PySem.W.Frag} {mg : Str → Option Value} {base : Heap} {C_Space : Addr} {TB_FORMS : Addr} (T : Tx K mg "terms_of" s_terms_of) (d_terms_in : Df P w K mg base 1 "terms_in" ["term"] p_terms_in) : ∀ n : Nat, Df P w K mg base (2 + n) "terms_of" ["term"] (prom 1 (F_terms_of n))
  | 0 => df_ok (k := 1) T sc_terms_of prom_len (fun _ _ _ _ _ _ us hl => match us, hl with | [_], _ => rfl) fun cdv A ou s H fa hr gd => ⟨_, pss_none, fun ds M R ⟨_, _, _, _, _, z, _⟩ => z.elim⟩
  | n + 1 => by
    have d_terms_of := okn_terms_of (w := w) (P := P) (base := base) (C_Space := C_Space) (TB_FORMS := TB_FORMS) T d_terms_in n
    refine df_ok (k := 2 + n) T sc_terms_of prom_len (fun _ _ _ _ _ _ us hl => match us, hl with | [_], _ => rfl) (fun cdv A ou s H fa hr gd => ⟨_, (pss_cons (ps_set (i := 1) sc_terms_of.nd rfl (.inl rfl) (pe_lst (pa_cons (pv 0) pa_nil))) (pss_cons (ps_for PassesOwn.never rfl (pi_tupK K (pe_callD d_terms_in (hr.mono (by omega)) gd (by rfl) (pa_cons (pv 0) pa_nil))) (pg_name (i := 2) sc_terms_of.nd rfl (.inl rfl)) (pss_one (ps_set (i := 1) sc_terms_of.nd rfl (.inl rfl) (pe_op (op_addX K) (pv 1) (pe_callD d_terms_of (hr.mono (by omega)) gd (by rfl) (pa_cons (pv 2) pa_nil)))))) (pss_one (ps_ret (pv 1))))), ?_⟩)
    exact den_body (N := 3) (fs := B_terms_of (F_terms_of n)) (den_seq (den_set (den_lst (den_cons den_var den_nil))) (den_seq (den_for (den_itup (den_call (den_cons den_var den_nil))) den_gname (den_set (den_op fo_add den_var (den_call (den_cons den_var den_nil))))) (den_ret den_var)))
theorem ok_terms_of {P : Program} {w : World} {K : PySem.W.Frag} {mg : Str → Option Value} {base : Heap} {C_Space : Addr} {TB_FORMS : Addr} (T : Tx K mg "terms_of" s_terms_of) (d_terms_in : Df P w K mg base 1 "terms_in" ["term"] p_terms_in) : Df P w K mg base 12 "terms_of" ["term"] p_terms_of := okn_terms_of (C_Space := C_Space) (TB_FORMS := TB_FORMS) T d_terms_in 10
theorem okn_exits_fit {P : Program} {w : World} {K : PySem.W.Frag} {mg : Str → Option Value} {base : Heap} {C_Space : Addr} {TB_FORMS : Addr} (T : Tx K mg "exits_fit" s_exits_fit) (m_all : mg "all" = none) (d_terms_in : Df P w K mg base 1 "terms_in" ["term"] p_terms_in) : ∀ n : Nat, Df P w K mg base (2 + n) "exits_fit" ["term", "labels"] (prom 2 (F_exits_fit n))
  | 0 => df_ok (k := 1) T sc_exits_fit prom_len (fun _ _ _ _ _ _ us hl => match us, hl with | [_, _], _ => rfl) fun cdv A ou s H fa hr gd => ⟨_, pss_none, fun ds M R ⟨_, _, _, _, _, z, _⟩ => z.elim⟩
  | n + 1 => by
    have d_exits_fit := okn_exits_fit (w := w) (P := P) (base := base) (C_Space := C_Space) (TB_FORMS := TB_FORMS) T m_all d_terms_in n
    refine df_ok (k := 2 + n) T sc_exits_fit prom_len (fun _ _ _ _ _ _ us hl => match us, hl with | [_, _], _ => rfl) (fun cdv A ou s H fa hr gd => ⟨_, (pss_cons (ps_if (pt_cmpR (op_eqX K (units65 hr)) (pe_ix (ix_K K) (pv 0) pe_int (fun _ _ => rfl)) pe_str (nomark _)) (pss_one (ps_ret (pe_cmpR (op_inX K (units65 hr)) (pe_ix (ix_K K) (pv 0) pe_int (fun _ _ => rfl)) (pv 1) (by rfl)))) pss_nil) (pss_cons (ps_set (i := 2) sc_exits_fit.nd rfl (.inr rfl) (pv 1)) (pss_cons (ps_if (pt_cmpR (op_eqX K (units65 hr)) (pe_ix (ix_K K) (pv 0) pe_int (fun _ _ => rfl)) pe_str (nomark _)) (pss_one (ps_set (i := 2) sc_exits_fit.nd rfl (.inr rfl) (pe_op (op_addX K) (pv 1) (pe_tup (pa_cons (pe_ix (ix_K K) (pv 0) pe_int (fun _ _ => rfl)) pa_nil))))) pss_nil) (pss_one (ps_ret (pe_callB (call_allK K) (by rfl) m_all (by decide +kernel) (pa_cons (pe_lc (own := [("part", 3)]) rfl sc_exits_fit.nd (pi_tupK K (pe_callD d_terms_in (hr.mono (by omega)) gd (by rfl) (pa_cons (pv 0) pa_nil))) (blkOk_by (N := N_exits_fit) (sc := defScope s_exits_fit) (by decide +kernel)) (fun _ _ _ _ _ => (pg_name (i := 3) sc_exits_fit.nd rfl (.inl rfl))) (fun _ _ _ _ _ => pts_nil) (fun _ _ _ _ _ => (pe_callD d_exits_fit (hr.mono (by omega)) gd (by rfl) (pa_cons (pv 3) (pa_cons (pv 2) pa_nil))))) pa_nil))))))), ?_⟩)
    exact den_body (N := 4) (fs := B_exits_fit (F_exits_fit n)) (den_seq (den_ifs (den_test (den_op fo_eq (den_op fo_ix den_var den_int) den_str)) (den_ret (den_op fo_in (den_op fo_ix den_var den_int) den_var)) den_next) (den_seq (den_set den_var) (den_seq (den_ifs (den_test (den_op fo_eq (den_op fo_ix den_var den_int) den_str)) (den_set (den_op fo_add den_var (den_tup (den_cons (den_op fo_ix den_var den_int) den_nil)))) den_next) (den_ret (den_cb fc_all (den_cons (den_lc (by simp) (den_itup (den_call (den_cons den_var den_nil))) den_gname den_yes (den_call (den_cons den_var (den_cons den_var den_nil)))) den_nil))))))
theorem ok_exits_fit {P : Program} {w : World} {K : PySem.W.Frag} {mg : Str → Option Value} {base : Heap} {C_Space : Addr} {TB_FORMS : Addr} (T : Tx K mg "exits_fit" s_exits_fit) (m_all : mg "all" = none) (d_terms_in : Df P w K mg base 1 "terms_in" ["term"] p_terms_in) : Df P w K mg base 12 "exits_fit" ["term", "labels"] p_exits_fit := okn_exits_fit (C_Space := C_Space) (TB_FORMS := TB_FORMS) T m_all d_terms_in 10
theorem ok_are_names {P : Program} {w : World} {K : PySem.W.Frag} {mg : Str → Option Value} {base : Heap} {C_Space : Addr} {TB_FORMS : Addr} (T : Tx K mg "are_names" s_are_names) (m_isinstance : mg "isinstance" = none) (m_tuple : mg "tuple" = none) (m_all : mg "all" = none) (d_is_name : Df P w K mg base 1 "is_name" ["value"] p_is_name) (m_len : mg "len" = none) (m_set : mg "set" = none) : Df P w K mg base 2 "are_names" ["value"] p_are_names := by
  refine df_ok T sc_are_names prom_len (fun _ _ _ _ _ _ us hl => match us, hl with | [_], _ => rfl) (fun cdv A ou s H fa hr gd => ⟨_, (pss_cons (ps_if (PW.pt (pw_or (pt_not (pt_truK K (pe_callB (call_isiKK K) (by rfl) m_isinstance (by decide +kernel) (pa_cons (pv 0) (pa_cons (pe_bltn (v := .ty "tuple") (by rfl) m_tuple (by decide +kernel) rfl) pa_nil))) (fun _ => rfl))) (pw_or1 (pt_not (pt_truK K (pe_callB (call_allK K) (by rfl) m_all (by decide +kernel) (pa_cons (pe_lc (own := [("name", 1)]) rfl sc_are_names.nd (pi_tupK K (pv 0)) (blkOk_by (N := N_are_names) (sc := defScope s_are_names) (by decide +kernel)) (fun _ _ _ _ _ => (pg_name (i := 1) sc_are_names.nd rfl (.inl rfl))) (fun _ _ _ _ _ => pts_nil) (fun _ _ _ _ _ => (pe_callD d_is_name (hr.mono (by decide)) gd (by rfl) (pa_cons (pv 1) pa_nil)))) pa_nil)) (fun _ => rfl)))))) (pss_one (ps_ret pe_bl)) pss_nil) (pss_one (ps_ret (pe_cmpR (op_eqX K (units65 hr)) (pe_lenSetSK K (by rfl) m_len (by rfl) m_set (pv 0)) (pe_callB (call_lenK K) (by rfl) m_len (by decide +kernel) (pa_cons (pv 0) pa_nil)) (nomark _))))), ?_⟩)
  exact den_body (N := 2) (fs := B_are_names) (den_seq (den_ifs (den_or (den_not (den_tru (den_cb fc_isi (den_cons den_var (den_cons den_raw den_nil))))) (den_not (den_tru (den_cb fc_all (den_cons (den_lc (by simp) (den_itup den_var) den_gname den_yes (den_call (den_cons den_var den_nil))) den_nil))))) (den_ret den_bl) den_next) (den_ret (den_op fo_eq (den_lenSet den_var) (den_cb fc_len (den_cons den_var den_nil)))))
theorem ok_are_parameters {P : Program} {w : World} {K : PySem.W.Frag} {mg : Str → Option Value} {base : Heap} {C_Space : Addr} {TB_FORMS : Addr} (T : Tx K mg "are_parameters" s_are_parameters) (d_are_names : Df P w K mg base 2 "are_names" ["value"] p_are_names) (m_len : mg "len" = none) (c_MAX_PARAMETERS : GlK mg "MAX_PARAMETERS" (.int 3)) : Df P w K mg base 3 "are_parameters" ["value"] p_are_parameters := by
  refine df_ok T sc_are_parameters prom_len (fun _ _ _ _ _ _ us hl => match us, hl with | [_], _ => rfl) (fun cdv A ou s H fa hr gd => ⟨_, (pss_one (ps_ret (pe_and (pe_callD d_are_names (hr.mono (by decide)) gd (by rfl) (pa_cons (pv 0) pa_nil)) (pe_one (pe_cmpR op_le (pe_callB (call_lenK K) (by rfl) m_len (by decide +kernel) (pa_cons (pv 0) pa_nil)) (pe_globK c_MAX_PARAMETERS (by rfl)) (nomark _)))))), ?_⟩)
  exact den_body (N := 1) (fs := B_are_parameters) (den_ret (den_andV (den_call (den_cons den_var den_nil)) (den_op fo_ib (den_cb fc_len (den_cons den_var den_nil)) den_int)))
theorem ok_is_small {P : Program} {w : World} {K : PySem.W.Frag} {mg : Str → Option Value} {base : Heap} {C_Space : Addr} {TB_FORMS : Addr} (T : Tx K mg "is_small" s_is_small) (m_range : mg "range" = none) (c_MAX_DEPTH : GlK mg "MAX_DEPTH" (.int 6)) (m_len : mg "len" = none) (c_MAX_TERMS : GlK mg "MAX_TERMS" (.int 40)) (m_all : mg "all" = none) (d_has_form : Df P w K mg base 4 "has_form" ["value"] p_has_form) (d_terms_in : Df P w K mg base 1 "terms_in" ["term"] p_terms_in) : Df P w K mg base 5 "is_small" ["value"] p_is_small := by
  refine df_ok T sc_is_small prom_len (fun _ _ _ _ _ _ us hl => match us, hl with | [_], _ => rfl) (fun cdv A ou s H fa hr gd => ⟨_, (pss_cons (ps_set (i := 1) sc_is_small.nd rfl (.inl rfl) (pe_lst (pa_cons (pv 0) pa_nil))) (pss_cons (ps_set (i := 2) sc_is_small.nd rfl (.inl rfl) pe_int) (pss_cons (ps_for PassesOwn.never rfl (pi_range1 (by rfl) m_range (pa_cons (pe_globK c_MAX_DEPTH (by rfl)) pa_nil)) (pg_name (i := 3) sc_is_small.nd rfl (.inl rfl)) (pss_cons (ps_set (i := 2) sc_is_small.nd rfl (.inl rfl) (pe_op (op_addX K) (pv 2) (pe_callB (call_lenK K) (by rfl) m_len (by decide +kernel) (pa_cons (pv 1) pa_nil)))) (pss_cons (ps_if (PW.pt (pw_or (pt_cmpR op_gt (pv 2) (pe_globK c_MAX_TERMS (by rfl)) (nomark _)) (pw_or1 (pt_not (pt_truK K (pe_callB (call_allK K) (by rfl) m_all (by decide +kernel) (pa_cons (pe_lc (own := [("term", 4)]) rfl sc_is_small.nd (pi_listK K (pv 1)) (blkOk_by (N := N_is_small) (sc := defScope s_is_small) (by decide +kernel)) (fun _ _ _ _ _ => (pg_name (i := 4) sc_is_small.nd rfl (.inl rfl))) (fun _ _ _ _ _ => pts_nil) (fun _ _ _ _ _ => (pe_callD d_has_form (hr.mono (by decide)) gd (by rfl) (pa_cons (pv 4) pa_nil)))) pa_nil)) (fun _ => rfl)))))) (pss_one (ps_ret pe_bl)) pss_nil) (pss_one (ps_setLc2 (own := [("term", 4), ("part", 5)]) (vs1 := [5]) (i := 1) rfl sc_is_small.nd rfl rfl (sw_true rfl rfl rfl (by decide +kernel)) (pi_listK K (pv 1)) (blkOk_by (N := N_is_small) (sc := defScope s_is_small) (by decide +kernel)) (by decide) (fun _ _ _ _ _ => (pg_name (i := 4) sc_is_small.nd rfl (.inl rfl))) (fun _ _ _ _ _ => pts_nil) (fun _ _ _ _ _ => (pi_tupK K (pe_callD d_terms_in (hr.mono (by decide)) gd (by rfl) (pa_cons (pv 4) pa_nil)))) (fun _ _ _ _ _ => (pg_name (i := 5) sc_is_small.nd rfl (.inl rfl))) (fun _ _ _ _ _ => pts_nil) (fun _ _ _ _ _ => (pv 5))))))) (pss_one (ps_ret (pe_cmpR (op_eqX K (units65 hr)) (pe_callB (call_lenK K) (by rfl) m_len (by decide +kernel) (pa_cons (pv 1) pa_nil)) pe_int (nomark _))))))), ?_⟩)
  exact den_body (N := 6) (fs := B_is_small) (den_seq (den_set (den_lst (den_cons den_var den_nil))) (den_seq (den_set den_int) (den_seq (den_for (den_ir1 (den_cons den_int den_nil)) den_gname (den_seq (den_set (den_op fo_add den_var (den_cb fc_len (den_cons den_var den_nil)))) (den_seq (den_ifs (den_or (den_test (den_op fo_ib den_var den_int)) (den_not (den_tru (den_cb fc_all (den_cons (den_lc (by simp) (den_ilst den_var) den_gname den_yes (den_call (den_cons den_var den_nil))) den_nil))))) (den_ret den_bl) den_next) (den_set (den_lc2 (by simp) (by simp) (by simp) (den_ilst den_var) den_gname den_yes (den_itup (den_call (den_cons den_var den_nil))) den_gname den_yes den_var))))) (den_ret (den_op fo_eq (den_cb fc_len (den_cons den_var den_nil)) den_int)))))
theorem ok_is_bound {P : Program} {w : World} {K : PySem.W.Frag} {mg : Str → Option Value} {base : Heap} {C_Space : Addr} {TB_FORMS : Addr} (T : Tx K mg "is_bound" s_is_bound) (d_terms_of : Df P w K mg base 12 "terms_of" ["term"] p_terms_of) (m_all : mg "all" = none) (m_len : mg "len" = none) (m_set : mg "set" = none) (d_exits_fit : Df P w K mg base 12 "exits_fit" ["term", "labels"] p_exits_fit) : Df P w K mg base 13 "is_bound" ["body", "parameters"] p_is_bound := by
  refine df_ok T sc_is_bound prom_len (fun _ _ _ _ _ _ us hl => match us, hl with | [_, _], _ => rfl) (fun cdv A ou s H fa hr gd => ⟨_, (pss_cons (ps_set (i := 2) sc_is_bound.nd rfl (.inl rfl) (pe_callD d_terms_of (hr.mono (by decide)) gd (by rfl) (pa_cons (pv 0) pa_nil))) (pss_cons (ps_if (pt_not (pt_truK K (pe_callB (call_allK K) (by rfl) m_all (by decide +kernel) (pa_cons (pe_lc (own := [("term", 4)]) rfl sc_is_bound.nd (pi_listK K (pv 2)) (blkOk_by (N := N_is_bound) (sc := defScope s_is_bound) (by decide +kernel)) (fun _ _ _ _ _ => (pg_name (i := 4) sc_is_bound.nd rfl (.inl rfl))) (fun _ _ _ _ _ => (pts_one (pt_cmpR (op_eqX K (units65 hr)) (pe_ix (ix_K K) (pv 4) pe_int (fun _ _ => rfl)) pe_str (nomark _)))) (fun _ _ _ _ _ => (pe_cmpR (op_inX K (units65 hr)) (pe_ix (ix_K K) (pv 4) pe_int (fun _ _ => rfl)) (pv 1) (by rfl)))) pa_nil)) (fun _ => rfl))) (pss_one (ps_ret pe_bl)) pss_nil) (pss_cons (ps_setLc (own := [("term", 4)]) (i := 3) rfl sc_is_bound.nd rfl rfl (sw_true rfl rfl rfl (by decide +kernel)) (pi_listK K (pv 2)) (blkOk_by (N := N_is_bound) (sc := defScope s_is_bound) (by decide +kernel)) (fun _ _ _ _ _ => (pg_name (i := 4) sc_is_bound.nd rfl (.inl rfl))) (fun _ _ _ _ _ => (pts_one (pt_cmpR (op_eqX K (units65 hr)) (pe_ix (ix_K K) (pv 4) pe_int (fun _ _ => rfl)) pe_str (nomark _)))) (fun _ _ _ _ _ => (pe_ix (ix_K K) (pv 4) pe_int (fun _ _ => rfl)))) (pss_one (ps_ret (pe_and (pe_cmpR (op_eqX K (units65 hr)) (pe_lenSetSK K (by rfl) m_len (by rfl) m_set (pv 3)) (pe_callB (call_lenK K) (by rfl) m_len (by decide +kernel) (pa_cons (pv 3) pa_nil)) (nomark _)) (pe_one (pe_callD d_exits_fit (hr.mono (by decide)) gd (by rfl) (pa_cons (pv 0) (pa_cons (pe_tup pa_nil) pa_nil)))))))))), ?_⟩)
  exact den_body (N := 5) (fs := B_is_bound) (den_seq (den_set (den_call (den_cons den_var den_nil))) (den_seq (den_ifs (den_not (den_tru (den_cb fc_all (den_cons (den_lc (by simp) (den_ilst den_var) den_gname (den_test (den_op fo_eq (den_op fo_ix den_var den_int) den_str)) (den_op fo_in (den_op fo_ix den_var den_int) den_var)) den_nil)))) (den_ret den_bl) den_next) (den_seq (den_set (den_lc (by simp) (den_ilst den_var) den_gname (den_test (den_op fo_eq (den_op fo_ix den_var den_int) den_str)) (den_op fo_ix den_var den_int))) (den_ret (den_andV (den_op fo_eq (den_lenSet den_var) (den_cb fc_len (den_cons den_var den_nil))) (den_call (den_cons den_var (den_cons (den_tup den_nil) den_nil))))))))
theorem ok_is_term {P : Program} {w : World} {K : PySem.W.Frag} {mg : Str → Option Value} {base : Heap} {C_Space : Addr} {TB_FORMS : Addr} (T : Tx K mg "is_term" s_is_term) (d_are_parameters : Df P w K mg base 3 "are_parameters" ["value"] p_are_parameters) (d_is_small : Df P w K mg base 5 "is_small" ["value"] p_is_small) (d_is_bound : Df P w K mg base 13 "is_bound" ["body", "parameters"] p_is_bound) : Df P w K mg base 14 "is_term" ["value", "parameters"] p_is_term := by
  refine df_ok T sc_is_term prom_len (fun _ _ _ _ _ _ us hl => match us, hl with | [_, _], _ => rfl) (fun cdv A ou s H fa hr gd => ⟨_, (pss_cons (ps_if (pt_not (pt_truK K (pe_callD d_are_parameters (hr.mono (by decide)) gd (by rfl) (pa_cons (pv 1) pa_nil)) (fun _ => rfl))) (pss_one ps_never) pss_nil) (pss_one (ps_ret (pe_and (pe_callD d_is_small (hr.mono (by decide)) gd (by rfl) (pa_cons (pv 0) pa_nil)) (pe_one (pe_callD d_is_bound (hr.mono (by decide)) gd (by rfl) (pa_cons (pv 0) (pa_cons (pv 1) pa_nil)))))))), ?_⟩)
  exact den_body (N := 2) (fs := B_is_term) (den_seq (den_ifs (den_not (den_tru (den_call (den_cons den_var den_nil)))) den_never den_next) (den_ret (den_andV (den_call (den_cons den_var den_nil)) (den_call (den_cons den_var (den_cons den_var den_nil))))))
local macro_rules | `(tactic| walk_at "blk") => `(tactic| (refine blkOk_by ?_; rfl))
local macro_rules | `(tactic| walk_at "mul") => `(tactic| first | exact Or.inl ⟨by decide, by decide⟩ | exact Or.inr ⟨by decide, by decide⟩ | exact Or.inl ⟨by omega, by omega⟩ | exact Or.inr ⟨by omega, by omega⟩)
local macro_rules | `(tactic| walk_at "dx") => `(tactic| first
  | (with_reducible refine' de_int ?_) | (with_reducible refine' de_bl ?_) | (with_reducible refine' de_non ?_) | (with_reducible refine' de_str ?_)
  | (with_reducible refine' de_varE ?_; refine' ⟨_, rfl, ?_⟩)
  | (with_reducible refine' de_raw ?_) | (with_reducible refine' de_dnew ?_)
  | (with_reducible refine' de_op ?_) | (with_reducible refine' de_un ?_)
  | (with_reducible refine' dr_addI ?_) | (with_reducible refine' dr_I0 ?_) | (with_reducible refine' dr_B0 ?_) | (with_reducible refine' dr_IE ?_; refine' ⟨?_, ?_⟩) | (with_reducible refine' du_I ?_)
  | (with_reducible refine' dt_test' ?_) | (with_reducible refine' dt_B ?_) | (with_reducible refine' dt_not ?_) | (with_reducible refine' dt_and ?_) | (with_reducible refine' dt_or ?_) | (with_reducible refine' dt_tru ?_)
  | (with_reducible refine' isB_mk ?_) | (with_reducible refine' tru_bl ?_) | (with_reducible refine' tru_int ?_) | (with_reducible refine' tru_lst ?_) | (with_reducible refine' tru_tup ?_) | (with_reducible refine' tru_non ?_)
  | (with_reducible refine' ex_str ?_) | (with_reducible refine' ex_lst ?_) | (with_reducible refine' ex_tup ?_) | (with_reducible refine' ex_int ?_) | (with_reducible refine' ex_i1 ?_) | (with_reducible refine' ex_i2 ?_) | (with_reducible refine' ex_p2 ?_)
  | (with_reducible refine' di_list ?_) | (with_reducible refine' di_tup ?_) | (with_reducible refine' di_str ?_) | (with_reducible refine' di_rng1 ?_) | (with_reducible refine' di_rng2 ?_)
  | (with_reducible refine' de_chain ?_) | (with_reducible refine' de_if ?_) | (with_reducible refine' de_andV ?_) | (with_reducible refine' de_orV ?_) | (with_reducible refine' de_notV ?_)
  | (with_reducible refine' da_nil ?_) | (with_reducible refine' da_cons ?_)
  | (with_reducible refine' de_call ?_) | (fail_if_success (with_reducible refine' de_allT ?_ ?_)); (fail_if_success (with_reducible refine' de_allT2 ?_ ?_ ?_ ?_)); (fail_if_success (with_reducible refine' de_lenset ?_)); (fail_if_success (with_reducible refine' de_ssetT ?_)); (with_reducible refine' de_CB ?_)
  | (with_reducible refine' ds_next ?_) | (with_reducible refine' ds_seq ?_) | (with_reducible refine' ds_drop ?_) | (with_reducible refine' ds_ret ?_) | (with_reducible refine' ds_retN ?_) | (with_reducible refine' ds_if ?_) | (with_reducible refine' ds_set ?_; dsimp only [List.set_cons_succ, List.set_cons_zero]) | (with_reducible refine' ds_asgx ?_) | (with_reducible refine' ds_par ?_)
  | (with_reducible refine' dg_name ?_; dsimp only [List.set_cons_succ, List.set_cons_zero])
  | (with_reducible refine' dr_ixDE0 ?_; refine' ⟨by assumption, fun i => ?_⟩) | (with_reducible refine' dr_ixDE1 ?_; refine' ⟨by assumption, fun i => ?_⟩) | (with_reducible refine' dr_ixDE2 ?_; refine' ⟨by assumption, fun i => ?_⟩)
  | (with_reducible refine' ite_1 ?_) | (with_reducible refine' ite_0 ?_)
  | (with_reducible refine' ite_d ?_ ?_ <;> intro hb) | (with_reducible refine' ite_nn ?_)
  | (with_reducible refine' dc_len_lst ?_) | (with_reducible refine' dc_len_tup ?_) | (with_reducible refine' dc_abs ?_) | (with_reducible refine' dc_max2 ?_) | (with_reducible refine' dc_min2 ?_) | (with_reducible refine' dc_intI ?_) | (with_reducible refine' dc_intB ?_) | (with_reducible refine' dc_reprB ?_))
local macro_rules | `(tactic| walk_at "go") => `(tactic| repeat' walk_at "dx")
local macro_rules | `(tactic| walk_at "gol") => `(tactic| repeat' first | walk_at "dx" | (with_reducible refine' de_tup ?_) | (with_reducible refine' de_lst ?_) | (with_reducible refine' sz_and ?_ ?_; exact Nat.le_of_ble_eq_true rfl))
local macro_rules | `(tactic| walk_at "x0") => `(tactic| try dsimp only [cxOf, Cx.nox, Cx.wish, List.map_cons, List.map_nil, wipeD, List.set_cons_succ, List.set_cons_zero])
local macro_rules | `(tactic| walk_at "nx") => `(tactic| repeat' first
  | (with_reducible refine' dr_orN ?_) | (with_reducible refine' dr_andN ?_) | (with_reducible refine' dr_shrN ?_) | (with_reducible refine' dr_and1 ?_) | (with_reducible refine' dr_shl1 ?_; refine' ⟨by omega, ?_⟩) | (with_reducible refine' dr_eqNN ?_) | (with_reducible refine' dr_eqN1 ?_) | (with_reducible refine' dr_eqN0 ?_) | (with_reducible refine' dr_neN0 ?_) | (with_reducible refine' dr_eqBB ?_) | (with_reducible refine' dr_neNN ?_)
  | walk_at "dx")
def B_fits_set : WS := (sRet (eCall F_is_index 2 (aCons (eVar 1) (aCons (eOp (icF cPow fun i j => i * 2 ^ j.toNat) (eC (.int 1)) (eVar 0)) aNil))))
def F_fits_set : FF := bodyF 2 (B_fits_set)
abbrev p_fits_set : PT0 := prom 2 (F_fits_set)
theorem ok_fits_set {P : Program} {w : World} {K : PySem.W.Frag} {mg : Str → Option Value} {base : Heap} {C_Space : Addr} {TB_FORMS : Addr} (T : Tx K mg "fits_set" s_fits_set) (d_is_index : Df P w K mg base 2 "is_index" ["value", "many"] p_is_index) : Df P w K mg base 3 "fits_set" ["modes", "value"] p_fits_set := by
  refine df_ok T sc_fits_set prom_len (fun _ _ _ _ _ _ us hl => match us, hl with | [_, _], _ => rfl) (fun cdv A ou s H fa hr gd => ⟨_, (pss_one (ps_ret (pe_callD d_is_index (hr.mono (by decide)) gd (by rfl) (pa_cons (pv 1) (pa_cons (pe_op op_shl pe_int (pv 0)) pa_nil))))), ?_⟩)
  exact den_body (N := 2) (fs := B_fits_set) (den_ret (den_call (den_cons den_var (den_cons (den_op (fo_ic cPow_of) den_int den_var) den_nil))))
def B_fits_map : WS := (sSeq (sIf (bOr (bNot (bTru (eCB isiF (aCons (eVar 1) (aCons (eC (.raw (.ty "tuple"))) aNil))))) (bTest (eOp (eqF true) (eCB lenF (aCons (eVar 1) aNil)) (eOp (icF cPow fun i j => i * 2 ^ j.toNat) (eC (.int 1)) (eVar 0))))) (sRet (eC (.bl false))) sNext) (sRet (eCB allF (aCons (eLc (iTupl (eVar 1)) (gNm 2) bYes (eCall F_fits_set 2 (aCons (eVar 0) (aCons (eVar 2) aNil))) [2]) aNil))))
def F_fits_map : FF := bodyF 3 (B_fits_map)
abbrev p_fits_map : PT0 := prom 2 (F_fits_map)
theorem ok_fits_map {P : Program} {w : World} {K : PySem.W.Frag} {mg : Str → Option Value} {base : Heap} {C_Space : Addr} {TB_FORMS : Addr} (T : Tx K mg "fits_map" s_fits_map) (m_isinstance : mg "isinstance" = none) (m_tuple : mg "tuple" = none) (m_len : mg "len" = none) (m_all : mg "all" = none) (d_fits_set : Df P w K mg base 3 "fits_set" ["modes", "value"] p_fits_set) : Df P w K mg base 4 "fits_map" ["modes", "value"] p_fits_map := by
  refine df_ok T sc_fits_map prom_len (fun _ _ _ _ _ _ us hl => match us, hl with | [_, _], _ => rfl) (fun cdv A ou s H fa hr gd => ⟨_, (pss_cons (ps_if (PW.pt (pw_or (pt_not (pt_truK K (pe_callB (call_isiKK K) (by rfl) m_isinstance (by decide +kernel) (pa_cons (pv 1) (pa_cons (pe_bltn (v := .ty "tuple") (by rfl) m_tuple (by decide +kernel) rfl) pa_nil))) (fun _ => rfl))) (pw_or1 (pt_cmpR (op_neX K (units65 hr)) (pe_callB (call_lenK K) (by rfl) m_len (by decide +kernel) (pa_cons (pv 1) pa_nil)) (pe_op op_shl pe_int (pv 0)) (nomark _))))) (pss_one (ps_ret pe_bl)) pss_nil) (pss_one (ps_ret (pe_callB (call_allK K) (by rfl) m_all (by decide +kernel) (pa_cons (pe_lc (own := [("number", 2)]) rfl sc_fits_map.nd (pi_tupK K (pv 1)) (blkOk_by (N := N_fits_map) (sc := defScope s_fits_map) (by decide +kernel)) (fun _ _ _ _ _ => (pg_name (i := 2) sc_fits_map.nd rfl (.inl rfl))) (fun _ _ _ _ _ => pts_nil) (fun _ _ _ _ _ => (pe_callD d_fits_set (hr.mono (by decide)) gd (by rfl) (pa_cons (pv 0) (pa_cons (pv 2) pa_nil))))) pa_nil))))), ?_⟩)
  exact den_body (N := 3) (fs := B_fits_map) (den_seq (den_ifs (den_or (den_not (den_tru (den_cb fc_isi (den_cons den_var (den_cons den_raw den_nil))))) (den_test (den_op fo_eq (den_cb fc_len (den_cons den_var den_nil)) (den_op (fo_ic cPow_of) den_int den_var)))) (den_ret den_bl) den_next) (den_ret (den_cb fc_all (den_cons (den_lc (by simp) (den_itup den_var) den_gname den_yes (den_call (den_cons den_var (den_cons den_var den_nil)))) den_nil))))
def B_lies_within : WS := (sRet (eOp (eqF false) (eOp (iiF fun i j => PySem.Builtin.bitOr i j) (eVar 0) (eVar 1)) (eVar 1)))
def F_lies_within : FF := bodyF 2 (B_lies_within)
abbrev p_lies_within : PT0 := prom 2 (F_lies_within)
theorem ok_lies_within {P : Program} {w : World} {K : PySem.W.Frag} {mg : Str → Option Value} {base : Heap} {C_Space : Addr} {TB_FORMS : Addr} (T : Tx K mg "lies_within" s_lies_within)  : Df P w K mg base 1 "lies_within" ["number", "other"] p_lies_within := by
  refine df_ok T sc_lies_within prom_len (fun _ _ _ _ _ _ us hl => match us, hl with | [_, _], _ => rfl) (fun cdv A ou s H fa hr gd => ⟨_, (pss_one (ps_ret (pe_cmpR (op_eqX K (units65 hr)) (pe_op op_or (pv 0) (pv 1)) (pv 1) (nomark _)))), ?_⟩)
  exact den_body (N := 2) (fs := B_lies_within) (den_ret (den_op fo_eq (den_op fo_ii den_var den_var) den_var))
def B_is_rising : WS := (sSeq (sFor (iR1 (aCons (eCB lenF (aCons (eVar 0) aNil)) aNil)) (gNm 1) (sFor (iR1 (aCons (eCB lenF (aCons (eVar 0) aNil)) aNil)) (gNm 2) (sIf (bAnd (bTru (eCall F_lies_within 2 (aCons (eVar 1) (aCons (eVar 2) aNil)))) (bNot (bTru (eCall F_lies_within 2 (aCons (eOp ixF (eVar 0) (eVar 1)) (aCons (eOp ixF (eVar 0) (eVar 2)) aNil)))))) (sRet (eC (.bl false))) sNext))) (sRet (eC (.bl true))))
def F_is_rising : FF := bodyF 3 (B_is_rising)
abbrev p_is_rising : PT0 := prom 1 (F_is_rising)
theorem ok_is_rising {P : Program} {w : World} {K : PySem.W.Frag} {mg : Str → Option Value} {base : Heap} {C_Space : Addr} {TB_FORMS : Addr} (T : Tx K mg "is_rising" s_is_rising) (m_range : mg "range" = none) (m_len : mg "len" = none) (d_lies_within : Df P w K mg base 1 "lies_within" ["number", "other"] p_lies_within) : Df P w K mg base 2 "is_rising" ["row"] p_is_rising := by
  refine df_ok T sc_is_rising prom_len (fun _ _ _ _ _ _ us hl => match us, hl with | [_], _ => rfl) (fun cdv A ou s H fa hr gd => ⟨_, (pss_cons (ps_for PassesOwn.never rfl (pi_range1 (by rfl) m_range (pa_cons (pe_callB (call_lenK K) (by rfl) m_len (by decide +kernel) (pa_cons (pv 0) pa_nil)) pa_nil)) (pg_name (i := 1) sc_is_rising.nd rfl (.inl rfl)) (pss_one (ps_for PassesOwn.never rfl (pi_range1 (by rfl) m_range (pa_cons (pe_callB (call_lenK K) (by rfl) m_len (by decide +kernel) (pa_cons (pv 0) pa_nil)) pa_nil)) (pg_name (i := 2) sc_is_rising.nd rfl (.inl rfl)) (pss_one (ps_if (PW.pt (pw_and (pt_truK K (pe_callD d_lies_within (hr.mono (by decide)) gd (by rfl) (pa_cons (pv 1) (pa_cons (pv 2) pa_nil))) (fun _ => rfl)) (pw_and1 (pt_not (pt_truK K (pe_callD d_lies_within (hr.mono (by decide)) gd (by rfl) (pa_cons (pe_ix (ix_K K) (pv 0) (pv 1) (fun _ _ => rfl)) (pa_cons (pe_ix (ix_K K) (pv 0) (pv 2) (fun _ _ => rfl)) pa_nil))) (fun _ => rfl)))))) (pss_one (ps_ret pe_bl)) pss_nil))))) (pss_one (ps_ret pe_bl))), ?_⟩)
  exact den_body (N := 3) (fs := B_is_rising) (den_seq (den_for (den_ir1 (den_cons (den_cb fc_len (den_cons den_var den_nil)) den_nil)) den_gname (den_for (den_ir1 (den_cons (den_cb fc_len (den_cons den_var den_nil)) den_nil)) den_gname (den_ifs (den_and (den_tru (den_call (den_cons den_var (den_cons den_var den_nil)))) (den_not (den_tru (den_call (den_cons (den_op fo_ix den_var den_var) (den_cons (den_op fo_ix den_var den_var) den_nil)))))) (den_ret den_bl) den_next))) (den_ret den_bl))
def B_fits_monotone : WS := (sRet (eAnd (eCall F_fits_map 2 (aCons (eVar 0) (aCons (eVar 1) aNil))) (eCall F_is_rising 1 (aCons (eVar 1) aNil))))
def F_fits_monotone : FF := bodyF 2 (B_fits_monotone)
abbrev p_fits_monotone : PT0 := prom 2 (F_fits_monotone)
theorem ok_fits_monotone {P : Program} {w : World} {K : PySem.W.Frag} {mg : Str → Option Value} {base : Heap} {C_Space : Addr} {TB_FORMS : Addr} (T : Tx K mg "fits_monotone" s_fits_monotone) (d_fits_map : Df P w K mg base 4 "fits_map" ["modes", "value"] p_fits_map) (d_is_rising : Df P w K mg base 2 "is_rising" ["row"] p_is_rising) : Df P w K mg base 5 "fits_monotone" ["modes", "value"] p_fits_monotone := by
  refine df_ok T sc_fits_monotone prom_len (fun _ _ _ _ _ _ us hl => match us, hl with | [_, _], _ => rfl) (fun cdv A ou s H fa hr gd => ⟨_, (pss_one (ps_ret (pe_and (pe_callD d_fits_map (hr.mono (by decide)) gd (by rfl) (pa_cons (pv 0) (pa_cons (pv 1) pa_nil))) (pe_one (pe_callD d_is_rising (hr.mono (by decide)) gd (by rfl) (pa_cons (pv 1) pa_nil)))))), ?_⟩)
  exact den_body (N := 2) (fs := B_fits_monotone) (den_ret (den_andV (den_call (den_cons den_var (den_cons den_var den_nil))) (den_call (den_cons den_var den_nil))))
def B_level_map : WS := (sRet (eCB tupleF (aCons (eLc (iR1 (aCons (eOp (icF cPow fun i j => i * 2 ^ j.toNat) (eC (.int 1)) (eVar 0)) aNil)) (gNm 2) bYes (eVar 1) [2]) aNil)))
def F_level_map : FF := bodyF 3 (B_level_map)
abbrev p_level_map : PT0 := prom 2 (F_level_map)
theorem ok_level_map {P : Program} {w : World} {K : PySem.W.Frag} {mg : Str → Option Value} {base : Heap} {C_Space : Addr} {TB_FORMS : Addr} (T : Tx K mg "level_map" s_level_map) (m_tuple : mg "tuple" = none) (m_range : mg "range" = none) : Df P w K mg base 1 "level_map" ["modes", "number"] p_level_map := by
  refine df_ok T sc_level_map prom_len (fun _ _ _ _ _ _ us hl => match us, hl with | [_, _], _ => rfl) (fun cdv A ou s H fa hr gd => ⟨_, (pss_one (ps_ret (pe_callTy (call_tupleK K) (by rfl) m_tuple (by decide +kernel) (pa_cons (pe_lc (own := [("_", 2)]) rfl sc_level_map.nd (pi_range1 (by rfl) m_range (pa_cons (pe_op op_shl pe_int (pv 0)) pa_nil)) (blkOk_by (N := N_level_map) (sc := defScope s_level_map) (by decide +kernel)) (fun _ _ _ _ _ => (pg_name (i := 2) sc_level_map.nd rfl (.inl rfl))) (fun _ _ _ _ _ => pts_nil) (fun _ _ _ _ _ => (pv 1))) pa_nil)))), ?_⟩)
  exact den_body (N := 3) (fs := B_level_map) (den_ret (den_cb fc_tuple (den_cons (den_lc (by simp) (den_ir1 (den_cons (den_op (fo_ic cPow_of) den_int den_var) den_nil)) den_gname den_yes den_var) den_nil)))
def B_check_modes : WS := (sIf (bOr (bNot (bTru (eCall F_is_index 2 (aCons (eVar 0) (aCons (eOp addF (eVar 1) (eC (.int 1))) aNil))))) (bTest (eOp (eqF false) (eVar 0) (eC (.int 0))))) sNever sNext)
def F_check_modes : FF := bodyF 2 (B_check_modes)
abbrev p_check_modes : PT0 := prom 2 (F_check_modes)
theorem ok_check_modes {P : Program} {w : World} {K : PySem.W.Frag} {mg : Str → Option Value} {base : Heap} {C_Space : Addr} {TB_FORMS : Addr} (T : Tx K mg "check_modes" s_check_modes) (d_is_index : Df P w K mg base 2 "is_index" ["value", "many"] p_is_index) : Df P w K mg base 4 "check_modes" ["modes", "most"] p_check_modes := by
  refine df_ok T sc_check_modes prom_len (fun _ _ _ _ _ _ us hl => match us, hl with | [_, _], _ => rfl) (fun cdv A ou s H fa hr gd => ⟨_, (pss_one (ps_if (PW.pt (pw_or (pt_not (pt_truK K (pe_callD d_is_index (hr.mono (by decide)) gd (by rfl) (pa_cons (pv 0) (pa_cons (pe_op (op_addX K) (pv 1) pe_int) pa_nil))) (fun _ => rfl))) (pw_or1 (pt_cmpR (op_eqX K (units65 hr)) (pv 0) pe_int (nomark _))))) (pss_one ps_never) pss_nil)), ?_⟩)
  exact den_body (N := 2) (fs := B_check_modes) (den_ifs (den_or (den_not (den_tru (den_call (den_cons den_var (den_cons (den_op fo_add den_var den_int) den_nil))))) (den_test (den_op fo_eq den_var den_int))) den_never den_next)
def B_rising_bits : WS := (sSeq (sSet 1 (eOp (icF cPow fun i j => i * 2 ^ j.toNat) (eC (.int 1)) (eVar 0))) (sSeq (sSet 2 (eLc (iR1 (aCons (eOp (icF cPow fun i j => i * 2 ^ j.toNat) (eC (.int 1)) (eVar 1)) aNil)) (gNm 3) bYes (eCB tupleF (aCons (eLc (iR1 (aCons (eVar 1) aNil)) (gNm 5) bYes (eOp (iiF fun i j => PySem.Builtin.bitAnd i j) (eOp (icF cShr fun i j => i / 2 ^ j.toNat) (eVar 3) (eVar 5)) (eC (.int 1))) [5]) aNil)) [3])) (sRet (eLc (iLst (eVar 2)) (gNm 4) (bTru (eCall F_is_rising 1 (aCons (eVar 4) aNil))) (eVar 4) [4]))))
def F_rising_bits : FF := bodyF 6 (B_rising_bits)
abbrev p_rising_bits : PT0 := prom 1 (F_rising_bits)
theorem ok_rising_bits {P : Program} {w : World} {K : PySem.W.Frag} {mg : Str → Option Value} {base : Heap} {C_Space : Addr} {TB_FORMS : Addr} (T : Tx K mg "rising_bits" s_rising_bits) (m_range : mg "range" = none) (m_tuple : mg "tuple" = none) (d_is_rising : Df P w K mg base 2 "is_rising" ["row"] p_is_rising) : Df P w K mg base 3 "rising_bits" ["modes"] p_rising_bits := by
  refine df_ok T sc_rising_bits prom_len (fun _ _ _ _ _ _ us hl => match us, hl with | [_], _ => rfl) (fun cdv A ou s H fa hr gd => ⟨_, (pss_cons (ps_set (i := 1) sc_rising_bits.nd rfl (.inr rfl) (pe_op op_shl pe_int (pv 0))) (pss_cons (ps_setLc (own := [("pattern", 3)]) (i := 2) rfl sc_rising_bits.nd rfl rfl (sw_true rfl rfl rfl (by decide +kernel)) (pi_range1 (by rfl) m_range (pa_cons (pe_op op_shl pe_int (pv 1)) pa_nil)) (blkOk_by (N := N_rising_bits) (sc := defScope s_rising_bits) (by decide +kernel)) (fun _ _ _ _ _ => (pg_name (i := 3) sc_rising_bits.nd rfl (.inr rfl))) (fun _ _ _ _ _ => pts_nil) (fun _ _ _ _ _ => (pe_callTy (call_tupleK K) (by rfl) m_tuple (by decide +kernel) (pa_cons (pe_lc (own := [("place", 5)]) rfl sc_rising_bits.nd (pi_range1 (by rfl) m_range (pa_cons (pv 1) pa_nil)) (by walk_at "blk") (fun _ _ _ _ _ => (pg_name (i := 5) sc_rising_bits.nd rfl (.inl rfl))) (fun _ _ _ _ _ => pts_nil) (fun _ _ _ _ _ => (pe_op op_and (pe_op op_shr (pv 3) (pv 5)) pe_int))) pa_nil)))) (pss_one (ps_ret (pe_lc (own := [("row", 4)]) rfl sc_rising_bits.nd (pi_listK K (pv 2)) (blkOk_by (N := N_rising_bits) (sc := defScope s_rising_bits) (by decide +kernel)) (fun _ _ _ _ _ => (pg_name (i := 4) sc_rising_bits.nd rfl (.inl rfl))) (fun _ _ _ _ _ => (pts_one (pt_truK K (pe_callD d_is_rising (hr.mono (by decide)) gd (by rfl) (pa_cons (pv 4) pa_nil)) (fun _ => rfl)))) (fun _ _ _ _ _ => (pv 4))))))), ?_⟩)
  exact den_body (N := 6) (fs := B_rising_bits) (den_seq (den_set (den_op (fo_ic cPow_of) den_int den_var)) (den_seq (den_set (den_lc (by simp) (den_ir1 (den_cons (den_op (fo_ic cPow_of) den_int den_var) den_nil)) den_gname den_yes (den_cb fc_tuple (den_cons (den_lc (by simp) (den_ir1 (den_cons den_var den_nil)) den_gname den_yes (den_op fo_ii (den_op (fo_ic cShr_of) den_var den_var) den_int)) den_nil)))) (den_ret (den_lc (by simp) (den_ilst den_var) den_gname (den_tru (den_call (den_cons den_var den_nil))) den_var))))
def B_with_bits : WS := (sRet (eCB tupleF (aCons (eLc (iZipF (aCons (eVar 0) (aCons (eVar 1) aNil))) (gTp 2 (gsCons (gNm 3) (gsCons (gNm 4) gsNil))) bYes (eOp (iiF fun i j => PySem.Builtin.bitOr i j) (eVar 3) (eOp (icF cPow fun i j => i * 2 ^ j.toNat) (eVar 4) (eVar 2))) [3, 4]) aNil)))
def F_with_bits : FF := bodyF 5 (B_with_bits)
abbrev p_with_bits : PT0 := prom 3 (F_with_bits)
theorem ok_with_bits {P : Program} {w : World} {K : PySem.W.Frag} {mg : Str → Option Value} {base : Heap} {C_Space : Addr} {TB_FORMS : Addr} (T : Tx K mg "with_bits" s_with_bits) (m_tuple : mg "tuple" = none) (m_zip : mg "zip" = none) : Df P w K mg base 1 "with_bits" ["one", "bits", "mode"] p_with_bits := by
  refine df_ok T sc_with_bits prom_len (fun _ _ _ _ _ _ us hl => match us, hl with | [_, _, _], _ => rfl) (fun cdv A ou s H fa hr gd => ⟨_, (pss_one (ps_ret (pe_callTy (call_tupleK K) (by rfl) m_tuple (by decide +kernel) (pa_cons (pe_lc (own := [("number", 3), ("bit", 4)]) rfl sc_with_bits.nd (pi_zipK K (by rfl) m_zip (pa_cons (pv 0) (pa_cons (pv 1) pa_nil))) (blkOk_by (N := N_with_bits) (sc := defScope s_with_bits) (by decide +kernel)) (fun _ _ _ _ _ => (pg_tupK K (n := 2) rfl (pgs_cons (pg_name (i := 3) sc_with_bits.nd rfl (.inl rfl)) (pgs_cons (pg_name (i := 4) sc_with_bits.nd rfl (.inl rfl)) pgs_nil)))) (fun _ _ _ _ _ => pts_nil) (fun _ _ _ _ _ => (pe_op op_or (pv 3) (pe_op op_shl (pv 4) (pv 2))))) pa_nil)))), ?_⟩)
  exact den_body (N := 5) (fs := B_with_bits) (den_ret (den_cb fc_tuple (den_cons (den_lc (by simp) (den_izip (den_cons den_var (den_cons den_var den_nil))) (den_gtup (den_gscons den_gname (den_gscons den_gname den_gsnil))) den_yes (den_op fo_ii den_var (den_op (fo_ic cPow_of) den_var den_var))) den_nil)))
def B_monotone_maps : WS := (sSeq (sSet 1 (eCall F_rising_bits 1 (aCons (eVar 0) aNil))) (sSeq (sSet 2 (eLst (aCons (eCall F_level_map 2 (aCons (eVar 0) (aCons (eC (.int 0)) aNil))) aNil))) (sSeq (sFor (iR1 (aCons (eVar 0) aNil)) (gNm 3) (sSet 2 (eLc2 (iLst (eVar 2)) (gNm 4) bYes (iLst (eVar 1)) (gNm 5) bYes (eCall F_with_bits 3 (aCons (eVar 4) (aCons (eVar 5) (aCons (eVar 3) aNil)))) [4, 5] [5]))) (sRet (eCB tupleF (aCons (eCB sortVF (aCons (eVar 2) aNil)) aNil))))))
def F_monotone_maps : FF := bodyF 6 (B_monotone_maps)
abbrev p_monotone_maps : PT0 := prom 1 (F_monotone_maps)
theorem ok_monotone_maps {P : Program} {w : World} {K : PySem.W.Frag} {mg : Str → Option Value} {base : Heap} {C_Space : Addr} {TB_FORMS : Addr} (T : Tx K mg "monotone_maps" s_monotone_maps) (d_rising_bits : Df P w K mg base 3 "rising_bits" ["modes"] p_rising_bits) (d_level_map : Df P w K mg base 1 "level_map" ["modes", "number"] p_level_map) (m_range : mg "range" = none) (d_with_bits : Df P w K mg base 1 "with_bits" ["one", "bits", "mode"] p_with_bits) (m_tuple : mg "tuple" = none) (m_sorted : mg "sorted" = none) : Df P w K mg base 4 "monotone_maps" ["modes"] p_monotone_maps := by
  refine df_ok T sc_monotone_maps prom_len (fun _ _ _ _ _ _ us hl => match us, hl with | [_], _ => rfl) (fun cdv A ou s H fa hr gd => ⟨_, (pss_cons (ps_set (i := 1) sc_monotone_maps.nd rfl (.inr rfl) (pe_callD d_rising_bits (hr.mono (by decide)) gd (by rfl) (pa_cons (pv 0) pa_nil))) (pss_cons (ps_set (i := 2) sc_monotone_maps.nd rfl (.inl rfl) (pe_lst (pa_cons (pe_callD d_level_map (hr.mono (by decide)) gd (by rfl) (pa_cons (pv 0) (pa_cons pe_int pa_nil))) pa_nil))) (pss_cons (ps_for PassesOwn.never rfl (pi_range1 (by rfl) m_range (pa_cons (pv 0) pa_nil)) (pg_name (i := 3) sc_monotone_maps.nd rfl (.inr rfl)) (pss_one (ps_setLc2 (own := [("one", 4), ("bits", 5)]) (vs1 := [5]) (i := 2) rfl sc_monotone_maps.nd rfl rfl (sw_true rfl rfl rfl (by decide +kernel)) (pi_listK K (pv 2)) (blkOk_by (N := N_monotone_maps) (sc := defScope s_monotone_maps) (by decide +kernel)) (by decide) (fun _ _ _ _ _ => (pg_name (i := 4) sc_monotone_maps.nd rfl (.inl rfl))) (fun _ _ _ _ _ => pts_nil) (fun _ _ _ _ _ => (pi_listK K (pv 1))) (fun _ _ _ _ _ => (pg_name (i := 5) sc_monotone_maps.nd rfl (.inl rfl))) (fun _ _ _ _ _ => pts_nil) (fun _ _ _ _ _ => (pe_callD d_with_bits (hr.mono (by decide)) gd (by rfl) (pa_cons (pv 4) (pa_cons (pv 5) (pa_cons (pv 3) pa_nil)))))))) (pss_one (ps_ret (pe_callTy (call_tupleK K) (by rfl) m_tuple (by decide +kernel) (pa_cons (pe_callB (cr_sortVK K) (by rfl) m_sorted (by decide +kernel) (pa_cons (pv 2) pa_nil)) pa_nil))))))), ?_⟩)
  exact den_body (N := 6) (fs := B_monotone_maps) (den_seq (den_set (den_call (den_cons den_var den_nil))) (den_seq (den_set (den_lst (den_cons (den_call (den_cons den_var (den_cons den_int den_nil))) den_nil))) (den_seq (den_for (den_ir1 (den_cons den_var den_nil)) den_gname (den_set (den_lc2 (by simp) (by simp) (by simp) (den_ilst den_var) den_gname den_yes (den_ilst den_var) den_gname den_yes (den_call (den_cons den_var (den_cons den_var (den_cons den_var den_nil))))))) (den_ret (den_cb fc_tuple (den_cons (den_cb fc_sortV (den_cons den_var den_nil)) den_nil))))))
def B_sets_of_mode : WS := (sRet (eLc (iR1 (aCons (eCB lenF (aCons (eVar 0) aNil)) aNil)) (gNm 3) (bTest (eOp (eqF false) (eOp (eqF false) (eOp (iiF fun i j => PySem.Builtin.bitAnd i j) (eOp (icF cShr fun i j => i / 2 ^ j.toNat) (eOp ixF (eVar 0) (eVar 3)) (eVar 1)) (eC (.int 1))) (eC (.int 1))) (eVar 2))) (eVar 3) [3]))
def F_sets_of_mode : FF := bodyF 4 (B_sets_of_mode)
abbrev p_sets_of_mode : PT0 := prom 3 (F_sets_of_mode)
theorem ok_sets_of_mode {P : Program} {w : World} {K : PySem.W.Frag} {mg : Str → Option Value} {base : Heap} {C_Space : Addr} {TB_FORMS : Addr} (T : Tx K mg "sets_of_mode" s_sets_of_mode) (m_range : mg "range" = none) (m_len : mg "len" = none) : Df P w K mg base 1 "sets_of_mode" ["one", "mode", "wanted"] p_sets_of_mode := by
  refine df_ok T sc_sets_of_mode prom_len (fun _ _ _ _ _ _ us hl => match us, hl with | [_, _, _], _ => rfl) (fun cdv A ou s H fa hr gd => ⟨_, (pss_one (ps_ret (pe_lc (own := [("number", 3)]) rfl sc_sets_of_mode.nd (pi_range1 (by rfl) m_range (pa_cons (pe_callB (call_lenK K) (by rfl) m_len (by decide +kernel) (pa_cons (pv 0) pa_nil)) pa_nil)) (blkOk_by (N := N_sets_of_mode) (sc := defScope s_sets_of_mode) (by decide +kernel)) (fun _ _ _ _ _ => (pg_name (i := 3) sc_sets_of_mode.nd rfl (.inl rfl))) (fun _ _ _ _ _ => (pts_one (pt_cmpR (op_eqX K (units65 hr)) (pe_cmpR (op_eqX K (units65 hr)) (pe_op op_and (pe_op op_shr (pe_ix (ix_K K) (pv 0) (pv 3) (fun _ _ => rfl)) (pv 1)) pe_int) pe_int (nomark _)) (pv 2) (nomark _)))) (fun _ _ _ _ _ => (pv 3))))), ?_⟩)
  exact den_body (N := 4) (fs := B_sets_of_mode) (den_ret (den_lc (by simp) (den_ir1 (den_cons (den_cb fc_len (den_cons den_var den_nil)) den_nil)) den_gname (den_test (den_op fo_eq (den_op fo_eq (den_op fo_ii (den_op (fo_ic cShr_of) (den_op fo_ix den_var den_var) den_var) den_int) den_int) den_var)) den_var))
def B_has_within : WS := (sRet (eCB anyF (aCons (eLc (iLst (eVar 0)) (gNm 2) bYes (eAnd (eOp (eqF true) (eVar 2) (eVar 1)) (eCall F_lies_within 2 (aCons (eVar 2) (aCons (eVar 1) aNil)))) [2]) aNil)))
def F_has_within : FF := bodyF 3 (B_has_within)
abbrev p_has_within : PT0 := prom 2 (F_has_within)
theorem ok_has_within {P : Program} {w : World} {K : PySem.W.Frag} {mg : Str → Option Value} {base : Heap} {C_Space : Addr} {TB_FORMS : Addr} (T : Tx K mg "has_within" s_has_within) (m_any : mg "any" = none) (d_lies_within : Df P w K mg base 1 "lies_within" ["number", "other"] p_lies_within) : Df P w K mg base 2 "has_within" ["numbers", "one"] p_has_within := by
  refine df_ok T sc_has_within prom_len (fun _ _ _ _ _ _ us hl => match us, hl with | [_, _], _ => rfl) (fun cdv A ou s H fa hr gd => ⟨_, (pss_one (ps_ret (pe_callB (call_anyK K) (by rfl) m_any (by decide +kernel) (pa_cons (pe_lc (own := [("other", 2)]) rfl sc_has_within.nd (pi_listK K (pv 0)) (blkOk_by (N := N_has_within) (sc := defScope s_has_within) (by decide +kernel)) (fun _ _ _ _ _ => (pg_name (i := 2) sc_has_within.nd rfl (.inl rfl))) (fun _ _ _ _ _ => pts_nil) (fun _ _ _ _ _ => (pe_and (pe_cmpR (op_neX K (units65 hr)) (pv 2) (pv 1) (nomark _)) (pe_one (pe_callD d_lies_within (hr.mono (by decide)) gd (by rfl) (pa_cons (pv 2) (pa_cons (pv 1) pa_nil))))))) pa_nil)))), ?_⟩)
  exact den_body (N := 3) (fs := B_has_within) (den_ret (den_cb fc_any (den_cons (den_lc (by simp) (den_ilst den_var) den_gname den_yes (den_andV (den_op fo_eq den_var den_var) (den_call (den_cons den_var (den_cons den_var den_nil))))) den_nil)))
def B_least_of : WS := (sRet (eCB tupleF (aCons (eLc (iLst (eVar 0)) (gNm 1) (bNot (bTru (eCall F_has_within 2 (aCons (eVar 0) (aCons (eVar 1) aNil))))) (eVar 1) [1]) aNil)))
def F_least_of : FF := bodyF 2 (B_least_of)
abbrev p_least_of : PT0 := prom 1 (F_least_of)
theorem ok_least_of {P : Program} {w : World} {K : PySem.W.Frag} {mg : Str → Option Value} {base : Heap} {C_Space : Addr} {TB_FORMS : Addr} (T : Tx K mg "least_of" s_least_of) (m_tuple : mg "tuple" = none) (d_has_within : Df P w K mg base 2 "has_within" ["numbers", "one"] p_has_within) : Df P w K mg base 3 "least_of" ["numbers"] p_least_of := by
  refine df_ok T sc_least_of prom_len (fun _ _ _ _ _ _ us hl => match us, hl with | [_], _ => rfl) (fun cdv A ou s H fa hr gd => ⟨_, (pss_one (ps_ret (pe_callTy (call_tupleK K) (by rfl) m_tuple (by decide +kernel) (pa_cons (pe_lc (own := [("one", 1)]) rfl sc_least_of.nd (pi_listK K (pv 0)) (blkOk_by (N := N_least_of) (sc := defScope s_least_of) (by decide +kernel)) (fun _ _ _ _ _ => (pg_name (i := 1) sc_least_of.nd rfl (.inl rfl))) (fun _ _ _ _ _ => (pts_one (pt_not (pt_truK K (pe_callD d_has_within (hr.mono (by decide)) gd (by rfl) (pa_cons (pv 0) (pa_cons (pv 1) pa_nil))) (fun _ => rfl))))) (fun _ _ _ _ _ => (pv 1))) pa_nil)))), ?_⟩)
  exact den_body (N := 2) (fs := B_least_of) (den_ret (den_cb fc_tuple (den_cons (den_lc (by simp) (den_ilst den_var) den_gname (den_not (den_tru (den_call (den_cons den_var (den_cons den_var den_nil))))) den_var) den_nil)))
def B_Space___init__ (C_Space : Addr) : WS := (sSeq (sDrop (eCall F_check_modes 2 (aCons (eVar 1) (aCons (eC (.int 3)) aNil)))) (sSeq (sPut C_Space "_modes" (eVar 0) (eVar 1)) (sSeq (sPut C_Space "_full" (eVar 0) (eOp (iiF fun i j => i - j) (eOp (icF cPow fun i j => i * 2 ^ j.toNat) (eC (.int 1)) (eVar 1)) (eC (.int 1)))) (sSeq (sPut C_Space "_maps" (eVar 0) (eC .non)) (sSeq (sPut C_Space "_same" (eVar 0) (eCB tupleF (aCons (eLc (iR1 (aCons (eOp (icF cPow fun i j => i * 2 ^ j.toNat) (eC (.int 1)) (eVar 1)) aNil)) (gNm 2) bYes (eVar 2) [2]) aNil))) (sSeq (sPut C_Space "_never" (eVar 0) (eCall F_level_map 2 (aCons (eVar 1) (aCons (eC (.int 0)) aNil)))) (sPut C_Space "_always" (eVar 0) (eCall F_level_map 2 (aCons (eVar 1) (aCons (eOp (iiF fun i j => i - j) (eOp (icF cPow fun i j => i * 2 ^ j.toNat) (eC (.int 1)) (eVar 1)) (eC (.int 1))) aNil))))))))))
def F_Space___init__ (C_Space : Addr) : FF := bodyF 3 (B_Space___init__ C_Space)
abbrev p_Space___init__ (C_Space : Addr) : PT0 := prom 2 (F_Space___init__ C_Space)
theorem ok_Space___init__ {P : Program} {w : World} {K : PySem.W.Frag} {mg : Str → Option Value} {base : Heap} {C_Space : Addr} {TB_FORMS : Addr} (T : MTx K C_Space "__init__" "Space.__init__" s_Space___init__) (d_check_modes : Df P w K mg base 4 "check_modes" ["modes", "most"] p_check_modes) (c_MAX_MODES : GlK mg "MAX_MODES" (.int 3)) (cl_Space : Cls K C_Space) (na_Space__modes : NoAttr K C_Space "_modes") (na_Space__full : NoAttr K C_Space "_full") (na_Space__maps : NoAttr K C_Space "_maps") (na_Space__same : NoAttr K C_Space "_same") (m_tuple : mg "tuple" = none) (m_range : mg "range" = none) (na_Space__never : NoAttr K C_Space "_never") (d_level_map : Df P w K mg base 1 "level_map" ["modes", "number"] p_level_map) (na_Space__always : NoAttr K C_Space "_always") : Dm P w K mg base 5 C_Space "__init__" ["self", "modes"] (p_Space___init__ C_Space) := by
  refine dm_ok T sc_Space___init__ prom_len (fun _ _ _ _ _ _ us hl => match us, hl with | [_, _], _ => rfl) (fun cdv A ou s H fa hr gd => ⟨_, (pss_cons (ps_expr (pe_callD d_check_modes (hr.mono (by decide)) gd (by rfl) (pa_cons (pv 1) (pa_cons (pe_globK c_MAX_MODES (by rfl)) pa_nil)))) (pss_cons (ps_fldK K (pv 0) (pv 1)) (pss_cons (ps_fldK K (pv 0) (pe_op op_sub (pe_op op_shl pe_int (pv 1)) pe_int)) (pss_cons (ps_fldK K (pv 0) pe_non) (pss_cons (ps_fldK K (pv 0) (pe_callTy (call_tupleK K) (by rfl) m_tuple (by decide +kernel) (pa_cons (pe_lc (own := [("number", 2)]) rfl sc_Space___init__.nd (pi_range1 (by rfl) m_range (pa_cons (pe_op op_shl pe_int (pv 1)) pa_nil)) (blkOk_by (N := N_Space___init__) (sc := defScope s_Space___init__) (by decide +kernel)) (fun _ _ _ _ _ => (pg_name (i := 2) sc_Space___init__.nd rfl (.inl rfl))) (fun _ _ _ _ _ => pts_nil) (fun _ _ _ _ _ => (pv 2))) pa_nil))) (pss_cons (ps_fldK K (pv 0) (pe_callD d_level_map (hr.mono (by decide)) gd (by rfl) (pa_cons (pv 1) (pa_cons pe_int pa_nil)))) (pss_one (ps_fldK K (pv 0) (pe_callD d_level_map (hr.mono (by decide)) gd (by rfl) (pa_cons (pv 1) (pa_cons (pe_op op_sub (pe_op op_shl pe_int (pv 1)) pe_int) pa_nil))))))))))), ?_⟩)
  exact den_body (N := 3) (fs := B_Space___init__ C_Space) (den_seq (den_drop (den_call (den_cons den_var (den_cons den_int den_nil)))) (den_seq (den_put cl_Space na_Space__modes den_var den_var) (den_seq (den_put cl_Space na_Space__full den_var (den_op fo_ii (den_op (fo_ic cPow_of) den_int den_var) den_int)) (den_seq (den_put cl_Space na_Space__maps den_var den_non) (den_seq (den_put cl_Space na_Space__same den_var (den_cb fc_tuple (den_cons (den_lc (by simp) (den_ir1 (den_cons (den_op (fo_ic cPow_of) den_int den_var) den_nil)) den_gname den_yes den_var) den_nil))) (den_seq (den_put cl_Space na_Space__never den_var (den_call (den_cons den_var (den_cons den_int den_nil)))) (den_put cl_Space na_Space__always den_var (den_call (den_cons den_var (den_cons (den_op fo_ii (den_op (fo_ic cPow_of) den_int den_var) den_int) den_nil))))))))))
def B_Space_members (C_Space : Addr) : WS := (sSeq (sIf (bNot (bTru (eCall F_fits_set 2 (aCons (eFld C_Space "_modes" (eVar 0)) (aCons (eVar 1) aNil))))) sNever sNext) (sRet (eCB tupleF (aCons (eLc (iR1 (aCons (eFld C_Space "_modes" (eVar 0)) aNil)) (gNm 2) (bTest (eOp (eqF false) (eOp (iiF fun i j => PySem.Builtin.bitAnd i j) (eOp (icF cShr fun i j => i / 2 ^ j.toNat) (eVar 1) (eVar 2)) (eC (.int 1))) (eC (.int 1)))) (eVar 2) [2]) aNil))))
def F_Space_members (C_Space : Addr) : FF := bodyF 3 (B_Space_members C_Space)
abbrev p_Space_members (C_Space : Addr) : PT0 := prom 2 (F_Space_members C_Space)
theorem ok_Space_members {P : Program} {w : World} {K : PySem.W.Frag} {mg : Str → Option Value} {base : Heap} {C_Space : Addr} {TB_FORMS : Addr} (T : MTx K C_Space "members" "Space.members" s_Space_members) (d_fits_set : Df P w K mg base 3 "fits_set" ["modes", "value"] p_fits_set) (cl_Space : Cls K C_Space) (na_Space__modes : NoAttr K C_Space "_modes") (m_tuple : mg "tuple" = none) (m_range : mg "range" = none) : Dm P w K mg base 4 C_Space "members" ["self", "number"] (p_Space_members C_Space) := by
  refine dm_ok T sc_Space_members prom_len (fun _ _ _ _ _ _ us hl => match us, hl with | [_, _], _ => rfl) (fun cdv A ou s H fa hr gd => ⟨_, (pss_cons (ps_if (pt_not (pt_truK K (pe_callD d_fits_set (hr.mono (by decide)) gd (by rfl) (pa_cons (pe_fldK K (pv 0)) (pa_cons (pv 1) pa_nil))) (fun _ => rfl))) (pss_one ps_never) pss_nil) (pss_one (ps_ret (pe_callTy (call_tupleK K) (by rfl) m_tuple (by decide +kernel) (pa_cons (pe_lc (own := [("mode", 2)]) rfl sc_Space_members.nd (pi_range1 (by rfl) m_range (pa_cons (pe_fldK K (pv 0)) pa_nil)) (blkOk_by (N := N_Space_members) (sc := defScope s_Space_members) (by decide +kernel)) (fun _ _ _ _ _ => (pg_name (i := 2) sc_Space_members.nd rfl (.inl rfl))) (fun _ _ _ _ _ => (pts_one (pt_cmpR (op_eqX K (units65 hr)) (pe_op op_and (pe_op op_shr (pv 1) (pv 2)) pe_int) pe_int (nomark _)))) (fun _ _ _ _ _ => (pv 2))) pa_nil))))), ?_⟩)
  exact den_body (N := 3) (fs := B_Space_members C_Space) (den_seq (den_ifs (den_not (den_tru (den_call (den_cons (den_fld cl_Space na_Space__modes den_var) (den_cons den_var den_nil))))) den_never den_next) (den_ret (den_cb fc_tuple (den_cons (den_lc (by simp) (den_ir1 (den_cons (den_fld cl_Space na_Space__modes den_var) den_nil)) den_gname (den_test (den_op fo_eq (den_op fo_ii (den_op (fo_ic cShr_of) den_var den_var) den_int) den_int)) den_var) den_nil))))
def B_Space_check_monotone (C_Space : Addr) : WS := (sSeq (sIf (bNot (bTru (eCall F_fits_monotone 2 (aCons (eFld C_Space "_modes" (eVar 0)) (aCons (eVar 1) aNil))))) sNever sNext) (sIf (bNot (bTru (eCall F_is_index 2 (aCons (eVar 2) (aCons (eFld C_Space "_modes" (eVar 0)) aNil))))) sNever sNext))
def F_Space_check_monotone (C_Space : Addr) : FF := bodyF 3 (B_Space_check_monotone C_Space)
abbrev p_Space_check_monotone (C_Space : Addr) : PT0 := prom 3 (F_Space_check_monotone C_Space)
theorem ok_Space_check_monotone {P : Program} {w : World} {K : PySem.W.Frag} {mg : Str → Option Value} {base : Heap} {C_Space : Addr} {TB_FORMS : Addr} (T : MTx K C_Space "check_monotone" "Space.check_monotone" s_Space_check_monotone) (d_fits_monotone : Df P w K mg base 5 "fits_monotone" ["modes", "value"] p_fits_monotone) (cl_Space : Cls K C_Space) (na_Space__modes : NoAttr K C_Space "_modes") (d_is_index : Df P w K mg base 2 "is_index" ["value", "many"] p_is_index) : Dm P w K mg base 6 C_Space "check_monotone" ["self", "one", "mode"] (p_Space_check_monotone C_Space) := by
  refine dm_ok T sc_Space_check_monotone prom_len (fun _ _ _ _ _ _ us hl => match us, hl with | [_, _, _], _ => rfl) (fun cdv A ou s H fa hr gd => ⟨_, (pss_cons (ps_if (pt_not (pt_truK K (pe_callD d_fits_monotone (hr.mono (by decide)) gd (by rfl) (pa_cons (pe_fldK K (pv 0)) (pa_cons (pv 1) pa_nil))) (fun _ => rfl))) (pss_one ps_never) pss_nil) (pss_one (ps_if (pt_not (pt_truK K (pe_callD d_is_index (hr.mono (by decide)) gd (by rfl) (pa_cons (pv 2) (pa_cons (pe_fldK K (pv 0)) pa_nil))) (fun _ => rfl))) (pss_one ps_never) pss_nil))), ?_⟩)
  exact den_body (N := 3) (fs := B_Space_check_monotone C_Space) (den_seq (den_ifs (den_not (den_tru (den_call (den_cons (den_fld cl_Space na_Space__modes den_var) (den_cons den_var den_nil))))) den_never den_next) (den_ifs (den_not (den_tru (den_call (den_cons den_var (den_cons (den_fld cl_Space na_Space__modes den_var) den_nil))))) den_never den_next))
def B_Space_least_sets (C_Space : Addr) : WS := (sSeq (sDrop (eMeth C_Space "check_monotone" (F_Space_check_monotone C_Space) 3 (eVar 0) (aCons (eVar 1) (aCons (eVar 2) aNil)))) (sRet (eCall F_least_of 1 (aCons (eCall F_sets_of_mode 3 (aCons (eVar 1) (aCons (eVar 2) (aCons (eC (.bl true)) aNil)))) aNil))))
def F_Space_least_sets (C_Space : Addr) : FF := bodyF 3 (B_Space_least_sets C_Space)
abbrev p_Space_least_sets (C_Space : Addr) : PT0 := prom 3 (F_Space_least_sets C_Space)
theorem ok_Space_least_sets {P : Program} {w : World} {K : PySem.W.Frag} {mg : Str → Option Value} {base : Heap} {C_Space : Addr} {TB_FORMS : Addr} (T : MTx K C_Space "least_sets" "Space.least_sets" s_Space_least_sets) (q_Space_check_monotone : Dm P w K mg base 6 C_Space "check_monotone" ["self", "one", "mode"] (p_Space_check_monotone C_Space)) (cl_Space : Cls K C_Space) (d_least_of : Df P w K mg base 3 "least_of" ["numbers"] p_least_of) (d_sets_of_mode : Df P w K mg base 1 "sets_of_mode" ["one", "mode", "wanted"] p_sets_of_mode) : Dm P w K mg base 7 C_Space "least_sets" ["self", "one", "mode"] (p_Space_least_sets C_Space) := by
  refine dm_ok T sc_Space_least_sets prom_len (fun _ _ _ _ _ _ us hl => match us, hl with | [_, _, _], _ => rfl) (fun cdv A ou s H fa hr gd => ⟨_, (pss_cons (ps_expr (pe_methD q_Space_check_monotone cl_Space (hr.mono (by decide)) gd (pv 0) (pa_cons (pv 1) (pa_cons (pv 2) pa_nil)))) (pss_one (ps_ret (pe_callD d_least_of (hr.mono (by decide)) gd (by rfl) (pa_cons (pe_callD d_sets_of_mode (hr.mono (by decide)) gd (by rfl) (pa_cons (pv 1) (pa_cons (pv 2) (pa_cons pe_bl pa_nil)))) pa_nil))))), ?_⟩)
  exact den_body (N := 3) (fs := B_Space_least_sets C_Space) (den_seq (den_drop (den_meth den_var (den_cons den_var (den_cons den_var den_nil)))) (den_ret (den_call (den_cons (den_call (den_cons den_var (den_cons den_var (den_cons den_bl den_nil)))) den_nil))))
def B_Space_maps (C_Space : Addr) : WS := (sSeq (sIf (bTest (eOp (isNF false) (eFld C_Space "_maps" (eVar 0)) (eC .non))) (sPut C_Space "_maps" (eVar 0) (eCall F_monotone_maps 1 (aCons (eFld C_Space "_modes" (eVar 0)) aNil))) sNext) (sRet (eFld C_Space "_maps" (eVar 0))))
def F_Space_maps (C_Space : Addr) : FF := bodyF 1 (B_Space_maps C_Space)
abbrev p_Space_maps (C_Space : Addr) : PT0 := prom 1 (F_Space_maps C_Space)
theorem ok_Space_maps {P : Program} {w : World} {K : PySem.W.Frag} {mg : Str → Option Value} {base : Heap} {C_Space : Addr} {TB_FORMS : Addr} (T : PTx K C_Space "maps" "Space.maps" s_Space_maps) (cl_Space : Cls K C_Space) (na_Space__maps : NoAttr K C_Space "_maps") (d_monotone_maps : Df P w K mg base 4 "monotone_maps" ["modes"] p_monotone_maps) (na_Space__modes : NoAttr K C_Space "_modes") : Dpr P w K mg base 5 C_Space "maps" ["self"] (p_Space_maps C_Space) := by
  refine dp_ok T sc_Space_maps prom_len (fun _ _ _ _ _ _ us hl => match us, hl with | [_], _ => rfl) (fun cdv A ou s H fa hr gd => ⟨_, (pss_cons (ps_if (pt_cmpR op_isN (pe_fldK K (pv 0)) pe_non (nomark _)) (pss_one (ps_fldK K (pv 0) (pe_callD d_monotone_maps (hr.mono (by decide)) gd (by rfl) (pa_cons (pe_fldK K (pv 0)) pa_nil)))) pss_nil) (pss_one (ps_ret (pe_fldK K (pv 0))))), ?_⟩)
  exact den_body (N := 1) (fs := B_Space_maps C_Space) (den_seq (den_ifs (den_test (den_op fo_isN (den_fld cl_Space na_Space__maps den_var) den_non)) (den_put cl_Space na_Space__maps den_var (den_call (den_cons (den_fld cl_Space na_Space__modes den_var) den_nil))) den_next) (den_ret (den_fld cl_Space na_Space__maps den_var)))
def B_step_between : WS := (sRet (eTup (aCons (eC (.str "do")) (aCons (eC (.str "go")) (aCons (eCB tupleF (aCons (eLc (iR1 (aCons (eVar 0) aNil)) (gNm 3) bYes (eIf (bTest (eOp (eqF false) (eVar 3) (eVar 1))) (eVar 2) (eC .non)) [3]) aNil)) aNil)))))
def F_step_between : FF := bodyF 4 (B_step_between)
abbrev p_step_between : PT0 := prom 3 (F_step_between)
theorem ok_step_between {P : Program} {w : World} {K : PySem.W.Frag} {mg : Str → Option Value} {base : Heap} {C_Space : Addr} {TB_FORMS : Addr} (T : Tx K mg "step_between" s_step_between) (m_tuple : mg "tuple" = none) (m_range : mg "range" = none) : Df P w K mg base 1 "step_between" ["modes", "old", "new"] p_step_between := by
  refine df_ok T sc_step_between prom_len (fun _ _ _ _ _ _ us hl => match us, hl with | [_, _, _], _ => rfl) (fun cdv A ou s H fa hr gd => ⟨_, (pss_one (ps_ret (pe_tup (pa_cons pe_str (pa_cons pe_str (pa_cons (pe_callTy (call_tupleK K) (by rfl) m_tuple (by decide +kernel) (pa_cons (pe_lc (own := [("mode", 3)]) rfl sc_step_between.nd (pi_range1 (by rfl) m_range (pa_cons (pv 0) pa_nil)) (blkOk_by (N := N_step_between) (sc := defScope s_step_between) (by decide +kernel)) (fun _ _ _ _ _ => (pg_name (i := 3) sc_step_between.nd rfl (.inl rfl))) (fun _ _ _ _ _ => pts_nil) (fun _ _ _ _ _ => (pe_ifExp (pt_cmpR (op_eqX K (units65 hr)) (pv 3) (pv 1) (nomark _)) (pv 2) pe_non))) pa_nil)) pa_nil)))))), ?_⟩)
  exact den_body (N := 4) (fs := B_step_between) (den_ret (den_tup (den_cons den_str (den_cons den_str (den_cons (den_cb fc_tuple (den_cons (den_lc (by simp) (den_ir1 (den_cons den_var den_nil)) den_gname den_yes (den_if (den_test (den_op fo_eq den_var den_var)) den_var den_non)) den_nil)) den_nil)))))
def B_way_from : WS := (sSeq (sIf (bTest (eOp (eqF false) (eCB lenF (aCons (eVar 2) aNil)) (eC (.int 0)))) (sRet (eTup (aCons (eC (.str "seq")) (aCons (eCall F_step_between 3 (aCons (eVar 0) (aCons (eVar 1) (aCons (eVar 1) aNil)))) (aCons (eTup (aCons (eC (.str "exit")) (aCons (eC (.str "win")) aNil))) aNil))))) sNext) (sRet (eOp addF (eTup (aCons (eC (.str "and")) aNil)) (eCB tupleF (aCons (eLc (iTupl (eVar 2)) (gNm 3) bYes (eCall F_step_between 3 (aCons (eVar 0) (aCons (eVar 1) (aCons (eVar 3) aNil)))) [3]) aNil)))))
def F_way_from : FF := bodyF 4 (B_way_from)
abbrev p_way_from : PT0 := prom 3 (F_way_from)
theorem ok_way_from {P : Program} {w : World} {K : PySem.W.Frag} {mg : Str → Option Value} {base : Heap} {C_Space : Addr} {TB_FORMS : Addr} (T : Tx K mg "way_from" s_way_from) (m_len : mg "len" = none) (c_LABEL : GlK mg "LABEL" (.str "win")) (d_step_between : Df P w K mg base 1 "step_between" ["modes", "old", "new"] p_step_between) (m_tuple : mg "tuple" = none) : Df P w K mg base 2 "way_from" ["modes", "mode", "members"] p_way_from := by
  refine df_ok T sc_way_from prom_len (fun _ _ _ _ _ _ us hl => match us, hl with | [_, _, _], _ => rfl) (fun cdv A ou s H fa hr gd => ⟨_, (pss_cons (ps_if (pt_cmpR (op_eqX K (units65 hr)) (pe_callB (call_lenK K) (by rfl) m_len (by decide +kernel) (pa_cons (pv 2) pa_nil)) pe_int (nomark _)) (pss_one (ps_ret (pe_tup (pa_cons pe_str (pa_cons (pe_callD d_step_between (hr.mono (by decide)) gd (by rfl) (pa_cons (pv 0) (pa_cons (pv 1) (pa_cons (pv 1) pa_nil)))) (pa_cons (pe_tup (pa_cons pe_str (pa_cons (pe_globK c_LABEL (by rfl)) pa_nil))) pa_nil)))))) pss_nil) (pss_one (ps_ret (pe_op (op_addX K) (pe_tup (pa_cons pe_str pa_nil)) (pe_callTy (call_tupleK K) (by rfl) m_tuple (by decide +kernel) (pa_cons (pe_lc (own := [("member", 3)]) rfl sc_way_from.nd (pi_tupK K (pv 2)) (blkOk_by (N := N_way_from) (sc := defScope s_way_from) (by decide +kernel)) (fun _ _ _ _ _ => (pg_name (i := 3) sc_way_from.nd rfl (.inl rfl))) (fun _ _ _ _ _ => pts_nil) (fun _ _ _ _ _ => (pe_callD d_step_between (hr.mono (by decide)) gd (by rfl) (pa_cons (pv 0) (pa_cons (pv 1) (pa_cons (pv 3) pa_nil)))))) pa_nil)))))), ?_⟩)
  exact den_body (N := 4) (fs := B_way_from) (den_seq (den_ifs (den_test (den_op fo_eq (den_cb fc_len (den_cons den_var den_nil)) den_int)) (den_ret (den_tup (den_cons den_str (den_cons (den_call (den_cons den_var (den_cons den_var (den_cons den_var den_nil)))) (den_cons (den_tup (den_cons den_str (den_cons den_str den_nil))) den_nil))))) den_next) (den_ret (den_op fo_add (den_tup (den_cons den_str den_nil)) (den_cb fc_tuple (den_cons (den_lc (by simp) (den_itup den_var) den_gname den_yes (den_call (den_cons den_var (den_cons den_var (den_cons den_var den_nil))))) den_nil)))))
def B_block_of (C_Space : Addr) : WS := (sSeq (sDrop (eCall F_check_modes 2 (aCons (eVar 0) (aCons (eC (.int 2)) aNil)))) (sSeq (sIf (bNot (bTru (eCall F_fits_monotone 2 (aCons (eVar 0) (aCons (eVar 1) aNil))))) sNever sNext) (sSeq (sSet 2 (eMake C_Space (F_Space___init__ C_Space) 2 (aCons (eVar 0) aNil))) (sSeq (sSet 3 (eLc2 (iR1 (aCons (eVar 0) aNil)) (gNm 4) bYes (iTupl (eMeth C_Space "least_sets" (F_Space_least_sets C_Space) 3 (eVar 2) (aCons (eVar 1) (aCons (eVar 4) aNil)))) (gNm 5) bYes (eTup (aCons (eVar 4) (aCons (eVar 5) aNil))) [4, 5] [5])) (sSeq (sIf (bTest (eOp (eqF false) (eCB lenF (aCons (eVar 3) aNil)) (eC (.int 0)))) (sRet (eTup (aCons (eC (.str "do")) (aCons (eC (.str "go")) (aCons (eCB tupleF (aCons (eLc (iR1 (aCons (eVar 0) aNil)) (gNm 6) bYes (eC .non) [6]) aNil)) aNil))))) sNext) (sRet (eOp addF (eTup (aCons (eC (.str "or")) aNil)) (eCB tupleF (aCons (eLc (iLst (eVar 3)) (gTp 2 (gsCons (gNm 4) (gsCons (gNm 5) gsNil))) bYes (eCall F_way_from 3 (aCons (eVar 0) (aCons (eVar 4) (aCons (eMeth C_Space "members" (F_Space_members C_Space) 2 (eVar 2) (aCons (eVar 5) aNil)) aNil)))) [4, 5]) aNil)))))))))
def F_block_of (C_Space : Addr) : FF := bodyF 7 (B_block_of C_Space)
abbrev p_block_of (C_Space : Addr) : PT0 := prom 2 (F_block_of C_Space)
theorem ok_block_of {P : Program} {w : World} {K : PySem.W.Frag} {mg : Str → Option Value} {base : Heap} {C_Space : Addr} {TB_FORMS : Addr} (T : Tx K mg "block_of" s_block_of) (d_check_modes : Df P w K mg base 4 "check_modes" ["modes", "most"] p_check_modes) (c_MAX_BLOCK_MODES : GlK mg "MAX_BLOCK_MODES" (.int 2)) (d_fits_monotone : Df P w K mg base 5 "fits_monotone" ["modes", "value"] p_fits_monotone) (k_Space : Kc K mg "Space" C_Space) (mk_Space : ∃ f, Mk K C_Space f) (q_Space___init__ : Dm P w K mg base 5 C_Space "__init__" ["self", "modes"] (p_Space___init__ C_Space)) (m_range : mg "range" = none) (q_Space_least_sets : Dm P w K mg base 7 C_Space "least_sets" ["self", "one", "mode"] (p_Space_least_sets C_Space)) (cl_Space : Cls K C_Space) (m_len : mg "len" = none) (m_tuple : mg "tuple" = none) (d_way_from : Df P w K mg base 2 "way_from" ["modes", "mode", "members"] p_way_from) (q_Space_members : Dm P w K mg base 4 C_Space "members" ["self", "number"] (p_Space_members C_Space)) : Df P w K mg base 8 "block_of" ["modes", "wanted"] (p_block_of C_Space) := by
  refine df_ok T sc_block_of prom_len (fun _ _ _ _ _ _ us hl => match us, hl with | [_, _], _ => rfl) (fun cdv A ou s H fa hr gd => ⟨_, (pss_cons (ps_expr (pe_callD d_check_modes (hr.mono (by decide)) gd (by rfl) (pa_cons (pv 0) (pa_cons (pe_globK c_MAX_BLOCK_MODES (by rfl)) pa_nil)))) (pss_cons (ps_if (pt_not (pt_truK K (pe_callD d_fits_monotone (hr.mono (by decide)) gd (by rfl) (pa_cons (pv 0) (pa_cons (pv 1) pa_nil))) (fun _ => rfl))) (pss_one ps_never) pss_nil) (pss_cons (ps_set (i := 2) sc_block_of.nd rfl (.inr rfl) (pe_makeD q_Space___init__ k_Space mk_Space (hr.mono (by decide)) gd (by rfl) (pa_cons (pv 0) pa_nil))) (pss_cons (ps_setLc2 (own := [("mode", 4), ("number", 5)]) (vs1 := [5]) (i := 3) rfl sc_block_of.nd rfl rfl (sw_true rfl rfl rfl (by decide +kernel)) (pi_range1 (by rfl) m_range (pa_cons (pv 0) pa_nil)) (blkOk_by (N := N_block_of) (sc := defScope s_block_of) (by decide +kernel)) (by decide) (fun _ _ _ _ _ => (pg_name (i := 4) sc_block_of.nd rfl (.inl rfl))) (fun _ _ _ _ _ => pts_nil) (fun _ _ _ _ _ => (pi_tupK K (pe_methD q_Space_least_sets cl_Space (hr.mono (by decide)) gd (pv 2) (pa_cons (pv 1) (pa_cons (pv 4) pa_nil))))) (fun _ _ _ _ _ => (pg_name (i := 5) sc_block_of.nd rfl (.inl rfl))) (fun _ _ _ _ _ => pts_nil) (fun _ _ _ _ _ => (pe_tup (pa_cons (pv 4) (pa_cons (pv 5) pa_nil))))) (pss_cons (ps_if (pt_cmpR (op_eqX K (units65 hr)) (pe_callB (call_lenK K) (by rfl) m_len (by decide +kernel) (pa_cons (pv 3) pa_nil)) pe_int (nomark _)) (pss_one (ps_ret (pe_tup (pa_cons pe_str (pa_cons pe_str (pa_cons (pe_callTy (call_tupleK K) (by rfl) m_tuple (by decide +kernel) (pa_cons (pe_lc (own := [("_", 6)]) rfl sc_block_of.nd (pi_range1 (by rfl) m_range (pa_cons (pv 0) pa_nil)) (blkOk_by (N := N_block_of) (sc := defScope s_block_of) (by decide +kernel)) (fun _ _ _ _ _ => (pg_name (i := 6) sc_block_of.nd rfl (.inl rfl))) (fun _ _ _ _ _ => pts_nil) (fun _ _ _ _ _ => pe_non)) pa_nil)) pa_nil)))))) pss_nil) (pss_one (ps_ret (pe_op (op_addX K) (pe_tup (pa_cons pe_str pa_nil)) (pe_callTy (call_tupleK K) (by rfl) m_tuple (by decide +kernel) (pa_cons (pe_lc (own := [("mode", 4), ("number", 5)]) rfl sc_block_of.nd (pi_listK K (pv 3)) (blkOk_by (N := N_block_of) (sc := defScope s_block_of) (by decide +kernel)) (fun _ _ _ _ _ => (pg_tupK K (n := 2) rfl (pgs_cons (pg_name (i := 4) sc_block_of.nd rfl (.inl rfl)) (pgs_cons (pg_name (i := 5) sc_block_of.nd rfl (.inl rfl)) pgs_nil)))) (fun _ _ _ _ _ => pts_nil) (fun _ _ _ _ _ => (pe_callD d_way_from (hr.mono (by decide)) gd (by rfl) (pa_cons (pv 0) (pa_cons (pv 4) (pa_cons (pe_methD q_Space_members cl_Space (hr.mono (by decide)) gd (pv 2) (pa_cons (pv 5) pa_nil)) pa_nil)))))) pa_nil)))))))))), ?_⟩)
  exact den_body (N := 7) (fs := B_block_of C_Space) (den_seq (den_drop (den_call (den_cons den_var (den_cons den_int den_nil)))) (den_seq (den_ifs (den_not (den_tru (den_call (den_cons den_var (den_cons den_var den_nil))))) den_never den_next) (den_seq (den_set (den_make (den_cons den_var den_nil))) (den_seq (den_set (den_lc2 (by simp) (by simp) (by simp) (den_ir1 (den_cons den_var den_nil)) den_gname den_yes (den_itup (den_meth den_var (den_cons den_var (den_cons den_var den_nil)))) den_gname den_yes (den_tup (den_cons den_var (den_cons den_var den_nil))))) (den_seq (den_ifs (den_test (den_op fo_eq (den_cb fc_len (den_cons den_var den_nil)) den_int)) (den_ret (den_tup (den_cons den_str (den_cons den_str (den_cons (den_cb fc_tuple (den_cons (den_lc (by simp) (den_ir1 (den_cons den_var den_nil)) den_gname den_yes den_non) den_nil)) den_nil))))) den_next) (den_ret (den_op fo_add (den_tup (den_cons den_str den_nil)) (den_cb fc_tuple (den_cons (den_lc (by simp) (den_ilst den_var) (den_gtup (den_gscons den_gname (den_gscons den_gname den_gsnil))) den_yes (den_call (den_cons den_var (den_cons den_var (den_cons (den_meth den_var (den_cons den_var den_nil)) den_nil))))) den_nil)))))))))
abbrev F__law_wheel : FF := F__law_numbers
abbrev F__law_spin : FF := F__law_cast
abbrev p__law_wheel : PT0 := prom 2 F__law_wheel
abbrev p__law_spin : PT0 := prom 2 F__law_spin
theorem len__law_wheel : ∀ ds M R, p__law_wheel ds M R → ds.length = 2 := prom_len
theorem len__law_spin : ∀ ds M R, p__law_spin ds M R → ds.length = 2 := prom_len
theorem ok__law_wheel {P : Program} {w : World} {K : PySem.W.Frag} {mg : Str → Option Value} {base : Heap} {C_Space : Addr} {TB_FORMS : Addr} (T : Tx K mg "_law_wheel" s__law_wheel) (m_len : mg "len" = none) (m_int : mg "int" = none) (m_abs : mg "abs" = none) (m_max : mg "max" = none) : Df P w K mg base 1 "_law_wheel" ["_law_script", "_law_at"] p__law_wheel := by
  refine df_ok T sc__law_wheel (len__law_wheel) (fun _ _ _ _ _ _ us hl => match us, hl with | [_, _], _ => rfl) (fun cdv A ou s H fa hr gd => ⟨_, (pss_cons (ps_set (i := 2) sc__law_wheel.nd rfl (.inl rfl) (pe_ifExp (pt_cmpR op_lt (pv 1) (pe_callB (call_lenK K) (by rfl) m_len (by decide +kernel) (pa_cons (pv 0) pa_nil)) (nomark _)) (pe_ix (ix_K K) (pv 0) (pv 1) (fun _ _ => rfl)) (pe_op (op_addK K) (pe_op op_mul pe_int (pv 1)) pe_int))) (pss_cons (ps_set (i := 3) sc__law_wheel.nd rfl (.inl rfl) (pe_op op_mod (pe_callTy call_int1 (by rfl) m_int (by decide +kernel) (pa_cons (pe_callB call_abs (by rfl) m_abs (by decide +kernel) (pa_cons (pv 2) pa_nil)) pa_nil)) (pe_op op_powN (pe_op op_powN pe_int pe_int) pe_int))) (pss_cons (ps_set (i := 4) sc__law_wheel.nd rfl (.inl rfl) (pe_op (op_addK K) (pe_op (op_addK K) (pe_op (op_addK K) (pe_op op_mul (pe_op op_mod (pe_callTy call_int1 (by rfl) m_int (by decide +kernel) (pa_cons (pv 3) pa_nil)) pe_int) pe_int) (pe_op op_mul pe_int (pv 1))) (pe_op op_mul pe_int (pe_callTy call_int1 (by rfl) m_int (by decide +kernel) (pa_cons (pe_cmpR op_lt (pv 2) pe_int (nomark _)) pa_nil)))) pe_int)) (pss_one (ps_ret (pe_lst (pa_cons (pe_callB (call_max2 rfl) (by rfl) m_max (by decide +kernel) (pa_cons pe_int (pa_cons (pe_op op_sub (pv 3) (pe_op op_powN pe_int pe_int)) pa_nil))) (pa_cons (pe_op op_mod (pe_callTy call_int1 (by rfl) m_int (by decide +kernel) (pa_cons (pv 4) pa_nil)) pe_int) (pa_cons pe_int pa_nil))))))))), ?_⟩)
  intro ds M R hh
  obtain ⟨ns, k, rfl, hl, q⟩ := numbers_of hh
  clear hh
  show DS K _ [some (.lst (ns.map D.int)), some (.int (k : Int)), none, none, none] M _
  walk_at "x0"
  have hk : ∀ h : k < ns.length, atI (ns.map D.int) (k : Int) = some (.int ns[k]) := fun h => by
    rw [atI_nat (j := k) (v := .int ns[k]) (by rw [List.getElem?_map, List.getElem?_eq_getElem h]; rfl)]
  walk_at "go"
  all_goals try (refine dr_ixLE ⟨_, hk (by rw [List.length_map] at *; omega), ?_⟩; walk_at "go")
  all_goals first
    | walk_at "mul"
    | exact ⟨by decide, by decide +kernel⟩
    | decide +kernel
    | (refine de_lstD ?_
       walk_at "go"
       all_goals first
         | exact ⟨by decide, by decide +kernel⟩
         | decide
         | exact ⟨⟨_, _, _, rfl⟩, fun p hp => q p hp⟩)
theorem ok__law_spin {P : Program} {w : World} {K : PySem.W.Frag} {mg : Str → Option Value} {base : Heap} {C_Space : Addr} {TB_FORMS : Addr} (T : Tx K mg "_law_spin" s__law_spin) (m_int : mg "int" = none) : Df P w K mg base 1 "_law_spin" ["_law_wheel_here", "_law_total"] p__law_spin := by
  refine df_ok T sc__law_spin (len__law_spin) (fun _ _ _ _ _ _ us hl => match us, hl with | [_, _], _ => rfl) (fun cdv A ou s H fa hr gd => ⟨_, (pss_cons (ps_if (pt_cmpR op_gt (pe_ix (ix_K K) (pv 0) pe_int (fun _ _ => rfl)) pe_int (nomark _)) (pss_cons (ps_set (i := 2) sc__law_spin.nd rfl (.inl rfl) (pe_op op_mod (pe_callTy call_int1 (by rfl) m_int (by decide +kernel) (pa_cons (pe_ix (ix_K K) (pv 0) pe_int (fun _ _ => rfl)) pa_nil)) (pv 1))) (pss_cons (ps_asg (pe_op op_fdiv (pe_ix (ix_K K) (pv 0) pe_int (fun _ _ => rfl)) (pv 1)) (pg_sub (pv 0) pe_int set_list)) (pss_one (ps_ret (pv 2))))) pss_nil) (pss_cons (ps_asg (pe_op (op_addK K) (pe_ix (ix_K K) (pv 0) pe_int (fun _ _ => rfl)) pe_int) (pg_sub (pv 0) pe_int set_list)) (pss_cons (ps_set (i := 3) sc__law_spin.nd rfl (.inl rfl) (pe_op op_mod (pe_callTy call_int1 (by rfl) m_int (by decide +kernel) (pa_cons (pe_op (op_addK K) (pe_ix (ix_K K) (pv 0) pe_int (fun _ _ => rfl)) (pe_op op_mul pe_int (pe_ix (ix_K K) (pv 0) pe_int (fun _ _ => rfl)))) pa_nil)) pe_int)) (pss_cons (ps_set (i := 4) sc__law_spin.nd rfl (.inl rfl) (pe_op (op_addK K) (pe_op op_mul (pe_op op_mod (pe_callTy call_int1 (by rfl) m_int (by decide +kernel) (pa_cons (pe_op op_mul (pv 3) (pv 3)) pa_nil)) pe_int) (pv 3)) (pe_op op_mul pe_int (pe_ix (ix_K K) (pv 0) pe_int (fun _ _ => rfl))))) (pss_one (ps_ret (pe_op op_mod (pe_callTy call_int1 (by rfl) m_int (by decide +kernel) (pa_cons (pe_op op_fdiv (pe_op op_mod (pe_callTy call_int1 (by rfl) m_int (by decide +kernel) (pa_cons (pv 4) pa_nil)) pe_int) pe_int) pa_nil)) (pv 1)))))))), ?_⟩)
  intro ds M R hh
  obtain ⟨p, n, rfl, hp, h0, h1, q⟩ := cast_of hh
  clear hh
  show DS K _ [some (.raw (.ref p)), some (.int n), none, none, none] M _
  walk_at "x0"
  walk_at "go"
  · exact h0
  · exact ⟨h0, by omega⟩
  · refine ⟨[], dg_die (p := p) (j := 0) (by decide) ?_⟩
    walk_at "go"
    refine ⟨rfl, ?_⟩
    walk_at "go"
    refine ⟨rfl, hp, ?_⟩
    walk_at "go"
    exact q _ (Int.emod_nonneg _ (by omega)) (Int.emod_lt_of_pos _ h0)
  · refine ⟨[], dg_die (p := p) (j := 2) (by decide) ?_⟩
    walk_at "go"
    refine ⟨rfl, ?_⟩
    walk_at "go"
    refine ⟨rfl, hp, ?_⟩
    walk_at "go"
    · walk_at "mul"
    · decide
    · rename_i a b
      have l0 := Int.emod_nonneg (a + 681463489 * b) (show (2305843009213693879 : Int) ≠ 0 by decide)
      have l1 := Int.emod_lt_of_pos (a + 681463489 * b) (show (0 : Int) < 2305843009213693879 by decide)
      exact Or.inl ⟨by omega, by omega⟩
    · decide
    · rename_i a b
      have l0 := Int.emod_nonneg (a + 681463489 * b) (show (2305843009213693879 : Int) ≠ 0 by decide)
      have l1 := Int.emod_lt_of_pos (a + 681463489 * b) (show (0 : Int) < 2305843009213693879 by decide)
      exact Or.inr ⟨by omega, by omega⟩
    · walk_at "mul"
    · decide
    · exact ⟨by decide, by decide⟩
    · exact h0
    · exact q _ (Int.emod_nonneg _ (by omega)) (Int.emod_lt_of_pos _ h0)
def B__law_pick : WS := (sRet (eOp ixF (eVar 1) (eCall F__law_spin 2 (aCons (eVar 0) (aCons (eCB lenF (aCons (eVar 1) aNil)) aNil)))))
def F__law_pick : FF := bodyF 2 (B__law_pick)
abbrev p__law_pick : PT0 := prom 2 (F__law_pick)
theorem ok__law_pick {P : Program} {w : World} {K : PySem.W.Frag} {mg : Str → Option Value} {base : Heap} {C_Space : Addr} {TB_FORMS : Addr} (T : Tx K mg "_law_pick" s__law_pick) (d__law_spin : Df P w K mg base 1 "_law_spin" ["_law_wheel_here", "_law_total"] p__law_spin) (m_len : mg "len" = none) : Df P w K mg base 2 "_law_pick" ["_law_wheel_here", "_law_items"] p__law_pick := by
  refine df_ok T sc__law_pick prom_len (fun _ _ _ _ _ _ us hl => match us, hl with | [_, _], _ => rfl) (fun cdv A ou s H fa hr gd => ⟨_, (pss_one (ps_ret (pe_ix (ix_K K) (pv 1) (pe_callD d__law_spin (hr.mono (by decide)) gd (by rfl) (pa_cons (pv 0) (pa_cons (pe_callB (call_lenK K) (by rfl) m_len (by decide +kernel) (pa_cons (pv 1) pa_nil)) pa_nil))) (fun _ _ => rfl)))), ?_⟩)
  exact den_body (N := 2) (fs := B__law_pick) (den_ret (den_op fo_ix den_var (den_call (den_cons den_var (den_cons (den_cb fc_len (den_cons den_var den_nil)) den_nil)))))
def B__law_has : WS := (sRet (eOp (eqF false) (eOp (icF cPos fun i j => i % j) (eOp (icF cDiv fun i j => i / j) (eVar 0) (eOp ixF (eLst (aCons (eC (.int 1)) (aCons (eC (.int 2)) (aCons (eC (.int 4)) aNil)))) (eVar 1))) (eC (.int 2))) (eC (.int 1))))
def F__law_has : FF := bodyF 2 (B__law_has)
abbrev p__law_has : PT0 := prom 2 (F__law_has)
theorem ok__law_has {P : Program} {w : World} {K : PySem.W.Frag} {mg : Str → Option Value} {base : Heap} {C_Space : Addr} {TB_FORMS : Addr} (T : Tx K mg "_law_has" s__law_has)  : Df P w K mg base 1 "_law_has" ["_law_number", "_law_mode"] p__law_has := by
  refine df_ok T sc__law_has prom_len (fun _ _ _ _ _ _ us hl => match us, hl with | [_, _], _ => rfl) (fun cdv A ou s H fa hr gd => ⟨_, (pss_one (ps_ret (pe_cmpR (op_eqX K (units65 hr)) (pe_op op_mod (pe_op op_fdiv (pv 0) (pe_ix (ix_K K) (pe_lst (pa_cons pe_int (pa_cons pe_int (pa_cons pe_int pa_nil)))) (pv 1) (fun _ _ => rfl))) pe_int) pe_int (nomark _)))), ?_⟩)
  exact den_body (N := 2) (fs := B__law_has) (den_ret (den_op fo_eq (den_op (fo_ic cPos_of) (den_op (fo_ic cDiv_of) den_var (den_op fo_ix (den_lst (den_cons den_int (den_cons den_int (den_cons den_int den_nil)))) den_var)) den_int) den_int))
def B__law_set : WS := (sRet (eCB sumF (aCons (eLc (iLst (eVar 0)) (gNm 1) bYes (eOp ixF (eLst (aCons (eC (.int 1)) (aCons (eC (.int 2)) (aCons (eC (.int 4)) aNil)))) (eVar 1)) [1]) aNil)))
def F__law_set : FF := bodyF 2 (B__law_set)
abbrev p__law_set : PT0 := prom 1 (F__law_set)
theorem ok__law_set {P : Program} {w : World} {K : PySem.W.Frag} {mg : Str → Option Value} {base : Heap} {C_Space : Addr} {TB_FORMS : Addr} (T : Tx K mg "_law_set" s__law_set) (m_sum : mg "sum" = none) : Df P w K mg base 1 "_law_set" ["_law_members"] p__law_set := by
  refine df_ok T sc__law_set prom_len (fun _ _ _ _ _ _ us hl => match us, hl with | [_], _ => rfl) (fun cdv A ou s H fa hr gd => ⟨_, (pss_one (ps_ret (pe_callB (call_sumK K) (by rfl) m_sum (by decide +kernel) (pa_cons (pe_lc (own := [("_law_mode", 1)]) rfl sc__law_set.nd (pi_listK K (pv 0)) (blkOk_by (N := N__law_set) (sc := defScope s__law_set) (by decide +kernel)) (fun _ _ _ _ _ => (pg_name (i := 1) sc__law_set.nd rfl (.inl rfl))) (fun _ _ _ _ _ => pts_nil) (fun _ _ _ _ _ => (pe_ix (ix_K K) (pe_lst (pa_cons pe_int (pa_cons pe_int (pa_cons pe_int pa_nil)))) (pv 1) (fun _ _ => rfl)))) pa_nil)))), ?_⟩)
  exact den_body (N := 2) (fs := B__law_set) (den_ret (den_cb fc_sum (den_cons (den_lc (by simp) (den_ilst den_var) den_gname den_yes (den_op fo_ix (den_lst (den_cons den_int (den_cons den_int (den_cons den_int den_nil)))) den_var)) den_nil)))
def B__law_whole : WS := (sRet (eOp ixF (eLst (aCons (eC (.int 0)) (aCons (eC (.int 1)) (aCons (eC (.int 3)) (aCons (eC (.int 7)) aNil))))) (eVar 0)))
def F__law_whole : FF := bodyF 1 (B__law_whole)
abbrev p__law_whole : PT0 := prom 1 (F__law_whole)
theorem ok__law_whole {P : Program} {w : World} {K : PySem.W.Frag} {mg : Str → Option Value} {base : Heap} {C_Space : Addr} {TB_FORMS : Addr} (T : Tx K mg "_law_whole" s__law_whole)  : Df P w K mg base 1 "_law_whole" ["_law_modes"] p__law_whole := by
  refine df_ok T sc__law_whole prom_len (fun _ _ _ _ _ _ us hl => match us, hl with | [_], _ => rfl) (fun cdv A ou s H fa hr gd => ⟨_, (pss_one (ps_ret (pe_ix (ix_K K) (pe_lst (pa_cons pe_int (pa_cons pe_int (pa_cons pe_int (pa_cons pe_int pa_nil))))) (pv 0) (fun _ _ => rfl)))), ?_⟩)
  exact den_body (N := 1) (fs := B__law_whole) (den_ret (den_op fo_ix (den_lst (den_cons den_int (den_cons den_int (den_cons den_int (den_cons den_int den_nil))))) den_var))
def B__law_joined : WS := (sSeq (sOwn 3 aNil) (sSeq (sFor (iR1 (aCons (eVar 0) aNil)) (gNm 4) (sSeq (sSet 5 (eLc (iLst (eVar 1)) (gNm 6) (bTru (eCall F__law_has 2 (aCons (eVar 6) (aCons (eVar 4) aNil)))) (eVar 6) [6])) (sIf (bAnd (bTest (eOp (eqF true) (eVar 5) (eLst aNil))) (bOr (bNot (bTru (eVar 2))) (bTest (eOp (eqF false) (eCB lenF (aCons (eVar 5) aNil)) (eCB lenF (aCons (eVar 1) aNil)))))) (sDrop (eApp 3 (eVar 4))) sNext))) (sFrz 3 (sRet (eCall F__law_set 1 (aCons (eVar 3) aNil))))))
def F__law_joined : FF := bodyF 7 (B__law_joined)
abbrev p__law_joined : PT0 := prom 3 (F__law_joined)
theorem ok__law_joined {P : Program} {w : World} {K : PySem.W.Frag} {mg : Str → Option Value} {base : Heap} {C_Space : Addr} {TB_FORMS : Addr} (T : Tx K mg "_law_joined" s__law_joined) (m_range : mg "range" = none) (d__law_has : Df P w K mg base 1 "_law_has" ["_law_number", "_law_mode"] p__law_has) (m_len : mg "len" = none) (d__law_set : Df P w K mg base 1 "_law_set" ["_law_members"] p__law_set) : Df P w K mg base 2 "_law_joined" ["_law_modes", "_law_sets", "_law_is_every"] p__law_joined := by
  refine df_ok T sc__law_joined prom_len (fun _ _ _ _ _ _ us hl => match us, hl with | [_, _, _], _ => rfl) (fun cdv A ou s H fa hr gd => ⟨_, (pss_cons (ps_set (i := 3) sc__law_joined.nd rfl (.inl rfl) (pe_lst pa_nil)) (pss_cons (ps_for PassesOwn.never rfl (pi_range1 (by rfl) m_range (pa_cons (pv 0) pa_nil)) (pg_name (i := 4) sc__law_joined.nd rfl (.inr rfl)) (pss_cons (ps_setLc (own := [("_law_number", 6)]) (i := 5) rfl sc__law_joined.nd rfl rfl (sw_true rfl rfl rfl (by decide +kernel)) (pi_listK K (pv 1)) (blkOk_by (N := N__law_joined) (sc := defScope s__law_joined) (by decide +kernel)) (fun _ _ _ _ _ => (pg_name (i := 6) sc__law_joined.nd rfl (.inl rfl))) (fun _ _ _ _ _ => (pts_one (pt_truK K (pe_callD d__law_has (hr.mono (by decide)) gd (by rfl) (pa_cons (pv 6) (pa_cons (pv 4) pa_nil))) (fun _ => rfl)))) (fun _ _ _ _ _ => (pv 6))) (pss_one (ps_if (PW.pt (pw_and (pt_cmpR (op_neX K (units65 hr)) (pv 5) (pe_lst pa_nil) (nomark _)) (pw_and1 (PW.pt (pw_or (pt_not (pt_truK K (pv 2) (fun _ => rfl))) (pw_or1 (pt_cmpR (op_eqX K (units65 hr)) (pe_callB (call_lenK K) (by rfl) m_len (by decide +kernel) (pa_cons (pv 5) pa_nil)) (pe_callB (call_lenK K) (by rfl) m_len (by decide +kernel) (pa_cons (pv 1) pa_nil)) (nomark _)))))))) (pss_one (ps_expr (pe_bmK K PySem.F.plainAttrs_list PySem.F.slot_list_append PySem.F.type_list_append mt_append (pv 3) (pa_cons (pv 4) pa_nil)))) pss_nil)))) (pss_one (ps_ret (pe_callD d__law_set (hr.mono (by decide)) gd (by rfl) (pa_cons (pv 3) pa_nil)))))), ?_⟩)
  exact den_body (N := 7) (fs := B__law_joined) (den_seq (den_own den_nil) (den_seq (den_for (den_ir1 (den_cons den_var den_nil)) den_gname (den_seq (den_set (den_lc (by simp) (den_ilst den_var) den_gname (den_tru (den_call (den_cons den_var (den_cons den_var den_nil)))) den_var)) (den_ifs (den_and (den_test (den_op fo_eq den_var (den_lst den_nil))) (den_or (den_not (den_tru den_var)) (den_test (den_op fo_eq (den_cb fc_len (den_cons den_var den_nil)) (den_cb fc_len (den_cons den_var den_nil)))))) (den_drop (den_app den_var)) den_next))) (den_frz (den_ret (den_call (den_cons den_var den_nil))))))
def B__law_good (rec : FF) : WS := (sSeq (sSet 5 (eOp ixF (eVar 1) (eC (.int 0)))) (sSeq (sIf (bTest (eOp (eqF false) (eVar 5) (eC (.str "do")))) (sSeq (sSet 6 (eListEn (aCons (eOp ixF (eVar 1) (eC (.int 2))) aNil))) (sRet (eCall F__law_set 1 (aCons (eLc (iLst (eVar 6)) (gTp 2 (gsCons (gNm 10) (gsCons (gNm 11) gsNil))) (bAnd (bTest (eOp (isNF true) (eVar 11) (eC .non))) (bTru (eCall F__law_has 2 (aCons (eVar 3) (aCons (eVar 11) aNil))))) (eVar 10) [10, 11]) aNil)))) sNext) (sSeq (sIf (bTest (eOp (eqF false) (eVar 5) (eC (.str "seq")))) (sSeq (sFor (iTupl (eRev (eSl (eVar 1) (oPt (eC (.int 1))) oNo))) (gNm 7) (sSet 3 (eCall rec 5 (aCons (eVar 0) (aCons (eVar 7) (aCons (eVar 2) (aCons (eVar 3) (aCons (eVar 4) aNil)))))))) (sRet (eVar 3))) sNext) (sSeq (sIf (bTest (eOp (inF false) (eVar 5) (eLst (aCons (eC (.str "or")) (aCons (eC (.str "and")) aNil))))) (sSeq (sSet 8 (eLc (iTupl (eSl (eVar 1) (oPt (eC (.int 1))) oNo)) (gNm 7) bYes (eCall rec 5 (aCons (eVar 0) (aCons (eVar 7) (aCons (eVar 2) (aCons (eVar 3) (aCons (eVar 4) aNil)))))) [7])) (sRet (eCall F__law_joined 3 (aCons (eVar 0) (aCons (eVar 8) (aCons (eOp (eqF false) (eVar 5) (eC (.str "and"))) aNil)))))) sNext) (sSeq (sIf (bTest (eOp (eqF false) (eVar 5) (eC (.str "case")))) (sSeq sNever (sRet (eCall F__law_set 1 (aCons (eLc (iLst (eVar 9)) (gTp 2 (gsCons (gNm 10) (gsCons (gNm 12) gsNil))) (bTru (eCall F__law_has 2 (aCons (eVar 12) (aCons (eVar 10) aNil)))) (eVar 10) [10, 12]) aNil)))) sNext) (sSeq (sIf (bTest (eOp (eqF false) (eVar 5) (eC (.str "run")))) (sRet (eOp ixF (eGet (eOp ixF (eVar 2) (eC (.int 0))) (eOp ixF (eVar 1) (eC (.int 1)))) (eVar 3))) sNext) (sSeq (sIf (bTest (eOp (eqF false) (eVar 5) (eC (.str "exit")))) (sRet (eGet (eOp ixF (eVar 2) (eC (.int 1))) (eOp ixF (eVar 1) (eC (.int 1))))) sNext) (sSeq (sIf (bTest (eOp (eqF false) (eVar 5) (eC (.str "raise")))) (sRet (eOp ixF (eGet (eOp ixF (eVar 2) (eC (.int 2))) (eOp ixF (eVar 1) (eC (.int 1)))) (eVar 3))) sNext) sNever))))))))
def F__law_good : Nat → FF
  | 0 => fun _ _ _ => False
  | n + 1 => bodyF 13 (B__law_good (F__law_good n))
abbrev p__law_good : PT0 := prom 5 (F__law_good 6)
theorem okn__law_good {P : Program} {w : World} {K : PySem.W.Frag} {mg : Str → Option Value} {base : Heap} {C_Space : Addr} {TB_FORMS : Addr} (T : Tx K mg "_law_good" s__law_good) (m_list : mg "list" = none) (m_enumerate : mg "enumerate" = none) (d__law_set : Df P w K mg base 1 "_law_set" ["_law_members"] p__law_set) (d__law_has : Df P w K mg base 1 "_law_has" ["_law_number", "_law_mode"] p__law_has) (d__law_joined : Df P w K mg base 2 "_law_joined" ["_law_modes", "_law_sets", "_law_is_every"] p__law_joined) : ∀ n : Nat, Df P w K mg base (3 + n) "_law_good" ["_law_modes", "_law_term", "_law_view", "_law_good_here", "_law_books"] (prom 5 (F__law_good n))
  | 0 => df_ok (k := 2) T sc__law_good prom_len (fun _ _ _ _ _ _ us hl => match us, hl with | [_, _, _, _, _], _ => rfl) fun cdv A ou s H fa hr gd => ⟨_, pss_none, fun ds M R ⟨_, _, _, _, _, z, _⟩ => z.elim⟩
  | n + 1 => by
    have d__law_good := okn__law_good (w := w) (P := P) (base := base) (C_Space := C_Space) (TB_FORMS := TB_FORMS) T m_list m_enumerate d__law_set d__law_has d__law_joined n
    refine df_ok (k := 3 + n) T sc__law_good prom_len (fun _ _ _ _ _ _ us hl => match us, hl with | [_, _, _, _, _], _ => rfl) (fun cdv A ou s H fa hr gd => ⟨_, (pss_cons (ps_set (i := 5) sc__law_good.nd rfl (.inl rfl) (pe_ix (ix_K K) (pv 1) pe_int (fun _ _ => rfl))) (pss_cons (ps_if (pt_cmpR (op_eqX K (units65 hr)) (pv 5) pe_str (nomark _)) (pss_cons (ps_set (i := 6) sc__law_good.nd rfl (.inl rfl) (pe_listEn K rfl (by rfl) m_list (by rfl) m_enumerate (pa_cons (pe_ix (ix_K K) (pv 1) pe_int (fun _ _ => rfl)) pa_nil))) (pss_one (ps_ret (pe_callD d__law_set (hr.mono (by omega)) gd (by rfl) (pa_cons (pe_lc (own := [("_law_mode", 10), ("_law_later", 11)]) rfl sc__law_good.nd (pi_listK K (pv 6)) (blkOk_by (N := N__law_good) (sc := defScope s__law_good) (by decide +kernel)) (fun _ _ _ _ _ => (pg_tupK K (n := 2) rfl (pgs_cons (pg_name (i := 10) sc__law_good.nd rfl (.inl rfl)) (pgs_cons (pg_name (i := 11) sc__law_good.nd rfl (.inl rfl)) pgs_nil)))) (fun _ _ _ _ _ => (pts_one (PW.pt (pw_and (pt_cmpR op_notN (pv 11) pe_non (nomark _)) (pw_and1 (pt_truK K (pe_callD d__law_has (hr.mono (by omega)) gd (by rfl) (pa_cons (pv 3) (pa_cons (pv 11) pa_nil))) (fun _ => rfl))))))) (fun _ _ _ _ _ => (pv 10))) pa_nil))))) pss_nil) (pss_cons (ps_if (pt_cmpR (op_eqX K (units65 hr)) (pv 5) pe_str (nomark _)) (pss_cons (ps_for PassesOwn.never rfl (pi_tupK K (pe_revT K (pe_slice (sl_anyK K) (pv 1) (po_some pe_int) po_none))) (pg_name (i := 7) sc__law_good.nd rfl (.inl rfl)) (pss_one (ps_set (i := 3) sc__law_good.nd rfl (.inr rfl) (pe_callD d__law_good (hr.mono (by omega)) gd (by rfl) (pa_cons (pv 0) (pa_cons (pv 7) (pa_cons (pv 2) (pa_cons (pv 3) (pa_cons (pv 4) pa_nil))))))))) (pss_one (ps_ret (pv 3)))) pss_nil) (pss_cons (ps_if (pt_cmpR (op_inX K (units65 hr)) (pv 5) (pe_lst (pa_cons pe_str (pa_cons pe_str pa_nil))) (by rfl)) (pss_cons (ps_setLc (own := [("_law_inner_here", 7)]) (i := 8) rfl sc__law_good.nd rfl rfl (sw_true rfl rfl rfl (by decide +kernel)) (pi_tupK K (pe_slice (sl_anyK K) (pv 1) (po_some pe_int) po_none)) (blkOk_by (N := N__law_good) (sc := defScope s__law_good) (by decide +kernel)) (fun _ _ _ _ _ => (pg_name (i := 7) sc__law_good.nd rfl (.inl rfl))) (fun _ _ _ _ _ => pts_nil) (fun _ _ _ _ _ => (pe_callD d__law_good (hr.mono (by omega)) gd (by rfl) (pa_cons (pv 0) (pa_cons (pv 7) (pa_cons (pv 2) (pa_cons (pv 3) (pa_cons (pv 4) pa_nil)))))))) (pss_one (ps_ret (pe_callD d__law_joined (hr.mono (by omega)) gd (by rfl) (pa_cons (pv 0) (pa_cons (pv 8) (pa_cons (pe_cmpR (op_eqX K (units65 hr)) (pv 5) pe_str (nomark _)) pa_nil))))))) pss_nil) (pss_cons (ps_if (pt_cmpR (op_eqX K (units65 hr)) (pv 5) pe_str (nomark _)) (pss_cons ps_never (pss_one (ps_ret (pe_callD d__law_set (hr.mono (by omega)) gd (by rfl) (pa_cons (pe_lc (own := [("_law_mode", 10), ("_law_number", 12)]) rfl sc__law_good.nd (pi_listK K (pv 9)) (blkOk_by (N := N__law_good) (sc := defScope s__law_good) (by decide +kernel)) (fun _ _ _ _ _ => (pg_tupK K (n := 2) rfl (pgs_cons (pg_name (i := 10) sc__law_good.nd rfl (.inl rfl)) (pgs_cons (pg_name (i := 12) sc__law_good.nd rfl (.inl rfl)) pgs_nil)))) (fun _ _ _ _ _ => (pts_one (pt_truK K (pe_callD d__law_has (hr.mono (by omega)) gd (by rfl) (pa_cons (pv 12) (pa_cons (pv 10) pa_nil))) (fun _ => rfl)))) (fun _ _ _ _ _ => (pv 10))) pa_nil))))) pss_nil) (pss_cons (ps_if (pt_cmpR (op_eqX K (units65 hr)) (pv 5) pe_str (nomark _)) (pss_one (ps_ret (pe_ix (ix_K K) (pe_dget (units2 hr) (pe_ix (ix_K K) (pv 2) pe_int (fun _ _ => rfl)) (pe_ix (ix_K K) (pv 1) pe_int (fun _ _ => rfl)) (fun _ _ => rfl)) (pv 3) (fun _ _ => rfl)))) pss_nil) (pss_cons (ps_if (pt_cmpR (op_eqX K (units65 hr)) (pv 5) pe_str (nomark _)) (pss_one (ps_ret (pe_dget (units2 hr) (pe_ix (ix_K K) (pv 2) pe_int (fun _ _ => rfl)) (pe_ix (ix_K K) (pv 1) pe_int (fun _ _ => rfl)) (fun _ _ => rfl)))) pss_nil) (pss_cons (ps_if (pt_cmpR (op_eqX K (units65 hr)) (pv 5) pe_str (nomark _)) (pss_one (ps_ret (pe_ix (ix_K K) (pe_dget (units2 hr) (pe_ix (ix_K K) (pv 2) pe_int (fun _ _ => rfl)) (pe_ix (ix_K K) (pv 1) pe_int (fun _ _ => rfl)) (fun _ _ => rfl)) (pv 3) (fun _ _ => rfl)))) pss_nil) (pss_one ps_never))))))))), ?_⟩)
    exact den_body (N := 13) (fs := B__law_good (F__law_good n)) (den_seq (den_set (den_op fo_ix den_var den_int)) (den_seq (den_ifs (den_test (den_op fo_eq den_var den_str)) (den_seq (den_set (den_listEn (den_cons (den_op fo_ix den_var den_int) den_nil))) (den_ret (den_call (den_cons (den_lc (by simp) (den_ilst den_var) (den_gtup (den_gscons den_gname (den_gscons den_gname den_gsnil))) (den_and (den_test (den_op fo_notN den_var den_non)) (den_tru (den_call (den_cons den_var (den_cons den_var den_nil))))) den_var) den_nil)))) den_next) (den_seq (den_ifs (den_test (den_op fo_eq den_var den_str)) (den_seq (den_for (den_itup (den_rev (den_sl den_var (den_opt den_int) den_ono))) den_gname (den_set (den_call (den_cons den_var (den_cons den_var (den_cons den_var (den_cons den_var (den_cons den_var den_nil)))))))) (den_ret den_var)) den_next) (den_seq (den_ifs (den_test (den_op fo_in den_var (den_lst (den_cons den_str (den_cons den_str den_nil))))) (den_seq (den_set (den_lc (by simp) (den_itup (den_sl den_var (den_opt den_int) den_ono)) den_gname den_yes (den_call (den_cons den_var (den_cons den_var (den_cons den_var (den_cons den_var (den_cons den_var den_nil)))))))) (den_ret (den_call (den_cons den_var (den_cons den_var (den_cons (den_op fo_eq den_var den_str) den_nil)))))) den_next) (den_seq (den_ifs (den_test (den_op fo_eq den_var den_str)) (den_seq den_never (den_ret (den_call (den_cons (den_lc (by simp) (den_ilst den_var) (den_gtup (den_gscons den_gname (den_gscons den_gname den_gsnil))) (den_tru (den_call (den_cons den_var (den_cons den_var den_nil)))) den_var) den_nil)))) den_next) (den_seq (den_ifs (den_test (den_op fo_eq den_var den_str)) (den_ret (den_op fo_ix (den_get (den_op fo_ix den_var den_int) (den_op fo_ix den_var den_int)) den_var)) den_next) (den_seq (den_ifs (den_test (den_op fo_eq den_var den_str)) (den_ret (den_get (den_op fo_ix den_var den_int) (den_op fo_ix den_var den_int))) den_next) (den_seq (den_ifs (den_test (den_op fo_eq den_var den_str)) (den_ret (den_op fo_ix (den_get (den_op fo_ix den_var den_int) (den_op fo_ix den_var den_int)) den_var)) den_next) den_never))))))))
theorem ok__law_good {P : Program} {w : World} {K : PySem.W.Frag} {mg : Str → Option Value} {base : Heap} {C_Space : Addr} {TB_FORMS : Addr} (T : Tx K mg "_law_good" s__law_good) (m_list : mg "list" = none) (m_enumerate : mg "enumerate" = none) (d__law_set : Df P w K mg base 1 "_law_set" ["_law_members"] p__law_set) (d__law_has : Df P w K mg base 1 "_law_has" ["_law_number", "_law_mode"] p__law_has) (d__law_joined : Df P w K mg base 2 "_law_joined" ["_law_modes", "_law_sets", "_law_is_every"] p__law_joined) : Df P w K mg base 9 "_law_good" ["_law_modes", "_law_term", "_law_view", "_law_good_here", "_law_books"] p__law_good := okn__law_good (C_Space := C_Space) (TB_FORMS := TB_FORMS) T m_list m_enumerate d__law_set d__law_has d__law_joined 6
def B__law_map : WS := (sRet (eCB tupleF (aCons (eLc (iR1 (aCons (eOp addF (eCall F__law_whole 1 (aCons (eVar 0) aNil)) (eC (.int 1))) aNil)) (gNm 4) bYes (eCall (F__law_good 6) 5 (aCons (eVar 0) (aCons (eVar 1) (aCons (eVar 2) (aCons (eVar 4) (aCons (eVar 3) aNil)))))) [4]) aNil)))
def F__law_map : FF := bodyF 5 (B__law_map)
abbrev p__law_map : PT0 := prom 4 (F__law_map)
theorem ok__law_map {P : Program} {w : World} {K : PySem.W.Frag} {mg : Str → Option Value} {base : Heap} {C_Space : Addr} {TB_FORMS : Addr} (T : Tx K mg "_law_map" s__law_map) (m_tuple : mg "tuple" = none) (m_range : mg "range" = none) (d__law_whole : Df P w K mg base 1 "_law_whole" ["_law_modes"] p__law_whole) (d__law_good : Df P w K mg base 9 "_law_good" ["_law_modes", "_law_term", "_law_view", "_law_good_here", "_law_books"] p__law_good) : Df P w K mg base 10 "_law_map" ["_law_modes", "_law_term", "_law_view", "_law_books"] p__law_map := by
  refine df_ok T sc__law_map prom_len (fun _ _ _ _ _ _ us hl => match us, hl with | [_, _, _, _], _ => rfl) (fun cdv A ou s H fa hr gd => ⟨_, (pss_one (ps_ret (pe_callTy (call_tupleK K) (by rfl) m_tuple (by decide +kernel) (pa_cons (pe_lc (own := [("_law_good_here", 4)]) rfl sc__law_map.nd (pi_range1 (by rfl) m_range (pa_cons (pe_op (op_addX K) (pe_callD d__law_whole (hr.mono (by decide)) gd (by rfl) (pa_cons (pv 0) pa_nil)) pe_int) pa_nil)) (blkOk_by (N := N__law_map) (sc := defScope s__law_map) (by decide +kernel)) (fun _ _ _ _ _ => (pg_name (i := 4) sc__law_map.nd rfl (.inl rfl))) (fun _ _ _ _ _ => pts_nil) (fun _ _ _ _ _ => (pe_callD d__law_good (hr.mono (by decide)) gd (by rfl) (pa_cons (pv 0) (pa_cons (pv 1) (pa_cons (pv 2) (pa_cons (pv 4) (pa_cons (pv 3) pa_nil)))))))) pa_nil)))), ?_⟩)
  exact den_body (N := 5) (fs := B__law_map) (den_ret (den_cb fc_tuple (den_cons (den_lc (by simp) (den_ir1 (den_cons (den_op fo_add (den_call (den_cons den_var den_nil)) den_int) den_nil)) den_gname den_yes (den_call (den_cons den_var (den_cons den_var (den_cons den_var (den_cons den_var (den_cons den_var den_nil))))))) den_nil)))
def B__law_is_over : WS := (sRet (eOp (eqF false) (eLc (iLst (eVar 2)) (gNm 3) (bTest (eOp (eqF true) (eCall F__law_joined 3 (aCons (eVar 0) (aCons (eLst (aCons (eVar 3) (aCons (eVar 1) aNil))) (aCons (eC (.bl false)) aNil)))) (eVar 1))) (eC (.int 1)) [3]) (eLst aNil)))
def F__law_is_over : FF := bodyF 4 (B__law_is_over)
abbrev p__law_is_over : PT0 := prom 3 (F__law_is_over)
theorem ok__law_is_over {P : Program} {w : World} {K : PySem.W.Frag} {mg : Str → Option Value} {base : Heap} {C_Space : Addr} {TB_FORMS : Addr} (T : Tx K mg "_law_is_over" s__law_is_over) (d__law_joined : Df P w K mg base 2 "_law_joined" ["_law_modes", "_law_sets", "_law_is_every"] p__law_joined) : Df P w K mg base 3 "_law_is_over" ["_law_modes", "_law_number", "_law_less"] p__law_is_over := by
  refine df_ok T sc__law_is_over prom_len (fun _ _ _ _ _ _ us hl => match us, hl with | [_, _, _], _ => rfl) (fun cdv A ou s H fa hr gd => ⟨_, (pss_one (ps_ret (pe_cmpR (op_eqX K (units65 hr)) (pe_lc (own := [("_law_part", 3)]) rfl sc__law_is_over.nd (pi_listK K (pv 2)) (blkOk_by (N := N__law_is_over) (sc := defScope s__law_is_over) (by decide +kernel)) (fun _ _ _ _ _ => (pg_name (i := 3) sc__law_is_over.nd rfl (.inl rfl))) (fun _ _ _ _ _ => (pts_one (pt_cmpR (op_neX K (units65 hr)) (pe_callD d__law_joined (hr.mono (by decide)) gd (by rfl) (pa_cons (pv 0) (pa_cons (pe_lst (pa_cons (pv 3) (pa_cons (pv 1) pa_nil))) (pa_cons pe_bl pa_nil)))) (pv 1) (nomark _)))) (fun _ _ _ _ _ => pe_int)) (pe_lst pa_nil) (nomark _)))), ?_⟩)
  exact den_body (N := 4) (fs := B__law_is_over) (den_ret (den_op fo_eq (den_lc (by simp) (den_ilst den_var) den_gname (den_test (den_op fo_eq (den_call (den_cons den_var (den_cons (den_lst (den_cons den_var (den_cons den_var den_nil))) (den_cons den_bl den_nil)))) den_var)) den_int) (den_lst den_nil)))
def B__law_rows : WS := (sSeq (sSet 1 (eListRg (eOp addF (eCall F__law_whole 1 (aCons (eVar 0) aNil)) (eC (.int 1))))) (sSeq (sSet 2 (eLst (aCons (eTup aNil) aNil))) (sSeq (sFor (iLst (eVar 1)) (gNm 3) (sSeq (sOwn 4 aNil) (sSeq (sFor (iLst (eVar 2)) (gNm 5) (sSeq (sSet 6 (eLc (iR1 (aCons (eCB lenF (aCons (eVar 5) aNil)) aNil)) (gNm 7) (bTest (eOp (eqF false) (eCall F__law_joined 3 (aCons (eVar 0) (aCons (eLst (aCons (eVar 7) (aCons (eVar 3) aNil))) (aCons (eC (.bl false)) aNil)))) (eVar 3))) (eOp ixF (eVar 5) (eVar 7)) [7])) (sDrop (eExt 4 (eLc (iLst (eVar 1)) (gNm 8) (bTru (eCall F__law_is_over 3 (aCons (eVar 0) (aCons (eVar 8) (aCons (eVar 6) aNil))))) (eOp addF (eVar 5) (eTup (aCons (eVar 8) aNil))) [8]))))) (sFrz 4 (sSet 2 (eVar 4)))))) (sRet (eVar 2)))))
def F__law_rows : FF := bodyF 9 (B__law_rows)
abbrev p__law_rows : PT0 := prom 1 (F__law_rows)
theorem ok__law_rows {P : Program} {w : World} {K : PySem.W.Frag} {mg : Str → Option Value} {base : Heap} {C_Space : Addr} {TB_FORMS : Addr} (T : Tx K mg "_law_rows" s__law_rows) (m_list : mg "list" = none) (m_range : mg "range" = none) (d__law_whole : Df P w K mg base 1 "_law_whole" ["_law_modes"] p__law_whole) (m_len : mg "len" = none) (d__law_joined : Df P w K mg base 2 "_law_joined" ["_law_modes", "_law_sets", "_law_is_every"] p__law_joined) (d__law_is_over : Df P w K mg base 3 "_law_is_over" ["_law_modes", "_law_number", "_law_less"] p__law_is_over) : Df P w K mg base 4 "_law_rows" ["_law_modes"] p__law_rows := by
  refine df_ok T sc__law_rows prom_len (fun _ _ _ _ _ _ us hl => match us, hl with | [_], _ => rfl) (fun cdv A ou s H fa hr gd => ⟨_, (pss_cons (ps_set (i := 1) sc__law_rows.nd rfl (.inl rfl) (pe_listRg rfl (by rfl) m_list (prg_1 (by rfl) m_range (pe_op (op_addX K) (pe_callD d__law_whole (hr.mono (by decide)) gd (by rfl) (pa_cons (pv 0) pa_nil)) pe_int)))) (pss_cons (ps_set (i := 2) sc__law_rows.nd rfl (.inl rfl) (pe_lst (pa_cons (pe_tup pa_nil) pa_nil))) (pss_cons (ps_for PassesOwn.never rfl (pi_listK K (pv 1)) (pg_name (i := 3) sc__law_rows.nd rfl (.inr rfl)) (pss_cons (ps_set (i := 4) sc__law_rows.nd rfl (.inl rfl) (pe_lst pa_nil)) (pss_cons (ps_for PassesOwn.never rfl (pi_listK K (pv 2)) (pg_name (i := 5) sc__law_rows.nd rfl (.inr rfl)) (pss_cons (ps_set (i := 6) sc__law_rows.nd rfl (.inr rfl) (pe_lc (own := [("_law_part", 7)]) rfl sc__law_rows.nd (pi_range1 (by rfl) m_range (pa_cons (pe_callB (call_lenK K) (by rfl) m_len (by decide +kernel) (pa_cons (pv 5) pa_nil)) pa_nil)) (blkOk_by (N := N__law_rows) (sc := defScope s__law_rows) (by decide +kernel)) (fun _ _ _ _ _ => (pg_name (i := 7) sc__law_rows.nd rfl (.inl rfl))) (fun _ _ _ _ _ => (pts_one (pt_cmpR (op_eqX K (units65 hr)) (pe_callD d__law_joined (hr.mono (by decide)) gd (by rfl) (pa_cons (pv 0) (pa_cons (pe_lst (pa_cons (pv 7) (pa_cons (pv 3) pa_nil))) (pa_cons pe_bl pa_nil)))) (pv 3) (nomark _)))) (fun _ _ _ _ _ => (pe_ix (ix_K K) (pv 5) (pv 7) (fun _ _ => rfl))))) (pss_one (ps_expr (pe_bmK K PySem.F.plainAttrs_list PySem.F.slot_list_extend PySem.F.type_list_extend (mt_extS K) (pv 4) (pa_cons (pe_lc (own := [("_law_number", 8)]) rfl sc__law_rows.nd (pi_listK K (pv 1)) (blkOk_by (N := N__law_rows) (sc := defScope s__law_rows) (by decide +kernel)) (fun _ _ _ _ _ => (pg_name (i := 8) sc__law_rows.nd rfl (.inl rfl))) (fun _ _ _ _ _ => (pts_one (pt_truK K (pe_callD d__law_is_over (hr.mono (by decide)) gd (by rfl) (pa_cons (pv 0) (pa_cons (pv 8) (pa_cons (pv 6) pa_nil)))) (fun _ => rfl)))) (fun _ _ _ _ _ => (pe_op (op_addX K) (pv 5) (pe_tup (pa_cons (pv 8) pa_nil))))) pa_nil)))))) (pss_one (ps_set (i := 2) sc__law_rows.nd rfl (.inl rfl) (pv 4)))))) (pss_one (ps_ret (pv 2)))))), ?_⟩)
  exact den_body (N := 9) (fs := B__law_rows) (den_seq (den_set (den_listRg (den_op fo_add (den_call (den_cons den_var den_nil)) den_int))) (den_seq (den_set (den_lst (den_cons (den_tup den_nil) den_nil))) (den_seq (den_for (den_ilst den_var) den_gname (den_seq (den_own den_nil) (den_seq (den_for (den_ilst den_var) den_gname (den_seq (den_set (den_lc (by simp) (den_ir1 (den_cons (den_cb fc_len (den_cons den_var den_nil)) den_nil)) den_gname (den_test (den_op fo_eq (den_call (den_cons den_var (den_cons (den_lst (den_cons den_var (den_cons den_var den_nil))) (den_cons den_bl den_nil)))) den_var)) (den_op fo_ix den_var den_var))) (den_drop (den_ext (den_lc (by simp) (den_ilst den_var) den_gname (den_tru (den_call (den_cons den_var (den_cons den_var (den_cons den_var den_nil))))) (den_op fo_add den_var (den_tup (den_cons den_var den_nil)))))))) (den_frz (den_set den_var))))) (den_ret den_var))))
def B__law_inner : WS := (sSeq (sIf (bTest (eOp (inF false) (eOp ixF (eVar 0) (eC (.int 0))) (eLst (aCons (eC (.str "do")) (aCons (eC (.str "run")) (aCons (eC (.str "exit")) (aCons (eC (.str "raise")) aNil))))))) (sRet (eLst aNil)) sNext) (sSeq (sIf (bTest (eOp (eqF false) (eOp ixF (eVar 0) (eC (.int 0))) (eC (.str "answer")))) (sRet (eOp addF (eLc (iLst (eOp ixF (eVar 0) (eC (.int 1)))) (gNm 1) bYes (eOp ixF (eVar 1) (eC (.int 1))) [1]) (eLst (aCons (eOp ixF (eVar 0) (eC (.int 2))) aNil)))) sNext) (sRet (eCB listAF (aCons (eIf (bTest (eOp (inF false) (eOp ixF (eVar 0) (eC (.int 0))) (eLst (aCons (eC (.str "call")) (aCons (eC (.str "scope")) aNil))))) (eSl (eVar 0) (oPt (eC (.int 2))) oNo) (eSl (eVar 0) (oPt (eC (.int 1))) oNo)) aNil)))))
def F__law_inner : FF := bodyF 2 (B__law_inner)
abbrev p__law_inner : PT0 := prom 1 (F__law_inner)
theorem ok__law_inner {P : Program} {w : World} {K : PySem.W.Frag} {mg : Str → Option Value} {base : Heap} {C_Space : Addr} {TB_FORMS : Addr} (T : Tx K mg "_law_inner" s__law_inner) (m_list : mg "list" = none) : Df P w K mg base 1 "_law_inner" ["_law_term"] p__law_inner := by
  refine df_ok T sc__law_inner prom_len (fun _ _ _ _ _ _ us hl => match us, hl with | [_], _ => rfl) (fun cdv A ou s H fa hr gd => ⟨_, (pss_cons (ps_if (pt_cmpR (op_inX K (units65 hr)) (pe_ix (ix_K K) (pv 0) pe_int (fun _ _ => rfl)) (pe_lst (pa_cons pe_str (pa_cons pe_str (pa_cons pe_str (pa_cons pe_str pa_nil))))) (by rfl)) (pss_one (ps_ret (pe_lst pa_nil))) pss_nil) (pss_cons (ps_if (pt_cmpR (op_eqX K (units65 hr)) (pe_ix (ix_K K) (pv 0) pe_int (fun _ _ => rfl)) pe_str (nomark _)) (pss_one (ps_ret (pe_op (op_addX K) (pe_lc (own := [("_law_pair", 1)]) rfl sc__law_inner.nd (pi_listK K (pe_ix (ix_K K) (pv 0) pe_int (fun _ _ => rfl))) (blkOk_by (N := N__law_inner) (sc := defScope s__law_inner) (by decide +kernel)) (fun _ _ _ _ _ => (pg_name (i := 1) sc__law_inner.nd rfl (.inl rfl))) (fun _ _ _ _ _ => pts_nil) (fun _ _ _ _ _ => (pe_ix (ix_K K) (pv 1) pe_int (fun _ _ => rfl)))) (pe_lst (pa_cons (pe_ix (ix_K K) (pv 0) pe_int (fun _ _ => rfl)) pa_nil))))) pss_nil) (pss_one (ps_ret (pe_callTy (call_listK K) (by rfl) m_list (by decide +kernel) (pa_cons (pe_ifExp (pt_cmpR (op_inX K (units65 hr)) (pe_ix (ix_K K) (pv 0) pe_int (fun _ _ => rfl)) (pe_lst (pa_cons pe_str (pa_cons pe_str pa_nil))) (by rfl)) (pe_slice (sl_anyK K) (pv 0) (po_some pe_int) po_none) (pe_slice (sl_anyK K) (pv 0) (po_some pe_int) po_none)) pa_nil)))))), ?_⟩)
  exact den_body (N := 2) (fs := B__law_inner) (den_seq (den_ifs (den_test (den_op fo_in (den_op fo_ix den_var den_int) (den_lst (den_cons den_str (den_cons den_str (den_cons den_str (den_cons den_str den_nil))))))) (den_ret (den_lst den_nil)) den_next) (den_seq (den_ifs (den_test (den_op fo_eq (den_op fo_ix den_var den_int) den_str)) (den_ret (den_op fo_add (den_lc (by simp) (den_ilst (den_op fo_ix den_var den_int)) den_gname den_yes (den_op fo_ix den_var den_int)) (den_lst (den_cons (den_op fo_ix den_var den_int) den_nil)))) den_next) (den_ret (den_cb fc_listA (den_cons (den_if (den_test (den_op fo_in (den_op fo_ix den_var den_int) (den_lst (den_cons den_str (den_cons den_str den_nil))))) (den_sl den_var (den_opt den_int) den_ono) (den_sl den_var (den_opt den_int) den_ono)) den_nil)))))
def B__law_deep (rec : FF) : WS := (sRet (eOp addF (eC (.int 1)) (eCB maxLF (aCons (eOp addF (eLst (aCons (eC (.int 0)) aNil)) (eLc (iLst (eCall F__law_inner 1 (aCons (eVar 0) aNil))) (gNm 1) bYes (eCall rec 1 (aCons (eVar 1) aNil)) [1])) aNil))))
def F__law_deep : Nat → FF
  | 0 => fun _ _ _ => False
  | n + 1 => bodyF 2 (B__law_deep (F__law_deep n))
abbrev p__law_deep : PT0 := prom 1 (F__law_deep 5)
theorem okn__law_deep {P : Program} {w : World} {K : PySem.W.Frag} {mg : Str → Option Value} {base : Heap} {C_Space : Addr} {TB_FORMS : Addr} (T : Tx K mg "_law_deep" s__law_deep) (m_max : mg "max" = none) (d__law_inner : Df P w K mg base 1 "_law_inner" ["_law_term"] p__law_inner) : ∀ n : Nat, Df P w K mg base (2 + n) "_law_deep" ["_law_term"] (prom 1 (F__law_deep n))
  | 0 => df_ok (k := 1) T sc__law_deep prom_len (fun _ _ _ _ _ _ us hl => match us, hl with | [_], _ => rfl) fun cdv A ou s H fa hr gd => ⟨_, pss_none, fun ds M R ⟨_, _, _, _, _, z, _⟩ => z.elim⟩
  | n + 1 => by
    have d__law_deep := okn__law_deep (w := w) (P := P) (base := base) (C_Space := C_Space) (TB_FORMS := TB_FORMS) T m_max d__law_inner n
    refine df_ok (k := 2 + n) T sc__law_deep prom_len (fun _ _ _ _ _ _ us hl => match us, hl with | [_], _ => rfl) (fun cdv A ou s H fa hr gd => ⟨_, (pss_one (ps_ret (pe_op (op_addX K) pe_int (pe_callB (call_maxLK K) (by rfl) m_max (by decide +kernel) (pa_cons (pe_op (op_addX K) (pe_lst (pa_cons pe_int pa_nil)) (pe_lc (own := [("_law_inner_here", 1)]) rfl sc__law_deep.nd (pi_listK K (pe_callD d__law_inner (hr.mono (by omega)) gd (by rfl) (pa_cons (pv 0) pa_nil))) (blkOk_by (N := N__law_deep) (sc := defScope s__law_deep) (by decide +kernel)) (fun _ _ _ _ _ => (pg_name (i := 1) sc__law_deep.nd rfl (.inl rfl))) (fun _ _ _ _ _ => pts_nil) (fun _ _ _ _ _ => (pe_callD d__law_deep (hr.mono (by omega)) gd (by rfl) (pa_cons (pv 1) pa_nil))))) pa_nil))))), ?_⟩)
    exact den_body (N := 2) (fs := B__law_deep (F__law_deep n)) (den_ret (den_op fo_add den_int (den_cb fc_maxL (den_cons (den_op fo_add (den_lst (den_cons den_int den_nil)) (den_lc (by simp) (den_ilst (den_call (den_cons den_var den_nil))) den_gname den_yes (den_call (den_cons den_var den_nil)))) den_nil))))
theorem ok__law_deep {P : Program} {w : World} {K : PySem.W.Frag} {mg : Str → Option Value} {base : Heap} {C_Space : Addr} {TB_FORMS : Addr} (T : Tx K mg "_law_deep" s__law_deep) (m_max : mg "max" = none) (d__law_inner : Df P w K mg base 1 "_law_inner" ["_law_term"] p__law_inner) : Df P w K mg base 7 "_law_deep" ["_law_term"] p__law_deep := okn__law_deep (C_Space := C_Space) (TB_FORMS := TB_FORMS) T m_max d__law_inner 5
def B__law_all_of_2 : WS := (sFrz 1 (sRet (eVar 1)))
def B__law_all_of_1 : WS := (sSeq (sWhile (bTest (eOp (ibF fun i j => decide (i < j)) (eVar 2) (eLenW 1))) (sSeq (sDrop (eExt 1 (eCall F__law_inner 1 (aCons (eIxW 1 (eVar 2)) aNil)))) (sSet 2 (eOp addF (eVar 2) (eC (.int 1)))))) B__law_all_of_2)
def B__law_all_of : WS := (sSeq (sParON 1 2 (aCons (eVar 0) aNil) (.int 0)) B__law_all_of_1)
def F__law_all_of : FF := bodyF 3 (B__law_all_of)
abbrev p__law_all_of : PT0 := prom 1 (F__law_all_of)
theorem ok__law_all_of {P : Program} {w : World} {K : PySem.W.Frag} {mg : Str → Option Value} {base : Heap} {C_Space : Addr} {TB_FORMS : Addr} (T : Tx K mg "_law_all_of" s__law_all_of) (m_len : mg "len" = none) (d__law_inner : Df P w K mg base 1 "_law_inner" ["_law_term"] p__law_inner) : Df P w K mg base 2 "_law_all_of" ["_law_term"] p__law_all_of := by
  refine df_ok T sc__law_all_of prom_len (fun _ _ _ _ _ _ us hl => match us, hl with | [_], _ => rfl) (fun cdv A ou s H fa hr gd => ⟨_, (pss_cons (ps_par (i := 1) (j := 2) (by rfl) sc__law_all_of.nd rfl rfl (by decide) rfl rfl (pa_cons (pe_lst (pa_cons (pv 0) pa_nil)) (pa_cons pe_int pa_nil)) (by rfl)) (pss_cons (ps_while PassesOwn.never (pt_cmpR op_lt (pv 2) (pe_callB (call_lenK K) (by rfl) m_len (by decide +kernel) (pa_cons (pv 1) pa_nil)) (nomark _)) (pss_cons (ps_expr (pe_bmK K PySem.F.plainAttrs_list PySem.F.slot_list_extend PySem.F.type_list_extend (mt_extS K) (pv 1) (pa_cons (pe_callD d__law_inner (hr.mono (by decide)) gd (by rfl) (pa_cons (pe_ix (ix_K K) (pv 1) (pv 2) (fun _ _ => rfl)) pa_nil)) pa_nil))) (pss_one (ps_set (i := 2) sc__law_all_of.nd rfl (.inl rfl) (pe_op (op_addX K) (pv 2) pe_int))))) (pss_one (ps_ret (pv 1))))), ?_⟩)
  exact den_body (N := 3) (fs := B__law_all_of) (den_seq (den_parON (fun _ => .int _) (den_cons den_var den_nil)) (den_seq (den_while (den_test (den_op fo_ib den_var den_lenW)) (den_seq (den_drop (den_ext (den_call (den_cons (den_ixW den_var) den_nil)))) (den_set (den_op fo_add den_var den_int)))) (den_frz (den_ret den_var))))
def B__law_won : WS := (sRet (eCall F__law_map 4 (aCons (eVar 0) (aCons (eVar 1) (aCons (eTup (aCons (eC (.dic [])) (aCons (eDicF (pCons (.inr "win") (eCall F__law_whole 1 (aCons (eVar 0) aNil)) pNil)) (aCons (eC (.dic [])) aNil)))) (aCons (eLst (aCons (eC (.dic [])) (aCons (eC (.int 0)) (aCons (eC (.dic [])) aNil)))) aNil))))))
def F__law_won : FF := bodyF 2 (B__law_won)
abbrev p__law_won : PT0 := prom 2 (F__law_won)
theorem ok__law_won {P : Program} {w : World} {K : PySem.W.Frag} {mg : Str → Option Value} {base : Heap} {C_Space : Addr} {TB_FORMS : Addr} (T : Tx K mg "_law_won" s__law_won) (d__law_map : Df P w K mg base 10 "_law_map" ["_law_modes", "_law_term", "_law_view", "_law_books"] p__law_map) (d__law_whole : Df P w K mg base 1 "_law_whole" ["_law_modes"] p__law_whole) : Df P w K mg base 11 "_law_won" ["_law_modes", "_law_term"] p__law_won := by
  refine df_ok T sc__law_won prom_len (fun _ _ _ _ _ _ us hl => match us, hl with | [_, _], _ => rfl) (fun cdv A ou s H fa hr gd => ⟨_, (pss_one (ps_ret (pe_callD d__law_map (hr.mono (by decide)) gd (by rfl) (pa_cons (pv 0) (pa_cons (pv 1) (pa_cons (pe_tup (pa_cons pe_dnewK (pa_cons (pe_disp (pps_cons pe_str (pe_callD d__law_whole (hr.mono (by decide)) gd (by rfl) (pa_cons (pv 0) pa_nil)) pps_nil) (by rfl) (by rfl) (fun z => by cases z) (by decide)) (pa_cons pe_dnewK pa_nil)))) (pa_cons (pe_lst (pa_cons pe_dnewK (pa_cons pe_int (pa_cons pe_dnewK pa_nil)))) pa_nil))))))), ?_⟩)
  exact den_body (N := 2) (fs := B__law_won) (den_ret (den_call (den_cons den_var (den_cons den_var (den_cons (den_tup (den_cons den_dnew (den_cons (den_dicF (denP_str (den_call (den_cons den_var den_nil)) denP_nil)) (den_cons den_dnew den_nil)))) (den_cons (den_lst (den_cons den_dnew (den_cons den_int (den_cons den_dnew den_nil)))) den_nil))))))
def B__law_right_5 (C_Space : Addr) : WS := (sRet (eOp (eqF false) (eLc (iLst (eVar 3)) (gNm 5) (bAnd (bTest (eOp (eqF false) (eOp ixF (eVar 5) (eC (.int 0))) (eC (.str "do")))) (bOr (bTest (eOp (eqF true) (eOp ixF (eVar 5) (eC (.int 1))) (eC (.str "go")))) (bTest (eOp (eqF true) (eCB lenF (aCons (eOp ixF (eVar 5) (eC (.int 2))) aNil)) (eVar 0))))) (eVar 5) [5]) (eLst aNil)))
def B__law_right_4 (C_Space : Addr) : WS := (sSeq (sIf (bOr (bTest (eOp (ibF fun i j => decide (j < i)) (eCB lenF (aCons (eVar 3) aNil)) (eC (.int 12)))) (bOr (bTest (eOp (ibF fun i j => decide (j < i)) (eCall (F__law_deep 5) 1 (aCons (eVar 2) aNil)) (eC (.int 3)))) (bTest (eOp (eqF true) (eVar 4) (eLst aNil))))) (sRet (eC (.bl false))) sNext) (B__law_right_5 C_Space))
def B__law_right_3 (C_Space : Addr) : WS := (sSeq (sSet 4 (eLc (iLst (eVar 3)) (gNm 5) (bTest (eOp (inF false) (eOp ixF (eVar 5) (eC (.int 0))) (eLst (aCons (eC (.str "run")) (aCons (eC (.str "call")) (aCons (eC (.str "raise")) (aCons (eC (.str "answer")) aNil))))))) (eVar 5) [5])) (B__law_right_4 C_Space))
def B__law_right_2 (C_Space : Addr) : WS := (sSeq (sSet 3 (eCall F__law_all_of 1 (aCons (eVar 2) aNil))) (B__law_right_3 C_Space))
def B__law_right_1 (C_Space : Addr) : WS := (sSeq (sIf (bOr (bNot (bTru (eCall F_is_term 2 (aCons (eTup (aCons (eC (.str "scope")) (aCons (eC (.str "win")) (aCons (eVar 2) aNil)))) (aCons (eTup aNil) aNil))))) (bTest (eOp (eqF true) (eCall F__law_won 2 (aCons (eVar 0) (aCons (eVar 2) aNil))) (eVar 1)))) (sRet (eC (.bl false))) sNext) (B__law_right_2 C_Space))
def B__law_right (C_Space : Addr) : WS := (sSeq (sSet 2 (eCall (F_block_of C_Space) 2 (aCons (eVar 0) (aCons (eVar 1) aNil)))) (B__law_right_1 C_Space))
def F__law_right (C_Space : Addr) : FF := bodyF 6 (B__law_right C_Space)
abbrev p__law_right (C_Space : Addr) : PT0 := prom 2 (F__law_right C_Space)
theorem ok__law_right {P : Program} {w : World} {K : PySem.W.Frag} {mg : Str → Option Value} {base : Heap} {C_Space : Addr} {TB_FORMS : Addr} (T : Tx K mg "_law_right" s__law_right) (d_block_of : Df P w K mg base 8 "block_of" ["modes", "wanted"] (p_block_of C_Space)) (d_is_term : Df P w K mg base 14 "is_term" ["value", "parameters"] p_is_term) (d__law_won : Df P w K mg base 11 "_law_won" ["_law_modes", "_law_term"] p__law_won) (d__law_all_of : Df P w K mg base 2 "_law_all_of" ["_law_term"] p__law_all_of) (m_len : mg "len" = none) (d__law_deep : Df P w K mg base 7 "_law_deep" ["_law_term"] p__law_deep) : Df P w K mg base 15 "_law_right" ["_law_modes", "_law_wanted"] (p__law_right C_Space) := by
  refine df_ok T sc__law_right prom_len (fun _ _ _ _ _ _ us hl => match us, hl with | [_, _], _ => rfl) (fun cdv A ou s H fa hr gd => ⟨_, (pss_cons (ps_set (i := 2) sc__law_right.nd rfl (.inl rfl) (pe_callD d_block_of (hr.mono (by decide)) gd (by rfl) (pa_cons (pv 0) (pa_cons (pv 1) pa_nil)))) (pss_cons (ps_if (PW.pt (pw_or (pt_not (pt_truK K (pe_callD d_is_term (hr.mono (by decide)) gd (by rfl) (pa_cons (pe_tup (pa_cons pe_str (pa_cons pe_str (pa_cons (pv 2) pa_nil)))) (pa_cons (pe_tup pa_nil) pa_nil))) (fun _ => rfl))) (pw_or1 (pt_cmpR (op_neX K (units65 hr)) (pe_callD d__law_won (hr.mono (by decide)) gd (by rfl) (pa_cons (pv 0) (pa_cons (pv 2) pa_nil))) (pv 1) (nomark _))))) (pss_one (ps_ret pe_bl)) pss_nil) (pss_cons (ps_set (i := 3) sc__law_right.nd rfl (.inl rfl) (pe_callD d__law_all_of (hr.mono (by decide)) gd (by rfl) (pa_cons (pv 2) pa_nil))) (pss_cons (ps_setLc (own := [("_law_one", 5)]) (i := 4) rfl sc__law_right.nd rfl rfl (sw_true rfl rfl rfl (by decide +kernel)) (pi_listK K (pv 3)) (blkOk_by (N := N__law_right) (sc := defScope s__law_right) (by decide +kernel)) (fun _ _ _ _ _ => (pg_name (i := 5) sc__law_right.nd rfl (.inl rfl))) (fun _ _ _ _ _ => (pts_one (pt_cmpR (op_inX K (units65 hr)) (pe_ix (ix_K K) (pv 5) pe_int (fun _ _ => rfl)) (pe_lst (pa_cons pe_str (pa_cons pe_str (pa_cons pe_str (pa_cons pe_str pa_nil))))) (by rfl)))) (fun _ _ _ _ _ => (pv 5))) (pss_cons (ps_if (PW.pt (pw_or (pt_cmpR op_gt (pe_callB (call_lenK K) (by rfl) m_len (by decide +kernel) (pa_cons (pv 3) pa_nil)) pe_int (nomark _)) (pw_or (pt_cmpR op_gt (pe_callD d__law_deep (hr.mono (by decide)) gd (by rfl) (pa_cons (pv 2) pa_nil)) pe_int (nomark _)) (pw_or1 (pt_cmpR (op_neX K (units65 hr)) (pv 4) (pe_lst pa_nil) (nomark _)))))) (pss_one (ps_ret pe_bl)) pss_nil) (pss_one (ps_ret (pe_cmpR (op_eqX K (units65 hr)) (pe_lc (own := [("_law_one", 5)]) rfl sc__law_right.nd (pi_listK K (pv 3)) (blkOk_by (N := N__law_right) (sc := defScope s__law_right) (by decide +kernel)) (fun _ _ _ _ _ => (pg_name (i := 5) sc__law_right.nd rfl (.inl rfl))) (fun _ _ _ _ _ => (pts_one (PW.pt (pw_and (pt_cmpR (op_eqX K (units65 hr)) (pe_ix (ix_K K) (pv 5) pe_int (fun _ _ => rfl)) pe_str (nomark _)) (pw_and1 (PW.pt (pw_or (pt_cmpR (op_neX K (units65 hr)) (pe_ix (ix_K K) (pv 5) pe_int (fun _ _ => rfl)) pe_str (nomark _)) (pw_or1 (pt_cmpR (op_neX K (units65 hr)) (pe_callB (call_lenK K) (by rfl) m_len (by decide +kernel) (pa_cons (pe_ix (ix_K K) (pv 5) pe_int (fun _ _ => rfl)) pa_nil)) (pv 0) (nomark _)))))))))) (fun _ _ _ _ _ => (pv 5))) (pe_lst pa_nil) (nomark _))))))))), ?_⟩)
  exact den_body (N := 6) (fs := B__law_right C_Space) (den_seq (den_set (den_call (den_cons den_var (den_cons den_var den_nil)))) (den_seq (den_ifs (den_or (den_not (den_tru (den_call (den_cons (den_tup (den_cons den_str (den_cons den_str (den_cons den_var den_nil)))) (den_cons (den_tup den_nil) den_nil))))) (den_test (den_op fo_eq (den_call (den_cons den_var (den_cons den_var den_nil))) den_var))) (den_ret den_bl) den_next) (den_seq (den_set (den_call (den_cons den_var den_nil))) (den_seq (den_set (den_lc (by simp) (den_ilst den_var) den_gname (den_test (den_op fo_in (den_op fo_ix den_var den_int) (den_lst (den_cons den_str (den_cons den_str (den_cons den_str (den_cons den_str den_nil))))))) den_var)) (den_seq (den_ifs (den_or (den_test (den_op fo_ib (den_cb fc_len (den_cons den_var den_nil)) den_int)) (den_or (den_test (den_op fo_ib (den_call (den_cons den_var den_nil)) den_int)) (den_test (den_op fo_eq den_var (den_lst den_nil))))) (den_ret den_bl) den_next) (den_ret (den_op fo_eq (den_lc (by simp) (den_ilst den_var) den_gname (den_and (den_test (den_op fo_eq (den_op fo_ix den_var den_int) den_str)) (den_or (den_test (den_op fo_eq (den_op fo_ix den_var den_int) den_str)) (den_test (den_op fo_eq (den_cb fc_len (den_cons (den_op fo_ix den_var den_int) den_nil)) den_var)))) den_var) (den_lst den_nil))))))))
def B_law_2 (C_Space : Addr) : WS := (sRet (eAnd (eOp (eqF false) (eVar 5) (eLst aNil)) (eOp (eqF false) (eCB tupleF (aCons (eCall F__law_rows 1 (aCons (eC (.int 2)) aNil)) aNil)) (ePropM C_Space (F_Space_maps C_Space) (eMakeM C_Space (F_Space___init__ C_Space) 2 (aCons (eC (.int 2)) aNil))))))
def B_law_1 (C_Space : Addr) : WS := (sSeq (sSet 5 (eLc (iLst (eCall F__law_rows 1 (aCons (eC (.int 1)) aNil))) (gNm 6) (bNot (bTru (eCall (F__law_right C_Space) 2 (aCons (eC (.int 1)) (aCons (eVar 6) aNil))))) (eVar 6) [6])) (B_law_2 C_Space))
def B_law (C_Space : Addr) : WS := (sSeq (sFor (iR1 (aCons (eCB maxF (aCons (eC (.int 1)) (aCons (eCB minF (aCons (eC (.int 5)) (aCons (eCB lenF (aCons (eVar 0) aNil)) aNil))) aNil))) aNil)) (gNm 1) (sSeq (sSet 2 (eCall F__law_wheel 2 (aCons (eVar 0) (aCons (eVar 1) aNil)))) (sFor (iR1 (aCons (eC (.int 3)) aNil)) (gNm 3) (sSeq (sSet 4 (eOp addF (eC (.int 1)) (eCall F__law_spin 2 (aCons (eVar 2) (aCons (eC (.int 2)) aNil))))) (sIf (bNot (bTru (eCall (F__law_right C_Space) 2 (aCons (eVar 4) (aCons (eCall F__law_pick 2 (aCons (eVar 2) (aCons (eCall F__law_rows 1 (aCons (eVar 4) aNil)) aNil))) aNil))))) (sRet (eC (.bl false))) sNext))))) (B_law_1 C_Space))
def F_law (C_Space : Addr) : FF := bodyF 7 (B_law C_Space)
abbrev p_law (C_Space : Addr) : PT0 := prom 1 (F_law C_Space)
theorem ok_law {P : Program} {w : World} {K : PySem.W.Frag} {mg : Str → Option Value} {base : Heap} {C_Space : Addr} {TB_FORMS : Addr} (T : Tx K mg "law" s_law) (m_range : mg "range" = none) (m_max : mg "max" = none) (m_min : mg "min" = none) (m_len : mg "len" = none) (d__law_wheel : Df P w K mg base 1 "_law_wheel" ["_law_script", "_law_at"] p__law_wheel) (d__law_spin : Df P w K mg base 1 "_law_spin" ["_law_wheel_here", "_law_total"] p__law_spin) (d__law_right : Df P w K mg base 15 "_law_right" ["_law_modes", "_law_wanted"] (p__law_right C_Space)) (d__law_pick : Df P w K mg base 2 "_law_pick" ["_law_wheel_here", "_law_items"] p__law_pick) (d__law_rows : Df P w K mg base 4 "_law_rows" ["_law_modes"] p__law_rows) (m_tuple : mg "tuple" = none) (k_Space : Kc K mg "Space" C_Space) (mk_Space : ∃ f, Mk K C_Space f) (q_Space___init__ : Dm P w K mg base 5 C_Space "__init__" ["self", "modes"] (p_Space___init__ C_Space)) (q_Space_maps : Dpr P w K mg base 5 C_Space "maps" ["self"] (p_Space_maps C_Space)) (cl_Space : Cls K C_Space) : Df P w K mg base 16 "law" ["_law_script"] (p_law C_Space) := by
  refine df_ok T sc_law prom_len (fun _ _ _ _ _ _ us hl => match us, hl with | [_], _ => rfl) (fun cdv A ou s H fa hr gd => ⟨_, (pss_cons (ps_for PassesOwn.never rfl (pi_range1 (by rfl) m_range (pa_cons (pe_callB (call_max2 rfl) (by rfl) m_max (by decide +kernel) (pa_cons pe_int (pa_cons (pe_callB (call_min2 rfl) (by rfl) m_min (by decide +kernel) (pa_cons pe_int (pa_cons (pe_callB (call_lenK K) (by rfl) m_len (by decide +kernel) (pa_cons (pv 0) pa_nil)) pa_nil))) pa_nil))) pa_nil)) (pg_name (i := 1) sc_law.nd rfl (.inl rfl)) (pss_cons (ps_set (i := 2) sc_law.nd rfl (.inl rfl) (pe_callD d__law_wheel (hr.mono (by decide)) gd (by rfl) (pa_cons (pv 0) (pa_cons (pv 1) pa_nil)))) (pss_one (ps_for PassesOwn.never rfl (pi_range1 (by rfl) m_range (pa_cons pe_int pa_nil)) (pg_name (i := 3) sc_law.nd rfl (.inl rfl)) (pss_cons (ps_set (i := 4) sc_law.nd rfl (.inl rfl) (pe_op (op_addX K) pe_int (pe_callD d__law_spin (hr.mono (by decide)) gd (by rfl) (pa_cons (pv 2) (pa_cons pe_int pa_nil))))) (pss_one (ps_if (pt_not (pt_truK K (pe_callD d__law_right (hr.mono (by decide)) gd (by rfl) (pa_cons (pv 4) (pa_cons (pe_callD d__law_pick (hr.mono (by decide)) gd (by rfl) (pa_cons (pv 2) (pa_cons (pe_callD d__law_rows (hr.mono (by decide)) gd (by rfl) (pa_cons (pv 4) pa_nil)) pa_nil))) pa_nil))) (fun _ => rfl))) (pss_one (ps_ret pe_bl)) pss_nil))))))) (pss_cons (ps_setLc (own := [("_law_one", 6)]) (i := 5) rfl sc_law.nd rfl rfl (sw_true rfl rfl rfl (by decide +kernel)) (pi_listK K (pe_callD d__law_rows (hr.mono (by decide)) gd (by rfl) (pa_cons pe_int pa_nil))) (blkOk_by (N := N_law) (sc := defScope s_law) (by decide +kernel)) (fun _ _ _ _ _ => (pg_name (i := 6) sc_law.nd rfl (.inl rfl))) (fun _ _ _ _ _ => (pts_one (pt_not (pt_truK K (pe_callD d__law_right (hr.mono (by decide)) gd (by rfl) (pa_cons pe_int (pa_cons (pv 6) pa_nil))) (fun _ => rfl))))) (fun _ _ _ _ _ => (pv 6))) (pss_one (ps_ret (pe_and (pe_cmpR (op_eqX K (units65 hr)) (pv 5) (pe_lst pa_nil) (nomark _)) (pe_one (pe_cmpR (op_eqX K (units65 hr)) (pe_callTy (call_tupleK K) (by rfl) m_tuple (by decide +kernel) (pa_cons (pe_callD d__law_rows (hr.mono (by decide)) gd (by rfl) (pa_cons pe_int pa_nil)) pa_nil)) (pe_propD q_Space_maps cl_Space (hr.mono (by decide)) gd (pe_makeD q_Space___init__ k_Space mk_Space (hr.mono (by decide)) gd (by rfl) (pa_cons pe_int pa_nil))) (nomark _)))))))), ?_⟩)
  exact den_body (N := 7) (fs := B_law C_Space) (den_seq (den_for (den_ir1 (den_cons (den_cb fc_max (den_cons den_int (den_cons (den_cb fc_min (den_cons den_int (den_cons (den_cb fc_len (den_cons den_var den_nil)) den_nil))) den_nil))) den_nil)) den_gname (den_seq (den_set (den_call (den_cons den_var (den_cons den_var den_nil)))) (den_for (den_ir1 (den_cons den_int den_nil)) den_gname (den_seq (den_set (den_op fo_add den_int (den_call (den_cons den_var (den_cons den_int den_nil))))) (den_ifs (den_not (den_tru (den_call (den_cons den_var (den_cons (den_call (den_cons den_var (den_cons (den_call (den_cons den_var den_nil)) den_nil))) den_nil))))) (den_ret den_bl) den_next))))) (den_seq (den_set (den_lc (by simp) (den_ilst (den_call (den_cons den_int den_nil))) den_gname (den_not (den_tru (den_call (den_cons den_int (den_cons den_var den_nil))))) den_var)) (den_ret (den_andV (den_op fo_eq den_var (den_lst den_nil)) (den_op fo_eq (den_cb fc_tuple (den_cons (den_call (den_cons den_int den_nil)) den_nil)) (den_propM (den_makeM (den_cons den_int den_nil))))))))
end L68
set_option Elab.async false
set_option linter.all false
set_option maxRecDepth 100000
set_option maxHeartbeats 1000000
namespace L68
open PySem PySem.Spec L2 DL LamX FL PK
open PyProof.Rows hiding namesOf
variable {M : Mem} {Q : D → Mem → Prop} {η : Sls} {C : Addr} {x y z v d : D} {fe fa fb : WE} {ds : List D}
theorem yv_of {v : D} (h : ∀ K : KE, fe η M K = K v η M) : Yv fe η M v := ⟨fun K hk => by rw [h]; exact hk⟩
theorem yf_of {f : FF} (h : ∀ Q : D → Mem → Prop, f ds M Q = Q z M) : YF f M ds z := ⟨fun Q hk => by rw [h]; exact hk⟩
theorem out2_dep {i j : Nat} {fi1 : WA} {k : List D → Prop} (no : noOwn η = true) (g : D → List D) (f : D → D → D) : ∀ (ds acc : List D), acc.length + (ds.flatMap g).length ≤ 1000000 →
    (∀ x ∈ ds, ∀ K : List D → Sls → Mem → Prop, K (g x) (η.set i (.d x)) M → fi1 (η.set i (.d x)) M K) →
    (∀ x ∈ ds, ∀ y ∈ g x, ∀ k' : KE, k' (f x y) (((η.set i (.d x)).set j .no).set j (.d y)) M → fe (((η.set i (.d x)).set j .no).set j (.d y)) M k') →
    k (acc ++ ds.flatMap fun x => (g x).map (f x)) → out2L (gNm i) bYes fi1 (gNm j) bYes fe [j] η M k ds acc
  | [], acc, _, _, _, h => by simpa [out2L] using h
  | x :: r, acc, hl, hg, he, h => by
    have n1 : noOwn (η.set i (.d x)) = true := noOwn_set no rfl
    have rest := fun acc' hl' h' => out2_dep no g f r acc' hl' (fun y hy => hg y (List.mem_cons_of_mem _ hy)) (fun y hy => he y (List.mem_cons_of_mem _ hy)) h' (j := j) (k := k)
    refine gd_i (noOwn_not no) (still_i n1 (still_i n1 ?_))
    rw [List.flatMap_cons, List.length_append] at hl
    rw [List.flatMap_cons, ← List.append_assoc] at h
    rw [br_true]
    refine hg x List.mem_cons_self _ (still_i n1 ?_)
    refine in2_pure (η := (η.set i (.d x)).set j .no) (noOwn_set n1 rfl) (f x) _ acc (by omega) (fun y hy => he x List.mem_cons_self y hy) ?_
    exact rest _ (by rw [List.length_append, List.length_map]; omega) h
theorem y_lc2d {fi fi1 : WA} {i j : Nat} (g : D → List D) (f : D → D → D) (hi : YA fi η M ds) (no : noOwn η = true) (hl : (ds.flatMap g).length ≤ 1000000)
    (hg : ∀ x ∈ ds, YA fi1 (((η.set j .no).set i .no).set i (.d x)) M (g x))
    (he : ∀ x ∈ ds, ∀ y ∈ g x, Yv fe (((((η.set j .no).set i .no).set i (.d x)).set j .no).set j (.d y)) M (f x y)) : Yv (eLc2 fi (gNm i) bYes fi1 (gNm j) bYes fe [i, j] [j]) η M (.lst (ds.flatMap fun x => (g x).map (f x))) := ⟨fun K hk =>
  eLc2_u.mpr (hi.go _ (gd_i no (out2_dep (noOwn_set (noOwn_set no rfl) rfl) g f ds [] (by show 0 + _ ≤ _; omega) (fun x hx => (hg x hx).go) (fun x hx y hy => (he x hx y hy).go) (by rw [List.nil_append]; exact hk))))⟩
theorem y_make {f : FF} {n : Nat} {fr : WA} {fs : List (Str × D)} (a : YA fr η M ds) (hn : Nat.beq (ds.length + 1) n = true) (h : YI f C M ds fs) : Yv (eMake C f n fr) η M (.obj C fs) := ⟨fun K hk => a.go _ (gd_mk hn fun x hx => h.go x hx _ ⟨rfl, fs, rfl, hk⟩)⟩
theorem y_meth {m : Str} {f : FF} {n : Nat} {fr : WA} {fs : List (Str × D)} (a : Yv fe η M (.obj C fs)) (hm : fs.lookup m = none) (b : YA fr η M ds) (hn : Nat.beq (ds.length + 1) n = true) (h : YF f M (.obj C fs :: ds) z) : Yv (eMeth C m f n fe fr) η M z := ⟨fun K hk => a.go _ (by
  unfold objF
  exact gd_mk (by simp) (gd_mk (by rw [hm]; rfl) (b.go _ (gd_mk hn (h.go _ hk)))))⟩
def fsS : Nat → List (Str × D)
  | 1 => [("_modes", .int 1), ("_full", .int 1), ("_maps", .non), ("_same", .tup [.int 0, .int 1]), ("_never", .tup [.int 0, .int 0]), ("_always", .tup [.int 1, .int 1])]
  | _ => [("_modes", .int 2), ("_full", .int 3), ("_maps", .non), ("_same", .tup [.int 0, .int 1, .int 2, .int 3]), ("_never", .tup [.int 0, .int 0, .int 0, .int 0]), ("_always", .tup [.int 3, .int 3, .int 3, .int 3])]
theorem init_1 : YI (F_Space___init__ C) C M [.int 1] (fsS 1) := ⟨fun x hx Q q => by
  have h1 : ∀ {M : Mem}, YF F_check_modes M [.int 1, .int 3] .non := fun {M} => yf_of fun Q => by kernel_rfl
  have h2 : ∀ {M : Mem}, YF F_level_map M [.int 1, .int 0] (.tup [.int 0, .int 0]) := fun {M} => yf_of fun Q => by kernel_rfl
  have h3 : ∀ {M : Mem}, YF F_level_map M [.int 1, .int 1] (.tup [.int 1, .int 1]) := fun {M} => yf_of fun Q => by kernel_rfl
  unfold F_Space___init__ B_Space___init__
  generalize F_check_modes = f1 at h1 ⊢
  generalize F_level_map = f2 at h2 h3 ⊢
  show sSeq _ _ [.d (.raw (.ref x)), .d (.int 1), .no] _ (KQ Q)
  refine t_seq (t_drop (y_call2 (y_var rfl) y_c h1) ?_)
  refine t_puts (v := .int 1) (y_var rfl) rfl rfl ?_
  refine t_puts (v := .int 1) (yv_of fun K => by kernel_rfl) rfl rfl ?_
  refine t_puts (v := .non) y_c rfl rfl ?_
  refine t_puts (v := .tup [.int 0, .int 1]) (yv_of fun K => by kernel_rfl) rfl rfl ?_
  refine t_puts (y_call2 (y_var rfl) y_c h2) rfl rfl ?_
  refine t_put (y_call2 (x := .int 1) (y := .int 1) (y_var rfl) (yv_of fun K => by kernel_rfl) h3) rfl rfl ?_
  exact q⟩
theorem init_2 : YI (F_Space___init__ C) C M [.int 2] (fsS 2) := ⟨fun x hx Q q => by
  have h1 : ∀ {M : Mem}, YF F_check_modes M [.int 2, .int 3] .non := fun {M} => yf_of fun Q => by kernel_rfl
  have h2 : ∀ {M : Mem}, YF F_level_map M [.int 2, .int 0] (.tup [.int 0, .int 0, .int 0, .int 0]) := fun {M} => yf_of fun Q => by kernel_rfl
  have h3 : ∀ {M : Mem}, YF F_level_map M [.int 2, .int 3] (.tup [.int 3, .int 3, .int 3, .int 3]) := fun {M} => yf_of fun Q => by kernel_rfl
  unfold F_Space___init__ B_Space___init__
  generalize F_check_modes = f1 at h1 ⊢
  generalize F_level_map = f2 at h2 h3 ⊢
  show sSeq _ _ [.d (.raw (.ref x)), .d (.int 2), .no] _ (KQ Q)
  refine t_seq (t_drop (y_call2 (y_var rfl) y_c h1) ?_)
  refine t_puts (v := .int 2) (y_var rfl) rfl rfl ?_
  refine t_puts (v := .int 3) (yv_of fun K => by kernel_rfl) rfl rfl ?_
  refine t_puts (v := .non) y_c rfl rfl ?_
  refine t_puts (v := .tup [.int 0, .int 1, .int 2, .int 3]) (yv_of fun K => by kernel_rfl) rfl rfl ?_
  refine t_puts (y_call2 (y_var rfl) y_c h2) rfl rfl ?_
  refine t_put (y_call2 (x := .int 2) (y := .int 3) (y_var rfl) (yv_of fun K => by kernel_rfl) h3) rfl rfl ?_
  exact q⟩
end L68
set_option Elab.async false
set_option linter.all false
set_option maxRecDepth 100000
set_option maxHeartbeats 1000000
namespace L68
open PySem PySem.Spec L2 DL LamX FL PK
open PyProof.Rows hiding namesOf
variable {M : Mem} {Q : D → Mem → Prop} {η : Sls} {C : Addr} {x y z v d : D} {fe fa fb : WE} {ds : List D} {m j n : Nat} {w : List Nat} {fs : List (Str × D)}
def R1 : List (List Nat) := [[0, 0], [0, 1], [1, 1]]
def R2 : List (List Nat) := [[0, 0, 0, 0], [0, 0, 0, 1], [0, 0, 0, 2], [0, 0, 0, 3], [0, 0, 1, 1], [0, 0, 1, 3], [0, 0, 2, 2], [0, 0, 2, 3], [0, 0, 3, 3], [0, 1, 0, 1], [0, 1, 0, 3], [0, 1, 1, 1], [0, 1, 1, 3], [0, 1, 2, 3], [0, 1, 3, 3], [0, 2, 0, 2], [0, 2, 0, 3], [0, 2, 1, 3], [0, 2, 2, 2], [0, 2, 2, 3], [0, 2, 3, 3], [0, 3, 0, 3], [0, 3, 1, 3], [0, 3, 2, 3], [0, 3, 3, 3], [1, 1, 1, 1], [1, 1, 1, 3], [1, 1, 3, 3], [1, 3, 1, 3], [1, 3, 3, 3], [2, 2, 2, 2], [2, 2, 2, 3], [2, 2, 3, 3], [2, 3, 2, 3], [2, 3, 3, 3], [3, 3, 3, 3]]
def AllP {α : Type} (P : α → Prop) : List α → Prop
  | [] => True
  | x :: r => P x ∧ AllP P r
theorem all_p {α : Type} {P : α → Prop} : ∀ {l : List α}, AllP P l → ∀ x ∈ l, P x
  | _ :: _, h, x, hx => (List.mem_cons.mp hx).elim (fun e => by rw [e]; exact h.1) fun e => all_p h.2 x e
def setsN (w : List Nat) (j : Nat) : List Nat := (List.range w.length).filter fun n => w.getD n 0 / 2 ^ j % 2 == 1
def leastN (l : List Nat) : List Nat := l.filter fun a => !(l.any fun b => b != a && (b ||| a) == a)
def memN (m n : Nat) : List Nat := (List.range m).filter fun j => n / 2 ^ j % 2 == 1
def stepD (m o n : Nat) : D := .tup [.str "do", .str "go", .tup ((List.range m).map fun j => if j = o then .int (n : Int) else .non)]
def wayD (m j : Nat) (ms : List Nat) : D := if ms = [] then .tup [.str "seq", stepD m j j, .tup [.str "exit", .str "win"]] else .tup (.str "and" :: ms.map (stepD m j))
def natD : D → Nat
  | .int i => i.toNat
  | _ => 0
def leD (w : List Nat) (x : D) : List D := nL (leastN (setsN w (natD x)))
def pairsD (m : Nat) (w : List Nat) : List D := (rngD 0 m).flatMap fun x => (leD w x).map fun y => .tup [x, y]
def wayP (m : Nat) : D → D
  | .tup [x, y] => wayD m (natD x) (memN m (natD y))
  | _ => .non
def blkD (m : Nat) (w : List Nat) : D := if pairsD m w = [] then .tup [.str "do", .str "go", .tup ((rngD 0 m).map fun _ => D.non)] else .tup (.str "or" :: (pairsD m w).map (wayP m))
structure OkW (m : Nat) (w : List Nat) : Prop where
  len : w.length = 2 ^ m
  few : (pairsD m w).length ≤ 1000
  mono : ∀ (M : Mem) (Q : D → Mem → Prop), F_fits_monotone [.int (m : Int), .tup (nL w)] M Q = Q (.bl true) M
  sets : ∀ j : Nat, j < m → ∀ (M : Mem) (Q : D → Mem → Prop), F_sets_of_mode [.tup (nL w), .int (j : Int), .bl true] M Q = Q (.lst (nL (setsN w j))) M
  least : ∀ j : Nat, j < m → ∀ (M : Mem) (Q : D → Mem → Prop), F_least_of [.lst (nL (setsN w j))] M Q = Q (.tup (nL (leastN (setsN w j)))) M
theorem lt1 {P : Nat → Prop} (h : P 0) : ∀ j, j < 1 → P j := fun j hj => by
  obtain rfl : j = 0 := by omega
  exact h
theorem lt2 {P : Nat → Prop} (h : P 0) (h1 : P 1) : ∀ j, j < 2 → P j := fun j hj => by
  rcases (by omega : j = 0 ∨ j = 1) with rfl | rfl
  · exact h
  · exact h1
theorem lt4 {P : Nat → Prop} (h : P 0) (h1 : P 1) (h2 : P 2) (h3 : P 3) : ∀ j, j < 4 → P j := fun j hj => by
  rcases (by omega : j = 0 ∨ j = 1 ∨ j = 2 ∨ j = 3) with rfl | rfl | rfl | rfl
  · exact h
  · exact h1
  · exact h2
  · exact h3
theorem ok_1 : AllP (OkW 1) R1 := by
  repeat' first
    | exact trivial
    | refine ⟨⟨rfl, by decide +kernel, fun M Q => by kernel_rfl, lt1 fun M Q => by kernel_rfl, lt1 fun M Q => by kernel_rfl⟩, ?_⟩
theorem ok_2 : AllP (OkW 2) R2 := by
  repeat' first
    | exact trivial
    | refine ⟨⟨rfl, by decide +kernel, fun M Q => by kernel_rfl, lt2 (fun M Q => by kernel_rfl) fun M Q => by kernel_rfl, lt2 (fun M Q => by kernel_rfl) fun M Q => by kernel_rfl⟩, ?_⟩
theorem index_1 : ∀ j : Nat, j < 1 → ∀ (M : Mem) (Q : D → Mem → Prop), F_is_index [.int (j : Int), .int ((1 : Nat) : Int)] M Q = Q (.bl true) M := lt1 fun M Q => by kernel_rfl
theorem index_2 : ∀ j : Nat, j < 2 → ∀ (M : Mem) (Q : D → Mem → Prop), F_is_index [.int (j : Int), .int ((2 : Nat) : Int)] M Q = Q (.bl true) M := lt2 (fun M Q => by kernel_rfl) fun M Q => by kernel_rfl
theorem set_1 : ∀ j : Nat, j < 2 → ∀ (M : Mem) (Q : D → Mem → Prop), F_fits_set [.int ((1 : Nat) : Int), .int (j : Int)] M Q = Q (.bl true) M := lt2 (fun M Q => by kernel_rfl) fun M Q => by kernel_rfl
theorem set_2 : ∀ j : Nat, j < 4 → ∀ (M : Mem) (Q : D → Mem → Prop), F_fits_set [.int ((2 : Nat) : Int), .int (j : Int)] M Q = Q (.bl true) M := lt4 (fun M Q => by kernel_rfl) (fun M Q => by kernel_rfl) (fun M Q => by kernel_rfl) fun M Q => by kernel_rfl
theorem check_y (h1 : YF F_fits_monotone M [.int (m : Int), d] (.bl true)) (h2 : YF F_is_index M [.int (j : Int), .int (m : Int)] (.bl true)) (hf : fs.lookup ("_modes" : Str) = some (D.int (m : Int))) : YF (F_Space_check_monotone C) M [.obj C fs, d, .int (j : Int)] .non := ⟨fun Q q => by
  unfold F_Space_check_monotone B_Space_check_monotone
  generalize F_fits_monotone = f1 at h1 ⊢
  generalize F_is_index = f2 at h2 ⊢
  show sSeq _ _ [.d (.obj C fs), .d d, .d (.int (j : Int))] M (KQ Q)
  refine t_skip (yt_not (yt_tru (y_call2 (y_fld (y_var rfl) hf) (y_var rfl) h1) tru_b)) ?_
  exact t_iff (yt_not (yt_tru (y_call2 (y_var rfl) (y_fld (y_var rfl) hf) h2) tru_b)) (t_next q)⟩
theorem least_y (ok : OkW m w) (hj : j < m) (h2 : YF F_is_index M [.int (j : Int), .int (m : Int)] (.bl true)) (hf : fs.lookup ("_modes" : Str) = some (D.int (m : Int))) (hl : fs.lookup ("check_monotone" : Str) = none) : YF (F_Space_least_sets C) M [.obj C fs, .tup (nL w), .int (j : Int)] (.tup (nL (leastN (setsN w j)))) := ⟨fun Q q => by
  have h0 := check_y (C := C) (yf_of (ok.mono M)) h2 hf
  have h3 : YF F_sets_of_mode M [.tup (nL w), .int (j : Int), .bl true] (.lst (nL (setsN w j))) := yf_of (ok.sets j hj M)
  have h4 : YF F_least_of M [.lst (nL (setsN w j))] (.tup (nL (leastN (setsN w j)))) := yf_of (ok.least j hj M)
  unfold F_Space_least_sets B_Space_least_sets
  generalize F_Space_check_monotone C = f1 at h0 ⊢
  generalize F_sets_of_mode = f2 at h3 ⊢
  generalize F_least_of = f3 at h4 ⊢
  show sSeq _ _ [.d (.obj C fs), .d (.tup (nL w)), .d (.int (j : Int))] M (KQ Q)
  refine t_seq (t_drop (y_meth (y_var rfl) hl (ya_cons (y_var rfl) (ya_cons (y_var rfl) ya_nil)) rfl h0) ?_)
  dsimp only
  refine t_ret (y_call1 (y_call (n := 3) (ya_cons (y_var (i := 1) rfl) (ya_cons (y_var (i := 2) rfl) (ya_cons y_c ya_nil))) rfl h3) h4) ?_
  exact q⟩
theorem mem_1 : ∀ n : Nat, n < 2 → YF (F_Space_members C) M [.obj C (fsS 1), .int (n : Int)] (.tup (nL (memN 1 n))) := fun n hn => ⟨fun Q q => by
  have h1 : YF F_fits_set M [.int ((1 : Nat) : Int), .int (n : Int)] (.bl true) := yf_of (set_1 n hn M)
  unfold F_Space_members B_Space_members
  generalize F_fits_set = f1 at h1 ⊢
  show sSeq _ _ [.d (.obj C (fsS 1)), .d (.int (n : Int)), .no] M (KQ Q)
  refine t_skip (yt_not (yt_tru (y_call2 (y_fld (y_var rfl) rfl) (y_var rfl) h1) tru_b)) ?_
  have hr : ∀ η, YA (iR1 (aCons (eFld C "_modes" (eVar 0)) aNil)) ((.d (.obj C (fsS 1))) :: η) M (rngD 0 1) := fun η => i_r1 (n := 1) (y_fld (y_var rfl) rfl) (by omega)
  refine t_ret (v := .tup (nL (memN 1 n))) ⟨fun K hk => ?_⟩ q
  show eLc _ _ _ _ _ _ M _
  refine eLc_u.mpr ((hr _).go _ ?_)
  rcases (by omega : n = 0 ∨ n = 1) with rfl | rfl
  · exact cast (by kernel_rfl) hk
  · exact cast (by kernel_rfl) hk⟩
theorem mem_2 : ∀ n : Nat, n < 4 → YF (F_Space_members C) M [.obj C (fsS 2), .int (n : Int)] (.tup (nL (memN 2 n))) := fun n hn => ⟨fun Q q => by
  have h1 : YF F_fits_set M [.int ((2 : Nat) : Int), .int (n : Int)] (.bl true) := yf_of (set_2 n hn M)
  unfold F_Space_members B_Space_members
  generalize F_fits_set = f1 at h1 ⊢
  show sSeq _ _ [.d (.obj C (fsS 2)), .d (.int (n : Int)), .no] M (KQ Q)
  refine t_skip (yt_not (yt_tru (y_call2 (y_fld (y_var rfl) rfl) (y_var rfl) h1) tru_b)) ?_
  have hr : ∀ η, YA (iR1 (aCons (eFld C "_modes" (eVar 0)) aNil)) ((.d (.obj C (fsS 2))) :: η) M (rngD 0 2) := fun η => i_r1 (n := 2) (y_fld (y_var rfl) rfl) (by omega)
  refine t_ret (v := .tup (nL (memN 2 n))) ⟨fun K hk => ?_⟩ q
  show eLc _ _ _ _ _ _ M _
  refine eLc_u.mpr ((hr _).go _ ?_)
  rcases (by omega : n = 0 ∨ n = 1 ∨ n = 2 ∨ n = 3) with rfl | rfl | rfl | rfl
  · exact cast (by kernel_rfl) hk
  · exact cast (by kernel_rfl) hk
  · exact cast (by kernel_rfl) hk
  · exact cast (by kernel_rfl) hk⟩
theorem way_1 : ∀ j : Nat, j < 1 → ∀ n : Nat, n < 2 → ∀ (M : Mem) (Q : D → Mem → Prop), F_way_from [.int ((1 : Nat) : Int), .int (j : Int), .tup (nL (memN 1 n))] M Q = Q (wayD 1 j (memN 1 n)) M := lt1 (lt2 (fun M Q => by kernel_rfl) fun M Q => by kernel_rfl)
theorem way_2 : ∀ j : Nat, j < 2 → ∀ n : Nat, n < 4 → ∀ (M : Mem) (Q : D → Mem → Prop), F_way_from [.int ((2 : Nat) : Int), .int (j : Int), .tup (nL (memN 2 n))] M Q = Q (wayD 2 j (memN 2 n)) M := lt2 (lt4 (fun M Q => by kernel_rfl) (fun M Q => by kernel_rfl) (fun M Q => by kernel_rfl) fun M Q => by kernel_rfl) (lt4 (fun M Q => by kernel_rfl) (fun M Q => by kernel_rfl) (fun M Q => by kernel_rfl) fun M Q => by kernel_rfl)
theorem rng_m {m : Nat} {x : D} (h : x ∈ rngD 0 m) : ∃ c : Nat, c < m ∧ x = .int (c : Int) := by
  obtain ⟨i, hi⟩ := List.mem_iff_getElem?.mp h
  obtain ⟨h1, h2⟩ := rngD_get hi
  exact ⟨i, h1, by rw [h2, Int.zero_add]⟩
theorem le_m {y : D} (ok : OkW m w) (h : y ∈ leD w (.int (j : Int))) : ∃ n : Nat, n < 2 ^ m ∧ y = .int (n : Int) := by
  obtain ⟨n, hn, rfl⟩ := List.mem_map.mp h
  have h1 := (List.mem_filter.mp hn).1
  have h2 := (List.mem_filter.mp h1).1
  rw [ok.len] at h2
  exact ⟨n, List.mem_range.mp h2, rfl⟩
theorem block_y (ok : OkW m w) (h0 : m ≤ 2) (hI : YI (F_Space___init__ C) C M [.int (m : Int)] (fsS m)) (h1 : YF F_check_modes M [.int (m : Int), .int 2] .non) (hl1 : (fsS m).lookup ("least_sets" : Str) = none) (hl2 : (fsS m).lookup ("members" : Str) = none)
    (hL : ∀ j : Nat, j < m → YF (F_Space_least_sets C) M [.obj C (fsS m), .tup (nL w), .int (j : Int)] (.tup (nL (leastN (setsN w j)))))
    (hM : ∀ n : Nat, n < 2 ^ m → YF (F_Space_members C) M [.obj C (fsS m), .int (n : Int)] (.tup (nL (memN m n))))
    (hW : ∀ j : Nat, j < m → ∀ n : Nat, n < 2 ^ m → YF F_way_from M [.int (m : Int), .int (j : Int), .tup (nL (memN m n))] (wayD m j (memN m n))) : YF (F_block_of C) M [.int (m : Int), .tup (nL w)] (blkD m w) := ⟨fun Q q => by
  have h2 : YF F_fits_monotone M [.int (m : Int), .tup (nL w)] (.bl true) := yf_of (ok.mono M)
  have few := ok.few
  unfold F_block_of B_block_of
  generalize F_check_modes = f1 at h1 ⊢
  generalize F_fits_monotone = f2 at h2 ⊢
  generalize F_Space___init__ C = f3 at hI ⊢
  generalize F_Space_least_sets C = f4 at hL ⊢
  generalize F_Space_members C = f5 at hM ⊢
  generalize F_way_from = f6 at hW ⊢
  show sSeq _ _ [.d (.int (m : Int)), .d (.tup (nL w)), .no, .no, .no, .no, .no] M (KQ Q)
  refine t_seq (t_drop (y_call2 (y_var rfl) y_c h1) ?_)
  dsimp only
  refine t_skip (yt_not (yt_tru (y_call2 (y_var rfl) (y_var rfl) h2) tru_b)) ?_
  refine t_sets (y_make (ya_cons (y_var rfl) ya_nil) rfl hI) ?_
  dsimp only [List.set_cons_succ, List.set_cons_zero]
  have pl : ((rngD 0 m).flatMap (leD w)).length = (pairsD m w).length := by
    unfold pairsD
    simp [List.length_flatMap]
  refine t_sets (v := .lst (pairsD m w)) (y_lc2d (leD w) (fun x y => .tup [x, y]) (i_r1 (y_var rfl) (by omega)) rfl (by omega) (fun x hx => ?_) fun x hx y hy => ?_) ?_
  · obtain ⟨c, hc, rfl⟩ := rng_m hx
    refine i_tup (y_meth (ds := [.tup (nL w), .int (c : Int)]) (fs := fsS m) (y_var rfl) hl1 ?_ rfl (hL c hc))
    exact ya_cons (y_var rfl) (ya_cons (y_var rfl) ya_nil)
  · exact y_tup (ya_cons (y_var rfl) (ya_cons (y_var rfl) ya_nil)) rfl
  dsimp only [List.set_cons_succ, List.set_cons_zero]
  have ht : ∀ {b : Bool}, eqD (.int ((pairsD m w).length : Nat)) (.int 0) = b → YT (bTest (eOp (eqF false) (eCB lenF (aCons (eVar 3) aNil)) (eC (.int 0)))) [.d (.int (m : Int)), .d (.tup (nL w)), .d (.obj C (fsS m)), .d (.lst (pairsD m w)), .no, .no, .no] M b := fun h => by
    rw [← h]
    exact yt_test (y_op (y_cb (ya_cons (y_var rfl) ya_nil) n_lenL) y_c (o_eqF rfl))
  by_cases hP : pairsD m w = []
  · have e : blkD m w = .tup [.str "do", .str "go", .tup ((rngD 0 m).map fun _ => D.non)] := by unfold blkD; rw [if_pos hP]
    rw [e] at q
    refine t_hit (ht (by rw [hP]; rfl)) (y_tup (ya_cons y_c (ya_cons y_c (ya_cons (y_cb (ya_cons (y_lc (fun _ => .non) (i_r1 (y_var rfl) (by omega)) rfl (by rw [rng_len]; omega) fun x hx => y_c) ya_nil) (n_tuple rfl)) ya_nil))) rfl) ?_
    exact q
  · have e : blkD m w = .tup (.str "or" :: (pairsD m w).map (wayP m)) := by unfold blkD; rw [if_neg hP]
    rw [e] at q
    refine t_skip (ht ?_) ?_
    · have : (pairsD m w).length ≠ 0 := fun z => hP (List.length_eq_zero_iff.mp z)
      rw [eqD]
      exact decide_eq_false (by omega)
    refine t_ret (y_op (y_tup (ya_cons y_c ya_nil) rfl) (y_cb (ya_cons (y_lcT (wayP m) (i_lst (y_var rfl)) rfl (by omega) fun p hp => ?_) ya_nil) (n_tuple rfl)) (o_addT (szOk_mk (by rw [List.length_map]; show 1 + _ ≤ _; omega)))) ?_
    · obtain ⟨x, hx, hp2⟩ := List.mem_flatMap.mp hp
      obtain ⟨y, hy, rfl⟩ := List.mem_map.mp hp2
      obtain ⟨c, hc, rfl⟩ := rng_m hx
      obtain ⟨n, hn, rfl⟩ := le_m ok hy
      refine ⟨_, _, rfl, ?_⟩
      have hw := hW c hc n hn
      exact y_call (ya_cons (y_var rfl) (ya_cons (y_var rfl) (ya_cons (y_meth (y_var rfl) hl2 (ya_cons (y_var rfl) ya_nil) rfl (hM n hn)) ya_nil))) rfl hw
    · exact q⟩
theorem block_1 (h : w ∈ R1) : YF (F_block_of C) M [.int 1, .tup (nL w)] (blkD 1 w) := by
  have ok := all_p ok_1 w h
  exact block_y (m := 1) ok (by omega) init_1 (yf_of fun Q => by kernel_rfl) rfl rfl (fun j hj => least_y ok hj (yf_of (index_1 j hj M)) rfl rfl) mem_1 fun j hj n hn => yf_of (way_1 j hj n hn M)
theorem block_2 (h : w ∈ R2) : YF (F_block_of C) M [.int 2, .tup (nL w)] (blkD 2 w) := by
  have ok := all_p ok_2 w h
  exact block_y (m := 2) ok (by omega) init_2 (yf_of fun Q => by kernel_rfl) rfl rfl (fun j hj => least_y ok hj (yf_of (index_2 j hj M)) rfl rfl) mem_2 fun j hj n hn => yf_of (way_2 j hj n hn M)
end L68
set_option Elab.async false
set_option linter.all false
set_option maxRecDepth 100000
set_option maxHeartbeats 1000000
namespace L68
open PySem PySem.Spec L2 DL LamX FL PK
open PyProof.Rows hiding namesOf
variable {M : Mem} {Q : D → Mem → Prop} {η : Sls} {C p : Addr} {x y z v d : D} {fe fa fb : WE} {ds : List D} {m j n : Nat} {w : List Nat} {fs : List (Str × D)} {k : KS}
def innD : D → List D
  | .tup (.str s :: r) => if (s == ("do" : Str)) || (s == ("exit" : Str)) then [] else r
  | _ => []
def bfs : Nat → List D → Nat → List D
  | 0, l, _ => l
  | n + 1, l, i => match l[i]? with
    | some d => bfs n (l ++ innD d) (i + 1)
    | none => l
def pcsD (m : Nat) (w : List Nat) : List D := bfs 20 [blkD m w] 0
theorem t_parON {i j : Nat} {fr : WA} (a : YA fr η M ds) (hz : (szOk ds.length && (notOwn η i && notOwn η j) && Nat.blt i η.length && !Nat.beq j i) = true) (q : k.nx ((η.set i (.own ds)).set j (.d d)) M) : sParON i j fr d η M k := a.go _ (gd_mk hz q)
theorem t_wh {ft : WB} {fb : WS} (n : Nat) (h : whN ft fb k n η M) : sWhile ft fb η M k := ⟨n, h⟩
structure OkR (m : Nat) (w : List Nat) : Prop where
  known : knD (.tup [.str "scope", .str "win", blkD m w]) = true
  term : termB [] (.tup [.str "scope", .str "win", blkD m w]) = true
  won : ∀ (M : Mem) (Q : D → Mem → Prop), F__law_won [.int (m : Int), blkD m w] M Q = Q (.tup (nL w)) M
  same : ∀ (M : Mem) (k : D → Prop), eqF true M (.tup (nL w)) (.tup (nL w)) k = k (.bl false)
  all : ∀ (M : Mem) (Q : D → Mem → Prop), Q (.lst (pcsD m w)) M → F__law_all_of [blkD m w] M Q
  rest : ∀ (C : Addr) (M : Mem) (Q : D → Mem → Prop), B__law_right_3 C [.d (.int (m : Int)), .d (.tup (nL w)), .d (blkD m w), .d (.lst (pcsD m w)), .no, .no] M (KQ Q) = Q (.bl true) M
theorem okr_1 : AllP (OkR 1) R1 := by
  repeat' first
    | exact trivial
    | refine ⟨⟨by decide +kernel, by decide +kernel, fun M Q => by kernel_rfl, fun M Q => by kernel_rfl, fun M Q q => by unfold F__law_all_of B__law_all_of B__law_all_of_1; exact t_seq (t_parON (ya_cons (y_var (i := 0) rfl) ya_nil) rfl (t_seq (t_wh 20 (cast (by kernel_rfl) q)))), fun C M Q => by kernel_rfl⟩, ?_⟩
theorem okr_2 : AllP (OkR 2) R2 := by
  repeat' first
    | exact trivial
    | refine ⟨⟨by decide +kernel, by decide +kernel, fun M Q => by kernel_rfl, fun M Q => by kernel_rfl, fun M Q q => by unfold F__law_all_of B__law_all_of B__law_all_of_1; exact t_seq (t_parON (ya_cons (y_var (i := 0) rfl) ya_nil) rfl (t_seq (t_wh 20 (cast (by kernel_rfl) q)))), fun C M Q => by kernel_rfl⟩, ?_⟩
theorem right_i (ok : OkR m w) (hb : YF (F_block_of C) M [.int (m : Int), .tup (nL w)] (blkD m w)) (q : Q (.bl true) M) : F__law_right C [.int (m : Int), .tup (nL w)] M Q := by
  have h2 : YF F_is_term M [.tup [.str "scope", .str "win", blkD m w], .tup []] (.bl true) := by
    have := is_term_y (own := []) (M := M) ok.known (by decide +kernel) (par_kn (by decide +kernel))
    rw [ok.term] at this
    exact this
  have h3 : YF F__law_won M [.int (m : Int), blkD m w] (.tup (nL w)) := yf_of (ok.won M)
  have he : Y2 (eqF true) M (.tup (nL w)) (.tup (nL w)) (.bl false) := ⟨fun k hk => by rw [ok.same M k]; exact hk⟩
  have h4 : YF F__law_all_of M [blkD m w] (.lst (pcsD m w)) := ⟨ok.all M⟩
  have h5 := ok.rest C M Q
  unfold F__law_right B__law_right B__law_right_1 B__law_right_2
  generalize F_block_of C = f1 at hb ⊢
  generalize F_is_term = f2 at h2 ⊢
  generalize F__law_won = f3 at h3 ⊢
  generalize F__law_all_of = f4 at h4 ⊢
  generalize B__law_right_3 C = t3 at h5 ⊢
  show sSeq _ _ [.d (.int (m : Int)), .d (.tup (nL w)), .no, .no, .no, .no] M (KQ Q)
  refine t_sets (y_call2 (y_var rfl) (y_var rfl) hb) ?_
  dsimp only [List.set_cons_succ, List.set_cons_zero]
  refine t_skip (yt_or_f (yt_not (yt_tru (y_call2 (y_tup (ya_cons y_c (ya_cons y_c (ya_cons (y_var rfl) ya_nil))) rfl) (y_tup ya_nil rfl) h2) tru_b)) (yt_test (y_op (y_call2 (y_var rfl) (y_var rfl) h3) (y_var rfl) he))) ?_
  refine t_sets (y_call1 (y_var rfl) h4) ?_
  dsimp only [List.set_cons_succ, List.set_cons_zero]
  rw [h5]
  exact q
theorem right_1 (h : w ∈ R1) (q : Q (.bl true) M) : F__law_right C [.int ((1 : Nat) : Int), .tup (nL w)] M Q := right_i (all_p okr_1 w h) (block_1 h) q
theorem right_2 (h : w ∈ R2) (q : Q (.bl true) M) : F__law_right C [.int ((2 : Nat) : Int), .tup (nL w)] M Q := right_i (all_p okr_2 w h) (block_2 h) q
theorem rows_1 (M : Mem) (Q : D → Mem → Prop) : F__law_rows [.int ((1 : Nat) : Int)] M Q = Q (.lst (tL R1)) M := by kernel_rfl
theorem rows_2 (M : Mem) (Q : D → Mem → Prop) : F__law_rows [.int ((2 : Nat) : Int)] M Q = Q (.lst (tL R2)) M := by kernel_rfl
def B6 : List (List Nat) := [[0, 0, 0, 0], [0, 0, 0, 1], [0, 1, 0, 1], [0, 0, 1, 1], [0, 1, 1, 1], [1, 1, 1, 1]]
def wbN (md : Nat) (a b : List Nat) : List Nat := List.zipWith (fun x y => x ||| y * 2 ^ md) a b
def G0 : List (List Nat) := [[0, 0, 0, 0]]
def G1 : List (List Nat) := G0.flatMap fun a => B6.map (wbN 0 a)
def G2 : List (List Nat) := G1.flatMap fun a => B6.map (wbN 1 a)
theorem bits_0 : AllP (fun a => AllP (fun b => ∀ (M : Mem) (Q : D → Mem → Prop), F_with_bits [.tup (nL a), .tup (nL b), .int 0] M Q = Q (.tup (nL (wbN 0 a b))) M) B6) G0 := by
  repeat' first
    | exact trivial
    | exact fun M Q => by kernel_rfl
    | refine ⟨?_, ?_⟩
theorem bits_1 : AllP (fun a => AllP (fun b => ∀ (M : Mem) (Q : D → Mem → Prop), F_with_bits [.tup (nL a), .tup (nL b), .int 1] M Q = Q (.tup (nL (wbN 1 a b))) M) B6) G1 := by
  repeat' first
    | exact trivial
    | exact fun M Q => by kernel_rfl
    | refine ⟨?_, ?_⟩
theorem rising_2 (M : Mem) (Q : D → Mem → Prop) : F_rising_bits [.int 2] M Q = Q (.lst (tL B6)) M := by kernel_rfl
theorem level_2 (M : Mem) (Q : D → Mem → Prop) : F_level_map [.int 2, .int 0] M Q = Q (.tup (nL [0, 0, 0, 0])) M := by kernel_rfl
theorem sort_2 (M : Mem) (k : D → Prop) : sortVF M [.lst (tL G2)] k = k (.lst (tL R2)) := by kernel_rfl
def wbD (md : Nat) : D → D → D
  | .tup a, .tup b => .tup (nL (wbN md (a.map natD) (b.map natD)))
  | _, _ => .non
theorem natD_nL : ∀ l : List Nat, (nL l).map natD = l
  | [] => rfl
  | a :: r => by
    show natD (.int (a : Int)) :: (nL r).map natD = _
    rw [natD_nL r]
    rfl
theorem wbD_eq {md : Nat} {a b : List Nat} : wbD md (.tup (nL a)) (.tup (nL b)) = .tup (nL (wbN md a b)) := by
  unfold wbD
  simp only [natD_nL]
theorem grow_eq {md : Nat} : ∀ L : List (List Nat), ((tL L).flatMap fun x => (tL B6).map (wbD md x)) = tL (L.flatMap fun a => B6.map (wbN md a))
  | [] => rfl
  | a :: r => by
    have ih := grow_eq (md := md) r
    unfold tL at ih ⊢
    rw [List.map_cons, List.flatMap_cons, List.flatMap_cons, List.map_append, ih]
    congr 1
    rw [List.map_map, List.map_map]
    refine List.map_congr_left fun b _ => ?_
    exact wbD_eq
theorem maps_2 : YF F_monotone_maps M [.int 2] (.tup (tL R2)) := ⟨fun Q q => by
  have h1 : YF F_rising_bits M [.int 2] (.lst (tL B6)) := yf_of (rising_2 M)
  have h2 : YF F_level_map M [.int 2, .int 0] (.tup (nL [0, 0, 0, 0])) := yf_of (level_2 M)
  have h3 : ∀ a ∈ G0, ∀ b ∈ B6, YF F_with_bits M [.tup (nL a), .tup (nL b), .int 0] (wbD 0 (.tup (nL a)) (.tup (nL b))) := fun a ha b hb => by
    rw [wbD_eq]
    exact yf_of (all_p (all_p bits_0 a ha) b hb M)
  have h4 : ∀ a ∈ G1, ∀ b ∈ B6, YF F_with_bits M [.tup (nL a), .tup (nL b), .int 1] (wbD 1 (.tup (nL a)) (.tup (nL b))) := fun a ha b hb => by
    rw [wbD_eq]
    exact yf_of (all_p (all_p bits_1 a ha) b hb M)
  unfold F_monotone_maps B_monotone_maps
  generalize F_rising_bits = f1 at h1 ⊢
  generalize F_level_map = f2 at h2 ⊢
  generalize F_with_bits = f3 at h3 h4 ⊢
  show sSeq _ _ [.d (.int 2), .no, .no, .no, .no, .no] M (KQ Q)
  refine t_sets (y_call1 (y_var rfl) h1) ?_
  refine t_sets (v := .lst (tL G0)) (y_lst (ya_cons (y_call2 (y_var rfl) y_c h2) ya_nil) rfl) ?_
  dsimp only [List.set_cons_succ, List.set_cons_zero]
  refine t_seq (sFor_u.mpr ((i_r1 (n := 2) (y_var rfl) (by omega)).go _ ?_))
  have mem : ∀ {L : List (List Nat)} {x : D}, x ∈ tL L → ∃ a ∈ L, x = .tup (nL a) := fun {L x} h => by
    obtain ⟨a, ha, e⟩ := List.mem_map.mp h
    exact ⟨a, ha, e.symm⟩
  have e1 : ((tL G0).flatMap fun x => (tL B6).map (wbD 0 x)) = tL G1 := grow_eq G0
  have e2 : ((tL G1).flatMap fun x => (tL B6).map (wbD 1 x)) = tL G2 := grow_eq G1
  refine gd_i rfl ?_
  refine t_set (y_lc2d (fun _ => tL B6) (wbD 0) (i_lst (y_var rfl)) rfl (by decide +kernel) (fun x hx => i_lst (y_var rfl)) fun x hx y hy => ?_) ?_
  · obtain ⟨a, ha, rfl⟩ := mem hx
    obtain ⟨b, hb, rfl⟩ := mem hy
    exact y_call (n := 3) (ya_cons (y_var rfl) (ya_cons (y_var rfl) (ya_cons (y_var rfl) ya_nil))) rfl (h3 a ha b hb)
  rw [e1]
  refine gd_i rfl ?_
  refine t_set (y_lc2d (fun _ => tL B6) (wbD 1) (i_lst (y_var rfl)) rfl (by decide +kernel) (fun x hx => i_lst (y_var rfl)) fun x hx y hy => ?_) ?_
  · obtain ⟨a, ha, rfl⟩ := mem hx
    obtain ⟨b, hb, rfl⟩ := mem hy
    exact y_call (n := 3) (ya_cons (y_var rfl) (ya_cons (y_var rfl) (ya_cons (y_var rfl) ya_nil))) rfl (h4 a ha b hb)
  rw [e2]
  have hS : Yn sortVF M [.lst (tL G2)] (.lst (tL R2)) := ⟨fun k hk => by rw [sort_2]; exact hk⟩
  have hT : Yn tupleF M [.lst (tL R2)] (.tup (tL R2)) := n_tuple rfl
  show sRet (eCB tupleF (aCons (eCB sortVF (aCons (eVar 2) aNil)) aNil)) [.d (.int 2), .d (.lst (tL B6)), .d (.lst (tL G2)), .d (.int (0 + ((1 : Nat) : Int))), .no, .no] M (KQ Q)
  exact t_ret (k := KQ Q) (y_cb (ya_cons (y_cb (ya_cons (y_var (i := 2) rfl) ya_nil) hS) ya_nil) hT) q⟩
end L68
set_option Elab.async false
set_option linter.all false
set_option maxRecDepth 100000
set_option maxHeartbeats 1000000
namespace L68
open PySem PySem.Spec L2 DL LamX FL PK
open PyProof.Rows hiding namesOf
variable {M : Mem} {Q : D → Mem → Prop} {η : Sls} {C p : Addr} {x y z v d : D} {fe fa fb : WE} {ds : List D} {m j n : Nat} {w : List Nat} {fs : List (Str × D)} {k : KS} {K : KE}
theorem w_set {i : Nat} (h : fe η M fun d η1 M1 => k.nx (η1.set i (.d d)) M1) : sSet i fe η M k := h
theorem w_ret (h : fe η M fun d η1 M1 => k.rt d M1) : sRet fe η M k := h
theorem and_t (a : Yv fa η M (.bl true)) (h : fb η M K) : eAnd fa fb η M K := a.go _ h
theorem objM_mk {x : Addr} {q : Prop} (h : q) : objM (mup M x (.ins C fs)) C (.raw (.ref x)) q := by
  unfold objM
  simp only [mup_same]
  exact gd_mk (by simp) h
theorem same_2 (M : Mem) (k : D → Prop) : eqF false M (.tup (tL R2)) (.tup (tL R2)) k = k (.bl true) := by kernel_rfl
theorem maps_i {x : Addr} (q : Q (.tup (tL R2)) (mup M x (.ins C (putD "_maps" (.tup (tL R2)) (fsS 2))))) : F_Space_maps C [.raw (.ref x)] (mup M x (.ins C (fsS 2))) Q := by
  have h1 : ∀ {M : Mem}, YF F_monotone_maps M [.int 2] (.tup (tL R2)) := maps_2
  unfold F_Space_maps B_Space_maps
  generalize F_monotone_maps = f1 at h1 ⊢
  generalize tL R2 = L at *
  show sSeq _ _ [.d (.raw (.ref x))] _ (KQ Q)
  have hn : ∀ {M : Mem}, Y2 (isNF false) M .non .non (.bl true) := ⟨fun k hk => hk⟩
  refine t_seq (t_ift (yt_test (y_op (y_fldR (i := 0) rfl rfl) y_c hn)) (t_put (y_call1 (y_fldR (i := 0) rfl rfl) h1) rfl rfl ?_))
  show sRet (eFld C "_maps" (eVar 0)) [.d (.raw (.ref x))] (mup M x (.ins C (putD "_maps" (.tup L) (fsS 2)))) (KQ Q)
  exact t_ret (k := KQ Q) (y_fldR (i := 0) (f := "_maps") rfl rfl) q
abbrev Lw (s : D) (s1 s2 s3 s4 : SL) : Sls := [.d s, s1, s2, s3, s4, .no, .no]
theorem told_i {sc : D} {s1 s2 s3 s4 : SL} (q : ∀ M', k.rt (.bl true) M') : B_law_1 C (Lw sc s1 s2 s3 s4) M k := by
  have hR : ∀ {w : List Nat}, w ∈ R1 → YF (F__law_right C) M [.int 1, .tup (nL w)] (.bl true) := fun h => ⟨fun Q q => right_1 h q⟩
  have h1 : YF F__law_rows M [.int 1] (.lst (tL R1)) := yf_of (rows_1 M)
  have h2 : YF F__law_rows M [.int 2] (.lst (tL R2)) := yf_of (rows_2 M)
  have hI : YI (F_Space___init__ C) C M [.int 2] (fsS 2) := init_2
  have hm : ∀ {x : Addr} {Q : D → Mem → Prop}, (∀ M', Q (.tup (tL R2)) M') → F_Space_maps C [.raw (.ref x)] (mup M x (.ins C (fsS 2))) Q := fun h => maps_i (h _)
  have hs := same_2
  unfold B_law_1 B_law_2
  generalize F__law_right C = f1 at hR ⊢
  generalize F__law_rows = f2 at h1 h2 ⊢
  generalize F_Space___init__ C = f3 at hI ⊢
  generalize F_Space_maps C = f4 at hm ⊢
  generalize tL R2 = L2 at *
  refine t_sets (v := .lst []) (y_lcf (ds := tL R1) (fun _ => false) (fun x => x) (i_lst (y_call1 y_c h1)) rfl (by decide +kernel) (fun x hx => ?_) fun x hx h => by cases h) ?_
  · obtain ⟨a, ha, rfl⟩ := List.mem_map.mp hx
    exact yt_not (yt_tru (y_call2 y_c (y_var rfl) (hR ha)) tru_b)
  dsimp only [List.set_cons_succ, List.set_cons_zero]
  refine w_ret (and_t (y_op (y_var rfl) (y_lst ya_nil rfl) (o_eqF rfl)) (w_opY (x := .tup L2) (y_cb (ya_cons (y_call1 y_c h2) ya_nil) (n_tuple rfl)) ?_))
  refine gd_mk rfl fun x hx => hI.go x hx _ ⟨rfl, objM_mk (hm fun M' => ?_)⟩
  show eqF false M' (.tup L2) (.tup L2) _
  rw [hs]
  exact q M'
theorem rng_cells {m : Nat} : ∀ x ∈ rngD 0 m, ∃ i : Nat, x = .int (i : Int) := fun x hx => by
  obtain ⟨c, _, e⟩ := rng_m hx
  exact ⟨c, e⟩
theorem law_i {ns : List Int} (hl : ns.length ≤ 63) (q : ∀ M', Q (.bl true) M') : F_law C [.lst (ns.map D.int)] M Q := by
  have hR1 : ∀ {M : Mem} {w : List Nat} {Q : D → Mem → Prop}, w ∈ R1 → Q (.bl true) M → F__law_right C [.int 1, .tup (nL w)] M Q := fun h q => right_1 h q
  have hR2 : ∀ {M : Mem} {w : List Nat} {Q : D → Mem → Prop}, w ∈ R2 → Q (.bl true) M → F__law_right C [.int 2, .tup (nL w)] M Q := fun h q => right_2 h q
  have h2 : ∀ {M : Mem} {i : Nat} {Q : D → Mem → Prop}, (∀ p, M p = none → Q (.raw (.ref p)) (mup M p .die)) → F__law_numbers [.lst (ns.map D.int), .int (i : Int)] M Q := fun {M i Q} q => ⟨ns, i, rfl, hl, q⟩
  have hS : ∀ {M : Mem} {p : Addr} {Q : D → Mem → Prop}, M p = some .die → (∀ i : Nat, (i : Int) < 2 → Q (.int (i : Int)) M) → F__law_cast [.raw (.ref p), .int 2] M Q := fun hp q => cast_i hp (by omega) (by omega) q
  have hP : ∀ {M : Mem} {p : Addr} {l : List D} {Q : D → Mem → Prop}, M p = some .die → l ≠ [] → l.length < 1000000 → (∀ x ∈ l, Q x M) → F__law_pick [.raw (.ref p), .lst l] M Q := fun hp h0 h1 q => by
    show PK.F__law_pick _ _ _
    exact pick_i hp (.inl rfl) h0 h1 q
  have hW1 : ∀ {M : Mem}, YF F__law_rows M [.int 1] (.lst (tL R1)) := fun {M} => yf_of (rows_1 M)
  have hW2 : ∀ {M : Mem}, YF F__law_rows M [.int 2] (.lst (tL R2)) := fun {M} => yf_of (rows_2 M)
  have h3 : ∀ {M : Mem} {k : KS} {s1 s2 s3 s4 : SL}, (∀ M', k.rt (.bl true) M') → B_law_1 C (Lw (.lst (ns.map D.int)) s1 s2 s3 s4) M k := fun a => told_i a
  have n1 : tL R1 ≠ [] := fun h => by cases h
  have n2 : tL R2 ≠ [] := fun h => by cases h
  have z1 : (tL R1).length < 1000000 := by decide +kernel
  have z2 : (tL R2).length < 1000000 := by decide +kernel
  have m1 : ∀ x ∈ tL R1, ∃ w ∈ R1, x = .tup (nL w) := fun x hx => by
    obtain ⟨a, ha, e⟩ := List.mem_map.mp hx
    exact ⟨a, ha, e.symm⟩
  have m2 : ∀ x ∈ tL R2, ∃ w ∈ R2, x = .tup (nL w) := fun x hx => by
    obtain ⟨a, ha, e⟩ := List.mem_map.mp hx
    exact ⟨a, ha, e.symm⟩
  unfold F_law B_law
  generalize F__law_right C = f1 at hR1 hR2 ⊢
  unfold F__law_wheel F__law_spin
  generalize F__law_numbers = f2 at h2 ⊢
  generalize F__law_cast = f3 at hS ⊢
  generalize F__law_pick = f4 at hP ⊢
  generalize F__law_rows = f5 at hW1 hW2 ⊢
  generalize B_law_1 C = t1 at h3 ⊢
  generalize tL R1 = L1 at *
  generalize tL R2 = L2 at *
  obtain ⟨m, hm7, hr⟩ := rng_i (c := 5) (M := M) (η := Lw (.lst (ns.map D.int)) .no .no .no .no) (y_cb (ya_cons (y_var (i := 0) rfl) ya_nil) n_lenL)
  show sSeq _ _ (Lw (.lst (ns.map D.int)) .no .no .no .no) M (KQ Q)
  refine t_seq (sFor_indX (ds := rngD 0 m) (η1 := Lw (.lst (ns.map D.int)) .no .no .no .no) (M1 := M) (fun r η M' => (∃ s1 s2 s3 s4 : SL, isOwnS s1 = false ∧ isOwnS s2 = false ∧ isOwnS s3 = false ∧ isOwnS s4 = false ∧ η = Lw (.lst (ns.map D.int)) s1 s2 s3 s4) ∧ ∀ x ∈ r, ∃ i : Nat, x = .int (i : Int)) (i_r1 hr (by omega)).go ?_ ?_ ?_)
  · rintro x r η M' ⟨⟨s1, s2, s3, s4, o1, o2, o3, o4, rfl⟩, hx⟩ N hN
    obtain ⟨i, rfl⟩ := hx x List.mem_cons_self
    refine gd_i (by cases s1 <;> first | rfl | cases o1) ?_
    refine t_seq (w_set (c_call (ds := [.lst (ns.map D.int), .int (i : Int)]) (ya_cons (y_var rfl) (ya_cons (y_var rfl) ya_nil)) rfl (h2 fun p hp => ?_)))
    show sFor _ _ _ (Lw (.lst (ns.map D.int)) (.d (.int (i : Int))) (.d (.raw (.ref p))) s3 s4) _ _
    refine sFor_indX (ds := rngD 0 3) (η1 := Lw (.lst (ns.map D.int)) (.d (.int (i : Int))) (.d (.raw (.ref p))) s3 s4) (M1 := mup M' p .die) (fun _ η M2 => M2 p = some .die ∧ ∃ s3 s4 : SL, isOwnS s3 = false ∧ isOwnS s4 = false ∧ η = Lw (.lst (ns.map D.int)) (.d (.int (i : Int))) (.d (.raw (.ref p))) s3 s4) (i_r1 (n := 3) y_c (by omega)).go ?_ ?_ ?_
    · rintro x2 r2 η M2 ⟨hp2, s3, s4, o3, o4, rfl⟩ N2 hN2
      refine gd_i (by cases s3 <;> first | rfl | cases o3) ?_
      refine t_seq (w_set (w_opY (x := .int 1) y_c (c_call (ds := [.raw (.ref p), .int 2]) (ya_cons (y_var rfl) (ya_cons y_c ya_nil)) rfl (hS hp2 fun j hj => ?_))))
      have fin : ∀ (md : Int) (L : List D), L ≠ [] → L.length < 1000000 → (∀ {M : Mem}, YF f5 M [.int md] (.lst L)) → (∀ x ∈ L, ∀ {M : Mem} {Q : D → Mem → Prop}, Q (.bl true) M → f1 [.int md, x] M Q) → ∀ ηz : Sls, ηz = Lw (.lst (ns.map D.int)) (.d (.int (i : Int))) (.d (.raw (.ref p))) (.d x2) (.d (.int md)) → ∀ K2 : KS, K2.nx ηz M2 → sIf (bNot (bTru (eCall f1 2 (aCons (eVar 4) (aCons (eCall f4 2 (aCons (eVar 2) (aCons (eCall f5 1 (aCons (eVar 4) aNil)) aNil))) aNil))))) (sRet (eC (.bl false))) sNext ηz M2 K2 := by
        intro md L n0 zl hw hr ηz ez K2 hK
        subst ez
        refine s_if (w_not (w_tru (w_call (w_cons ((y_var (i := 4) rfl).go _ (w_cons (c_call (ds := [.raw (.ref p), .lst L]) (ya_cons (y_var rfl) (ya_cons (y_call1 (y_var rfl) hw) ya_nil)) rfl (hP hp2 n0 zl fun x hx => w_nil (gd_mk rfl (hr x hx (tru_b _ ?_)))))))))))
        simp only [Bool.not_true, br_false]
        exact t_next hK
      have hK : ∀ md : Int, N2 (Lw (.lst (ns.map D.int)) (.d (.int (i : Int))) (.d (.raw (.ref p))) (.d x2) (.d (.int md))) M2 := fun md => hN2 _ _ ⟨hp2, _, _, rfl, rfl, rfl⟩
      rcases (by omega : j = 0 ∨ j = 1) with rfl | rfl
      · refine fin 1 L1 n1 z1 hW1 (fun x hx M Q q => ?_) _ rfl _ (hK 1)
        obtain ⟨w, hw, rfl⟩ := m1 x hx
        exact hR1 hw q
      · refine fin 2 L2 n2 z2 hW2 (fun x hx M Q q => ?_) _ rfl _ (hK 2)
        obtain ⟨w, hw, rfl⟩ := m2 x hx
        exact hR2 hw q
    · rintro η M2 ⟨hp2, s3, s4, o3, o4, rfl⟩
      exact hN _ _ ⟨⟨_, _, _, _, rfl, rfl, o3, o4, rfl⟩, fun x hx' => hx x (List.mem_cons_of_mem _ hx')⟩
    · exact ⟨mup_same, s3, s4, o3, o4, rfl⟩
  · rintro η M' ⟨⟨s1, s2, s3, s4, o1, o2, o3, o4, rfl⟩, _⟩
    exact h3 q
  · exact ⟨⟨_, _, _, _, rfl, rfl, rfl, rfl, rfl⟩, rng_cells⟩
theorem law_w : ∀ ds M R, DL.p_law ds M R → p_law C ds M R := fun ds M R ⟨ns, e, hl, hn, q⟩ => by
  subst e
  exact ⟨rfl, M, fun _ => none, fun d _ => d = .bl true, ⟨fun _ _ => rfl, fun a o h => nomatch h⟩, law_i hl fun _ => rfl, fun d M0 M' e _ => by subst e; exact q M'⟩
end L68
set_option Elab.async false
set_option linter.all false
set_option maxRecDepth 100000
set_option maxHeartbeats 1000000
namespace L68
open PySem PySem.Spec L2 DL LamX FL PK
open PyProof.Rows hiding namesOf
theorem all_mk {l : PySem.W.OpenLaw} {w : World} {K : PySem.W.Frag} {h : Heap} {mg : Str → Option Value} {fa : Addr} (X : K.In h) (G : h.Ns mainGlobals mg) (hfa : mg "law" = some (.ref fa))
    {C_Space fI_Space : Addr}
    {f0 : Addr} {od0 an0 : Option Addr} {sl0 : Array (Option Value)} {oc0 kV0 dc0 pm0 cd0 ct0 : Value}
    {f1 : Addr} {od1 an1 : Option Addr} {sl1 : Array (Option Value)} {oc1 kV1 dc1 pm1 cd1 ct1 : Value}
    {f2 : Addr} {od2 an2 : Option Addr} {sl2 : Array (Option Value)} {oc2 kV2 dc2 pm2 cd2 ct2 : Value}
    {f3 : Addr} {od3 an3 : Option Addr} {sl3 : Array (Option Value)} {oc3 kV3 dc3 pm3 cd3 ct3 : Value}
    {f4 : Addr} {od4 an4 : Option Addr} {sl4 : Array (Option Value)} {oc4 kV4 dc4 pm4 cd4 ct4 : Value}
    {f5 : Addr} {od5 an5 : Option Addr} {sl5 : Array (Option Value)} {oc5 kV5 dc5 pm5 cd5 ct5 : Value}
    {f6 : Addr} {od6 an6 : Option Addr} {sl6 : Array (Option Value)} {oc6 kV6 dc6 pm6 cd6 ct6 : Value}
    {f7 : Addr} {od7 an7 : Option Addr} {sl7 : Array (Option Value)} {oc7 kV7 dc7 pm7 cd7 ct7 : Value}
    {f8 : Addr} {od8 an8 : Option Addr} {sl8 : Array (Option Value)} {oc8 kV8 dc8 pm8 cd8 ct8 : Value}
    {f9 : Addr} {od9 an9 : Option Addr} {sl9 : Array (Option Value)} {oc9 kV9 dc9 pm9 cd9 ct9 : Value}
    {f10 : Addr} {od10 an10 : Option Addr} {sl10 : Array (Option Value)} {oc10 kV10 dc10 pm10 cd10 ct10 : Value}
    {f11 : Addr} {od11 an11 : Option Addr} {sl11 : Array (Option Value)} {oc11 kV11 dc11 pm11 cd11 ct11 : Value}
    {f12 : Addr} {od12 an12 : Option Addr} {sl12 : Array (Option Value)} {oc12 kV12 dc12 pm12 cd12 ct12 : Value}
    {f13 : Addr} {od13 an13 : Option Addr} {sl13 : Array (Option Value)} {oc13 kV13 dc13 pm13 cd13 ct13 : Value}
    {f14 : Addr} {od14 an14 : Option Addr} {sl14 : Array (Option Value)} {oc14 kV14 dc14 pm14 cd14 ct14 : Value}
    {f15 : Addr} {od15 an15 : Option Addr} {sl15 : Array (Option Value)} {oc15 kV15 dc15 pm15 cd15 ct15 : Value}
    {f16 : Addr} {od16 an16 : Option Addr} {sl16 : Array (Option Value)} {oc16 kV16 dc16 pm16 cd16 ct16 : Value}
    {f17 : Addr} {od17 an17 : Option Addr} {sl17 : Array (Option Value)} {oc17 kV17 dc17 pm17 cd17 ct17 : Value}
    {f18 : Addr} {od18 an18 : Option Addr} {sl18 : Array (Option Value)} {oc18 kV18 dc18 pm18 cd18 ct18 : Value}
    {f19 : Addr} {od19 an19 : Option Addr} {sl19 : Array (Option Value)} {oc19 kV19 dc19 pm19 cd19 ct19 : Value}
    {f20 : Addr} {od20 an20 : Option Addr} {sl20 : Array (Option Value)} {oc20 kV20 dc20 pm20 cd20 ct20 : Value}
    {f21 : Addr} {od21 an21 : Option Addr} {sl21 : Array (Option Value)} {oc21 kV21 dc21 pm21 cd21 ct21 : Value}
    {f22 : Addr} {od22 an22 : Option Addr} {sl22 : Array (Option Value)} {oc22 kV22 dc22 pm22 cd22 ct22 : Value}
    {f23 : Addr} {od23 an23 : Option Addr} {sl23 : Array (Option Value)} {oc23 kV23 dc23 pm23 cd23 ct23 : Value}
    {f24 : Addr} {od24 an24 : Option Addr} {sl24 : Array (Option Value)} {oc24 kV24 dc24 pm24 cd24 ct24 : Value}
    {f25 : Addr} {od25 an25 : Option Addr} {sl25 : Array (Option Value)} {oc25 kV25 dc25 pm25 cd25 ct25 : Value}
    {f26 : Addr} {od26 an26 : Option Addr} {sl26 : Array (Option Value)} {oc26 kV26 dc26 pm26 cd26 ct26 : Value}
    {f27 : Addr} {od27 an27 : Option Addr} {sl27 : Array (Option Value)} {oc27 kV27 dc27 pm27 cd27 ct27 : Value}
    {f28 : Addr} {od28 an28 : Option Addr} {sl28 : Array (Option Value)} {oc28 kV28 dc28 pm28 cd28 ct28 : Value}
    {f29 : Addr} {od29 an29 : Option Addr} {sl29 : Array (Option Value)} {oc29 kV29 dc29 pm29 cd29 ct29 : Value}
    {f30 : Addr} {od30 an30 : Option Addr} {sl30 : Array (Option Value)} {oc30 kV30 dc30 pm30 cd30 ct30 : Value}
    {f31 : Addr} {od31 an31 : Option Addr} {sl31 : Array (Option Value)} {oc31 kV31 dc31 pm31 cd31 ct31 : Value}
    {f32 : Addr} {od32 an32 : Option Addr} {sl32 : Array (Option Value)} {oc32 kV32 dc32 pm32 cd32 ct32 : Value}
    {f33 : Addr} {od33 an33 : Option Addr} {sl33 : Array (Option Value)} {oc33 kV33 dc33 pm33 cd33 ct33 : Value}
    {f34 : Addr} {od34 an34 : Option Addr} {sl34 : Array (Option Value)} {oc34 kV34 dc34 pm34 cd34 ct34 : Value}
    {f35 : Addr} {od35 an35 : Option Addr} {sl35 : Array (Option Value)} {oc35 kV35 dc35 pm35 cd35 ct35 : Value}
    {f36 : Addr} {od36 an36 : Option Addr} {sl36 : Array (Option Value)} {oc36 kV36 dc36 pm36 cd36 ct36 : Value}
    {f37 : Addr} {od37 an37 : Option Addr} {sl37 : Array (Option Value)} {oc37 kV37 dc37 pm37 cd37 ct37 : Value}
    {f38 : Addr} {od38 an38 : Option Addr} {sl38 : Array (Option Value)} {oc38 kV38 dc38 pm38 cd38 ct38 : Value}
    {f39 : Addr} {od39 an39 : Option Addr} {sl39 : Array (Option Value)} {oc39 kV39 dc39 pm39 cd39 ct39 : Value}
    {f40 : Addr} {od40 an40 : Option Addr} {sl40 : Array (Option Value)} {oc40 kV40 dc40 pm40 cd40 ct40 : Value}
    {f41 : Addr} {od41 an41 : Option Addr} {sl41 : Array (Option Value)} {oc41 kV41 dc41 pm41 cd41 ct41 : Value}
    {f42 : Addr} {od42 an42 : Option Addr} {sl42 : Array (Option Value)} {oc42 kV42 dc42 pm42 cd42 ct42 : Value}
    {f43 : Addr} {od43 an43 : Option Addr} {sl43 : Array (Option Value)} {oc43 kV43 dc43 pm43 cd43 ct43 : Value}
    {f44 : Addr} {od44 an44 : Option Addr} {sl44 : Array (Option Value)} {oc44 kV44 dc44 pm44 cd44 ct44 : Value}
    {f45 : Addr} {od45 an45 : Option Addr} {sl45 : Array (Option Value)} {oc45 kV45 dc45 pm45 cd45 ct45 : Value}
    {f46 : Addr} {od46 an46 : Option Addr} {sl46 : Array (Option Value)} {oc46 kV46 dc46 pm46 cd46 ct46 : Value}
    {f47 : Addr} {od47 an47 : Option Addr} {sl47 : Array (Option Value)} {oc47 kV47 dc47 pm47 cd47 ct47 : Value}
    {f48 : Addr} {od48 an48 : Option Addr} {sl48 : Array (Option Value)} {oc48 kV48 dc48 pm48 cd48 ct48 : Value}
    {f49 : Addr} {od49 an49 : Option Addr} {sl49 : Array (Option Value)} {oc49 kV49 dc49 pm49 cd49 ct49 : Value}
    {f50 : Addr} {od50 an50 : Option Addr} {sl50 : Array (Option Value)} {oc50 kV50 dc50 pm50 cd50 ct50 : Value}
    {f51 : Addr} {od51 an51 : Option Addr} {sl51 : Array (Option Value)} {oc51 kV51 dc51 pm51 cd51 ct51 : Value}
    {f52 : Addr} {od52 an52 : Option Addr} {sl52 : Array (Option Value)} {oc52 kV52 dc52 pm52 cd52 ct52 : Value}
    {f53 : Addr} {od53 an53 : Option Addr} {sl53 : Array (Option Value)} {oc53 kV53 dc53 pm53 cd53 ct53 : Value}
    {f54 : Addr} {od54 an54 : Option Addr} {sl54 : Array (Option Value)} {oc54 kV54 dc54 pm54 cd54 ct54 : Value}
    {f55 : Addr} {od55 an55 : Option Addr} {sl55 : Array (Option Value)} {oc55 kV55 dc55 pm55 cd55 ct55 : Value}
    {f56 : Addr} {od56 an56 : Option Addr} {sl56 : Array (Option Value)} {oc56 kV56 dc56 pm56 cd56 ct56 : Value}
    {f57 : Addr} {od57 an57 : Option Addr} {sl57 : Array (Option Value)} {oc57 kV57 dc57 pm57 cd57 ct57 : Value}
    {p57 : Addr} {re57 : List Value}
    {f58 : Addr} {od58 an58 : Option Addr} {sl58 : Array (Option Value)} {oc58 kV58 dc58 pm58 cd58 ct58 : Value}
    {tc_MAX_MODES : Tok}
    {tc_LABEL : Tok}
    {tc_MAX_BLOCK_MODES : Tok}
    {tc_MAX_LETTERS : Tok}
    {tc_LETTERS : Tok}
    {tc_MAX_PARAMETERS : Tok}
    {TB_FORMS : Addr}
    {tc_MAX_DEPTH : Tok}
    {tc_MAX_TERMS : Tok}
    (aC_Space : PySem.W.nsIn K mainGlobals "Space" = some (some (.ref C_Space)))
    (cp_Space : PySem.W.plainGet K C_Space Str.empty = true)
    (ch_Space : PySem.W.hasDictIn K C_Space = true)
    (co_Space : PySem.W.plainOver K C_Space = true)
    (cs_Space : PySem.W.findIn K (.ref C_Space) "__setattr__" = some (some (.builtin "object.__setattr__")))
    (mm_Space : PySem.W.makesIn K C_Space = true)
    (mi_Space : PySem.W.findIn K (.ref C_Space) "__init__" = some (some (.ref fI_Space)))
    (mf_Space : PySem.W.isFn K (.ref fI_Space) = true)
    (mp_Space : PySem.W.keepIn K (.ref C_Space) = true)
    (a0 : PySem.W.nsIn K mainGlobals "_law_wheel" = some (some (.ref f0)))
    (l0 : K.lookup f0 = some ⟨oc0, od0, .func (PySem.W.fnOf "_law_wheel" "_law_wheel" (defArgs s__law_wheel) (defBody s__law_wheel) (defScope s__law_wheel) .none kV0 dc0 pm0 an0 cd0 ct0), sl0⟩)
    (e0 : PySem.W.codeIn K cd0 "_law_wheel" = true)
    (k0 : PySem.W.keepIn K (.ref f0) = true)
    (a1 : PySem.W.nsIn K mainGlobals "_law_spin" = some (some (.ref f1)))
    (l1 : K.lookup f1 = some ⟨oc1, od1, .func (PySem.W.fnOf "_law_spin" "_law_spin" (defArgs s__law_spin) (defBody s__law_spin) (defScope s__law_spin) .none kV1 dc1 pm1 an1 cd1 ct1), sl1⟩)
    (e1 : PySem.W.codeIn K cd1 "_law_spin" = true)
    (k1 : PySem.W.keepIn K (.ref f1) = true)
    (a2 : PySem.W.nsIn K mainGlobals "is_number" = some (some (.ref f2)))
    (l2 : K.lookup f2 = some ⟨oc2, od2, .func (PySem.W.fnOf "is_number" "is_number" (defArgs s_is_number) (defBody s_is_number) (defScope s_is_number) .none kV2 dc2 pm2 an2 cd2 ct2), sl2⟩)
    (e2 : PySem.W.codeIn K cd2 "is_number" = true)
    (k2 : PySem.W.keepIn K (.ref f2) = true)
    (a3 : PySem.W.nsIn K mainGlobals "is_index" = some (some (.ref f3)))
    (l3 : K.lookup f3 = some ⟨oc3, od3, .func (PySem.W.fnOf "is_index" "is_index" (defArgs s_is_index) (defBody s_is_index) (defScope s_is_index) .none kV3 dc3 pm3 an3 cd3 ct3), sl3⟩)
    (e3 : PySem.W.codeIn K cd3 "is_index" = true)
    (k3 : PySem.W.keepIn K (.ref f3) = true)
    (a4 : PySem.W.nsIn K mainGlobals "check_modes" = some (some (.ref f4)))
    (l4 : K.lookup f4 = some ⟨oc4, od4, .func (PySem.W.fnOf "check_modes" "check_modes" (defArgs s_check_modes) (defBody s_check_modes) (defScope s_check_modes) .none kV4 dc4 pm4 an4 cd4 ct4), sl4⟩)
    (e4 : PySem.W.codeIn K cd4 "check_modes" = true)
    (k4 : PySem.W.keepIn K (.ref f4) = true)
    (a5 : PySem.W.nsIn K mainGlobals "fits_set" = some (some (.ref f5)))
    (l5 : K.lookup f5 = some ⟨oc5, od5, .func (PySem.W.fnOf "fits_set" "fits_set" (defArgs s_fits_set) (defBody s_fits_set) (defScope s_fits_set) .none kV5 dc5 pm5 an5 cd5 ct5), sl5⟩)
    (e5 : PySem.W.codeIn K cd5 "fits_set" = true)
    (k5 : PySem.W.keepIn K (.ref f5) = true)
    (a6 : PySem.W.nsIn K mainGlobals "fits_map" = some (some (.ref f6)))
    (l6 : K.lookup f6 = some ⟨oc6, od6, .func (PySem.W.fnOf "fits_map" "fits_map" (defArgs s_fits_map) (defBody s_fits_map) (defScope s_fits_map) .none kV6 dc6 pm6 an6 cd6 ct6), sl6⟩)
    (e6 : PySem.W.codeIn K cd6 "fits_map" = true)
    (k6 : PySem.W.keepIn K (.ref f6) = true)
    (a7 : PySem.W.nsIn K mainGlobals "lies_within" = some (some (.ref f7)))
    (l7 : K.lookup f7 = some ⟨oc7, od7, .func (PySem.W.fnOf "lies_within" "lies_within" (defArgs s_lies_within) (defBody s_lies_within) (defScope s_lies_within) .none kV7 dc7 pm7 an7 cd7 ct7), sl7⟩)
    (e7 : PySem.W.codeIn K cd7 "lies_within" = true)
    (k7 : PySem.W.keepIn K (.ref f7) = true)
    (a8 : PySem.W.nsIn K mainGlobals "is_rising" = some (some (.ref f8)))
    (l8 : K.lookup f8 = some ⟨oc8, od8, .func (PySem.W.fnOf "is_rising" "is_rising" (defArgs s_is_rising) (defBody s_is_rising) (defScope s_is_rising) .none kV8 dc8 pm8 an8 cd8 ct8), sl8⟩)
    (e8 : PySem.W.codeIn K cd8 "is_rising" = true)
    (k8 : PySem.W.keepIn K (.ref f8) = true)
    (a9 : PySem.W.nsIn K mainGlobals "fits_monotone" = some (some (.ref f9)))
    (l9 : K.lookup f9 = some ⟨oc9, od9, .func (PySem.W.fnOf "fits_monotone" "fits_monotone" (defArgs s_fits_monotone) (defBody s_fits_monotone) (defScope s_fits_monotone) .none kV9 dc9 pm9 an9 cd9 ct9), sl9⟩)
    (e9 : PySem.W.codeIn K cd9 "fits_monotone" = true)
    (k9 : PySem.W.keepIn K (.ref f9) = true)
    (a10 : PySem.W.nsIn K mainGlobals "level_map" = some (some (.ref f10)))
    (l10 : K.lookup f10 = some ⟨oc10, od10, .func (PySem.W.fnOf "level_map" "level_map" (defArgs s_level_map) (defBody s_level_map) (defScope s_level_map) .none kV10 dc10 pm10 an10 cd10 ct10), sl10⟩)
    (e10 : PySem.W.codeIn K cd10 "level_map" = true)
    (k10 : PySem.W.keepIn K (.ref f10) = true)
    (a11 : PySem.W.findIn K (.ref C_Space) "__init__" = some (some (.ref f11)))
    (i11 : PySem.W.isFn K (.ref f11) = true)
    (l11 : K.lookup f11 = some ⟨oc11, od11, .func (PySem.W.fnOf "__init__" "Space.__init__" (defArgs s_Space___init__) (defBody s_Space___init__) (defScope s_Space___init__) .none kV11 dc11 pm11 an11 cd11 ct11), sl11⟩)
    (e11 : PySem.W.codeIn K cd11 "Space.__init__" = true)
    (k11 : PySem.W.keepIn K (.ref f11) = true)
    (a12 : PySem.W.findIn K (.ref C_Space) "check_monotone" = some (some (.ref f12)))
    (i12 : PySem.W.isFn K (.ref f12) = true)
    (l12 : K.lookup f12 = some ⟨oc12, od12, .func (PySem.W.fnOf "check_monotone" "Space.check_monotone" (defArgs s_Space_check_monotone) (defBody s_Space_check_monotone) (defScope s_Space_check_monotone) .none kV12 dc12 pm12 an12 cd12 ct12), sl12⟩)
    (e12 : PySem.W.codeIn K cd12 "Space.check_monotone" = true)
    (k12 : PySem.W.keepIn K (.ref f12) = true)
    (a13 : PySem.W.nsIn K mainGlobals "has_within" = some (some (.ref f13)))
    (l13 : K.lookup f13 = some ⟨oc13, od13, .func (PySem.W.fnOf "has_within" "has_within" (defArgs s_has_within) (defBody s_has_within) (defScope s_has_within) .none kV13 dc13 pm13 an13 cd13 ct13), sl13⟩)
    (e13 : PySem.W.codeIn K cd13 "has_within" = true)
    (k13 : PySem.W.keepIn K (.ref f13) = true)
    (a14 : PySem.W.nsIn K mainGlobals "least_of" = some (some (.ref f14)))
    (l14 : K.lookup f14 = some ⟨oc14, od14, .func (PySem.W.fnOf "least_of" "least_of" (defArgs s_least_of) (defBody s_least_of) (defScope s_least_of) .none kV14 dc14 pm14 an14 cd14 ct14), sl14⟩)
    (e14 : PySem.W.codeIn K cd14 "least_of" = true)
    (k14 : PySem.W.keepIn K (.ref f14) = true)
    (a15 : PySem.W.nsIn K mainGlobals "sets_of_mode" = some (some (.ref f15)))
    (l15 : K.lookup f15 = some ⟨oc15, od15, .func (PySem.W.fnOf "sets_of_mode" "sets_of_mode" (defArgs s_sets_of_mode) (defBody s_sets_of_mode) (defScope s_sets_of_mode) .none kV15 dc15 pm15 an15 cd15 ct15), sl15⟩)
    (e15 : PySem.W.codeIn K cd15 "sets_of_mode" = true)
    (k15 : PySem.W.keepIn K (.ref f15) = true)
    (a16 : PySem.W.findIn K (.ref C_Space) "least_sets" = some (some (.ref f16)))
    (i16 : PySem.W.isFn K (.ref f16) = true)
    (l16 : K.lookup f16 = some ⟨oc16, od16, .func (PySem.W.fnOf "least_sets" "Space.least_sets" (defArgs s_Space_least_sets) (defBody s_Space_least_sets) (defScope s_Space_least_sets) .none kV16 dc16 pm16 an16 cd16 ct16), sl16⟩)
    (e16 : PySem.W.codeIn K cd16 "Space.least_sets" = true)
    (k16 : PySem.W.keepIn K (.ref f16) = true)
    (a17 : PySem.W.nsIn K mainGlobals "step_between" = some (some (.ref f17)))
    (l17 : K.lookup f17 = some ⟨oc17, od17, .func (PySem.W.fnOf "step_between" "step_between" (defArgs s_step_between) (defBody s_step_between) (defScope s_step_between) .none kV17 dc17 pm17 an17 cd17 ct17), sl17⟩)
    (e17 : PySem.W.codeIn K cd17 "step_between" = true)
    (k17 : PySem.W.keepIn K (.ref f17) = true)
    (a18 : PySem.W.nsIn K mainGlobals "way_from" = some (some (.ref f18)))
    (l18 : K.lookup f18 = some ⟨oc18, od18, .func (PySem.W.fnOf "way_from" "way_from" (defArgs s_way_from) (defBody s_way_from) (defScope s_way_from) .none kV18 dc18 pm18 an18 cd18 ct18), sl18⟩)
    (e18 : PySem.W.codeIn K cd18 "way_from" = true)
    (k18 : PySem.W.keepIn K (.ref f18) = true)
    (a19 : PySem.W.findIn K (.ref C_Space) "members" = some (some (.ref f19)))
    (i19 : PySem.W.isFn K (.ref f19) = true)
    (l19 : K.lookup f19 = some ⟨oc19, od19, .func (PySem.W.fnOf "members" "Space.members" (defArgs s_Space_members) (defBody s_Space_members) (defScope s_Space_members) .none kV19 dc19 pm19 an19 cd19 ct19), sl19⟩)
    (e19 : PySem.W.codeIn K cd19 "Space.members" = true)
    (k19 : PySem.W.keepIn K (.ref f19) = true)
    (a20 : PySem.W.nsIn K mainGlobals "block_of" = some (some (.ref f20)))
    (l20 : K.lookup f20 = some ⟨oc20, od20, .func (PySem.W.fnOf "block_of" "block_of" (defArgs s_block_of) (defBody s_block_of) (defScope s_block_of) .none kV20 dc20 pm20 an20 cd20 ct20), sl20⟩)
    (e20 : PySem.W.codeIn K cd20 "block_of" = true)
    (k20 : PySem.W.keepIn K (.ref f20) = true)
    (a21 : PySem.W.nsIn K mainGlobals "is_name" = some (some (.ref f21)))
    (l21 : K.lookup f21 = some ⟨oc21, od21, .func (PySem.W.fnOf "is_name" "is_name" (defArgs s_is_name) (defBody s_is_name) (defScope s_is_name) .none kV21 dc21 pm21 an21 cd21 ct21), sl21⟩)
    (e21 : PySem.W.codeIn K cd21 "is_name" = true)
    (k21 : PySem.W.keepIn K (.ref f21) = true)
    (a22 : PySem.W.nsIn K mainGlobals "are_names" = some (some (.ref f22)))
    (l22 : K.lookup f22 = some ⟨oc22, od22, .func (PySem.W.fnOf "are_names" "are_names" (defArgs s_are_names) (defBody s_are_names) (defScope s_are_names) .none kV22 dc22 pm22 an22 cd22 ct22), sl22⟩)
    (e22 : PySem.W.codeIn K cd22 "are_names" = true)
    (k22 : PySem.W.keepIn K (.ref f22) = true)
    (a23 : PySem.W.nsIn K mainGlobals "are_parameters" = some (some (.ref f23)))
    (l23 : K.lookup f23 = some ⟨oc23, od23, .func (PySem.W.fnOf "are_parameters" "are_parameters" (defArgs s_are_parameters) (defBody s_are_parameters) (defScope s_are_parameters) .none kV23 dc23 pm23 an23 cd23 ct23), sl23⟩)
    (e23 : PySem.W.codeIn K cd23 "are_parameters" = true)
    (k23 : PySem.W.keepIn K (.ref f23) = true)
    (a24 : PySem.W.nsIn K mainGlobals "is_deed" = some (some (.ref f24)))
    (l24 : K.lookup f24 = some ⟨oc24, od24, .func (PySem.W.fnOf "is_deed" "is_deed" (defArgs s_is_deed) (defBody s_is_deed) (defScope s_is_deed) .none kV24 dc24 pm24 an24 cd24 ct24), sl24⟩)
    (e24 : PySem.W.codeIn K cd24 "is_deed" = true)
    (k24 : PySem.W.keepIn K (.ref f24) = true)
    (a25 : PySem.W.nsIn K mainGlobals "is_sequence" = some (some (.ref f25)))
    (l25 : K.lookup f25 = some ⟨oc25, od25, .func (PySem.W.fnOf "is_sequence" "is_sequence" (defArgs s_is_sequence) (defBody s_is_sequence) (defScope s_is_sequence) .none kV25 dc25 pm25 an25 cd25 ct25), sl25⟩)
    (e25 : PySem.W.codeIn K cd25 "is_sequence" = true)
    (k25 : PySem.W.keepIn K (.ref f25) = true)
    (a26 : PySem.W.nsIn K mainGlobals "is_choice" = some (some (.ref f26)))
    (l26 : K.lookup f26 = some ⟨oc26, od26, .func (PySem.W.fnOf "is_choice" "is_choice" (defArgs s_is_choice) (defBody s_is_choice) (defScope s_is_choice) .none kV26 dc26 pm26 an26 cd26 ct26), sl26⟩)
    (e26 : PySem.W.codeIn K cd26 "is_choice" = true)
    (k26 : PySem.W.keepIn K (.ref f26) = true)
    (a27 : PySem.W.nsIn K mainGlobals "is_case" = some (some (.ref f27)))
    (l27 : K.lookup f27 = some ⟨oc27, od27, .func (PySem.W.fnOf "is_case" "is_case" (defArgs s_is_case) (defBody s_is_case) (defScope s_is_case) .none kV27 dc27 pm27 an27 cd27 ct27), sl27⟩)
    (e27 : PySem.W.codeIn K cd27 "is_case" = true)
    (k27 : PySem.W.keepIn K (.ref f27) = true)
    (a28 : PySem.W.nsIn K mainGlobals "is_named" = some (some (.ref f28)))
    (l28 : K.lookup f28 = some ⟨oc28, od28, .func (PySem.W.fnOf "is_named" "is_named" (defArgs s_is_named) (defBody s_is_named) (defScope s_is_named) .none kV28 dc28 pm28 an28 cd28 ct28), sl28⟩)
    (e28 : PySem.W.codeIn K cd28 "is_named" = true)
    (k28 : PySem.W.keepIn K (.ref f28) = true)
    (a29 : PySem.W.nsIn K mainGlobals "is_call" = some (some (.ref f29)))
    (l29 : K.lookup f29 = some ⟨oc29, od29, .func (PySem.W.fnOf "is_call" "is_call" (defArgs s_is_call) (defBody s_is_call) (defScope s_is_call) .none kV29 dc29 pm29 an29 cd29 ct29), sl29⟩)
    (e29 : PySem.W.codeIn K cd29 "is_call" = true)
    (k29 : PySem.W.keepIn K (.ref f29) = true)
    (a30 : PySem.W.nsIn K mainGlobals "is_scope" = some (some (.ref f30)))
    (l30 : K.lookup f30 = some ⟨oc30, od30, .func (PySem.W.fnOf "is_scope" "is_scope" (defArgs s_is_scope) (defBody s_is_scope) (defScope s_is_scope) .none kV30 dc30 pm30 an30 cd30 ct30), sl30⟩)
    (e30 : PySem.W.codeIn K cd30 "is_scope" = true)
    (k30 : PySem.W.keepIn K (.ref f30) = true)
    (a31 : PySem.W.nsIn K mainGlobals "are_ascending" = some (some (.ref f31)))
    (l31 : K.lookup f31 = some ⟨oc31, od31, .func (PySem.W.fnOf "are_ascending" "are_ascending" (defArgs s_are_ascending) (defBody s_are_ascending) (defScope s_are_ascending) .none kV31 dc31 pm31 an31 cd31 ct31), sl31⟩)
    (e31 : PySem.W.codeIn K cd31 "are_ascending" = true)
    (k31 : PySem.W.keepIn K (.ref f31) = true)
    (a32 : PySem.W.nsIn K mainGlobals "is_answer" = some (some (.ref f32)))
    (l32 : K.lookup f32 = some ⟨oc32, od32, .func (PySem.W.fnOf "is_answer" "is_answer" (defArgs s_is_answer) (defBody s_is_answer) (defScope s_is_answer) .none kV32 dc32 pm32 an32 cd32 ct32), sl32⟩)
    (e32 : PySem.W.codeIn K cd32 "is_answer" = true)
    (k32 : PySem.W.keepIn K (.ref f32) = true)
    (a33 : PySem.W.nsIn K mainGlobals "has_form" = some (some (.ref f33)))
    (l33 : K.lookup f33 = some ⟨oc33, od33, .func (PySem.W.fnOf "has_form" "has_form" (defArgs s_has_form) (defBody s_has_form) (defScope s_has_form) .none kV33 dc33 pm33 an33 cd33 ct33), sl33⟩)
    (e33 : PySem.W.codeIn K cd33 "has_form" = true)
    (k33 : PySem.W.keepIn K (.ref f33) = true)
    (a34 : PySem.W.nsIn K mainGlobals "terms_in" = some (some (.ref f34)))
    (l34 : K.lookup f34 = some ⟨oc34, od34, .func (PySem.W.fnOf "terms_in" "terms_in" (defArgs s_terms_in) (defBody s_terms_in) (defScope s_terms_in) .none kV34 dc34 pm34 an34 cd34 ct34), sl34⟩)
    (e34 : PySem.W.codeIn K cd34 "terms_in" = true)
    (k34 : PySem.W.keepIn K (.ref f34) = true)
    (a35 : PySem.W.nsIn K mainGlobals "is_small" = some (some (.ref f35)))
    (l35 : K.lookup f35 = some ⟨oc35, od35, .func (PySem.W.fnOf "is_small" "is_small" (defArgs s_is_small) (defBody s_is_small) (defScope s_is_small) .none kV35 dc35 pm35 an35 cd35 ct35), sl35⟩)
    (e35 : PySem.W.codeIn K cd35 "is_small" = true)
    (k35 : PySem.W.keepIn K (.ref f35) = true)
    (a36 : PySem.W.nsIn K mainGlobals "terms_of" = some (some (.ref f36)))
    (l36 : K.lookup f36 = some ⟨oc36, od36, .func (PySem.W.fnOf "terms_of" "terms_of" (defArgs s_terms_of) (defBody s_terms_of) (defScope s_terms_of) .none kV36 dc36 pm36 an36 cd36 ct36), sl36⟩)
    (e36 : PySem.W.codeIn K cd36 "terms_of" = true)
    (k36 : PySem.W.keepIn K (.ref f36) = true)
    (a37 : PySem.W.nsIn K mainGlobals "exits_fit" = some (some (.ref f37)))
    (l37 : K.lookup f37 = some ⟨oc37, od37, .func (PySem.W.fnOf "exits_fit" "exits_fit" (defArgs s_exits_fit) (defBody s_exits_fit) (defScope s_exits_fit) .none kV37 dc37 pm37 an37 cd37 ct37), sl37⟩)
    (e37 : PySem.W.codeIn K cd37 "exits_fit" = true)
    (k37 : PySem.W.keepIn K (.ref f37) = true)
    (a38 : PySem.W.nsIn K mainGlobals "is_bound" = some (some (.ref f38)))
    (l38 : K.lookup f38 = some ⟨oc38, od38, .func (PySem.W.fnOf "is_bound" "is_bound" (defArgs s_is_bound) (defBody s_is_bound) (defScope s_is_bound) .none kV38 dc38 pm38 an38 cd38 ct38), sl38⟩)
    (e38 : PySem.W.codeIn K cd38 "is_bound" = true)
    (k38 : PySem.W.keepIn K (.ref f38) = true)
    (a39 : PySem.W.nsIn K mainGlobals "is_term" = some (some (.ref f39)))
    (l39 : K.lookup f39 = some ⟨oc39, od39, .func (PySem.W.fnOf "is_term" "is_term" (defArgs s_is_term) (defBody s_is_term) (defScope s_is_term) .none kV39 dc39 pm39 an39 cd39 ct39), sl39⟩)
    (e39 : PySem.W.codeIn K cd39 "is_term" = true)
    (k39 : PySem.W.keepIn K (.ref f39) = true)
    (a40 : PySem.W.nsIn K mainGlobals "_law_whole" = some (some (.ref f40)))
    (l40 : K.lookup f40 = some ⟨oc40, od40, .func (PySem.W.fnOf "_law_whole" "_law_whole" (defArgs s__law_whole) (defBody s__law_whole) (defScope s__law_whole) .none kV40 dc40 pm40 an40 cd40 ct40), sl40⟩)
    (e40 : PySem.W.codeIn K cd40 "_law_whole" = true)
    (k40 : PySem.W.keepIn K (.ref f40) = true)
    (a41 : PySem.W.nsIn K mainGlobals "_law_set" = some (some (.ref f41)))
    (l41 : K.lookup f41 = some ⟨oc41, od41, .func (PySem.W.fnOf "_law_set" "_law_set" (defArgs s__law_set) (defBody s__law_set) (defScope s__law_set) .none kV41 dc41 pm41 an41 cd41 ct41), sl41⟩)
    (e41 : PySem.W.codeIn K cd41 "_law_set" = true)
    (k41 : PySem.W.keepIn K (.ref f41) = true)
    (a42 : PySem.W.nsIn K mainGlobals "_law_has" = some (some (.ref f42)))
    (l42 : K.lookup f42 = some ⟨oc42, od42, .func (PySem.W.fnOf "_law_has" "_law_has" (defArgs s__law_has) (defBody s__law_has) (defScope s__law_has) .none kV42 dc42 pm42 an42 cd42 ct42), sl42⟩)
    (e42 : PySem.W.codeIn K cd42 "_law_has" = true)
    (k42 : PySem.W.keepIn K (.ref f42) = true)
    (a43 : PySem.W.nsIn K mainGlobals "_law_joined" = some (some (.ref f43)))
    (l43 : K.lookup f43 = some ⟨oc43, od43, .func (PySem.W.fnOf "_law_joined" "_law_joined" (defArgs s__law_joined) (defBody s__law_joined) (defScope s__law_joined) .none kV43 dc43 pm43 an43 cd43 ct43), sl43⟩)
    (e43 : PySem.W.codeIn K cd43 "_law_joined" = true)
    (k43 : PySem.W.keepIn K (.ref f43) = true)
    (a44 : PySem.W.nsIn K mainGlobals "_law_good" = some (some (.ref f44)))
    (l44 : K.lookup f44 = some ⟨oc44, od44, .func (PySem.W.fnOf "_law_good" "_law_good" (defArgs s__law_good) (defBody s__law_good) (defScope s__law_good) .none kV44 dc44 pm44 an44 cd44 ct44), sl44⟩)
    (e44 : PySem.W.codeIn K cd44 "_law_good" = true)
    (k44 : PySem.W.keepIn K (.ref f44) = true)
    (a45 : PySem.W.nsIn K mainGlobals "_law_map" = some (some (.ref f45)))
    (l45 : K.lookup f45 = some ⟨oc45, od45, .func (PySem.W.fnOf "_law_map" "_law_map" (defArgs s__law_map) (defBody s__law_map) (defScope s__law_map) .none kV45 dc45 pm45 an45 cd45 ct45), sl45⟩)
    (e45 : PySem.W.codeIn K cd45 "_law_map" = true)
    (k45 : PySem.W.keepIn K (.ref f45) = true)
    (a46 : PySem.W.nsIn K mainGlobals "_law_won" = some (some (.ref f46)))
    (l46 : K.lookup f46 = some ⟨oc46, od46, .func (PySem.W.fnOf "_law_won" "_law_won" (defArgs s__law_won) (defBody s__law_won) (defScope s__law_won) .none kV46 dc46 pm46 an46 cd46 ct46), sl46⟩)
    (e46 : PySem.W.codeIn K cd46 "_law_won" = true)
    (k46 : PySem.W.keepIn K (.ref f46) = true)
    (a47 : PySem.W.nsIn K mainGlobals "_law_inner" = some (some (.ref f47)))
    (l47 : K.lookup f47 = some ⟨oc47, od47, .func (PySem.W.fnOf "_law_inner" "_law_inner" (defArgs s__law_inner) (defBody s__law_inner) (defScope s__law_inner) .none kV47 dc47 pm47 an47 cd47 ct47), sl47⟩)
    (e47 : PySem.W.codeIn K cd47 "_law_inner" = true)
    (k47 : PySem.W.keepIn K (.ref f47) = true)
    (a48 : PySem.W.nsIn K mainGlobals "_law_all_of" = some (some (.ref f48)))
    (l48 : K.lookup f48 = some ⟨oc48, od48, .func (PySem.W.fnOf "_law_all_of" "_law_all_of" (defArgs s__law_all_of) (defBody s__law_all_of) (defScope s__law_all_of) .none kV48 dc48 pm48 an48 cd48 ct48), sl48⟩)
    (e48 : PySem.W.codeIn K cd48 "_law_all_of" = true)
    (k48 : PySem.W.keepIn K (.ref f48) = true)
    (a49 : PySem.W.nsIn K mainGlobals "_law_deep" = some (some (.ref f49)))
    (l49 : K.lookup f49 = some ⟨oc49, od49, .func (PySem.W.fnOf "_law_deep" "_law_deep" (defArgs s__law_deep) (defBody s__law_deep) (defScope s__law_deep) .none kV49 dc49 pm49 an49 cd49 ct49), sl49⟩)
    (e49 : PySem.W.codeIn K cd49 "_law_deep" = true)
    (k49 : PySem.W.keepIn K (.ref f49) = true)
    (a50 : PySem.W.nsIn K mainGlobals "_law_right" = some (some (.ref f50)))
    (l50 : K.lookup f50 = some ⟨oc50, od50, .func (PySem.W.fnOf "_law_right" "_law_right" (defArgs s__law_right) (defBody s__law_right) (defScope s__law_right) .none kV50 dc50 pm50 an50 cd50 ct50), sl50⟩)
    (e50 : PySem.W.codeIn K cd50 "_law_right" = true)
    (k50 : PySem.W.keepIn K (.ref f50) = true)
    (a51 : PySem.W.nsIn K mainGlobals "_law_pick" = some (some (.ref f51)))
    (l51 : K.lookup f51 = some ⟨oc51, od51, .func (PySem.W.fnOf "_law_pick" "_law_pick" (defArgs s__law_pick) (defBody s__law_pick) (defScope s__law_pick) .none kV51 dc51 pm51 an51 cd51 ct51), sl51⟩)
    (e51 : PySem.W.codeIn K cd51 "_law_pick" = true)
    (k51 : PySem.W.keepIn K (.ref f51) = true)
    (a52 : PySem.W.nsIn K mainGlobals "_law_is_over" = some (some (.ref f52)))
    (l52 : K.lookup f52 = some ⟨oc52, od52, .func (PySem.W.fnOf "_law_is_over" "_law_is_over" (defArgs s__law_is_over) (defBody s__law_is_over) (defScope s__law_is_over) .none kV52 dc52 pm52 an52 cd52 ct52), sl52⟩)
    (e52 : PySem.W.codeIn K cd52 "_law_is_over" = true)
    (k52 : PySem.W.keepIn K (.ref f52) = true)
    (a53 : PySem.W.nsIn K mainGlobals "_law_rows" = some (some (.ref f53)))
    (l53 : K.lookup f53 = some ⟨oc53, od53, .func (PySem.W.fnOf "_law_rows" "_law_rows" (defArgs s__law_rows) (defBody s__law_rows) (defScope s__law_rows) .none kV53 dc53 pm53 an53 cd53 ct53), sl53⟩)
    (e53 : PySem.W.codeIn K cd53 "_law_rows" = true)
    (k53 : PySem.W.keepIn K (.ref f53) = true)
    (a54 : PySem.W.nsIn K mainGlobals "rising_bits" = some (some (.ref f54)))
    (l54 : K.lookup f54 = some ⟨oc54, od54, .func (PySem.W.fnOf "rising_bits" "rising_bits" (defArgs s_rising_bits) (defBody s_rising_bits) (defScope s_rising_bits) .none kV54 dc54 pm54 an54 cd54 ct54), sl54⟩)
    (e54 : PySem.W.codeIn K cd54 "rising_bits" = true)
    (k54 : PySem.W.keepIn K (.ref f54) = true)
    (a55 : PySem.W.nsIn K mainGlobals "with_bits" = some (some (.ref f55)))
    (l55 : K.lookup f55 = some ⟨oc55, od55, .func (PySem.W.fnOf "with_bits" "with_bits" (defArgs s_with_bits) (defBody s_with_bits) (defScope s_with_bits) .none kV55 dc55 pm55 an55 cd55 ct55), sl55⟩)
    (e55 : PySem.W.codeIn K cd55 "with_bits" = true)
    (k55 : PySem.W.keepIn K (.ref f55) = true)
    (a56 : PySem.W.nsIn K mainGlobals "monotone_maps" = some (some (.ref f56)))
    (l56 : K.lookup f56 = some ⟨oc56, od56, .func (PySem.W.fnOf "monotone_maps" "monotone_maps" (defArgs s_monotone_maps) (defBody s_monotone_maps) (defScope s_monotone_maps) .none kV56 dc56 pm56 an56 cd56 ct56), sl56⟩)
    (e56 : PySem.W.codeIn K cd56 "monotone_maps" = true)
    (k56 : PySem.W.keepIn K (.ref f56) = true)
    (a57 : PySem.W.findIn K (.ref C_Space) "maps" = some (some (.ref p57)))
    (g57 : PySem.W.specialIn K (.ref p57) "__get__" = some (some (.builtin "property.__get__")))
    (u57 : PySem.W.takesIn K (.ref p57) = some true)
    (r57 : PySem.W.recIn K p57 "property" = some (.ref f57 :: re57))
    (l57 : K.lookup f57 = some ⟨oc57, od57, .func (PySem.W.fnOf "maps" "Space.maps" (defArgs s_Space_maps) (defBody s_Space_maps) (defScope s_Space_maps) .none kV57 dc57 pm57 an57 cd57 ct57), sl57⟩)
    (e57 : PySem.W.codeIn K cd57 "Space.maps" = true)
    (k57 : PySem.W.keepIn K (.ref f57) = true)
    (a58 : PySem.W.nsIn K mainGlobals "law" = some (some (.ref f58)))
    (l58 : K.lookup f58 = some ⟨oc58, od58, .func (PySem.W.fnOf "law" "law" (defArgs s_law) (defBody s_law) (defScope s_law) .none kV58 dc58 pm58 an58 cd58 ct58), sl58⟩)
    (e58 : PySem.W.codeIn K cd58 "law" = true)
    (k58 : PySem.W.keepIn K (.ref f58) = true)
    (m_len : PySem.W.nsIn K mainGlobals "len" = some none)
    (m_int : PySem.W.nsIn K mainGlobals "int" = some none)
    (m_abs : PySem.W.nsIn K mainGlobals "abs" = some none)
    (m_max : PySem.W.nsIn K mainGlobals "max" = some none)
    (m_isinstance : PySem.W.nsIn K mainGlobals "isinstance" = some none)
    (m_bool : PySem.W.nsIn K mainGlobals "bool" = some none)
    (m_tuple : PySem.W.nsIn K mainGlobals "tuple" = some none)
    (m_all : PySem.W.nsIn K mainGlobals "all" = some none)
    (m_range : PySem.W.nsIn K mainGlobals "range" = some none)
    (c_MAX_MODES : PySem.W.nsIn K mainGlobals "MAX_MODES" = some (some (.int 3 tc_MAX_MODES)))
    (na_Space__modes : PySem.W.findIn K (.ref C_Space) "_modes" = some none)
    (na_Space__full : PySem.W.findIn K (.ref C_Space) "_full" = some none)
    (na_Space__maps : PySem.W.findIn K (.ref C_Space) "_maps" = some none)
    (na_Space__same : PySem.W.findIn K (.ref C_Space) "_same" = some none)
    (na_Space__never : PySem.W.findIn K (.ref C_Space) "_never" = some none)
    (na_Space__always : PySem.W.findIn K (.ref C_Space) "_always" = some none)
    (m_any : PySem.W.nsIn K mainGlobals "any" = some none)
    (c_LABEL : PySem.W.nsIn K mainGlobals "LABEL" = some (some (.str "win" tc_LABEL)))
    (c_MAX_BLOCK_MODES : PySem.W.nsIn K mainGlobals "MAX_BLOCK_MODES" = some (some (.int 2 tc_MAX_BLOCK_MODES)))
    (m_str : PySem.W.nsIn K mainGlobals "str" = some none)
    (c_MAX_LETTERS : PySem.W.nsIn K mainGlobals "MAX_LETTERS" = some (some (.int 8 tc_MAX_LETTERS)))
    (c_LETTERS : PySem.W.nsIn K mainGlobals "LETTERS" = some (some (.str "abcdefghijklmnopqrstuvwxyz" tc_LETTERS)))
    (m_set : PySem.W.nsIn K mainGlobals "set" = some none)
    (c_MAX_PARAMETERS : PySem.W.nsIn K mainGlobals "MAX_PARAMETERS" = some (some (.int 3 tc_MAX_PARAMETERS)))
    (m_zip : PySem.W.nsIn K mainGlobals "zip" = some none)
    (aT_FORMS : PySem.W.nsIn K mainGlobals "FORMS" = some (some (.ref TB_FORMS)))
    (dT_FORMS : He.dicW K TB_FORMS = some (He.keysIn w.params ["do", "seq", "or", "and", "case", "run", "call", "scope", "exit", "raise", "answer"]))
    (nT_FORMS_0 : PySem.W.nsIn K TB_FORMS "do" = some (some (.ref f24)))
    (nT_FORMS_1 : PySem.W.nsIn K TB_FORMS "seq" = some (some (.ref f25)))
    (nT_FORMS_2 : PySem.W.nsIn K TB_FORMS "or" = some (some (.ref f26)))
    (nT_FORMS_3 : PySem.W.nsIn K TB_FORMS "and" = some (some (.ref f26)))
    (nT_FORMS_4 : PySem.W.nsIn K TB_FORMS "case" = some (some (.ref f27)))
    (nT_FORMS_5 : PySem.W.nsIn K TB_FORMS "run" = some (some (.ref f28)))
    (nT_FORMS_6 : PySem.W.nsIn K TB_FORMS "call" = some (some (.ref f29)))
    (nT_FORMS_7 : PySem.W.nsIn K TB_FORMS "scope" = some (some (.ref f30)))
    (nT_FORMS_8 : PySem.W.nsIn K TB_FORMS "exit" = some (some (.ref f28)))
    (nT_FORMS_9 : PySem.W.nsIn K TB_FORMS "raise" = some (some (.ref f28)))
    (nT_FORMS_10 : PySem.W.nsIn K TB_FORMS "answer" = some (some (.ref f32)))
    (c_MAX_DEPTH : PySem.W.nsIn K mainGlobals "MAX_DEPTH" = some (some (.int 6 tc_MAX_DEPTH)))
    (c_MAX_TERMS : PySem.W.nsIn K mainGlobals "MAX_TERMS" = some (some (.int 40 tc_MAX_TERMS)))
    (m_sum : PySem.W.nsIn K mainGlobals "sum" = some none)
    (m_list : PySem.W.nsIn K mainGlobals "list" = some none)
    (m_enumerate : PySem.W.nsIn K mainGlobals "enumerate" = some none)
    (m_sorted : PySem.W.nsIn K mainGlobals "sorted" = some none)
    (m_min : PySem.W.nsIn K mainGlobals "min" = some none) :
    ∃ fd : FuncData, (∀ (s : Shared) (v : Value), BindsTo s fd ⟨[v], []⟩ [("_law_script", v)]) ∧ ∀ base : Heap, K.In base → base.Ns mainGlobals mg → FnG l.prog w K mg base 16 fa fd ["_law_script"] DL.p_law := by
  have e := hfa.symm.trans (PySem.W.mg_of X G a58)
  cases e
  refine ⟨PySem.W.fnOf "law" "law" (defArgs s_law) (defBody s_law) (defScope s_law) .none kV58 dc58 pm58 an58 cd58 ct58, fun s v => .of_eq rfl, fun base _ _ => ?_⟩
  have cl_Space : Cls K C_Space := ⟨cp_Space, ch_Space, co_Space, cs_Space⟩
  have k_Space : Kc K mg "Space" C_Space := ⟨PySem.W.mg_of X G aC_Space, cl_Space⟩
  have mk_Space : ∃ f, Mk K C_Space f := ⟨_, mm_Space, mi_Space, mf_Space, mp_Space⟩
  have m_len := PySem.W.mg_none_of X G m_len
  have m_int := PySem.W.mg_none_of X G m_int
  have m_abs := PySem.W.mg_none_of X G m_abs
  have m_max := PySem.W.mg_none_of X G m_max
  have m_isinstance := PySem.W.mg_none_of X G m_isinstance
  have m_bool := PySem.W.mg_none_of X G m_bool
  have m_tuple := PySem.W.mg_none_of X G m_tuple
  have m_all := PySem.W.mg_none_of X G m_all
  have m_range := PySem.W.mg_none_of X G m_range
  have c_MAX_MODES : GlK mg "MAX_MODES" (.int 3) := ⟨_, PySem.W.mg_of X G c_MAX_MODES, ⟨_, rfl⟩⟩
  have m_any := PySem.W.mg_none_of X G m_any
  have c_LABEL : GlK mg "LABEL" (.str "win") := ⟨_, PySem.W.mg_of X G c_LABEL, ⟨_, rfl⟩⟩
  have c_MAX_BLOCK_MODES : GlK mg "MAX_BLOCK_MODES" (.int 2) := ⟨_, PySem.W.mg_of X G c_MAX_BLOCK_MODES, ⟨_, rfl⟩⟩
  have m_str := PySem.W.mg_none_of X G m_str
  have c_MAX_LETTERS : GlK mg "MAX_LETTERS" (.int 8) := ⟨_, PySem.W.mg_of X G c_MAX_LETTERS, ⟨_, rfl⟩⟩
  have c_LETTERS : GlK mg "LETTERS" (.str "abcdefghijklmnopqrstuvwxyz") := ⟨_, PySem.W.mg_of X G c_LETTERS, ⟨_, rfl⟩⟩
  have m_set := PySem.W.mg_none_of X G m_set
  have c_MAX_PARAMETERS : GlK mg "MAX_PARAMETERS" (.int 3) := ⟨_, PySem.W.mg_of X G c_MAX_PARAMETERS, ⟨_, rfl⟩⟩
  have m_zip := PySem.W.mg_none_of X G m_zip
  have c_MAX_DEPTH : GlK mg "MAX_DEPTH" (.int 6) := ⟨_, PySem.W.mg_of X G c_MAX_DEPTH, ⟨_, rfl⟩⟩
  have c_MAX_TERMS : GlK mg "MAX_TERMS" (.int 40) := ⟨_, PySem.W.mg_of X G c_MAX_TERMS, ⟨_, rfl⟩⟩
  have m_sum := PySem.W.mg_none_of X G m_sum
  have m_list := PySem.W.mg_none_of X G m_list
  have m_enumerate := PySem.W.mg_none_of X G m_enumerate
  have m_sorted := PySem.W.mg_none_of X G m_sorted
  have m_min := PySem.W.mg_none_of X G m_min
  have d__law_wheel : Df l.prog w K mg base 1 "_law_wheel" ["_law_script", "_law_at"] p__law_wheel := ok__law_wheel (C_Space := C_Space) (TB_FORMS := TB_FORMS) (tx_mk l0 e0 k0 (PySem.W.mg_of X G a0)) m_len m_int m_abs m_max
  have d__law_spin : Df l.prog w K mg base 1 "_law_spin" ["_law_wheel_here", "_law_total"] p__law_spin := ok__law_spin (C_Space := C_Space) (TB_FORMS := TB_FORMS) (tx_mk l1 e1 k1 (PySem.W.mg_of X G a1)) m_int
  have d_is_number : Df l.prog w K mg base 1 "is_number" ["value"] p_is_number := ok_is_number (C_Space := C_Space) (tx_mk l2 e2 k2 (PySem.W.mg_of X G a2)) m_isinstance m_int m_bool
  have d_is_index : Df l.prog w K mg base 2 "is_index" ["value", "many"] p_is_index := ok_is_index (C_Space := C_Space) (tx_mk l3 e3 k3 (PySem.W.mg_of X G a3)) d_is_number
  have d_check_modes : Df l.prog w K mg base 4 "check_modes" ["modes", "most"] p_check_modes := ok_check_modes (C_Space := C_Space) (TB_FORMS := TB_FORMS) (tx_mk l4 e4 k4 (PySem.W.mg_of X G a4)) d_is_index
  have d_fits_set : Df l.prog w K mg base 3 "fits_set" ["modes", "value"] p_fits_set := ok_fits_set (C_Space := C_Space) (TB_FORMS := TB_FORMS) (tx_mk l5 e5 k5 (PySem.W.mg_of X G a5)) d_is_index
  have d_fits_map : Df l.prog w K mg base 4 "fits_map" ["modes", "value"] p_fits_map := ok_fits_map (C_Space := C_Space) (TB_FORMS := TB_FORMS) (tx_mk l6 e6 k6 (PySem.W.mg_of X G a6)) m_isinstance m_tuple m_len m_all d_fits_set
  have d_lies_within : Df l.prog w K mg base 1 "lies_within" ["number", "other"] p_lies_within := ok_lies_within (C_Space := C_Space) (TB_FORMS := TB_FORMS) (tx_mk l7 e7 k7 (PySem.W.mg_of X G a7)) 
  have d_is_rising : Df l.prog w K mg base 2 "is_rising" ["row"] p_is_rising := ok_is_rising (C_Space := C_Space) (TB_FORMS := TB_FORMS) (tx_mk l8 e8 k8 (PySem.W.mg_of X G a8)) m_range m_len d_lies_within
  have d_fits_monotone : Df l.prog w K mg base 5 "fits_monotone" ["modes", "value"] p_fits_monotone := ok_fits_monotone (C_Space := C_Space) (TB_FORMS := TB_FORMS) (tx_mk l9 e9 k9 (PySem.W.mg_of X G a9)) d_fits_map d_is_rising
  have d_level_map : Df l.prog w K mg base 1 "level_map" ["modes", "number"] p_level_map := ok_level_map (C_Space := C_Space) (TB_FORMS := TB_FORMS) (tx_mk l10 e10 k10 (PySem.W.mg_of X G a10)) m_tuple m_range
  have q_Space___init__ : Dm l.prog w K mg base 5 C_Space "__init__" ["self", "modes"] (p_Space___init__ C_Space) := ok_Space___init__ (C_Space := C_Space) (TB_FORMS := TB_FORMS) ⟨f11, _, fun_mk l11 e11 k11, ⟨a11, i11, k11⟩⟩ d_check_modes c_MAX_MODES cl_Space na_Space__modes na_Space__full na_Space__maps na_Space__same m_tuple m_range na_Space__never d_level_map na_Space__always
  have q_Space_check_monotone : Dm l.prog w K mg base 6 C_Space "check_monotone" ["self", "one", "mode"] (p_Space_check_monotone C_Space) := ok_Space_check_monotone (C_Space := C_Space) (TB_FORMS := TB_FORMS) ⟨f12, _, fun_mk l12 e12 k12, ⟨a12, i12, k12⟩⟩ d_fits_monotone cl_Space na_Space__modes d_is_index
  have d_has_within : Df l.prog w K mg base 2 "has_within" ["numbers", "one"] p_has_within := ok_has_within (C_Space := C_Space) (TB_FORMS := TB_FORMS) (tx_mk l13 e13 k13 (PySem.W.mg_of X G a13)) m_any d_lies_within
  have d_least_of : Df l.prog w K mg base 3 "least_of" ["numbers"] p_least_of := ok_least_of (C_Space := C_Space) (TB_FORMS := TB_FORMS) (tx_mk l14 e14 k14 (PySem.W.mg_of X G a14)) m_tuple d_has_within
  have d_sets_of_mode : Df l.prog w K mg base 1 "sets_of_mode" ["one", "mode", "wanted"] p_sets_of_mode := ok_sets_of_mode (C_Space := C_Space) (TB_FORMS := TB_FORMS) (tx_mk l15 e15 k15 (PySem.W.mg_of X G a15)) m_range m_len
  have q_Space_least_sets : Dm l.prog w K mg base 7 C_Space "least_sets" ["self", "one", "mode"] (p_Space_least_sets C_Space) := ok_Space_least_sets (C_Space := C_Space) (TB_FORMS := TB_FORMS) ⟨f16, _, fun_mk l16 e16 k16, ⟨a16, i16, k16⟩⟩ q_Space_check_monotone cl_Space d_least_of d_sets_of_mode
  have d_step_between : Df l.prog w K mg base 1 "step_between" ["modes", "old", "new"] p_step_between := ok_step_between (C_Space := C_Space) (TB_FORMS := TB_FORMS) (tx_mk l17 e17 k17 (PySem.W.mg_of X G a17)) m_tuple m_range
  have d_way_from : Df l.prog w K mg base 2 "way_from" ["modes", "mode", "members"] p_way_from := ok_way_from (C_Space := C_Space) (TB_FORMS := TB_FORMS) (tx_mk l18 e18 k18 (PySem.W.mg_of X G a18)) m_len c_LABEL d_step_between m_tuple
  have q_Space_members : Dm l.prog w K mg base 4 C_Space "members" ["self", "number"] (p_Space_members C_Space) := ok_Space_members (C_Space := C_Space) (TB_FORMS := TB_FORMS) ⟨f19, _, fun_mk l19 e19 k19, ⟨a19, i19, k19⟩⟩ d_fits_set cl_Space na_Space__modes m_tuple m_range
  have d_block_of : Df l.prog w K mg base 8 "block_of" ["modes", "wanted"] (p_block_of C_Space) := ok_block_of (C_Space := C_Space) (TB_FORMS := TB_FORMS) (tx_mk l20 e20 k20 (PySem.W.mg_of X G a20)) d_check_modes c_MAX_BLOCK_MODES d_fits_monotone k_Space mk_Space q_Space___init__ m_range q_Space_least_sets cl_Space m_len m_tuple d_way_from q_Space_members
  have d_is_name : Df l.prog w K mg base 1 "is_name" ["value"] p_is_name := ok_is_name (C_Space := C_Space) (tx_mk l21 e21 k21 (PySem.W.mg_of X G a21)) m_isinstance m_str m_len c_MAX_LETTERS m_all c_LETTERS
  have d_are_names : Df l.prog w K mg base 2 "are_names" ["value"] p_are_names := ok_are_names (C_Space := C_Space) (TB_FORMS := TB_FORMS) (tx_mk l22 e22 k22 (PySem.W.mg_of X G a22)) m_isinstance m_tuple m_all d_is_name m_len m_set
  have d_are_parameters : Df l.prog w K mg base 3 "are_parameters" ["value"] p_are_parameters := ok_are_parameters (C_Space := C_Space) (TB_FORMS := TB_FORMS) (tx_mk l23 e23 k23 (PySem.W.mg_of X G a23)) d_are_names m_len c_MAX_PARAMETERS
  have d_is_deed : Df l.prog w K mg base 3 "is_deed" ["term"] p_is_deed := ok_is_deed (C_Space := C_Space) (tx_mk l24 e24 k24 (PySem.W.mg_of X G a24)) m_len d_is_name m_isinstance m_tuple c_MAX_MODES m_all d_is_index
  have d_is_sequence : Df l.prog w K mg base 1 "is_sequence" ["term"] p_is_sequence := ok_is_sequence (C_Space := C_Space) (tx_mk l25 e25 k25 (PySem.W.mg_of X G a25)) 
  have d_is_choice : Df l.prog w K mg base 1 "is_choice" ["term"] p_is_choice := ok_is_choice (C_Space := C_Space) (tx_mk l26 e26 k26 (PySem.W.mg_of X G a26)) m_len
  have d_is_case : Df l.prog w K mg base 1 "is_case" ["term"] p_is_case := ok_is_case (C_Space := C_Space) (tx_mk l27 e27 k27 (PySem.W.mg_of X G a27)) m_len c_MAX_MODES
  have d_is_named : Df l.prog w K mg base 2 "is_named" ["term"] p_is_named := ok_is_named (C_Space := C_Space) (tx_mk l28 e28 k28 (PySem.W.mg_of X G a28)) m_len d_is_name
  have d_is_call : Df l.prog w K mg base 2 "is_call" ["term"] p_is_call := ok_is_call (C_Space := C_Space) (tx_mk l29 e29 k29 (PySem.W.mg_of X G a29)) m_len d_is_name
  have d_is_scope : Df l.prog w K mg base 2 "is_scope" ["term"] p_is_scope := ok_is_scope (C_Space := C_Space) (tx_mk l30 e30 k30 (PySem.W.mg_of X G a30)) m_len d_is_name
  have d_are_ascending : Df l.prog w K mg base 1 "are_ascending" ["names"] p_are_ascending := ok_are_ascending (C_Space := C_Space) (tx_mk l31 e31 k31 (PySem.W.mg_of X G a31)) m_all m_zip
  have d_is_answer : Df l.prog w K mg base 2 "is_answer" ["term"] p_is_answer := ok_is_answer (C_Space := C_Space) (tx_mk l32 e32 k32 (PySem.W.mg_of X G a32)) m_len m_isinstance m_tuple d_is_name d_are_ascending
  have tb_FORMS : Tab l.prog w K mg base 3 1 "FORMS" TB_FORMS look_FORMS := tab_mk (PySem.W.mg_of X G aT_FORMS) dT_FORMS (fun z hz => by
    simp only [List.mem_cons, List.not_mem_nil, or_false, not_or] at hz
    obtain ⟨h0, h1, h2, h3, h4, h5, h6, h7, h8, h9, h10⟩ := hz
    unfold look_FORMS
    rw [if_neg h0, if_neg h1, if_neg h2, if_neg h3, if_neg h4, if_neg h5, if_neg h6, if_neg h7, if_neg h8, if_neg h9, if_neg h10]) (List.forall_mem_cons.mpr ⟨⟨_, _, rfl, nT_FORMS_0, Hold.of d_is_deed (by decide) (PySem.W.mg_of X G a24)⟩, List.forall_mem_cons.mpr ⟨⟨_, _, rfl, nT_FORMS_1, Hold.of d_is_sequence (by decide) (PySem.W.mg_of X G a25)⟩, List.forall_mem_cons.mpr ⟨⟨_, _, rfl, nT_FORMS_2, Hold.of d_is_choice (by decide) (PySem.W.mg_of X G a26)⟩, List.forall_mem_cons.mpr ⟨⟨_, _, rfl, nT_FORMS_3, Hold.of d_is_choice (by decide) (PySem.W.mg_of X G a26)⟩, List.forall_mem_cons.mpr ⟨⟨_, _, rfl, nT_FORMS_4, Hold.of d_is_case (by decide) (PySem.W.mg_of X G a27)⟩, List.forall_mem_cons.mpr ⟨⟨_, _, rfl, nT_FORMS_5, Hold.of d_is_named (by decide) (PySem.W.mg_of X G a28)⟩, List.forall_mem_cons.mpr ⟨⟨_, _, rfl, nT_FORMS_6, Hold.of d_is_call (by decide) (PySem.W.mg_of X G a29)⟩, List.forall_mem_cons.mpr ⟨⟨_, _, rfl, nT_FORMS_7, Hold.of d_is_scope (by decide) (PySem.W.mg_of X G a30)⟩, List.forall_mem_cons.mpr ⟨⟨_, _, rfl, nT_FORMS_8, Hold.of d_is_named (by decide) (PySem.W.mg_of X G a28)⟩, List.forall_mem_cons.mpr ⟨⟨_, _, rfl, nT_FORMS_9, Hold.of d_is_named (by decide) (PySem.W.mg_of X G a28)⟩, List.forall_mem_cons.mpr ⟨⟨_, _, rfl, nT_FORMS_10, Hold.of d_is_answer (by decide) (PySem.W.mg_of X G a32)⟩, fun _ h => nomatch h⟩⟩⟩⟩⟩⟩⟩⟩⟩⟩⟩)
  have d_has_form : Df l.prog w K mg base 4 "has_form" ["value"] p_has_form := ok_has_form (C_Space := C_Space) (TB_FORMS := TB_FORMS) (tx_mk l33 e33 k33 (PySem.W.mg_of X G a33)) m_isinstance m_tuple m_len m_str tb_FORMS
  have d_terms_in : Df l.prog w K mg base 1 "terms_in" ["term"] p_terms_in := ok_terms_in (C_Space := C_Space) (tx_mk l34 e34 k34 (PySem.W.mg_of X G a34)) m_tuple
  have d_is_small : Df l.prog w K mg base 5 "is_small" ["value"] p_is_small := ok_is_small (C_Space := C_Space) (TB_FORMS := TB_FORMS) (tx_mk l35 e35 k35 (PySem.W.mg_of X G a35)) m_range c_MAX_DEPTH m_len c_MAX_TERMS m_all d_has_form d_terms_in
  have d_terms_of : Df l.prog w K mg base 12 "terms_of" ["term"] p_terms_of := ok_terms_of (C_Space := C_Space) (TB_FORMS := TB_FORMS) (tx_mk l36 e36 k36 (PySem.W.mg_of X G a36)) d_terms_in
  have d_exits_fit : Df l.prog w K mg base 12 "exits_fit" ["term", "labels"] p_exits_fit := ok_exits_fit (C_Space := C_Space) (TB_FORMS := TB_FORMS) (tx_mk l37 e37 k37 (PySem.W.mg_of X G a37)) m_all d_terms_in
  have d_is_bound : Df l.prog w K mg base 13 "is_bound" ["body", "parameters"] p_is_bound := ok_is_bound (C_Space := C_Space) (TB_FORMS := TB_FORMS) (tx_mk l38 e38 k38 (PySem.W.mg_of X G a38)) d_terms_of m_all m_len m_set d_exits_fit
  have d_is_term : Df l.prog w K mg base 14 "is_term" ["value", "parameters"] p_is_term := ok_is_term (C_Space := C_Space) (TB_FORMS := TB_FORMS) (tx_mk l39 e39 k39 (PySem.W.mg_of X G a39)) d_are_parameters d_is_small d_is_bound
  have d__law_whole : Df l.prog w K mg base 1 "_law_whole" ["_law_modes"] p__law_whole := ok__law_whole (C_Space := C_Space) (TB_FORMS := TB_FORMS) (tx_mk l40 e40 k40 (PySem.W.mg_of X G a40)) 
  have d__law_set : Df l.prog w K mg base 1 "_law_set" ["_law_members"] p__law_set := ok__law_set (C_Space := C_Space) (TB_FORMS := TB_FORMS) (tx_mk l41 e41 k41 (PySem.W.mg_of X G a41)) m_sum
  have d__law_has : Df l.prog w K mg base 1 "_law_has" ["_law_number", "_law_mode"] p__law_has := ok__law_has (C_Space := C_Space) (TB_FORMS := TB_FORMS) (tx_mk l42 e42 k42 (PySem.W.mg_of X G a42)) 
  have d__law_joined : Df l.prog w K mg base 2 "_law_joined" ["_law_modes", "_law_sets", "_law_is_every"] p__law_joined := ok__law_joined (C_Space := C_Space) (TB_FORMS := TB_FORMS) (tx_mk l43 e43 k43 (PySem.W.mg_of X G a43)) m_range d__law_has m_len d__law_set
  have d__law_good : Df l.prog w K mg base 9 "_law_good" ["_law_modes", "_law_term", "_law_view", "_law_good_here", "_law_books"] p__law_good := ok__law_good (C_Space := C_Space) (TB_FORMS := TB_FORMS) (tx_mk l44 e44 k44 (PySem.W.mg_of X G a44)) m_list m_enumerate d__law_set d__law_has d__law_joined
  have d__law_map : Df l.prog w K mg base 10 "_law_map" ["_law_modes", "_law_term", "_law_view", "_law_books"] p__law_map := ok__law_map (C_Space := C_Space) (TB_FORMS := TB_FORMS) (tx_mk l45 e45 k45 (PySem.W.mg_of X G a45)) m_tuple m_range d__law_whole d__law_good
  have d__law_won : Df l.prog w K mg base 11 "_law_won" ["_law_modes", "_law_term"] p__law_won := ok__law_won (C_Space := C_Space) (TB_FORMS := TB_FORMS) (tx_mk l46 e46 k46 (PySem.W.mg_of X G a46)) d__law_map d__law_whole
  have d__law_inner : Df l.prog w K mg base 1 "_law_inner" ["_law_term"] p__law_inner := ok__law_inner (C_Space := C_Space) (TB_FORMS := TB_FORMS) (tx_mk l47 e47 k47 (PySem.W.mg_of X G a47)) m_list
  have d__law_all_of : Df l.prog w K mg base 2 "_law_all_of" ["_law_term"] p__law_all_of := ok__law_all_of (C_Space := C_Space) (TB_FORMS := TB_FORMS) (tx_mk l48 e48 k48 (PySem.W.mg_of X G a48)) m_len d__law_inner
  have d__law_deep : Df l.prog w K mg base 7 "_law_deep" ["_law_term"] p__law_deep := ok__law_deep (C_Space := C_Space) (TB_FORMS := TB_FORMS) (tx_mk l49 e49 k49 (PySem.W.mg_of X G a49)) m_max d__law_inner
  have d__law_right : Df l.prog w K mg base 15 "_law_right" ["_law_modes", "_law_wanted"] (p__law_right C_Space) := ok__law_right (C_Space := C_Space) (TB_FORMS := TB_FORMS) (tx_mk l50 e50 k50 (PySem.W.mg_of X G a50)) d_block_of d_is_term d__law_won d__law_all_of m_len d__law_deep
  have d__law_pick : Df l.prog w K mg base 2 "_law_pick" ["_law_wheel_here", "_law_items"] p__law_pick := ok__law_pick (C_Space := C_Space) (TB_FORMS := TB_FORMS) (tx_mk l51 e51 k51 (PySem.W.mg_of X G a51)) d__law_spin m_len
  have d__law_is_over : Df l.prog w K mg base 3 "_law_is_over" ["_law_modes", "_law_number", "_law_less"] p__law_is_over := ok__law_is_over (C_Space := C_Space) (TB_FORMS := TB_FORMS) (tx_mk l52 e52 k52 (PySem.W.mg_of X G a52)) d__law_joined
  have d__law_rows : Df l.prog w K mg base 4 "_law_rows" ["_law_modes"] p__law_rows := ok__law_rows (C_Space := C_Space) (TB_FORMS := TB_FORMS) (tx_mk l53 e53 k53 (PySem.W.mg_of X G a53)) m_list m_range d__law_whole m_len d__law_joined d__law_is_over
  have d_rising_bits : Df l.prog w K mg base 3 "rising_bits" ["modes"] p_rising_bits := ok_rising_bits (C_Space := C_Space) (TB_FORMS := TB_FORMS) (tx_mk l54 e54 k54 (PySem.W.mg_of X G a54)) m_range m_tuple d_is_rising
  have d_with_bits : Df l.prog w K mg base 1 "with_bits" ["one", "bits", "mode"] p_with_bits := ok_with_bits (C_Space := C_Space) (TB_FORMS := TB_FORMS) (tx_mk l55 e55 k55 (PySem.W.mg_of X G a55)) m_tuple m_zip
  have d_monotone_maps : Df l.prog w K mg base 4 "monotone_maps" ["modes"] p_monotone_maps := ok_monotone_maps (C_Space := C_Space) (TB_FORMS := TB_FORMS) (tx_mk l56 e56 k56 (PySem.W.mg_of X G a56)) d_rising_bits d_level_map m_range d_with_bits m_tuple m_sorted
  have q_Space_maps : Dpr l.prog w K mg base 5 C_Space "maps" ["self"] (p_Space_maps C_Space) := ok_Space_maps (C_Space := C_Space) (TB_FORMS := TB_FORMS) ⟨f57, p57, _, fun_mk l57 e57 k57, ⟨a57, g57, u57, ⟨_, r57⟩⟩⟩ cl_Space na_Space__maps d_monotone_maps na_Space__modes
  have d_law : Df l.prog w K mg base 16 "law" ["_law_script"] (p_law C_Space) := ok_law (C_Space := C_Space) (TB_FORMS := TB_FORMS) (tx_mk l58 e58 k58 (PySem.W.mg_of X G a58)) m_range m_max m_min m_len d__law_wheel d__law_spin d__law_right d__law_pick d__law_rows m_tuple k_Space mk_Space q_Space___init__ q_Space_maps cl_Space
  exact law_fn (FL.Df.weak d_law law_w) (PySem.W.mg_of X G a58) l58
end L68
open PySem PySem.W PyProof.Rows
set_option maxHeartbeats 0 in
theorem PySem.Challenge.cw_handedworld_k68_blocks_made_holds : PySem.Challenge.rw_handedworld_k68_blocks_made.Holds := by
  w_on; o_law; k_head; (case hw => w_witness2)
  k_fill
  refine DL.walk_g (l := PySem.Challenge.rw_handedworld_k68_blocks_made) (k := 16) (x := "_law_script") (by decide) rfl ⟨rfl, by decide, by decide⟩ (fun w h Y => PySem.W.kIn_of Y) ?F
  case F =>
    intro w mg fa h KX G hmg
    refine' L68.all_mk KX G hmg ?aC_Space ?cp_Space ?ch_Space ?co_Space ?cs_Space ?mm_Space ?mi_Space ?mf_Space ?mp_Space ?a0 ?l0 ?e0 ?k0 ?a1 ?l1 ?e1 ?k1 ?a2 ?l2 ?e2 ?k2 ?a3 ?l3 ?e3 ?k3 ?a4 ?l4 ?e4 ?k4 ?a5 ?l5 ?e5 ?k5 ?a6 ?l6 ?e6 ?k6 ?a7 ?l7 ?e7 ?k7 ?a8 ?l8 ?e8 ?k8 ?a9 ?l9 ?e9 ?k9 ?a10 ?l10 ?e10 ?k10 ?a11 ?i11 ?l11 ?e11 ?k11 ?a12 ?i12 ?l12 ?e12 ?k12 ?a13 ?l13 ?e13 ?k13 ?a14 ?l14 ?e14 ?k14 ?a15 ?l15 ?e15 ?k15 ?a16 ?i16 ?l16 ?e16 ?k16 ?a17 ?l17 ?e17 ?k17 ?a18 ?l18 ?e18 ?k18 ?a19 ?i19 ?l19 ?e19 ?k19 ?a20 ?l20 ?e20 ?k20 ?a21 ?l21 ?e21 ?k21 ?a22 ?l22 ?e22 ?k22 ?a23 ?l23 ?e23 ?k23 ?a24 ?l24 ?e24 ?k24 ?a25 ?l25 ?e25 ?k25 ?a26 ?l26 ?e26 ?k26 ?a27 ?l27 ?e27 ?k27 ?a28 ?l28 ?e28 ?k28 ?a29 ?l29 ?e29 ?k29 ?a30 ?l30 ?e30 ?k30 ?a31 ?l31 ?e31 ?k31 ?a32 ?l32 ?e32 ?k32 ?a33 ?l33 ?e33 ?k33 ?a34 ?l34 ?e34 ?k34 ?a35 ?l35 ?e35 ?k35 ?a36 ?l36 ?e36 ?k36 ?a37 ?l37 ?e37 ?k37 ?a38 ?l38 ?e38 ?k38 ?a39 ?l39 ?e39 ?k39 ?a40 ?l40 ?e40 ?k40 ?a41 ?l41 ?e41 ?k41 ?a42 ?l42 ?e42 ?k42 ?a43 ?l43 ?e43 ?k43 ?a44 ?l44 ?e44 ?k44 ?a45 ?l45 ?e45 ?k45 ?a46 ?l46 ?e46 ?k46 ?a47 ?l47 ?e47 ?k47 ?a48 ?l48 ?e48 ?k48 ?a49 ?l49 ?e49 ?k49 ?a50 ?l50 ?e50 ?k50 ?a51 ?l51 ?e51 ?k51 ?a52 ?l52 ?e52 ?k52 ?a53 ?l53 ?e53 ?k53 ?a54 ?l54 ?e54 ?k54 ?a55 ?l55 ?e55 ?k55 ?a56 ?l56 ?e56 ?k56 ?a57 ?g57 ?u57 ?r57 ?l57 ?e57 ?k57 ?a58 ?l58 ?e58 ?k58 ?m_len ?m_int ?m_abs ?m_max ?m_isinstance ?m_bool ?m_tuple ?m_all ?m_range ?c_MAX_MODES ?na_Space__modes ?na_Space__full ?na_Space__maps ?na_Space__same ?na_Space__never ?na_Space__always ?m_any ?c_LABEL ?c_MAX_BLOCK_MODES ?m_str ?c_MAX_LETTERS ?c_LETTERS ?m_set ?c_MAX_PARAMETERS ?m_zip ?aT_FORMS ?dT_FORMS ?nT_FORMS_0 ?nT_FORMS_1 ?nT_FORMS_2 ?nT_FORMS_3 ?nT_FORMS_4 ?nT_FORMS_5 ?nT_FORMS_6 ?nT_FORMS_7 ?nT_FORMS_8 ?nT_FORMS_9 ?nT_FORMS_10 ?c_MAX_DEPTH ?c_MAX_TERMS ?m_sum ?m_list ?m_enumerate ?m_sorted ?m_min
    (case aC_Space => k_is); (case cp_Space => k_is); (case ch_Space => k_is); (case co_Space => k_is); (case cs_Space => k_is); (case mm_Space => k_is); (case mi_Space => k_is); (case mf_Space => k_is); (case mp_Space => k_is); (case a0 => k_is); (case l0 => k_is); (case e0 => k_is); (case k0 => k_is); (case a1 => k_is); (case l1 => k_is); (case e1 => k_is); (case k1 => k_is); (case a2 => k_is); (case l2 => k_is); (case e2 => k_is); (case k2 => k_is); (case a3 => k_is); (case l3 => k_is); (case e3 => k_is); (case k3 => k_is); (case a4 => k_is); (case l4 => k_is); (case e4 => k_is); (case k4 => k_is); (case a5 => k_is); (case l5 => k_is); (case e5 => k_is); (case k5 => k_is); (case a6 => k_is); (case l6 => k_is); (case e6 => k_is); (case k6 => k_is); (case a7 => k_is); (case l7 => k_is); (case e7 => k_is); (case k7 => k_is); (case a8 => k_is); (case l8 => k_is); (case e8 => k_is); (case k8 => k_is); (case a9 => k_is); (case l9 => k_is); (case e9 => k_is); (case k9 => k_is); (case a10 => k_is); (case l10 => k_is); (case e10 => k_is); (case k10 => k_is); (case a11 => k_is); (case i11 => k_is); (case l11 => k_is); (case e11 => k_is); (case k11 => k_is); (case a12 => k_is); (case i12 => k_is); (case l12 => k_is); (case e12 => k_is); (case k12 => k_is); (case a13 => k_is); (case l13 => k_is); (case e13 => k_is); (case k13 => k_is); (case a14 => k_is); (case l14 => k_is); (case e14 => k_is); (case k14 => k_is); (case a15 => k_is); (case l15 => k_is); (case e15 => k_is); (case k15 => k_is); (case a16 => k_is); (case i16 => k_is); (case l16 => k_is); (case e16 => k_is); (case k16 => k_is); (case a17 => k_is); (case l17 => k_is); (case e17 => k_is); (case k17 => k_is); (case a18 => k_is); (case l18 => k_is); (case e18 => k_is); (case k18 => k_is); (case a19 => k_is); (case i19 => k_is); (case l19 => k_is); (case e19 => k_is); (case k19 => k_is); (case a20 => k_is); (case l20 => k_is); (case e20 => k_is); (case k20 => k_is); (case a21 => k_is); (case l21 => k_is); (case e21 => k_is); (case k21 => k_is); (case a22 => k_is); (case l22 => k_is); (case e22 => k_is); (case k22 => k_is); (case a23 => k_is); (case l23 => k_is); (case e23 => k_is); (case k23 => k_is); (case a24 => k_is); (case l24 => k_is); (case e24 => k_is); (case k24 => k_is); (case a25 => k_is); (case l25 => k_is); (case e25 => k_is); (case k25 => k_is); (case a26 => k_is); (case l26 => k_is); (case e26 => k_is); (case k26 => k_is); (case a27 => k_is); (case l27 => k_is); (case e27 => k_is); (case k27 => k_is); (case a28 => k_is); (case l28 => k_is); (case e28 => k_is); (case k28 => k_is); (case a29 => k_is); (case l29 => k_is); (case e29 => k_is); (case k29 => k_is); (case a30 => k_is); (case l30 => k_is); (case e30 => k_is); (case k30 => k_is); (case a31 => k_is); (case l31 => k_is); (case e31 => k_is); (case k31 => k_is); (case a32 => k_is); (case l32 => k_is); (case e32 => k_is); (case k32 => k_is); (case a33 => k_is); (case l33 => k_is); (case e33 => k_is); (case k33 => k_is); (case a34 => k_is); (case l34 => k_is); (case e34 => k_is); (case k34 => k_is); (case a35 => k_is); (case l35 => k_is); (case e35 => k_is); (case k35 => k_is); (case a36 => k_is); (case l36 => k_is); (case e36 => k_is); (case k36 => k_is); (case a37 => k_is); (case l37 => k_is); (case e37 => k_is); (case k37 => k_is); (case a38 => k_is); (case l38 => k_is); (case e38 => k_is); (case k38 => k_is); (case a39 => k_is); (case l39 => k_is); (case e39 => k_is); (case k39 => k_is); (case a40 => k_is); (case l40 => k_is); (case e40 => k_is); (case k40 => k_is); (case a41 => k_is); (case l41 => k_is); (case e41 => k_is); (case k41 => k_is); (case a42 => k_is); (case l42 => k_is); (case e42 => k_is); (case k42 => k_is); (case a43 => k_is); (case l43 => k_is); (case e43 => k_is); (case k43 => k_is); (case a44 => k_is); (case l44 => k_is); (case e44 => k_is); (case k44 => k_is); (case a45 => k_is); (case l45 => k_is); (case e45 => k_is); (case k45 => k_is); (case a46 => k_is); (case l46 => k_is); (case e46 => k_is); (case k46 => k_is); (case a47 => k_is); (case l47 => k_is); (case e47 => k_is); (case k47 => k_is); (case a48 => k_is); (case l48 => k_is); (case e48 => k_is); (case k48 => k_is); (case a49 => k_is); (case l49 => k_is); (case e49 => k_is); (case k49 => k_is); (case a50 => k_is); (case l50 => k_is); (case e50 => k_is); (case k50 => k_is); (case a51 => k_is); (case l51 => k_is); (case e51 => k_is); (case k51 => k_is); (case a52 => k_is); (case l52 => k_is); (case e52 => k_is); (case k52 => k_is); (case a53 => k_is); (case l53 => k_is); (case e53 => k_is); (case k53 => k_is); (case a54 => k_is); (case l54 => k_is); (case e54 => k_is); (case k54 => k_is); (case a55 => k_is); (case l55 => k_is); (case e55 => k_is); (case k55 => k_is); (case a56 => k_is); (case l56 => k_is); (case e56 => k_is); (case k56 => k_is); (case a57 => k_is); (case g57 => k_is); (case u57 => k_is); (case r57 => k_is); (case l57 => k_is); (case e57 => k_is); (case k57 => k_is); (case a58 => k_is); (case l58 => k_is); (case e58 => k_is); (case k58 => k_is); (case m_len => k_is); (case m_int => k_is); (case m_abs => k_is); (case m_max => k_is); (case m_isinstance => k_is); (case m_bool => k_is); (case m_tuple => k_is); (case m_all => k_is); (case m_range => k_is); (case c_MAX_MODES => k_is); (case na_Space__modes => k_is); (case na_Space__full => k_is); (case na_Space__maps => k_is); (case na_Space__same => k_is); (case na_Space__never => k_is); (case na_Space__always => k_is); (case m_any => k_is); (case c_LABEL => k_is); (case c_MAX_BLOCK_MODES => k_is); (case m_str => k_is); (case c_MAX_LETTERS => k_is); (case c_LETTERS => k_is); (case m_set => k_is); (case c_MAX_PARAMETERS => k_is); (case m_zip => k_is); (case aT_FORMS => k_is); (case dT_FORMS => first | k_is | kernel_rfl); (case nT_FORMS_0 => k_is); (case nT_FORMS_1 => k_is); (case nT_FORMS_2 => k_is); (case nT_FORMS_3 => k_is); (case nT_FORMS_4 => k_is); (case nT_FORMS_5 => k_is); (case nT_FORMS_6 => k_is); (case nT_FORMS_7 => k_is); (case nT_FORMS_8 => k_is); (case nT_FORMS_9 => k_is); (case nT_FORMS_10 => k_is); (case c_MAX_DEPTH => k_is); (case c_MAX_TERMS => k_is); (case m_sum => k_is); (case m_list => k_is); (case m_enumerate => k_is); (case m_sorted => k_is); (case m_min => k_is)
