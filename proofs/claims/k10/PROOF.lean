import PyProof.Rows.All
import Wide.All
import OpenK.AllK
import Wide.FinOn
import KE.KStateDown
import Lean
import HandS.ForMost
import HandS.ForExc
import HandS.More
import HandS.Flow
import HandS.IsInst
import HandS.Conv
import HandS.TupMul
import HandS.Zip
import HandS.TupLen
import HandS.TupAny
import HandS.TupSets
import HandS.Defaults
import HandS.FStr
import HandS.Wide
import HandS.Lambda
import HandS.TryMany
import HandS.ExcInit
import HandS.ExcField
import HandS.Head0
import HandS.Head1
import HandS.Head2
import HandS.HeadEnd
import HandS.HeadHook1
import HandS.HeadHook2
import KE.GoesMore
import HandS.Deep
import PySem.Challenge.RW_hushrules_k10_conditions_one_by_one
set_option Elab.async false
set_option linter.all false
set_option maxRecDepth 100000
set_option maxHeartbeats 4000000
namespace U
open PySem PySem.Spec PyProof.Rows L2

inductive D where
  | non | bl (b : Bool) | int (i : Int) | str (x : Str) | tup (xs : List D) | ref (n : Nat)
inductive Ob where
  | lst (xs : List D)
  | rol (xs : List D)
  | kst (xs : List D)
  | ins (c : Str) (fs : List (Str × D))
abbrev Sto := List Ob
abbrev Pl := List Addr

mutual
inductive RV (K : PySem.W.Frag) (H : Hp) (m : Pl) : D → V → Prop
  | non : RV K H m .non .non
  | bl {b} : RV K H m (.bl b) (.bl b)
  | int {i} : RV K H m (.int i) (.int i)
  | str {x} : RV K H m (.str x) (.str x)
  | tup {xs a vs} : SqT K H a vs → RVs K H m xs vs → RV K H m (.tup xs) (.ref a)
  | ref {n a} : m[n]? = some a → RV K H m (.ref n) (.ref a)
inductive RVs (K : PySem.W.Frag) (H : Hp) (m : Pl) : List D → List V → Prop
  | nil : RVs K H m [] []
  | cons {d ds v vs} : RV K H m d v → RVs K H m ds vs → RVs K H m (d :: ds) (v :: vs)
end

structure Ext (H H' : Hp) : Prop where
  tups : ∀ b xs, H b = some (.tup xs) → H' b = some (.tup xs)
  frzs : ∀ b o u, H b = some (.frz o u) → H' b = some (.frz o u)
theorem Ext.refl (H : Hp) : Ext H H := ⟨fun _ _ h => h, fun _ _ _ h => h⟩
theorem Ext.trans {H H1 H2 : Hp} (a : Ext H H1) (b : Ext H1 H2) : Ext H H2 := ⟨fun c xs h => b.tups c xs (a.tups c xs h), fun c o u h => b.frzs c o u (a.frzs c o u h)⟩
theorem Ext.new {H : Hp} {p : Addr} {o : HO} (h : H p = none) : Ext H (upd H p o) :=
  ⟨fun b xs e => by rw [upd_ne (ne_of_none e h)]; exact e, fun b o u e => by rw [upd_ne (ne_of_none e h)]; exact e⟩
theorem Ext.sqT {K : PySem.W.Frag} {H H' : Hp} {a : Addr} {xs : List V} (e : Ext H H') (h : SqT K H a xs) : SqT K H' a xs := by
  rcases h with (h | ⟨o, h⟩) | h
  · exact .inl (.inl (e.tups _ _ h))
  · exact .inl (.inr ⟨o, e.frzs _ _ _ h⟩)
  · exact .inr h
section
variable {K : PySem.W.Frag} {H H' : Hp} {m m' : Pl}
theorem pre_get {m m' : Pl} (p : m <+: m') {n : Nat} {a : Addr} (h : m[n]? = some a) : m'[n]? = some a := by
  obtain ⟨t, rfl⟩ := p
  rw [List.getElem?_append_left (List.getElem?_eq_some_iff.mp h).1]
  exact h
mutual
theorem RV.mono (e : Ext H H') (p : m <+: m') : ∀ {d : D} {v : V}, RV K H m d v → RV K H' m' d v
  | .non, _, h => by cases h; exact .non
  | .bl _, _, h => by cases h; exact .bl
  | .int _, _, h => by cases h; exact .int
  | .str _, _, h => by cases h; exact .str
  | .tup xs, _, h => by
    cases h with
    | tup h1 h2 => exact .tup (e.sqT h1) (RVs.mono e p h2)
  | .ref _, _, h => by
    cases h with
    | ref h1 => exact .ref (pre_get p h1)
theorem RVs.mono (e : Ext H H') (p : m <+: m') : ∀ {ds : List D} {vs : List V}, RVs K H m ds vs → RVs K H' m' ds vs
  | [], _, h => by cases h; exact .nil
  | _ :: _, _, h => by
    cases h with
    | cons h1 h2 => exact .cons (RV.mono e p h1) (RVs.mono e p h2)
end
theorem RVs.length : ∀ {ds : List D} {vs : List V}, RVs K H m ds vs → ds.length = vs.length
  | [], _, h => by cases h; rfl
  | _ :: _, _, h => by
    cases h with
    | cons h1 h2 => simp [RVs.length h2]
theorem RVs.get : ∀ {ds : List D} {vs : List V} {i : Nat} {d : D}, RVs K H m ds vs → ds[i]? = some d → ∃ v, vs[i]? = some v ∧ RV K H m d v
  | [], _, _, _, _, e => by simp at e
  | x :: xs, _, i, d, h, e => by
    cases h with
    | @cons _ _ v vs h1 h2 =>
      cases i with
      | zero => simp at e; subst e; exact ⟨v, rfl, h1⟩
      | succ i => simpa using RVs.get h2 (by simpa using e)
theorem RVs.getv : ∀ {ds : List D} {vs : List V} {i : Nat} {v : V}, RVs K H m ds vs → vs[i]? = some v → ∃ d, ds[i]? = some d ∧ RV K H m d v
  | [], _, _, _, h, e => by cases h; simp at e
  | x :: xs, _, i, v, h, e => by
    cases h with
    | @cons _ _ w vs h1 h2 =>
      cases i with
      | zero => simp at e; subst e; exact ⟨x, rfl, h1⟩
      | succ i => simpa using RVs.getv h2 (by simpa using e)
theorem RVs.append : ∀ {ds es : List D} {vs ws : List V}, RVs K H m ds vs → RVs K H m es ws → RVs K H m (ds ++ es) (vs ++ ws)
  | [], _, _, _, h, g => by cases h; exact g
  | _ :: _, _, _, _, h, g => by
    cases h with
    | cons h1 h2 => exact .cons h1 (RVs.append h2 g)
theorem RVs.one {d : D} {v : V} (h : RV K H m d v) : RVs K H m [d] [v] := .cons h .nil
theorem RVs.drop : ∀ {ds : List D} {vs : List V} (n : Nat), RVs K H m ds vs → RVs K H m (ds.drop n) (vs.drop n)
  | _, _, 0, h => h
  | [], _, _ + 1, h => by cases h; exact .nil
  | _ :: _, _, n + 1, h => by
    cases h with
    | cons h1 h2 => exact RVs.drop n h2
theorem RVs.take : ∀ {ds : List D} {vs : List V} (n : Nat), RVs K H m ds vs → RVs K H m (ds.take n) (vs.take n)
  | _, _, 0, h => .nil
  | [], _, _ + 1, h => by cases h; exact .nil
  | _ :: _, _, n + 1, h => by
    cases h with
    | cons h1 h2 => exact .cons h1 (RVs.take n h2)
theorem RVs.set {d : D} {v : V} (r : RV K H m d v) : ∀ {ds : List D} {vs : List V} (n : Nat), RVs K H m ds vs → RVs K H m (ds.set n d) (vs.set n v)
  | [], _, _, h => by cases h; exact .nil
  | _ :: _, _, 0, h => by
    cases h with
    | cons h1 h2 => exact .cons r h2
  | _ :: _, _, n + 1, h => by
    cases h with
    | cons h1 h2 => exact .cons h1 (RVs.set r n h2)
end

def OR (K : PySem.W.Frag) (H : Hp) (m : Pl) (a : Addr) : Ob → Prop
  | .lst xs => ∃ vs, H a = some (.lst vs) ∧ RVs K H m xs vs
  | .rol xs => ∃ o vs, H a = some (.frz o (.lst vs)) ∧ RVs K H m xs vs
  | .kst xs => ∃ vs, (∀ H', SqL K H' a vs) ∧ RVs K H m xs vs
  | .ins c fs => ∃ dx vfs, H a = some (.ins (He.ga K c) dx vfs) ∧ vfs.map (·.1) = fs.map (·.1) ∧ RVs K H m (fs.map (·.2)) (vfs.map (·.2)) ∧ fs.length < 500
def Ob.trk : Ob → Bool
  | .kst _ => false
  | _ => true
structure SR (K : PySem.W.Frag) (H : Hp) (m : Pl) (st : Sto) : Prop where
  len : m.length = st.length
  nd : ∀ (i j : Nat) (a : Addr) (o o' : Ob), m[i]? = some a → m[j]? = some a → st[i]? = some o → st[j]? = some o' → o.trk = true → o'.trk = true → i = j
  ob : ∀ (i : Nat) (a : Addr) (o : Ob), m[i]? = some a → st[i]? = some o → OR K H m a o
section
variable {K : PySem.W.Frag} {H H' : Hp} {m m' : Pl} {st : Sto}
theorem OR.tracked {a : Addr} {o : Ob} (h : OR K H m a o) (t : o.trk = true) : ∃ u, H a = some u ∧ ∀ xs, u ≠ .tup xs := by
  cases o with
  | lst xs => obtain ⟨vs, h, _⟩ := h; exact ⟨_, h, fun _ e => by cases e⟩
  | rol xs => obtain ⟨o, vs, h, _⟩ := h; exact ⟨_, h, fun _ e => by cases e⟩
  | kst xs => cases t
  | ins c fs => obtain ⟨dx, vfs, h, _⟩ := h; exact ⟨_, h, fun _ e => by cases e⟩
theorem OR.mono {a : Addr} {o : Ob} (e : Ext H H') (p : m <+: m') (k : o.trk = true → ∀ u, H a = some u → H' a = some u) (h : OR K H m a o) : OR K H' m' a o := by
  cases o with
  | lst xs => obtain ⟨vs, h, r⟩ := h; exact ⟨vs, k rfl _ h, r.mono e p⟩
  | rol xs => obtain ⟨o, vs, h, r⟩ := h; exact ⟨o, vs, k rfl _ h, r.mono e p⟩
  | kst xs => obtain ⟨vs, h, r⟩ := h; exact ⟨vs, h, r.mono e p⟩
  | ins c fs => obtain ⟨dx, vfs, h, h2, r, l⟩ := h; exact ⟨dx, vfs, k rfl _ h, h2, r.mono e p, l⟩
theorem SR.at (s : SR K H m st) {i : Nat} {o : Ob} (h : st[i]? = some o) : ∃ a, m[i]? = some a ∧ OR K H m a o := by
  have hi : i < m.length := by rw [s.len]; exact (List.getElem?_eq_some_iff.mp h).1
  exact ⟨m[i], by simp [hi], s.ob i _ o (by simp [hi]) h⟩
theorem SR.ext (s : SR K H m st) (e : Ext H H') (k : ∀ a ∈ m, ∀ u, H a = some u → H' a = some u) : SR K H' m st :=
  ⟨s.len, s.nd, fun i a o h1 h2 => (s.ob i a o h1 h2).mono e (List.prefix_refl m) fun _ => k a (List.mem_of_getElem? h1)⟩
theorem SR.tup (s : SR K H m st) {p : Addr} {o : HO} (h : H p = none) : SR K (upd H p o) m st :=
  s.ext (.new h) fun a ha u e => by rw [upd_ne (ne_of_none e h)]; exact e
theorem SR.new (s : SR K H m st) {p : Addr} {o : HO} {ob : Ob} (h : H p = none) (n : OR K (upd H p o) (m ++ [p]) p ob) : SR K (upd H p o) (m ++ [p]) (st ++ [ob]) := by
  have look : ∀ {i : Nat} {a : Addr} {q : Ob}, (m ++ [p])[i]? = some a → (st ++ [ob])[i]? = some q → (m[i]? = some a ∧ st[i]? = some q) ∨ (i = m.length ∧ a = p ∧ q = ob) := by
    intro i a q h1 h2
    by_cases hi : i < m.length
    · rw [List.getElem?_append_left hi] at h1
      rw [List.getElem?_append_left (by rw [← s.len]; exact hi)] at h2
      exact .inl ⟨h1, h2⟩
    · have hl : i < (m ++ [p]).length := (List.getElem?_eq_some_iff.mp h1).1
      have hi' : i = m.length := by simp at hl; omega
      subst hi'
      simp at h1
      rw [s.len] at h2
      simp at h2
      exact .inr ⟨rfl, h1.symm, h2.symm⟩
  have off : ∀ {i : Nat} {q : Ob}, m[i]? = some p → st[i]? = some q → q.trk = true → False := fun {i q} h1 h2 t => by
    obtain ⟨u, e, _⟩ := (s.ob i p q h1 h2).tracked t
    rw [h] at e
    cases e
  refine ⟨by simp [s.len], fun i j a oi oj hi hj hoi hoj ti tj => ?_, fun i a q h1 h2 => ?_⟩
  · rcases look hi hoi with ⟨x1, x2⟩ | ⟨x1, x2, x3⟩
    · rcases look hj hoj with ⟨y1, y2⟩ | ⟨y1, y2, y3⟩
      · exact s.nd i j a oi oj x1 y1 x2 y2 ti tj
      · subst y2; exact (off x1 x2 ti).elim
    · rcases look hj hoj with ⟨y1, y2⟩ | ⟨y1, y2, y3⟩
      · subst x2; exact (off y1 y2 tj).elim
      · omega
  · by_cases hi : i < m.length
    · rw [List.getElem?_append_left hi] at h1
      rw [List.getElem?_append_left (by rw [← s.len]; exact hi)] at h2
      exact (s.ob i a q h1 h2).mono (.new h) (List.prefix_append m [p]) fun _ u e => by rw [upd_ne (ne_of_none e h)]; exact e
    · have hl : i < (m ++ [p]).length := (List.getElem?_eq_some_iff.mp h1).1
      have hi' : i = m.length := by simp at hl; omega
      subst hi'
      simp at h1
      rw [s.len] at h2
      simp at h2
      subst h1 h2
      exact n
theorem Ext.write {p : Addr} {o u : HO} (h : H p = some u) (h1 : ∀ xs, u ≠ .tup xs) (h2 : ∀ o' w, u ≠ .frz o' w) : Ext H (upd H p o) :=
  ⟨fun b xs e => by rw [upd_ne (ne_of e h fun z => h1 xs z.symm)]; exact e, fun b o w e => by rw [upd_ne (ne_of e h fun z => h2 o w z.symm)]; exact e⟩
theorem SR.write (s : SR K H m st) {i : Nat} {p : Addr} {o u : HO} {ob o0 : Ob} (hi : m[i]? = some p) (h0 : st[i]? = some o0) (t0 : o0.trk = true) (h : H p = some u) (h1 : ∀ xs, u ≠ .tup xs) (h2 : ∀ o' w, u ≠ .frz o' w)
    (n : OR K (upd H p o) m p ob) : SR K (upd H p o) m (st.set i ob) := by
  have back : ∀ {j : Nat} {q : Ob}, (st.set i ob)[j]? = some q → (j = i ∧ q = ob) ∨ (j ≠ i ∧ st[j]? = some q) := by
    intro j q e
    by_cases hj : j = i
    · subst hj
      rw [List.getElem?_set_self (List.getElem?_eq_some_iff.mp h0).1] at e
      cases e
      exact .inl ⟨rfl, rfl⟩
    · rw [List.getElem?_set_ne (Ne.symm hj)] at e
      exact .inr ⟨hj, e⟩
  refine ⟨by simp [s.len], fun j k a oj ok hj hk hoj hok tj tk => ?_, fun j a q e1 e2 => ?_⟩
  · rcases back hoj with ⟨x1, x2⟩ | ⟨x1, x2⟩
    · rcases back hok with ⟨y1, y2⟩ | ⟨y1, y2⟩
      · omega
      · subst x1; exact s.nd j k a o0 ok hj hk h0 y2 t0 tk
    · rcases back hok with ⟨y1, y2⟩ | ⟨y1, y2⟩
      · subst y1; exact s.nd j k a oj o0 hj hk x2 h0 tj t0
      · exact s.nd j k a oj ok hj hk x2 y2 tj tk
  · rcases back e2 with ⟨x1, x2⟩ | ⟨x1, x2⟩
    · subst x1 x2
      rw [hi] at e1; cases e1
      exact n
    · refine (s.ob j a q e1 x2).mono (.write h h1 h2) (List.prefix_refl m) fun tq w e => ?_
      have ne : a ≠ p := fun z => x1 (s.nd j i a q o0 e1 (z ▸ hi) x2 h0 tq t0)
      rw [upd_ne ne]; exact e
end

abbrev Ev := List (Option D)
structure RE (K : PySem.W.Frag) (H : Hp) (m : Pl) (env : Ev) (σ : L2.St) : Prop where
  len : env.length = σ.length
  at_ : ∀ (i : Nat) (d : D), env[i]? = some (some d) → ∃ v, σ[i]? = some (some v) ∧ RV K H m d v
section
variable {K : PySem.W.Frag} {H H' : Hp} {m m' : Pl} {env : Ev} {σ : L2.St}
theorem RE.mono (r : RE K H m env σ) (e : Ext H H') (p : m <+: m') : RE K H' m' env σ :=
  ⟨r.len, fun i d h => let ⟨v, h1, h2⟩ := r.at_ i d h; ⟨v, h1, h2.mono e p⟩⟩
theorem RE.set (r : RE K H m env σ) {i : Nat} {d : D} {v : V} (h : RV K H m d v) : RE K H m (env.set i (some d)) (σ.set i (some v)) := by
  refine ⟨by simp [r.len], fun j x e => ?_⟩
  by_cases hj : i = j
  · subst hj
    by_cases hl : i < env.length
    · rw [List.getElem?_set_self hl] at e
      cases e
      exact ⟨v, by rw [List.getElem?_set_self (by rw [← r.len]; exact hl)], h⟩
    · rw [List.getElem?_eq_none (by simp; omega)] at e
      cases e
  · rw [List.getElem?_set_ne hj] at e ⊢
    exact r.at_ j x e
theorem RE.forget (r : RE K H m env σ) {i : Nat} : RE K H m (env.set i none) (σ.set i none) := by
  refine ⟨by simp [r.len], fun j x e => ?_⟩
  by_cases hj : i = j
  · subst hj
    by_cases hl : i < env.length
    · rw [List.getElem?_set_self hl] at e; cases e
    · rw [List.getElem?_eq_none (by simp; omega)] at e
      cases e
  · rw [List.getElem?_set_ne hj] at e ⊢
    exact r.at_ j x e
end

inductive R (α : Type) where
  | ok (a : α) (st : Sto)
  | err (c : Str) (fs : List (Str × D)) (st : Sto)
  | fail
def R.bind {α β : Type} (r : R α) (f : α → Sto → R β) : R β := match r with
  | .ok a st => f a st
  | .err c fs st => .err c fs st
  | .fail => .fail
inductive RS where
  | nx (env : Ev) (st : Sto)
  | rt (d : D) (st : Sto)
  | bk (env : Ev) (st : Sto)
  | ct (env : Ev) (st : Sto)
  | err (c : Str) (fs : List (Str × D)) (env : Ev) (st : Sto)
  | fail
def R.then {α : Type} (env : Ev) (r : R α) (f : α → Sto → RS) : RS := match r with
  | .ok a st => f a st
  | .err c fs st => .err c fs env st
  | .fail => .fail
def XR (K : PySem.W.Frag) (H : Hp) (m : Pl) (fs : List (Str × D)) (dO : Option Addr) : Prop :=
  (fs = [] ∧ dO = none) ∨ ∃ dd vfs, dO = some dd ∧ H dd = some (.xd vfs) ∧ vfs.map (·.1) = fs.map (·.1) ∧ RVs K H m (fs.map (·.2)) (vfs.map (·.2))
abbrev EM := Ev → Sto → R D
abbrev TM := Ev → Sto → R Bool
abbrev AM := Ev → Sto → R (List D)
abbrev SM := Ev → Sto → RS
def Post {α β : Type} (K : PySem.W.Frag) (ok : Hp → Pl → α → β → Prop) (E : XK) (m : Pl) (H : Hp) (Q : β → Hp → Prop) : R α → Prop
  | .ok d st => ∀ v H' m', Ext H H' → m <+: m' → SR K H' m' st → ok H' m' d v → Q v H'
  | .err c fs st => ∀ dO H' m', Ext H H' → m <+: m' → SR K H' m' st → XR K H' m' fs dO → E (.ref (He.ga K c)) dO H'
  | .fail => False
def PostS (K : PySem.W.Frag) (W : WX) (m : Pl) (H : Hp) (Dn : Ends) : RS → Prop
  | .nx env st => ∀ σ H' m', Ext H H' → m <+: m' → SR K H' m' st → RE K H' m' env σ → Dn.nx σ H'
  | .rt d st => ∀ v H' m', Ext H H' → m <+: m' → SR K H' m' st → RV K H' m' d v → Dn.rt v H'
  | .bk env st => ∀ σ H' m', Ext H H' → m <+: m' → SR K H' m' st → RE K H' m' env σ → Dn.bk σ H'
  | .ct env st => ∀ σ H' m', Ext H H' → m <+: m' → SR K H' m' st → RE K H' m' env σ → Dn.ct σ H'
  | .err c fs env st => ∀ dO σ H' m', Ext H H' → m <+: m' → SR K H' m' st → XR K H' m' fs dO → RE K H' m' env σ → W (.ref (He.ga K c)) dO σ H'
  | .fail => False
abbrev okV (K : PySem.W.Frag) : Hp → Pl → D → V → Prop := fun H m d v => RV K H m d v
abbrev okB : Hp → Pl → Bool → Bool → Prop := fun _ _ b c => b = c
abbrev okA (K : PySem.W.Frag) : Hp → Pl → List D → List V → Prop := fun H m d v => RVs K H m d v
def rE (K : PySem.W.Frag) (W : WX) (g : EM) : TE := fun σ H Q => ∃ env m st, RE K H m env σ ∧ SR K H m st ∧ Post K (okV K) (WE W σ) m H Q (g env st)
def rT (K : PySem.W.Frag) (W : WX) (g : TM) : TT := fun σ H Q => ∃ env m st, RE K H m env σ ∧ SR K H m st ∧ Post K okB (WE W σ) m H Q (g env st)
def rA (K : PySem.W.Frag) (W : WX) (g : AM) : TA := fun σ H Q => ∃ env m st, RE K H m env σ ∧ SR K H m st ∧ Post K (okA K) (WE W σ) m H Q (g env st)
def rS (K : PySem.W.Frag) (W : WX) (g : SM) : TS := fun Dn σ H => ∃ env m st, RE K H m env σ ∧ SR K H m st ∧ PostS K W m H Dn (g env st)
section
variable {K : PySem.W.Frag} {E : XK} {W : WX} {m m' : Pl} {H H' : Hp} {Dn : Ends} {σ : L2.St}
theorem Post.up {α β : Type} {ok : Hp → Pl → α → β → Prop} {Q : β → Hp → Prop} {r : R α} (h : Post K ok E m H Q r) (e : Ext H H') (p : m <+: m') : Post K ok E m' H' Q r := by
  cases r with
  | ok d st => exact fun v H2 m2 e2 p2 => h v H2 m2 (e.trans e2) (p.trans p2)
  | err c fs st => exact fun dO H2 m2 e2 p2 => h dO H2 m2 (e.trans e2) (p.trans p2)
  | fail => exact h
theorem PostS.up {r : RS} (h : PostS K W m H Dn r) (e : Ext H H') (p : m <+: m') : PostS K W m' H' Dn r := by
  cases r with
  | nx env st => exact fun v H2 m2 e2 p2 => h v H2 m2 (e.trans e2) (p.trans p2)
  | rt d st => exact fun v H2 m2 e2 p2 => h v H2 m2 (e.trans e2) (p.trans p2)
  | bk env st => exact fun v H2 m2 e2 p2 => h v H2 m2 (e.trans e2) (p.trans p2)
  | ct env st => exact fun v H2 m2 e2 p2 => h v H2 m2 (e.trans e2) (p.trans p2)
  | err c fs env st => exact fun dO v H2 m2 e2 p2 => h dO v H2 m2 (e.trans e2) (p.trans p2)
  | fail => exact h
theorem Post.bind {α β α' β' : Type} {ok : Hp → Pl → α → β → Prop} {ok' : Hp → Pl → α' → β' → Prop} {Q : β → Hp → Prop} {Q1 : β' → Hp → Prop} {r : R α'} {f : α' → Sto → R α} (h : Post K ok E m H Q (r.bind f))
    (k : ∀ d st v H' m', Ext H H' → m <+: m' → SR K H' m' st → ok' H' m' d v → Post K ok E m' H' Q (f d st) → Q1 v H') : Post K ok' E m H Q1 r := by
  cases r with
  | ok d st => exact fun v H2 m2 e2 p2 s2 r2 => k d st v H2 m2 e2 p2 s2 r2 (Post.up (r := f d st) h e2 p2)
  | err c fs st => exact h
  | fail => exact h
theorem PostS.bind {α' β' : Type} {ok' : Hp → Pl → α' → β' → Prop} {Q1 : β' → Hp → Prop} {r : R α'} {env : Ev} {f : α' → Sto → RS} (hE : RE K H m env σ) (h : PostS K W m H Dn (r.then env f))
    (k : ∀ d st v H' m', Ext H H' → m <+: m' → SR K H' m' st → ok' H' m' d v → PostS K W m' H' Dn (f d st) → Q1 v H') : Post K ok' (WE W σ) m H Q1 r := by
  cases r with
  | ok d st => exact fun v H2 m2 e2 p2 s2 r2 => k d st v H2 m2 e2 p2 s2 r2 (PostS.up (r := f d st) h e2 p2)
  | err c fs st => exact fun dO H2 m2 e2 p2 s2 r2 => h dO σ H2 m2 e2 p2 s2 r2 (hE.mono e2 p2)
  | fail => exact h
theorem Post.here {α β : Type} {ok : Hp → Pl → α → β → Prop} {Q : β → Hp → Prop} {d : α} {v : β} {st : Sto} (h : Post K ok E m H Q (.ok d st)) (s : SR K H m st) (r : ok H m d v) : Q v H :=
  h v H m (.refl H) (List.prefix_refl m) s r
end
theorem _root_.L2.PE.imp {X : Cx} {e : Expr} {t t' : TE} (h : PE X e t) (i : ∀ σ H Q, t' σ H Q → t σ H Q) : PE X e t' := ⟨fun pins s σ H Q I q => h.run pins s σ H Q I (i _ _ _ q)⟩
theorem _root_.L2.PT.imp {X : Cx} {e : Expr} {t t' : TT} (h : PT X e t) (i : ∀ σ H Q, t' σ H Q → t σ H Q) : PT X e t' := ⟨fun pins s σ H Q I q => h.run pins s σ H Q I (i _ _ _ q)⟩
theorem _root_.L2.PW.imp {X : Cx} {e : Expr} {t t' : TT} (h : PW X e t) (i : ∀ σ H Q, t' σ H Q → t σ H Q) : PW X e t' := ⟨fun wh pins s σ H Q I q => h.run wh pins s σ H Q I (i _ _ _ q)⟩
theorem _root_.L2.PA.imp {X : Cx} {e : List Expr} {t t' : TA} (h : PA X e t) (i : ∀ σ H Q, t' σ H Q → t σ H Q) : PA X e t' := ⟨fun pos pins s σ H Q I q => h.run pos pins s σ H Q I (i _ _ _ q)⟩
theorem _root_.L2.PS.imp {X : Cx} {e : Stmt} {t t' : TS} (h : PS X e t) (i : ∀ D σ H, t' D σ H → t D σ H) : PS X e t' := ⟨fun pins s σ H D I q => h.run pins s σ H D I (i _ _ _ q)⟩
theorem _root_.L2.PSs.imp {X : Cx} {e : List Stmt} {t t' : TS} (h : PSs X e t) (i : ∀ D σ H, t' D σ H → t D σ H) : PSs X e t' := ⟨fun pins s σ H D I q => h.run pins s σ H D I (i _ _ _ q)⟩
end U
set_option Elab.async false
set_option linter.all false
set_option maxRecDepth 100000
set_option maxHeartbeats 4000000
namespace U
open PySem PySem.Spec PyProof.Rows L2

def eVar (i : Nat) : EM := fun env st => match env[i]? with
  | some (some d) => .ok d st
  | _ => .fail
def eC (d : D) : EM := fun _ st => .ok d st
def eUn (f : D → Sto → R D) (a : EM) : EM := fun env st => (a env st).bind f
def eBin (f : D → D → Sto → R D) (a b : EM) : EM := fun env st => (a env st).bind fun x st => (b env st).bind fun y st => f x y st
def aNil : AM := fun _ st => .ok [] st
def aCons (a : EM) (r : AM) : AM := fun env st => (a env st).bind fun x st => (r env st).bind fun xs st => .ok (x :: xs) st
def eFn (f : List D → Sto → R D) (a : AM) : EM := fun env st => (a env st).bind f
def toB (d : D) (st : Sto) : R Bool := match d with
  | .bl b => .ok b st
  | _ => .fail
def tOf (g : EM) : TM := fun env st => (g env st).bind toB
def tAnd (a b : TM) : TM := fun env st => (a env st).bind fun c st => if c = true then b env st else .ok false st
def tOr (a b : TM) : TM := fun env st => (a env st).bind fun c st => if c = true then .ok true st else b env st
def tNot (a : TM) : TM := fun env st => (a env st).bind fun c st => .ok (!c) st
def eAnd (a b : EM) : EM := fun env st => (a env st).bind fun x st => match x with
  | .bl c => if c = true then b env st else .ok (.bl false) st
  | _ => .fail
def eOr (a b : EM) : EM := fun env st => (a env st).bind fun x st => match x with
  | .bl c => if c = true then .ok (.bl true) st else b env st
  | _ => .fail
def eNot (a : EM) : EM := fun env st => (a env st).bind fun x st => match x with
  | .bl c => .ok (.bl (!c)) st
  | _ => .fail
def eIf (c : TM) (a b : EM) : EM := fun env st => (c env st).bind fun k st => if k = true then a env st else b env st

section
variable {X : Cx} {W : WX} {a b c : Expr} {ga gb gc : EM} {es : List Expr} {gs : AM} {pos : Pos}
theorem e_of {v : V} {d : D} (h : PE X a (tC v)) (r : ∀ H m, RV X.K H m d v) : PE X a (rE X.K W (eC d)) := h.imp fun σ H Q ⟨env, m, st, hE, hS, hp⟩ => Post.here (v := v) hp hS (r H m)
theorem e_int {i : Int} {j : Nat} : PE X (.Constant (.int i) j pos) (rE X.K W (eC (.int i))) := e_of pe_int fun _ _ => .int
theorem e_bl {i : Bool} {j : Nat} : PE X (.Constant (.bool i) j pos) (rE X.K W (eC (.bl i))) := e_of pe_bl fun _ _ => .bl
theorem e_non {j : Nat} : PE X (.Constant .none j pos) (rE X.K W (eC .non)) := e_of pe_non fun _ _ => .non
theorem e_str {x : Str} {j : Nat} : PE X (.Constant (.str x) j pos) (rE X.K W (eC (.str x))) := e_of pe_str fun _ _ => .str
theorem e_gint {x : Str} {i : Int} (hm : ∃ t, X.mg x = some (.int i t)) (hg : Gl X x := by rfl) (hd : (x == ("__debug__" : Str)) = false := by decide) : PE X (.Name x pos) (rE X.K W (eC (.int i))) := by
  obtain ⟨t, hm⟩ := hm
  exact e_of (v := .int i) (pe_glob hg hm ⟨t, rfl⟩ hd) fun _ _ => .int
theorem e_var (i : Nat) {x : Str} (hN : X.N[i]? = some x := by rfl) (hv : Vis X.env.scope x := by first | exact Or.inl rfl | exact Or.inr (Or.inl rfl) | exact Or.inr (Or.inr rfl)) (hd : (x == ("__debug__" : Str)) = false := by decide)
    (hcd : (x == ("__classdict__" : Str)) = false := by decide) : PE X (.Name x pos) (rE X.K W (eVar i)) := (pe_var hN hv hd hcd).imp fun σ H Q ⟨env, m, st, hE, hS, hp⟩ => by
  unfold eVar at hp
  cases q : env[i]? with
  | none => rw [q] at hp; exact hp.elim
  | some o =>
    cases o with
    | none => rw [q] at hp; exact hp.elim
    | some d =>
      rw [q] at hp
      obtain ⟨v, e, r⟩ := hE.at_ i d q
      exact ⟨v, e, Post.here (v := v) hp hS r⟩
def OpF (X : Cx) (o : Value → Value → Sem Value) (f : D → D → Sto → R D) : Prop :=
  ∃ r : R2, OpR X o r ∧ ∀ (E : XK) (m : Pl) (H : Hp) (st : Sto) (dx dy : D) (x y : V) (Q : VK), SR X.K H m st → RV X.K H m dx x → RV X.K H m dy y → Post X.K (okV X.K) E m H Q (f dx dy st) → r x y H Q
theorem bin_of {r : R2} {f : D → D → Sto → R D} (hr : ∀ (E : XK) (m : Pl) (H : Hp) (st : Sto) (dx dy : D) (x y : V) (Q : VK), SR X.K H m st → RV X.K H m dx x → RV X.K H m dy y → Post X.K (okV X.K) E m H Q (f dx dy st) → r x y H Q)
    {σ : L2.St} {H : Hp} {Q : VK} (h : rE X.K W (eBin f ga gb) σ H Q) : tOp r (rE X.K W ga) (rE X.K W gb) σ H Q := by
  obtain ⟨env, m, st, hE, hS, hp⟩ := h
  exact ⟨env, m, st, hE, hS, hp.bind fun dx st1 x H1 m1 e1 p1 s1 r1 hp1 => ⟨env, m1, st1, hE.mono e1 p1, s1, hp1.bind fun dy st2 y H2 m2 e2 p2 s2 r2 hp2 => hr _ m2 H2 st2 dx dy x y Q s2 (r1.mono e2 p2) r2 hp2⟩⟩
theorem e_op {op : Operator} {f : D → D → Sto → R D} (ho : OpF X (binaryOp op) f) (ha : PE X a (rE X.K W ga)) (hb : PE X b (rE X.K W gb)) : PE X (.BinOp a op b pos) (rE X.K W (eBin f ga gb)) := by
  obtain ⟨r, h1, h2⟩ := ho
  exact (pe_op h1 ha hb).imp fun σ H Q h => bin_of h2 h
theorem e_cmp {op : CmpOp} {f : D → D → Sto → R D} (ho : OpF X (compareOp op) f) (ha : PE X a (rE X.K W ga)) (hb : PE X b (rE X.K W gb)) (hm : behindInMarks op b = false := by first | exact nomark _ | rfl) : PE X (.Compare a [op] [b] pos) (rE X.K W (eBin f ga gb)) := by
  obtain ⟨r, h1, h2⟩ := ho
  exact (pe_cmpR h1 ha hb hm).imp fun σ H Q h => bin_of h2 h
theorem test_of {g : EM} {σ : L2.St} {H : Hp} {Q : Bool → Hp → Prop} (h : rT X.K W (tOf g) σ H Q) : rE X.K W g σ H (fun x H' => ∃ k, x = .bl k ∧ Q k H') := by
  obtain ⟨env, m, st, hE, hS, hp⟩ := h
  refine ⟨env, m, st, hE, hS, hp.bind fun d st1 x H1 m1 e1 p1 s1 r1 hp1 => ?_⟩
  cases d with
  | bl k => cases r1; exact ⟨k, rfl, Post.here (v := k) hp1 s1 rfl⟩
  | _ => exact hp1.elim
theorem t_cmp {op : CmpOp} {f : D → D → Sto → R D} (ho : OpF X (compareOp op) f) (ha : PE X a (rE X.K W ga)) (hb : PE X b (rE X.K W gb)) (hm : behindInMarks op b = false := by first | exact nomark _ | rfl) : PT X (.Compare a [op] [b] pos) (rT X.K W (tOf (eBin f ga gb))) := by
  obtain ⟨r, h1, h2⟩ := ho
  refine (pt_cmpR h1 ha hb hm).imp fun σ H Q h => ?_
  exact bin_of h2 (test_of h)
theorem t_val (ha : PE X a (rE X.K W ga)) (he : ∀ whole, isTrue a X.env whole = (do let v ← whole; standAt a.pos; holding [v] (truthy v)) := by intro _; rfl) : PT X a (rT X.K W (tOf ga)) :=
  (pt_val ha he).imp fun σ H Q h => test_of h
variable {ta tb tc : TM}
theorem and_of {σ : L2.St} {H : Hp} {Q : Bool → Hp → Prop} (h : rT X.K W (tAnd ta tb) σ H Q) : L2.tAnd (rT X.K W ta) (rT X.K W tb) σ H Q := by
  obtain ⟨env, m, st, hE, hS, hp⟩ := h
  refine ⟨env, m, st, hE, hS, hp.bind fun c st1 c' H1 m1 e1 p1 s1 r1 hp1 => ?_⟩
  cases (show c = c' from r1)
  cases c with
  | true => exact iteT ⟨env, m1, st1, hE.mono e1 p1, s1, hp1⟩
  | false => exact iteF (Post.here (v := false) hp1 s1 rfl)
theorem or_of {σ : L2.St} {H : Hp} {Q : Bool → Hp → Prop} (h : rT X.K W (tOr ta tb) σ H Q) : L2.tOr (rT X.K W ta) (rT X.K W tb) σ H Q := by
  obtain ⟨env, m, st, hE, hS, hp⟩ := h
  refine ⟨env, m, st, hE, hS, hp.bind fun c st1 c' H1 m1 e1 p1 s1 r1 hp1 => ?_⟩
  cases (show c = c' from r1)
  cases c with
  | true => exact iteT (Post.here (v := true) hp1 s1 rfl)
  | false => exact iteF ⟨env, m1, st1, hE.mono e1 p1, s1, hp1⟩
theorem w_and1 (ha : PT X a (rT X.K W ta)) : PW X (.BoolOp .And [a] pos) (rT X.K W ta) := pw_and1 ha
theorem w_or1 (ha : PT X a (rT X.K W ta)) : PW X (.BoolOp .Or [a] pos) (rT X.K W ta) := pw_or1 ha
theorem w_and (ha : PT X a (rT X.K W ta)) (hb : PW X (.BoolOp .And (b :: es) pos) (rT X.K W tb)) : PW X (.BoolOp .And (a :: b :: es) pos) (rT X.K W (tAnd ta tb)) := (pw_and ha hb).imp fun σ H Q h => and_of h
theorem w_or (ha : PT X a (rT X.K W ta)) (hb : PW X (.BoolOp .Or (b :: es) pos) (rT X.K W tb)) : PW X (.BoolOp .Or (a :: b :: es) pos) (rT X.K W (tOr ta tb)) := (pw_or ha hb).imp fun σ H Q h => or_of h
theorem t_w {t : TM} (h : PW X a (rT X.K W t)) : PT X a (rT X.K W t) := h.pt
theorem t_not (ha : PT X a (rT X.K W ta)) : PT X (.UnaryOp .Not a pos) (rT X.K W (tNot ta)) := (pt_not ha).imp fun σ H Q h => by
  obtain ⟨env, m, st, hE, hS, hp⟩ := h
  refine ⟨env, m, st, hE, hS, hp.bind fun c st1 c' H1 m1 e1 p1 s1 r1 hp1 => ?_⟩
  cases (show c = c' from r1)
  exact Post.here (v := !c) hp1 s1 rfl
theorem e_one {op : BoolOp} (ha : PE X a (rE X.K W ga)) : PE X (.BoolOp op [a] pos) (rE X.K W ga) := pe_one ha
theorem e_and (ha : PE X a (rE X.K W ga)) (hb : PE X (.BoolOp .And (b :: es) pos) (rE X.K W gb)) : PE X (.BoolOp .And (a :: b :: es) pos) (rE X.K W (eAnd ga gb)) := (pe_and ha hb).imp fun σ H Q h => by
  obtain ⟨env, m, st, hE, hS, hp⟩ := h
  refine ⟨env, m, st, hE, hS, hp.bind fun d st1 x H1 m1 e1 p1 s1 r1 hp1 => ?_⟩
  cases d with
  | bl c =>
    cases r1
    refine ⟨c, rfl, ?_⟩
    cases c with
    | true => exact iteT ⟨env, m1, st1, hE.mono e1 p1, s1, hp1⟩
    | false => exact iteF (Post.here (v := .bl false) hp1 s1 .bl)
  | _ => exact hp1.elim
theorem e_or (ha : PE X a (rE X.K W ga)) (hb : PE X (.BoolOp .Or (b :: es) pos) (rE X.K W gb)) : PE X (.BoolOp .Or (a :: b :: es) pos) (rE X.K W (eOr ga gb)) := (pe_or ha hb).imp fun σ H Q h => by
  obtain ⟨env, m, st, hE, hS, hp⟩ := h
  refine ⟨env, m, st, hE, hS, hp.bind fun d st1 x H1 m1 e1 p1 s1 r1 hp1 => ?_⟩
  cases d with
  | bl c =>
    cases r1
    refine ⟨c, rfl, ?_⟩
    cases c with
    | true => exact iteT (Post.here (v := .bl true) hp1 s1 .bl)
    | false => exact iteF ⟨env, m1, st1, hE.mono e1 p1, s1, hp1⟩
  | _ => exact hp1.elim
theorem e_not (ha : PE X a (rE X.K W ga)) : PE X (.UnaryOp .Not a pos) (rE X.K W (eNot ga)) := (pe_not ha).imp fun σ H Q h => by
  obtain ⟨env, m, st, hE, hS, hp⟩ := h
  refine ⟨env, m, st, hE, hS, hp.bind fun d st1 x H1 m1 e1 p1 s1 r1 hp1 => ?_⟩
  cases d with
  | bl c => cases r1; exact ⟨c, rfl, Post.here (v := .bl (!c)) hp1 s1 .bl⟩
  | _ => exact hp1.elim
theorem e_if (hc : PT X c (rT X.K W tc)) (ha : PE X a (rE X.K W ga)) (hb : PE X b (rE X.K W gb)) : PE X (.IfExp c a b pos) (rE X.K W (eIf tc ga gb)) := (pe_ifExp hc ha hb).imp fun σ H Q h => by
  obtain ⟨env, m, st, hE, hS, hp⟩ := h
  refine ⟨env, m, st, hE, hS, hp.bind fun k st1 k' H1 m1 e1 p1 s1 r1 hp1 => ?_⟩
  cases (show k = k' from r1)
  cases k with
  | true => exact iteT ⟨env, m1, st1, hE.mono e1 p1, s1, hp1⟩
  | false => exact iteF ⟨env, m1, st1, hE.mono e1 p1, s1, hp1⟩
theorem a_nil : PA X [] (rA X.K W aNil) := pa_nil.imp fun σ H Q ⟨env, m, st, hE, hS, hp⟩ => Post.here (v := []) hp hS .nil
theorem a_cons (ha : PE X a (rE X.K W ga)) (hr : PA X es (rA X.K W gs)) (hs : starEach (a :: es) X.env = (false, eval a X.env) :: starEach es X.env := by rfl) : PA X (a :: es) (rA X.K W (aCons ga gs)) := (pa_cons ha hr hs).imp fun σ H Q h => by
  obtain ⟨env, m, st, hE, hS, hp⟩ := h
  exact ⟨env, m, st, hE, hS, hp.bind fun d st1 x H1 m1 e1 p1 s1 r1 hp1 => ⟨env, m1, st1, hE.mono e1 p1, s1, hp1.bind fun ds st2 xs H2 m2 e2 p2 s2 r2 hp2 => Post.here (v := x :: xs) hp2 s2 (.cons (r1.mono e2 p2) r2)⟩⟩
def CallF (K : PySem.W.Frag) (r : List V → Hp → VK → Prop) (f : List D → Sto → R D) : Prop :=
  ∀ (E : XK) (m : Pl) (H : Hp) (st : Sto) (ds : List D) (vs : List V) (Q : VK), SR K H m st → RVs K H m ds vs → Post K (okV K) E m H Q (f ds st) → r vs H Q
theorem fn_read {r : List V → Hp → VK → Prop} {f : List D → Sto → R D} (hr : CallF X.K r f) {σ : L2.St} {H : Hp} {Q : VK} (h : rE X.K W (eFn f gs) σ H Q) : rA X.K W gs σ H (fun vs H1 => r vs H1 Q) := by
  obtain ⟨env, m, st, hE, hS, hp⟩ := h
  exact ⟨env, m, st, hE, hS, hp.bind fun d st1 x H1 m1 e1 p1 s1 r1 hp1 => hr _ m1 H1 st1 d x Q s1 r1 hp1⟩
theorem e_callB {id : String} {x : Str} {p : Pos} {r : List V → Hp → VK → Prop} {f : List D → Sto → R D} (hc : CallR X (.builtin id) r) (hf : CallF X.K r f) (hm : X.mg x = none) (hv : bootBuiltins x = some (.builtin id)) (ha : PA X (a :: es) (rA X.K W gs))
    (hg : Gl X x := by rfl) (hn : x ≠ "__name__" := by decide) (hdb : (x == ("__debug__" : Str)) = false := by decide) (he : starEach (a :: es) X.env = (false, eval a X.env) :: starEach es X.env := by rfl) (hpl : (backTo pos (starEach es X.env)).any (·.1) = false := by rfl) :
    PE X (.Call (.Name x p) (a :: es) [] pos) (rE X.K W (eFn f gs)) := (pe_callB hc hg hm hv ha hn hdb he hpl).imp fun σ H Q h => fn_read hf h
theorem e_callTy {T : String} {x : Str} {p : Pos} {r : List V → Hp → VK → Prop} {f : List D → Sto → R D} (hc : CallR X (.type T) r) (hf : CallF X.K r f) (hm : X.mg x = none) (hv : bootBuiltins x = some (.type T)) (ha : PA X (a :: es) (rA X.K W gs))
    (hg : Gl X x := by rfl) (hn : x ≠ "__name__" := by decide) (hdb : (x == ("__debug__" : Str)) = false := by decide) (he : starEach (a :: es) X.env = (false, eval a X.env) :: starEach es X.env := by rfl) (hpl : (backTo pos (starEach es X.env)).any (·.1) = false := by rfl) :
    PE X (.Call (.Name x p) (a :: es) [] pos) (rE X.K W (eFn f gs)) := (pe_callTy hc hg hm hv ha hn hdb he hpl).imp fun σ H Q h => fn_read hf h
def most : Nat := 1000000
theorem most_le {n : Nat} (h : n ≤ most) : n ≤ sizeLine := Nat.le_trans h (by rw [sizeLine_eq]; decide)
theorem most_lt {n : Nat} (h : n < most) : n < sizeLine := Nat.lt_of_lt_of_le h (by rw [sizeLine_eq]; decide)
def mkTup (ds : List D) (st : Sto) : R D := if ds.length ≤ most then .ok (.tup ds) st else .fail
def mkLst (ds : List D) (st : Sto) : R D := if ds.length ≤ most then .ok (.ref st.length) (st ++ [.lst ds]) else .fail
theorem new_tup {K : PySem.W.Frag} {E : XK} {m : Pl} {H : Hp} {st : Sto} {ds : List D} {vs : List V} {Q : VK} (hp : Post K (okV K) E m H Q (.ok (.tup ds) st)) (s : SR K H m st) (r : RVs K H m ds vs) {p : Addr} (h : H p = none) : Q (.ref p) (upd H p (.tup vs)) :=
  hp _ _ m (.new h) (List.prefix_refl m) (s.tup h) (.tup (.of upd_same) (r.mono (.new h) (List.prefix_refl m)))
theorem new_lst {K : PySem.W.Frag} {E : XK} {m : Pl} {H : Hp} {st : Sto} {ds : List D} {vs : List V} {Q : VK} (hp : Post K (okV K) E m H Q (.ok (.ref st.length) (st ++ [.lst ds]))) (s : SR K H m st) (r : RVs K H m ds vs) {p : Addr} (h : H p = none) : Q (.ref p) (upd H p (.lst vs)) :=
  hp _ _ (m ++ [p]) (.new h) (List.prefix_append m [p]) (s.new h ⟨vs, upd_same, r.mono (.new h) (List.prefix_append m [p])⟩) (.ref (by rw [← s.len]; simp))
theorem e_tup {k : Nat} (ha : PA X es (rA X.K W gs)) : PE X (.Tuple es k pos) (rE X.K W (eFn mkTup gs)) := (pe_tup ha).imp fun σ H Q h => fn_read (r := fun vs H1 Q => vs.length ≤ sizeLine ∧ ∀ p, H1 p = none → Q (.ref p) (upd H1 p (.tup vs))) (fun E m H st ds vs Q s r hp => by
  unfold mkTup at hp
  split at hp
  · rename_i hl
    exact ⟨by rw [← r.length]; exact most_le hl, fun p h => new_tup hp s r h⟩
  · exact hp.elim) h
theorem e_lst (ha : PA X es (rA X.K W gs)) : PE X (.List es pos) (rE X.K W (eFn mkLst gs)) := (pe_lst ha).imp fun σ H Q h => fn_read (r := fun vs H1 Q => vs.length ≤ sizeLine ∧ ∀ p, H1 p = none → Q (.ref p) (upd H1 p (.lst vs))) (fun E m H st ds vs Q s r hp => by
  unfold mkLst at hp
  split at hp
  · rename_i hl
    exact ⟨by rw [← r.length]; exact most_le hl, fun p h => new_lst hp s r h⟩
  · exact hp.elim) h
end
end U
set_option Elab.async false
set_option linter.all false
set_option maxRecDepth 100000
set_option maxHeartbeats 4000000
namespace U
open PySem PySem.Spec PyProof.Rows L2

def sSkip : SM := fun env st => .nx env st
def sSeq (a b : SM) : SM := fun env st => match a env st with
  | .nx env st => b env st
  | r => r
def sRet (g : EM) : SM := fun env st => (g env st).then env fun d st => .rt d st
def sIf (t : TM) (a b : SM) : SM := fun env st => (t env st).then env fun c st => if c = true then a env st else b env st
def sSet (i : Nat) (g : EM) : SM := fun env st => (g env st).then env fun d st => .nx (env.set i (some d)) st
def sExpr (g : EM) : SM := fun env st => (g env st).then env fun _ st => .nx env st
def sNever : SM := fun _ _ => .fail
section
variable {X : Cx} {W : WX} {a b c : Expr} {ga gb gc : EM} {tc : TM} {s1 s2 : SM} {st : Stmt} {rest : List Stmt} {pos : Pos}
theorem ss_nil : PSs X [] (rS X.K W sSkip) := pss_nil.imp fun D σ H ⟨env, m, st, hE, hS, hp⟩ => hp σ H m (.refl H) (List.prefix_refl m) hS hE
theorem ss_cons (h1 : PS X st (rS X.K W s1)) (h2 : PSs X rest (rS X.K W s2)) : PSs X (st :: rest) (rS X.K W (sSeq s1 s2)) := (pss_cons h1 h2).imp fun D σ H ⟨env, m, sto, hE, hS, hp⟩ => by
  refine ⟨env, m, sto, hE, hS, ?_⟩
  unfold sSeq at hp
  cases q : s1 env sto with
  | nx env' st' => rw [q] at hp; exact fun σ' H' m' e p s r => ⟨env', m', st', r, s, PostS.up (r := s2 env' st') hp e p⟩
  | rt d st' => rw [q] at hp; exact hp
  | bk env' st' => rw [q] at hp; exact hp
  | ct env' st' => rw [q] at hp; exact hp
  | err c fs env' st' => rw [q] at hp; exact hp
  | fail => rw [q] at hp; exact hp
theorem ss_one (h1 : PS X st (rS X.K W s1)) : PSs X [st] (rS X.K W s1) := pss_one h1
theorem s_never : PS X st (rS X.K W sNever) := ps_never.imp fun D σ H ⟨env, m, sto, hE, hS, hp⟩ => hp
theorem s_pass : PS X (.Pass pos) (rS X.K W sSkip) := ps_pass.imp fun D σ H ⟨env, m, st, hE, hS, hp⟩ => hp σ H m (.refl H) (List.prefix_refl m) hS hE
theorem s_cont : PS X (.Continue pos) (rS X.K W (fun env st => .ct env st)) := ps_continue.imp fun D σ H ⟨env, m, st, hE, hS, hp⟩ => hp σ H m (.refl H) (List.prefix_refl m) hS hE
theorem s_brk : PS X (.Break pos) (rS X.K W (fun env st => .bk env st)) := ps_break.imp fun D σ H ⟨env, m, st, hE, hS, hp⟩ => hp σ H m (.refl H) (List.prefix_refl m) hS hE
theorem s_ret (ha : PE X a (rE X.K W ga)) : PS X (.Return (some a) pos) (rS X.K W (sRet ga)) := (ps_ret ha).imp fun D σ H ⟨env, m, st, hE, hS, hp⟩ =>
  ⟨env, m, st, hE, hS, PostS.bind hE hp fun d st1 v H1 m1 e1 p1 s1 r1 hp1 => hp1 v H1 m1 (.refl _) (List.prefix_refl _) s1 r1⟩
theorem s_retN : PS X (.Return none pos) (rS X.K W (fun _ st => .rt .non st)) := ps_retN.imp fun D σ H ⟨env, m, st, hE, hS, hp⟩ => hp .non H m (.refl _) (List.prefix_refl _) hS .non
theorem s_if {x y : List Stmt} (hc : PT X c (rT X.K W tc)) (h1 : PSs X x (rS X.K W s1)) (h2 : PSs X y (rS X.K W s2)) : PS X (.If c x y pos) (rS X.K W (sIf tc s1 s2)) := (ps_if hc h1 h2).imp fun D σ H ⟨env, m, st, hE, hS, hp⟩ => by
  refine ⟨env, m, st, hE, hS, PostS.bind hE hp fun k st1 k' H1 m1 e1 p1 s1 r1 hp1 => ?_⟩
  cases (show k = k' from r1)
  cases k with
  | true => exact iteT ⟨env, m1, st1, hE.mono e1 p1, s1, hp1⟩
  | false => exact iteF ⟨env, m1, st1, hE.mono e1 p1, s1, hp1⟩
theorem s_expr (ha : PE X a (rE X.K W ga)) (hs : swapsWith a none pos.line X.env = pure false := by rfl) : PS X (.Expr a pos) (rS X.K W (sExpr ga)) := (ps_expr ha hs).imp fun D σ H ⟨env, m, st, hE, hS, hp⟩ =>
  ⟨env, m, st, hE, hS, PostS.bind hE hp fun d st1 v H1 m1 e1 p1 s1 r1 hp1 => hp1 σ H1 m1 (.refl _) (List.prefix_refl _) s1 (hE.mono e1 p1)⟩
theorem s_doc {x j p} : PS X (.Expr (.Constant (.str x) j p) pos) (rS X.K W sSkip) := ps_doc.imp fun D σ H ⟨env, m, st, hE, hS, hp⟩ => hp σ H m (.refl H) (List.prefix_refl m) hS hE
theorem set_of {i : Nat} {D : Ends} {σ : L2.St} {H : Hp} (h : rS X.K W (sSet i ga) D σ H) : tAsg (rE X.K W ga) (gName i) D σ H := by
  obtain ⟨env, m, st, hE, hS, hp⟩ := h
  exact ⟨env, m, st, hE, hS, PostS.bind hE hp fun d st1 v H1 m1 e1 p1 s1 r1 hp1 => hp1 _ H1 m1 (.refl _) (List.prefix_refl _) s1 ((hE.mono e1 p1).set r1)⟩
theorem s_set (i : Nat) {x : Str} {p : Pos} (ha : PE X a (rE X.K W ga)) (hN : X.N.Nodup) (hi : X.N[i]? = some x := by rfl) (hx : Loc X.env.scope x := by first | exact Or.inl rfl | exact Or.inr rfl) (hs : swapsWith a (some (.Name x p)) pos.line X.env = pure false := by rfl)
    (hf : X.fn x = true ∨ X.env.scope.names.lookup x = some .local := by first | exact .inl rfl | exact .inr rfl | assumption) : PS X (.Assign [.Name x p] a pos) (rS X.K W (sSet i ga)) := (ps_set hN hi hx ha hs hf).imp fun D σ H h => set_of h

abbrev GM := D → Ev → Sto → Option (Ev × Sto)
abbrev GMs := List D → Ev → Sto → Option (Ev × Sto)
def PostG (K : PySem.W.Frag) (m : Pl) (H : Hp) (Q : L2.St → Hp → Prop) : Option (Ev × Sto) → Prop
  | some (env, st) => ∀ σ H' m', Ext H H' → m <+: m' → SR K H' m' st → RE K H' m' env σ → Q σ H'
  | none => False
theorem PostG.up {K : PySem.W.Frag} {m m' : Pl} {H H' : Hp} {Q : L2.St → Hp → Prop} {r : Option (Ev × Sto)} (h : PostG K m H Q r) (e : Ext H H') (p : m <+: m') : PostG K m' H' Q r := by
  cases r with
  | none => exact h
  | some q => exact fun σ H2 m2 e2 p2 => h σ H2 m2 (e.trans e2) (p.trans p2)
def rG (K : PySem.W.Frag) (g : GM) : TG := fun v σ H Q => ∃ d env m st, RV K H m d v ∧ RE K H m env σ ∧ SR K H m st ∧ PostG K m H Q (g d env st)
def rGs (K : PySem.W.Frag) (g : GMs) : TGs := fun vs σ H Q => ∃ ds env m st, RVs K H m ds vs ∧ RE K H m env σ ∧ SR K H m st ∧ PostG K m H Q (g ds env st)
theorem _root_.L2.PG.imp {X : Cx} {e : Expr} {t t' : TG} (h : PG X e t) (i : ∀ v σ H Q, t' v σ H Q → t v σ H Q) : PG X e t' := ⟨fun pins s σ H v u Q I r q => h.run pins s σ H v u Q I r (i _ _ _ _ q)⟩
theorem _root_.L2.PGs.imp {X : Cx} {e : List Expr} {t t' : TGs} (h : PGs X e t) (i : ∀ v σ H Q, t' v σ H Q → t v σ H Q) : PGs X e t' := ⟨fun pins s σ H v u Q I r q => h.run pins s σ H v u Q I r (i _ _ _ _ q)⟩
def gN (i : Nat) : GM := fun d env st => some (env.set i (some d), st)
def gsNil : GMs := fun ds env st => match ds with
  | [] => some (env, st)
  | _ => none
def gsCons (g : GM) (gs : GMs) : GMs := fun ds env st => match ds with
  | d :: ds => match g d env st with
    | some (env, st) => gs ds env st
    | none => none
  | [] => none
def gT (n : Nat) (g : GMs) : GM := fun d env st => match d with
  | .tup xs => if xs.length = n then g xs env st else none
  | _ => none
variable {g : GM} {gs : GMs} {ts : List Expr}
theorem g_name (i : Nat) {x : Str} (hN : X.N.Nodup) (hi : X.N[i]? = some x := by rfl) (hx : Loc X.env.scope x := by first | exact Or.inl rfl | exact Or.inr rfl) (hf : X.fn x = true ∨ X.env.scope.names.lookup x = some .local := by first | exact .inl rfl | exact .inr rfl | assumption) :
    PG X (.Name x pos) (rG X.K (gN i)) := (pg_name hN hi hx hf).imp fun v σ H Q ⟨d, env, m, st, r, hE, hS, hp⟩ => hp _ H m (.refl _) (List.prefix_refl _) hS (hE.set r)
theorem gs_nil : PGs X [] (rGs X.K gsNil) := pgs_nil.imp fun vs σ H Q ⟨ds, env, m, st, r, hE, hS, hp⟩ => by
  cases r with
  | nil => exact ⟨rfl, hp σ H m (.refl _) (List.prefix_refl _) hS hE⟩
  | cons _ _ => exact hp.elim
theorem gs_cons (h1 : PG X a (rG X.K g)) (h2 : PGs X ts (rGs X.K gs)) (hs : (assignEach (a :: ts) X.env).map (·.2) = assign a X.env :: (assignEach ts X.env).map (·.2) := by rfl) : PGs X (a :: ts) (rGs X.K (gsCons g gs)) :=
  (pgs_cons h1 h2 hs).imp fun vs σ H Q ⟨ds, env, m, st, r, hE, hS, hp⟩ => by
  cases r with
  | nil => exact hp.elim
  | @cons d ds v vs r rs =>
    refine ⟨v, vs, rfl, d, env, m, st, r, hE, hS, ?_⟩
    have hp' : PostG X.K m H Q (match g d env st with | some (env, st) => gs ds env st | none => none) := hp
    cases q : g d env st with
    | none => rw [q] at hp'; exact hp'
    | some z =>
      obtain ⟨env1, st1⟩ := z
      rw [q] at hp'
      exact fun σ1 H1 m1 e1 p1 s1 r1 => ⟨ds, env1, m1, st1, rs.mono e1 p1, r1, s1, PostG.up (r := gs ds env1 st1) hp' e1 p1⟩
theorem g_tup (n : Nat) {k : Nat} (hc : X.calm = true) (h : PGs X ts (rGs X.K gs)) (hn : (assignEach ts X.env).length = n := by rfl) (hst : (assignEach ts X.env).findIdx? (·.1) = none := by rfl) : PG X (.Tuple ts k pos) (rG X.K (gT n gs)) :=
  (pg_tup hc h hn hst).imp fun v σ H Q ⟨d, env, m, st, r, hE, hS, hp⟩ => by
  cases d with
  | tup xs =>
    cases r with
    | @tup _ a vs hq rs =>
      have hp' : PostG X.K m H Q (if xs.length = n then gs xs env st else none) := hp
      by_cases hl : xs.length = n
      · rw [if_pos hl] at hp'
        exact ⟨a, vs, rfl, hq, by rw [← rs.length]; exact hl, xs, env, m, st, rs, hE, hS, hp'⟩
      · rw [if_neg hl] at hp'
        exact hp'.elim
  | _ => exact hp.elim
def sAsg (ga : EM) (g : GM) : SM := fun env st => (ga env st).then env fun d st => match g d env st with
  | some (env, st) => .nx env st
  | none => .fail
theorem s_asg {tg : Expr} (ha : PE X a (rE X.K W ga)) (hg : PG X tg (rG X.K g)) (hs : swapsWithSole [tg] a pos.line X.env = pure false := by rfl) (hw : swappedStores [tg] a X.env = pure none := by rfl)
    (h1 : (assignEach [tg] X.env).map (·.2) = [assign tg X.env] := by rfl) : PS X (.Assign [tg] a pos) (rS X.K W (sAsg ga g)) := (ps_asg ha hg hs hw h1).imp fun D σ H ⟨env, m, st, hE, hS, hp⟩ => by
  refine ⟨env, m, st, hE, hS, PostS.bind hE hp fun d st1 v H1 m1 e1 p1 s1 r1 hp1 => ⟨d, env, m1, st1, r1, hE.mono e1 p1, s1, ?_⟩⟩
  cases q : g d env st1 with
  | none => rw [q] at hp1; exact hp1.elim
  | some z => obtain ⟨env2, st2⟩ := z; rw [q] at hp1; exact hp1
def sPar (i j : Nat) (ga gb : EM) : SM := fun env st => (ga env st).then env fun x st => (gb env st).then env fun y st => .nx ((env.set i (some x)).set j (some y)) st
theorem s_par (i j : Nat) {x y : Str} {px py pt : Pos} {kt k2 : Nat} {pt2 : Pos} (hc : X.calm = true) (hN : X.N.Nodup) (ha : PE X a (rE X.K W ga)) (hb : PE X b (rE X.K W gb)) (hij : i ≠ j := by decide) (hi : X.N[i]? = some x := by rfl) (hj : X.N[j]? = some y := by rfl)
    (hx : X.env.scope.names.lookup x = some .local := by rfl) (hy : X.env.scope.names.lookup y = some .local := by rfl)
    (hw : swappedStores [.Tuple [.Name x px, .Name y py] kt pt] (.Tuple [a, b] k2 pt2) X.env = pure (some [x, y]) := by rfl)
    (hs : swapsWithSole [.Tuple [.Name x px, .Name y py] kt pt] (.Tuple [a, b] k2 pt2) pos.line X.env = pure false := by rfl)
    (h1 : starEach [a, b] X.env = (false, eval a X.env) :: starEach [b] X.env := by rfl) (h2 : starEach [b] X.env = (false, eval b X.env) :: starEach [] X.env := by rfl) :
    PS X (.Assign [.Tuple [.Name x px, .Name y py] kt pt] (.Tuple [a, b] k2 pt2) pos) (rS X.K W (sPar i j ga gb)) := (ps_par hc hN hi hj hij hx hy (pa_cons ha (pa_cons hb pa_nil h2) h1) hw hs).imp fun D σ H ⟨env, m, st, hE, hS, hp⟩ => by
  refine ⟨env, m, st, hE, hS, PostS.bind hE hp fun d st1 v H1 m1 e1 p1 s1 r1 hp1 => ⟨env, m1, st1, hE.mono e1 p1, s1, PostS.bind (hE.mono e1 p1) hp1 fun d2 st2 v2 H2 m2 e2 p2 s2 r2 hp2 => ⟨v, v2, rfl, ?_⟩⟩⟩
  exact hp2 _ H2 m2 (.refl _) (List.prefix_refl _) s2 ((((hE.mono e1 p1).mono e2 p2).set (r1.mono e2 p2)).set r2)
end
end U
set_option Elab.async false
set_option linter.all false
set_option maxRecDepth 100000
set_option maxHeartbeats 4000000
namespace U
open PySem PySem.Spec PyProof.Rows L2

def lstOf (st : Sto) (n : Nat) : Option (List D) := match st[n]? with
  | some (.lst xs) => some xs
  | some (.rol xs) => some xs
  | some (.kst xs) => some xs
  | _ => none
def pairD (x y : D) : D := .tup [x, y]
def enumFrom (k : Nat) : List D → List D
  | [] => []
  | x :: xs => .tup [.int (k : Int), x] :: enumFrom (k + 1) xs
inductive Src where
  | fix (xs : List D)
  | dyn (n : Nat)
  | zipL (a b : Nat)
  | enumL (a : Nat)
def Src.at (s : Src) (st : Sto) : Option (List D) := match s with
  | .fix xs => some xs
  | .dyn n => lstOf st n
  | .zipL a b => match lstOf st a, lstOf st b with
    | some xs, some ys => some (List.zipWith pairD xs ys)
    | _, _ => none
  | .enumL a => (lstOf st a).map (enumFrom 0)
def okI (K : PySem.W.Frag) : Hp → Pl → Src → It → Prop := fun H0 m0 s J => ∀ (i : Nat) (H : Hp) (m : Pl) (st : Sto) (xs : List D), Ext H0 H → m0 <+: m → SR K H m st → s.at st = some xs →
  (xs[i]? = none → J.stop i H) ∧ ∀ d, xs[i]? = some d → J.go i H ∧ ∀ x H', J.yld i H x H' → Ext H H' ∧ SR K H' m st ∧ RV K H' m d x
abbrev IM := Ev → Sto → R Src
def rI (K : PySem.W.Frag) (W : WX) (g : IM) : TI := fun σ H Rr => ∃ env m st, RE K H m env σ ∧ SR K H m st ∧ Post K (okI K) (WE W σ) m H Rr (g env st)
theorem _root_.L2.PI.imp {X : Cx} {tg e : Expr} {t t' : TI} (h : PI X tg e t) (i : ∀ σ H R, t' σ H R → t σ H R) : PI X tg e t' := ⟨fun pins s σ H R I q => h.run pins s σ H R I (i _ _ _ q)⟩
theorem _root_.L2.PI.or {X : Cx} {tg e : Expr} {t t' : TI} (h : PI X tg e t) (h' : PI X tg e t') : PI X tg e (fun σ H R => t σ H R ∨ t' σ H R) := ⟨fun pins s σ H R I q => q.elim (h.run pins s σ H R I) (h'.run pins s σ H R I)⟩
section
variable {X : Cx} {W : WX} {a b c tg : Expr} {ga gb gc : EM} {es : List Expr} {gs : AM} {pos : Pos}
theorem SR.sqL {K : PySem.W.Frag} {H : Hp} {m : Pl} {st : Sto} (s : SR K H m st) {n : Nat} {p : Addr} {xs : List D} (hp : m[n]? = some p) (h : lstOf st n = some xs) : ∃ vs, SqL K H p vs ∧ RVs K H m xs vs := by
  unfold lstOf at h
  split at h
  · rename_i ys e
    cases h
    obtain ⟨vs, h1, r⟩ := s.ob n p _ hp e
    exact ⟨vs, .of h1, r⟩
  · rename_i ys e
    cases h
    obtain ⟨o, vs, h1, r⟩ := s.ob n p _ hp e
    exact ⟨vs, .inl (.inr ⟨o, h1⟩), r⟩
  · rename_i ys e
    cases h
    obtain ⟨vs, h1, r⟩ := s.ob n p _ hp e
    exact ⟨vs, h1 H, r⟩
  · cases h
theorem none_len {α β : Type} {xs : List α} {ys : List β} (h : xs.length = ys.length) {i : Nat} (e : xs[i]? = none) : ys.length ≤ i := by
  have := List.getElem?_eq_none_iff.mp e
  omega
theorem okI_tup {K : PySem.W.Frag} {H0 : Hp} {m0 : Pl} {p : Addr} {xs : List D} {vs : List V} (hq : SqT K H0 p vs) (r : RVs K H0 m0 xs vs) : okI K H0 m0 (.fix xs) (Itt K p) := fun i H m st ys e p s h => by
  cases (show some xs = some ys from h)
  have hq' := e.sqT hq
  have r' := r.mono e p
  refine ⟨fun h1 => ⟨vs, hq', none_len r.length h1⟩, fun d hd => ?_⟩
  obtain ⟨v, hv, rv⟩ := r'.get hd
  refine ⟨⟨vs, v, hq', hv⟩, fun x H' y => ?_⟩
  obtain ⟨rfl, hy⟩ := y
  have := hy vs hq'
  rw [hv] at this
  cases this
  exact ⟨.refl _, s, rv⟩
theorem okI_dyn {K : PySem.W.Frag} {H0 : Hp} {m0 : Pl} {p : Addr} {n : Nat} (hp : m0[n]? = some p) : okI K H0 m0 (.dyn n) (Itl K p) := fun i H m st xs e pr s h => by
  obtain ⟨vs, hq, r⟩ := s.sqL (pre_get pr hp) h
  refine ⟨fun h1 => ⟨vs, hq, none_len r.length h1⟩, fun d hd => ?_⟩
  obtain ⟨v, hv, rv⟩ := r.get hd
  refine ⟨⟨vs, v, hq, hv⟩, fun x H' y => ?_⟩
  obtain ⟨rfl, hy⟩ := y
  have := hy vs hq
  rw [hv] at this
  cases this
  exact ⟨.refl _, s, rv⟩
def rngL (lo : Int) (n : Nat) : List D := (List.range n).map fun (i : Nat) => D.int (lo + (i : Int))
theorem okI_rng {K : PySem.W.Frag} {H0 : Hp} {m0 : Pl} {lo : Int} {n : Nat} : okI K H0 m0 (.fix (rngL lo n)) (Itr lo n) := fun i H m st xs e pr s h => by
  cases (show some (rngL lo n) = some xs from h)
  refine ⟨fun h1 => ?_, fun d hd => ?_⟩
  · have := List.getElem?_eq_none_iff.mp h1
    show n ≤ i
    simpa [rngL] using this
  · unfold rngL at hd
    rw [List.getElem?_map] at hd
    obtain ⟨k, hk, rfl⟩ := Option.map_eq_some_iff.mp hd
    obtain ⟨hl, e2⟩ := List.getElem?_eq_some_iff.mp hk
    simp at hl e2
    subst e2
    refine ⟨hl, fun x H' y => ?_⟩
    obtain ⟨rfl, rfl⟩ := y
    exact ⟨.refl _, s, .int⟩
theorem zip_get {xs ys : List D} {i : Nat} {d : D} (h : (List.zipWith pairD xs ys)[i]? = some d) : ∃ x y, xs[i]? = some x ∧ ys[i]? = some y ∧ d = .tup [x, y] := by
  rw [List.getElem?_zipWith_eq_some] at h
  obtain ⟨x, y, h1, h2, h3⟩ := h
  exact ⟨x, y, h1, h2, h3.symm⟩
theorem zip_none {xs ys : List D} {i : Nat} (h : (List.zipWith pairD xs ys)[i]? = none) : xs.length ≤ i ∨ ys.length ≤ i := by
  have := List.getElem?_eq_none_iff.mp h
  rw [List.length_zipWith] at this
  omega
theorem new_pair {K : PySem.W.Frag} {H : Hp} {m : Pl} {st : Sto} (s : SR K H m st) {T : Addr} (nT : H T = none) {x y : D} {vx vy : V} (rx : RV K H m x vx) (ry : RV K H m y vy) :
    Ext H (upd H T (.tup [vx, vy])) ∧ SR K (upd H T (.tup [vx, vy])) m st ∧ RV K (upd H T (.tup [vx, vy])) m (.tup [x, y]) (.ref T) :=
  ⟨.new nT, s.tup nT, .tup (.of upd_same) (.cons (rx.mono (.new nT) (List.prefix_refl m)) (.cons (ry.mono (.new nT) (List.prefix_refl m)) .nil))⟩
theorem okI_zipT {K : PySem.W.Frag} {H0 : Hp} {m0 : Pl} {p q : Addr} {xs ys : List D} {vs ws : List V} (h1 : SqT K H0 p vs) (r1 : RVs K H0 m0 xs vs) (h2 : SqT K H0 q ws) (r2 : RVs K H0 m0 ys ws) :
    okI K H0 m0 (.fix (List.zipWith pairD xs ys)) (RZ.ItzT K p q) := fun i H m st zs e pr s h => by
  cases (show some (List.zipWith pairD xs ys) = some zs from h)
  have h1' := e.sqT h1
  have h2' := e.sqT h2
  refine ⟨fun hn => ⟨vs, ws, h1', h2', ?_⟩, fun d hd => ?_⟩
  · rw [← r1.length, ← r2.length]; exact zip_none hn
  · obtain ⟨x, y, e1, e2, rfl⟩ := zip_get hd
    obtain ⟨v, hv, rv⟩ := (r1.mono e pr).get e1
    obtain ⟨w, hw, rw'⟩ := (r2.mono e pr).get e2
    refine ⟨⟨vs, ws, v, w, h1', h2', hv, hw⟩, fun z H' yl => ?_⟩
    obtain ⟨T, x', y', rfl, nT, rfl, f1, f2⟩ := yl
    have a1 := f1 vs h1'
    have a2 := f2 ws h2'
    rw [hv] at a1
    rw [hw] at a2
    cases a1
    cases a2
    exact new_pair s nT rv rw'
theorem okI_zipL {K : PySem.W.Frag} {H0 : Hp} {m0 : Pl} {p q : Addr} {n k : Nat} (h1 : m0[n]? = some p) (h2 : m0[k]? = some q) : okI K H0 m0 (.zipL n k) (Itz K p q) := fun i H m st zs e pr s h => by
  have h' : (match lstOf st n, lstOf st k with | some xs, some ys => some (List.zipWith pairD xs ys) | _, _ => none) = some zs := h
  cases g1 : lstOf st n with
  | none => rw [g1] at h'; cases h'
  | some xs =>
    cases g2 : lstOf st k with
    | none => rw [g1, g2] at h'; cases h'
    | some ys =>
      rw [g1, g2] at h'
      cases h'
      obtain ⟨vs, hq1, r1⟩ := s.sqL (pre_get pr h1) g1
      obtain ⟨ws, hq2, r2⟩ := s.sqL (pre_get pr h2) g2
      refine ⟨fun hn => ⟨vs, ws, hq1, hq2, ?_⟩, fun d hd => ?_⟩
      · rw [← r1.length, ← r2.length]; exact zip_none hn
      · obtain ⟨x, y, e1, e2, rfl⟩ := zip_get hd
        obtain ⟨v, hv, rv⟩ := r1.get e1
        obtain ⟨w, hw, rw'⟩ := r2.get e2
        refine ⟨⟨vs, ws, v, w, hq1, hq2, hv, hw⟩, fun z H' yl => ?_⟩
        obtain ⟨T, x', y', rfl, nT, rfl, f1, f2⟩ := yl
        have a1 := f1 vs hq1
        have a2 := f2 ws hq2
        rw [hv] at a1
        rw [hw] at a2
        cases a1
        cases a2
        exact new_pair s nT rv rw'
def seqSrc (d : D) (st : Sto) : R Src := match d with
  | .tup xs => .ok (.fix xs) st
  | .ref n => match lstOf st n with
    | some _ => .ok (.dyn n) st
    | none => .fail
  | _ => .fail
theorem i_seq (ha : PE X a (rE X.K W ga)) : PI X tg a (rI X.K W (fun env st => (ga env st).bind seqSrc)) := ((pi_tup (tg := tg) ha).or (pi_list ha)).imp fun σ H Rr ⟨env, m, st, hE, hS, hp0⟩ => by
  have hp : Post X.K (okI X.K) (WE W σ) m H Rr ((ga env st).bind seqSrc) := hp0
  cases q : ga env st with
  | fail => rw [q] at hp; exact hp.elim
  | err cc fs st' => rw [q] at hp; exact .inl ⟨env, m, st, hE, hS, by rw [q]; exact hp⟩
  | ok d st' =>
    rw [q] at hp
    cases d with
    | tup xs =>
      refine .inl ⟨env, m, st, hE, hS, ?_⟩
      rw [q]
      intro v H1 m1 e1 p1 s1 r1
      cases r1 with
      | @tup _ p vs hq rs => exact ⟨p, rfl, ⟨vs, hq⟩, hp _ H1 m1 e1 p1 s1 (okI_tup hq rs)⟩
    | ref n =>
      refine .inr ⟨env, m, st, hE, hS, ?_⟩
      rw [q]
      intro v H1 m1 e1 p1 s1 r1
      cases r1 with
      | @ref _ p hn =>
        have hp' : Post X.K (okI X.K) (WE W σ) m H Rr (match lstOf st' n with | some _ => .ok (.dyn n) st' | none => .fail) := hp
        cases g : lstOf st' n with
        | none => rw [g] at hp'; exact hp'.elim
        | some xs =>
          rw [g] at hp'
          obtain ⟨vs, hq, _⟩ := s1.sqL hn g
          exact ⟨p, rfl, ⟨vs, hq⟩, hp' _ H1 m1 e1 p1 s1 (okI_dyn hn)⟩
    | _ => exact hp.elim
def rngSrc (d : D) (st : Sto) : R Src := match d with
  | .int j => if -(2 ^ 62) ≤ j ∧ j < 2 ^ 62 then .ok (.fix (rngL 0 j.toNat)) st else .fail
  | _ => .fail
def rngSrc2 (d e : D) (st : Sto) : R Src := match d, e with
  | .int i, .int j => if (-(2 ^ 62) ≤ i ∧ i < 2 ^ 62) ∧ -(2 ^ 62) ≤ j ∧ j < 2 ^ 62 then .ok (.fix (rngL i (j - i).toNat)) st else .fail
  | _, _ => .fail
def iSeq (g : EM) : IM := fun env st => (g env st).bind seqSrc
def iRng (g : EM) : IM := fun env st => (g env st).bind rngSrc
def iBin (f : D → D → Sto → R Src) (a b : EM) : IM := fun env st => (a env st).bind fun x st => (b env st).bind fun y st => f x y st
theorem args2 {σ : L2.St} {H : Hp} {Rr : It → Hp → Prop} {f : D → D → Sto → R Src} {Q : List V → Hp → Prop} (h : rI X.K W (iBin f ga gb) σ H Rr)
    (k : ∀ dx dy x y st H' m', SR X.K H' m' st → RV X.K H' m' dx x → RV X.K H' m' dy y → Post X.K (okI X.K) (WE W σ) m' H' Rr (f dx dy st) → Q [x, y] H') : rA X.K W (aCons ga (aCons gb aNil)) σ H Q := by
  obtain ⟨env, m, st, hE, hS, hp⟩ := h
  have hp' : Post X.K (okI X.K) (WE W σ) m H Rr ((ga env st).bind fun x st => (gb env st).bind fun y st => f x y st) := hp
  refine ⟨env, m, st, hE, hS, ?_⟩
  show Post X.K (okA X.K) (WE W σ) m H Q ((ga env st).bind fun x st => (((gb env st).bind fun y st => (R.ok ([] : List D) st).bind fun ys st => .ok (y :: ys) st)).bind fun xs st => .ok (x :: xs) st)
  cases q : ga env st with
  | fail => rw [q] at hp'; exact hp'
  | err c fs st1 => rw [q] at hp'; exact hp'
  | ok x st1 =>
    rw [q] at hp'
    have hp2 : Post X.K (okI X.K) (WE W σ) m H Rr ((gb env st1).bind fun y st => f x y st) := hp'
    show Post X.K (okA X.K) (WE W σ) m H Q (((gb env st1).bind fun y st => (R.ok ([] : List D) st).bind fun ys st => .ok (y :: ys) st).bind fun xs st => .ok (x :: xs) st)
    cases q2 : gb env st1 with
    | fail => rw [q2] at hp2; exact hp2
    | err c fs st2 => rw [q2] at hp2; exact hp2
    | ok y st2 =>
      rw [q2] at hp2
      intro vs H1 m1 e1 p1 s1 r1
      cases r1 with
      | cons rx rs =>
        cases rs with
        | cons ry rs2 =>
          cases rs2
          exact k x y _ _ st2 H1 m1 s1 rx ry (Post.up (r := f x y st2) hp2 e1 p1)
theorem i_rng1 {p : Pos} (hm : X.mg "range" = none) (ha : PE X a (rE X.K W ga)) (hg : Gl X "range" := by rfl) (hs : starEach [a] X.env = [(false, eval a X.env)] := by rfl) (hs2 : starEach [a] X.env = (false, eval a X.env) :: starEach [] X.env := by rfl) :
    PI X tg (.Call (.Name "range" p) [a] [] pos) (rI X.K W (iRng ga)) := (pi_range1 (tg := tg) hg hm (pa_cons ha pa_nil hs2) hs).imp fun σ H Rr ⟨env, m, st, hE, hS, hp⟩ => by
  refine ⟨env, m, st, hE, hS, hp.bind fun d st1 v H1 m1 e1 p1 s1 r1 hp1 => ?_⟩
  cases d with
  | int j =>
    cases r1
    by_cases hj : -(2 ^ 62) ≤ j ∧ j < 2 ^ 62
    · have hp2 : Post X.K (okI X.K) (WE W σ) m1 H1 Rr (if -(2 ^ 62) ≤ j ∧ j < 2 ^ 62 then .ok (.fix (rngL 0 j.toNat)) st1 else .fail) := hp1
      rw [if_pos hj] at hp2
      exact ⟨j, rfl, hj.1, hj.2, Post.here (v := Itr 0 j.toNat) hp2 s1 okI_rng⟩
    · have hp2 : Post X.K (okI X.K) (WE W σ) m1 H1 Rr (if -(2 ^ 62) ≤ j ∧ j < 2 ^ 62 then .ok (.fix (rngL 0 j.toNat)) st1 else .fail) := hp1
      rw [if_neg hj] at hp2
      exact hp2.elim
  | _ => exact hp1.elim
theorem i_rng2 {p : Pos} (hm : X.mg "range" = none) (ha : PE X a (rE X.K W ga)) (hb : PE X b (rE X.K W gb)) (hg : Gl X "range" := by rfl) (hs : starEach [a, b] X.env = [(false, eval a X.env), (false, eval b X.env)] := by rfl) (hs2 : starEach [b] X.env = [(false, eval b X.env)] := by rfl)
    (h1 : starEach [a, b] X.env = (false, eval a X.env) :: starEach [b] X.env := by rfl) (h2 : starEach [b] X.env = (false, eval b X.env) :: starEach [] X.env := by rfl) :
    PI X tg (.Call (.Name "range" p) [a, b] [] pos) (rI X.K W (iBin rngSrc2 ga gb)) := (pi_range2 (tg := tg) hg hm (a_cons ha (a_cons hb a_nil h2) h1) hs hs2).imp fun σ H Rr h => by
  refine args2 h fun dx dy x y st1 H1 m1 s1 rx ry hp1 => ?_
  cases dx with
  | int i =>
    cases dy with
    | int j =>
      cases rx
      cases ry
      have hp2 : Post X.K (okI X.K) (WE W σ) m1 H1 Rr (if (-(2 ^ 62) ≤ i ∧ i < 2 ^ 62) ∧ -(2 ^ 62) ≤ j ∧ j < 2 ^ 62 then .ok (.fix (rngL i (j - i).toNat)) st1 else .fail) := hp1
      by_cases hj : (-(2 ^ 62) ≤ i ∧ i < 2 ^ 62) ∧ -(2 ^ 62) ≤ j ∧ j < 2 ^ 62
      · rw [if_pos hj] at hp2
        exact ⟨i, j, rfl, ⟨hj.1.1, hj.1.2, hj.2.1, hj.2.2⟩, Post.here (v := Itr i (j - i).toNat) hp2 s1 okI_rng⟩
      · rw [if_neg hj] at hp2
        exact hp2.elim
    | _ => exact hp1.elim
  | _ => exact hp1.elim
def zipSrc (d e : D) (st : Sto) : R Src := match d, e with
  | .tup xs, .tup ys => .ok (.fix (List.zipWith pairD xs ys)) st
  | .ref i, .ref j => match lstOf st i, lstOf st j with
    | some _, some _ => .ok (.zipL i j) st
    | _, _ => .fail
  | _, _ => .fail
theorem i_zip {p tpos : Pos} {elts : List Expr} {kk : Nat} (hm : X.mg "zip" = none) (ha : PE X a (rE X.K W ga)) (hb : PE X b (rE X.K W gb)) (hg : Gl X "zip" := by rfl)
    (h1 : starEach [a, b] X.env = (false, eval a X.env) :: starEach [b] X.env := by rfl) (h2 : starEach [b] X.env = (false, eval b X.env) :: starEach [] X.env := by rfl) (hpl : (backTo pos (starEach [b] X.env)).any (·.1) = false := by rfl) :
    PI X (.Tuple elts kk tpos) (.Call (.Name "zip" p) [a, b] [] pos) (rI X.K W (iBin zipSrc ga gb)) := (RZ.pi_zipA hg hm (a_cons ha (a_cons hb a_nil h2) h1) h1 hpl).imp fun σ H Rr h => by
  refine args2 h fun dx dy x y st1 H1 m1 s1 rx ry hp1 => ?_
  cases dx with
  | tup xs =>
    cases dy with
    | tup ys =>
      cases rx with
      | @tup _ p vs q1 r1 =>
        cases ry with
        | @tup _ q ws q2 r2 => exact ⟨p, q, vs, ws, rfl, .inr ⟨q1, q2, Post.here (v := RZ.ItzT X.K p q) hp1 s1 (okI_zipT q1 r1 q2 r2)⟩⟩
    | _ => exact hp1.elim
  | ref i =>
    cases dy with
    | ref j =>
      cases rx with
      | @ref _ p q1 =>
        cases ry with
        | @ref _ q q2 =>
          have hp2 : Post X.K (okI X.K) (WE W σ) m1 H1 Rr (match lstOf st1 i, lstOf st1 j with | some _, some _ => .ok (.zipL i j) st1 | _, _ => .fail) := hp1
          cases g1 : lstOf st1 i with
          | none => rw [g1] at hp2; exact hp2.elim
          | some xs =>
            cases g2 : lstOf st1 j with
            | none => rw [g1, g2] at hp2; exact hp2.elim
            | some ys =>
              rw [g1, g2] at hp2
              obtain ⟨vs, h1, _⟩ := s1.sqL q1 g1
              obtain ⟨ws, h2, _⟩ := s1.sqL q2 g2
              exact ⟨p, q, vs, ws, rfl, .inl ⟨h1, h2, Post.here (v := Itz X.K p q) hp2 s1 (okI_zipL q1 q2)⟩⟩
    | _ => exact hp1.elim
  | _ => exact hp1.elim
end
end U
set_option Elab.async false
set_option linter.all false
set_option maxRecDepth 100000
set_option maxHeartbeats 4000000
namespace U
open PySem PySem.Spec PyProof.Rows L2

def runFor (s : Src) (g : GM) (body : SM) : Nat → Nat → SM
  | 0, _ => fun _ _ => .fail
  | f + 1, i => fun env st => match s.at st with
    | none => .fail
    | some xs => match xs[i]? with
      | none => .nx env st
      | some d => match g d env st with
        | none => .fail
        | some (env1, st1) => match body env1 st1 with
          | .nx env2 st2 => runFor s g body f (i + 1) env2 st2
          | .ct env2 st2 => runFor s g body f (i + 1) env2 st2
          | .bk env2 st2 => .nx env2 st2
          | r => r
def startFor (g : GM) (body : SM) (env : Ev) (s : Src) (st : Sto) : RS := match s.at st with
  | none => .fail
  | some xs => runFor s g body (xs.length + 1) 0 env st
def sFor (src : IM) (g : GM) (body : SM) : SM := fun env st => (src env st).then env (startFor g body env)
section
variable {X : Cx} {W : WX} {tg iter c : Expr} {src : IM} {g : GM} {body : List Stmt} {gb : SM} {tc : TM} {pos : Pos}
theorem for_word {K : PySem.W.Frag} {D : Ends} {s : Src} {J : It} {H0 : Hp} {m0 : Pl} (hJ : okI K H0 m0 s J) {i f : Nat} {env : Ev} {m : Pl} {st : Sto} {σ : L2.St} {H : Hp} (e : Ext H0 H) (p : m0 <+: m) (hE : RE K H m env σ) (hS : SR K H m st)
    (hp : PostS K W m H D (runFor s g gb f i env st)) :
    (J.stop i H ∧ D.nx σ H) ∨ (J.go i H ∧ ∃ N : L2.St → Hp → Prop, (∀ σ' H', N σ' H' → ∃ f', f' < f ∧ ∃ env m st, Ext H0 H' ∧ m0 <+: m ∧ RE K H' m env σ' ∧ SR K H' m st ∧ PostS K W m H' D (runFor s g gb f' (i + 1) env st)) ∧
      ∀ x H', J.yld i H x H' → rG K g x σ H' fun σ2 H2 => rS K W gb { D with nx := N, ct := N, bk := D.nx } σ2 H2) := by
  cases f with
  | zero => exact hp.elim
  | succ f =>
    unfold runFor at hp
    cases q : s.at st with
    | none => rw [q] at hp; exact hp.elim
    | some xs =>
      rw [q] at hp
      obtain ⟨j1, j2⟩ := hJ i H m st xs e p hS q
      cases q2 : xs[i]? with
      | none =>
        simp only [q2] at hp
        exact .inl ⟨j1 q2, hp σ H m (.refl _) (List.prefix_refl _) hS hE⟩
      | some d =>
        simp only [q2] at hp
        obtain ⟨j3, j4⟩ := j2 d q2
        refine .inr ⟨j3, fun σ' H' => ∃ env m st, Ext H0 H' ∧ m0 <+: m ∧ RE K H' m env σ' ∧ SR K H' m st ∧ PostS K W m H' D (runFor s g gb f (i + 1) env st), fun σ' H' h => ⟨f, Nat.lt_succ_self f, h⟩, fun x H' y => ?_⟩
        obtain ⟨e1, s1, r1⟩ := j4 x H' y
        refine ⟨d, env, m, st, r1, hE.mono e1 (List.prefix_refl _), s1, ?_⟩
        cases q3 : g d env st with
        | none => simp only [q3] at hp; exact hp.elim
        | some z =>
          obtain ⟨env1, st1⟩ := z
          simp only [q3] at hp
          intro σ2 H2 m2 e2 p2 s2 r2
          refine ⟨env1, m2, st1, r2, s2, ?_⟩
          have up : ∀ {r : RS}, PostS K W m H D r → PostS K W m2 H2 D r := fun h => h.up (e1.trans e2) p2
          cases q4 : gb env1 st1 with
          | nx env2 st2 =>
            simp only [q4] at hp
            exact fun σ3 H3 m3 e3 p3 s3 r3 => ⟨env2, m3, st2, ((e.trans e1).trans e2).trans e3, (p.trans p2).trans p3, r3, s3, (up hp).up e3 p3⟩
          | ct env2 st2 =>
            simp only [q4] at hp
            exact fun σ3 H3 m3 e3 p3 s3 r3 => ⟨env2, m3, st2, ((e.trans e1).trans e2).trans e3, (p.trans p2).trans p3, r3, s3, (up hp).up e3 p3⟩
          | bk env2 st2 => simp only [q4] at hp; exact up hp
          | rt d2 st2 => simp only [q4] at hp; exact up hp
          | err cc fs env2 st2 => simp only [q4] at hp; exact up hp
          | fail => simp only [q4] at hp; exact hp
theorem s_for (hpass : PassesOwn (model X.prog X.w) X.A X.env X.xe) (hc : X.calm = true) (hi : PI X tg iter (rI X.K W src)) (hg : PG X tg (rG X.K g)) (hb : PSs X body (rS X.K W gb)) (hs : ∀ x, foldedSetIterable iter X.env x = pure x := by intro _; rfl) :
    PS X (.For tg iter body [] pos) (rS X.K W (sFor src g gb)) := (ps_for hpass hc hi hg hb hs).imp fun D σ H ⟨env, m, st, hE, hS, hp⟩ => by
  refine ⟨env, m, st, hE, hS, PostS.bind hE hp fun s st1 J H1 m1 e1 p1 s1 hJ hp1 => ?_⟩
  unfold startFor at hp1
  cases q : s.at st1 with
  | none => rw [q] at hp1; exact hp1.elim
  | some xs =>
    rw [q] at hp1
    refine ⟨fun i f σ H => ∃ env m st, Ext H1 H ∧ m1 <+: m ∧ RE X.K H m env σ ∧ SR X.K H m st ∧ PostS X.K W m H D (runFor s g gb f i env st), ⟨_, env, m1, st1, .refl _, List.prefix_refl _, hE.mono e1 p1, s1, hp1⟩, ?_⟩
    rintro i f σ2 H2 ⟨env2, m2, st2, e2, p2, r2, s2, hp2⟩
    exact for_word hJ e2 p2 r2 s2 hp2
def runWhile (t : TM) (body : SM) : Nat → SM
  | 0 => fun _ _ => .fail
  | f + 1 => fun env st => (t env st).then env fun c st => if c = true then (match body env st with
    | .nx env2 st2 => runWhile t body f env2 st2
    | .ct env2 st2 => runWhile t body f env2 st2
    | .bk env2 st2 => .nx env2 st2
    | r => r) else .nx env st
theorem s_while (f : Nat) (hpass : PassesOwn (model X.prog X.w) X.A X.env X.xe) (hc : PT X c (rT X.K W tc)) (hb : PSs X body (rS X.K W gb)) : PS X (.While c body [] pos) (rS X.K W (runWhile tc gb f)) := (ps_while hpass hc hb).imp fun D σ H h => by
  refine ⟨fun f σ H => rS X.K W (runWhile tc gb f) D σ H, ⟨f, h⟩, ?_⟩
  rintro f σ H ⟨env, m, st, hE, hS, hp⟩
  cases f with
  | zero => exact hp.elim
  | succ f =>
    refine ⟨env, m, st, hE, hS, PostS.bind hE hp fun k st1 k' H1 m1 e1 p1 s1 r1 hp1 => ?_⟩
    cases (show k = k' from r1)
    cases k with
    | false =>
      refine iteF ?_
      exact hp1 σ H1 m1 (.refl _) (List.prefix_refl _) s1 (hE.mono e1 p1)
    | true =>
      refine iteT ⟨fun σ' H' => rS X.K W (runWhile tc gb f) D σ' H', fun σ' H' h => ⟨f, Nat.lt_succ_self f, h⟩, env, m1, st1, hE.mono e1 p1, s1, ?_⟩
      have hp2 : PostS X.K W m1 H1 D (match gb env st1 with | .nx env2 st2 => runWhile tc gb f env2 st2 | .ct env2 st2 => runWhile tc gb f env2 st2 | .bk env2 st2 => .nx env2 st2 | r => r) := hp1
      cases q4 : gb env st1 with
      | nx env2 st2 => simp only [q4] at hp2; exact fun σ3 H3 m3 e3 p3 s3 r3 => ⟨env2, m3, st2, r3, s3, hp2.up e3 p3⟩
      | ct env2 st2 => simp only [q4] at hp2; exact fun σ3 H3 m3 e3 p3 s3 r3 => ⟨env2, m3, st2, r3, s3, hp2.up e3 p3⟩
      | bk env2 st2 => simp only [q4] at hp2; exact hp2
      | rt d2 st2 => simp only [q4] at hp2; exact hp2
      | err cc fs env2 st2 => simp only [q4] at hp2; exact hp2
      | fail => simp only [q4] at hp2; exact hp2
end

def wipeE (env : Ev) : List Nat → Ev
  | [] => env
  | v :: vs => (wipeE env vs).set v none
theorem RE.wipe {K : PySem.W.Frag} {H : Hp} {m : Pl} {env : Ev} {σ : L2.St} (r : RE K H m env σ) : ∀ vs : List Nat, RE K H m (wipeE env vs) (L2.wipe σ vs)
  | [] => r
  | v :: vs => (RE.wipe r vs).forget
theorem wipe_set {σ : L2.St} {i : Nat} {x : Option V} : ∀ {vs : List Nat}, i ∈ vs → L2.wipe (σ.set i x) vs = L2.wipe σ vs
  | v :: vs, h => by
    unfold L2.wipe
    by_cases hi : i ∈ vs
    · rw [wipe_set hi]
    · have e : i = v := by
        rcases List.mem_cons.mp h with z | z
        · exact z
        · exact absurd z hi
      subst e
      have key : ∀ ws : List Nat, (L2.wipe (σ.set i x) ws).set i none = (L2.wipe σ ws).set i none := by
        intro ws
        induction ws with
        | nil => exact List.set_set ..
        | cons w ws ih =>
          unfold L2.wipe
          by_cases hw : w = i
          · subst hw; rw [ih]
          · rw [List.set_comm _ _ hw, ih, List.set_comm _ _ (Ne.symm hw)]
      exact key vs
def GOk (K : PySem.W.Frag) (vs : List Nat) (t : TG) (g : GM) : Prop :=
  ∀ (d : D) (v : V) (env env' : Ev) (σ : L2.St) (m : Pl) (H : Hp) (st st' : Sto) (Q : L2.St → Hp → Prop), RV K H m d v → RE K H m env σ → g d env st = some (env', st') → (st' = st → ∀ σ', L2.wipe σ' vs = L2.wipe σ vs → RE K H m env' σ' → Q σ' H) → t v σ H Q
def GsOk (K : PySem.W.Frag) (vs : List Nat) (t : TGs) (g : GMs) : Prop :=
  ∀ (d : List D) (v : List V) (env env' : Ev) (σ : L2.St) (m : Pl) (H : Hp) (st st' : Sto) (Q : L2.St → Hp → Prop), RVs K H m d v → RE K H m env σ → g d env st = some (env', st') → (st' = st → ∀ σ', L2.wipe σ' vs = L2.wipe σ vs → RE K H m env' σ' → Q σ' H) → t v σ H Q
section
variable {K : PySem.W.Frag} {vs : List Nat} {t : TG} {ts : TGs} {g : GM} {gs : GMs}
theorem go_name (i : Nat) (hi : i ∈ vs := by decide) : GOk K vs (gName i) (gN i) := fun d v env env' σ m H st st' Q r hE h k => by
  cases (show some (env.set i (some d), st) = some (env', st') from h)
  exact k rfl _ (wipe_set hi) (hE.set r)
theorem gos_nil : GsOk K vs gNil gsNil := fun d v env env' σ m H st st' Q r hE h k => by
  cases r with
  | nil => cases (show some (env, st) = some (env', st') from h); exact ⟨rfl, k rfl σ rfl hE⟩
  | cons _ _ => cases h
theorem gos_cons (h1 : GOk K vs t g) (h2 : GsOk K vs ts gs) : GsOk K vs (gCons t ts) (gsCons g gs) := fun d v env env' σ m H st st' Q r hE h k => by
  cases r with
  | nil => cases h
  | @cons x xs w ws r rs =>
    have h' : (match g x env st with | some (env, st) => gs xs env st | none => none) = some (env', st') := h
    cases q : g x env st with
    | none => rw [q] at h'; cases h'
    | some z =>
      obtain ⟨env1, st1⟩ := z
      rw [q] at h'
      refine ⟨w, ws, rfl, h1 x w env env1 σ m H st st1 _ r hE q fun e1 σ1 w1 r1 => ?_⟩
      exact h2 xs ws env1 env' σ1 m H st1 st' Q rs r1 h' fun e2 σ2 w2 r2 => k (e2.trans e1) σ2 (w2.trans w1) r2
theorem go_tup (n : Nat) (h : GsOk K vs ts gs) : GOk K vs (gTup K n ts) (gT n gs) := fun d v env env' σ m H st st' Q r hE h' k => by
  cases d with
  | tup xs =>
    cases r with
    | @tup _ a ws hq rs =>
      have h2 : (if xs.length = n then gs xs env st else none) = some (env', st') := h'
      by_cases hl : xs.length = n
      · rw [if_pos hl] at h2
        exact ⟨a, ws, rfl, hq, by rw [← rs.length]; exact hl, h xs ws env env' σ m H st st' Q rs hE h2 k⟩
      · rw [if_neg hl] at h2; cases h2
  | _ => cases h'
end
def runLc (s : Src) (g : GM) (t : TM) (e : EM) (k : Nat) (env : Ev) : Nat → Nat → Sto → R D
  | 0, _, _ => .fail
  | f + 1, i, st => match s.at st with
    | none => .fail
    | some xs => match xs[i]? with
      | none => .ok (.ref k) st
      | some d => match g d env st with
        | none => .fail
        | some (env1, _) => (t env1 st).bind fun b st => if b = true then (e env1 st).bind fun y st => (match st[k]? with
            | some (.lst acc) => if acc.length < most then runLc s g t e k env f (i + 1) (st.set k (.lst (acc ++ [y]))) else .fail
            | _ => .fail)
          else runLc s g t e k env f (i + 1) st
def startLc (g : GM) (t : TM) (e : EM) (env : Ev) (s : Src) (st : Sto) : R D := match s.at st with
  | none => .fail
  | some xs => runLc s g t e st.length env (xs.length + 1) 0 (st ++ [.lst []])
def eLc (src : IM) (vs : List Nat) (g : GM) (t : TM) (e : EM) : EM := fun env st => (src env st).bind (startLc g t e (wipeE env vs))
def tTrue : TM := fun _ st => .ok true st
abbrev W0 : WX := fun _ _ _ _ => False
theorem post0 {α β : Type} {K : PySem.W.Frag} {ok : Hp → Pl → α → β → Prop} {E : XK} {m : Pl} {H : Hp} {Q : β → Hp → Prop} {r : R α} (h : Post K ok (fun _ _ _ => False) m H Q r) : Post K ok E m H Q r := by
  cases r with
  | ok d st => exact h
  | err c fs st => exact fun dO H' m' e p s x => (h dO H' m' e p s x).elim
  | fail => exact h
section
variable {X : Cx} {W : WX} {tg iter elt : Expr} {ifs : List Expr} {src : IM} {g : GM} {tt : TM} {ge : EM} {scope : Scope} {own : List (Str × Nat)} {pos : Pos}
theorem src_at_app {s : Src} {st : Sto} {ob : Ob} {xs : List D} (h : s.at st = some xs) : s.at (st ++ [ob]) = some xs := by
  have key : ∀ {n : Nat} {ys : List D}, lstOf st n = some ys → lstOf (st ++ [ob]) n = some ys := by
    intro n ys h
    unfold lstOf at h ⊢
    by_cases hn : n < st.length
    · rw [List.getElem?_append_left hn]; exact h
    · rw [List.getElem?_eq_none (by omega)] at h; cases h
  cases s with
  | fix ys => exact h
  | dyn n => exact key h
  | zipL a b =>
    unfold Src.at at h ⊢
    simp only at h ⊢
    cases g1 : lstOf st a with
    | none => rw [g1] at h; cases h
    | some ys =>
      cases g2 : lstOf st b with
      | none => rw [g1, g2] at h; cases h
      | some zs => rw [g1, g2] at h; rw [key g1, key g2]; exact h
  | enumL a =>
    unfold Src.at at h ⊢
    simp only at h ⊢
    cases g1 : lstOf st a with
    | none => rw [g1] at h; cases h
    | some ys => rw [g1] at h; rw [key g1]; exact h
theorem lc_of {K : PySem.W.Frag} {tgt : TG} {tT : TT} {tE : TE} {σ : L2.St} {Q : VK} {vs : List Nat} {s : Src} {J : It} {H1 : Hp} {m1 : Pl} {st1 : Sto} {env : Ev} (hg : GOk K vs tgt g) (hJ : okI K H1 m1 s J) (hE : RE K H1 m1 env σ) (hS : SR K H1 m1 st1)
    (hT : ∀ σ H Q, rT K W0 tt σ H Q → tT σ H Q) (hEl : ∀ σ H Q, rE K W0 ge σ H Q → tE σ H Q)
    (hp : Post K (okV K) (fun _ _ _ => False) m1 H1 Q (startLc g tt ge (wipeE env vs) s st1)) (Da : Addr) (hD : H1 Da = none) :
    ∃ Wd : Nat → Nat → Hp → Prop, (∃ m, Wd 0 m (upd H1 Da (.lst []))) ∧ ∀ i m H, Wd i m H →
      (J.stop i H ∧ Q (.ref Da) H) ∨ (J.go i H ∧ ∃ Nx : Hp → Prop, (∀ H', Nx H' → ∃ m', m' < m ∧ Wd (i + 1) m' H') ∧ ∀ x H', J.yld i H x H' → tgt x (L2.wipe σ vs) H' fun σ2 H2 => L2.wipe σ2 vs = L2.wipe σ vs ∧ tT σ2 H2 fun b H3 =>
        if b = true then tE σ2 H3 fun y H4 => ∃ acc, H4 Da = some (.lst acc) ∧ acc.length < sizeLine ∧ Nx (upd H4 Da (.lst (acc ++ [y]))) else Nx H3) := by
  unfold startLc at hp
  cases q : s.at st1 with
  | none => rw [q] at hp; exact hp.elim
  | some xs =>
    rw [q] at hp
    have hk : (m1 ++ [Da])[st1.length]? = some Da := by rw [← hS.len]; simp
    refine ⟨fun i f H => ∃ m st, Ext H1 H ∧ (m1 ++ [Da]) <+: m ∧ SR K H m st ∧ Post K (okV K) (fun _ _ _ => False) m H Q (runLc s g tt ge st1.length (wipeE env vs) f i st),
      ⟨xs.length + 1, m1 ++ [Da], st1 ++ [.lst []], .new hD, List.prefix_refl _, hS.new (ob := .lst []) hD ⟨[], upd_same, .nil⟩, Post.up hp (.new hD) (List.prefix_append _ _)⟩, ?_⟩
    rintro i f H ⟨m, st, e, p, sS, hp⟩
    have pm : m1 <+: m := (List.prefix_append m1 [Da]).trans p
    cases f with
    | zero => exact hp.elim
    | succ f =>
      unfold runLc at hp
      cases q : s.at st with
      | none => rw [q] at hp; exact hp.elim
      | some ys =>
        rw [q] at hp
        obtain ⟨j1, j2⟩ := hJ i H m st ys e pm sS q
        cases q2 : ys[i]? with
        | none =>
          simp only [q2] at hp
          exact .inl ⟨j1 q2, Post.here (v := .ref Da) hp sS (.ref (pre_get p hk))⟩
        | some d =>
          simp only [q2] at hp
          obtain ⟨j3, j4⟩ := j2 d q2
          refine .inr ⟨j3, fun H' => ∃ m st, Ext H1 H' ∧ (m1 ++ [Da]) <+: m ∧ SR K H' m st ∧ Post K (okV K) (fun _ _ _ => False) m H' Q (runLc s g tt ge st1.length (wipeE env vs) f (i + 1) st), fun H' h => ⟨f, Nat.lt_succ_self f, h⟩, fun x H' y => ?_⟩
          obtain ⟨e1, s1, r1⟩ := j4 x H' y
          have hE1 : RE K H' m (wipeE env vs) (L2.wipe σ vs) := (hE.mono (e.trans e1) pm).wipe vs
          cases q3 : g d (wipeE env vs) st with
          | none => simp only [q3] at hp; exact hp.elim
          | some z =>
            obtain ⟨env1, st0⟩ := z
            simp only [q3] at hp
            refine hg d x (wipeE env vs) env1 (L2.wipe σ vs) m H' st st0 _ r1 hE1 q3 fun _ σ2 w2 r2 => ⟨?_, ?_⟩
            · rw [w2]
              have idem : ∀ ws : List Nat, (∀ w ∈ ws, w ∈ vs) → L2.wipe (L2.wipe σ vs) ws = L2.wipe σ vs := by
                intro ws
                induction ws with
                | nil => intro _; rfl
                | cons w ws ih =>
                  intro hw
                  show (L2.wipe (L2.wipe σ vs) ws).set w none = L2.wipe σ vs
                  rw [show L2.wipe (L2.wipe σ vs) ws = L2.wipe σ vs from ih fun z hz => hw z (List.mem_cons_of_mem _ hz)]
                  have none_at : ∀ (us : List Nat), w ∈ us → (L2.wipe σ us).set w none = L2.wipe σ us := by
                    intro us
                    induction us with
                    | nil => intro h; cases h
                    | cons u us ih2 =>
                      intro h
                      unfold L2.wipe
                      rcases List.mem_cons.mp h with z | z
                      · subst z; exact List.set_set ..
                      · by_cases hu : u = w
                        · subst hu; exact List.set_set ..
                        · rw [List.set_comm _ _ hu, ih2 z]
                  exact none_at vs (hw w List.mem_cons_self)
              exact idem vs fun _ h => h
            · have hp' := Post.up (m' := m) hp e1 (List.prefix_refl m)
              refine hT _ _ _ ⟨env1, m, st, r2, s1, hp'.bind fun b st2 b' H3 m3 e3 p3 s3 rb hp3 => ?_⟩
              cases (show b = b' from rb)
              cases b with
              | false =>
                refine iteF ⟨m3, st2, (e.trans e1).trans e3, p.trans p3, s3, ?_⟩
                simpa using hp3
              | true =>
                refine iteT ?_
                have hp4 : Post K (okV K) (fun _ _ _ => False) m3 H3 Q ((ge env1 st2).bind fun y st => (match st[st1.length]? with
                  | some (.lst acc) => if acc.length < most then runLc s g tt ge st1.length (wipeE env vs) f (i + 1) (st.set st1.length (.lst (acc ++ [y]))) else .fail
                  | _ => .fail)) := hp3
                refine hEl _ _ _ ⟨env1, m3, st2, r2.mono e3 p3, s3, hp4.bind fun y st4 vy H4 m4 e4 p4 s4 ry hp5 => ?_⟩
                have ha : m4[st1.length]? = some Da := pre_get p4 (pre_get p3 (pre_get p hk))
                split at hp5
                · rename_i acc qa
                  obtain ⟨va, h4, ra⟩ := s4.ob _ _ _ ha qa
                  by_cases hl : acc.length < most
                  · rw [if_pos hl] at hp5
                    have ew : Ext H4 (upd H4 Da (.lst (va ++ [vy]))) := .write h4 (fun _ z => by cases z) (fun _ _ z => by cases z)
                    refine ⟨va, h4, by rw [← ra.length]; exact most_lt hl, m4, st4.set st1.length (.lst (acc ++ [y])), (((e.trans e1).trans e3).trans e4).trans ew, (p.trans p3).trans p4, s4.write (ob := .lst (acc ++ [y])) ha qa rfl h4 (fun _ z => by cases z) (fun _ _ z => by cases z) ⟨va ++ [vy], upd_same, ?_⟩, Post.up hp5 ew (List.prefix_refl _)⟩
                    exact (ra.mono ew (List.prefix_refl _)).append (.one (ry.mono ew (List.prefix_refl _)))
                  · rw [if_neg hl] at hp5; exact hp5.elim
                · exact hp5.elim
end
end U
set_option Elab.async false
set_option linter.all false
set_option maxRecDepth 100000
set_option maxHeartbeats 4000000
namespace U
open PySem PySem.Spec PyProof.Rows L2

def R.hush {α : Type} : R α → R α
  | .err _ _ _ => .fail
  | r => r
theorem hush_of {α β : Type} {K : PySem.W.Frag} {ok : Hp → Pl → α → β → Prop} {E E' : XK} {m : Pl} {H : Hp} {Q : β → Hp → Prop} {r : R α} (h : Post K ok E m H Q r.hush) : Post K ok E' m H Q r := by
  cases r with
  | ok d st => exact h
  | err c fs st => exact h.elim
  | fail => exact h
def cLc (src : IM) (vs : List Nat) (g : GM) (t : TM) (e : EM) : EM := fun env st => (src env st).bind fun s st => (startLc g t e (wipeE env vs) s st).hush
theorem _root_.L2.PTs.imp {X : Cx} {e : List Expr} {t t' : TT} (h : PTs X e t) (i : ∀ σ H Q, t' σ H Q → t σ H Q) : PTs X e t' := ⟨fun pins s σ H Q I q => h.run pins s σ H Q I (i _ _ _ q)⟩
section
variable {X : Cx} {W : WX} {tg iter elt : Expr} {ifs : List Expr} {src : IM} {g : GM} {tt : TM} {ge : EM} {scope : Scope} {own : List (Str × Nat)} {pos spos : Pos} {tgt : TG}
theorem c_yes : PTs X [] (rT X.K W tTrue) := pts_nil.imp fun σ H Q ⟨env, m, st, hE, hS, hp⟩ => Post.here (v := true) hp hS rfl
theorem c_if {c : Expr} (h : PT X c (rT X.K W tt)) : PTs X [c] (rT X.K W tt) := pts_one h
theorem lc_read {vs : List Nat} (hg : GOk X.K vs tgt g) {σ : L2.St} {H : Hp} {Q : VK} (h : rE X.K W (cLc src vs g tt ge) σ H Q) : tLc (rI X.K W src) tgt (rT X.K W0 tt) (rE X.K W0 ge) vs σ H Q := by
  obtain ⟨env, m, st, hE, hS, hp⟩ := h
  refine ⟨env, m, st, hE, hS, hp.bind fun s st1 J H1 m1 e1 p1 s1 hJ hp1 => fun Da hD => ?_⟩
  exact lc_of hg hJ (hE.mono e1 p1) s1 (fun _ _ _ h => h) (fun _ _ _ h => h) (hush_of hp1) Da hD
theorem e_lc (own : List (Str × Nat)) (hc : X.calm = true) (hN : X.N.Nodup) (hgo : GOk X.K (own.map (·.2)) tgt g) (hi : PI X tg iter (rI X.K W src)) (ok : BlkOk X.N X.env.scope scope own)
    (hg : ∀ (s : Shared) (H : Hp) (C : Addr) (cl : List (Str × Addr)) (fp : List Addr), PG (X.blk s H scope (compEnvC scope cl C X.env) fp) tg tgt)
    (ht : ∀ (s : Shared) (H : Hp) (C : Addr) (cl : List (Str × Addr)) (fp : List Addr), PTs (X.blk s H scope (compEnvC scope cl C X.env) fp) ifs (rT X.K W0 tt))
    (he : ∀ (s : Shared) (H : Hp) (C : Addr) (cl : List (Str × Addr)) (fp : List Addr), PE (X.blk s H scope (compEnvC scope cl C X.env) fp) elt (rE X.K W0 ge))
    (hs : ∀ x, foldedSetIterable iter X.env x = pure x := by intro _; rfl) : PE X (.ListComp elt [⟨tg, iter, ifs, 0⟩] scope pos) (rE X.K W (cLc src (own.map (·.2)) g tt ge)) :=
  (pe_lc hc hN hi ok hg ht he hs).imp fun σ H Q h => lc_read hgo h
theorem s_setLc (i : Nat) (own : List (Str × Nat)) {y : Str} {py : Pos} (hc : X.calm = true) (hN : X.N.Nodup) (hgo : GOk X.K (own.map (·.2)) tgt g) (hi : PI X tg iter (rI X.K W src)) (ok : BlkOk X.N X.env.scope scope own)
    (hg : ∀ (s : Shared) (H : Hp) (C : Addr) (cl : List (Str × Addr)) (fp : List Addr), PG (X.blk s H scope (compEnvC scope cl C X.env) fp) tg tgt)
    (ht : ∀ (s : Shared) (H : Hp) (C : Addr) (cl : List (Str × Addr)) (fp : List Addr), PTs (X.blk s H scope (compEnvC scope cl C X.env) fp) ifs (rT X.K W0 tt))
    (he : ∀ (s : Shared) (H : Hp) (C : Addr) (cl : List (Str × Addr)) (fp : List Addr), PE (X.blk s H scope (compEnvC scope cl C X.env) fp) elt (rE X.K W0 ge))
    (hsw : swapsWith (.ListComp elt [⟨tg, iter, ifs, 0⟩] scope pos) (some (.Name y py)) spos.line X.env = pure true) (hy : X.N[i]? = some y := by rfl) (hyl : X.env.scope.names.lookup y = some .local := by rfl)
    (hs : ∀ x, foldedSetIterable iter X.env x = pure x := by intro _; rfl) : PS X (.Assign [.Name y py] (.ListComp elt [⟨tg, iter, ifs, 0⟩] scope pos) spos) (rS X.K W (sSet i (cLc src (own.map (·.2)) g tt ge))) :=
  (ps_setLc hc hN hy hyl hsw hi ok hg ht he hs).imp fun D σ H h => by
    have h2 := set_of h
    exact lc_read hgo h2
end

abbrev Fm := List D → Sto → R D
def env0 (n slots : Nat) (ds : List D) : Ev := ds.map some ++ List.replicate (slots - n) none
def endFn : RS → R D
  | .rt d st => .ok d st
  | .nx _ st => .ok .non st
  | .err c fs _ st => .err c fs st
  | _ => .fail
def mkFn (n slots : Nat) (body : SM) : Fm := fun ds st => if ds.length = n then endFn (body (env0 n slots ds) st) else .fail
def spF (K : PySem.W.Frag) (n : Nat) (f : Fm) : Sp := fun vs H Q E => vs.length = n ∧ ∃ ds m st, RVs K H m ds vs ∧ SR K H m st ∧ Post K (okV K) E m H Q (f ds st)
def Arity (n : Nat) (f : Fm) : Prop := ∀ ds st, ds.length ≠ n → f ds st = .fail
theorem mkFn_ar {n slots : Nat} {body : SM} : Arity n (mkFn n slots body) := fun ds st h => if_neg h
theorem spF_of {K : PySem.W.Frag} {n : Nat} {f : Fm} (ar : Arity n f) {E : XK} {m : Pl} {H : Hp} {st : Sto} {ds : List D} {vs : List V} {Q : VK} (s : SR K H m st) (r : RVs K H m ds vs) (hp : Post K (okV K) E m H Q (f ds st)) : spF K n f vs H Q E := by
  by_cases hl : ds.length = n
  · exact ⟨by rw [← r.length]; exact hl, ds, m, st, r, s, hp⟩
  · rw [ar ds st hl] at hp; exact hp.elim
theorem env0_re {K : PySem.W.Frag} {H : Hp} {m : Pl} {ds : List D} {vs : List V} {N : List Str} {n : Nat} (r : RVs K H m ds vs) (hl : ds.length = n) : RE K H m (env0 n N.length ds) (L2.start N vs) := by
  have hv : vs.length = n := by rw [← r.length]; exact hl
  refine ⟨by simp [env0, L2.start, hl, hv], fun i d h => ?_⟩
  unfold env0 at h
  by_cases hi : i < ds.length
  · rw [List.getElem?_append_left (by simpa using hi), List.getElem?_map] at h
    obtain ⟨x, hx, e⟩ := Option.map_eq_some_iff.mp h
    cases e
    obtain ⟨v, hv2, rv⟩ := r.get hx
    refine ⟨v, ?_, rv⟩
    unfold L2.start
    rw [List.getElem?_append_left (by simp; rw [← r.length]; exact hi), List.getElem?_map, hv2]
    rfl
  · rw [List.getElem?_append_right (by simp; omega)] at h
    obtain ⟨_, e⟩ := List.getElem?_eq_some_iff.mp h
    simp at e
abbrev WK (E : XK) : WX := fun c d _ H => E c d H
section
variable {P : Program} {w : World} {K : PySem.W.Frag} {mg : Str → Option Value} {base : Heap}
theorem fn_F {x qual : Str} {params : Arguments} {body : List Stmt} {scope : Scope} {dvs : List V} {kws : List (Str × V)} {f : Addr} {fd : FuncData} {N ps : List Str} {k : Nat} {gb : SM} (F : FunD K x qual params body scope dvs kws f fd) (S : FnScope N ps scope)
    (h : ∀ (cdv : Value) (A : Around) (outer : List Env) (s : Shared) (H : Hp) (E : XK), Room k (A.deeper (envOfC qual scope s.heap.objs.size f cdv)) → PSs (cxOf (L2.CX P w) P w K mg base N qual scope f cdv A outer s H E) body (rS K (WK E) gb)) :
    FnOk P w K mg base (L2.CX P w) (k + 1) f fd ps (spF K ps.length (mkFn ps.length N.length gb)) := by
  refine F.ok S (fun vs H Q E h => h.1) (fun cdv A outer s H vs Q E hr hsp => ⟨_, h cdv A outer s H E hr, ?_⟩)
  obtain ⟨hl, ds, m, st, r, sS, hp⟩ := hsp
  have hd : ds.length = ps.length := by rw [r.length]; exact hl
  unfold mkFn at hp
  rw [if_pos hd] at hp
  refine ⟨_, m, st, env0_re r hd, sS, ?_⟩
  cases q : gb (env0 ps.length N.length ds) st with
  | rt d st1 => rw [q] at hp; exact hp
  | nx env st1 => rw [q] at hp; exact fun σ H1 m1 e1 p1 s1 r1 => hp .non H1 m1 e1 p1 s1 .non
  | err c fs env st1 => rw [q] at hp; exact fun dO σ H1 m1 e1 p1 s1 x1 r1 => hp dO H1 m1 e1 p1 s1 x1
  | bk env st1 => rw [q] at hp; exact hp.elim
  | ct env st1 => rw [q] at hp; exact hp.elim
  | fail => rw [q] at hp; exact hp.elim
end
structure Fn (P : Program) (w : World) (K : PySem.W.Frag) (mg : Str → Option Value) (base : Heap) (k : Nat) (x : Str) (n : Nat) (f : Fm) : Prop where
  ex : ∃ (a : Addr) (fd : FuncData) (ps : List Str), FnOk P w K mg base (L2.CX P w) k a fd ps (spF K n f) ∧ mg x = some (.ref a) ∧ PySem.W.keepIn K (.ref a) = true ∧ Binds K fd ps []
  ar : Arity n f
section
variable {X : Cx} {W : WX} {a : Expr} {es : List Expr} {gs : AM} {pos p : Pos} {k n : Nat} {x : Str} {f : Fm}
theorem e_call (F : Fn X.prog X.w X.K X.mg X.base k x n f) (tk : Takes X W) (hr : Room k X.A) (ha : PA X (a :: es) (rA X.K W gs)) (hg : Gl X x := by rfl)
    (hdb : (x == ("__debug__" : Str)) = false := by decide) (he : starEach (a :: es) X.env = (false, eval a X.env) :: starEach es X.env := by rfl) (hpl : (backTo pos (starEach es X.env)).any (·.1) = false := by rfl) :
    PE X (.Call (.Name x p) (a :: es) [] pos) (rE X.K W (eFn f gs)) := by
  obtain ⟨ad, fd, ps, ok, hm, hk, hb⟩ := F.ex
  exact (pe_callS ok hr hg hm hk hb (fun σ => passAt tk σ) ha hdb he hpl).imp fun σ H Q h => by
    obtain ⟨env, m, st, hE, hS, hp⟩ := h
    exact ⟨env, m, st, hE, hS, hp.bind fun d st1 v H1 m1 e1 p1 s1 r1 hp1 => spF_of F.ar s1 r1 hp1⟩
end
end U
set_option Elab.async false
set_option linter.all false
set_option maxRecDepth 100000
set_option maxHeartbeats 4000000
namespace U
open PySem PySem.Spec PyProof.Rows L2

def mapO {α β : Type} (f : α → Option β) : List α → Option (List β)
  | [] => some []
  | x :: xs => match f x with
    | none => none
    | some y => match mapO f xs with
      | none => none
      | some ys => some (y :: ys)
def toP : Nat → Sto → D → Option PyData
  | _, _, .non => some .none
  | _, _, .bl b => some (.bool b)
  | _, _, .int i => some (.int i)
  | _, _, .str x => some (.str x)
  | 0, _, _ => none
  | n + 1, st, .tup xs => (mapO (toP n st) xs).map .tuple
  | n + 1, st, .ref i => match lstOf st i with
    | some xs => (mapO (toP n st) xs).map .list
    | none => none
section
variable {K : PySem.W.Frag} {H : Hp} {m : Pl} {st : Sto}
theorem mapO_dp {n : Nat} (ih : ∀ (d : D) (v : V) (p : PyData), RV K H m d v → toP n st d = some p → Dp K H v p) : ∀ (ds : List D) (vs : List V) (ps : List PyData), RVs K H m ds vs → mapO (toP n st) ds = some ps → DpAll K H vs ps
  | [], _, _, r, h => by
    cases r
    cases h
    exact .nil
  | d :: ds, _, ps, r, h => by
    cases r with
    | cons r1 r2 =>
      unfold mapO at h
      cases q : toP n st d with
      | none => rw [q] at h; cases h
      | some p =>
        rw [q] at h
        cases q2 : mapO (toP n st) ds with
        | none => simp only [q2] at h; cases h
        | some ps' =>
          simp only [q2] at h
          cases h
          exact .cons (ih d _ p r1 q) (mapO_dp ih ds _ ps' r2 q2)
theorem toP_dp (s : SR K H m st) : ∀ (n : Nat) (d : D) (v : V) (p : PyData), RV K H m d v → toP n st d = some p → Dp K H v p
  | n, .non, _, _, r, h => by cases r; cases n <;> (cases h; exact .non)
  | n, .bl b, _, _, r, h => by cases r; cases n <;> (cases h; exact .bl b)
  | n, .int i, _, _, r, h => by cases r; cases n <;> (cases h; exact .int i)
  | n, .str x, _, _, r, h => by cases r; cases n <;> (cases h; exact .str x)
  | 0, .tup _, _, _, _, h => by cases h
  | 0, .ref _, _, _, _, h => by cases h
  | n + 1, .tup xs, _, p, r, h => by
    cases r with
    | tup hq rs =>
      obtain ⟨ps, e, rfl⟩ := Option.map_eq_some_iff.mp (show (mapO (toP n st) xs).map PyData.tuple = some p from h)
      exact .tup hq (mapO_dp (toP_dp s n) xs _ ps rs e)
  | n + 1, .ref i, _, p, r, h => by
    cases r with
    | ref hi =>
      have h' : (match lstOf st i with | some xs => (mapO (toP n st) xs).map PyData.list | none => none) = some p := h
      cases q : lstOf st i with
      | none => rw [q] at h'; cases h'
      | some xs =>
        rw [q] at h'
        obtain ⟨ps, e, rfl⟩ := Option.map_eq_some_iff.mp (show (mapO (toP n st) xs).map PyData.list = some p from h')
        obtain ⟨vs, hq, rs⟩ := s.sqL hi q
        exact .lst hq (mapO_dp (toP_dp s n) xs _ ps rs e)
end
def toS (st : Sto) (d : D) : Option PyData := match toP 60 st d with
  | some p => if SeqAt.shaped p = true then some p else none
  | none => none
theorem toS_dp {K : PySem.W.Frag} {H : Hp} {m : Pl} {st : Sto} (s : SR K H m st) {d : D} {v : V} {p : PyData} (r : RV K H m d v) (h : toS st d = some p) : Dp K H v p ∧ SeqAt.shaped p = true := by
  unfold toS at h
  cases q : toP 60 st d with
  | none => rw [q] at h; cases h
  | some p' =>
    rw [q] at h
    simp only at h
    split at h
    · rename_i hs
      cases h
      exact ⟨toP_dp s 60 d v _ r q, hs⟩
    · cases h
def dEq (neg : Bool) (x y : D) (st : Sto) : R D := match toS st x, toS st y with
  | some p, some q => .ok (.bl (if neg then !PyData.eqv p q else PyData.eqv p q)) st
  | _, _ => .fail
def itemsP : PyData → Option (List PyData)
  | .tuple ps => some ps
  | .list ps => some ps
  | _ => none
def dIn (neg : Bool) (x y : D) (st : Sto) : R D := match toS st x, toS st y with
  | some p, some q => match itemsP q with
    | some ps => .ok (.bl (if neg then !ps.any (fun z => PyData.eqv z p) else ps.any (fun z => PyData.eqv z p))) st
    | none => .fail
  | _, _ => .fail
section
variable {X : Cx} {k : Nat}
theorem o_eq (hr : Room k X.A) : OpF X (compareOp .Eq) (dEq false) := ⟨_, op_eqD hr.units, fun E m H st dx dy x y Q s rx ry hp => by
  unfold dEq at hp
  cases q1 : toS st dx with
  | none => rw [q1] at hp; exact hp.elim
  | some p =>
    cases q2 : toS st dy with
    | none => rw [q1, q2] at hp; exact hp.elim
    | some q =>
      rw [q1, q2] at hp
      obtain ⟨h1, h2⟩ := toS_dp s rx q1
      obtain ⟨h3, h4⟩ := toS_dp s ry q2
      exact ⟨p, q, h1, h3, h2, h4, Post.here (v := .bl (PyData.eqv p q)) hp s .bl⟩⟩
theorem o_ne (hr : Room k X.A) : OpF X (compareOp .NotEq) (dEq true) := ⟨_, op_neD hr.units, fun E m H st dx dy x y Q s rx ry hp => by
  unfold dEq at hp
  cases q1 : toS st dx with
  | none => rw [q1] at hp; exact hp.elim
  | some p =>
    cases q2 : toS st dy with
    | none => rw [q1, q2] at hp; exact hp.elim
    | some q =>
      rw [q1, q2] at hp
      obtain ⟨h1, h2⟩ := toS_dp s rx q1
      obtain ⟨h3, h4⟩ := toS_dp s ry q2
      exact ⟨p, q, h1, h3, h2, h4, Post.here (v := .bl (!PyData.eqv p q)) hp s .bl⟩⟩
def rInA (K : PySem.W.Frag) (neg : Bool) : R2 := fun x y H Q => ∃ d e ds, Dp K H x d ∧ Dp K H y e ∧ itemsP e = some ds ∧ SeqAt.shaped d = true ∧ SeqAt.shaped e = true ∧ Q (.bl (if neg then !ds.any (fun z => PyData.eqv z d) else ds.any (fun z => PyData.eqv z d))) H
theorem shaped_items {e : PyData} {ds : List PyData} (h : itemsP e = some ds) (s : SeqAt.shaped e = true) : PyData.canLayAll0 ds = true := by
  have h2 := SeqAt.canLay_of_shaped s
  cases e with
  | tuple ps => cases h; simpa [PyData.canLay0] using h2
  | list ps => cases h; simpa [PyData.canLay0] using h2
  | _ => cases h
theorem or_in (hr : Room k X.A) : OpR X (compareOp .In) (rInA X.K false) := by
  intro pins s σ H x y v u Q I rx ry h
  obtain ⟨d, e, ds, hd, he, hi, sd, se, q⟩ := h
  have hu : X.A.units + 65 < cLine := by have := hr.un; omega
  obtain ⟨as, r1⟩ := Dp.reads I d x v hd rx
  obtain ⟨bs, r2⟩ := Dp.reads I e y u he ry
  have hl := shaped_items hi se
  cases e with
  | tuple ps => cases hi; exact SeqAt.in_tuple_reads r2 r1 hl (SeqAt.canLay_of_shaped sd) (room_in_shaped sd hu) ⟨.bl _, H, I, rfl, q⟩
  | list ps => cases hi; exact SeqAt.in_list_reads r2 r1 hl (SeqAt.canLay_of_shaped sd) (room_in_shaped sd hu) ⟨.bl _, H, I, rfl, q⟩
  | _ => cases hi
theorem or_notIn (hr : Room k X.A) : OpR X (compareOp .NotIn) (rInA X.K true) := by
  intro pins s σ H x y v u Q I rx ry h
  obtain ⟨d, e, ds, hd, he, hi, sd, se, q⟩ := h
  have hu : X.A.units + 65 < cLine := by have := hr.un; omega
  obtain ⟨as, r1⟩ := Dp.reads I d x v hd rx
  obtain ⟨bs, r2⟩ := Dp.reads I e y u he ry
  have hl := shaped_items hi se
  cases e with
  | tuple ps => cases hi; exact SeqAt.notIn_tuple_reads r2 r1 hl (SeqAt.canLay_of_shaped sd) (room_in_shaped sd hu) ⟨.bl _, H, I, rfl, q⟩
  | list ps => cases hi; exact SeqAt.notIn_list_reads r2 r1 hl (SeqAt.canLay_of_shaped sd) (room_in_shaped sd hu) ⟨.bl _, H, I, rfl, q⟩
  | _ => cases hi
theorem in_read {neg : Bool} {E : XK} {m : Pl} {H : Hp} {st : Sto} {dx dy : D} {x y : V} {Q : VK} (s : SR X.K H m st) (rx : RV X.K H m dx x) (ry : RV X.K H m dy y) (hp : Post X.K (okV X.K) E m H Q (dIn neg dx dy st)) : rInA X.K neg x y H Q := by
  unfold dIn at hp
  cases q1 : toS st dx with
  | none => rw [q1] at hp; exact hp.elim
  | some p =>
    cases q2 : toS st dy with
    | none => rw [q1, q2] at hp; exact hp.elim
    | some q =>
      rw [q1, q2] at hp
      simp only at hp
      obtain ⟨h1, h2⟩ := toS_dp s rx q1
      obtain ⟨h3, h4⟩ := toS_dp s ry q2
      cases q3 : itemsP q with
      | none => rw [q3] at hp; exact hp.elim
      | some ps =>
        rw [q3] at hp
        exact ⟨p, q, ps, h1, h3, q3, h2, h4, Post.here (v := .bl _) hp s .bl⟩
theorem o_in (hr : Room k X.A) : OpF X (compareOp .In) (dIn false) := ⟨_, or_in hr, fun E m H st dx dy x y Q s rx ry hp => in_read s rx ry hp⟩
theorem o_notIn (hr : Room k X.A) : OpF X (compareOp .NotIn) (dIn true) := ⟨_, or_notIn hr, fun E m H st dx dy x y Q s rx ry hp => in_read s rx ry hp⟩

def dI (f : Int → Int → R D) (x y : D) : R D := match x, y with
  | .int i, .int j => f i j
  | _, _ => .fail
def dSub (x y : D) (st : Sto) : R D := dI (fun i j => .ok (.int (i - j)) st) x y
def dMod (x y : D) (st : Sto) : R D := dI (fun i j => if 0 < j then .ok (.int (i % j)) st else .fail) x y
def dDiv (x y : D) (st : Sto) : R D := dI (fun i j => if 0 < j ∧ j < 1073741824 then .ok (.int (i / j)) st else .fail) x y
def dPow (x y : D) (st : Sto) : R D := dI (fun i j => if 0 ≤ j ∧ j ≤ 1000000 ∧ i.natAbs < 2 ^ 64 then .ok (.int (i ^ j.toNat)) st else .fail) x y
def dLt (x y : D) (st : Sto) : R D := dI (fun i j => .ok (.bl (decide (i < j))) st) x y
def dLe (x y : D) (st : Sto) : R D := dI (fun i j => .ok (.bl (decide (i ≤ j))) st) x y
def dGt (x y : D) (st : Sto) : R D := dI (fun i j => .ok (.bl (decide (j < i))) st) x y
def dGe (x y : D) (st : Sto) : R D := dI (fun i j => .ok (.bl (decide (j ≤ i))) st) x y
theorem dI_cases {K : PySem.W.Frag} {H : Hp} {m : Pl} {E : XK} {Q : VK} {f : Int → Int → R D} {dx dy : D} {x y : V} (rx : RV K H m dx x) (ry : RV K H m dy y) (hp : Post K (okV K) E m H Q (dI f dx dy)) : ∃ i j, x = .int i ∧ y = .int j ∧ Post K (okV K) E m H Q (f i j) := by
  cases dx with
  | int i =>
    cases dy with
    | int j => cases rx; cases ry; exact ⟨i, j, rfl, rfl, hp⟩
    | _ => exact hp.elim
  | _ => exact hp.elim
theorem o_sub : OpF X (binaryOp .Sub) dSub := ⟨_, op_sub, fun E m H st dx dy x y Q s rx ry hp => let ⟨i, j, e1, e2, h⟩ := dI_cases rx ry hp; ⟨i, j, e1, e2, Post.here (v := .int (i - j)) h s .int⟩⟩
theorem o_mod : OpF X (binaryOp .Mod) dMod := ⟨_, op_mod, fun E m H st dx dy x y Q s rx ry hp => by
  obtain ⟨i, j, e1, e2, h⟩ := dI_cases rx ry hp
  split at h
  · rename_i hj; exact ⟨i, j, e1, e2, hj, Post.here (v := .int (i % j)) h s .int⟩
  · exact h.elim⟩
theorem o_div : OpF X (binaryOp .FloorDiv) dDiv := ⟨_, op_fdiv, fun E m H st dx dy x y Q s rx ry hp => by
  obtain ⟨i, j, e1, e2, h⟩ := dI_cases rx ry hp
  split at h
  · rename_i hj; exact ⟨i, j, e1, e2, hj, Post.here (v := .int (i / j)) h s .int⟩
  · exact h.elim⟩
theorem o_pow : OpF X (binaryOp .Pow) dPow := ⟨_, op_pow, fun E m H st dx dy x y Q s rx ry hp => by
  obtain ⟨i, j, e1, e2, h⟩ := dI_cases rx ry hp
  split at h
  · rename_i hj; exact ⟨i, j, e1, e2, hj, Post.here (v := .int (i ^ j.toNat)) h s .int⟩
  · exact h.elim⟩
theorem o_lt : OpF X (compareOp .Lt) dLt := ⟨_, op_lt, fun E m H st dx dy x y Q s rx ry hp => let ⟨i, j, e1, e2, h⟩ := dI_cases rx ry hp; ⟨i, j, e1, e2, Post.here (v := .bl _) h s .bl⟩⟩
theorem o_le : OpF X (compareOp .LtE) dLe := ⟨_, op_le, fun E m H st dx dy x y Q s rx ry hp => let ⟨i, j, e1, e2, h⟩ := dI_cases rx ry hp; ⟨i, j, e1, e2, Post.here (v := .bl _) h s .bl⟩⟩
theorem o_gt : OpF X (compareOp .Gt) dGt := ⟨_, op_gt, fun E m H st dx dy x y Q s rx ry hp => let ⟨i, j, e1, e2, h⟩ := dI_cases rx ry hp; ⟨i, j, e1, e2, Post.here (v := .bl _) h s .bl⟩⟩
theorem o_ge : OpF X (compareOp .GtE) dGe := ⟨_, op_ge, fun E m H st dx dy x y Q s rx ry hp => let ⟨i, j, e1, e2, h⟩ := dI_cases rx ry hp; ⟨i, j, e1, e2, Post.here (v := .bl _) h s .bl⟩⟩
def dIsN (neg : Bool) (x y : D) (st : Sto) : R D := match y with
  | .non => (match x with
    | .non => .ok (.bl (!neg)) st
    | _ => .ok (.bl neg) st)
  | _ => .fail
theorem o_isN : OpF X (compareOp .Is) (dIsN false) := ⟨_, op_isN, fun E m H st dx dy x y Q s rx ry hp => by
  cases dy with
  | non =>
    cases ry
    refine ⟨rfl, ?_⟩
    cases rx <;> exact Post.here hp s .bl
  | _ => exact hp.elim⟩
theorem o_notN : OpF X (compareOp .IsNot) (dIsN true) := ⟨_, op_notN, fun E m H st dx dy x y Q s rx ry hp => by
  cases dy with
  | non =>
    cases ry
    refine ⟨rfl, ?_⟩
    cases rx <;> exact Post.here hp s .bl
  | _ => exact hp.elim⟩
def dAdd (x y : D) (st : Sto) : R D := match x, y with
  | .int i, .int j => .ok (.int (i + j)) st
  | .tup xs, .tup ys => if xs.length + ys.length ≤ most then .ok (.tup (xs ++ ys)) st else .fail
  | .str a, .str b => if a.length + b.length ≤ most then .ok (.str (a ++ b)) st else .fail
  | .ref a, .ref b => match st[a]?, st[b]? with
    | some (.lst xs), some (.lst ys) => mkLst (xs ++ ys) st
    | _, _ => .fail
  | _, _ => .fail
theorem o_add : OpF X (binaryOp .Add) dAdd := ⟨_, op_add.or (op_catA.or (op_add_str.or op_cat)), fun E m H st dx dy x y Q s rx ry hp => by
  cases dx with
  | int i =>
    cases dy with
    | int j => cases rx; cases ry; exact .inl ⟨i, j, rfl, rfl, Post.here (v := .int (i + j)) hp s .int⟩
    | _ => exact hp.elim
  | tup xs =>
    cases dy with
    | tup ys =>
      cases rx with
      | @tup _ a vs hq rs =>
        cases ry with
        | @tup _ b ws hq2 rs2 =>
          have hp' : Post X.K (okV X.K) E m H Q (if xs.length + ys.length ≤ most then .ok (.tup (xs ++ ys)) st else .fail) := hp
          by_cases hl : xs.length + ys.length ≤ most
          · rw [if_pos hl] at hp'
            refine .inr (.inl ⟨a, b, vs, ws, rfl, rfl, hq, hq2, by rw [← rs.length, ← rs2.length]; exact most_le hl, fun e => ?_, fun e1 e2 => ?_, fun _ _ p h => new_tup hp' s (rs.append rs2) h⟩)
            · subst e
              cases rs
              exact Post.here (v := .ref b) hp' s (.tup hq2 (show RVs X.K H m ([] ++ ys) ws from rs2))
            · subst e2
              cases rs2
              exact Post.here (v := .ref a) hp' s (.tup hq (by rw [List.append_nil]; exact rs))
          · rw [if_neg hl] at hp'; exact hp'.elim
    | _ => exact hp.elim
  | str a =>
    cases dy with
    | str b =>
      cases rx; cases ry
      have hp' : Post X.K (okV X.K) E m H Q (if a.length + b.length ≤ most then .ok (.str (a ++ b)) st else .fail) := hp
      by_cases hl : a.length + b.length ≤ most
      · rw [if_pos hl] at hp'
        exact .inr (.inr (.inl ⟨a, b, rfl, rfl, most_le hl, Post.here (v := .str (a ++ b)) hp' s .str⟩))
      · rw [if_neg hl] at hp'; exact hp'.elim
    | _ => exact hp.elim
  | ref i =>
    cases dy with
    | ref j =>
      cases rx with
      | @ref _ a h1 =>
        cases ry with
        | @ref _ b h2 =>
          have hp' : Post X.K (okV X.K) E m H Q (match st[i]?, st[j]? with | some (.lst xs), some (.lst ys) => mkLst (xs ++ ys) st | _, _ => .fail) := hp
          split at hp'
          · rename_i xs ys g1 g2
            obtain ⟨vs, a1, r1⟩ := s.ob _ _ _ h1 g1
            obtain ⟨ws, a2, r2⟩ := s.ob _ _ _ h2 g2
            unfold mkLst at hp'
            split at hp'
            · rename_i hl
              exact .inr (.inr (.inr ⟨a, b, vs, ws, rfl, rfl, a1, a2, by rw [← r1.length, ← r2.length]; rw [List.length_append] at hl; exact most_le hl, fun p h => new_lst hp' s (r1.append r2) h⟩))
            · exact hp'.elim
          · exact hp'.elim
    | _ => exact hp.elim
  | _ => exact hp.elim⟩
theorem RVs.rep {K : PySem.W.Frag} {H : Hp} {m : Pl} {xs : List D} {vs : List V} (r : RVs K H m xs vs) : ∀ n : Nat, RVs K H m (List.replicate n xs).flatten (List.replicate n vs).flatten
  | 0 => .nil
  | n + 1 => by
    rw [List.replicate_succ, List.replicate_succ, List.flatten_cons, List.flatten_cons]
    exact r.append (RVs.rep r n)
def dMul (x y : D) (st : Sto) : R D := match x, y with
  | .int i, .int j => if (-(2 ^ 64) < i ∧ i < 2 ^ 64) ∨ (-(2 ^ 64) < j ∧ j < 2 ^ 64) then .ok (.int (i * j)) st else .fail
  | .tup xs, .int k => if xs ≠ [] ∧ 2 ≤ k ∧ k ≤ 1000 ∧ xs.length ≤ 1000 then .ok (.tup (List.replicate k.toNat xs).flatten) st else .fail
  | _, _ => .fail
theorem o_mul : OpF X (binaryOp .Mult) dMul := ⟨_, op_mul.or op_repT, fun E m H st dx dy x y Q s rx ry hp => by
  cases dx with
  | int i =>
    cases dy with
    | int j =>
      cases rx; cases ry
      have hp' : Post X.K (okV X.K) E m H Q (if (-(2 ^ 64) < i ∧ i < 2 ^ 64) ∨ (-(2 ^ 64) < j ∧ j < 2 ^ 64) then .ok (.int (i * j)) st else .fail) := hp
      by_cases hl : (-(2 ^ 64) < i ∧ i < 2 ^ 64) ∨ (-(2 ^ 64) < j ∧ j < 2 ^ 64)
      · rw [if_pos hl] at hp'
        exact .inl ⟨i, j, rfl, rfl, hl, Post.here (v := .int (i * j)) hp' s .int⟩
      · rw [if_neg hl] at hp'; exact hp'.elim
    | _ => exact hp.elim
  | tup xs =>
    cases dy with
    | int k =>
      cases rx with
      | @tup _ a vs hq rs =>
        cases ry
        have hp' : Post X.K (okV X.K) E m H Q (if xs ≠ [] ∧ 2 ≤ k ∧ k ≤ 1000 ∧ xs.length ≤ 1000 then .ok (.tup (List.replicate k.toNat xs).flatten) st else .fail) := hp
        by_cases hl : xs ≠ [] ∧ 2 ≤ k ∧ k ≤ 1000 ∧ xs.length ≤ 1000
        · rw [if_pos hl] at hp'
          refine .inr ⟨a, k, vs, rfl, rfl, hq, fun e => hl.1 ?_, hl.2.1, hl.2.2.1, by rw [← rs.length]; exact hl.2.2.2, fun p h => new_tup hp' s (rs.rep k.toNat) h⟩
          have := rs.length
          rw [e] at this
          exact List.eq_nil_of_length_eq_zero this
        · rw [if_neg hl] at hp'; exact hp'.elim
    | _ => exact hp.elim
  | _ => exact hp.elim⟩
end
def eChain (f g : D → D → Sto → R D) (a b c : EM) : EM := fun env st => (a env st).bind fun x st => (b env st).bind fun y st => (f x y st).bind fun k st => match k with
  | .bl true => (c env st).bind fun z st => g y z st
  | .bl false => .ok (.bl false) st
  | _ => .fail
section
variable {X : Cx} {W : WX} {a b c : Expr} {ga gb gc : EM} {pos : Pos}
theorem chain_of {r r' : R2} {f g : D → D → Sto → R D}
    (hf : ∀ (E : XK) (m : Pl) (H : Hp) (st : Sto) (dx dy : D) (x y : V) (Q : VK), SR X.K H m st → RV X.K H m dx x → RV X.K H m dy y → Post X.K (okV X.K) E m H Q (f dx dy st) → r x y H Q)
    (hg : ∀ (E : XK) (m : Pl) (H : Hp) (st : Sto) (dx dy : D) (x y : V) (Q : VK), SR X.K H m st → RV X.K H m dx x → RV X.K H m dy y → Post X.K (okV X.K) E m H Q (g dx dy st) → r' x y H Q)
    {σ : L2.St} {H : Hp} {Q : VK} (h : rE X.K W (eChain f g ga gb gc) σ H Q) : tChain r r' (rE X.K W ga) (rE X.K W gb) (rE X.K W gc) σ H Q := by
  obtain ⟨env, m, st, hE, hS, hp⟩ := h
  refine ⟨env, m, st, hE, hS, hp.bind fun dx st1 x H1 m1 e1 p1 s1 r1 hp1 => ⟨env, m1, st1, hE.mono e1 p1, s1, hp1.bind fun dy st2 y H2 m2 e2 p2 s2 r2 hp2 => ?_⟩⟩
  refine hf _ m2 H2 st2 dx dy x y _ s2 (r1.mono e2 p2) r2 (hp2.bind fun dk st3 z H3 m3 e3 p3 s3 r3 hp3 => ?_)
  cases dk with
  | bl k =>
    cases r3
    refine ⟨k, rfl, ?_⟩
    cases k with
    | false => exact iteF (Post.here (v := .bl false) hp3 s3 .bl)
    | true =>
      refine iteT ⟨env, m3, st3, ((hE.mono e1 p1).mono e2 p2).mono e3 p3, s3, Post.bind (f := fun z st => g dy z st) hp3 fun dz st4 w H4 m4 e4 p4 s4 r4 hp4 => ?_⟩
      exact hg _ m4 H4 st4 dy dz y w Q s4 ((r2.mono e3 p3).mono e4 p4) r4 hp4
  | _ => exact hp3.elim
theorem e_chain {op op' : CmpOp} {f g : D → D → Sto → R D} (ho : OpF X (compareOp op) f) (ho' : OpF X (compareOp op') g) (ha : PE X a (rE X.K W ga)) (hb : PE X b (rE X.K W gb)) (hc : PE X c (rE X.K W gc))
    (hm : lastMarks [op, op'] [b, c] = false := by with_unfolding_all rfl) : PE X (.Compare a [op, op'] [b, c] pos) (rE X.K W (eChain f g ga gb gc)) := by
  obtain ⟨r, h1, h2⟩ := ho
  obtain ⟨r', h1', h2'⟩ := ho'
  exact (pe_chain h1 h1' ha hb hc hm).imp fun σ H Q h => chain_of h2 h2' h
theorem t_chain {op op' : CmpOp} {f g : D → D → Sto → R D} (ho : OpF X (compareOp op) f) (ho' : OpF X (compareOp op') g) (ha : PE X a (rE X.K W ga)) (hb : PE X b (rE X.K W gb)) (hc : PE X c (rE X.K W gc))
    (hm : lastMarks [op, op'] [b, c] = false := by with_unfolding_all rfl) : PT X (.Compare a [op, op'] [b, c] pos) (rT X.K W (tOf (eChain f g ga gb gc))) := by
  obtain ⟨r, h1, h2⟩ := ho
  obtain ⟨r', h1', h2'⟩ := ho'
  exact (pt_chain h1 h1' ha hb hc hm).imp fun σ H Q h => chain_of h2 h2' (test_of h)
end
end U
set_option Elab.async false
set_option linter.all false
set_option maxRecDepth 100000
set_option maxHeartbeats 4000000
namespace U
open PySem PySem.Spec PyProof.Rows L2

def seqOf (st : Sto) (d : D) : Option (List D) := match d with
  | .tup xs => some xs
  | .ref n => lstOf st n
  | _ => none
theorem seqOf_sq {K : PySem.W.Frag} {H : Hp} {m : Pl} {st : Sto} (s : SR K H m st) {d : D} {v : V} {xs : List D} (r : RV K H m d v) (h : seqOf st d = some xs) : ∃ a vs, v = .ref a ∧ (SqL K H a vs ∨ SqT K H a vs) ∧ RVs K H m xs vs := by
  cases d with
  | tup ys =>
    cases h
    cases r with
    | tup hq rs => exact ⟨_, _, rfl, .inr hq, rs⟩
  | ref n =>
    cases r with
    | ref hn =>
      obtain ⟨vs, hq, rs⟩ := s.sqL hn h
      exact ⟨_, vs, rfl, .inl hq, rs⟩
  | _ => cases h
def fLen (ds : List D) (st : Sto) : R D := match ds with
  | [.str x] => if x.length ≤ most then .ok (.int x.length) st else .fail
  | [d] => match seqOf st d with
    | some xs => .ok (.int xs.length) st
    | none => .fail
  | _ => .fail
theorem len_read {K : PySem.W.Frag} : CallF K (fun xs H Q => ∃ x n, xs = [x] ∧ LenV K x H n ∧ Q (.int n) H) fLen := fun E m H st ds vs Q s r hp => by
  unfold fLen at hp
  split at hp
  · rename_i x
    cases r with
    | cons r1 r2 =>
      cases r2
      cases r1
      split at hp
      · rename_i hl
        exact ⟨.str x, x.length, rfl, ⟨most_le hl, rfl⟩, Post.here (v := .int x.length) hp s .int⟩
      · exact hp.elim
  · rename_i d hd
    cases r with
    | cons r1 r2 =>
      cases r2
      split at hp
      · rename_i xs q
        obtain ⟨a, vs, rfl, hq, rs⟩ := seqOf_sq s r1 q
        refine ⟨.ref a, vs.length, rfl, ?_, ?_⟩
        · rcases hq with hq | hq
          · exact .inl ⟨vs, hq, rfl⟩
          · exact .inr ⟨vs, hq, rfl⟩
        · rw [← rs.length]
          exact Post.here (v := .int xs.length) hp s .int
      · exact hp.elim
  · exact hp.elim
def tyD (st : Sto) : D → Option String
  | .non => some "NoneType"
  | .bl _ => some "bool"
  | .int _ => some "int"
  | .str _ => some "str"
  | .tup _ => some "tuple"
  | .ref n => match st[n]? with
    | some (.lst _) => some "list"
    | some (.rol _) => some "list"
    | _ => none
def isiT (a b : String) : Bool := a == b || (a == "bool" && b == "int")
def kinds : List String := ["NoneType", "bool", "int", "str", "tuple", "list"]
def askd : List String := ["int", "bool", "str", "tuple", "list"]
theorem isi_tab : ∀ a ∈ kinds, ∀ b ∈ askd, kitB a b = some (isiT a b) := by decide +kernel
theorem tyD_mem {st : Sto} {d : D} {T : String} (h : tyD st d = some T) : T ∈ kinds := by
  cases d with
  | ref n =>
    unfold tyD at h
    simp only at h
    split at h
    · cases h; decide
    · cases h; decide
    · cases h
  | _ => cases h; decide
theorem tyD_ty {K : PySem.W.Frag} {H : Hp} {m : Pl} {st : Sto} (s : SR K H m st) {d : D} {v : V} {T : String} (r : RV K H m d v) (h : tyD st d = some T) : TyX K H v (.type T) := by
  cases d with
  | non => cases r; cases h; exact .base .non
  | bl b => cases r; cases h; exact .base (.bl b)
  | int i => cases r; cases h; exact .base (.int i)
  | str x => cases r; cases h; exact .base (.str x)
  | tup xs =>
    cases h
    cases r with
    | tup hq rs =>
      rcases hq with (hq | ⟨o, hq⟩) | ⟨o, its, n, hk, hc, _⟩
      · exact .base (.tup hq)
      · exact .fTuple hq
      · exact .kTuple hk hc
  | ref n =>
    cases r with
    | ref hn =>
      unfold tyD at h
      simp only at h
      split at h
      · rename_i xs q
        cases h
        obtain ⟨vs, e, _⟩ := s.ob _ _ _ hn q
        exact .base (.lst e)
      · rename_i xs q
        cases h
        obtain ⟨o, vs, e, _⟩ := s.ob _ _ _ hn q
        exact .base (.frz e)
      · cases h
def dIsi (T : String) (d : D) (st : Sto) : R D := match tyD st d with
  | some a => .ok (.bl (isiT a T)) st
  | none => .fail
section
variable {X : Cx} {W : WX} {a b c : Expr} {ga gb gc : EM} {es : List Expr} {gs : AM} {pos p p2 : Pos}
theorem e_isi (T : String) {x : Str} (hm : X.mg "isinstance" = none) (hmT : X.mg x = none) (ha : PE X a (rE X.K W ga)) (hvT : bootBuiltins x = some (.type T) := by decide +kernel) (hT : T ∈ askd := by decide) (hg : Gl X "isinstance" := by rfl) (hgT : Gl X x := by rfl) (hn : x ≠ "__name__" := by decide) (hd : (x == ("__debug__" : Str)) = false := by decide)
    (h1 : starEach [a, .Name x p2] X.env = (false, eval a X.env) :: starEach [.Name x p2] X.env := by rfl) (h2 : starEach [.Name x p2] X.env = (false, eval (.Name x p2) X.env) :: starEach [] X.env := by rfl) (hpl : (backTo pos (starEach [.Name x p2] X.env)).any (·.1) = false := by rfl) :
    PE X (.Call (.Name "isinstance" p) [a, .Name x p2] [] pos) (rE X.K W (eUn (dIsi T) ga)) :=
  (pe_callB call_isi hg hm boot_isinstance (pa_cons ha (pa_cons (pe_bltn (v := .ty T) hgT hmT hvT rfl hn hd) pa_nil h2) h1) (by decide) (by decide) h1 hpl).imp fun σ H Q ⟨env, m, st, hE, hS, hp⟩ => by
    refine ⟨env, m, st, hE, hS, hp.bind fun d st1 v H1 m1 e1 p1 s1 r1 hp1 => ?_⟩
    unfold dIsi at hp1
    split at hp1
    · rename_i k q
      exact ⟨v, .ty T, .type k, .type T, isiT k T, rfl, .ty T, tyD_ty s1 r1 q, kit_ty (isi_tab k (tyD_mem q) T hT), Post.here (v := .bl _) hp1 s1 .bl⟩
    · exact hp1.elim
theorem e_len {x : Str} (hm : X.mg "len" = none) (ha : PE X a (rE X.K W ga)) (hg : Gl X "len" := by rfl) (he : starEach [a] X.env = (false, eval a X.env) :: starEach [] X.env := by rfl) (hpl : (backTo pos (starEach [] X.env)).any (·.1) = false := by rfl) :
    PE X (.Call (.Name "len" p) [a] [] pos) (rE X.K W (eFn fLen (aCons ga aNil))) := e_callB (call_len) len_read hm PySem.boot_len (a_cons ha a_nil he) hg (by decide) (by decide) he hpl
def bools : List D → Option (List Bool)
  | [] => some []
  | .bl b :: r => (bools r).map (b :: ·)
  | _ :: _ => none
theorem bools_rv {K : PySem.W.Frag} {H : Hp} {m : Pl} : ∀ {xs : List D} {vs : List V} {bs : List Bool}, RVs K H m xs vs → bools xs = some bs → vs = bs.map V.bl
  | [], _, _, r, h => by cases r; cases h; rfl
  | .bl b :: xs, _, bs, r, h => by
    cases r with
    | cons r1 r2 =>
      cases r1
      obtain ⟨cs, e, rfl⟩ := Option.map_eq_some_iff.mp (show (bools xs).map (b :: ·) = some bs from h)
      rw [bools_rv r2 e]
      rfl
  | .non :: _, _, _, _, h => by cases h
  | .int _ :: _, _, _, _, h => by cases h
  | .str _ :: _, _, _, _, h => by cases h
  | .tup _ :: _, _, _, _, h => by cases h
  | .ref _ :: _, _, _, _, h => by cases h
def fAA (f : List Bool → Bool) (ds : List D) (st : Sto) : R D := match ds with
  | [.ref n] => match lstOf st n with
    | some xs => match bools xs with
      | some bs => .ok (.bl (f bs)) st
      | none => .fail
    | none => .fail
  | _ => .fail
theorem aa_read {K : PySem.W.Frag} {f : List Bool → Bool} : CallF K (fun vs H Q => ∃ (a : Addr) (bs : List Bool), vs = [V.ref a] ∧ SqL K H a (bs.map V.bl) ∧ Q (.bl (f bs)) H) (fAA f) := fun E m H st ds vs Q s r hp => by
  unfold fAA at hp
  split at hp
  · rename_i n
    cases r with
    | cons r1 r2 =>
      cases r2
      cases r1 with
      | @ref _ a hn =>
        split at hp
        · rename_i xs q
          split at hp
          · rename_i bs q2
            obtain ⟨ws, hq, rs⟩ := s.sqL hn q
            rw [bools_rv rs q2] at hq
            exact ⟨a, bs, rfl, hq, Post.here (v := .bl _) hp s .bl⟩
          · exact hp.elim
        · exact hp.elim
  · exact hp.elim
theorem e_all (hc : X.calm = true) (hm : X.mg "all" = none) (ha : PE X a (rE X.K W ga)) (hg : Gl X "all" := by rfl) (he : starEach [a] X.env = (false, eval a X.env) :: starEach [] X.env := by rfl) (hpl : (backTo pos (starEach [] X.env)).any (·.1) = false := by rfl) :
    PE X (.Call (.Name "all" p) [a] [] pos) (rE X.K W (eFn (fAA fun bs => bs.all id) (aCons ga aNil))) := e_callB (cr_all hc) aa_read hm PyProof.Rows.boot_all (a_cons ha a_nil he) hg (by decide) (by decide) he hpl
theorem e_any (hc : X.calm = true) (hm : X.mg "any" = none) (ha : PE X a (rE X.K W ga)) (hg : Gl X "any" := by rfl) (he : starEach [a] X.env = (false, eval a X.env) :: starEach [] X.env := by rfl) (hpl : (backTo pos (starEach [] X.env)).any (·.1) = false := by rfl) :
    PE X (.Call (.Name "any" p) [a] [] pos) (rE X.K W (eFn (fAA fun bs => bs.any id) (aCons ga aNil))) := e_callB (cr_any hc) aa_read hm PyProof.Rows.boot_any (a_cons ha a_nil he) hg (by decide) (by decide) he hpl
def fTup (ds : List D) (st : Sto) : R D := match ds with
  | [d] => match seqOf st d with
    | some xs => .ok (.tup xs) st
    | none => .fail
  | _ => .fail
def fList (ds : List D) (st : Sto) : R D := match ds with
  | [d] => match seqOf st d with
    | some xs => .ok (.ref st.length) (st ++ [.lst xs])
    | none => .fail
  | _ => .fail
theorem tup_read {K : PySem.W.Frag} : CallF K (fun xs H Q => ∃ p ys, xs = [.ref p] ∧ ((SqL K H p ys ∧ ∀ l, H l = none → Q (.ref l) (upd H l (.tup ys))) ∨ (SqT K H p ys ∧ Q (.ref p) H))) fTup := fun E m H st ds vs Q s r hp => by
  unfold fTup at hp
  split at hp
  · rename_i d
    cases r with
    | cons r1 r2 =>
      cases r2
      split at hp
      · rename_i xs q
        obtain ⟨a, vs, rfl, hq, rs⟩ := seqOf_sq s r1 q
        refine ⟨a, vs, rfl, ?_⟩
        rcases hq with hq | hq
        · exact .inl ⟨hq, fun l h => new_tup hp s rs h⟩
        · exact .inr ⟨hq, Post.here (v := .ref a) hp s (.tup hq rs)⟩
      · exact hp.elim
  · exact hp.elim
theorem list_read {K : PySem.W.Frag} : CallF K (fun xs H Q => ∃ p ys, xs = [.ref p] ∧ (SqL K H p ys ∨ SqT K H p ys) ∧ ∀ l, H l = none → Q (.ref l) (upd H l (.lst ys))) fList := fun E m H st ds vs Q s r hp => by
  unfold fList at hp
  split at hp
  · rename_i d
    cases r with
    | cons r1 r2 =>
      cases r2
      split at hp
      · rename_i xs q
        obtain ⟨a, vs, rfl, hq, rs⟩ := seqOf_sq s r1 q
        exact ⟨a, vs, rfl, hq, fun l h => new_lst hp s rs h⟩
      · exact hp.elim
  · exact hp.elim
theorem e_tuple (hm : X.mg "tuple" = none) (ha : PE X a (rE X.K W ga)) (hg : Gl X "tuple" := by rfl) (he : starEach [a] X.env = (false, eval a X.env) :: starEach [] X.env := by rfl) (hpl : (backTo pos (starEach [] X.env)).any (·.1) = false := by rfl) :
    PE X (.Call (.Name "tuple" p) [a] [] pos) (rE X.K W (eFn fTup (aCons ga aNil))) := e_callTy call_tuple_of tup_read hm PyProof.Rows.boot_tuple (a_cons ha a_nil he) hg (by decide) (by decide) he hpl
theorem e_list (hm : X.mg "list" = none) (ha : PE X a (rE X.K W ga)) (hg : Gl X "list" := by rfl) (he : starEach [a] X.env = (false, eval a X.env) :: starEach [] X.env := by rfl) (hpl : (backTo pos (starEach [] X.env)).any (·.1) = false := by rfl) :
    PE X (.Call (.Name "list" p) [a] [] pos) (rE X.K W (eFn fList (aCons ga aNil))) := e_callTy call_list_of list_read hm PyProof.Rows.boot_list (a_cons ha a_nil he) hg (by decide) (by decide) he hpl
def fAbs (ds : List D) (st : Sto) : R D := match ds with
  | [.int i] => .ok (.int (if i < 0 then -i else i)) st
  | _ => .fail
def fI2 (f : Int → Int → Int) (ds : List D) (st : Sto) : R D := match ds with
  | [.int i, .int j] => .ok (.int (f i j)) st
  | _ => .fail
theorem abs_read {K : PySem.W.Frag} : CallF K (fun xs H Q => ∃ i, xs = [.int i] ∧ Q (.int (if i < 0 then -i else i)) H) fAbs := fun E m H st ds vs Q s r hp => by
  unfold fAbs at hp
  split at hp
  · cases r with
    | cons r1 r2 => cases r2; cases r1; exact ⟨_, rfl, Post.here (v := .int _) hp s .int⟩
  · exact hp.elim
theorem i2_read {K : PySem.W.Frag} {f : Int → Int → Int} : CallF K (fun xs H Q => ∃ i j, xs = [.int i, .int j] ∧ Q (.int (f i j)) H) (fI2 f) := fun E m H st ds vs Q s r hp => by
  unfold fI2 at hp
  split at hp
  · cases r with
    | cons r1 r2 =>
      cases r2 with
      | cons r3 r4 => cases r4; cases r1; cases r3; exact ⟨_, _, rfl, Post.here (v := .int _) hp s .int⟩
  · exact hp.elim
theorem e_abs (hm : X.mg "abs" = none) (ha : PE X a (rE X.K W ga)) (hg : Gl X "abs" := by rfl) (he : starEach [a] X.env = (false, eval a X.env) :: starEach [] X.env := by rfl) (hpl : (backTo pos (starEach [] X.env)).any (·.1) = false := by rfl) :
    PE X (.Call (.Name "abs" p) [a] [] pos) (rE X.K W (eFn fAbs (aCons ga aNil))) := e_callB call_abs abs_read hm boot_abs (a_cons ha a_nil he) hg (by decide) (by decide) he hpl
abbrev iMax : Int → Int → Int := fun i j => if j > i then j else i
abbrev iMin : Int → Int → Int := fun i j => if j < i then j else i
theorem e_max2 (hc : X.calm = true) (hm : X.mg "max" = none) (ha : PE X a (rE X.K W ga)) (hb : PE X b (rE X.K W gb)) (hg : Gl X "max" := by rfl) (he : starEach [a, b] X.env = (false, eval a X.env) :: starEach [b] X.env := by rfl)
    (he2 : starEach [b] X.env = (false, eval b X.env) :: starEach [] X.env := by rfl) (hpl : (backTo pos (starEach [b] X.env)).any (·.1) = false := by rfl) :
    PE X (.Call (.Name "max" p) [a, b] [] pos) (rE X.K W (eFn (fI2 iMax) (aCons ga (aCons gb aNil)))) := e_callB (call_max2 hc) i2_read hm PyProof.Rows.boot_max (a_cons ha (a_cons hb a_nil he2) he) hg (by decide) (by decide) he hpl
theorem e_min2 (hc : X.calm = true) (hm : X.mg "min" = none) (ha : PE X a (rE X.K W ga)) (hb : PE X b (rE X.K W gb)) (hg : Gl X "min" := by rfl) (he : starEach [a, b] X.env = (false, eval a X.env) :: starEach [b] X.env := by rfl)
    (he2 : starEach [b] X.env = (false, eval b X.env) :: starEach [] X.env := by rfl) (hpl : (backTo pos (starEach [b] X.env)).any (·.1) = false := by rfl) :
    PE X (.Call (.Name "min" p) [a, b] [] pos) (rE X.K W (eFn (fI2 iMin) (aCons ga (aCons gb aNil)))) := e_callB (call_min2 hc) i2_read hm PyProof.Rows.boot_min (a_cons ha (a_cons hb a_nil he2) he) hg (by decide) (by decide) he hpl
def dNeg (d : D) (st : Sto) : R D := match d with
  | .int i => .ok (.int (-i)) st
  | _ => .fail
theorem e_neg (ha : PE X a (rE X.K W ga)) : PE X (.UnaryOp .USub a pos) (rE X.K W (eUn dNeg ga)) := (pe_un un_neg ha).imp fun σ H Q ⟨env, m, st, hE, hS, hp⟩ => by
  refine ⟨env, m, st, hE, hS, hp.bind fun d st1 v H1 m1 e1 p1 s1 r1 hp1 => ?_⟩
  cases d with
  | int i => cases r1; exact ⟨i, rfl, Post.here (v := .int (-i)) hp1 s1 .int⟩
  | _ => exact hp1.elim
def dIx (x y : D) (st : Sto) : R D := match seqOf st x, y with
  | some xs, .int i => match atI xs i with
    | some d => .ok d st
    | none => .fail
  | _, _ => .fail
theorem atI_rv {K : PySem.W.Frag} {H : Hp} {m : Pl} {xs : List D} {vs : List V} {i : Int} {d : D} (r : RVs K H m xs vs) (h : atI xs i = some d) : ∃ v, atI vs i = some v ∧ RV K H m d v := by
  unfold atI at h ⊢
  rw [← r.length]
  cases q : ixN xs.length i with
  | none => rw [q] at h; cases h
  | some j =>
    rw [q] at h
    exact r.get h
theorem e_ix (ha : PE X a (rE X.K W ga)) (hb : PE X b (rE X.K W gb)) (hs : PlainIx b := by exact fun _ _ => rfl) : PE X (.Subscript a b pos) (rE X.K W (eBin dIx ga gb)) := (pe_ix ix_seq ha hb hs).imp fun σ H Q h => bin_of (fun E m H st dx dy x y Q s rx ry hp => by
  unfold dIx at hp
  split at hp
  · rename_i xs i q
    split at hp
    · rename_i d q2
      obtain ⟨p, vs, rfl, hq, rs⟩ := seqOf_sq s rx q
      cases ry
      obtain ⟨v, e, rv⟩ := atI_rv rs q2
      have fin := Post.here (v := v) hp s rv
      rcases hq with hq | hq
      · exact .inl ⟨p, vs, i, v, rfl, rfl, hq, e, fin⟩
      · exact .inr (.inl ⟨p, vs, i, v, rfl, rfl, hq, e, fin⟩)
    · exact hp.elim
  · exact hp.elim) h
def cutD (xs : List D) (lo hi : Option Int) : List D := (xs.drop (HT.sIx xs.length 0 lo)).take (HT.sIx xs.length xs.length hi - HT.sIx xs.length 0 lo)
theorem cutD_rv {K : PySem.W.Frag} {H : Hp} {m : Pl} {xs : List D} {vs : List V} (r : RVs K H m xs vs) (lo hi : Option Int) : RVs K H m (cutD xs lo hi) (cutV vs lo hi) := by
  unfold cutD cutV
  rw [← r.length]
  exact (r.drop _).take _
def oM := Ev → Sto → R (Option Int)
def oNone : oM := fun _ st => .ok none st
def oSome (g : EM) : oM := fun env st => (g env st).bind fun d st => match d with
  | .int i => .ok (some i) st
  | _ => .fail
abbrev okO : Hp → Pl → Option Int → Option Int → Prop := fun _ _ b c => b = c
def rO (K : PySem.W.Frag) (W : WX) (g : oM) : TO := fun σ H Q => ∃ env m st, RE K H m env σ ∧ SR K H m st ∧ Post K okO (WE W σ) m H Q (g env st)
theorem _root_.L2.PO.imp {X : Cx} {e : Option Expr} {t t' : TO} (h : PO X e t) (i : ∀ σ H Q, t' σ H Q → t σ H Q) : PO X e t' := ⟨fun pins s σ H Q I q => h.run pins s σ H Q I (i _ _ _ q)⟩
theorem p_none : PO X none (rO X.K W oNone) := po_none.imp fun σ H Q ⟨env, m, st, hE, hS, hp⟩ => Post.here (v := none) hp hS rfl
theorem p_some (ha : PE X a (rE X.K W ga)) : PO X (some a) (rO X.K W (oSome ga)) := (po_some ha).imp fun σ H Q ⟨env, m, st, hE, hS, hp⟩ => by
  refine ⟨env, m, st, hE, hS, hp.bind fun d st1 v H1 m1 e1 p1 s1 r1 hp1 => ?_⟩
  cases d with
  | int i => cases r1; exact ⟨i, rfl, Post.here (v := some i) hp1 s1 rfl⟩
  | _ => exact hp1.elim
def sliceD (d : D) (lo hi : Option Int) (st : Sto) : R D := match d with
  | .tup xs => .ok (.tup (cutD xs lo hi)) st
  | .ref n => match lstOf st n with
    | some xs => .ok (.ref st.length) (st ++ [.lst (cutD xs lo hi)])
    | none => .fail
  | _ => .fail
def eSlice (g : EM) (lo hi : oM) : EM := fun env st => (g env st).bind fun d st => (lo env st).bind fun l st => (hi env st).bind fun h st => sliceD d l h st
theorem whole_cut {xs : List D} {lo hi : Option Int} (h : HT.sIx xs.length 0 lo = 0 ∧ HT.sIx xs.length xs.length hi = xs.length) : cutD xs lo hi = xs := by
  unfold cutD
  rw [h.1, h.2]
  simp
theorem e_slice {lo hi : Option Expr} {gl gh : oM} (ha : PE X a (rE X.K W ga)) (hl : PO X lo (rO X.K W gl)) (hh : PO X hi (rO X.K W gh)) : PE X (.Subscript a (.Slice lo hi none p2) pos) (rE X.K W (eSlice ga gl gh)) :=
  (pe_slice (sl_tupA.or sl_list) ha hl hh).imp fun σ H Q ⟨env, m, st, hE, hS, hp⟩ => by
  refine ⟨env, m, st, hE, hS, hp.bind fun d st1 v H1 m1 e1 p1 s1 r1 hp1 => ⟨env, m1, st1, hE.mono e1 p1, s1, hp1.bind fun l st2 l' H2 m2 e2 p2 s2 r2 hp2 => ⟨env, m2, st2, (hE.mono e1 p1).mono e2 p2, s2, hp2.bind fun h st3 h' H3 m3 e3 p3 s3 r3 hp3 => ?_⟩⟩⟩
  cases (show l = l' from r2)
  cases (show h = h' from r3)
  have r := (r1.mono e2 p2).mono e3 p3
  cases d with
  | tup xs =>
    cases r with
    | @tup _ a vs hq rs =>
      refine .inl ⟨a, vs, rfl, hq, fun hw => ?_, fun _ p hp => new_tup hp3 s3 (cutD_rv rs l h) hp⟩
      rw [← rs.length] at hw
      have hp4 : Post X.K (okV X.K) (WE W σ) m3 H3 Q (.ok (.tup (cutD xs l h)) st3) := hp3
      rw [whole_cut hw] at hp4
      exact Post.here (v := .ref a) hp4 s3 (.tup hq rs)
  | ref n =>
    cases r with
    | @ref _ a hn =>
      have hp4 : Post X.K (okV X.K) (WE W σ) m3 H3 Q (match lstOf st3 n with | some xs => .ok (.ref st3.length) (st3 ++ [.lst (cutD xs l h)]) | none => .fail) := hp3
      cases q : lstOf st3 n with
      | none => rw [q] at hp4; exact hp4.elim
      | some xs =>
        rw [q] at hp4
        obtain ⟨vs, hq, rs⟩ := s3.sqL hn q
        exact .inr ⟨a, vs, rfl, hq, fun p hp => new_lst hp4 s3 (cutD_rv rs l h) hp⟩
  | _ => exact hp3.elim
end
end U
set_option Elab.async false
set_option linter.all false
set_option maxRecDepth 100000
set_option maxHeartbeats 4000000
namespace U
open PySem PySem.Spec PyProof.Rows L2

def isLst (x : D) (st : Sto) : Bool := match x with
  | .ref n => (lstOf st n).isSome
  | _ => false
def eMtL (f : D → List D → Sto → R D) (ga : EM) (gs : AM) : EM := fun env st => (ga env st).bind fun x st => if isLst x st = true then (gs env st).bind fun xs st => f x xs st else .fail
def eMtL0 (f : D → List D → Sto → R D) (ga : EM) : EM := fun env st => (ga env st).bind fun x st => if isLst x st = true then f x [] st else .fail
def MtF (K : PySem.W.Frag) (r : V → List V → Hp → VK → Prop) (f : D → List D → Sto → R D) : Prop :=
  ∀ (E : XK) (m : Pl) (H : Hp) (st : Sto) (dx : D) (ds : List D) (x : V) (vs : List V) (Q : VK), SR K H m st → RV K H m dx x → RVs K H m ds vs → Post K (okV K) E m H Q (f dx ds st) → r x vs H Q
theorem isLst_ty {K : PySem.W.Frag} {H : Hp} {m : Pl} {st : Sto} {d : D} {v : V} (s : SR K H m st) (r : RV K H m d v) (h : isLst d st = true) : tyV K "list" v H := by
  cases d with
  | ref n =>
    cases r with
    | ref hn =>
      cases q : lstOf st n with
      | none => simp [isLst, q] at h
      | some xs =>
        obtain ⟨vs, hq, _⟩ := s.sqL hn q
        exact .inl ⟨rfl, vs, hq⟩
  | _ => cases h
section
variable {X : Cx} {W : WX} {a b c : Expr} {ga gb gc : EM} {es : List Expr} {gs : AM} {pos p p2 apos : Pos}
theorem e_mtL {name : Str} {id : String} {r : V → List V → Hp → VK → Prop} {f : D → List D → Sto → R D} (slot : Slot "list" name id) (hty : typeOf (.builtin id) = pure (.type "method_descriptor")) (hm : MtR X id r) (hf : MtF X.K r f) (ha : PE X a (rE X.K W ga)) (hb : PA X (b :: es) (rA X.K W gs))
    (hbase : attributeBase a name X.env (eval a X.env) = eval a X.env := by rfl)
    (hfew : ((backTo pos (starEach (b :: es) X.env)).all (fun x => !x.1) && (backToKw pos (keywordEach [] X.env)).all (fun x => x.1.isSome) && decide ((b :: es).length + ([] : List Keyword).length + (if ([] : List Keyword).isEmpty then 0 else 1) < 30)) = true := by rfl)
    (hline : (apos.endLine == pos.line) = true := by rfl) (hs : starEach (b :: es) X.env = (false, eval b X.env) :: starEach es X.env := by rfl) (hplain : (backTo pos (starEach es X.env)).any (·.1) = false := by rfl) :
    PE X (.Call (.Attribute a name apos) (b :: es) [] pos) (rE X.K W (eMtL f ga gs)) :=
  (pe_bm PySem.F.plainAttrs_list slot hty hm ha hb hbase hfew hline hs hplain).imp fun σ H Q ⟨env, m, st, hE, hS, hp⟩ => by
  refine ⟨env, m, st, hE, hS, hp.bind fun d st1 v H1 m1 e1 p1 s1 r1 hp1 => ?_⟩
  split at hp1
  · rename_i hl
    exact ⟨isLst_ty s1 r1 hl, env, m1, st1, hE.mono e1 p1, s1, hp1.bind fun ds st2 vs H2 m2 e2 p2 s2 r2 hp2 => hf _ m2 H2 st2 d ds v vs Q s2 (r1.mono e2 p2) r2 hp2⟩
  · exact hp1.elim
theorem e_mtL0 {name : Str} {id : String} {r : V → List V → Hp → VK → Prop} {f : D → List D → Sto → R D} (slot : Slot "list" name id) (hty : typeOf (.builtin id) = pure (.type "method_descriptor")) (hm : MtR X id r) (hf : MtF X.K r f) (ha : PE X a (rE X.K W ga))
    (hbase : attributeBase a name X.env (eval a X.env) = eval a X.env := by rfl) (hline : (apos.endLine == pos.line) = true := by rfl) :
    PE X (.Call (.Attribute a name apos) [] [] pos) (rE X.K W (eMtL0 f ga)) :=
  (pe_bm0 PySem.F.plainAttrs_list slot hty hm ha hbase hline).imp fun σ H Q ⟨env, m, st, hE, hS, hp⟩ => by
  refine ⟨env, m, st, hE, hS, hp.bind fun d st1 v H1 m1 e1 p1 s1 r1 hp1 => ?_⟩
  split at hp1
  · rename_i hl
    exact ⟨isLst_ty s1 r1 hl, hf _ m1 H1 st1 d [] v [] Q s1 r1 .nil hp1⟩
  · exact hp1.elim
def mAppend (x : D) (xs : List D) (st : Sto) : R D := match x, xs with
  | .ref n, [d] => match st[n]? with
    | some (.lst ys) => if ys.length < most then .ok .non (st.set n (.lst (ys ++ [d]))) else .fail
    | _ => .fail
  | _, _ => .fail
theorem write_lst {K : PySem.W.Frag} {E : XK} {m : Pl} {H : Hp} {st : Sto} {n : Nat} {p : Addr} {ys : List D} {vs ws : List V} {Q : VK} (s : SR K H m st) (hn : m[n]? = some p) {zs : List D} (h0 : st[n]? = some (.lst zs)) (e : H p = some (.lst vs)) (r : RVs K H m ys ws)
    (hp : Post K (okV K) E m H Q (.ok .non (st.set n (.lst ys)))) : Q .non (upd H p (.lst ws)) := by
  have ew : Ext H (upd H p (.lst ws)) := .write e (fun _ z => by cases z) (fun _ _ z => by cases z)
  exact hp .non _ m ew (List.prefix_refl m) (s.write (ob := .lst ys) hn h0 rfl e (fun _ z => by cases z) (fun _ _ z => by cases z) ⟨ws, upd_same, r.mono ew (List.prefix_refl m)⟩) .non
theorem append_read {K : PySem.W.Frag} : MtF K rAppend mAppend := fun E m H st dx ds x vs Q s rx rs hp => by
  unfold mAppend at hp
  split at hp
  · rename_i n d
    cases rx with
    | @ref _ a hn =>
      cases rs with
      | cons r1 r2 =>
        cases r2
        split at hp
        · rename_i ys q
          obtain ⟨ws, e, rw'⟩ := s.ob _ _ _ hn q
          split at hp
          · rename_i hl
            exact ⟨a, ws, _, rfl, rfl, e, by rw [← rw'.length]; exact most_lt hl, write_lst s hn q e (rw'.append (.one r1)) hp⟩
          · exact hp.elim
        · exact hp.elim
  · exact hp.elim
theorem e_append (ha : PE X a (rE X.K W ga)) (hb : PE X b (rE X.K W gb)) (hbase : attributeBase a "append" X.env (eval a X.env) = eval a X.env := by rfl)
    (hfew : ((backTo pos (starEach [b] X.env)).all (fun x => !x.1) && (backToKw pos (keywordEach [] X.env)).all (fun x => x.1.isSome) && decide ([b].length + ([] : List Keyword).length + (if ([] : List Keyword).isEmpty then 0 else 1) < 30)) = true := by rfl)
    (hline : (apos.endLine == pos.line) = true := by rfl) (hs : starEach [b] X.env = (false, eval b X.env) :: starEach [] X.env := by rfl) (hplain : (backTo pos (starEach [] X.env)).any (·.1) = false := by rfl) :
    PE X (.Call (.Attribute a "append" apos) [b] [] pos) (rE X.K W (eMtL mAppend ga (aCons gb aNil))) :=
  e_mtL PySem.F.slot_list_append PySem.F.type_list_append mt_append append_read ha (a_cons hb a_nil hs) hbase hfew hline hs hplain
def gSet (ga gb : EM) : D → Ev → Sto → Option (Ev × Sto) := fun d env st => match (ga env st).bind fun x st => (gb env st).bind fun y st => (match x, y with
    | .ref n, .int i => (match st[n]? with
      | some (.lst xs) => (match ixN xs.length i with
        | some j => .ok .non (st.set n (.lst (xs.set j d)))
        | none => .fail)
      | _ => .fail)
    | _, _ => .fail : R D) with
  | .ok _ st => some (env, st)
  | _ => none
theorem g_sub (ha : PE X a (rE X.K W ga)) (hb : PE X b (rE X.K W gb))
    (hasg : ∀ v, assign (.Subscript a b pos) X.env v = (do
      let ov ← holding [v] (eval a X.env)
      let iv ← holding [v, ov] (eval b X.env)
      standAt pos
      holding [v, ov, iv] (setItem ov iv v)
      release [v, ov, iv] []) := by intro _; rfl) : PG X (.Subscript a b pos) (rG X.K (gSet ga gb)) := (pg_sub ha hb set_list hasg).imp fun v σ H Q ⟨d, env, m, st, r, hE, hS, hp⟩ => by
  unfold gSet at hp
  refine ⟨env, m, st, hE, hS, ?_⟩
  cases q : ga env st with
  | fail => rw [q] at hp; exact hp.elim
  | err cc fs st1 => rw [q] at hp; exact hp.elim
  | ok x st1 =>
    rw [q] at hp
    intro vx H1 m1 e1 p1 s1 r1
    refine ⟨env, m1, st1, hE.mono e1 p1, s1, ?_⟩
    simp only [R.bind] at hp
    cases q2 : gb env st1 with
    | fail => rw [q2] at hp; exact hp.elim
    | err cc fs st2 => rw [q2] at hp; exact hp.elim
    | ok y st2 =>
      rw [q2] at hp
      intro vy H2 m2 e2 p2 s2 r2
      have rx := r1.mono e2 p2
      have rd := (r.mono e1 p1).mono e2 p2
      simp only at hp
      cases x with
      | ref n =>
        cases rx with
        | @ref _ ad hn =>
          cases y with
          | int i =>
            cases r2
            simp only at hp
            cases q3 : st2[n]? with
            | none => rw [q3] at hp; exact hp.elim
            | some o =>
              rw [q3] at hp
              cases o with
              | lst xs =>
                simp only at hp
                obtain ⟨ws, e, rw'⟩ := s2.ob _ _ _ hn q3
                cases q4 : ixN xs.length i with
                | none => rw [q4] at hp; exact hp.elim
                | some j =>
                  rw [q4] at hp
                  refine ⟨ad, ws, i, j, rfl, rfl, e, by rw [← rw'.length]; exact q4, ?_⟩
                  have ew : Ext H2 (upd H2 ad (.lst (ws.set j v))) := .write e (fun _ z => by cases z) (fun _ _ z => by cases z)
                  exact hp σ _ m2 ((e1.trans e2).trans ew) (p1.trans p2) (s2.write (ob := .lst (xs.set j d)) hn q3 rfl e (fun _ z => by cases z) (fun _ _ z => by cases z) ⟨_, upd_same, (rw'.set rd j).mono ew (List.prefix_refl _)⟩) (((hE.mono e1 p1).mono e2 p2).mono ew (List.prefix_refl _))
              | _ => exact hp.elim
          | _ => exact hp.elim
      | _ => exact hp.elim

def lookF (f : Str) : List (Str × D) → Option D
  | [] => none
  | (g, x) :: r => if g = f then some x else lookF f r
def putD (f : Str) (v : D) : List (Str × D) → List (Str × D)
  | [] => [(f, v)]
  | (g, x) :: r => if g = f then (g, v) :: r else (g, x) :: putD f v r
theorem look_rv {K : PySem.W.Frag} {H : Hp} {m : Pl} {f : Str} {d : D} : ∀ {fs : List (Str × D)} {vfs : List (Str × V)}, vfs.map (·.1) = fs.map (·.1) → RVs K H m (fs.map (·.2)) (vfs.map (·.2)) → lookF f fs = some d → ∃ v, vfs.lookup f = some v ∧ RV K H m d v
  | [], _, _, _, h => by cases h
  | (g, x) :: r, [], e, _, _ => by cases e
  | (g, x) :: r, (g', y) :: r', e, rs, h => by
    simp only [List.map_cons, List.cons.injEq] at e
    obtain ⟨e1, e2⟩ := e
    subst e1
    cases rs with
    | cons r1 r2 =>
      unfold lookF at h
      by_cases hg : g' = f
      · rw [if_pos hg] at h
        cases h
        subst hg
        exact ⟨y, by simp [List.lookup], r1⟩
      · rw [if_neg hg] at h
        obtain ⟨v, h1, h2⟩ := look_rv e2 r2 h
        refine ⟨v, ?_, h2⟩
        rw [List.lookup_cons, show (f == g') = false from beq_eq_false_iff_ne.mpr (Ne.symm hg)]
        exact h1
theorem put_rv {K : PySem.W.Frag} {H : Hp} {m : Pl} {f : Str} {d : D} {v : V} (rv : RV K H m d v) : ∀ {fs : List (Str × D)} {vfs : List (Str × V)}, vfs.map (·.1) = fs.map (·.1) → RVs K H m (fs.map (·.2)) (vfs.map (·.2)) →
    (putF f v vfs).map (·.1) = (putD f d fs).map (·.1) ∧ RVs K H m ((putD f d fs).map (·.2)) ((putF f v vfs).map (·.2))
  | [], [], _, _ => ⟨rfl, .one rv⟩
  | [], _ :: _, e, _ => by cases e
  | (g, x) :: r, [], e, _ => by cases e
  | (g, x) :: r, (g', y) :: r', e, rs => by
    simp only [List.map_cons, List.cons.injEq] at e
    obtain ⟨e1, e2⟩ := e
    subst e1
    cases rs with
    | cons r1 r2 =>
      unfold putF putD
      by_cases hg : g' = f
      · rw [if_pos hg, if_pos hg]
        exact ⟨by simp [e2], .cons rv r2⟩
      · rw [if_neg hg, if_neg hg]
        obtain ⟨h1, h2⟩ := put_rv (f := f) rv e2 r2
        exact ⟨by simp [h1], .cons r1 h2⟩
def dFld (c f : Str) (d : D) (st : Sto) : R D := match d with
  | .ref n => match st[n]? with
    | some (.ins c' fs) => if c' = c then (match lookF f fs with
      | some x => .ok x st
      | none => .fail) else .fail
    | _ => .fail
  | _ => .fail
theorem e_fld (c f : Str) (hc : Cls X.K (He.ga X.K c)) (hn : NoAttr X.K (He.ga X.K c) f) (ha : PE X a (rE X.K W ga)) (hb : attributeBase a f X.env (eval a X.env) = eval a X.env := by rfl) : PE X (.Attribute a f pos) (rE X.K W (eUn (dFld c f) ga)) :=
  (pe_fld ha hb).imp fun σ H Q ⟨env, m, st, hE, hS, hp⟩ => by
  refine ⟨env, m, st, hE, hS, hp.bind fun d st1 v H1 m1 e1 p1 s1 r1 hp1 => ?_⟩
  unfold dFld at hp1
  split at hp1
  · rename_i n
    cases r1 with
    | @ref _ ad hn' =>
      split at hp1
      · rename_i c' fs q
        by_cases hcc : c' = c
        · rw [if_pos hcc] at hp1
          subst hcc
          split at hp1
          · rename_i x q2
            obtain ⟨dx, vfs, h1, h2, h3, _⟩ := s1.ob _ _ _ hn' q
            obtain ⟨w, l, rw'⟩ := look_rv h2 h3 q2
            exact ⟨ad, _, dx, vfs, w, rfl, h1, hc, hn, l, Post.here (v := w) hp1 s1 rw'⟩
          · exact hp1.elim
        · rw [if_neg hcc] at hp1; exact hp1.elim
      · exact hp1.elim
  · exact hp1.elim
def setFld (c f : Str) (x d : D) (env : Ev) (st : Sto) : RS := match x with
  | .ref n => match st[n]? with
    | some (.ins c' fs) => if c' = c ∧ fs.length < 400 then .nx env (st.set n (.ins c (putD f d fs))) else .fail
    | _ => .fail
  | _ => .fail
def sFldM (c f : Str) (ga gv : EM) : SM := fun env st => (gv env st).then env fun d st => (ga env st).then env fun x st => setFld c f x d env st
theorem putD_len (f : Str) (d : D) : ∀ fs : List (Str × D), (putD f d fs).length ≤ fs.length + 1
  | [] => Nat.le_refl _
  | (g, x) :: r => by
    unfold putD
    split
    · simp
    · simp only [List.length_cons]
      have := putD_len f d r
      omega
theorem s_fld (c f : Str) {p' : Pos} (hc : Cls X.K (He.ga X.K c)) (hn : NoAttr X.K (He.ga X.K c) f) (ha : PE X a (rE X.K W ga)) (hb : PE X b (rE X.K W gb)) (hs : swapsWith b (some (.Attribute a f p')) pos.line X.env = pure false := by rfl) :
    PS X (.Assign [.Attribute a f p'] b pos) (rS X.K W (sFldM c f ga gb)) := (ps_fld ha hb hs).imp fun D σ H ⟨env, m, st, hE, hS, hp⟩ => by
  refine ⟨env, m, st, hE, hS, PostS.bind hE hp fun d st1 v H1 m1 e1 p1 s1 r1 hp1 => ⟨env, m1, st1, hE.mono e1 p1, s1, PostS.bind (hE.mono e1 p1) hp1 fun x st2 vx H2 m2 e2 p2 s2 r2 hp2 => ?_⟩⟩
  unfold setFld at hp2
  split at hp2
  · rename_i n
    cases r2 with
    | @ref _ ad hn' =>
      split at hp2
      · rename_i c' fs q
        by_cases hcc : c' = c ∧ fs.length < 400
        · rw [if_pos hcc] at hp2
          obtain ⟨hc1, hl⟩ := hcc
          subst hc1
          obtain ⟨dx, vfs, h1, h2, h3, h4⟩ := s2.ob _ _ _ hn' q
          have hv : vfs.length = fs.length := by
            have := congrArg List.length h2
            simpa using this
          refine ⟨ad, _, dx, vfs, rfl, h1, hc, hn, by omega, ?_⟩
          have ew : Ext H2 (upd H2 ad (.ins (He.ga X.K c') dx (putF f v vfs))) := .write h1 (fun _ z => by cases z) (fun _ _ z => by cases z)
          obtain ⟨g1, g2⟩ := put_rv (f := f) (r1.mono e2 p2) h2 h3
          refine hp2 σ _ m2 ew (List.prefix_refl _) (s2.write (ob := .ins c' (putD f d fs)) hn' q rfl h1 (fun _ z => by cases z) (fun _ _ z => by cases z) ⟨dx, _, upd_same, g1, g2.mono ew (List.prefix_refl _), ?_⟩) (((hE.mono e1 p1).mono e2 p2).mono ew (List.prefix_refl _))
          have := putD_len f d fs
          omega
        · rw [if_neg hcc] at hp2; exact hp2.elim
      · exact hp2.elim
  · exact hp2.elim
structure Mkr (P : Program) (w : World) (K : PySem.W.Frag) (mg : Str → Option Value) (base : Heap) (k : Nat) (c : Str) (n : Nat) (f : Fm) : Prop where
  ex : ∃ (fa : Addr) (fd : FuncData) (ps : List Str), FnOk P w K mg base (L2.CX P w) k fa fd ps (spF K (n + 1) f) ∧ mg c = some (.ref (He.ga K c)) ∧ Mk K (He.ga K c) fa ∧ Binds K fd ps []
  ar : Arity (n + 1) f
def mkIns (c : Str) (f : Fm) : Fm := fun ds st => (f (.ref st.length :: ds) (st ++ [.ins c []])).bind fun d st' => match d with
  | .non => .ok (.ref st.length) st'
  | _ => .fail
theorem e_make {E : XK} {k n : Nat} {cn : Str} {f : Fm} (F : Mkr X.prog X.w X.K X.mg X.base k cn n f) (tk : Takes X (WK E)) (hr : Room (k + 1) X.A) (ha : PA X (a :: es) (rA X.K (WK E) gs)) (hg : Gl X cn := by rfl)
    (hdb : (cn == ("__debug__" : Str)) = false := by decide) (he : starEach (a :: es) X.env = (false, eval a X.env) :: starEach es X.env := by rfl) (hpl : (backTo pos (starEach es X.env)).any (·.1) = false := by rfl) :
    PE X (.Call (.Name cn p) (a :: es) [] pos) (rE X.K (WK E) (eFn (mkIns cn f) gs)) := by
  obtain ⟨fa, fd, ps, ok, hm, hM, hb⟩ := F.ex
  refine (pe_make hM ok hr hg hm hb .nil (passes_call tk fun _ _ _ _ h => h) ha hdb he hpl).imp fun σ H Q ⟨env, m, st, hE, hS, hp⟩ => ?_
  refine ⟨env, m, st, hE, hS, hp.bind fun ds st1 vs H1 m1 e1 p1 s1 r1 hp1 => ?_⟩
  intro x dx nx ndx ne
  have n1 : (upd H1 dx (.own x)) x = none := by rw [upd_ne (Ne.symm ne)]; exact nx
  have sA : SR X.K (upd H1 dx (.own x)) m1 st1 := s1.tup ndx
  have sB : SR X.K (upd (upd H1 dx (.own x)) x (.ins (He.ga X.K cn) dx [])) (m1 ++ [x]) (st1 ++ [.ins cn []]) := sA.new (ob := .ins cn []) n1 ⟨dx, [], upd_same, rfl, .nil, by decide⟩
  have eB : Ext H1 (upd (upd H1 dx (.own x)) x (.ins (He.ga X.K cn) dx [])) := (Ext.new ndx).trans (.new n1)
  have pB : m1 <+: m1 ++ [x] := List.prefix_append _ _
  have hx : (m1 ++ [x])[st1.length]? = some x := by rw [← s1.len]; simp
  rw [List.append_nil]
  refine spF_of F.ar sB (.cons (.ref hx) (r1.mono eB pB)) ?_
  have hp2 : Post X.K (okV X.K) E m1 H1 Q ((f (.ref st1.length :: ds) (st1 ++ [.ins cn []])).bind fun d st' => match d with
    | .non => .ok (.ref st1.length) st'
    | _ => .fail) := hp1
  exact (Post.up hp2 eB pB).bind fun d st2 v H2 m2 e2 p2 s2 r2 hp3 => by
    cases d with
    | non => cases r2; exact ⟨rfl, Post.here (v := .ref x) hp3 s2 (.ref (pre_get p2 hx))⟩
    | _ => exact hp3.elim
end
end U
set_option Elab.async false
set_option linter.all false
set_option maxRecDepth 100000
set_option maxHeartbeats 4000000
namespace U
section
open PySem
open Sem (wp)
open AutoSeq1 (wpAny_loadPart')
abbrev tupIt (l : Addr) : Obj := { cls := .type "tuple_iterator", data := .fields #[.ref l, .int 0 0] }
abbrev enumO (i : Addr) : Obj := { cls := .type "enumerate", data := .fields #[.none, .bool false, .ref i, rawInt 0, .none, .none] }
theorem newT (l : Addr) (items : Array Value) (n : Nat) (dct : Option Addr) (sl : Array (Option Value)) :
    Meets (Builtin.«enumerate.__new__» ⟨[.type "enumerate", .ref l], []⟩) (fun _ Rr s => s.heap.get? l = some { cls := .type "tuple", dict := dct, data := .seq items n, slots := sl } ∧
      Rr (.ok (.ret (.ref (s.heap.push (tupIt l)).objs.size))) { s with heap := (s.heap.push (tupIt l)).push (enumO s.heap.objs.size) }) :=
  .of_wp fun prog w A Rr s h => by
    obtain ⟨hp, g, d, tk, os⟩ := s
    obtain ⟨hl, h⟩ := h
    have hsub := sub_enumerate
    have hT : Heap.IsTuple (Shared.heap ⟨hp, g, d, tk, os⟩) l items := ⟨_, hl, rfl, n, rfl⟩
    wp_walk using wpAny_loadPart' hl
    refine wpAny_stack_any fun st => wpAny_pure ?_
    split
    · rename_i c _ _ _ _ _
      cases (c == Value.type "enumerate")
      · wp_walk using wpAny_loadPart' hl, wpAny_pyIter_tuple hT
        exact ⟨_, rfl, h⟩
      · wp_walk using wpAny_loadPart' hl, wpAny_pyIter_tuple hT
        exact ⟨_, rfl, h⟩
    · wp_walk using wpAny_loadPart' hl, wpAny_pyIter_tuple hT
      exact ⟨_, rfl, h⟩
theorem call_enumT {prog : Program} {w : World} {A : Around} {E : Value → Shared → Prop} {s : Shared} {l : Addr} {items : Array Value} {Q : Value → Shared → Prop} (hT : s.heap.IsTuple l items)
    (h : ∀ h' : Heap, PySem.IsEnum h' (s.heap.objs.size + 1) s.heap.objs.size 0 .none → h'.IsTupleIter s.heap.objs.size l 0 → h'.objs.size = s.heap.objs.size + 2 → (∀ b o, s.heap.get? b = some o → h'.get? b = some o) → Q (.ref (s.heap.objs.size + 1)) { s with heap := h' }) :
    wpAny (model prog w) A (call (.type "enumerate") [.ref l]) Q E s := by
  obtain ⟨⟨c, dct, dt, sl⟩, hl, hc, n, hd⟩ := hT
  obtain rfl : c = .type "tuple" := hc
  obtain rfl : dt = .seq items n := hd
  refine callType_new F.called_enumerate (by decide) (F.typeCall_enumerate_1 _) (F.newCall_enumerate_1 _) (fun obj => F.args_object_init_2 obj _) F.entry_enumerate_new (newT l items n dct sl) ⟨hl, ?_⟩
  have hz : (s.heap.push (tupIt l)).objs.size = s.heap.objs.size + 1 := Heap.size_push ..
  have he : PySem.IsEnum ((s.heap.push (tupIt l)).push (enumO s.heap.objs.size)) (s.heap.objs.size + 1) s.heap.objs.size 0 .none := by
    have q := Heap.get?_push_size (s.heap.push (tupIt l)) (o := enumO s.heap.objs.size) rfl
    rw [hz] at q
    exact q
  show _ ∧ _
  rw [hz]
  exact ⟨⟨_, he, rfl⟩, h _ he ⟨_, Heap.get?_push_of_some _ (Heap.get?_push_size _ rfl), rfl, rfl⟩ (by rw [Heap.size_push, hz]) fun b o x => Heap.get?_push_of_some _ (Heap.get?_push_of_some _ x)⟩
theorem end_enumT {prog : Program} {w : World} {A : Around} {E : Value → Shared → Prop} {s : Shared} {e it t : Addr} {k : Nat} {items : Array Value} {old : Value} {Q : Option Value → Shared → Prop} (hh : A.in1.handled = none) (he : PySem.IsEnum s.heap e it k old)
    (hit : s.heap.IsTupleIter it t k) (ht : s.heap.IsTuple t items) (hx : items[k]? = none) (hQ : ∀ h', Heap.ExtBut it s.heap h' → Q none { s with heap := h' }) : wpAny (model prog w) A (pyNext (.ref e)) Q E s := by
  have tyE : s.TypeIs (.ref e) "enumerate" := ⟨_, he, rfl⟩
  unfold pyNext; refine wpAny_bind (wpAny_attempt (wpAny_callSpecial?_slot (name := Str.ofString "__next__") tyE F.slot_enumerate_next (wpAny_call_entry F.slot_enumerate_next tyE F.entry_enumerate_next ?_ (F.args_enumerate_next_1 _))))
  show wpAny _ _ (field (.ref e) 2 >>= _) _ _ s; refine wpAny_bind (wpAny_field he rfl (x := .ref it) rfl (wpAny_bind (wpAny_nextOf_tuple_end hh hit ht hx fun h2 x2 ext2 st2 => ?_)))
  obtain ⟨o2, g2, c2⟩ := st2
  exact wpAny_bind (wpAny_isInstance (T := "StopIteration") (b := true) ⟨o2, g2, c2⟩ isSubtype_stop (wpAny_pure (hQ _ ext2)))
end
open PySem PySem.Spec PyProof.Rows L2
def IteT (K : PySem.W.Frag) (a : Addr) : It where
  go := fun i H => ∃ (xs : List V) (x : V), SqT K H a xs ∧ xs[i]? = some x
  yld := fun i H v H' => ∃ T x, v = .ref T ∧ H T = none ∧ H' = upd H T (.tup [.int (i : Nat), x]) ∧ ∀ xs, SqT K H a xs → xs[i]? = some x
  stop := fun i H => ∃ xs : List V, SqT K H a xs ∧ xs.length ≤ i
theorem turn_enumT {P : Program} {w : World} {K : PySem.W.Frag} {elts : List Expr} {kk : Nat} {tpos : Pos} (a e it : Addr) :
    Turn P w K (.Tuple elts kk tpos) (IteT K a) [e, it] e (fun i h => (∃ old, PySem.IsEnum h e it ((i : Nat) : Int) old) ∧ h.IsTupleIter it a i ∧ e ≠ it ∧ a ≠ it ∧ e ≠ a) where
  mem := by simp
  obj := fun i h st b hb => by
    obtain ⟨⟨old, he⟩, ⟨o, ho, hc, hd⟩, _⟩ := st
    rcases (show b = e ∨ b = it by simpa using hb) with z | z
    · rw [z]; exact ⟨_, he, fun v q => nomatch q⟩
    · rw [z]; exact ⟨o, ho, fun v q => by rw [hd] at q; cases q⟩
  keep := fun i h h' st k => by
    obtain ⟨⟨old, he⟩, hi, hr⟩ := st
    exact ⟨⟨old, k e (by simp) _ he⟩, hi.at fun o q => k it (by simp) o q, hr⟩
  item := by
    intro X hP hw hK hc i pins s σ H E I hf st hg
    subst hP hw hK
    obtain ⟨⟨old, he⟩, hit, hne, hai, hea⟩ := st
    obtain ⟨xs, x, hq, hx⟩ := hg
    obtain ⟨its, rv, pT, hz⟩ := I.tuple hq
    obtain ⟨u, hu, ru⟩ := rv.get hx
    have hel : e < s.heap.objs.size := Heap.lt_size he
    have hil : it < s.heap.objs.size := by obtain ⟨_, q, _⟩ := hit; exact Heap.lt_size q
    have hpT : s.heap.IsTuple a its.toArray := pT
    have hlt : i < its.toArray.size := by
      obtain ⟨q, _⟩ := List.getElem?_eq_some_iff.mp hu
      simpa using q
    refine wpAny_pyNext_enum_itemD (Draws.tuple (A := X.A.in1) (show X.A.in1.handled = none from I.ok.hd hc) it a hai its.toArray) he ⟨hit, hpT⟩ hlt hne (by simp [hne, hea]) fun x' h' tk hP ho hst' hT hsz hk => ?_
    have ex' : x' = u := by
      have q1 : its.toArray[i]? = some x' := hP
      have q2 : its.toArray[i]? = some u := by simpa using hu
      rw [q2] at q1
      exact (Option.some.inj q1).symm
    subst ex'
    refine ⟨_, rfl, wpAny_letOwnedTupleGo_enum (s := { s with heap := h', toks := tk + 1 }) ho fun h2 he2 sb => ?_⟩
    have hT2 : h2.get? s.heap.objs.size = some { cls := .type "tuple", data := .seq #[.int i tk, x'] } := (sb.2 _ (Nat.ne_of_gt hel)).trans hT
    have new : ObjOk X.prog X.w (upd H s.heap.objs.size (.tup [.int (i : Nat), x])) h2 s.heap.objs.size (.tup [.int (i : Nat), x]) :=
      ⟨by show 2 ≤ sizeLine; decide, [.int i tk, x'], .cons ⟨_, rfl⟩ (.cons ru .nil), ⟨_, hT2, rfl, _, rfl⟩⟩
    have I1 : Inv X pins σ (upd H s.heap.objs.size (.tup [.int (i : Nat), x])) { s with heap := h2, toks := tk + 1 } :=
      I.turnedNew (ch := [e, it]) (fun b ob hb q => (sb.2 b (fun z => hb (by simp [z]))).trans (hk b ob (fun z => hb (by simp [z])) (fun z => hb (by simp [z])) q)) hf (Nat.le_refl _) new
    refine ⟨.ref s.heap.objs.size, _, I1, rfl, ⟨_, x, rfl, I.hok.fresh (Nat.le_refl _), rfl, fun ys hy => by rw [I.tuple_inj hy hq]; exact hx⟩, ⟨⟨x', ?_⟩, hst'.1.at fun o q => (sb.2 it (Ne.symm hne)).trans q, hne, hai, hea⟩, fun b hb => ?_⟩
    · rw [show ((i + 1 : Nat) : Int) = (i : Int) + 1 by omega]; exact he2
    · have hb' : b < s.heap.objs.size := by
        rcases (show b = e ∨ b = it by simpa using hb) with z | z
        · rw [z]; exact hel
        · rw [z]; exact hil
      rw [upd_ne (Nat.ne_of_lt hb')]
      exact (hf b hb).1
  done := by
    intro X hP hw hK hc i pins s σ H E I hf st hg
    subst hP hw hK
    obtain ⟨⟨old, he⟩, hit, hne, hai, hea⟩ := st
    obtain ⟨xs, hq, hx⟩ := hg
    obtain ⟨its, rv, pT, hz⟩ := I.tuple hq
    obtain ⟨f0, f1, f2, f3, f4, f5⟩ := hf it (by simp)
    have hl := rv.length
    exact end_enumT (show X.A.in1.handled = none from I.ok.hd hc) he hit (show s.heap.IsTuple a its.toArray from pT) (by simp; omega) fun h' eb => ⟨rfl, I.turned (t' := s.toks) (fun b o hb q => eb b o hb q) f0 f1 f3 f4 f5⟩
  self := fun A i s Q E st h => by
    obtain ⟨⟨_, he⟩, _⟩ := st
    exact wpAny_pyIter_enum he h
def iEnT (K : PySem.W.Frag) (ta : TA) : TI := fun σ H Rr => ta σ H fun vs H1 => ∃ a xs, vs = [.ref a] ∧ SqT K H1 a xs ∧ Rr (IteT K a) H1
theorem pi_enumT {X : Cx} {e : Expr} {ta : TA} {p pos tpos : Pos} {elts : List Expr} {kk : Nat} (hg : Gl X "enumerate") (hm : X.mg "enumerate" = none) (ha : PA X [e] ta) (hs : starEach [e] X.env = [(false, eval e X.env)]) :
    PI X (.Tuple elts kk tpos) (.Call (.Name "enumerate" p) [e] [] pos) (iEnT X.K ta) := by
  refine ⟨fun pins s σ H Rr I h => ?_⟩
  refine Call_ (ld_blt I hg hm boot_enumerate (PyProof.Rows.callWith_type1 (thn (ha.run pos pins s σ H _ I h) fun us s1 ⟨vs, H1, I1, r1, q1⟩ => ?_) hs rfl))
  obtain ⟨a, xs, ex, hq, q⟩ := q1
  subst ex
  obtain ⟨u0, rfl, r0⟩ := vals1 r1
  cases (show u0 = Value.ref a from r0)
  obtain ⟨its, rv, pT, hz⟩ := I1.tuple hq
  have aLt : a < s1.heap.objs.size := by
    obtain ⟨o, ho, _⟩ := pT
    exact Heap.lt_size ho
  refine call_enumT (show s1.heap.IsTuple a its.toArray from pT) fun h' he hit hsz hk => wpAny_pyIter_enum he ?_
  refine ⟨s1.heap.objs.size + 1, [s1.heap.objs.size + 1, s1.heap.objs.size], _, _, H1, rfl, I1.kept (h' := h') (t' := s1.toks) hk, turn_enumT a (s1.heap.objs.size + 1) s1.heap.objs.size, ⟨⟨.none, he⟩, hit, Nat.succ_ne_self _, Nat.ne_of_lt aLt, Nat.ne_of_gt (Nat.lt_succ_of_lt aLt)⟩, fun b hb => ?_, q⟩
  have hle : s1.heap.objs.size ≤ b := by
    rcases (show b = s1.heap.objs.size + 1 ∨ b = s1.heap.objs.size by simpa using hb) with z | z
    · rw [z]; exact Nat.le_succ _
    · rw [z]; exact Nat.le_refl _
  exact I1.fpOk hle (I1.hok.fresh hle)
theorem enum_get : ∀ {k : Nat} {xs : List D} {i : Nat} {d : D}, (enumFrom k xs)[i]? = some d → ∃ x, xs[i]? = some x ∧ d = .tup [.int ((k + i : Nat) : Int), x]
  | _, [], _, _, h => by simp [enumFrom] at h
  | k, x :: xs, 0, d, h => by
    simp [enumFrom] at h
    exact ⟨x, rfl, by rw [← h]; simp⟩
  | k, x :: xs, i + 1, d, h => by
    have h2 : (enumFrom (k + 1) xs)[i]? = some d := by simpa [enumFrom] using h
    obtain ⟨y, h3, h4⟩ := enum_get h2
    exact ⟨y, by simpa using h3, by rw [h4, show k + 1 + i = k + (i + 1) by omega]⟩
theorem enum_len : ∀ (k : Nat) (xs : List D), (enumFrom k xs).length = xs.length
  | _, [] => rfl
  | k, _ :: xs => by simp [enumFrom, enum_len (k + 1) xs]
theorem new_enum {K : PySem.W.Frag} {H : Hp} {m : Pl} {st : Sto} (s : SR K H m st) {T : Addr} (nT : H T = none) {i : Nat} {x : D} {vx : V} (rx : RV K H m x vx) :
    Ext H (upd H T (.tup [.int (i : Nat), vx])) ∧ SR K (upd H T (.tup [.int (i : Nat), vx])) m st ∧ RV K (upd H T (.tup [.int (i : Nat), vx])) m (.tup [.int ((0 + i : Nat) : Int), x]) (.ref T) :=
  ⟨.new nT, s.tup nT, .tup (.of upd_same) (.cons (by rw [Nat.zero_add]; exact .int) (.cons (rx.mono (.new nT) (List.prefix_refl m)) .nil))⟩
theorem okI_enumT {K : PySem.W.Frag} {H0 : Hp} {m0 : Pl} {p : Addr} {xs : List D} {vs : List V} (hq : SqT K H0 p vs) (r : RVs K H0 m0 xs vs) : okI K H0 m0 (.fix (enumFrom 0 xs)) (IteT K p) := fun i H m st ys e pr s h => by
  cases (show some (enumFrom 0 xs) = some ys from h)
  have hq' := e.sqT hq
  refine ⟨fun hn => ⟨vs, hq', none_len (by rw [enum_len]; exact r.length) hn⟩, fun d hd => ?_⟩
  obtain ⟨x, hx, rfl⟩ := enum_get hd
  obtain ⟨v, hv, rv⟩ := (r.mono e pr).get hx
  refine ⟨⟨vs, v, hq', hv⟩, fun z H' yl => ?_⟩
  obtain ⟨T, x', rfl, nT, rfl, f1⟩ := yl
  have a1 := f1 vs hq'
  rw [hv] at a1
  cases a1
  exact new_enum s nT rv
theorem okI_enumL {K : PySem.W.Frag} {H0 : Hp} {m0 : Pl} {p : Addr} {n : Nat} (hn : m0[n]? = some p) : okI K H0 m0 (.enumL n) (Ite K p) := fun i H m st ys e pr s h => by
  have h' : (lstOf st n).map (enumFrom 0) = some ys := h
  obtain ⟨xs, hl, rfl⟩ := Option.map_eq_some_iff.mp h'
  obtain ⟨vs, hq, r⟩ := s.sqL (pre_get pr hn) hl
  refine ⟨fun hn => ⟨vs, hq, none_len (by rw [enum_len]; exact r.length) hn⟩, fun d hd => ?_⟩
  obtain ⟨x, hx, rfl⟩ := enum_get hd
  obtain ⟨v, hv, rv⟩ := r.get hx
  refine ⟨⟨vs, v, hq, hv⟩, fun z H' yl => ?_⟩
  obtain ⟨T, x', rfl, nT, rfl, f1⟩ := yl
  have a1 := f1 vs hq
  rw [hv] at a1
  cases a1
  exact new_enum s nT rv
def enumSrc (d : D) (st : Sto) : R Src := match d with
  | .tup xs => .ok (.fix (enumFrom 0 xs)) st
  | .ref n => match lstOf st n with
    | some _ => .ok (.enumL n) st
    | none => .fail
  | _ => .fail
def iEnum (g : EM) : IM := fun env st => (g env st).bind enumSrc
theorem one_arg {X : Cx} {W : WX} {ga : EM} {σ : L2.St} {H : Hp} {Q : List V → Hp → Prop} (h : rE X.K W ga σ H fun x H1 => Q [x] H1) : tCons (rE X.K W ga) tNil σ H Q := h
theorem i_enum {X : Cx} {W : WX} {a : Expr} {ga : EM} {p pos tpos : Pos} {elts : List Expr} {kk : Nat} (hm : X.mg "enumerate" = none) (ha : PE X a (rE X.K W ga)) (hg : Gl X "enumerate" := by rfl) (hs : starEach [a] X.env = [(false, eval a X.env)] := by rfl)
    (hs2 : starEach [a] X.env = (false, eval a X.env) :: starEach [] X.env := by rfl) : PI X (.Tuple elts kk tpos) (.Call (.Name "enumerate" p) [a] [] pos) (rI X.K W (iEnum ga)) :=
  ((pi_enumT hg hm (pa_cons ha pa_nil hs2) hs).or (pi_enum hg hm (pa_cons ha pa_nil hs2) hs)).imp fun σ H Rr ⟨env, m, st, hE, hS, hp0⟩ => by
  have hp : Post X.K (okI X.K) (WE W σ) m H Rr ((ga env st).bind enumSrc) := hp0
  cases q : ga env st with
  | fail => rw [q] at hp; exact hp.elim
  | err cc fs st' => rw [q] at hp; exact .inl (one_arg ⟨env, m, st, hE, hS, by rw [q]; exact hp⟩)
  | ok d st' =>
    rw [q] at hp
    cases d with
    | tup xs =>
      refine .inl (one_arg ⟨env, m, st, hE, hS, ?_⟩)
      rw [q]
      intro v H1 m1 e1 p1 s1 r1
      cases r1 with
      | @tup _ ad vs hq rs => exact ⟨ad, vs, rfl, hq, hp _ H1 m1 e1 p1 s1 (okI_enumT hq rs)⟩
    | ref n =>
      refine .inr (one_arg ⟨env, m, st, hE, hS, ?_⟩)
      rw [q]
      intro v H1 m1 e1 p1 s1 r1
      cases r1 with
      | @ref _ ad hn =>
        have hp' : Post X.K (okI X.K) (WE W σ) m H Rr (match lstOf st' n with | some _ => .ok (.enumL n) st' | none => .fail) := hp
        cases g : lstOf st' n with
        | none => rw [g] at hp'; exact hp'.elim
        | some xs =>
          rw [g] at hp'
          obtain ⟨vs, hq, _⟩ := s1.sqL hn g
          exact ⟨ad, vs, rfl, hq, hp' _ H1 m1 e1 p1 s1 (okI_enumL hn)⟩
    | _ => exact hp.elim
end U
set_option Elab.async false
set_option linter.all false
set_option maxRecDepth 100000
set_option maxHeartbeats 4000000
namespace U
open PySem PySem.Spec PyProof.Rows L2
theorem binds_all {K : PySem.W.Frag} {x qual : Str} {params : Arguments} {body : List Stmt} {scope : Scope} {dvs : List V} {kws : List (Str × V)} {f : Addr} {fd : FuncData} {ps : List Str} (F : FunD K x qual params body scope dvs kws f fd) (hd : dvs ≠ []) {n : Nat} (hn : n = ps.length)
    (h : ∀ (T : Addr) (kV doc pm : Value) (an : Option Addr) (cdv ct : Value) (us its : List Value), us.length = n → its.length = dvs.length →
      ∃ k, bindArgs (PySem.W.fnOf x qual params body scope (.ref T) kV doc pm an cdv ct) ⟨us, []⟩ = seqItems? (.ref T) >>= k ∧ k (some its.toArray) = pure (ps.zip us)) : Binds K fd ps [] := by
  obtain ⟨ds, hv, hb⟩ := F.binds1 (ps := ps) n dvs.length hd (by omega) fun T kV doc pm an cdv ct us its hu hi => by
    obtain ⟨k, h1, h2⟩ := h T kV doc pm an cdv ct us its hu hi
    refine ⟨k, h1, ?_⟩
    rw [List.drop_eq_nil_of_le (by omega), List.append_nil]
    exact h2
  rw [List.drop_length] at hv
  cases hv
  exact hb
end U
set_option Elab.async false
set_option linter.all false
set_option maxRecDepth 100000
set_option maxHeartbeats 4000000
namespace U
open PySem PySem.Spec PyProof.Rows L2
mutual
def ren (ρ : Nat → Nat) : D → D
  | .tup xs => .tup (rens ρ xs)
  | .ref n => .ref (ρ n)
  | .non => .non
  | .bl b => .bl b
  | .int i => .int i
  | .str x => .str x
def rens (ρ : Nat → Nat) : List D → List D
  | [] => []
  | d :: ds => ren ρ d :: rens ρ ds
end
mutual
def Bnd (n : Nat) : D → Prop
  | .tup xs => Bnds n xs
  | .ref k => k < n
  | .non => True
  | .bl _ => True
  | .int _ => True
  | .str _ => True
def Bnds (n : Nat) : List D → Prop
  | [] => True
  | d :: ds => Bnd n d ∧ Bnds n ds
end
def renO (ρ : Nat → Nat) : Ob → Ob
  | .lst xs => .lst (rens ρ xs)
  | .rol xs => .rol (rens ρ xs)
  | .kst xs => .kst (rens ρ xs)
  | .ins c fs => .ins c (fs.map fun p => (p.1, ren ρ p.2))
def BndO (n : Nat) : Ob → Prop
  | .lst xs => Bnds n xs
  | .rol xs => Bnds n xs
  | .kst xs => Bnds n xs
  | .ins _ fs => Bnds n (fs.map (·.2))
section
variable {K : PySem.W.Frag} {H : Hp} {m ms : Pl} {ρ : Nat → Nat} {n : Nat}
mutual
theorem RV.back (hms : ∀ i, i < n → ∀ a, m[ρ i]? = some a → ms[i]? = some a) : ∀ {d : D} {v : V}, Bnd n d → RV K H m (ren ρ d) v → RV K H ms d v
  | .non, _, _, h => by simp only [ren] at h; cases h; exact .non
  | .bl _, _, _, h => by simp only [ren] at h; cases h; exact .bl
  | .int _, _, _, h => by simp only [ren] at h; cases h; exact .int
  | .str _, _, _, h => by simp only [ren] at h; cases h; exact .str
  | .tup xs, _, hb, h => by
    simp only [ren] at h
    simp only [Bnd] at hb
    cases h with
    | tup hq rs => exact .tup hq (RVs.back hms hb rs)
  | .ref k, _, hb, h => by
    simp only [ren] at h
    simp only [Bnd] at hb
    cases h with
    | ref hk => exact .ref (hms k hb _ hk)
theorem RVs.back (hms : ∀ i, i < n → ∀ a, m[ρ i]? = some a → ms[i]? = some a) : ∀ {ds : List D} {vs : List V}, Bnds n ds → RVs K H m (rens ρ ds) vs → RVs K H ms ds vs
  | [], _, _, h => by simp only [rens] at h; cases h; exact .nil
  | d :: ds, _, hb, h => by
    simp only [rens] at h
    simp only [Bnds] at hb
    cases h with
    | cons h1 h2 => exact .cons (RV.back hms hb.1 h1) (RVs.back hms hb.2 h2)
end
theorem rens_map : ∀ (fs : List (Str × D)), (fs.map fun p => (p.1, ren ρ p.2)).map (·.2) = rens ρ (fs.map (·.2))
  | [] => rfl
  | p :: fs => by simp only [List.map_cons, rens]; rw [← rens_map fs]
theorem OR.back (hms : ∀ i, i < n → ∀ a, m[ρ i]? = some a → ms[i]? = some a) {a : Addr} {o : Ob} (hb : BndO n o) (h : OR K H m a (renO ρ o)) : OR K H ms a o := by
  cases o with
  | lst xs => obtain ⟨vs, e, r⟩ := h; exact ⟨vs, e, r.back hms hb⟩
  | rol xs => obtain ⟨o, vs, e, r⟩ := h; exact ⟨o, vs, e, r.back hms hb⟩
  | kst xs => obtain ⟨vs, e, r⟩ := h; exact ⟨vs, e, r.back hms hb⟩
  | ins c fs =>
    obtain ⟨dx, vfs, e, e2, r, l⟩ := h
    refine ⟨dx, vfs, e, by rw [e2]; simp, ?_, by simpa using l⟩
    rw [rens_map] at r
    exact r.back hms hb
theorem renO_trk (o : Ob) : (renO ρ o).trk = o.trk := by cases o <;> rfl
mutual
theorem RV.bnd : ∀ {d : D} {v : V}, RV K H m d v → Bnd m.length d
  | .non, _, _ => by simp only [Bnd]
  | .bl _, _, _ => by simp only [Bnd]
  | .int _, _, _ => by simp only [Bnd]
  | .str _, _, _ => by simp only [Bnd]
  | .tup xs, _, h => by
    simp only [Bnd]
    cases h with
    | tup hq rs => exact RVs.bnd rs
  | .ref k, _, h => by
    simp only [Bnd]
    cases h with
    | ref hk => exact (List.getElem?_eq_some_iff.mp hk).1
theorem RVs.bnd : ∀ {ds : List D} {vs : List V}, RVs K H m ds vs → Bnds m.length ds
  | [], _, _ => by simp only [Bnds]
  | _ :: _, _, h => by
    simp only [Bnds]
    cases h with
    | cons h1 h2 => exact ⟨RV.bnd h1, RVs.bnd h2⟩
end
theorem OR.bnd {a : Addr} {o : Ob} (h : OR K H m a o) : BndO m.length o := by
  cases o with
  | lst xs => obtain ⟨vs, e, r⟩ := h; exact r.bnd
  | rol xs => obtain ⟨o, vs, e, r⟩ := h; exact r.bnd
  | kst xs => obtain ⟨vs, e, r⟩ := h; exact r.bnd
  | ins c fs => obtain ⟨dx, vfs, e, e2, r, l⟩ := h; exact r.bnd
theorem SR.bnd {st : Sto} (s : SR K H m st) {i : Nat} {o : Ob} (h : st[i]? = some o) : BndO st.length o := by
  obtain ⟨a, _, r⟩ := s.at h
  rw [← s.len]
  exact r.bnd
end
structure Fits (st st1 st' : Sto) (ρ : Nat → Nat) : Prop where
  len : st.length ≤ st1.length
  old : ∀ i, i < st.length → ρ i = i
  inj : ∀ i j, i < st1.length → j < st1.length → ρ i = ρ j → i = j
  ob : ∀ i o, st1[i]? = some o → st'[ρ i]? = some (renO ρ o)
def Good (st : Sto) : Prop := ∀ (i : Nat) (o : Ob), st[i]? = some o → BndO st.length o
structure Tells (m s : Fm) : Prop where
  ok : ∀ ds st d st1, Good st → Bnds st.length ds → s ds st = .ok d st1 → Good st1 ∧ Bnd st1.length d ∧ ∃ ρ st', m ds st = .ok (ren ρ d) st' ∧ Fits st st1 st' ρ
  err : ∀ ds st c fs st1, Good st → Bnds st.length ds → s ds st = .err c fs st1 → Good st1 ∧ Bnds st1.length (fs.map (·.2)) ∧ ∃ ρ st', m ds st = .err c (fs.map fun p => (p.1, ren ρ p.2)) st' ∧ Fits st st1 st' ρ
section
variable {K : PySem.W.Frag} {H H' : Hp} {m0 m' : Pl} {st st1 st' : Sto} {ρ : Nat → Nat}
def placed (m' : Pl) (ρ : Nat → Nat) (n : Nat) : Pl := (List.range n).map fun i => m'.getD (ρ i) 0
theorem placed_get (f : Fits st st1 st' ρ) (hl : m'.length = st'.length) {i : Nat} (hi : i < st1.length) : (placed m' ρ st1.length)[i]? = m'[ρ i]? := by
  unfold placed
  rw [List.getElem?_map, List.getElem?_range hi]
  have ho : st1[i]? = some st1[i] := by simp [hi]
  have h2 := f.ob i _ ho
  have h3 : ρ i < m'.length := by rw [hl]; exact (List.getElem?_eq_some_iff.mp h2).1
  simp [List.getD, h3]
theorem placed_ok (f : Fits st st1 st' ρ) (hl : m'.length = st'.length) : ∀ i, i < st1.length → ∀ a, m'[ρ i]? = some a → (placed m' ρ st1.length)[i]? = some a := fun i hi a e => by rw [placed_get f hl hi]; exact e
theorem placed_pre (f : Fits st st1 st' ρ) (hl : m'.length = st'.length) (h0 : m0.length = st.length) (p : m0 <+: m') : m0 <+: placed m' ρ st1.length := by
  have hlen : (placed m' ρ st1.length).length = st1.length := by simp [placed]
  rw [List.prefix_iff_eq_take]
  apply List.ext_getElem?
  intro i
  by_cases hi : i < m0.length
  · have hi1 : i < st1.length := by have := f.len; omega
    rw [List.getElem?_take, if_pos hi, placed_get f hl hi1, f.old i (by omega)]
    have e : m0[i]? = some m0[i] := by simp [hi]
    rw [e, pre_get p e]
  · rw [List.getElem?_eq_none (by omega), List.getElem?_eq_none (by rw [List.length_take]; omega)]
theorem placed_sr (f : Fits st st1 st' ρ) (g : Good st1) (s : SR K H' m' st') : SR K H' (placed m' ρ st1.length) st1 := by
  have back : ∀ {i : Nat} {a : Addr} {o : Ob}, (placed m' ρ st1.length)[i]? = some a → st1[i]? = some o → m'[ρ i]? = some a ∧ st'[ρ i]? = some (renO ρ o) ∧ i < st1.length := fun {i a o} h1 h2 => by
    have hi : i < st1.length := (List.getElem?_eq_some_iff.mp h2).1
    rw [placed_get f s.len hi] at h1
    exact ⟨h1, f.ob i o h2, hi⟩
  refine ⟨by simp [placed], fun i j a oi oj h1 h2 h3 h4 t1 t2 => ?_, fun i a o h1 h2 => ?_⟩
  · obtain ⟨x1, x2, x3⟩ := back h1 h3
    obtain ⟨y1, y2, y3⟩ := back h2 h4
    exact f.inj i j x3 y3 (s.nd _ _ a _ _ x1 y1 x2 y2 (by rw [renO_trk]; exact t1) (by rw [renO_trk]; exact t2))
  · obtain ⟨x1, x2, x3⟩ := back h1 h2
    exact (s.ob _ a _ x1 x2).back (placed_ok f s.len) (g i o h2)
end
theorem SR.good {K : PySem.W.Frag} {H : Hp} {m : Pl} {st : Sto} (s : SR K H m st) : Good st := fun i o h => s.bnd h
theorem spF_tells {K : PySem.W.Frag} {n : Nat} {m s : Fm} (t : Tells m s) {vs : List V} {H : Hp} {Q : VK} {E : XK} (h : spF K n s vs H Q E) : spF K n m vs H Q E := by
  obtain ⟨hl, ds, m0, st, r, sr, hp⟩ := h
  refine ⟨hl, ds, m0, st, r, sr, ?_⟩
  have hb : Bnds st.length ds := by rw [← sr.len]; exact r.bnd
  cases q : s ds st with
  | fail => rw [q] at hp; exact hp.elim
  | ok d st1 =>
    rw [q] at hp
    obtain ⟨g1, b1, ρ, st', e, f⟩ := t.ok ds st d st1 sr.good hb q
    rw [e]
    intro v H' m' x p s' rv
    exact hp v H' _ x (placed_pre f s'.len sr.len p) (placed_sr f g1 s') (rv.back (placed_ok f s'.len) b1)
  | err c fs st1 =>
    rw [q] at hp
    obtain ⟨g1, b1, ρ, st', e, f⟩ := t.err ds st c fs st1 sr.good hb q
    rw [e]
    intro dO H' m' x p s' xr
    refine hp dO H' _ x (placed_pre f s'.len sr.len p) (placed_sr f g1 s') ?_
    rcases xr with ⟨e1, e2⟩ | ⟨dd, vfs, e1, e2, e3, e4⟩
    · exact .inl ⟨by simpa using e1, e2⟩
    · rw [rens_map] at e4
      exact .inr ⟨dd, vfs, e1, e2, by rw [e3]; simp, e4.back (placed_ok f s'.len) b1⟩
theorem Fn.by {P : Program} {w : World} {K : PySem.W.Frag} {mg : Str → Option Value} {base : Heap} {k : Nat} {x : Str} {n : Nat} {m s : Fm} (F : Fn P w K mg base k x n m) (t : Tells m s) (ar : Arity n s) : Fn P w K mg base k x n s := by
  obtain ⟨a, fd, ps, ok, h1, h2, h3⟩ := F.ex
  exact ⟨⟨a, fd, ps, ok.imp fun vs H Q E h => spF_tells t h, h1, h2, h3⟩, ar⟩
theorem Mkr.by {P : Program} {w : World} {K : PySem.W.Frag} {mg : Str → Option Value} {base : Heap} {k : Nat} {x : Str} {n : Nat} {m s : Fm} (F : Mkr P w K mg base k x n m) (t : Tells m s) (ar : Arity (n + 1) s) : Mkr P w K mg base k x n s := by
  obtain ⟨a, fd, ps, ok, h1, h2, h3⟩ := F.ex
  exact ⟨⟨a, fd, ps, ok.imp fun vs H Q E h => spF_tells t h, h1, h2, h3⟩, ar⟩
end U
set_option Elab.async false
set_option linter.all false
set_option maxRecDepth 100000
set_option maxHeartbeats 4000000
namespace U
open PySem PySem.Spec PyProof.Rows L2
mutual
theorem ren_id : ∀ d : D, ren id d = d
  | .tup xs => by simp only [ren]; rw [rens_id xs]
  | .ref n => by simp only [ren, id]
  | .non => by simp only [ren]
  | .bl b => by simp only [ren]
  | .int i => by simp only [ren]
  | .str x => by simp only [ren]
theorem rens_id : ∀ ds : List D, rens id ds = ds
  | [] => by simp only [rens]
  | d :: ds => by simp only [rens]; rw [ren_id d, rens_id ds]
end
theorem renO_id (o : Ob) : renO id o = o := by
  cases o with
  | lst xs => simp only [renO, rens_id]
  | rol xs => simp only [renO, rens_id]
  | kst xs => simp only [renO, rens_id]
  | ins c fs =>
    simp only [renO]
    congr 1
    induction fs with
    | nil => rfl
    | cons p fs ih => rw [List.map_cons, ren_id, ih]
def obs (n : Nat) (f : List D → Sto → Option D) : Fm := fun ds st => if ds.length = n then (match f ds st with
  | some d => .ok d st
  | none => .fail) else .fail
theorem obs_ar {n : Nat} {f : List D → Sto → Option D} : Arity n (obs n f) := fun ds st h => if_neg h
theorem obs_ok {n : Nat} {f : List D → Sto → Option D} {ds : List D} {st : Sto} {d : D} (hl : ds.length = n) (h : f ds st = some d) : obs n f ds st = .ok d st := by
  unfold obs
  rw [if_pos hl, h]
theorem obs_inv {n : Nat} {f : List D → Sto → Option D} {ds : List D} {st st1 : Sto} {d : D} (h : obs n f ds st = .ok d st1) : ds.length = n ∧ f ds st = some d ∧ st1 = st := by
  unfold obs at h
  split at h
  · rename_i hl
    split at h
    · rename_i d' q
      cases h
      exact ⟨hl, q, rfl⟩
    · cases h
  · cases h
theorem obs_noerr {n : Nat} {f : List D → Sto → Option D} {ds : List D} {st st1 : Sto} {c : Str} {fs : List (Str × D)} (h : obs n f ds st = .err c fs st1) : False := by
  unfold obs at h
  split at h
  · split at h <;> cases h
  · cases h
theorem fits_app {st ex : Sto} : Fits st st (st ++ ex) id :=
  ⟨Nat.le_refl _, fun _ _ => rfl, fun _ _ _ _ h => h, fun i o h => by rw [renO_id]; show (st ++ ex)[i]? = some o; rw [List.getElem?_append_left (List.getElem?_eq_some_iff.mp h).1]; exact h⟩
theorem Tells.obs {m : Fm} {n : Nat} {f : List D → Sto → Option D} (h : ∀ ds st d, Good st → Bnds st.length ds → ds.length = n → f ds st = some d → Bnd st.length d ∧ ∃ ex, m ds st = .ok d (st ++ ex)) : Tells m (U.obs n f) where
  ok := fun ds st d st1 g b e => by
    obtain ⟨hl, hf, rfl⟩ := obs_inv e
    obtain ⟨h1, ex, h2⟩ := h ds st1 d g b hl hf
    exact ⟨g, h1, id, st1 ++ ex, by rw [ren_id]; exact h2, fits_app⟩
  err := fun ds st c fs st1 g b e => (obs_noerr e).elim
theorem get_end {st : Sto} {o : Ob} : (st ++ [o])[st.length]? = some o := by simp
theorem set_end {st : Sto} {o o' : Ob} : (st ++ [o]).set st.length o' = st ++ [o'] := by simp
theorem runLc_pure {s : Src} {g : GM} {t : TM} {e : EM} {env : Ev} {st : Sto} {xs : List D} {p : D → Bool} {f : D → D} (hs : ∀ acc, s.at (st ++ [.lst acc]) = some xs) (hm : xs.length ≤ most)
    (h : ∀ x ∈ xs, ∀ acc, ∃ env1, g x env (st ++ [.lst acc]) = some (env1, st ++ [.lst acc]) ∧ t env1 (st ++ [.lst acc]) = .ok (p x) (st ++ [.lst acc]) ∧ (p x = true → e env1 (st ++ [.lst acc]) = .ok (f x) (st ++ [.lst acc]))) :
    ∀ (k i : Nat) (acc : List D), xs.length = i + k → acc.length ≤ i → runLc s g t e st.length env (k + 1) i (st ++ [.lst acc]) = .ok (.ref st.length) (st ++ [.lst (acc ++ ((xs.drop i).filter p).map f)])
  | 0, i, acc, hk, ha => by
    unfold runLc
    simp only [hs]
    rw [List.getElem?_eq_none (by omega)]
    simp [List.drop_eq_nil_of_le (show xs.length ≤ i by omega)]
  | k + 1, i, acc, hk, ha => by
    have hi : i < xs.length := by omega
    obtain ⟨env1, h1, h2, h3⟩ := h xs[i] (List.getElem_mem hi) acc
    unfold runLc
    simp only [hs]
    rw [List.getElem?_eq_getElem hi]
    simp only [h1, h2, R.bind]
    have hd : xs.drop i = xs[i] :: xs.drop (i + 1) := (List.drop_eq_getElem_cons hi)
    cases hp : p xs[i] with
    | false =>
      simp only [Bool.false_eq_true, if_false]
      rw [runLc_pure hs hm h k (i + 1) acc (by omega) (by omega), hd, List.filter_cons_of_neg (by rw [hp]; decide)]
    | true =>
      simp only [if_true, h3 hp, get_end, set_end]
      rw [if_pos (by omega), runLc_pure hs hm h k (i + 1) _ (by omega) (by simp; omega), hd, List.filter_cons_of_pos hp, List.map_cons, List.append_assoc]
      rfl
theorem startLc_pure {s : Src} {g : GM} {t : TM} {e : EM} {env : Ev} {st : Sto} {xs : List D} {p : D → Bool} {f : D → D} (h0 : s.at st = some xs) (hm : xs.length ≤ most)
    (h : ∀ x ∈ xs, ∀ acc, ∃ env1, g x env (st ++ [.lst acc]) = some (env1, st ++ [.lst acc]) ∧ t env1 (st ++ [.lst acc]) = .ok (p x) (st ++ [.lst acc]) ∧ (p x = true → e env1 (st ++ [.lst acc]) = .ok (f x) (st ++ [.lst acc]))) :
    startLc g t e env s st = .ok (.ref st.length) (st ++ [.lst ((xs.filter p).map f)]) := by
  unfold startLc
  rw [h0]
  simp only
  rw [runLc_pure (fun acc => src_at_app h0) hm h xs.length 0 [] (by omega) (by simp)]
  simp
theorem startLc_map {s : Src} {g : GM} {e : EM} {env : Ev} {st : Sto} {xs : List D} {f : D → D} (h0 : s.at st = some xs) (hm : xs.length ≤ most)
    (h : ∀ x ∈ xs, ∀ acc, ∃ env1, g x env (st ++ [.lst acc]) = some (env1, st ++ [.lst acc]) ∧ e env1 (st ++ [.lst acc]) = .ok (f x) (st ++ [.lst acc])) :
    startLc g tTrue e env s st = .ok (.ref st.length) (st ++ [.lst (xs.map f)]) := by
  rw [startLc_pure (p := fun _ => true) (f := f) h0 hm fun x hx acc => ?_]
  · rw [List.filter_eq_self.mpr (by simp)]
  · obtain ⟨env1, h1, h2⟩ := h x hx acc
    exact ⟨env1, h1, rfl, fun _ => h2⟩
theorem lstOf_end {st : Sto} {xs : List D} : lstOf (st ++ [.lst xs]) st.length = some xs := by unfold lstOf; rw [get_end]
theorem bools_map : ∀ bs : List Bool, bools (bs.map D.bl) = some bs
  | [] => rfl
  | b :: bs => by simp only [List.map_cons, bools, bools_map bs, Option.map_some]
theorem bools_mapf {α : Type} (f : α → Bool) (xs : List α) : bools (xs.map fun x => D.bl (f x)) = some (xs.map f) := by
  have := bools_map (xs.map f)
  rw [List.map_map] at this
  exact this
theorem aa_end {F : List Bool → Bool} {α : Type} {f : α → Bool} {xs : List α} {st : Sto} : fAA F [.ref st.length] (st ++ [.lst (xs.map fun x => D.bl (f x))]) = .ok (.bl (F (xs.map f))) (st ++ [.lst (xs.map fun x => D.bl (f x))]) := by
  unfold fAA
  simp only [lstOf_end, bools_mapf]
theorem runFor_fold {s : Src} {g : GM} {body : SM} {st : Sto} {xs : List D} (hs : s.at st = some xs) (I : Ev → Prop) (step : Ev → D → Ev)
    (h : ∀ x ∈ xs, ∀ env, I env → ∃ env1, g x env st = some (env1, st) ∧ body env1 st = .nx (step env x) st ∧ I (step env x)) :
    ∀ (k i : Nat) (env : Ev), xs.length = i + k → I env → runFor s g body (k + 1) i env st = .nx ((xs.drop i).foldl step env) st
  | 0, i, env, hk, hI => by
    unfold runFor
    simp only [hs]
    rw [List.getElem?_eq_none (by omega), List.drop_eq_nil_of_le (by omega)]
    rfl
  | k + 1, i, env, hk, hI => by
    have hi : i < xs.length := by omega
    obtain ⟨env1, h1, h2, h3⟩ := h xs[i] (List.getElem_mem hi) env hI
    unfold runFor
    simp only [hs]
    rw [List.getElem?_eq_getElem hi, List.drop_eq_getElem_cons hi]
    simp only [h1, h2, List.foldl_cons]
    exact runFor_fold hs I step h k (i + 1) _ (by omega) h3
theorem startFor_fold {s : Src} {g : GM} {body : SM} {st : Sto} {xs : List D} {env : Ev} (hs : s.at st = some xs) (I : Ev → Prop) (step : Ev → D → Ev) (h0 : I env)
    (h : ∀ x ∈ xs, ∀ env, I env → ∃ env1, g x env st = some (env1, st) ∧ body env1 st = .nx (step env x) st ∧ I (step env x)) : startFor g body env s st = .nx (xs.foldl step env) st := by
  unfold startFor
  rw [hs]
  simp only
  rw [runFor_fold hs I step h xs.length 0 env (by omega) h0]
  rfl
theorem tyD_app {st ex : Sto} {d : D} {t : String} (h : tyD st d = some t) : tyD (st ++ ex) d = some t := by
  cases d with
  | ref n =>
    have hn : n < st.length := by
      by_cases hn : n < st.length
      · exact hn
      · unfold tyD at h; simp only at h; rw [List.getElem?_eq_none (by omega)] at h; cases h
    unfold tyD at h ⊢
    simp only at h ⊢
    rw [List.getElem?_append_left hn]
    exact h
  | _ => exact h
def kn (st : Sto) (d : D) : Bool := (tyD st d).isSome
theorem kn_app {st ex : Sto} {d : D} (h : kn st d = true) : kn (st ++ ex) d = true := by
  obtain ⟨t, e⟩ := Option.isSome_iff_exists.mp h
  unfold kn
  rw [tyD_app e]
  rfl
end U
set_option Elab.async false
set_option linter.all false
set_option maxRecDepth 100000
set_option maxHeartbeats 4000000
namespace U
open PySem
section
variable {f h : D → D → Sto → R D} {f1 : D → Sto → R D} {fm : Fm} {a b c : EM} {t t2 : TM} {as : AM} {s s2 : SM} {src : IM} {g g' : GM} {gs : GMs} {env : Ev} {st : Sto} {i j n k slots : Nat} {d : D} {ds : List D} {vs : List Nat} {α β : Type} {r : R α} {x : α} {cn fd : Str} {fs : List (Str × D)}
theorem ev_var : eVar i env st = (match env[i]? with | some (some d) => .ok d st | _ => .fail) := rfl
theorem ev_c : eC d env st = .ok d st := rfl
theorem ev_un : eUn f1 a env st = (a env st).bind f1 := rfl
theorem ev_bin : eBin f a b env st = (a env st).bind fun x st => (b env st).bind fun y st => f x y st := rfl
theorem ev_anil : aNil env st = .ok [] st := rfl
theorem ev_acons : aCons a as env st = (a env st).bind fun x st => (as env st).bind fun xs st => .ok (x :: xs) st := rfl
theorem ev_fn : eFn fm as env st = (as env st).bind fm := rfl
theorem ev_tof : tOf a env st = (a env st).bind toB := rfl
theorem ev_tob {q : Bool} : toB (.bl q) st = .ok q st := rfl
theorem ev_tand : tAnd t t2 env st = (t env st).bind fun c st => if c = true then t2 env st else .ok false st := rfl
theorem ev_tor : tOr t t2 env st = (t env st).bind fun c st => if c = true then .ok true st else t2 env st := rfl
theorem ev_tnot : tNot t env st = (t env st).bind fun c st => .ok (!c) st := rfl
theorem ev_and : eAnd a b env st = (a env st).bind fun x st => match x with | .bl c => if c = true then b env st else .ok (.bl false) st | _ => .fail := rfl
theorem ev_or : eOr a b env st = (a env st).bind fun x st => match x with | .bl c => if c = true then .ok (.bl true) st else b env st | _ => .fail := rfl
theorem ev_not : eNot a env st = (a env st).bind fun x st => match x with | .bl c => .ok (.bl (!c)) st | _ => .fail := rfl
theorem ev_if : eIf t a b env st = (t env st).bind fun k st => if k = true then a env st else b env st := rfl
theorem ev_chain : eChain f h a b c env st = (a env st).bind fun x st => (b env st).bind fun y st => (f x y st).bind fun k st => match k with | .bl true => (c env st).bind fun z st => h y z st | .bl false => .ok (.bl false) st | _ => .fail := rfl
theorem ev_true : tTrue env st = .ok true st := rfl
theorem ev_slice {lo hi : oM} : eSlice a lo hi env st = (a env st).bind fun d st => (lo env st).bind fun l st => (hi env st).bind fun h st => sliceD d l h st := rfl
theorem ev_onone : oNone env st = .ok none st := rfl
theorem ev_osome : oSome a env st = (a env st).bind fun d st => match d with | .int i => .ok (some i) st | _ => .fail := rfl
theorem ev_iseq : iSeq a env st = (a env st).bind seqSrc := rfl
theorem ev_irng : iRng a env st = (a env st).bind rngSrc := rfl
theorem ev_ienum : iEnum a env st = (a env st).bind enumSrc := rfl
theorem ev_ibin {fz : D → D → Sto → R Src} : iBin fz a b env st = (a env st).bind fun x st => (b env st).bind fun y st => fz x y st := rfl
theorem ev_lc {e : EM} : cLc src vs g t e env st = (src env st).bind fun s st => (startLc g t e (wipeE env vs) s st).hush := rfl
theorem ev_skip : sSkip env st = .nx env st := rfl
theorem ev_never : sNever env st = .fail := rfl
theorem ev_seq : sSeq s s2 env st = (match s env st with | .nx env st => s2 env st | r => r) := rfl
theorem ev_ret : sRet a env st = (a env st).then env fun d st => .rt d st := rfl
theorem ev_sif : sIf t s s2 env st = (t env st).then env fun c st => if c = true then s env st else s2 env st := rfl
theorem ev_set : sSet i a env st = (a env st).then env fun d st => .nx (env.set i (some d)) st := rfl
theorem ev_expr : sExpr a env st = (a env st).then env fun _ st => .nx env st := rfl
theorem ev_asg : sAsg a g env st = (a env st).then env fun d st => match g d env st with | some (env, st) => .nx env st | none => .fail := rfl
theorem ev_par : sPar i j a b env st = (a env st).then env fun x st => (b env st).then env fun y st => .nx ((env.set i (some x)).set j (some y)) st := rfl
theorem ev_for : sFor src g s env st = (src env st).then env (startFor g s env) := rfl
theorem ev_fld : sFldM cn fd a b env st = (b env st).then env fun d st => (a env st).then env fun x st => setFld cn fd x d env st := rfl
theorem ev_gn : gN i d env st = some (env.set i (some d), st) := rfl
theorem ev_gsnil : gsNil [] env st = some (env, st) := rfl
theorem ev_gscons : gsCons g gs (d :: ds) env st = (match g d env st with | some (env, st) => gs ds env st | none => none) := rfl
theorem ev_gt : gT n gs (.tup ds) env st = if ds.length = n then gs ds env st else none := rfl
theorem ev_mkfn : mkFn n slots s ds st = if ds.length = n then endFn (s (env0 n slots ds) st) else .fail := rfl
theorem ev_bok {q : α → Sto → R β} : (R.ok x st).bind q = q x st := rfl
theorem ev_berr {q : α → Sto → R β} : (R.err cn fs st : R α).bind q = .err cn fs st := rfl
theorem ev_bfail {q : α → Sto → R β} : (R.fail : R α).bind q = .fail := rfl
theorem ev_tok {q : α → Sto → RS} : (R.ok x st).then env q = q x st := rfl
theorem ev_hok : (R.ok x st).hush = .ok x st := rfl
theorem ev_ert : endFn (.rt d st) = .ok d st := rfl
theorem ev_enx : endFn (.nx env st) = .ok .non st := rfl
theorem ev_wn : wipeE env [] = env := rfl
theorem ev_wc : wipeE env (i :: vs) = (wipeE env vs).set i none := rfl
theorem ev_e0 : env0 n slots ds = ds.map some ++ List.replicate (slots - n) none := rfl
theorem ev_sseq {xs : List D} : seqSrc (.tup xs) st = .ok (.fix xs) st := rfl
theorem ev_senum {xs : List D} : enumSrc (.tup xs) st = .ok (.fix (enumFrom 0 xs)) st := rfl
theorem ev_szip {xs ys : List D} : zipSrc (.tup xs) (.tup ys) st = .ok (.fix (List.zipWith pairD xs ys)) st := rfl
theorem ev_sltup {xs : List D} {lo hi : Option Int} : sliceD (.tup xs) lo hi st = .ok (.tup (cutD xs lo hi)) st := rfl
theorem ev_ltI {i j : Int} : dLt (.int i) (.int j) st = .ok (.bl (decide (i < j))) st := rfl
theorem ev_leI {i j : Int} : dLe (.int i) (.int j) st = .ok (.bl (decide (i ≤ j))) st := rfl
theorem ev_gtI {i j : Int} : dGt (.int i) (.int j) st = .ok (.bl (decide (j < i))) st := rfl
theorem ev_geI {i j : Int} : dGe (.int i) (.int j) st = .ok (.bl (decide (j ≤ i))) st := rfl
theorem ev_subI {i j : Int} : dSub (.int i) (.int j) st = .ok (.int (i - j)) st := rfl
theorem ev_addI {i j : Int} : dAdd (.int i) (.int j) st = .ok (.int (i + j)) st := rfl
theorem ev_lenT {xs : List D} : fLen [.tup xs] st = .ok (.int xs.length) st := rfl
theorem ev_isi {T : String} : dIsi T d st = (match tyD st d with | some q => .ok (.bl (isiT q T)) st | none => .fail) := rfl
theorem isi_tup {xs : List D} : dIsi "tuple" (.tup xs) st = .ok (.bl true) st := rfl
theorem eqI {i j : Int} {neg : Bool} : dEq neg (.int i) (.int j) st = .ok (.bl (if neg then !(i == j) else i == j)) st := by
  unfold dEq toS
  simp only [toP]
  rw [if_pos (show SeqAt.shaped (.int i) = true from rfl), if_pos (show SeqAt.shaped (.int j) = true from rfl)]
  simp only [PyData.eqv]
theorem isi_tupD (h : kn st d = true) : dIsi "tuple" d st = .ok (.bl (match d with | .tup _ => true | _ => false)) st := by
  obtain ⟨t, e⟩ := Option.isSome_iff_exists.mp h
  unfold dIsi
  rw [e]
  cases d with
  | ref n =>
    unfold tyD at e
    simp only at e
    split at e
    · cases e; rfl
    · cases e; rfl
    · cases e
  | _ => cases e; rfl
end
open PySem PySem.Spec PyProof.Rows L2 in
theorem cut1 (xs : List D) : cutD xs (some 1) none = xs.drop 1 := by
  unfold cutD
  rw [show HT.sIx xs.length 0 (some 1) = min 1 xs.length from HT.sIx_nat xs.length 0 1, HT.sIx_none]
  cases xs with
  | nil => rfl
  | cons x r =>
    have e : min 1 (x :: r).length = 1 := by simp
    rw [e]
    show List.take ((x :: r).length - 1) r = r
    simp
end U
set_option Elab.async false
set_option linter.all false
set_option maxRecDepth 100000
set_option maxHeartbeats 4000000
namespace U
open PySem PySem.Spec PyProof.Rows L2
def withinD (lo hi : Int) : D → Bool
  | .int i => decide (lo ≤ i) && decide (i ≤ hi)
  | _ => false
def itemsD : D → Option (List D)
  | .tup xs => some xs
  | _ => none
def prodD : List D → Int
  | [] => 1
  | .int i :: r => i * prodD r
  | _ :: r => prodD r
def wheelsD (d : D) : Bool := match d with
  | .tup xs => decide (1 ≤ xs.length) && decide (xs.length ≤ 3) && xs.all (withinD 2 4) && decide (prodD xs ≤ 24)
  | _ => false
def wI : D → Int
  | .int i => i
  | _ => 0
def valuesD (ws : List D) (d : D) : Bool := match d with
  | .tup xs => decide (xs.length = ws.length) && (List.zipWith (fun x w => withinD 0 (wI w - 1) x) xs ws).all id
  | _ => false
def leftD (n : Nat) (d : D) : Bool := match d with
  | .tup xs => decide (xs.length = n) && xs.all (withinD 0 2)
  | _ => false
def stateD (ws : List D) (n : Nat) (d : D) : Bool := match d with
  | .tup [a, b] => valuesD ws a && leftD n b
  | _ => false
def risingD (n : Int) (d : D) : Bool := match d with
  | .tup xs => xs.all (withinD 0 (n - 1)) && (List.zipWith (fun x y => decide (wI x < wI y)) xs (xs.drop 1)).all id
  | _ => false
mutual
def dk (st : Sto) : D → Bool
  | .tup xs => dks st xs
  | .ref n => kn st (.ref n)
  | .non => true
  | .bl _ => true
  | .int _ => true
  | .str _ => true
def dks (st : Sto) : List D → Bool
  | [] => true
  | d :: ds => dk st d && dks st ds
end
theorem dk_kn {st : Sto} : ∀ {d : D}, dk st d = true → kn st d = true
  | .tup xs, _ => rfl
  | .ref n, h => by simpa only [dk] using h
  | .non, _ => rfl
  | .bl _, _ => rfl
  | .int _, _ => rfl
  | .str _, _ => rfl
theorem dks_mem {st : Sto} : ∀ {ds : List D}, dks st ds = true → ∀ x ∈ ds, dk st x = true
  | d :: ds, h, x, hx => by
    simp only [dks, Bool.and_eq_true] at h
    rcases List.mem_cons.mp hx with e | hx
    · rw [e]; exact h.1
    · exact dks_mem h.2 x hx
theorem dk_tup {st : Sto} {xs : List D} (h : dk st (.tup xs) = true) : ∀ x ∈ xs, dk st x = true := dks_mem (by simpa only [dk] using h)
mutual
theorem dk_app {st ex : Sto} : ∀ {d : D}, dk st d = true → dk (st ++ ex) d = true
  | .tup xs, h => by simp only [dk] at h ⊢; exact dks_app h
  | .ref n, h => by simp only [dk] at h ⊢; exact kn_app h
  | .non, _ => by simp only [dk]
  | .bl _, _ => by simp only [dk]
  | .int _, _ => by simp only [dk]
  | .str _, _ => by simp only [dk]
theorem dks_app {st ex : Sto} : ∀ {ds : List D}, dks st ds = true → dks (st ++ ex) ds = true
  | [], _ => by simp only [dks]
  | d :: ds, h => by simp only [dks, Bool.and_eq_true] at h ⊢; exact ⟨dk_app h.1, dks_app h.2⟩
end
def scalD : D → Bool
  | .tup _ => false
  | .ref _ => false
  | .str x => SeqAt.shaped (.str x)
  | _ => true
def wordIn (ws : List Str) : D → Bool
  | .str x => ws.any (· == x)
  | _ => false
theorem toS_scal {st : Sto} {d : D} (h : scalD d = true) : ∃ p, toS st d = some p ∧ ∀ a : Str, PyData.eqv (.str a) p = wordIn [a] d := by
  cases d with
  | tup xs => cases h
  | ref n => cases h
  | str x =>
    have hs : SeqAt.shaped (.str x) = true := h
    refine ⟨.str x, by unfold toS; simp only [toP, hs, if_true], fun a => ?_⟩
    simp [PyData.eqv, wordIn]
  | non => exact ⟨.none, rfl, fun a => by simp [PyData.eqv, wordIn]⟩
  | bl b => exact ⟨.bool b, rfl, fun a => by simp [PyData.eqv, wordIn]⟩
  | int i => exact ⟨.int i, rfl, fun a => by simp [PyData.eqv, wordIn]⟩
theorem mapO_strs {n : Nat} {st : Sto} : ∀ ws : List Str, mapO (toP n st) (ws.map D.str) = some (ws.map PyData.str)
  | [] => rfl
  | w :: ws => by
    simp only [List.map_cons, mapO]
    rw [show toP n st (.str w) = some (.str w) by cases n <;> rfl, mapO_strs ws]
theorem in_words {st : Sto} {d : D} (ws : List Str) (h : scalD d = true) (hw : SeqAt.shaped (.tuple (ws.map PyData.str)) = true) : dIn false d (.tup (ws.map D.str)) st = .ok (.bl (wordIn ws d)) st := by
  obtain ⟨p, e, he⟩ := toS_scal (st := st) h
  have e2 : toS st (.tup (ws.map D.str)) = some (.tuple (ws.map PyData.str)) := by
    unfold toS
    simp only [toP, mapO_strs, Option.map_some, hw, if_true]
  unfold dIn
  rw [e, e2]
  simp only [itemsP]
  congr 2
  simp only [Bool.false_eq_true, if_false, List.any_map]
  clear e e2 hw
  induction ws with
  | nil => cases d <;> rfl
  | cons w ws ih =>
    simp only [List.any_cons, Function.comp_apply, he w]
    rw [ih]
    cases d <;> simp [wordIn]
def spotD (ws : List D) (words : List Str) : D → Bool
  | .tup [word, wheel, place] => wordIn words word && withinD 0 (ws.length - 1) wheel && withinD 0 (wI (ws.getD (wI wheel).toNat .non) - 1) place
  | _ => false
def momentD (n : Int) : D → Bool
  | .tup [word, rule] => wordIn ["hushed", "awake"] word && withinD 0 (n - 1) rule
  | _ => false
def condD (ws : List D) (n : Int) (d : D) : Bool := spotD ws ["is", "not", "below"] d || momentD n d
def changeD (ws : List D) (d : D) : Bool := spotD ws ["put", "turn"] d
def hushD : D → Bool
  | .tup [_, beats] => withinD 1 3 beats
  | _ => false
def fstD : D → D
  | .tup (x :: _) => x
  | _ => .non
def sndD : D → D
  | .tup (_ :: y :: _) => y
  | _ => .non
def isI : D → Bool
  | .int _ => true
  | _ => false
theorem isI_eq {d : D} (h : isI d = true) : d = .int (wI d) := by cases d <;> first | rfl | cases h
theorem all_id {α : Type} {f : α → Bool} {xs : List α} : (xs.map f).all id = xs.all f := by rw [List.all_map]; rfl
theorem atI2_1 {x y : D} : L2.atI [x, y] 1 = some y := rfl
def hushesD (n : Int) (d : D) : Bool := match d with
  | .tup xs => decide (xs.length ≤ 5) && xs.all hushD && risingD n (.tup (xs.map fstD))
  | _ => false
def memI (d : D) (xs : List D) : Bool := xs.any fun y => wI y == wI d
def wakesD (n : Int) (d : D) (hs : List D) : Bool := match d with
  | .tup xs => decide (xs.length ≤ 5) && risingD n d && !(hs.any fun h => memI (fstD h) xs)
  | _ => false
def rowD (most : Nat) : D → Bool
  | .tup xs => decide (xs.length ≤ most)
  | _ => false
theorem len2 {xs : List D} (h : xs.length = 2) : ∃ x y, xs = [x, y] := match xs, h with | [x, y], _ => ⟨x, y, rfl⟩
theorem len3 {xs : List D} (h : xs.length = 3) : ∃ x y z, xs = [x, y, z] := match xs, h with | [x, y, z], _ => ⟨x, y, z, rfl⟩
theorem len4 {xs : List D} (h : xs.length = 4) : ∃ x y z w, xs = [x, y, z, w] := match xs, h with | [x, y, z, w], _ => ⟨x, y, z, w, rfl⟩
theorem eqN {st : Sto} {n : Nat} {k : Int} {neg : Bool} : dEq neg (.int (n : Int)) (.int k) st = .ok (.bl (if neg then !decide ((n : Int) = k) else decide ((n : Int) = k))) st := by
  rw [eqI]
  congr 2
def rowI (n : Int) : D → Bool
  | .tup xs => decide ((xs.length : Int) ≤ n)
  | _ => false
def tupsD : D → List D
  | .tup xs => xs
  | _ => []
def ruleD (ws : List D) (n : Int) (d : D) : Bool := match d with
  | .tup [test, changes, hushes, wakes] => rowD 4 test && rowD 3 changes && (tupsD test).all (condD ws n) && (tupsD changes).all (changeD ws) && hushesD n hushes && wakesD n wakes (tupsD hushes)
  | _ => false
def wordsD (d : D) : Bool := match d with
  | .tup (w :: _) => scalD w
  | _ => true
def twoT : Option D → Option D → Option (List D × List D)
  | some (.tup ws), some (.tup rs) => some (ws, rs)
  | _, _ => none
def bookD (st : Sto) (d : D) : Option (List D × List D) := match d with
  | .ref n => match st[n]? with
    | some (.ins c fs) => if c = "Book" then twoT (lookF "wheels" fs) (lookF "rules" fs) else none
    | _ => none
  | _ => none
theorem twoT_inv {a b : Option D} {ws rs : List D} (h : twoT a b = some (ws, rs)) : a = some (.tup ws) ∧ b = some (.tup rs) := by
  unfold twoT at h
  split at h
  · cases h; exact ⟨rfl, rfl⟩
  · cases h
theorem bookD_at {st : Sto} {d : D} {ws rs : List D} (h : bookD st d = some (ws, rs)) : ∃ n fs, d = .ref n ∧ st[n]? = some (.ins "Book" fs) ∧ lookF "wheels" fs = some (.tup ws) ∧ lookF "rules" fs = some (.tup rs) := by
  unfold bookD at h
  split at h
  · rename_i n
    split at h
    · rename_i c fs q
      split at h
      · rename_i hc
        subst hc
        obtain ⟨h1, h2⟩ := twoT_inv h
        exact ⟨n, fs, rfl, q, h1, h2⟩
      · cases h
    · cases h
  · cases h
theorem book_wheels {st : Sto} {d : D} {ws rs : List D} (h : bookD st d = some (ws, rs)) : dFld "Book" "wheels" d st = .ok (.tup ws) st := by
  obtain ⟨n, fs, rfl, e, h1, h2⟩ := bookD_at h
  unfold dFld
  simp only [e, if_true, h1]
theorem book_rules {st : Sto} {d : D} {ws rs : List D} (h : bookD st d = some (ws, rs)) : dFld "Book" "rules" d st = .ok (.tup rs) st := by
  obtain ⟨n, fs, rfl, e, h1, h2⟩ := bookD_at h
  unfold dFld
  simp only [e, if_true, h2]
theorem bookD_app {st ex : Sto} {d : D} {ws rs : List D} (h : bookD st d = some (ws, rs)) : bookD (st ++ ex) d = some (ws, rs) := by
  obtain ⟨n, fs, rfl, e, h1, h2⟩ := bookD_at h
  unfold bookD
  simp only [List.getElem?_append_left (List.getElem?_eq_some_iff.mp e).1, e, if_true, h1, h2, twoT]
def smallD : D → Bool
  | .tup xs => xs.all fun x => decide ((tupsD x).length ≤ most)
  | _ => true
theorem small2 {x y : D} (h : smallD (.tup [x, y]) = true) : (tupsD x).length ≤ most ∧ (tupsD y).length ≤ most := by
  simp only [smallD, List.all_cons, List.all_nil, Bool.and_true, Bool.and_eq_true, decide_eq_true_eq] at h
  exact h
theorem atI2_0 {x y : D} : L2.atI [x, y] 0 = some x := rfl
theorem mulI {st : Sto} {i j : Int} (h0 : 0 ≤ i) (h1 : i < 18446744073709551616) : dMul (.int i) (.int j) st = .ok (.int (i * j)) st := by
  unfold dMul
  simp only
  rw [if_pos (.inl ⟨by omega, by omega⟩)]
theorem walk_prod {st : Sto} {a b : Option D} : ∀ {xs : List D}, xs.length ≤ 3 → xs.all (withinD 2 4) = true → ∃ c, startFor (gN 2) (sSet 1 (eBin dMul (eVar 1) (eVar 2))) [a, some (.int 1), b] (.fix xs) st = .nx [a, some (.int (prodD xs)), c] st
  | [], _, _ => ⟨b, rfl⟩
  | [.int i], _, h => ⟨some (.int i), by simp [startFor, runFor, Src.at, ev_gn, ev_set, ev_bin, ev_var, ev_bok, ev_tok, mulI, prodD]⟩
  | [.int i, .int j], _, h => by
    simp only [List.all_cons, List.all_nil, withinD, Bool.and_true, Bool.and_eq_true, decide_eq_true_eq] at h
    exact ⟨some (.int j), by simp [startFor, runFor, Src.at, ev_gn, ev_set, ev_bin, ev_var, ev_bok, ev_tok, mulI, mulI (i := i) (by omega) (by omega), prodD]⟩
  | [.int i, .int j, .int k], _, h => by
    simp only [List.all_cons, List.all_nil, withinD, Bool.and_true, Bool.and_eq_true, decide_eq_true_eq] at h
    have hij : 0 ≤ i * j ∧ i * j < 18446744073709551616 := by
      obtain ⟨⟨a1, a2⟩, ⟨b1, b2⟩, _⟩ := h
      have : i = 2 ∨ i = 3 ∨ i = 4 := by omega
      rcases this with rfl | rfl | rfl <;> omega
    exact ⟨some (.int k), by simp [startFor, runFor, Src.at, ev_gn, ev_set, ev_bin, ev_var, ev_bok, ev_tok, mulI, mulI (i := i) (by omega) (by omega), mulI (i := i * j) hij.1 hij.2, prodD, Int.mul_assoc]⟩
  | _ :: _ :: _ :: _ :: _, h, _ => by simp at h
  | .non :: _, _, h => by simp [withinD] at h
  | .bl _ :: _, _, h => by simp [withinD] at h
  | .str _ :: _, _, h => by simp [withinD] at h
  | .tup _ :: _, _, h => by simp [withinD] at h
  | .ref _ :: _, _, h => by simp [withinD] at h
  | [_, .non], _, h => by simp [withinD] at h
  | [_, .bl _], _, h => by simp [withinD] at h
  | [_, .str _], _, h => by simp [withinD] at h
  | [_, .tup _], _, h => by simp [withinD] at h
  | [_, .ref _], _, h => by simp [withinD] at h
  | [_, .non, _], _, h => by simp [withinD] at h
  | [_, .bl _, _], _, h => by simp [withinD] at h
  | [_, .str _, _], _, h => by simp [withinD] at h
  | [_, .tup _, _], _, h => by simp [withinD] at h
  | [_, .ref _, _], _, h => by simp [withinD] at h
  | [_, _, .non], _, h => by simp [withinD] at h
  | [_, _, .bl _], _, h => by simp [withinD] at h
  | [_, _, .str _], _, h => by simp [withinD] at h
  | [_, _, .tup _], _, h => by simp [withinD] at h
  | [_, _, .ref _], _, h => by simp [withinD] at h
theorem mk2 {st : Sto} {a b : D} : mkTup [a, b] st = .ok (.tup [a, b]) st := if_pos (show 2 ≤ most by decide)
theorem mk3 {st : Sto} {a b c : D} : mkTup [a, b, c] st = .ok (.tup [a, b, c]) st := if_pos (show 3 ≤ most by decide)
theorem mk4 {st : Sto} {a b c d : D} : mkTup [a, b, c, d] st = .ok (.tup [a, b, c, d]) st := if_pos (show 4 ≤ most by decide)
def strsOf : List D → Option (List Str)
  | [] => some []
  | .str x :: r => (strsOf r).map (x :: ·)
  | _ :: _ => none
theorem strsOf_eq : ∀ {xs : List D} {ws : List Str}, strsOf xs = some ws → xs = ws.map D.str
  | [], _, h => by cases h; rfl
  | .str x :: r, ws, h => by
    obtain ⟨vs, e, rfl⟩ := Option.map_eq_some_iff.mp (show (strsOf r).map (x :: ·) = some ws from h)
    rw [strsOf_eq e]
    rfl
  | .non :: _, _, h => by cases h
  | .bl _ :: _, _, h => by cases h
  | .int _ :: _, _, h => by cases h
  | .tup _ :: _, _, h => by cases h
  | .ref _ :: _, _, h => by cases h
theorem within_ix {n : Nat} {d : D} (h : withinD 0 ((n : Int) - 1) d = true) : ∃ j : Nat, d = .int (j : Int) ∧ j < n := by
  cases d with
  | int i =>
    simp only [withinD, Bool.and_eq_true, decide_eq_true_eq] at h
    obtain ⟨k, rfl⟩ := Int.eq_ofNat_of_zero_le h.1
    exact ⟨k, rfl, by omega⟩
  | _ => cases h
theorem cast5 : (5 : Int) = ((5 : Nat) : Int) := rfl
theorem hush_pair {d : D} (h : hushD d = true) : ∃ a b, d = .tup [a, b] := by
  unfold hushD at h
  split at h
  · exact ⟨_, _, rfl⟩
  · cases h
theorem any_id {α : Type} {f : α → Bool} {xs : List α} : (xs.map f).any id = xs.any f := by rw [List.any_map]; rfl
theorem dks_of {st : Sto} : ∀ {ds : List D}, (∀ x ∈ ds, dk st x = true) → dks st ds = true
  | [], _ => by simp only [dks]
  | d :: ds, h => by simp only [dks, Bool.and_eq_true]; exact ⟨h d List.mem_cons_self, dks_of fun x hx => h x (List.mem_cons_of_mem _ hx)⟩
theorem dk_of {st : Sto} {ds : List D} (h : ∀ x ∈ ds, dk st x = true) : dk st (.tup ds) = true := by simp only [dk]; exact dks_of h
theorem dk_fsts {st : Sto} {xs : List D} (hx : ∀ x ∈ xs, dk st x = true) (ha : xs.all hushD = true) : dk st (.tup (xs.map fstD)) = true := dk_of fun y hy => by
  obtain ⟨x, h1, rfl⟩ := List.mem_map.mp hy
  obtain ⟨a, b, rfl⟩ := hush_pair (List.all_eq_true.mp ha x h1)
  exact dk_tup (hx _ h1) a (by simp)
theorem rising_ints {n : Int} {xs : List D} (h : risingD n (.tup xs) = true) : xs.all isI = true := by
  simp only [risingD, Bool.and_eq_true] at h
  refine List.all_eq_true.mpr fun x hx => ?_
  have := List.all_eq_true.mp h.1 x hx
  cases x with
  | int i => rfl
  | _ => cases this
theorem mapO_ints {n : Nat} {st : Sto} : ∀ {xs : List D}, xs.all isI = true → mapO (toP n st) xs = some (xs.map fun x => PyData.int (wI x))
  | [], _ => rfl
  | x :: xs, h => by
    simp only [List.all_cons, Bool.and_eq_true] at h
    cases x with
    | int i =>
      have e : toP n st (.int i) = some (.int i) := by cases n <;> rfl
      simp only [List.map_cons, mapO, e, mapO_ints h.2]
      rfl
    | _ => cases h.1
theorem shaped_ints : ∀ (xs : List D), PyData.canLayAll0 (xs.map fun x => PyData.int (wI x)) = true ∧ PyData.depthAll (xs.map fun x => PyData.int (wI x)) = 0
  | [] => ⟨by simp [PyData.canLayAll0], by simp [PyData.depthAll]⟩
  | x :: xs => by
    obtain ⟨h1, h2⟩ := shaped_ints xs
    exact ⟨by simp [PyData.canLayAll0, PyData.canLay0, h1], by simp [PyData.depthAll, PyData.depth, h2]⟩
theorem toS_ints {st : Sto} {xs : List D} (h : xs.all isI = true) : toS st (.tup xs) = some (.tuple (xs.map fun x => PyData.int (wI x))) := by
  obtain ⟨h1, h2⟩ := shaped_ints xs
  have hs : SeqAt.shaped (.tuple (xs.map fun x => PyData.int (wI x))) = true := by
    unfold SeqAt.shaped
    simp [PyData.canLay0, h1, PyData.depth, h2]
  unfold toS
  simp only [toP, mapO_ints h, Option.map_some, hs, if_true]
theorem in_ints {st : Sto} {xs : List D} {i : Int} (h : xs.all isI = true) : dIn false (.int i) (.tup xs) st = .ok (.bl (memI (.int i) xs)) st := by
  unfold dIn
  rw [toS_ints h, show toS st (.int i) = some (.int i) from rfl]
  simp only [itemsP, memI, wI, Bool.false_eq_true, if_false, List.any_map]
  congr 2
def ruleWords : D → Bool
  | .tup [ts, cs, _, _] => (tupsD ts).all wordsD && (tupsD cs).all wordsD
  | _ => true
theorem row_inv {n : Nat} {d : D} (h : rowD n d = true) : ∃ xs, d = .tup xs ∧ xs.length ≤ n := by
  cases d with
  | tup xs => exact ⟨xs, rfl, of_decide_eq_true h⟩
  | _ => cases h
theorem hushes_inv {n : Int} {d : D} (h : hushesD n d = true) : ∃ xs, d = .tup xs ∧ xs.length ≤ most ∧ (xs.all fun h => hushD h && isI (fstD h)) = true := by
  cases d with
  | tup xs =>
    simp only [hushesD, Bool.and_eq_true, decide_eq_true_eq] at h
    obtain ⟨⟨h1, h2⟩, h3⟩ := h
    refine ⟨xs, rfl, Nat.le_trans h1 (by decide), List.all_eq_true.mpr fun x hx => ?_⟩
    have q1 := List.all_eq_true.mp h2 x hx
    have q2 := List.all_eq_true.mp (rising_ints h3) (fstD x) (List.mem_map_of_mem hx)
    rw [q1, q2]
    rfl
  | _ => cases h
end U
set_option Elab.async false
set_option linter.all false
set_option maxRecDepth 100000
set_option maxHeartbeats 1000000
namespace U
open PySem
def wr (n : Nat) (f : List D → Sto → Option (D × Sto)) : Fm := fun ds st => if ds.length = n then (match f ds st with
  | some (d, st1) => .ok d st1
  | none => .fail) else .fail
theorem wr_ar {n : Nat} {f : List D → Sto → Option (D × Sto)} : Arity n (wr n f) := fun ds st h => if_neg h
theorem wr_ok {n : Nat} {f : List D → Sto → Option (D × Sto)} {ds : List D} {st st1 : Sto} {d : D} (hl : ds.length = n) (h : f ds st = some (d, st1)) : wr n f ds st = .ok d st1 := by
  unfold wr
  rw [if_pos hl, h]
theorem Tells.wr {m : Fm} {n : Nat} {f : List D → Sto → Option (D × Sto)} (h : ∀ ds st d st1, Good st → Bnds st.length ds → ds.length = n → f ds st = some (d, st1) → st1.length = st.length ∧ Good st1 ∧ Bnd st1.length d ∧ ∃ ex, m ds st = .ok d (st1 ++ ex)) : Tells m (U.wr n f) where
  ok := fun ds st d st1 g b e => by
    unfold U.wr at e
    split at e
    · rename_i hl
      split at e
      · rename_i d' st1' q
        cases e
        obtain ⟨h0, h1, h2, ex, h3⟩ := h ds st d st1 g b hl q
        refine ⟨h1, h2, id, st1 ++ ex, by rw [ren_id]; exact h3, by omega, fun _ _ => rfl, fun _ _ _ _ h => h, fun i o h => ?_⟩
        rw [renO_id]
        show (st1 ++ ex)[i]? = some o
        rw [List.getElem?_append_left (List.getElem?_eq_some_iff.mp h).1]
        exact h
      · cases e
    · cases e
  err := fun ds st c fs st1 g b e => by
    unfold U.wr at e
    split at e
    · split at e <;> cases e
    · cases e
theorem good_set {st : Sto} {k : Nat} {o : Ob} (g : Good st) (h : BndO st.length o) : Good (st.set k o) := fun i p e => by
  rw [List.length_set]
  by_cases hi : k = i
  · subst hi
    by_cases hl : k < st.length
    · rw [List.getElem?_set_self hl] at e; cases e; exact h
    · rw [List.getElem?_eq_none (by simp; omega)] at e; cases e
  · rw [List.getElem?_set_ne hi] at e
    exact g i p e
def bookO (ws rs : List D) : Ob := .ins "Book" [("wheels", .tup ws), ("rules", .tup rs)]
theorem wheels_ints {ws : List D} (h : wheelsD (.tup ws) = true) : ws.all isI = true := by
  simp only [wheelsD, Bool.and_eq_true] at h
  refine List.all_eq_true.mpr fun x hx => ?_
  have := List.all_eq_true.mp h.1.2 x hx
  cases x with
  | int i => rfl
  | _ => cases this
theorem runFor_J {s : Src} {g : GM} {body : SM} {xs : List D} (J : Nat → Ev → Sto → Prop) (hat : ∀ i env st, J i env st → s.at st = some xs)
    (h : ∀ i x env st, xs[i]? = some x → J i env st → ∃ env1 st1 env2 st2, g x env st = some (env1, st1) ∧ body env1 st1 = .nx env2 st2 ∧ J (i + 1) env2 st2) :
    ∀ (k i : Nat) (env : Ev) (st : Sto), xs.length = i + k → J i env st → ∃ env' st', runFor s g body (k + 1) i env st = .nx env' st' ∧ J xs.length env' st'
  | 0, i, env, st, hk, hJ => by
    have e : i = xs.length := by omega
    subst e
    refine ⟨env, st, ?_, hJ⟩
    unfold runFor
    simp only [hat _ _ _ hJ]
    rw [List.getElem?_eq_none (Nat.le_refl _)]
  | k + 1, i, env, st, hk, hJ => by
    have hi : i < xs.length := by omega
    obtain ⟨env1, st1, env2, st2, h1, h2, h3⟩ := h i xs[i] env st (List.getElem?_eq_getElem hi) hJ
    obtain ⟨env', st', h4, h5⟩ := runFor_J J hat h k (i + 1) env2 st2 (by omega) h3
    refine ⟨env', st', ?_, h5⟩
    unfold runFor
    simp only [hat _ _ _ hJ]
    rw [List.getElem?_eq_getElem hi]
    simp only [h1, h2]
    exact h4
theorem startFor_J {s : Src} {g : GM} {body : SM} {xs : List D} {env : Ev} {st : Sto} (J : Nat → Ev → Sto → Prop) (hat : ∀ i env st, J i env st → s.at st = some xs) (h0 : J 0 env st)
    (h : ∀ i x env st, xs[i]? = some x → J i env st → ∃ env1 st1 env2 st2, g x env st = some (env1, st1) ∧ body env1 st1 = .nx env2 st2 ∧ J (i + 1) env2 st2) : ∃ env' st', startFor g body env s st = .nx env' st' ∧ J xs.length env' st' := by
  unfold startFor
  rw [hat 0 env st h0]
  exact runFor_J J hat h xs.length 0 env st (by omega) h0
theorem startFor_inv {s : Src} {g : GM} {body : SM} {st : Sto} {xs : List D} {env : Ev} (hs : s.at st = some xs) (I : Ev → Prop) (h0 : I env)
    (h : ∀ x ∈ xs, ∀ env, I env → ∃ env1 env2, g x env st = some (env1, st) ∧ body env1 st = .nx env2 st ∧ I env2) : ∃ env', startFor g body env s st = .nx env' st ∧ I env' := by
  obtain ⟨env', st', h1, h2, h3⟩ := startFor_J (s := s) (g := g) (body := body) (xs := xs) (env := env) (st := st) (fun _ e s' => I e ∧ s' = st) (fun _ _ _ hJ => by rw [hJ.2]; exact hs) ⟨h0, rfl⟩ fun i x e s' hx hJ => by
    obtain ⟨hI, rfl⟩ := hJ
    obtain ⟨env1, env2, q1, q2, q3⟩ := h x (List.mem_of_getElem? hx) e hI
    exact ⟨env1, s', env2, s', q1, q2, q3, rfl⟩
  subst h3
  exact ⟨env', h1, h2⟩
theorem runFor_all {s : Src} {g : GM} {body : SM} {xs : List D} {st : Sto} {P : D → Bool} {d : D} (hs : s.at st = some xs) (I : Ev → Prop)
    (h : ∀ x ∈ xs, ∀ env, I env → ∃ env1, g x env st = some (env1, st) ∧ (P x = true → ∃ env2, body env1 st = .nx env2 st ∧ I env2) ∧ (P x = false → body env1 st = .rt d st)) :
    ∀ (k i : Nat) (env : Ev), xs.length = i + k → I env → ((xs.drop i).all P = true → ∃ env', runFor s g body (k + 1) i env st = .nx env' st ∧ I env') ∧ ((xs.drop i).all P = false → runFor s g body (k + 1) i env st = .rt d st)
  | 0, i, env, hk, hI => by
    have hd : xs.drop i = [] := List.drop_eq_nil_of_le (by omega)
    rw [hd]
    refine ⟨fun _ => ⟨env, ?_, hI⟩, fun h => by simp at h⟩
    unfold runFor
    simp only [hs]
    rw [List.getElem?_eq_none (by omega)]
  | k + 1, i, env, hk, hI => by
    have hi : i < xs.length := by omega
    obtain ⟨env1, h1, h2, h3⟩ := h xs[i] (List.getElem_mem hi) env hI
    rw [List.drop_eq_getElem_cons hi, List.all_cons]
    unfold runFor
    simp only [hs]
    rw [List.getElem?_eq_getElem hi]
    simp only [h1]
    cases hp : P xs[i] with
    | false =>
      rw [h3 hp]
      exact ⟨fun q => by simp at q, fun _ => rfl⟩
    | true =>
      obtain ⟨env2, q1, q2⟩ := h2 hp
      rw [q1]
      rw [Bool.true_and]
      exact runFor_all hs I h k (i + 1) env2 (by omega) q2
theorem startFor_all {s : Src} {g : GM} {body : SM} {xs : List D} {st : Sto} {env : Ev} {P : D → Bool} {d : D} (hs : s.at st = some xs) (I : Ev → Prop) (h0 : I env)
    (h : ∀ x ∈ xs, ∀ env, I env → ∃ env1, g x env st = some (env1, st) ∧ (P x = true → ∃ env2, body env1 st = .nx env2 st ∧ I env2) ∧ (P x = false → body env1 st = .rt d st)) :
    (xs.all P = true → ∃ env', startFor g body env s st = .nx env' st ∧ I env') ∧ (xs.all P = false → startFor g body env s st = .rt d st) := by
  unfold startFor
  rw [hs]
  have := runFor_all hs I h xs.length 0 env (by omega) h0
  simpa using this
theorem setFld_ok {st : Sto} {k : Nat} {c f : Str} {fs : List (Str × D)} {d : D} {env : Ev} (h : st[k]? = some (.ins c fs)) (hl : fs.length < 400) : setFld c f (.ref k) d env st = .nx env (st.set k (.ins c (putD f d fs))) := by
  unfold setFld
  simp only [h]
  rw [if_pos (by simp [hl])]
theorem get_set {st : Sto} {k : Nat} {o : Ob} (h : k < st.length) : (st.set k o)[k]? = some o := List.getElem?_set_self h
theorem book_put (ws rs : List D) : Ob.ins "Book" (putD "rules" (.tup rs) (putD "wheels" (.tup ws) [])) = bookO ws rs := by
  unfold bookO
  simp only [putD]
  rw [if_neg (by decide)]
theorem bookO_at {st : Sto} {k : Nat} {ws rs : List D} (h : st[k]? = some (bookO ws rs)) : bookD st (.ref k) = some (ws, rs) := by
  unfold bookD
  simp only [h, bookO, if_true, lookF]
  rw [if_neg (by decide)]
  rfl
end U
set_option Elab.async false
set_option linter.all false
set_option maxRecDepth 100000
set_option maxHeartbeats 1000000
namespace U
open PySem
mutual
theorem ren_old {n : Nat} {ρ : Nat → Nat} (h : ∀ i, i < n → ρ i = i) : ∀ {d : D}, Bnd n d → ren ρ d = d
  | .tup xs, b => by simp only [Bnd] at b; simp only [ren]; rw [rens_old h b]
  | .ref k, b => by simp only [Bnd] at b; simp only [ren]; rw [h k b]
  | .non, _ => by simp only [ren]
  | .bl _, _ => by simp only [ren]
  | .int _, _ => by simp only [ren]
  | .str _, _ => by simp only [ren]
theorem rens_old {n : Nat} {ρ : Nat → Nat} (h : ∀ i, i < n → ρ i = i) : ∀ {ds : List D}, Bnds n ds → rens ρ ds = ds
  | [], _ => by simp only [rens]
  | d :: ds, b => by simp only [Bnds] at b; simp only [rens]; rw [ren_old h b.1, rens_old h b.2]
end
theorem renO_old {n : Nat} {ρ : Nat → Nat} (h : ∀ i, i < n → ρ i = i) {o : Ob} (b : BndO n o) : renO ρ o = o := by
  cases o with
  | lst xs => simp only [renO]; rw [rens_old h b]
  | rol xs => simp only [renO]; rw [rens_old h b]
  | kst xs => simp only [renO]; rw [rens_old h b]
  | ins c fs =>
    simp only [renO]
    congr 1
    have b' : Bnds n (fs.map (·.2)) := b
    clear b
    induction fs with
    | nil => rfl
    | cons p fs ih =>
      simp only [List.map_cons, Bnds] at b'
      rw [List.map_cons, ren_old h b'.1, ih b'.2]
mutual
theorem Bnd.mono {n k : Nat} (h : n ≤ k) : ∀ {d : D}, Bnd n d → Bnd k d
  | .tup xs, b => by simp only [Bnd] at b ⊢; exact Bnds.mono h b
  | .ref i, b => by simp only [Bnd] at b ⊢; omega
  | .non, _ => by simp only [Bnd]
  | .bl _, _ => by simp only [Bnd]
  | .int _, _ => by simp only [Bnd]
  | .str _, _ => by simp only [Bnd]
theorem Bnds.mono {n k : Nat} (h : n ≤ k) : ∀ {ds : List D}, Bnds n ds → Bnds k ds
  | [], _ => by simp only [Bnds]
  | d :: ds, b => by simp only [Bnds] at b ⊢; exact ⟨Bnd.mono h b.1, Bnds.mono h b.2⟩
end
theorem BndO.mono {n k : Nat} (h : n ≤ k) {o : Ob} (b : BndO n o) : BndO k o := by
  cases o with
  | lst xs => exact Bnds.mono h b
  | rol xs => exact Bnds.mono h b
  | kst xs => exact Bnds.mono h b
  | ins c fs => exact Bnds.mono h b
def nw (n : Nat) (f : List D → Sto → Option Ob) : Fm := fun ds st => if ds.length = n then (match f ds st with
  | some o => .ok (.ref st.length) (st ++ [o])
  | none => .fail) else .fail
theorem nw_ar {n : Nat} {f : List D → Sto → Option Ob} : Arity n (nw n f) := fun ds st h => if_neg h
theorem nw_ok {n : Nat} {f : List D → Sto → Option Ob} {ds : List D} {st : Sto} {o : Ob} (hl : ds.length = n) (h : f ds st = some o) : nw n f ds st = .ok (.ref st.length) (st ++ [o]) := by
  unfold nw
  rw [if_pos hl, h]
theorem Tells.nw {m : Fm} {n : Nat} {f : List D → Sto → Option Ob} (h : ∀ ds st o, Good st → Bnds st.length ds → ds.length = n → f ds st = some o → BndO st.length o ∧ ∃ ex j, ex[j]? = some o ∧ m ds st = .ok (.ref (st.length + j)) (st ++ ex)) : Tells m (U.nw n f) where
  ok := fun ds st d st1 g b e => by
    unfold U.nw at e
    split at e
    · rename_i hl
      split at e
      · rename_i o q
        cases e
        obtain ⟨h1, ex, j, h2, h3⟩ := h ds st o g b hl q
        have old : ∀ i, i < st.length → (fun i => if i < st.length then i else st.length + j) i = i := fun i hi => if_pos hi
        refine ⟨fun i p e => ?_, by simp only [Bnd]; simp, fun i => if i < st.length then i else st.length + j, st ++ ex, ?_, ?_⟩
        · by_cases hi : i < st.length
          · rw [List.getElem?_append_left hi] at e
            exact (g i p e).mono (by simp)
          · have hi2 : i < (st ++ [o]).length := (List.getElem?_eq_some_iff.mp e).1
            have : i = st.length := by simp at hi2; omega
            subst this
            simp at e
            subst e
            exact h1.mono (by simp)
        · simp only [ren]
          rw [if_neg (Nat.lt_irrefl _)]
          exact h3
        · refine ⟨by simp, old, fun i k hi hk e => ?_, fun i p e => ?_⟩
          · simp at hi hk
            have e' : (if i < st.length then i else st.length + j) = (if k < st.length then k else st.length + j) := e
            split at e' <;> split at e' <;> omega
          · by_cases hi : i < st.length
            · rw [List.getElem?_append_left hi] at e
              show (st ++ ex)[if i < st.length then i else st.length + j]? = _
              rw [if_pos hi, List.getElem?_append_left hi, e, renO_old old (g i p e)]
            · have hi2 : i < (st ++ [o]).length := (List.getElem?_eq_some_iff.mp e).1
              have : i = st.length := by simp at hi2; omega
              subst this
              simp at e
              subst e
              show (st ++ ex)[if st.length < st.length then st.length else st.length + j]? = _
              rw [if_neg (Nat.lt_irrefl _), List.getElem?_append_right (by omega), renO_old old h1]
              simpa using h2
      · cases e
    · cases e
  err := fun ds st c fs st1 g b e => by
    unfold U.nw at e
    split at e
    · split at e <;> cases e
    · cases e
theorem ixS {st : Sto} {v d : D} {vs : List D} {i : Int} (h : seqOf st v = some vs) (ha : L2.atI vs i = some d) : dIx v (.int i) st = .ok d st := by
  unfold dIx
  rw [h]
  simp only [ha]
def soO (c : D) (vs ls : List D) : Option Bool := match c with
  | .tup [.str w, .int r] => match L2.atI ls r with
    | some (.int i) => if w = "hushed" then some (decide (0 < i)) else if w = "awake" then some (i == 0) else none
    | _ => none
  | .tup [.str w, .int x, .int p] => match L2.atI vs x with
    | some (.int i) => if w = "is" then some (i == p) else if w = "not" then some (!(i == p)) else if w = "below" then some (decide (i < p)) else none
    | _ => none
  | _ => none
theorem strEq {st : Sto} (a b : Str) (ha : SeqAt.shaped (.str a) = true) (hb : SeqAt.shaped (.str b) = true) : dEq false (.str a) (.str b) st = .ok (.bl (a == b)) st := by
  unfold dEq toS
  simp only [toP, ha, hb, if_true, PyData.eqv, Bool.false_eq_true, if_false]
def readyO (rs : List D) (r : Int) (vs ls : List D) : Option Bool := match L2.atI ls r, L2.atI rs r with
  | some (.int i), some (.tup [.tup cs, _, _, _]) => if 0 < i then some false else if (cs.all fun c => (soO c vs ls).isSome) = true then some (cs.all fun c => soO c vs ls == some true) else none
  | _, _ => none
theorem dk_ints {st : Sto} {xs : List D} (h : xs.all isI = true) : dk st (.tup xs) = true := dk_of fun x hx => by
  rw [isI_eq (List.all_eq_true.mp h x hx)]
  simp only [dk]
end U
set_option Elab.async false
set_option linter.all false
set_option maxRecDepth 100000
set_option maxHeartbeats 1000000
namespace U
open PySem
def lst3 (g x c : Int) : Ob := .lst [.int g, .int x, .int c]
def takeX (x c : Int) : Int := (x * 48271 + 7919 * (c + 1) * (c + 1) + 11) % 2147483647
def takeD (g x c many : Int) : Int := if 0 < g then g % many else (takeX x c / 8) ^ 3 % 2147483629 % many
def takeO (g x c many : Int) : Ob := if 0 < g then lst3 (g / many) x c else lst3 g (takeX x c) (c + 1)
def int3 (o : Ob) : Option (Int × Int × Int) := match o with
  | .lst [.int g, .int x, .int c] => some (g, x, c)
  | _ => none
theorem int3_eq {o : Ob} {g x c : Int} (h : int3 o = some (g, x, c)) : o = lst3 g x c := by
  unfold int3 at h
  split at h
  · cases h; rfl
  · cases h
def CtOk (x c : Int) : Prop := 0 ≤ x ∧ x < 2147483647 ∧ 0 ≤ c ∧ c < 1000000
instance (x c : Int) : Decidable (CtOk x c) := inferInstanceAs (Decidable (_ ∧ _ ∧ _ ∧ _))
def s_take : Fm := wr 2 fun ds st => match ds with
  | [.ref k, .int many] => match (st[k]?).bind int3 with
    | some (g, x, c) => if CtOk x c ∧ 0 < many ∧ many < 1073741824 then some (.int (takeD g x c many), st.set k (takeO g x c many)) else none
    | none => none
  | _ => none
theorem take_of {st : Sto} {k : Nat} {g x c many : Int} (h : st[k]? = some (lst3 g x c)) (hc : CtOk x c) (h0 : 0 < many) (h1 : many < 1073741824) : s_take [.ref k, .int many] st = .ok (.int (takeD g x c many)) (st.set k (takeO g x c many)) := by
  refine wr_ok rfl ?_
  show (match (st[k]?).bind int3 with | some (g, x, c) => if CtOk x c ∧ 0 < many ∧ many < 1073741824 then some (D.int (takeD g x c many), st.set k (takeO g x c many)) else none | none => none) = _
  rw [h]
  show (if CtOk x c ∧ 0 < many ∧ many < 1073741824 then some (D.int (takeD g x c many), st.set k (takeO g x c many)) else none) = _
  rw [if_pos ⟨hc, h0, h1⟩]
theorem take_range {g x c many : Int} (h0 : 0 < many) : 0 ≤ takeD g x c many ∧ takeD g x c many < many := by
  unfold takeD
  split
  · exact ⟨Int.emod_nonneg _ (by omega), Int.emod_lt_of_pos _ h0⟩
  · exact ⟨Int.emod_nonneg _ (by omega), Int.emod_lt_of_pos _ h0⟩
theorem takeX_range {x c : Int} : 0 ≤ takeX x c ∧ takeX x c < 2147483647 := ⟨Int.emod_nonneg _ (by decide), Int.emod_lt_of_pos _ (by decide)⟩
theorem take_next {g x c many : Int} (hc : CtOk x c) (h : c + 1 < 1000000) : ∃ g' x' c', takeO g x c many = lst3 g' x' c' ∧ CtOk x' c' ∧ c' ≤ c + 1 := by
  unfold takeO
  split
  · exact ⟨_, _, _, rfl, hc, by omega⟩
  · exact ⟨_, _, _, rfl, ⟨takeX_range.1, takeX_range.2, by have := hc.2.2.1; omega, h⟩, Int.le_refl _⟩
theorem ev_gset {env : Ev} {st : Sto} {i k jn : Nat} {xs : List D} {j : Int} {d : D} (he : env[i]? = some (some (.ref k))) (hk : st[k]? = some (.lst xs)) (hj : L2.ixN xs.length j = some jn) :
    gSet (eVar i) (eC (.int j)) d env st = some (env, st.set k (.lst (xs.set jn d))) := by
  unfold gSet eVar eC
  rw [he]
  simp only [R.bind, hk, hj]
theorem lst_at {st : Sto} {k : Nat} {xs : List D} (h : st[k]? = some (.lst xs)) : seqOf st (.ref k) = some xs := by
  unfold seqOf lstOf
  simp only [h]
theorem modI {st : Sto} {i j : Int} (h : 0 < j) : dMod (.int i) (.int j) st = .ok (.int (i % j)) st := if_pos h
theorem divI {st : Sto} {i j : Int} (h : 0 < j) (h2 : j < 1073741824) : dDiv (.int i) (.int j) st = .ok (.int (i / j)) st := if_pos ⟨h, h2⟩
theorem powI {st : Sto} {i j : Int} (h : 0 ≤ j) (h2 : j ≤ 1000000) (h3 : i.natAbs < 18446744073709551616) : dPow (.int i) (.int j) st = .ok (.int (i ^ j.toNat)) st := if_pos ⟨h, h2, h3⟩
theorem bag_take {st : Sto} {k : Nat} {g x c many : Int} {m : Fm}
    (body : SM) (hm : m = mkFn 2 3 body)
    (hb : body = sSeq (sIf (tOf (eBin dGt (eBin dIx (eVar 0) (eC (.int 0))) (eC (.int 0)))) (sSeq (sSet 2 (eBin dMod (eBin dIx (eVar 0) (eC (.int 0))) (eVar 1))) (sSeq (sAsg (eBin dDiv (eBin dIx (eVar 0) (eC (.int 0))) (eVar 1)) (gSet (eVar 0) (eC (.int 0)))) (sRet (eVar 2)))) sSkip)
      (sSeq (sAsg (eBin dAdd (eBin dIx (eVar 0) (eC (.int 2))) (eC (.int 1))) (gSet (eVar 0) (eC (.int 2))))
      (sSeq (sAsg (eBin dMod (eBin dAdd (eBin dAdd (eBin dMul (eBin dIx (eVar 0) (eC (.int 1))) (eC (.int 48271))) (eBin dMul (eBin dMul (eC (.int 7919)) (eBin dIx (eVar 0) (eC (.int 2)))) (eBin dIx (eVar 0) (eC (.int 2))))) (eC (.int 11))) (eC (.int 2147483647))) (gSet (eVar 0) (eC (.int 1))))
      (sRet (eBin dMod (eBin dMod (eBin dPow (eBin dDiv (eBin dIx (eVar 0) (eC (.int 1))) (eC (.int 8))) (eC (.int 3))) (eC (.int 2147483629))) (eVar 1))))))
    (h : st[k]? = some (lst3 g x c)) (hc : CtOk x c) (h0 : 0 < many) (h1 : many < 1073741824) : m [.ref k, .int many] st = .ok (.int (takeD g x c many)) (st.set k (takeO g x c many)) := by
  have hk : k < st.length := (List.getElem?_eq_some_iff.mp h).1
  have a0 := ixS (st := st) (v := .ref k) (i := 0) (d := .int g) (lst_at h) rfl
  have a2 := ixS (st := st) (v := .ref k) (i := 2) (d := .int c) (lst_at h) rfl
  subst hm hb
  by_cases hg : 0 < g
  · simp only [ev_var, ev_c, ev_un, ev_bin, ev_anil, ev_acons, ev_fn, ev_tof, ev_tob, ev_tand, ev_tor, ev_tnot, ev_and, ev_or, ev_not, ev_if, ev_chain, ev_true, ev_slice, ev_onone, ev_osome, ev_iseq, ev_irng, ev_ienum, ev_ibin, ev_lc, ev_skip, ev_never, ev_seq, ev_ret, ev_sif, ev_set, ev_expr, ev_asg, ev_par, ev_for, ev_fld, ev_gn, ev_gsnil, ev_gscons, ev_gt, ev_mkfn, ev_bok, ev_berr, ev_bfail, ev_tok, ev_hok, ev_ert, ev_enx, ev_wn, ev_wc, ev_e0, ev_sseq, ev_senum, ev_szip, ev_sltup, ev_ltI, ev_leI, ev_gtI, ev_geI, ev_subI, ev_addI, ev_lenT, List.map_cons, List.map_nil, List.length_cons, List.length_nil, List.cons_append, List.nil_append, List.append_nil, List.getElem?_cons_zero, List.getElem?_cons_succ, List.set_cons_zero, List.set_cons_succ, List.replicate_succ, List.replicate_zero, Nat.reduceAdd, Nat.reduceSub, Nat.reduceEqDiff, reduceIte, Bool.true_eq_false, Bool.false_eq_true, if_true, if_false, a0, decide_eq_true hg, modI h0, divI h0 h1]
    rw [ev_gset rfl h (jn := 0) rfl]
    simp only [ev_var, ev_c, ev_un, ev_bin, ev_anil, ev_acons, ev_fn, ev_tof, ev_tob, ev_tand, ev_tor, ev_tnot, ev_and, ev_or, ev_not, ev_if, ev_chain, ev_true, ev_slice, ev_onone, ev_osome, ev_iseq, ev_irng, ev_ienum, ev_ibin, ev_lc, ev_skip, ev_never, ev_seq, ev_ret, ev_sif, ev_set, ev_expr, ev_asg, ev_par, ev_for, ev_fld, ev_gn, ev_gsnil, ev_gscons, ev_gt, ev_mkfn, ev_bok, ev_berr, ev_bfail, ev_tok, ev_hok, ev_ert, ev_enx, ev_wn, ev_wc, ev_e0, ev_sseq, ev_senum, ev_szip, ev_sltup, ev_ltI, ev_leI, ev_gtI, ev_geI, ev_subI, ev_addI, ev_lenT, List.map_cons, List.map_nil, List.length_cons, List.length_nil, List.cons_append, List.nil_append, List.append_nil, List.getElem?_cons_zero, List.getElem?_cons_succ, List.set_cons_zero, List.set_cons_succ, List.replicate_succ, List.replicate_zero, Nat.reduceAdd, Nat.reduceSub, Nat.reduceEqDiff, reduceIte, Bool.true_eq_false, Bool.false_eq_true, if_true, if_false]
    unfold takeD takeO
    rw [if_pos hg, if_pos hg]
    rfl
  · obtain ⟨c1, c2, c3, c4⟩ := hc
    simp only [ev_var, ev_c, ev_un, ev_bin, ev_anil, ev_acons, ev_fn, ev_tof, ev_tob, ev_tand, ev_tor, ev_tnot, ev_and, ev_or, ev_not, ev_if, ev_chain, ev_true, ev_slice, ev_onone, ev_osome, ev_iseq, ev_irng, ev_ienum, ev_ibin, ev_lc, ev_skip, ev_never, ev_seq, ev_ret, ev_sif, ev_set, ev_expr, ev_asg, ev_par, ev_for, ev_fld, ev_gn, ev_gsnil, ev_gscons, ev_gt, ev_mkfn, ev_bok, ev_berr, ev_bfail, ev_tok, ev_hok, ev_ert, ev_enx, ev_wn, ev_wc, ev_e0, ev_sseq, ev_senum, ev_szip, ev_sltup, ev_ltI, ev_leI, ev_gtI, ev_geI, ev_subI, ev_addI, ev_lenT, List.map_cons, List.map_nil, List.length_cons, List.length_nil, List.cons_append, List.nil_append, List.append_nil, List.getElem?_cons_zero, List.getElem?_cons_succ, List.set_cons_zero, List.set_cons_succ, List.replicate_succ, List.replicate_zero, Nat.reduceAdd, Nat.reduceSub, Nat.reduceEqDiff, reduceIte, Bool.true_eq_false, Bool.false_eq_true, if_true, if_false, a0, decide_eq_false hg, a2]
    rw [ev_gset rfl h (jn := 2) rfl]
    simp only [ev_var, ev_c, ev_un, ev_bin, ev_anil, ev_acons, ev_fn, ev_tof, ev_tob, ev_tand, ev_tor, ev_tnot, ev_and, ev_or, ev_not, ev_if, ev_chain, ev_true, ev_slice, ev_onone, ev_osome, ev_iseq, ev_irng, ev_ienum, ev_ibin, ev_lc, ev_skip, ev_never, ev_seq, ev_ret, ev_sif, ev_set, ev_expr, ev_asg, ev_par, ev_for, ev_fld, ev_gn, ev_gsnil, ev_gscons, ev_gt, ev_mkfn, ev_bok, ev_berr, ev_bfail, ev_tok, ev_hok, ev_ert, ev_enx, ev_wn, ev_wc, ev_e0, ev_sseq, ev_senum, ev_szip, ev_sltup, ev_ltI, ev_leI, ev_gtI, ev_geI, ev_subI, ev_addI, ev_lenT, List.map_cons, List.map_nil, List.length_cons, List.length_nil, List.cons_append, List.nil_append, List.append_nil, List.getElem?_cons_zero, List.getElem?_cons_succ, List.set_cons_zero, List.set_cons_succ, List.replicate_succ, List.replicate_zero, Nat.reduceAdd, Nat.reduceSub, Nat.reduceEqDiff, reduceIte, Bool.true_eq_false, Bool.false_eq_true, if_true, if_false]
    obtain ⟨st1, hs1⟩ : ∃ s, s = st.set k (.lst [D.int g, .int x, .int (c + 1)]) := ⟨_, rfl⟩
    rw [← hs1]
    have hk1 : k < st1.length := by rw [hs1, List.length_set]; exact hk
    have e1 : st1[k]? = some (.lst [D.int g, .int x, .int (c + 1)]) := by rw [hs1]; exact get_set hk
    have b1 := ixS (st := st1) (v := .ref k) (i := 1) (d := .int x) (lst_at e1) rfl
    have b2 := ixS (st := st1) (v := .ref k) (i := 2) (d := .int (c + 1)) (lst_at e1) rfl
    simp only [ev_var, ev_c, ev_un, ev_bin, ev_anil, ev_acons, ev_fn, ev_tof, ev_tob, ev_tand, ev_tor, ev_tnot, ev_and, ev_or, ev_not, ev_if, ev_chain, ev_true, ev_slice, ev_onone, ev_osome, ev_iseq, ev_irng, ev_ienum, ev_ibin, ev_lc, ev_skip, ev_never, ev_seq, ev_ret, ev_sif, ev_set, ev_expr, ev_asg, ev_par, ev_for, ev_fld, ev_gn, ev_gsnil, ev_gscons, ev_gt, ev_mkfn, ev_bok, ev_berr, ev_bfail, ev_tok, ev_hok, ev_ert, ev_enx, ev_wn, ev_wc, ev_e0, ev_sseq, ev_senum, ev_szip, ev_sltup, ev_ltI, ev_leI, ev_gtI, ev_geI, ev_subI, ev_addI, ev_lenT, List.map_cons, List.map_nil, List.length_cons, List.length_nil, List.cons_append, List.nil_append, List.append_nil, List.getElem?_cons_zero, List.getElem?_cons_succ, List.set_cons_zero, List.set_cons_succ, List.replicate_succ, List.replicate_zero, Nat.reduceAdd, Nat.reduceSub, Nat.reduceEqDiff, reduceIte, Bool.true_eq_false, Bool.false_eq_true, if_true, if_false, b1, b2, mulI (i := x) (j := 48271) c1 (by omega), mulI (i := 7919) (j := c + 1) (by omega) (by omega), mulI (i := 7919 * (c + 1)) (j := c + 1) (by omega) (by omega), modI (j := 2147483647) (by decide)]
    rw [ev_gset rfl e1 (jn := 1) rfl]
    simp only [ev_var, ev_c, ev_un, ev_bin, ev_anil, ev_acons, ev_fn, ev_tof, ev_tob, ev_tand, ev_tor, ev_tnot, ev_and, ev_or, ev_not, ev_if, ev_chain, ev_true, ev_slice, ev_onone, ev_osome, ev_iseq, ev_irng, ev_ienum, ev_ibin, ev_lc, ev_skip, ev_never, ev_seq, ev_ret, ev_sif, ev_set, ev_expr, ev_asg, ev_par, ev_for, ev_fld, ev_gn, ev_gsnil, ev_gscons, ev_gt, ev_mkfn, ev_bok, ev_berr, ev_bfail, ev_tok, ev_hok, ev_ert, ev_enx, ev_wn, ev_wc, ev_e0, ev_sseq, ev_senum, ev_szip, ev_sltup, ev_ltI, ev_leI, ev_gtI, ev_geI, ev_subI, ev_addI, ev_lenT, List.map_cons, List.map_nil, List.length_cons, List.length_nil, List.cons_append, List.nil_append, List.append_nil, List.getElem?_cons_zero, List.getElem?_cons_succ, List.set_cons_zero, List.set_cons_succ, List.replicate_succ, List.replicate_zero, Nat.reduceAdd, Nat.reduceSub, Nat.reduceEqDiff, reduceIte, Bool.true_eq_false, Bool.false_eq_true, if_true, if_false]
    obtain ⟨st2, hs2⟩ : ∃ s, s = st1.set k (.lst [D.int g, .int ((x * 48271 + 7919 * (c + 1) * (c + 1) + 11) % 2147483647), .int (c + 1)]) := ⟨_, rfl⟩
    rw [← hs2]
    have e2 : st2[k]? = some (.lst [D.int g, .int (takeX x c), .int (c + 1)]) := by rw [hs2]; exact get_set hk1
    have b3 := ixS (st := st2) (v := .ref k) (i := 1) (d := .int (takeX x c)) (lst_at e2) rfl
    have hx := takeX_range (x := x) (c := c)
    have hx8 : (takeX x c / 8).natAbs < 18446744073709551616 := by omega
    simp only [ev_var, ev_c, ev_un, ev_bin, ev_anil, ev_acons, ev_fn, ev_tof, ev_tob, ev_tand, ev_tor, ev_tnot, ev_and, ev_or, ev_not, ev_if, ev_chain, ev_true, ev_slice, ev_onone, ev_osome, ev_iseq, ev_irng, ev_ienum, ev_ibin, ev_lc, ev_skip, ev_never, ev_seq, ev_ret, ev_sif, ev_set, ev_expr, ev_asg, ev_par, ev_for, ev_fld, ev_gn, ev_gsnil, ev_gscons, ev_gt, ev_mkfn, ev_bok, ev_berr, ev_bfail, ev_tok, ev_hok, ev_ert, ev_enx, ev_wn, ev_wc, ev_e0, ev_sseq, ev_senum, ev_szip, ev_sltup, ev_ltI, ev_leI, ev_gtI, ev_geI, ev_subI, ev_addI, ev_lenT, List.map_cons, List.map_nil, List.length_cons, List.length_nil, List.cons_append, List.nil_append, List.append_nil, List.getElem?_cons_zero, List.getElem?_cons_succ, List.set_cons_zero, List.set_cons_succ, List.replicate_succ, List.replicate_zero, Nat.reduceAdd, Nat.reduceSub, Nat.reduceEqDiff, reduceIte, Bool.true_eq_false, Bool.false_eq_true, if_true, if_false, b3, divI (i := takeX x c) (j := 8) (by decide) (by decide), powI (j := 3) (by decide) (by decide) hx8, modI (j := 2147483629) (by decide), modI h0]
    unfold takeD takeO
    rw [if_neg hg, if_neg hg, hs2, hs1, List.set_set]
    rfl
theorem good3 {st : Sto} {k : Nat} {g x c : Int} (gd : Good st) : Good (st.set k (lst3 g x c)) := good_set gd (by simp [lst3, BndO, Bnds, Bnd])
theorem s_take_tells {m : Fm} (h : ∀ {st : Sto} {k : Nat} {g x c many : Int}, st[k]? = some (lst3 g x c) → CtOk x c → 0 < many → many < 1073741824 → m [.ref k, .int many] st = .ok (.int (takeD g x c many)) (st.set k (takeO g x c many))) : Tells m s_take := .wr fun ds st d st1 gd b hl hf => by
  match ds, hl, hf with
  | [.ref k, .int many], _, hf =>
    have h' : (match (st[k]?).bind int3 with | some (g, x, c) => if CtOk x c ∧ 0 < many ∧ many < 1073741824 then some (D.int (takeD g x c many), st.set k (takeO g x c many)) else none | none => none) = some (d, st1) := hf
    split at h'
    · rename_i g x c q
      obtain ⟨o, ho, hi⟩ := Option.bind_eq_some_iff.mp q
      have e := int3_eq hi
      subst e
      split at h'
      · rename_i hc
        cases h'
        refine ⟨by simp, ?_, by simp only [Bnd], [], by rw [List.append_nil]; exact h ho hc.1 hc.2.1 hc.2.2⟩
        unfold takeO
        split <;> exact good3 gd
      · cases h'
    · cases h'
def cellI (ns : List Int) (k : Nat) : Int := ns.getD k 0
def absI (i : Int) : Int := if i < 0 then -i else i
def bagG (c : Int) : Int := if 1000000000000000000 ≤ absI c then absI c else 0
def primes : List Int := [2147483629, 2147483587, 2147483579, 2147483563, 2147483549, 2147483543, 2147483497, 2147483489]
def bagX (c : Int) (k : Nat) : Int := (c % 2147483647 + 104729 * (k : Int) + 7) ^ 5 % primes.getD (k % 8) 1
theorem bagX_range (c : Int) (k : Nat) : 0 ≤ bagX c k ∧ bagX c k < 2147483647 := by
  have h : ∀ j, j < 8 → 0 < primes.getD j 1 ∧ primes.getD j 1 < 2147483647 := by decide
  obtain ⟨h1, h2⟩ := h (k % 8) (Nat.mod_lt _ (by decide))
  unfold bagX
  exact ⟨Int.emod_nonneg _ (by omega), Int.lt_trans (Int.emod_lt_of_pos _ h1) h2⟩
def intsOf : List D → Option (List Int)
  | [] => some []
  | .int i :: r => (intsOf r).map (i :: ·)
  | _ :: _ => none
theorem intsOf_map : ∀ ns : List Int, intsOf (ns.map D.int) = some ns
  | [] => rfl
  | i :: ns => by simp only [List.map_cons, intsOf, intsOf_map ns, Option.map_some]
theorem intsOf_eq : ∀ {xs : List D} {ns : List Int}, intsOf xs = some ns → xs = ns.map D.int
  | [], _, h => by cases h; rfl
  | .int i :: r, ns, h => by
    obtain ⟨vs, e, rfl⟩ := Option.map_eq_some_iff.mp (show (intsOf r).map (i :: ·) = some ns from h)
    rw [intsOf_eq e]
    rfl
  | .non :: _, _, h => by cases h
  | .bl _ :: _, _, h => by cases h
  | .str _ :: _, _, h => by cases h
  | .tup _ :: _, _, h => by cases h
  | .ref _ :: _, _, h => by cases h
def s_bag : Fm := nw 2 fun ds st => match ds with
  | [.ref n, .int k] => match (lstOf st n).bind intsOf with
    | some ns => if 0 ≤ k ∧ k < 1000000 ∧ ns.length ≤ 1000000 then some (lst3 (bagG (cellI ns k.toNat)) (bagX (cellI ns k.toNat) k.toNat) 0) else none
    | none => none
  | _ => none
theorem bag_of {st : Sto} {n k : Nat} {ns : List Int} (h : lstOf st n = some (ns.map D.int)) (hk : k < 1000000) (hn : ns.length ≤ 1000000) : s_bag [.ref n, .int k] st = .ok (.ref st.length) (st ++ [lst3 (bagG (cellI ns k)) (bagX (cellI ns k) k) 0]) := by
  refine nw_ok rfl ?_
  show (match (lstOf st n).bind intsOf with | some ns => if 0 ≤ (k : Int) ∧ (k : Int) < 1000000 ∧ ns.length ≤ 1000000 then some (lst3 (bagG (cellI ns (k : Int).toNat)) (bagX (cellI ns (k : Int).toNat) (k : Int).toNat) 0) else none | none => none) = _
  rw [h, Option.bind_some, intsOf_map]
  show (if 0 ≤ (k : Int) ∧ (k : Int) < 1000000 ∧ ns.length ≤ 1000000 then some (lst3 (bagG (cellI ns (k : Int).toNat)) (bagX (cellI ns (k : Int).toNat) (k : Int).toNat) 0) else none) = _
  rw [if_pos ⟨by omega, by omega, hn⟩, Int.toNat_natCast]
def bagT : SM := sSeq (sSet 4 (eFn mkLst (aCons (eC (.int 2147483629)) (aCons (eC (.int 2147483587)) (aCons (eC (.int 2147483579)) (aCons (eC (.int 2147483563)) (aCons (eC (.int 2147483549)) (aCons (eC (.int 2147483543)) (aCons (eC (.int 2147483497)) (aCons (eC (.int 2147483489)) aNil))))))))))
  (sRet (eFn mkLst (aCons (eVar 3) (aCons (eBin dMod (eBin dPow (eBin dAdd (eBin dAdd (eBin dMod (eVar 2) (eC (.int 2147483647))) (eBin dMul (eC (.int 104729)) (eVar 1))) (eC (.int 7))) (eC (.int 5))) (eBin dIx (eVar 4) (eBin dMod (eVar 1) (eC (.int 8))))) (aCons (eC (.int 0)) aNil)))))
def bagM : SM := sSeq (sSet 3 (eC (.int 0)))
  (sSeq (sIf (tOf (eBin dGe (eFn fAbs (aCons (eVar 2) aNil)) (eBin dPow (eC (.int 10)) (eC (.int 18))))) (sSet 3 (eFn fAbs (aCons (eVar 2) aNil))) sSkip) bagT)
def bagB : SM := sSeq (sSet 2 (eC (.int 0)))
  (sSeq (sIf (tOf (eBin dLt (eVar 1) (eFn fLen (aCons (eVar 0) aNil)))) (sSet 2 (eBin dIx (eVar 0) (eVar 1))) sSkip) bagM)
section
variable {st : Sto} {n j : Nat} {ns : List Int}
theorem bagT_ev {cell gg : Int} (hj : (j : Int) < 1000000) (hc : cell = cellI ns j) (hgg : gg = bagG (cellI ns j)) : endFn (bagT [some (.ref n), some (.int j), some (.int cell), some (.int gg), none] st) = .ok (.ref (st.length + 1)) (st ++ [.lst (primes.map D.int), lst3 (bagG (cellI ns j)) (bagX (cellI ns j) j) 0]) := by
  have hmod : 0 ≤ cell % 2147483647 ∧ cell % 2147483647 < 2147483647 := ⟨Int.emod_nonneg _ (by decide), Int.emod_lt_of_pos _ (by decide)⟩
  have hl8 : ∀ s : Sto, mkLst [.int 2147483629, .int 2147483587, .int 2147483579, .int 2147483563, .int 2147483549, .int 2147483543, .int 2147483497, .int 2147483489] s = .ok (.ref s.length) (s ++ [.lst (primes.map D.int)]) := fun s => if_pos (show 8 ≤ most by decide)
  have hl3 : ∀ (a b c : D) (s : Sto), mkLst [a, b, c] s = .ok (.ref s.length) (s ++ [.lst [a, b, c]]) := fun a b c s => if_pos (show 3 ≤ most by decide)
  have hj8 : (j : Int) % 8 = ((j % 8 : Nat) : Int) := by omega
  have hpr : dIx (.ref st.length) (.int ((j : Int) % 8)) (st ++ [.lst (primes.map D.int)]) = .ok (.int (primes.getD (j % 8) 1)) (st ++ [.lst (primes.map D.int)]) := by
    refine ixS (vs := primes.map D.int) (by unfold seqOf; simp only [lstOf_end]) ?_
    rw [hj8]
    refine L2.atI_nat ?_
    have h8 : j % 8 < primes.length := Nat.mod_lt _ (by decide)
    rw [List.getElem?_map, List.getElem?_eq_getElem h8, List.getD, List.getElem?_eq_getElem h8]
    rfl
  have hpp : 0 < primes.getD (j % 8) 1 := by
    have h : ∀ j, j < 8 → 0 < primes.getD j 1 := by decide
    exact h (j % 8) (Nat.mod_lt _ (by decide))
  simp only [bagT, ev_var, ev_c, ev_un, ev_bin, ev_anil, ev_acons, ev_fn, ev_tof, ev_tob, ev_tand, ev_tor, ev_tnot, ev_and, ev_or, ev_not, ev_if, ev_chain, ev_true, ev_slice, ev_onone, ev_osome, ev_iseq, ev_irng, ev_ienum, ev_ibin, ev_lc, ev_skip, ev_never, ev_seq, ev_ret, ev_sif, ev_set, ev_expr, ev_asg, ev_par, ev_for, ev_fld, ev_gn, ev_gsnil, ev_gscons, ev_gt, ev_mkfn, ev_bok, ev_berr, ev_bfail, ev_tok, ev_hok, ev_ert, ev_enx, ev_wn, ev_wc, ev_e0, ev_sseq, ev_senum, ev_szip, ev_sltup, ev_ltI, ev_leI, ev_gtI, ev_geI, ev_subI, ev_addI, ev_lenT, List.map_cons, List.map_nil, List.length_cons, List.length_nil, List.cons_append, List.nil_append, List.append_nil, List.getElem?_cons_zero, List.getElem?_cons_succ, List.set_cons_zero, List.set_cons_succ, List.replicate_succ, List.replicate_zero, Nat.reduceAdd, Nat.reduceSub, Nat.reduceEqDiff, reduceIte, Bool.true_eq_false, Bool.false_eq_true, if_true, if_false, hl8, modI (j := 2147483647) (by decide), mulI (i := 104729) (j := (j : Int)) (by decide) (by omega), powI (j := 5) (by decide) (by decide) (show (cell % 2147483647 + 104729 * (j : Int) + 7).natAbs < 18446744073709551616 by omega), modI (j := 8) (by decide), hpr, modI hpp, hl3]
  rw [hgg, hc]
  simp only [List.length_append, List.length_cons, List.length_nil, List.append_assoc, List.cons_append, List.nil_append]
  rfl
theorem bagM_ev {cell : Int} (hj : (j : Int) < 1000000) (hc : cell = cellI ns j) : endFn (bagM [some (.ref n), some (.int j), some (.int cell), none, none] st) = .ok (.ref (st.length + 1)) (st ++ [.lst (primes.map D.int), lst3 (bagG (cellI ns j)) (bagX (cellI ns j) j) 0]) := by
  have hp : ∀ (s : Sto), dPow (.int 10) (.int 18) s = .ok (.int 1000000000000000000) s := fun s => by rw [powI (by decide) (by decide) (by decide)]; rfl
  have ha : ∀ (s : Sto), fAbs [.int cell] s = .ok (.int (absI cell)) s := fun s => rfl
  by_cases hb : 1000000000000000000 ≤ absI cell
  · have := bagT_ev (st := st) (n := n) (gg := absI cell) hj hc (by rw [← hc]; unfold bagG; rw [if_pos hb])
    simp only [bagM, ev_var, ev_c, ev_un, ev_bin, ev_anil, ev_acons, ev_fn, ev_tof, ev_tob, ev_tand, ev_tor, ev_tnot, ev_and, ev_or, ev_not, ev_if, ev_chain, ev_true, ev_slice, ev_onone, ev_osome, ev_iseq, ev_irng, ev_ienum, ev_ibin, ev_lc, ev_skip, ev_never, ev_seq, ev_ret, ev_sif, ev_set, ev_expr, ev_asg, ev_par, ev_for, ev_fld, ev_gn, ev_gsnil, ev_gscons, ev_gt, ev_mkfn, ev_bok, ev_berr, ev_bfail, ev_tok, ev_hok, ev_ert, ev_enx, ev_wn, ev_wc, ev_e0, ev_sseq, ev_senum, ev_szip, ev_sltup, ev_ltI, ev_leI, ev_gtI, ev_geI, ev_subI, ev_addI, ev_lenT, List.map_cons, List.map_nil, List.length_cons, List.length_nil, List.cons_append, List.nil_append, List.append_nil, List.getElem?_cons_zero, List.getElem?_cons_succ, List.set_cons_zero, List.set_cons_succ, List.replicate_succ, List.replicate_zero, Nat.reduceAdd, Nat.reduceSub, Nat.reduceEqDiff, reduceIte, Bool.true_eq_false, Bool.false_eq_true, if_true, if_false, ha, hp, decide_eq_true hb]
    exact this
  · have := bagT_ev (st := st) (n := n) (gg := 0) hj hc (by rw [← hc]; unfold bagG; rw [if_neg hb])
    simp only [bagM, ev_var, ev_c, ev_un, ev_bin, ev_anil, ev_acons, ev_fn, ev_tof, ev_tob, ev_tand, ev_tor, ev_tnot, ev_and, ev_or, ev_not, ev_if, ev_chain, ev_true, ev_slice, ev_onone, ev_osome, ev_iseq, ev_irng, ev_ienum, ev_ibin, ev_lc, ev_skip, ev_never, ev_seq, ev_ret, ev_sif, ev_set, ev_expr, ev_asg, ev_par, ev_for, ev_fld, ev_gn, ev_gsnil, ev_gscons, ev_gt, ev_mkfn, ev_bok, ev_berr, ev_bfail, ev_tok, ev_hok, ev_ert, ev_enx, ev_wn, ev_wc, ev_e0, ev_sseq, ev_senum, ev_szip, ev_sltup, ev_ltI, ev_leI, ev_gtI, ev_geI, ev_subI, ev_addI, ev_lenT, List.map_cons, List.map_nil, List.length_cons, List.length_nil, List.cons_append, List.nil_append, List.append_nil, List.getElem?_cons_zero, List.getElem?_cons_succ, List.set_cons_zero, List.set_cons_succ, List.replicate_succ, List.replicate_zero, Nat.reduceAdd, Nat.reduceSub, Nat.reduceEqDiff, reduceIte, Bool.true_eq_false, Bool.false_eq_true, if_true, if_false, ha, hp, decide_eq_false hb]
    exact this
end
theorem s_bag_tells {m : Fm} (hm : m = mkFn 2 5 bagB) : Tells m s_bag := .nw fun ds st o g b hl h => by
  subst hm
  match ds, hl, h with
  | [.ref n, .int k], _, h =>
    have h' : (match (lstOf st n).bind intsOf with | some ns => if 0 ≤ k ∧ k < 1000000 ∧ ns.length ≤ 1000000 then some (lst3 (bagG (cellI ns k.toNat)) (bagX (cellI ns k.toNat) k.toNat) 0) else none | none => none) = some o := h
    split at h'
    · rename_i ns q
      split at h'
      · rename_i hk
        cases h'
        obtain ⟨xs, hx, hi⟩ := Option.bind_eq_some_iff.mp q
        have ex := intsOf_eq hi
        subst ex
        obtain ⟨hk0, hk1, hn⟩ := hk
        obtain ⟨j, rfl⟩ := Int.eq_ofNat_of_zero_le hk0
        simp only [Int.toNat_natCast]
        refine ⟨by simp [lst3, BndO, Bnds, Bnd], [.lst (primes.map D.int), lst3 (bagG (cellI ns j)) (bagX (cellI ns j) j) 0], 1, rfl, ?_⟩
        have hlen : fLen [.ref n] st = .ok (.int ns.length) st := by
          unfold fLen seqOf
          simp only [hx, List.length_map]
        by_cases hj : j < ns.length
        · have hix : dIx (.ref n) (.int j) st = .ok (.int (cellI ns j)) st := by
            refine ixS (vs := ns.map D.int) (by unfold seqOf; exact hx) (L2.atI_nat ?_)
            rw [List.getElem?_map, List.getElem?_eq_getElem hj]
            unfold cellI
            rw [List.getD, List.getElem?_eq_getElem hj]
            rfl
          have hd : decide ((j : Int) < (ns.length : Int)) = true := decide_eq_true (by omega)
          simp only [bagB, ev_var, ev_c, ev_un, ev_bin, ev_anil, ev_acons, ev_fn, ev_tof, ev_tob, ev_tand, ev_tor, ev_tnot, ev_and, ev_or, ev_not, ev_if, ev_chain, ev_true, ev_slice, ev_onone, ev_osome, ev_iseq, ev_irng, ev_ienum, ev_ibin, ev_lc, ev_skip, ev_never, ev_seq, ev_ret, ev_sif, ev_set, ev_expr, ev_asg, ev_par, ev_for, ev_fld, ev_gn, ev_gsnil, ev_gscons, ev_gt, ev_mkfn, ev_bok, ev_berr, ev_bfail, ev_tok, ev_hok, ev_ert, ev_enx, ev_wn, ev_wc, ev_e0, ev_sseq, ev_senum, ev_szip, ev_sltup, ev_ltI, ev_leI, ev_gtI, ev_geI, ev_subI, ev_addI, ev_lenT, List.map_cons, List.map_nil, List.length_cons, List.length_nil, List.cons_append, List.nil_append, List.append_nil, List.getElem?_cons_zero, List.getElem?_cons_succ, List.set_cons_zero, List.set_cons_succ, List.replicate_succ, List.replicate_zero, Nat.reduceAdd, Nat.reduceSub, Nat.reduceEqDiff, reduceIte, Bool.true_eq_false, Bool.false_eq_true, if_true, if_false, hlen, hd, hix]
          exact bagM_ev hk1 rfl
        · have hd : decide ((j : Int) < (ns.length : Int)) = false := decide_eq_false (by omega)
          simp only [bagB, ev_var, ev_c, ev_un, ev_bin, ev_anil, ev_acons, ev_fn, ev_tof, ev_tob, ev_tand, ev_tor, ev_tnot, ev_and, ev_or, ev_not, ev_if, ev_chain, ev_true, ev_slice, ev_onone, ev_osome, ev_iseq, ev_irng, ev_ienum, ev_ibin, ev_lc, ev_skip, ev_never, ev_seq, ev_ret, ev_sif, ev_set, ev_expr, ev_asg, ev_par, ev_for, ev_fld, ev_gn, ev_gsnil, ev_gscons, ev_gt, ev_mkfn, ev_bok, ev_berr, ev_bfail, ev_tok, ev_hok, ev_ert, ev_enx, ev_wn, ev_wc, ev_e0, ev_sseq, ev_senum, ev_szip, ev_sltup, ev_ltI, ev_leI, ev_gtI, ev_geI, ev_subI, ev_addI, ev_lenT, List.map_cons, List.map_nil, List.length_cons, List.length_nil, List.cons_append, List.nil_append, List.append_nil, List.getElem?_cons_zero, List.getElem?_cons_succ, List.set_cons_zero, List.set_cons_succ, List.replicate_succ, List.replicate_zero, Nat.reduceAdd, Nat.reduceSub, Nat.reduceEqDiff, reduceIte, Bool.true_eq_false, Bool.false_eq_true, if_true, if_false, hlen, hd]
          exact bagM_ev hk1 (by unfold cellI; rw [List.getD, List.getElem?_eq_none (by omega)]; rfl)
      · cases h'
    · cases h'
theorem rngL_length {lo : Int} {n : Nat} : (rngL lo n).length = n := by simp [rngL]
theorem rngL_mem {n : Nat} {x : D} (h : x ∈ rngL 0 n) : ∃ i : Nat, i < n ∧ x = .int (i : Int) := by
  unfold rngL at h
  obtain ⟨i, hi, rfl⟩ := List.mem_map.mp h
  exact ⟨i, List.mem_range.mp hi, by rw [Int.zero_add]⟩
theorem rngL_get {n i : Nat} {x : D} (h : (rngL 0 n)[i]? = some x) : i < n ∧ x = .int (i : Int) := by
  have hi : i < (rngL 0 n).length := (List.getElem?_eq_some_iff.mp h).1
  rw [rngL_length] at hi
  unfold rngL at h
  rw [List.getElem?_map, List.getElem?_range hi] at h
  simp only [Option.map_some, Option.some.injEq, Int.zero_add] at h
  exact ⟨hi, h.symm⟩
theorem rngL_map {α : Type} {n : Nat} {f : D → α} : (rngL 0 n).map f = (List.range n).map fun (i : Nat) => f (.int (i : Int)) := by
  unfold rngL
  rw [List.map_map]
  congr 1
  funext i
  simp only [Function.comp_apply, Int.zero_add]
theorem rng_src {st : Sto} {n : Nat} (h : n ≤ most) : rngSrc (.int (n : Int)) st = .ok (.fix (rngL 0 n)) st := by
  have : n ≤ 1000000 := h
  unfold rngSrc
  simp only
  rw [if_pos (by omega)]
  rfl
theorem dk0 {st : Sto} {d : D} (h : dk [] d = true) : dk st d = true := dk_app (st := []) (ex := st) h
theorem Bnds_bl {n : Nat} : ∀ bs : List Bool, Bnds n (bs.map D.bl)
  | [] => by simp only [List.map_nil, Bnds]
  | b :: bs => by simp only [List.map_cons, Bnds, Bnd]; exact ⟨trivial, Bnds_bl bs⟩
theorem irng_of {a : EM} {env : Ev} {st st1 : Sto} {n : Nat} (h : a env st = .ok (.int (n : Int)) st1) (hn : n ≤ most) : iRng a env st = .ok (.fix (rngL 0 n)) st1 := by
  unfold iRng
  rw [h, ev_bok]
  exact rng_src hn
end U
set_option Elab.async false
set_option linter.all false
set_option maxRecDepth 100000
set_option maxHeartbeats 1000000
namespace U
open PySem PySem.Spec PyProof.Rows L2
theorem RVs_ints {K : PySem.W.Frag} {H : Hp} {m : Pl} : ∀ ns : List Int, RVs K H m (ns.map D.int) (ns.map V.int)
  | [] => .nil
  | n :: ns => .cons .int (RVs_ints ns)
def Script (ob : Ob) (ns : List Int) : Prop := ob = .rol (ns.map D.int) ∨ ob = .kst (ns.map D.int)
theorem Script.at {ob : Ob} {ns : List Int} (h : Script ob ns) {st : Sto} (e : st[0]? = some ob) : lstOf st 0 = some (ns.map D.int) := by
  unfold lstOf
  rw [e]
  rcases h with rfl | rfl <;> rfl
theorem one_store {K : PySem.W.Frag} {H : Hp} {a : Addr} {ob : Ob} (h : OR K H [a] a ob) : SR K H [a] [ob] :=
  ⟨rfl, fun i j _ _ _ hi hj _ _ _ _ => by
    have h1 : i < [a].length := (List.getElem?_eq_some_iff.mp hi).1
    have h2 : j < [a].length := (List.getElem?_eq_some_iff.mp hj).1
    simp at h1 h2
    omega, fun i b o hb ho => by
    have h1 : i < [a].length := (List.getElem?_eq_some_iff.mp hb).1
    have : i = 0 := by simp at h1; omega
    subst this
    cases hb
    cases ho
    exact h⟩
theorem ends {K : PySem.W.Frag} {f : Fm} {H : Hp} {a : Addr} {ns : List Int} (hf : ∀ ob, Script ob ns → ∃ st, f [.ref 0] [ob] = .ok (.bl true) st) (hO : Only H) (hS : SqL K H a (ns.map V.int)) :
    spF K 1 f [.ref a] H (fun v _ => v = .bl true) fun _ _ _ => False := by
  have key : ∀ ob, Script ob ns → OR K H [a] a ob → spF K 1 f [.ref a] H (fun v _ => v = .bl true) fun _ _ _ => False := fun ob hs h => by
    obtain ⟨st, e⟩ := hf ob hs
    refine ⟨rfl, [.ref 0], [a], [ob], .cons (.ref rfl) .nil, one_store h, ?_⟩
    rw [e]
    intro v H' m' _ _ _ r
    cases r
    rfl
  rcases hS with hR | hK
  · rcases hO a with h0 | ⟨o, xs, h0⟩
    · rcases hR with r | ⟨o, r⟩ <;> rw [h0] at r <;> cases r
    · have e : xs = ns.map V.int := by
        rcases hR with r | ⟨o', r⟩
        · rw [h0] at r; cases r
        · rw [h0] at r; cases r; rfl
      subst e
      exact key _ (.inl rfl) ⟨o, _, h0, RVs_ints ns⟩
  · exact key _ (.inr rfl) ⟨_, fun _ => .inr hK, RVs_ints ns⟩
theorem noCX {P : Program} {w : World} (H : Hp) (s : Shared) (e : Value) (s' : Shared) (h : L2.CX P w [] H s (fun _ _ _ => False) e s') : False := by
  obtain ⟨_, _, _, _, _, _, _, _, _, _, _, _, z⟩ := h
  exact z
theorem walkW {law : PySem.W.OpenLaw} {n k : Nat} {q : Program} {loose : List Str} {XP : (Str → Option Value) → Heap → Prop} {YP : World → Heap → Prop} {d : DefRec} {x : Str} (h1 : law.most = some n) (h2 : n ≤ sizeLine) (h3 : d.params.defaults = []) (h4 : Room k callerA)
    (F : ∀ (w : World) (mg : Str → Option Value) (fa : Addr) (h : Heap), YP w h → h.Ns mainGlobals mg → mg d.name = some (.ref fa) → ∃ (K : PySem.W.Frag) (fd : FuncData) (f : Fm), K.In h ∧ (∀ (s : Shared) (u : Value), BindsTo s fd ⟨[u], []⟩ [(x, u)]) ∧ (∀ (ob : Ob) (ns : List Int), ns.length ≤ n → Script ob ns → ∃ st, f [.ref 0] [ob] = .ok (.bl true) st) ∧ ∀ base : Heap, FnOk law.prog w K mg base (L2.CX law.prog w) k fa fd [x] (spF K 1 f)) :
    PySem.W.WalkO q loose XP YP law.row.toRowW d [] (fun f vs => PySem.call f vs) := by
  refine Att.attach_call h1 h3 fun w s0 s1 mg mb fa o pm cd doc a vs ns G Y _ _ _ q1 q2 q3 q4 q5 => ?_
  obtain ⟨K, fd, f, KX, hb, hf, hF⟩ := F w mg fa _ Y G.T.g q1
  exact law_call KX G.T.g G.T.b G.T.builtins G.T.nolimit q5 q2 q3 (Nat.le_trans q4 h2) h4 (fun base _ _ => hF base) hb (fun H hO hS => ends (fun ob hs => hf ob ns q4 hs) hO hS) fun H e s' z => noCX H s1 e s' z
end U
set_option Elab.async false
set_option linter.all false
set_option maxRecDepth 100000
set_option maxHeartbeats 0
namespace Hd
open PySem PySem.Spec PyProof.Rows L2
def top (i : Nat) : Stmt := PySem.Challenge.pw_hushrules_k10_conditions_one_by_one.main.body.getD i (.Pass ⟨0, 0, 0, 0⟩)
def topM (i j : Nat) : Stmt := inClass (top i) j
def d_is_whole : He.DefD := ⟨("is_whole", none), "is_whole", "is_whole", defArgs (top 11), defBody (top 11), defScope (top 11), [], []⟩
def d_is_within : He.DefD := ⟨("is_within", none), "is_within", "is_within", defArgs (top 12), defBody (top 12), defScope (top 12), [], []⟩
def d_is_below : He.DefD := ⟨("is_below", none), "is_below", "is_below", defArgs (top 13), defBody (top 13), defScope (top 13), [], []⟩
def d_is_rising : He.DefD := ⟨("is_rising", none), "is_rising", "is_rising", defArgs (top 14), defBody (top 14), defScope (top 14), [], []⟩
def d_is_wheels : He.DefD := ⟨("is_wheels", none), "is_wheels", "is_wheels", defArgs (top 15), defBody (top 15), defScope (top 15), [], []⟩
def d_is_values : He.DefD := ⟨("is_values", none), "is_values", "is_values", defArgs (top 16), defBody (top 16), defScope (top 16), [], []⟩
def d_is_left : He.DefD := ⟨("is_left", none), "is_left", "is_left", defArgs (top 17), defBody (top 17), defScope (top 17), [], []⟩
def d_is_state_of : He.DefD := ⟨("is_state_of", none), "is_state_of", "is_state_of", defArgs (top 18), defBody (top 18), defScope (top 18), [], []⟩
def d_want_state : He.DefD := ⟨("want_state", none), "want_state", "want_state", defArgs (top 19), defBody (top 19), defScope (top 19), [], []⟩
def d_want_rule : He.DefD := ⟨("want_rule", none), "want_rule", "want_rule", defArgs (top 20), defBody (top 20), defScope (top 20), [], []⟩
def d_Book_init : He.DefD := ⟨("Book", some "__init__"), "__init__", "Book.__init__", defArgs (topM 29 0), defBody (topM 29 0), defScope (topM 29 0), [.adr (He.dflAt ("Book", some "__init__") 0)], []⟩
def d_is_row : He.DefD := ⟨("is_row", none), "is_row", "is_row", defArgs (top 30), defBody (top 30), defScope (top 30), [], []⟩
def d_is_rule : He.DefD := ⟨("is_rule", none), "is_rule", "is_rule", defArgs (top 31), defBody (top 31), defScope (top 31), [], []⟩
def d_is_condition : He.DefD := ⟨("is_condition", none), "is_condition", "is_condition", defArgs (top 32), defBody (top 32), defScope (top 32), [], []⟩
def d_is_moment : He.DefD := ⟨("is_moment", none), "is_moment", "is_moment", defArgs (top 33), defBody (top 33), defScope (top 33), [], []⟩
def d_is_change : He.DefD := ⟨("is_change", none), "is_change", "is_change", defArgs (top 34), defBody (top 34), defScope (top 34), [], []⟩
def d_is_spot : He.DefD := ⟨("is_spot", none), "is_spot", "is_spot", defArgs (top 35), defBody (top 35), defScope (top 35), [], []⟩
def d_is_hushes : He.DefD := ⟨("is_hushes", none), "is_hushes", "is_hushes", defArgs (top 36), defBody (top 36), defScope (top 36), [], []⟩
def d_is_hush : He.DefD := ⟨("is_hush", none), "is_hush", "is_hush", defArgs (top 37), defBody (top 37), defScope (top 37), [], []⟩
def d_is_wakes : He.DefD := ⟨("is_wakes", none), "is_wakes", "is_wakes", defArgs (top 38), defBody (top 38), defScope (top 38), [], []⟩
def d_may_do : He.DefD := ⟨("may_do", none), "may_do", "may_do", defArgs (top 43), defBody (top 43), defScope (top 43), [], []⟩
def d_is_ready : He.DefD := ⟨("is_ready", none), "is_ready", "is_ready", defArgs (top 44), defBody (top 44), defScope (top 44), [], []⟩
def d_is_so : He.DefD := ⟨("is_so", none), "is_so", "is_so", defArgs (top 45), defBody (top 45), defScope (top 45), [], []⟩
def d__law_bag : He.DefD := ⟨("_law_bag", none), "_law_bag", "_law_bag", defArgs (top 47), defBody (top 47), defScope (top 47), [], []⟩
def d__law_take : He.DefD := ⟨("_law_take", none), "_law_take", "_law_take", defArgs (top 48), defBody (top 48), defScope (top 48), [], []⟩
def d__law_told : He.DefD := ⟨("_law_told", none), "_law_told", "_law_told", defArgs (top 49), defBody (top 49), defScope (top 49), [], []⟩
def d_law : He.DefD := ⟨("law", none), "law", "law", defArgs (top 50), defBody (top 50), defScope (top 50), [], []⟩
def fn0 : List He.DefD := [d_is_whole, d_is_within, d_is_below, d_is_rising, d_is_wheels, d_is_values, d_is_left, d_is_state_of, d_want_state, d_want_rule, d_Book_init, d_is_row, d_is_rule, d_is_condition, d_is_moment, d_is_change, d_is_spot, d_is_hushes, d_is_hush, d_is_wakes, d_may_do, d_is_ready, d_is_so, d__law_bag, d__law_take, d__law_told, d_law]
def fn : List He.DefD := fn0
def fa0 : List He.Fa := [.glo "HushError", .glo "NoBook", .glo "NoState", .glo "NoRule", .int "MOST_WHEELS" 3, .int "LEAST_PLACES" 2, .int "MOST_PLACES" 4, .int "MOST_VALUES" 24, .int "LONGEST_LEFT" 2, .glo "is_whole", .glo "is_within", .glo "is_below", .glo "is_rising", .glo "is_wheels", .glo "is_values", .glo "is_left", .glo "is_state_of", .glo "want_state", .glo "want_rule", .int "MOST_RULES" 5, .int "MOST_CONDITIONS" 4, .int "MOST_CHANGES" 3, .int "MOST_HUSHES" 5, .int "MOST_WAKES" 5, .int "LEAST_HUSH" 1, .int "LONGEST_HUSH" 3, .glo "Book", .glo "is_row", .glo "is_rule", .glo "is_condition"]
def fa1 : List He.Fa := [.glo "is_moment", .glo "is_change", .glo "is_spot", .glo "is_hushes", .glo "is_hush", .glo "is_wakes", .glo "book_lines", .glo "rule_line", .glo "spaced", .glo "may_do", .glo "is_ready", .glo "is_so", .glo "_law_bag", .glo "_law_take", .glo "_law_told", .glo "law", .free "LookupError", .free "ValueError", .free "abs", .free "all", .free "any", .free "bool", .free "enumerate", .free "int", .free "isinstance", .free "len", .free "max", .free "min", .free "range", .free "str"]
def fa2 : List He.Fa := [.free "tuple", .free "zip", .cls "Book", .noat "Book" "wheels", .noat "Book" "rules", .mkr "Book"]
def fa : List He.Fa := fa0 ++ fa1 ++ fa2
def loose0 : List PySem.Str := ["HushError", "NoBook", "NoState", "NoRule", "MOST_WHEELS", "LEAST_PLACES", "MOST_PLACES", "MOST_VALUES", "LONGEST_LEFT", "is_whole", "is_within", "is_below", "is_rising", "is_wheels", "is_values", "is_left", "is_state_of", "want_state", "want_rule", "MOST_RULES", "MOST_CONDITIONS", "MOST_CHANGES", "MOST_HUSHES", "MOST_WAKES", "LEAST_HUSH", "LONGEST_HUSH", "Book", "is_row", "is_rule", "is_condition"]
def loose1 : List PySem.Str := ["is_moment", "is_change", "is_spot", "is_hushes", "is_hush", "is_wakes", "book_lines", "rule_line", "spaced", "may_do", "is_ready", "is_so", "_law_bag", "_law_take", "_law_told"]
def loose : List PySem.Str := loose0 ++ loose1
structure Txt (K : PySem.W.Frag) (mg : Str → Option Value) : Prop where
  g_HushError : mg "HushError" = some (.ref (He.ga K "HushError"))
  g_NoBook : mg "NoBook" = some (.ref (He.ga K "NoBook"))
  g_NoState : mg "NoState" = some (.ref (He.ga K "NoState"))
  g_NoRule : mg "NoRule" = some (.ref (He.ga K "NoRule"))
  i_MOST_WHEELS : ∃ t, mg "MOST_WHEELS" = some (.int 3 t)
  i_LEAST_PLACES : ∃ t, mg "LEAST_PLACES" = some (.int 2 t)
  i_MOST_PLACES : ∃ t, mg "MOST_PLACES" = some (.int 4 t)
  i_MOST_VALUES : ∃ t, mg "MOST_VALUES" = some (.int 24 t)
  i_LONGEST_LEFT : ∃ t, mg "LONGEST_LEFT" = some (.int 2 t)
  g_is_whole : mg "is_whole" = some (.ref (He.ga K "is_whole"))
  g_is_within : mg "is_within" = some (.ref (He.ga K "is_within"))
  g_is_below : mg "is_below" = some (.ref (He.ga K "is_below"))
  g_is_rising : mg "is_rising" = some (.ref (He.ga K "is_rising"))
  g_is_wheels : mg "is_wheels" = some (.ref (He.ga K "is_wheels"))
  g_is_values : mg "is_values" = some (.ref (He.ga K "is_values"))
  g_is_left : mg "is_left" = some (.ref (He.ga K "is_left"))
  g_is_state_of : mg "is_state_of" = some (.ref (He.ga K "is_state_of"))
  g_want_state : mg "want_state" = some (.ref (He.ga K "want_state"))
  g_want_rule : mg "want_rule" = some (.ref (He.ga K "want_rule"))
  i_MOST_RULES : ∃ t, mg "MOST_RULES" = some (.int 5 t)
  i_MOST_CONDITIONS : ∃ t, mg "MOST_CONDITIONS" = some (.int 4 t)
  i_MOST_CHANGES : ∃ t, mg "MOST_CHANGES" = some (.int 3 t)
  i_MOST_HUSHES : ∃ t, mg "MOST_HUSHES" = some (.int 5 t)
  i_MOST_WAKES : ∃ t, mg "MOST_WAKES" = some (.int 5 t)
  i_LEAST_HUSH : ∃ t, mg "LEAST_HUSH" = some (.int 1 t)
  i_LONGEST_HUSH : ∃ t, mg "LONGEST_HUSH" = some (.int 3 t)
  g_Book : mg "Book" = some (.ref (He.ga K "Book"))
  g_is_row : mg "is_row" = some (.ref (He.ga K "is_row"))
  g_is_rule : mg "is_rule" = some (.ref (He.ga K "is_rule"))
  g_is_condition : mg "is_condition" = some (.ref (He.ga K "is_condition"))
  g_is_moment : mg "is_moment" = some (.ref (He.ga K "is_moment"))
  g_is_change : mg "is_change" = some (.ref (He.ga K "is_change"))
  g_is_spot : mg "is_spot" = some (.ref (He.ga K "is_spot"))
  g_is_hushes : mg "is_hushes" = some (.ref (He.ga K "is_hushes"))
  g_is_hush : mg "is_hush" = some (.ref (He.ga K "is_hush"))
  g_is_wakes : mg "is_wakes" = some (.ref (He.ga K "is_wakes"))
  g_book_lines : mg "book_lines" = some (.ref (He.ga K "book_lines"))
  g_rule_line : mg "rule_line" = some (.ref (He.ga K "rule_line"))
  g_spaced : mg "spaced" = some (.ref (He.ga K "spaced"))
  g_may_do : mg "may_do" = some (.ref (He.ga K "may_do"))
  g_is_ready : mg "is_ready" = some (.ref (He.ga K "is_ready"))
  g_is_so : mg "is_so" = some (.ref (He.ga K "is_so"))
  g__law_bag : mg "_law_bag" = some (.ref (He.ga K "_law_bag"))
  g__law_take : mg "_law_take" = some (.ref (He.ga K "_law_take"))
  g__law_told : mg "_law_told" = some (.ref (He.ga K "_law_told"))
  g_law : mg "law" = some (.ref (He.ga K "law"))
  b_LookupError : mg "LookupError" = none
  b_ValueError : mg "ValueError" = none
  b_abs : mg "abs" = none
  b_all : mg "all" = none
  b_any : mg "any" = none
  b_bool : mg "bool" = none
  b_enumerate : mg "enumerate" = none
  b_int : mg "int" = none
  b_isinstance : mg "isinstance" = none
  b_len : mg "len" = none
  b_max : mg "max" = none
  b_min : mg "min" = none
  b_range : mg "range" = none
  b_str : mg "str" = none
  b_tuple : mg "tuple" = none
  b_zip : mg "zip" = none
  c_Book : Cls K (He.ga K "Book")
  n_Book_wheels : NoAttr K (He.ga K "Book") "wheels"
  n_Book_rules : NoAttr K (He.ga K "Book") "rules"
  k_Book : Mk K (He.ga K "Book") (He.ma K (He.ga K "Book") "__init__")
  f_is_whole : ∃ fd, FunD K "is_whole" "is_whole" (defArgs (top 11)) (defBody (top 11)) (defScope (top 11)) (d_is_whole.dvs K) (d_is_whole.kws K) (He.fAd K ("is_whole", none)) fd
  f_is_within : ∃ fd, FunD K "is_within" "is_within" (defArgs (top 12)) (defBody (top 12)) (defScope (top 12)) (d_is_within.dvs K) (d_is_within.kws K) (He.fAd K ("is_within", none)) fd
  f_is_below : ∃ fd, FunD K "is_below" "is_below" (defArgs (top 13)) (defBody (top 13)) (defScope (top 13)) (d_is_below.dvs K) (d_is_below.kws K) (He.fAd K ("is_below", none)) fd
  f_is_rising : ∃ fd, FunD K "is_rising" "is_rising" (defArgs (top 14)) (defBody (top 14)) (defScope (top 14)) (d_is_rising.dvs K) (d_is_rising.kws K) (He.fAd K ("is_rising", none)) fd
  f_is_wheels : ∃ fd, FunD K "is_wheels" "is_wheels" (defArgs (top 15)) (defBody (top 15)) (defScope (top 15)) (d_is_wheels.dvs K) (d_is_wheels.kws K) (He.fAd K ("is_wheels", none)) fd
  f_is_values : ∃ fd, FunD K "is_values" "is_values" (defArgs (top 16)) (defBody (top 16)) (defScope (top 16)) (d_is_values.dvs K) (d_is_values.kws K) (He.fAd K ("is_values", none)) fd
  f_is_left : ∃ fd, FunD K "is_left" "is_left" (defArgs (top 17)) (defBody (top 17)) (defScope (top 17)) (d_is_left.dvs K) (d_is_left.kws K) (He.fAd K ("is_left", none)) fd
  f_is_state_of : ∃ fd, FunD K "is_state_of" "is_state_of" (defArgs (top 18)) (defBody (top 18)) (defScope (top 18)) (d_is_state_of.dvs K) (d_is_state_of.kws K) (He.fAd K ("is_state_of", none)) fd
  f_want_state : ∃ fd, FunD K "want_state" "want_state" (defArgs (top 19)) (defBody (top 19)) (defScope (top 19)) (d_want_state.dvs K) (d_want_state.kws K) (He.fAd K ("want_state", none)) fd
  f_want_rule : ∃ fd, FunD K "want_rule" "want_rule" (defArgs (top 20)) (defBody (top 20)) (defScope (top 20)) (d_want_rule.dvs K) (d_want_rule.kws K) (He.fAd K ("want_rule", none)) fd
  f_Book_init : ∃ fd, FunD K "__init__" "Book.__init__" (defArgs (topM 29 0)) (defBody (topM 29 0)) (defScope (topM 29 0)) (d_Book_init.dvs K) (d_Book_init.kws K) (He.fAd K ("Book", some "__init__")) fd
  f_is_row : ∃ fd, FunD K "is_row" "is_row" (defArgs (top 30)) (defBody (top 30)) (defScope (top 30)) (d_is_row.dvs K) (d_is_row.kws K) (He.fAd K ("is_row", none)) fd
  f_is_rule : ∃ fd, FunD K "is_rule" "is_rule" (defArgs (top 31)) (defBody (top 31)) (defScope (top 31)) (d_is_rule.dvs K) (d_is_rule.kws K) (He.fAd K ("is_rule", none)) fd
  f_is_condition : ∃ fd, FunD K "is_condition" "is_condition" (defArgs (top 32)) (defBody (top 32)) (defScope (top 32)) (d_is_condition.dvs K) (d_is_condition.kws K) (He.fAd K ("is_condition", none)) fd
  f_is_moment : ∃ fd, FunD K "is_moment" "is_moment" (defArgs (top 33)) (defBody (top 33)) (defScope (top 33)) (d_is_moment.dvs K) (d_is_moment.kws K) (He.fAd K ("is_moment", none)) fd
  f_is_change : ∃ fd, FunD K "is_change" "is_change" (defArgs (top 34)) (defBody (top 34)) (defScope (top 34)) (d_is_change.dvs K) (d_is_change.kws K) (He.fAd K ("is_change", none)) fd
  f_is_spot : ∃ fd, FunD K "is_spot" "is_spot" (defArgs (top 35)) (defBody (top 35)) (defScope (top 35)) (d_is_spot.dvs K) (d_is_spot.kws K) (He.fAd K ("is_spot", none)) fd
  f_is_hushes : ∃ fd, FunD K "is_hushes" "is_hushes" (defArgs (top 36)) (defBody (top 36)) (defScope (top 36)) (d_is_hushes.dvs K) (d_is_hushes.kws K) (He.fAd K ("is_hushes", none)) fd
  f_is_hush : ∃ fd, FunD K "is_hush" "is_hush" (defArgs (top 37)) (defBody (top 37)) (defScope (top 37)) (d_is_hush.dvs K) (d_is_hush.kws K) (He.fAd K ("is_hush", none)) fd
  f_is_wakes : ∃ fd, FunD K "is_wakes" "is_wakes" (defArgs (top 38)) (defBody (top 38)) (defScope (top 38)) (d_is_wakes.dvs K) (d_is_wakes.kws K) (He.fAd K ("is_wakes", none)) fd
  f_may_do : ∃ fd, FunD K "may_do" "may_do" (defArgs (top 43)) (defBody (top 43)) (defScope (top 43)) (d_may_do.dvs K) (d_may_do.kws K) (He.fAd K ("may_do", none)) fd
  f_is_ready : ∃ fd, FunD K "is_ready" "is_ready" (defArgs (top 44)) (defBody (top 44)) (defScope (top 44)) (d_is_ready.dvs K) (d_is_ready.kws K) (He.fAd K ("is_ready", none)) fd
  f_is_so : ∃ fd, FunD K "is_so" "is_so" (defArgs (top 45)) (defBody (top 45)) (defScope (top 45)) (d_is_so.dvs K) (d_is_so.kws K) (He.fAd K ("is_so", none)) fd
  f__law_bag : ∃ fd, FunD K "_law_bag" "_law_bag" (defArgs (top 47)) (defBody (top 47)) (defScope (top 47)) (d__law_bag.dvs K) (d__law_bag.kws K) (He.fAd K ("_law_bag", none)) fd
  f__law_take : ∃ fd, FunD K "_law_take" "_law_take" (defArgs (top 48)) (defBody (top 48)) (defScope (top 48)) (d__law_take.dvs K) (d__law_take.kws K) (He.fAd K ("_law_take", none)) fd
  f__law_told : ∃ fd, FunD K "_law_told" "_law_told" (defArgs (top 49)) (defBody (top 49)) (defScope (top 49)) (d__law_told.dvs K) (d__law_told.kws K) (He.fAd K ("_law_told", none)) fd
  f_law : ∃ fd, FunD K "law" "law" (defArgs (top 50)) (defBody (top 50)) (defScope (top 50)) (d_law.dvs K) (d_law.kws K) (He.fAd K ("law", none)) fd
theorem txt_of {K : PySem.W.Frag} {h : Heap} {mg : Str → Option Value} (X : K.In h) (G : h.Ns mainGlobals mg) (c : He.SaysD fa fn K) : Txt K mg where
  g_HushError := He.glo_ok X G (c.fact 0 (f := .glo "HushError") rfl)
  g_NoBook := He.glo_ok X G (c.fact 1 (f := .glo "NoBook") rfl)
  g_NoState := He.glo_ok X G (c.fact 2 (f := .glo "NoState") rfl)
  g_NoRule := He.glo_ok X G (c.fact 3 (f := .glo "NoRule") rfl)
  i_MOST_WHEELS := He.int_ok X G (c.fact 4 (f := .int "MOST_WHEELS" 3) rfl)
  i_LEAST_PLACES := He.int_ok X G (c.fact 5 (f := .int "LEAST_PLACES" 2) rfl)
  i_MOST_PLACES := He.int_ok X G (c.fact 6 (f := .int "MOST_PLACES" 4) rfl)
  i_MOST_VALUES := He.int_ok X G (c.fact 7 (f := .int "MOST_VALUES" 24) rfl)
  i_LONGEST_LEFT := He.int_ok X G (c.fact 8 (f := .int "LONGEST_LEFT" 2) rfl)
  g_is_whole := He.glo_ok X G (c.fact 9 (f := .glo "is_whole") rfl)
  g_is_within := He.glo_ok X G (c.fact 10 (f := .glo "is_within") rfl)
  g_is_below := He.glo_ok X G (c.fact 11 (f := .glo "is_below") rfl)
  g_is_rising := He.glo_ok X G (c.fact 12 (f := .glo "is_rising") rfl)
  g_is_wheels := He.glo_ok X G (c.fact 13 (f := .glo "is_wheels") rfl)
  g_is_values := He.glo_ok X G (c.fact 14 (f := .glo "is_values") rfl)
  g_is_left := He.glo_ok X G (c.fact 15 (f := .glo "is_left") rfl)
  g_is_state_of := He.glo_ok X G (c.fact 16 (f := .glo "is_state_of") rfl)
  g_want_state := He.glo_ok X G (c.fact 17 (f := .glo "want_state") rfl)
  g_want_rule := He.glo_ok X G (c.fact 18 (f := .glo "want_rule") rfl)
  i_MOST_RULES := He.int_ok X G (c.fact 19 (f := .int "MOST_RULES" 5) rfl)
  i_MOST_CONDITIONS := He.int_ok X G (c.fact 20 (f := .int "MOST_CONDITIONS" 4) rfl)
  i_MOST_CHANGES := He.int_ok X G (c.fact 21 (f := .int "MOST_CHANGES" 3) rfl)
  i_MOST_HUSHES := He.int_ok X G (c.fact 22 (f := .int "MOST_HUSHES" 5) rfl)
  i_MOST_WAKES := He.int_ok X G (c.fact 23 (f := .int "MOST_WAKES" 5) rfl)
  i_LEAST_HUSH := He.int_ok X G (c.fact 24 (f := .int "LEAST_HUSH" 1) rfl)
  i_LONGEST_HUSH := He.int_ok X G (c.fact 25 (f := .int "LONGEST_HUSH" 3) rfl)
  g_Book := He.glo_ok X G (c.fact 26 (f := .glo "Book") rfl)
  g_is_row := He.glo_ok X G (c.fact 27 (f := .glo "is_row") rfl)
  g_is_rule := He.glo_ok X G (c.fact 28 (f := .glo "is_rule") rfl)
  g_is_condition := He.glo_ok X G (c.fact 29 (f := .glo "is_condition") rfl)
  g_is_moment := He.glo_ok X G (c.fact 30 (f := .glo "is_moment") rfl)
  g_is_change := He.glo_ok X G (c.fact 31 (f := .glo "is_change") rfl)
  g_is_spot := He.glo_ok X G (c.fact 32 (f := .glo "is_spot") rfl)
  g_is_hushes := He.glo_ok X G (c.fact 33 (f := .glo "is_hushes") rfl)
  g_is_hush := He.glo_ok X G (c.fact 34 (f := .glo "is_hush") rfl)
  g_is_wakes := He.glo_ok X G (c.fact 35 (f := .glo "is_wakes") rfl)
  g_book_lines := He.glo_ok X G (c.fact 36 (f := .glo "book_lines") rfl)
  g_rule_line := He.glo_ok X G (c.fact 37 (f := .glo "rule_line") rfl)
  g_spaced := He.glo_ok X G (c.fact 38 (f := .glo "spaced") rfl)
  g_may_do := He.glo_ok X G (c.fact 39 (f := .glo "may_do") rfl)
  g_is_ready := He.glo_ok X G (c.fact 40 (f := .glo "is_ready") rfl)
  g_is_so := He.glo_ok X G (c.fact 41 (f := .glo "is_so") rfl)
  g__law_bag := He.glo_ok X G (c.fact 42 (f := .glo "_law_bag") rfl)
  g__law_take := He.glo_ok X G (c.fact 43 (f := .glo "_law_take") rfl)
  g__law_told := He.glo_ok X G (c.fact 44 (f := .glo "_law_told") rfl)
  g_law := He.glo_ok X G (c.fact 45 (f := .glo "law") rfl)
  b_LookupError := He.free_ok X G (c.fact 46 (f := .free "LookupError") rfl)
  b_ValueError := He.free_ok X G (c.fact 47 (f := .free "ValueError") rfl)
  b_abs := He.free_ok X G (c.fact 48 (f := .free "abs") rfl)
  b_all := He.free_ok X G (c.fact 49 (f := .free "all") rfl)
  b_any := He.free_ok X G (c.fact 50 (f := .free "any") rfl)
  b_bool := He.free_ok X G (c.fact 51 (f := .free "bool") rfl)
  b_enumerate := He.free_ok X G (c.fact 52 (f := .free "enumerate") rfl)
  b_int := He.free_ok X G (c.fact 53 (f := .free "int") rfl)
  b_isinstance := He.free_ok X G (c.fact 54 (f := .free "isinstance") rfl)
  b_len := He.free_ok X G (c.fact 55 (f := .free "len") rfl)
  b_max := He.free_ok X G (c.fact 56 (f := .free "max") rfl)
  b_min := He.free_ok X G (c.fact 57 (f := .free "min") rfl)
  b_range := He.free_ok X G (c.fact 58 (f := .free "range") rfl)
  b_str := He.free_ok X G (c.fact 59 (f := .free "str") rfl)
  b_tuple := He.free_ok X G (c.fact 60 (f := .free "tuple") rfl)
  b_zip := He.free_ok X G (c.fact 61 (f := .free "zip") rfl)
  c_Book := He.cls_ok (c.fact 62 (f := .cls "Book") rfl)
  n_Book_wheels := He.noat_ok (c.fact 63 (f := .noat "Book" "wheels") rfl)
  n_Book_rules := He.noat_ok (c.fact 64 (f := .noat "Book" "rules") rfl)
  k_Book := He.mkr_ok (c.fact 65 (f := .mkr "Book") rfl)
  f_is_whole := c.def_ 0 (d := d_is_whole) rfl
  f_is_within := c.def_ 1 (d := d_is_within) rfl
  f_is_below := c.def_ 2 (d := d_is_below) rfl
  f_is_rising := c.def_ 3 (d := d_is_rising) rfl
  f_is_wheels := c.def_ 4 (d := d_is_wheels) rfl
  f_is_values := c.def_ 5 (d := d_is_values) rfl
  f_is_left := c.def_ 6 (d := d_is_left) rfl
  f_is_state_of := c.def_ 7 (d := d_is_state_of) rfl
  f_want_state := c.def_ 8 (d := d_want_state) rfl
  f_want_rule := c.def_ 9 (d := d_want_rule) rfl
  f_Book_init := c.def_ 10 (d := d_Book_init) rfl
  f_is_row := c.def_ 11 (d := d_is_row) rfl
  f_is_rule := c.def_ 12 (d := d_is_rule) rfl
  f_is_condition := c.def_ 13 (d := d_is_condition) rfl
  f_is_moment := c.def_ 14 (d := d_is_moment) rfl
  f_is_change := c.def_ 15 (d := d_is_change) rfl
  f_is_spot := c.def_ 16 (d := d_is_spot) rfl
  f_is_hushes := c.def_ 17 (d := d_is_hushes) rfl
  f_is_hush := c.def_ 18 (d := d_is_hush) rfl
  f_is_wakes := c.def_ 19 (d := d_is_wakes) rfl
  f_may_do := c.def_ 20 (d := d_may_do) rfl
  f_is_ready := c.def_ 21 (d := d_is_ready) rfl
  f_is_so := c.def_ 22 (d := d_is_so) rfl
  f__law_bag := c.def_ 23 (d := d__law_bag) rfl
  f__law_take := c.def_ 24 (d := d__law_take) rfl
  f__law_told := c.def_ 25 (d := d__law_told) rfl
  f_law := c.def_ 26 (d := d_law) rfl
abbrev RR : PySem.W.OpenRow := PySem.W.OpenLaw.row PySem.Challenge.rw_hushrules_k10_conditions_one_by_one
abbrev hk : PySem.W.Hook := He.hookD 5 fa fn
def ob (s : PySem.W.SharedT) : He.AlD := He.obsDG 5 fa fn (HandSHeadRun.getT s)
theorem ob_eq (s : PySem.W.SharedT) : ob s = hk.obs s.abs := He.obsDG_eq (HandSHeadRun.getT_eq s)
theorem run (w : World) : HandSHeadRun.RunEq RR (PySem.W.view RR.prog [50]) hk ob 8000 loose w := by
  intro os
  kernel_rfl
end Hd
set_option Elab.async false
set_option linter.all false
set_option maxRecDepth 100000
set_option maxHeartbeats 400000
namespace Hd
open PySem U
def b_is_whole : SM := (sRet (eAnd (eUn (dIsi "int") (eVar 0)) (eNot (eUn (dIsi "bool") (eVar 0)))))
def m_is_whole : Fm := mkFn 1 1 b_is_whole
def s_is_whole : Fm := obs 1 fun ds st => match ds with
  | [d] => (tyD st d).map fun t => D.bl (t == "int")
  | _ => none
theorem a_is_whole : Arity 1 s_is_whole := obs_ar
theorem t_is_whole : Tells m_is_whole s_is_whole := .obs fun ds st d g b hl h => by
  match ds, hl with
  | [x], _ =>
    obtain ⟨t, ht, rfl⟩ := Option.map_eq_some_iff.mp h
    refine ⟨by simp only [Bnd], [], ?_⟩
    have key : ∀ t ∈ kinds, (isiT t "int" && !isiT t "bool") = (t == "int") := by decide
    have k := key t (tyD_mem ht)
    simp only [m_is_whole, b_is_whole, ev_var, ev_c, ev_un, ev_bin, ev_anil, ev_acons, ev_fn, ev_tof, ev_tob, ev_tand, ev_tor, ev_tnot, ev_and, ev_or, ev_not, ev_if, ev_chain, ev_true, ev_slice, ev_onone, ev_osome, ev_iseq, ev_irng, ev_ienum, ev_ibin, ev_lc, ev_skip, ev_never, ev_seq, ev_ret, ev_sif, ev_set, ev_expr, ev_asg, ev_par, ev_for, ev_fld, ev_gn, ev_gsnil, ev_gscons, ev_gt, ev_mkfn, ev_bok, ev_berr, ev_bfail, ev_tok, ev_hok, ev_ert, ev_enx, ev_wn, ev_wc, ev_e0, ev_sseq, ev_senum, ev_szip, ev_sltup, ev_ltI, ev_leI, ev_gtI, ev_geI, ev_subI, ev_addI, ev_lenT, List.map_cons, List.map_nil, List.length_cons, List.length_nil, List.cons_append, List.nil_append, List.append_nil, List.getElem?_cons_zero, List.getElem?_cons_succ, List.set_cons_zero, List.set_cons_succ, List.replicate_succ, List.replicate_zero, Nat.reduceAdd, Nat.reduceSub, Nat.reduceEqDiff, reduceIte, Bool.true_eq_false, Bool.false_eq_true, if_true, if_false, ev_isi, ht]
    cases h1 : isiT t "int" <;> cases h2 : isiT t "bool" <;> rw [h1, h2] at k <;> simp [← k, ev_tok, ev_ert]
theorem whole_int (i : Int) (st : Sto) : s_is_whole [.int i] st = .ok (.bl true) st := obs_ok rfl rfl
theorem whole_of {d : D} {st : Sto} (h : kn st d = true) : s_is_whole [d] st = .ok (.bl (match d with | .int _ => true | _ => false)) st := by
  obtain ⟨t, e⟩ := Option.isSome_iff_exists.mp h
  refine obs_ok rfl ?_
  show (tyD st d).map (fun t => D.bl (t == "int")) = _
  rw [e]
  cases d with
  | ref n =>
    unfold tyD at e
    simp only at e
    split at e
    · cases e; rfl
    · cases e; rfl
    · cases e
  | _ => cases e; rfl

def b_is_within : SM := (sRet (eAnd (eFn s_is_whole (aCons (eVar 0) aNil)) (eChain dLe dLe (eVar 1) (eVar 0) (eVar 2))))
def m_is_within : Fm := mkFn 3 3 b_is_within
def s_is_within : Fm := obs 3 fun ds st => match ds with
  | [d, .int lo, .int hi] => if kn st d = true then some (.bl (withinD lo hi d)) else none
  | _ => none
theorem a_is_within : Arity 3 s_is_within := obs_ar
theorem within_of {d : D} {st : Sto} {lo hi : Int} (h : kn st d = true) : s_is_within [d, .int lo, .int hi] st = .ok (.bl (withinD lo hi d)) st := obs_ok rfl (if_pos h)
theorem t_is_within : Tells m_is_within s_is_within := .obs fun ds st d g b hl h => by
  match ds, hl, h with
  | [x, .int lo, .int hi], _, h =>
    have h' : (if kn st x = true then some (D.bl (withinD lo hi x)) else none) = some d := h
    split at h'
    · rename_i hk
      cases h'
      refine ⟨by simp only [Bnd], [], ?_⟩
      simp only [m_is_within, b_is_within, ev_var, ev_c, ev_un, ev_bin, ev_anil, ev_acons, ev_fn, ev_tof, ev_tob, ev_tand, ev_tor, ev_tnot, ev_and, ev_or, ev_not, ev_if, ev_chain, ev_true, ev_slice, ev_onone, ev_osome, ev_iseq, ev_irng, ev_ienum, ev_ibin, ev_lc, ev_skip, ev_never, ev_seq, ev_ret, ev_sif, ev_set, ev_expr, ev_asg, ev_par, ev_for, ev_fld, ev_gn, ev_gsnil, ev_gscons, ev_gt, ev_mkfn, ev_bok, ev_berr, ev_bfail, ev_tok, ev_hok, ev_ert, ev_enx, ev_wn, ev_wc, ev_e0, ev_sseq, ev_senum, ev_szip, ev_sltup, ev_ltI, ev_leI, ev_gtI, ev_geI, ev_subI, ev_addI, ev_lenT, List.map_cons, List.map_nil, List.length_cons, List.length_nil, List.cons_append, List.nil_append, List.append_nil, List.getElem?_cons_zero, List.getElem?_cons_succ, List.set_cons_zero, List.set_cons_succ, List.replicate_succ, List.replicate_zero, Nat.reduceAdd, Nat.reduceSub, Nat.reduceEqDiff, reduceIte, Bool.true_eq_false, Bool.false_eq_true, if_true, if_false, whole_of hk]
      cases x with
      | int i =>
        simp only [ev_var, ev_c, ev_un, ev_bin, ev_anil, ev_acons, ev_fn, ev_tof, ev_tob, ev_tand, ev_tor, ev_tnot, ev_and, ev_or, ev_not, ev_if, ev_chain, ev_true, ev_slice, ev_onone, ev_osome, ev_iseq, ev_irng, ev_ienum, ev_ibin, ev_lc, ev_skip, ev_never, ev_seq, ev_ret, ev_sif, ev_set, ev_expr, ev_asg, ev_par, ev_for, ev_fld, ev_gn, ev_gsnil, ev_gscons, ev_gt, ev_mkfn, ev_bok, ev_berr, ev_bfail, ev_tok, ev_hok, ev_ert, ev_enx, ev_wn, ev_wc, ev_e0, ev_sseq, ev_senum, ev_szip, ev_sltup, ev_ltI, ev_leI, ev_gtI, ev_geI, ev_subI, ev_addI, ev_lenT, List.map_cons, List.map_nil, List.length_cons, List.length_nil, List.cons_append, List.nil_append, List.append_nil, List.getElem?_cons_zero, List.getElem?_cons_succ, List.set_cons_zero, List.set_cons_succ, List.replicate_succ, List.replicate_zero, Nat.reduceAdd, Nat.reduceSub, Nat.reduceEqDiff, reduceIte, Bool.true_eq_false, Bool.false_eq_true, if_true, if_false, withinD]
        by_cases h1 : lo ≤ i <;> simp [h1, ev_tok, ev_ert, ev_leI, ev_bok]
      | _ => rfl
    · cases h'

def b_is_below : SM := (sRet (eFn s_is_within (aCons (eVar 0) (aCons (eC (.int 0)) (aCons (eBin dSub (eVar 1) (eC (.int 1))) aNil)))))
def m_is_below : Fm := mkFn 2 2 b_is_below
def s_is_below : Fm := obs 2 fun ds st => match ds with
  | [d, .int n] => if kn st d = true then some (.bl (withinD 0 (n - 1) d)) else none
  | _ => none
theorem a_is_below : Arity 2 s_is_below := obs_ar
theorem below_of {d : D} {st : Sto} {n : Int} (h : kn st d = true) : s_is_below [d, .int n] st = .ok (.bl (withinD 0 (n - 1) d)) st := obs_ok rfl (if_pos h)
theorem t_is_below : Tells m_is_below s_is_below := .obs fun ds st d g b hl h => by
  match ds, hl, h with
  | [x, .int n], _, h =>
    have h' : (if kn st x = true then some (D.bl (withinD 0 (n - 1) x)) else none) = some d := h
    split at h'
    · rename_i hk
      cases h'
      refine ⟨by simp only [Bnd], [], ?_⟩
      simp only [m_is_below, b_is_below, ev_var, ev_c, ev_un, ev_bin, ev_anil, ev_acons, ev_fn, ev_tof, ev_tob, ev_tand, ev_tor, ev_tnot, ev_and, ev_or, ev_not, ev_if, ev_chain, ev_true, ev_slice, ev_onone, ev_osome, ev_iseq, ev_irng, ev_ienum, ev_ibin, ev_lc, ev_skip, ev_never, ev_seq, ev_ret, ev_sif, ev_set, ev_expr, ev_asg, ev_par, ev_for, ev_fld, ev_gn, ev_gsnil, ev_gscons, ev_gt, ev_mkfn, ev_bok, ev_berr, ev_bfail, ev_tok, ev_hok, ev_ert, ev_enx, ev_wn, ev_wc, ev_e0, ev_sseq, ev_senum, ev_szip, ev_sltup, ev_ltI, ev_leI, ev_gtI, ev_geI, ev_subI, ev_addI, ev_lenT, List.map_cons, List.map_nil, List.length_cons, List.length_nil, List.cons_append, List.nil_append, List.append_nil, List.getElem?_cons_zero, List.getElem?_cons_succ, List.set_cons_zero, List.set_cons_succ, List.replicate_succ, List.replicate_zero, Nat.reduceAdd, Nat.reduceSub, Nat.reduceEqDiff, reduceIte, Bool.true_eq_false, Bool.false_eq_true, if_true, if_false, within_of hk]
    · cases h'

def b_is_rising : SM := (sSeq (sIf (tOr (tNot (tOf (eUn (dIsi "tuple") (eVar 0)))) (tNot (tOf (eFn (fAA fun bs => bs.all id) (aCons (cLc (iSeq (eVar 0)) [4] (gN 4) tTrue (eFn s_is_below (aCons (eVar 4) (aCons (eVar 1) aNil)))) aNil))))) (sRet (eC (.bl false))) sSkip)
    (sRet (eFn (fAA fun bs => bs.all id) (aCons (cLc (iBin zipSrc (eVar 0) (eSlice (eVar 0) (oSome (eC (.int 1))) oNone)) [2, 3] (gT 2 (gsCons (gN 2) (gsCons (gN 3) gsNil))) tTrue (eBin dLt (eVar 2) (eVar 3))) aNil))))
def m_is_rising : Fm := mkFn 2 5 b_is_rising
def s_is_rising : Fm := obs 2 fun ds st => match ds with
  | [d, .int n] => if dk st d = true ∧ (tupsD d).length ≤ most then some (.bl (risingD n d)) else none
  | _ => none
theorem a_is_rising : Arity 2 s_is_rising := obs_ar
theorem rising_of {d : D} {st : Sto} {n : Int} (h : dk st d = true) (hm : (tupsD d).length ≤ most) : s_is_rising [d, .int n] st = .ok (.bl (risingD n d)) st := obs_ok rfl (if_pos ⟨h, hm⟩)
theorem t_is_rising : Tells m_is_rising s_is_rising := .obs fun ds st d g b hl h => by
  match ds, hl, h with
  | [x, .int n], _, h =>
    have h' : (if dk st x = true ∧ (tupsD x).length ≤ most then some (D.bl (risingD n x)) else none) = some d := h
    split at h'
    · rename_i hk
      cases h'
      obtain ⟨hk, hm⟩ := hk
      refine ⟨by simp only [Bnd], ?_⟩
      cases x with
      | tup xs =>
        have hx := dk_tup hk
        have hm : xs.length ≤ most := hm
        simp only [m_is_rising, b_is_rising, ev_var, ev_c, ev_un, ev_bin, ev_anil, ev_acons, ev_fn, ev_tof, ev_tob, ev_tand, ev_tor, ev_tnot, ev_and, ev_or, ev_not, ev_if, ev_chain, ev_true, ev_slice, ev_onone, ev_osome, ev_iseq, ev_irng, ev_ienum, ev_ibin, ev_lc, ev_skip, ev_never, ev_seq, ev_ret, ev_sif, ev_set, ev_expr, ev_asg, ev_par, ev_for, ev_fld, ev_gn, ev_gsnil, ev_gscons, ev_gt, ev_mkfn, ev_bok, ev_berr, ev_bfail, ev_tok, ev_hok, ev_ert, ev_enx, ev_wn, ev_wc, ev_e0, ev_sseq, ev_senum, ev_szip, ev_sltup, ev_ltI, ev_leI, ev_gtI, ev_geI, ev_subI, ev_addI, ev_lenT, List.map_cons, List.map_nil, List.length_cons, List.length_nil, List.cons_append, List.nil_append, List.append_nil, List.getElem?_cons_zero, List.getElem?_cons_succ, List.set_cons_zero, List.set_cons_succ, List.replicate_succ, List.replicate_zero, Nat.reduceAdd, Nat.reduceSub, Nat.reduceEqDiff, reduceIte, Bool.true_eq_false, Bool.false_eq_true, if_true, if_false, isi_tup, Bool.not_true]
        rw [startLc_map (f := fun x => .bl (withinD 0 (n - 1) x)) rfl hm fun x h2 acc => ⟨_, rfl, by simp only [ev_var, ev_c, ev_un, ev_bin, ev_anil, ev_acons, ev_fn, ev_tof, ev_tob, ev_tand, ev_tor, ev_tnot, ev_and, ev_or, ev_not, ev_if, ev_chain, ev_true, ev_slice, ev_onone, ev_osome, ev_iseq, ev_irng, ev_ienum, ev_ibin, ev_lc, ev_skip, ev_never, ev_seq, ev_ret, ev_sif, ev_set, ev_expr, ev_asg, ev_par, ev_for, ev_fld, ev_gn, ev_gsnil, ev_gscons, ev_gt, ev_mkfn, ev_bok, ev_berr, ev_bfail, ev_tok, ev_hok, ev_ert, ev_enx, ev_wn, ev_wc, ev_e0, ev_sseq, ev_senum, ev_szip, ev_sltup, ev_ltI, ev_leI, ev_gtI, ev_geI, ev_subI, ev_addI, ev_lenT, List.map_cons, List.map_nil, List.length_cons, List.length_nil, List.cons_append, List.nil_append, List.append_nil, List.getElem?_cons_zero, List.getElem?_cons_succ, List.set_cons_zero, List.set_cons_succ, List.replicate_succ, List.replicate_zero, Nat.reduceAdd, Nat.reduceSub, Nat.reduceEqDiff, reduceIte, Bool.true_eq_false, Bool.false_eq_true, if_true, if_false, below_of (kn_app (dk_kn (hx x h2)))]⟩]
        simp only [ev_var, ev_c, ev_un, ev_bin, ev_anil, ev_acons, ev_fn, ev_tof, ev_tob, ev_tand, ev_tor, ev_tnot, ev_and, ev_or, ev_not, ev_if, ev_chain, ev_true, ev_slice, ev_onone, ev_osome, ev_iseq, ev_irng, ev_ienum, ev_ibin, ev_lc, ev_skip, ev_never, ev_seq, ev_ret, ev_sif, ev_set, ev_expr, ev_asg, ev_par, ev_for, ev_fld, ev_gn, ev_gsnil, ev_gscons, ev_gt, ev_mkfn, ev_bok, ev_berr, ev_bfail, ev_tok, ev_hok, ev_ert, ev_enx, ev_wn, ev_wc, ev_e0, ev_sseq, ev_senum, ev_szip, ev_sltup, ev_ltI, ev_leI, ev_gtI, ev_geI, ev_subI, ev_addI, ev_lenT, List.map_cons, List.map_nil, List.length_cons, List.length_nil, List.cons_append, List.nil_append, List.append_nil, List.getElem?_cons_zero, List.getElem?_cons_succ, List.set_cons_zero, List.set_cons_succ, List.replicate_succ, List.replicate_zero, Nat.reduceAdd, Nat.reduceSub, Nat.reduceEqDiff, reduceIte, Bool.true_eq_false, Bool.false_eq_true, if_true, if_false, aa_end]
        by_cases ha : (xs.map (withinD 0 (n - 1))).all id = true
        · have hi : ∀ x ∈ xs, x = .int (wI x) := fun x h2 => by
            have h3 : withinD 0 (n - 1) x = true := by
              have := List.all_eq_true.mp ha (withinD 0 (n - 1) x) (List.mem_map_of_mem h2)
              exact this
            cases x with
            | int i => rfl
            | _ => cases h3
          simp only [ev_var, ev_c, ev_un, ev_bin, ev_anil, ev_acons, ev_fn, ev_tof, ev_tob, ev_tand, ev_tor, ev_tnot, ev_and, ev_or, ev_not, ev_if, ev_chain, ev_true, ev_slice, ev_onone, ev_osome, ev_iseq, ev_irng, ev_ienum, ev_ibin, ev_lc, ev_skip, ev_never, ev_seq, ev_ret, ev_sif, ev_set, ev_expr, ev_asg, ev_par, ev_for, ev_fld, ev_gn, ev_gsnil, ev_gscons, ev_gt, ev_mkfn, ev_bok, ev_berr, ev_bfail, ev_tok, ev_hok, ev_ert, ev_enx, ev_wn, ev_wc, ev_e0, ev_sseq, ev_senum, ev_szip, ev_sltup, ev_ltI, ev_leI, ev_gtI, ev_geI, ev_subI, ev_addI, ev_lenT, List.map_cons, List.map_nil, List.length_cons, List.length_nil, List.cons_append, List.nil_append, List.append_nil, List.getElem?_cons_zero, List.getElem?_cons_succ, List.set_cons_zero, List.set_cons_succ, List.replicate_succ, List.replicate_zero, Nat.reduceAdd, Nat.reduceSub, Nat.reduceEqDiff, reduceIte, Bool.true_eq_false, Bool.false_eq_true, if_true, if_false, ha, Bool.not_true, cut1]
          rw [startLc_map (f := fun p => .bl (decide (wI (fstD p) < wI (sndD p)))) rfl (by rw [List.length_zipWith]; omega) fun p h2 acc => ?_]
          · simp only [ev_var, ev_c, ev_un, ev_bin, ev_anil, ev_acons, ev_fn, ev_tof, ev_tob, ev_tand, ev_tor, ev_tnot, ev_and, ev_or, ev_not, ev_if, ev_chain, ev_true, ev_slice, ev_onone, ev_osome, ev_iseq, ev_irng, ev_ienum, ev_ibin, ev_lc, ev_skip, ev_never, ev_seq, ev_ret, ev_sif, ev_set, ev_expr, ev_asg, ev_par, ev_for, ev_fld, ev_gn, ev_gsnil, ev_gscons, ev_gt, ev_mkfn, ev_bok, ev_berr, ev_bfail, ev_tok, ev_hok, ev_ert, ev_enx, ev_wn, ev_wc, ev_e0, ev_sseq, ev_senum, ev_szip, ev_sltup, ev_ltI, ev_leI, ev_gtI, ev_geI, ev_subI, ev_addI, ev_lenT, List.map_cons, List.map_nil, List.length_cons, List.length_nil, List.cons_append, List.nil_append, List.append_nil, List.getElem?_cons_zero, List.getElem?_cons_succ, List.set_cons_zero, List.set_cons_succ, List.replicate_succ, List.replicate_zero, Nat.reduceAdd, Nat.reduceSub, Nat.reduceEqDiff, reduceIte, Bool.true_eq_false, Bool.false_eq_true, if_true, if_false, aa_end]
            refine ⟨_, by rw [List.append_assoc]; congr 2; rw [List.map_zipWith]; simp only [risingD, all_id, pairD, fstD, sndD] at ha ⊢; rw [ha]; rfl⟩
          · obtain ⟨i, hi2⟩ := List.getElem?_of_mem h2
            obtain ⟨x, y, h3, h4, rfl⟩ := zip_get hi2
            have ex := hi x (List.mem_of_getElem? h3)
            have ey := hi y (List.mem_of_mem_drop (List.mem_of_getElem? h4))
            refine ⟨_, rfl, ?_⟩
            rw [ex, ey]
            rfl
        · rw [Bool.not_eq_true] at ha
          simp only [ev_var, ev_c, ev_un, ev_bin, ev_anil, ev_acons, ev_fn, ev_tof, ev_tob, ev_tand, ev_tor, ev_tnot, ev_and, ev_or, ev_not, ev_if, ev_chain, ev_true, ev_slice, ev_onone, ev_osome, ev_iseq, ev_irng, ev_ienum, ev_ibin, ev_lc, ev_skip, ev_never, ev_seq, ev_ret, ev_sif, ev_set, ev_expr, ev_asg, ev_par, ev_for, ev_fld, ev_gn, ev_gsnil, ev_gscons, ev_gt, ev_mkfn, ev_bok, ev_berr, ev_bfail, ev_tok, ev_hok, ev_ert, ev_enx, ev_wn, ev_wc, ev_e0, ev_sseq, ev_senum, ev_szip, ev_sltup, ev_ltI, ev_leI, ev_gtI, ev_geI, ev_subI, ev_addI, ev_lenT, List.map_cons, List.map_nil, List.length_cons, List.length_nil, List.cons_append, List.nil_append, List.append_nil, List.getElem?_cons_zero, List.getElem?_cons_succ, List.set_cons_zero, List.set_cons_succ, List.replicate_succ, List.replicate_zero, Nat.reduceAdd, Nat.reduceSub, Nat.reduceEqDiff, reduceIte, Bool.true_eq_false, Bool.false_eq_true, if_true, if_false, ha, Bool.not_false]
          refine ⟨[.lst (xs.map fun x => .bl (withinD 0 (n - 1) x))], ?_⟩
          rw [all_id] at ha
          simp only [risingD, ha, Bool.false_and]
      | _ =>
        refine ⟨[], ?_⟩
        simp only [m_is_rising, b_is_rising, ev_var, ev_c, ev_un, ev_bin, ev_anil, ev_acons, ev_fn, ev_tof, ev_tob, ev_tand, ev_tor, ev_tnot, ev_and, ev_or, ev_not, ev_if, ev_chain, ev_true, ev_slice, ev_onone, ev_osome, ev_iseq, ev_irng, ev_ienum, ev_ibin, ev_lc, ev_skip, ev_never, ev_seq, ev_ret, ev_sif, ev_set, ev_expr, ev_asg, ev_par, ev_for, ev_fld, ev_gn, ev_gsnil, ev_gscons, ev_gt, ev_mkfn, ev_bok, ev_berr, ev_bfail, ev_tok, ev_hok, ev_ert, ev_enx, ev_wn, ev_wc, ev_e0, ev_sseq, ev_senum, ev_szip, ev_sltup, ev_ltI, ev_leI, ev_gtI, ev_geI, ev_subI, ev_addI, ev_lenT, List.map_cons, List.map_nil, List.length_cons, List.length_nil, List.cons_append, List.nil_append, List.append_nil, List.getElem?_cons_zero, List.getElem?_cons_succ, List.set_cons_zero, List.set_cons_succ, List.replicate_succ, List.replicate_zero, Nat.reduceAdd, Nat.reduceSub, Nat.reduceEqDiff, reduceIte, Bool.true_eq_false, Bool.false_eq_true, if_true, if_false, isi_tupD (dk_kn hk)]
        rfl
    · cases h'

def b_is_wheels : SM := (sSeq (sIf (tOr (tNot (tOf (eUn (dIsi "tuple") (eVar 0)))) (tNot (tOf (eChain dLe dLe (eC (.int 1)) (eFn fLen (aCons (eVar 0) aNil)) (eC (.int 3)))))) (sRet (eC (.bl false))) sSkip)
    (sSeq (sIf (tNot (tOf (eFn (fAA fun bs => bs.all id) (aCons (cLc (iSeq (eVar 0)) [2] (gN 2) tTrue (eFn s_is_within (aCons (eVar 2) (aCons (eC (.int 2)) (aCons (eC (.int 4)) aNil))))) aNil)))) (sRet (eC (.bl false))) sSkip)
    (sSeq (sSet 1 (eC (.int 1)))
    (sSeq (sFor (iSeq (eVar 0)) (gN 2) (sSet 1 (eBin dMul (eVar 1) (eVar 2))))
    (sRet (eBin dLe (eVar 1) (eC (.int 24))))))))
def m_is_wheels : Fm := mkFn 1 3 b_is_wheels
def s_is_wheels : Fm := obs 1 fun ds st => match ds with
  | [d] => if dk st d = true then some (.bl (wheelsD d)) else none
  | _ => none
theorem a_is_wheels : Arity 1 s_is_wheels := obs_ar
theorem wheels_of {d : D} {st : Sto} (h : dk st d = true) : s_is_wheels [d] st = .ok (.bl (wheelsD d)) st := obs_ok rfl (if_pos h)
theorem t_is_wheels : Tells m_is_wheels s_is_wheels := .obs fun ds st d g b hl h => by
  match ds, hl, h with
  | [x], _, h =>
    have h' : (if dk st x = true then some (D.bl (wheelsD x)) else none) = some d := h
    split at h'
    · rename_i hk
      cases h'
      refine ⟨by simp only [Bnd], ?_⟩
      cases x with
      | tup xs =>
        have hx := dk_tup hk
        by_cases h1 : 1 ≤ xs.length
        · by_cases h3 : xs.length ≤ 3
          · have e1 : decide ((1 : Int) ≤ (xs.length : Int)) = true := decide_eq_true (by omega)
            have e3 : decide ((xs.length : Int) ≤ (3 : Int)) = true := decide_eq_true (by omega)
            have hm : xs.length ≤ most := Nat.le_trans h3 (by decide)
            simp only [m_is_wheels, b_is_wheels, ev_var, ev_c, ev_un, ev_bin, ev_anil, ev_acons, ev_fn, ev_tof, ev_tob, ev_tand, ev_tor, ev_tnot, ev_and, ev_or, ev_not, ev_if, ev_chain, ev_true, ev_slice, ev_onone, ev_osome, ev_iseq, ev_irng, ev_ienum, ev_ibin, ev_lc, ev_skip, ev_never, ev_seq, ev_ret, ev_sif, ev_set, ev_expr, ev_asg, ev_par, ev_for, ev_fld, ev_gn, ev_gsnil, ev_gscons, ev_gt, ev_mkfn, ev_bok, ev_berr, ev_bfail, ev_tok, ev_hok, ev_ert, ev_enx, ev_wn, ev_wc, ev_e0, ev_sseq, ev_senum, ev_szip, ev_sltup, ev_ltI, ev_leI, ev_gtI, ev_geI, ev_subI, ev_addI, ev_lenT, List.map_cons, List.map_nil, List.length_cons, List.length_nil, List.cons_append, List.nil_append, List.append_nil, List.getElem?_cons_zero, List.getElem?_cons_succ, List.set_cons_zero, List.set_cons_succ, List.replicate_succ, List.replicate_zero, Nat.reduceAdd, Nat.reduceSub, Nat.reduceEqDiff, reduceIte, Bool.true_eq_false, Bool.false_eq_true, if_true, if_false, isi_tup, Bool.not_true, e1, e3]
            rw [startLc_map (f := fun x => .bl (withinD 2 4 x)) rfl hm fun x h2 acc => ⟨_, rfl, by simp only [ev_var, ev_c, ev_un, ev_bin, ev_anil, ev_acons, ev_fn, ev_tof, ev_tob, ev_tand, ev_tor, ev_tnot, ev_and, ev_or, ev_not, ev_if, ev_chain, ev_true, ev_slice, ev_onone, ev_osome, ev_iseq, ev_irng, ev_ienum, ev_ibin, ev_lc, ev_skip, ev_never, ev_seq, ev_ret, ev_sif, ev_set, ev_expr, ev_asg, ev_par, ev_for, ev_fld, ev_gn, ev_gsnil, ev_gscons, ev_gt, ev_mkfn, ev_bok, ev_berr, ev_bfail, ev_tok, ev_hok, ev_ert, ev_enx, ev_wn, ev_wc, ev_e0, ev_sseq, ev_senum, ev_szip, ev_sltup, ev_ltI, ev_leI, ev_gtI, ev_geI, ev_subI, ev_addI, ev_lenT, List.map_cons, List.map_nil, List.length_cons, List.length_nil, List.cons_append, List.nil_append, List.append_nil, List.getElem?_cons_zero, List.getElem?_cons_succ, List.set_cons_zero, List.set_cons_succ, List.replicate_succ, List.replicate_zero, Nat.reduceAdd, Nat.reduceSub, Nat.reduceEqDiff, reduceIte, Bool.true_eq_false, Bool.false_eq_true, if_true, if_false, within_of (kn_app (dk_kn (hx x h2)))]⟩]
            simp only [ev_var, ev_c, ev_un, ev_bin, ev_anil, ev_acons, ev_fn, ev_tof, ev_tob, ev_tand, ev_tor, ev_tnot, ev_and, ev_or, ev_not, ev_if, ev_chain, ev_true, ev_slice, ev_onone, ev_osome, ev_iseq, ev_irng, ev_ienum, ev_ibin, ev_lc, ev_skip, ev_never, ev_seq, ev_ret, ev_sif, ev_set, ev_expr, ev_asg, ev_par, ev_for, ev_fld, ev_gn, ev_gsnil, ev_gscons, ev_gt, ev_mkfn, ev_bok, ev_berr, ev_bfail, ev_tok, ev_hok, ev_ert, ev_enx, ev_wn, ev_wc, ev_e0, ev_sseq, ev_senum, ev_szip, ev_sltup, ev_ltI, ev_leI, ev_gtI, ev_geI, ev_subI, ev_addI, ev_lenT, List.map_cons, List.map_nil, List.length_cons, List.length_nil, List.cons_append, List.nil_append, List.append_nil, List.getElem?_cons_zero, List.getElem?_cons_succ, List.set_cons_zero, List.set_cons_succ, List.replicate_succ, List.replicate_zero, Nat.reduceAdd, Nat.reduceSub, Nat.reduceEqDiff, reduceIte, Bool.true_eq_false, Bool.false_eq_true, if_true, if_false, aa_end, all_id]
            refine ⟨[.lst (xs.map fun x => D.bl (withinD 2 4 x))], ?_⟩
            by_cases ha : xs.all (withinD 2 4) = true
            · simp only [ev_var, ev_c, ev_un, ev_bin, ev_anil, ev_acons, ev_fn, ev_tof, ev_tob, ev_tand, ev_tor, ev_tnot, ev_and, ev_or, ev_not, ev_if, ev_chain, ev_true, ev_slice, ev_onone, ev_osome, ev_iseq, ev_irng, ev_ienum, ev_ibin, ev_lc, ev_skip, ev_never, ev_seq, ev_ret, ev_sif, ev_set, ev_expr, ev_asg, ev_par, ev_for, ev_fld, ev_gn, ev_gsnil, ev_gscons, ev_gt, ev_mkfn, ev_bok, ev_berr, ev_bfail, ev_tok, ev_hok, ev_ert, ev_enx, ev_wn, ev_wc, ev_e0, ev_sseq, ev_senum, ev_szip, ev_sltup, ev_ltI, ev_leI, ev_gtI, ev_geI, ev_subI, ev_addI, ev_lenT, List.map_cons, List.map_nil, List.length_cons, List.length_nil, List.cons_append, List.nil_append, List.append_nil, List.getElem?_cons_zero, List.getElem?_cons_succ, List.set_cons_zero, List.set_cons_succ, List.replicate_succ, List.replicate_zero, Nat.reduceAdd, Nat.reduceSub, Nat.reduceEqDiff, reduceIte, Bool.true_eq_false, Bool.false_eq_true, if_true, if_false, ha, Bool.not_true]
              obtain ⟨c, hw⟩ := walk_prod (st := st ++ [.lst (xs.map fun x => D.bl (withinD 2 4 x))]) (a := some (.tup xs)) (b := none) h3 ha
              rw [hw]
              simp only [ev_var, ev_c, ev_un, ev_bin, ev_anil, ev_acons, ev_fn, ev_tof, ev_tob, ev_tand, ev_tor, ev_tnot, ev_and, ev_or, ev_not, ev_if, ev_chain, ev_true, ev_slice, ev_onone, ev_osome, ev_iseq, ev_irng, ev_ienum, ev_ibin, ev_lc, ev_skip, ev_never, ev_seq, ev_ret, ev_sif, ev_set, ev_expr, ev_asg, ev_par, ev_for, ev_fld, ev_gn, ev_gsnil, ev_gscons, ev_gt, ev_mkfn, ev_bok, ev_berr, ev_bfail, ev_tok, ev_hok, ev_ert, ev_enx, ev_wn, ev_wc, ev_e0, ev_sseq, ev_senum, ev_szip, ev_sltup, ev_ltI, ev_leI, ev_gtI, ev_geI, ev_subI, ev_addI, ev_lenT, List.map_cons, List.map_nil, List.length_cons, List.length_nil, List.cons_append, List.nil_append, List.append_nil, List.getElem?_cons_zero, List.getElem?_cons_succ, List.set_cons_zero, List.set_cons_succ, List.replicate_succ, List.replicate_zero, Nat.reduceAdd, Nat.reduceSub, Nat.reduceEqDiff, reduceIte, Bool.true_eq_false, Bool.false_eq_true, if_true, if_false, wheelsD, ha, h1, h3, decide_true, Bool.true_and]
            · rw [Bool.not_eq_true] at ha
              simp only [ev_var, ev_c, ev_un, ev_bin, ev_anil, ev_acons, ev_fn, ev_tof, ev_tob, ev_tand, ev_tor, ev_tnot, ev_and, ev_or, ev_not, ev_if, ev_chain, ev_true, ev_slice, ev_onone, ev_osome, ev_iseq, ev_irng, ev_ienum, ev_ibin, ev_lc, ev_skip, ev_never, ev_seq, ev_ret, ev_sif, ev_set, ev_expr, ev_asg, ev_par, ev_for, ev_fld, ev_gn, ev_gsnil, ev_gscons, ev_gt, ev_mkfn, ev_bok, ev_berr, ev_bfail, ev_tok, ev_hok, ev_ert, ev_enx, ev_wn, ev_wc, ev_e0, ev_sseq, ev_senum, ev_szip, ev_sltup, ev_ltI, ev_leI, ev_gtI, ev_geI, ev_subI, ev_addI, ev_lenT, List.map_cons, List.map_nil, List.length_cons, List.length_nil, List.cons_append, List.nil_append, List.append_nil, List.getElem?_cons_zero, List.getElem?_cons_succ, List.set_cons_zero, List.set_cons_succ, List.replicate_succ, List.replicate_zero, Nat.reduceAdd, Nat.reduceSub, Nat.reduceEqDiff, reduceIte, Bool.true_eq_false, Bool.false_eq_true, if_true, if_false, ha, Bool.not_false, wheelsD, Bool.and_false, Bool.false_and]
          · have e1 : decide ((1 : Int) ≤ (xs.length : Int)) = true := decide_eq_true (by omega)
            have e3 : decide ((xs.length : Int) ≤ (3 : Int)) = false := decide_eq_false (by omega)
            refine ⟨[], ?_⟩
            simp only [m_is_wheels, b_is_wheels, ev_var, ev_c, ev_un, ev_bin, ev_anil, ev_acons, ev_fn, ev_tof, ev_tob, ev_tand, ev_tor, ev_tnot, ev_and, ev_or, ev_not, ev_if, ev_chain, ev_true, ev_slice, ev_onone, ev_osome, ev_iseq, ev_irng, ev_ienum, ev_ibin, ev_lc, ev_skip, ev_never, ev_seq, ev_ret, ev_sif, ev_set, ev_expr, ev_asg, ev_par, ev_for, ev_fld, ev_gn, ev_gsnil, ev_gscons, ev_gt, ev_mkfn, ev_bok, ev_berr, ev_bfail, ev_tok, ev_hok, ev_ert, ev_enx, ev_wn, ev_wc, ev_e0, ev_sseq, ev_senum, ev_szip, ev_sltup, ev_ltI, ev_leI, ev_gtI, ev_geI, ev_subI, ev_addI, ev_lenT, List.map_cons, List.map_nil, List.length_cons, List.length_nil, List.cons_append, List.nil_append, List.append_nil, List.getElem?_cons_zero, List.getElem?_cons_succ, List.set_cons_zero, List.set_cons_succ, List.replicate_succ, List.replicate_zero, Nat.reduceAdd, Nat.reduceSub, Nat.reduceEqDiff, reduceIte, Bool.true_eq_false, Bool.false_eq_true, if_true, if_false, isi_tup, Bool.not_true, e1, e3, Bool.not_false, wheelsD, decide_eq_false h3, Bool.and_false, Bool.false_and]
        · have e1 : decide ((1 : Int) ≤ (xs.length : Int)) = false := decide_eq_false (by omega)
          refine ⟨[], ?_⟩
          simp only [m_is_wheels, b_is_wheels, ev_var, ev_c, ev_un, ev_bin, ev_anil, ev_acons, ev_fn, ev_tof, ev_tob, ev_tand, ev_tor, ev_tnot, ev_and, ev_or, ev_not, ev_if, ev_chain, ev_true, ev_slice, ev_onone, ev_osome, ev_iseq, ev_irng, ev_ienum, ev_ibin, ev_lc, ev_skip, ev_never, ev_seq, ev_ret, ev_sif, ev_set, ev_expr, ev_asg, ev_par, ev_for, ev_fld, ev_gn, ev_gsnil, ev_gscons, ev_gt, ev_mkfn, ev_bok, ev_berr, ev_bfail, ev_tok, ev_hok, ev_ert, ev_enx, ev_wn, ev_wc, ev_e0, ev_sseq, ev_senum, ev_szip, ev_sltup, ev_ltI, ev_leI, ev_gtI, ev_geI, ev_subI, ev_addI, ev_lenT, List.map_cons, List.map_nil, List.length_cons, List.length_nil, List.cons_append, List.nil_append, List.append_nil, List.getElem?_cons_zero, List.getElem?_cons_succ, List.set_cons_zero, List.set_cons_succ, List.replicate_succ, List.replicate_zero, Nat.reduceAdd, Nat.reduceSub, Nat.reduceEqDiff, reduceIte, Bool.true_eq_false, Bool.false_eq_true, if_true, if_false, isi_tup, Bool.not_true, e1, Bool.not_false, wheelsD, decide_eq_false h1, Bool.false_and]
      | _ =>
        refine ⟨[], ?_⟩
        simp only [m_is_wheels, b_is_wheels, ev_var, ev_c, ev_un, ev_bin, ev_anil, ev_acons, ev_fn, ev_tof, ev_tob, ev_tand, ev_tor, ev_tnot, ev_and, ev_or, ev_not, ev_if, ev_chain, ev_true, ev_slice, ev_onone, ev_osome, ev_iseq, ev_irng, ev_ienum, ev_ibin, ev_lc, ev_skip, ev_never, ev_seq, ev_ret, ev_sif, ev_set, ev_expr, ev_asg, ev_par, ev_for, ev_fld, ev_gn, ev_gsnil, ev_gscons, ev_gt, ev_mkfn, ev_bok, ev_berr, ev_bfail, ev_tok, ev_hok, ev_ert, ev_enx, ev_wn, ev_wc, ev_e0, ev_sseq, ev_senum, ev_szip, ev_sltup, ev_ltI, ev_leI, ev_gtI, ev_geI, ev_subI, ev_addI, ev_lenT, List.map_cons, List.map_nil, List.length_cons, List.length_nil, List.cons_append, List.nil_append, List.append_nil, List.getElem?_cons_zero, List.getElem?_cons_succ, List.set_cons_zero, List.set_cons_succ, List.replicate_succ, List.replicate_zero, Nat.reduceAdd, Nat.reduceSub, Nat.reduceEqDiff, reduceIte, Bool.true_eq_false, Bool.false_eq_true, if_true, if_false, isi_tupD (dk_kn hk)]
        rfl
    · cases h'

def b_is_values : SM := (sSeq (sIf (tOr (tNot (tOf (eUn (dIsi "tuple") (eVar 1)))) (tOf (eBin (dEq true) (eFn fLen (aCons (eVar 1) aNil)) (eFn fLen (aCons (eVar 0) aNil))))) (sRet (eC (.bl false))) sSkip)
    (sRet (eFn (fAA fun bs => bs.all id) (aCons (cLc (iBin zipSrc (eVar 1) (eVar 0)) [2, 3] (gT 2 (gsCons (gN 2) (gsCons (gN 3) gsNil))) tTrue (eFn s_is_below (aCons (eVar 2) (aCons (eVar 3) aNil)))) aNil))))
def m_is_values : Fm := mkFn 2 4 b_is_values
def s_is_values : Fm := obs 2 fun ds st => match ds with
  | [.tup ws, d] => if dk st d = true ∧ (tupsD d).length ≤ most ∧ ws.all isI = true then some (.bl (valuesD ws d)) else none
  | _ => none
theorem a_is_values : Arity 2 s_is_values := obs_ar
theorem values_of {d : D} {st : Sto} {ws : List D} (h : dk st d = true) (hm : (tupsD d).length ≤ most) (hw : ws.all isI = true) : s_is_values [.tup ws, d] st = .ok (.bl (valuesD ws d)) st := obs_ok rfl (if_pos ⟨h, hm, hw⟩)
theorem t_is_values : Tells m_is_values s_is_values := .obs fun ds st d g b hl h => by
  match ds, hl, h with
  | [.tup ws, x], _, h =>
    have h' : (if dk st x = true ∧ (tupsD x).length ≤ most ∧ ws.all isI = true then some (D.bl (valuesD ws x)) else none) = some d := h
    split at h'
    · rename_i hk
      cases h'
      obtain ⟨hk, hm, hw⟩ := hk
      refine ⟨by simp only [Bnd], ?_⟩
      cases x with
      | tup xs =>
        have hx := dk_tup hk
        have hm : xs.length ≤ most := hm
        simp only [m_is_values, b_is_values, ev_var, ev_c, ev_un, ev_bin, ev_anil, ev_acons, ev_fn, ev_tof, ev_tob, ev_tand, ev_tor, ev_tnot, ev_and, ev_or, ev_not, ev_if, ev_chain, ev_true, ev_slice, ev_onone, ev_osome, ev_iseq, ev_irng, ev_ienum, ev_ibin, ev_lc, ev_skip, ev_never, ev_seq, ev_ret, ev_sif, ev_set, ev_expr, ev_asg, ev_par, ev_for, ev_fld, ev_gn, ev_gsnil, ev_gscons, ev_gt, ev_mkfn, ev_bok, ev_berr, ev_bfail, ev_tok, ev_hok, ev_ert, ev_enx, ev_wn, ev_wc, ev_e0, ev_sseq, ev_senum, ev_szip, ev_sltup, ev_ltI, ev_leI, ev_gtI, ev_geI, ev_subI, ev_addI, ev_lenT, List.map_cons, List.map_nil, List.length_cons, List.length_nil, List.cons_append, List.nil_append, List.append_nil, List.getElem?_cons_zero, List.getElem?_cons_succ, List.set_cons_zero, List.set_cons_succ, List.replicate_succ, List.replicate_zero, Nat.reduceAdd, Nat.reduceSub, Nat.reduceEqDiff, reduceIte, Bool.true_eq_false, Bool.false_eq_true, if_true, if_false, isi_tup, Bool.not_true, eqI]
        by_cases hl : xs.length = ws.length
        · have e : ((xs.length : Int) == (ws.length : Int)) = true := by simp [hl]
          simp only [ev_var, ev_c, ev_un, ev_bin, ev_anil, ev_acons, ev_fn, ev_tof, ev_tob, ev_tand, ev_tor, ev_tnot, ev_and, ev_or, ev_not, ev_if, ev_chain, ev_true, ev_slice, ev_onone, ev_osome, ev_iseq, ev_irng, ev_ienum, ev_ibin, ev_lc, ev_skip, ev_never, ev_seq, ev_ret, ev_sif, ev_set, ev_expr, ev_asg, ev_par, ev_for, ev_fld, ev_gn, ev_gsnil, ev_gscons, ev_gt, ev_mkfn, ev_bok, ev_berr, ev_bfail, ev_tok, ev_hok, ev_ert, ev_enx, ev_wn, ev_wc, ev_e0, ev_sseq, ev_senum, ev_szip, ev_sltup, ev_ltI, ev_leI, ev_gtI, ev_geI, ev_subI, ev_addI, ev_lenT, List.map_cons, List.map_nil, List.length_cons, List.length_nil, List.cons_append, List.nil_append, List.append_nil, List.getElem?_cons_zero, List.getElem?_cons_succ, List.set_cons_zero, List.set_cons_succ, List.replicate_succ, List.replicate_zero, Nat.reduceAdd, Nat.reduceSub, Nat.reduceEqDiff, reduceIte, Bool.true_eq_false, Bool.false_eq_true, if_true, if_false, e, Bool.not_true]
          rw [startLc_map (f := fun p => .bl (withinD 0 (wI (sndD p) - 1) (fstD p))) rfl (by rw [List.length_zipWith]; omega) fun p h2 acc => ?_]
          · simp only [ev_var, ev_c, ev_un, ev_bin, ev_anil, ev_acons, ev_fn, ev_tof, ev_tob, ev_tand, ev_tor, ev_tnot, ev_and, ev_or, ev_not, ev_if, ev_chain, ev_true, ev_slice, ev_onone, ev_osome, ev_iseq, ev_irng, ev_ienum, ev_ibin, ev_lc, ev_skip, ev_never, ev_seq, ev_ret, ev_sif, ev_set, ev_expr, ev_asg, ev_par, ev_for, ev_fld, ev_gn, ev_gsnil, ev_gscons, ev_gt, ev_mkfn, ev_bok, ev_berr, ev_bfail, ev_tok, ev_hok, ev_ert, ev_enx, ev_wn, ev_wc, ev_e0, ev_sseq, ev_senum, ev_szip, ev_sltup, ev_ltI, ev_leI, ev_gtI, ev_geI, ev_subI, ev_addI, ev_lenT, List.map_cons, List.map_nil, List.length_cons, List.length_nil, List.cons_append, List.nil_append, List.append_nil, List.getElem?_cons_zero, List.getElem?_cons_succ, List.set_cons_zero, List.set_cons_succ, List.replicate_succ, List.replicate_zero, Nat.reduceAdd, Nat.reduceSub, Nat.reduceEqDiff, reduceIte, Bool.true_eq_false, Bool.false_eq_true, if_true, if_false, aa_end]
            refine ⟨_, by congr 2; rw [List.map_zipWith]; simp only [valuesD, pairD, fstD, sndD, hl, decide_true, Bool.true_and]⟩
          · obtain ⟨i, hi2⟩ := List.getElem?_of_mem h2
            obtain ⟨x, y, h3, h4, rfl⟩ := zip_get hi2
            have hy := isI_eq (List.all_eq_true.mp hw y (List.mem_of_getElem? h4))
            refine ⟨_, rfl, ?_⟩
            rw [hy]
            simp only [ev_var, ev_c, ev_un, ev_bin, ev_anil, ev_acons, ev_fn, ev_tof, ev_tob, ev_tand, ev_tor, ev_tnot, ev_and, ev_or, ev_not, ev_if, ev_chain, ev_true, ev_slice, ev_onone, ev_osome, ev_iseq, ev_irng, ev_ienum, ev_ibin, ev_lc, ev_skip, ev_never, ev_seq, ev_ret, ev_sif, ev_set, ev_expr, ev_asg, ev_par, ev_for, ev_fld, ev_gn, ev_gsnil, ev_gscons, ev_gt, ev_mkfn, ev_bok, ev_berr, ev_bfail, ev_tok, ev_hok, ev_ert, ev_enx, ev_wn, ev_wc, ev_e0, ev_sseq, ev_senum, ev_szip, ev_sltup, ev_ltI, ev_leI, ev_gtI, ev_geI, ev_subI, ev_addI, ev_lenT, List.map_cons, List.map_nil, List.length_cons, List.length_nil, List.cons_append, List.nil_append, List.append_nil, List.getElem?_cons_zero, List.getElem?_cons_succ, List.set_cons_zero, List.set_cons_succ, List.replicate_succ, List.replicate_zero, Nat.reduceAdd, Nat.reduceSub, Nat.reduceEqDiff, reduceIte, Bool.true_eq_false, Bool.false_eq_true, if_true, if_false, below_of (kn_app (dk_kn (hx x (List.mem_of_getElem? h3)))), fstD, sndD, wI]
        · have e : ((xs.length : Int) == (ws.length : Int)) = false := by simp; omega
          simp only [ev_var, ev_c, ev_un, ev_bin, ev_anil, ev_acons, ev_fn, ev_tof, ev_tob, ev_tand, ev_tor, ev_tnot, ev_and, ev_or, ev_not, ev_if, ev_chain, ev_true, ev_slice, ev_onone, ev_osome, ev_iseq, ev_irng, ev_ienum, ev_ibin, ev_lc, ev_skip, ev_never, ev_seq, ev_ret, ev_sif, ev_set, ev_expr, ev_asg, ev_par, ev_for, ev_fld, ev_gn, ev_gsnil, ev_gscons, ev_gt, ev_mkfn, ev_bok, ev_berr, ev_bfail, ev_tok, ev_hok, ev_ert, ev_enx, ev_wn, ev_wc, ev_e0, ev_sseq, ev_senum, ev_szip, ev_sltup, ev_ltI, ev_leI, ev_gtI, ev_geI, ev_subI, ev_addI, ev_lenT, List.map_cons, List.map_nil, List.length_cons, List.length_nil, List.cons_append, List.nil_append, List.append_nil, List.getElem?_cons_zero, List.getElem?_cons_succ, List.set_cons_zero, List.set_cons_succ, List.replicate_succ, List.replicate_zero, Nat.reduceAdd, Nat.reduceSub, Nat.reduceEqDiff, reduceIte, Bool.true_eq_false, Bool.false_eq_true, if_true, if_false, e, Bool.not_false]
          refine ⟨[], ?_⟩
          simp [valuesD, hl]
      | _ =>
        refine ⟨[], ?_⟩
        simp only [m_is_values, b_is_values, ev_var, ev_c, ev_un, ev_bin, ev_anil, ev_acons, ev_fn, ev_tof, ev_tob, ev_tand, ev_tor, ev_tnot, ev_and, ev_or, ev_not, ev_if, ev_chain, ev_true, ev_slice, ev_onone, ev_osome, ev_iseq, ev_irng, ev_ienum, ev_ibin, ev_lc, ev_skip, ev_never, ev_seq, ev_ret, ev_sif, ev_set, ev_expr, ev_asg, ev_par, ev_for, ev_fld, ev_gn, ev_gsnil, ev_gscons, ev_gt, ev_mkfn, ev_bok, ev_berr, ev_bfail, ev_tok, ev_hok, ev_ert, ev_enx, ev_wn, ev_wc, ev_e0, ev_sseq, ev_senum, ev_szip, ev_sltup, ev_ltI, ev_leI, ev_gtI, ev_geI, ev_subI, ev_addI, ev_lenT, List.map_cons, List.map_nil, List.length_cons, List.length_nil, List.cons_append, List.nil_append, List.append_nil, List.getElem?_cons_zero, List.getElem?_cons_succ, List.set_cons_zero, List.set_cons_succ, List.replicate_succ, List.replicate_zero, Nat.reduceAdd, Nat.reduceSub, Nat.reduceEqDiff, reduceIte, Bool.true_eq_false, Bool.false_eq_true, if_true, if_false, isi_tupD (dk_kn hk)]
        rfl
    · cases h'

def b_is_left : SM := (sSeq (sIf (tOr (tNot (tOf (eUn (dIsi "tuple") (eVar 1)))) (tOf (eBin (dEq true) (eFn fLen (aCons (eVar 1) aNil)) (eVar 0)))) (sRet (eC (.bl false))) sSkip)
    (sRet (eFn (fAA fun bs => bs.all id) (aCons (cLc (iSeq (eVar 1)) [2] (gN 2) tTrue (eFn s_is_within (aCons (eVar 2) (aCons (eC (.int 0)) (aCons (eC (.int 2)) aNil))))) aNil))))
def m_is_left : Fm := mkFn 2 3 b_is_left
def s_is_left : Fm := obs 2 fun ds st => match ds with
  | [.int n, d] => if dk st d = true ∧ (tupsD d).length ≤ most ∧ 0 ≤ n then some (.bl (leftD n.toNat d)) else none
  | _ => none
theorem a_is_left : Arity 2 s_is_left := obs_ar
theorem left_of {d : D} {st : Sto} {n : Nat} (h : dk st d = true) (hm : (tupsD d).length ≤ most) : s_is_left [.int n, d] st = .ok (.bl (leftD n d)) st := obs_ok rfl (if_pos ⟨h, hm, Int.natCast_nonneg n⟩)
theorem t_is_left : Tells m_is_left s_is_left := .obs fun ds st d g b hl h => by
  match ds, hl, h with
  | [.int n, x], _, h =>
    have h' : (if dk st x = true ∧ (tupsD x).length ≤ most ∧ 0 ≤ n then some (D.bl (leftD n.toNat x)) else none) = some d := h
    split at h'
    · rename_i hk
      cases h'
      obtain ⟨hk, hm, hn⟩ := hk
      obtain ⟨k, rfl⟩ := Int.eq_ofNat_of_zero_le hn
      refine ⟨by simp only [Bnd], ?_⟩
      cases x with
      | tup xs =>
        have hx := dk_tup hk
        have hm : xs.length ≤ most := hm
        simp only [m_is_left, b_is_left, ev_var, ev_c, ev_un, ev_bin, ev_anil, ev_acons, ev_fn, ev_tof, ev_tob, ev_tand, ev_tor, ev_tnot, ev_and, ev_or, ev_not, ev_if, ev_chain, ev_true, ev_slice, ev_onone, ev_osome, ev_iseq, ev_irng, ev_ienum, ev_ibin, ev_lc, ev_skip, ev_never, ev_seq, ev_ret, ev_sif, ev_set, ev_expr, ev_asg, ev_par, ev_for, ev_fld, ev_gn, ev_gsnil, ev_gscons, ev_gt, ev_mkfn, ev_bok, ev_berr, ev_bfail, ev_tok, ev_hok, ev_ert, ev_enx, ev_wn, ev_wc, ev_e0, ev_sseq, ev_senum, ev_szip, ev_sltup, ev_ltI, ev_leI, ev_gtI, ev_geI, ev_subI, ev_addI, ev_lenT, List.map_cons, List.map_nil, List.length_cons, List.length_nil, List.cons_append, List.nil_append, List.append_nil, List.getElem?_cons_zero, List.getElem?_cons_succ, List.set_cons_zero, List.set_cons_succ, List.replicate_succ, List.replicate_zero, Nat.reduceAdd, Nat.reduceSub, Nat.reduceEqDiff, reduceIte, Bool.true_eq_false, Bool.false_eq_true, if_true, if_false, isi_tup, Bool.not_true, eqI]
        by_cases hl : xs.length = k
        · have e : ((xs.length : Int) == (k : Int)) = true := by simp [hl]
          simp only [ev_var, ev_c, ev_un, ev_bin, ev_anil, ev_acons, ev_fn, ev_tof, ev_tob, ev_tand, ev_tor, ev_tnot, ev_and, ev_or, ev_not, ev_if, ev_chain, ev_true, ev_slice, ev_onone, ev_osome, ev_iseq, ev_irng, ev_ienum, ev_ibin, ev_lc, ev_skip, ev_never, ev_seq, ev_ret, ev_sif, ev_set, ev_expr, ev_asg, ev_par, ev_for, ev_fld, ev_gn, ev_gsnil, ev_gscons, ev_gt, ev_mkfn, ev_bok, ev_berr, ev_bfail, ev_tok, ev_hok, ev_ert, ev_enx, ev_wn, ev_wc, ev_e0, ev_sseq, ev_senum, ev_szip, ev_sltup, ev_ltI, ev_leI, ev_gtI, ev_geI, ev_subI, ev_addI, ev_lenT, List.map_cons, List.map_nil, List.length_cons, List.length_nil, List.cons_append, List.nil_append, List.append_nil, List.getElem?_cons_zero, List.getElem?_cons_succ, List.set_cons_zero, List.set_cons_succ, List.replicate_succ, List.replicate_zero, Nat.reduceAdd, Nat.reduceSub, Nat.reduceEqDiff, reduceIte, Bool.true_eq_false, Bool.false_eq_true, if_true, if_false, e, Bool.not_true]
          rw [startLc_map (f := fun x => .bl (withinD 0 2 x)) rfl hm fun x h2 acc => ⟨_, rfl, by simp only [ev_var, ev_c, ev_un, ev_bin, ev_anil, ev_acons, ev_fn, ev_tof, ev_tob, ev_tand, ev_tor, ev_tnot, ev_and, ev_or, ev_not, ev_if, ev_chain, ev_true, ev_slice, ev_onone, ev_osome, ev_iseq, ev_irng, ev_ienum, ev_ibin, ev_lc, ev_skip, ev_never, ev_seq, ev_ret, ev_sif, ev_set, ev_expr, ev_asg, ev_par, ev_for, ev_fld, ev_gn, ev_gsnil, ev_gscons, ev_gt, ev_mkfn, ev_bok, ev_berr, ev_bfail, ev_tok, ev_hok, ev_ert, ev_enx, ev_wn, ev_wc, ev_e0, ev_sseq, ev_senum, ev_szip, ev_sltup, ev_ltI, ev_leI, ev_gtI, ev_geI, ev_subI, ev_addI, ev_lenT, List.map_cons, List.map_nil, List.length_cons, List.length_nil, List.cons_append, List.nil_append, List.append_nil, List.getElem?_cons_zero, List.getElem?_cons_succ, List.set_cons_zero, List.set_cons_succ, List.replicate_succ, List.replicate_zero, Nat.reduceAdd, Nat.reduceSub, Nat.reduceEqDiff, reduceIte, Bool.true_eq_false, Bool.false_eq_true, if_true, if_false, within_of (kn_app (dk_kn (hx x h2)))]⟩]
          simp only [ev_var, ev_c, ev_un, ev_bin, ev_anil, ev_acons, ev_fn, ev_tof, ev_tob, ev_tand, ev_tor, ev_tnot, ev_and, ev_or, ev_not, ev_if, ev_chain, ev_true, ev_slice, ev_onone, ev_osome, ev_iseq, ev_irng, ev_ienum, ev_ibin, ev_lc, ev_skip, ev_never, ev_seq, ev_ret, ev_sif, ev_set, ev_expr, ev_asg, ev_par, ev_for, ev_fld, ev_gn, ev_gsnil, ev_gscons, ev_gt, ev_mkfn, ev_bok, ev_berr, ev_bfail, ev_tok, ev_hok, ev_ert, ev_enx, ev_wn, ev_wc, ev_e0, ev_sseq, ev_senum, ev_szip, ev_sltup, ev_ltI, ev_leI, ev_gtI, ev_geI, ev_subI, ev_addI, ev_lenT, List.map_cons, List.map_nil, List.length_cons, List.length_nil, List.cons_append, List.nil_append, List.append_nil, List.getElem?_cons_zero, List.getElem?_cons_succ, List.set_cons_zero, List.set_cons_succ, List.replicate_succ, List.replicate_zero, Nat.reduceAdd, Nat.reduceSub, Nat.reduceEqDiff, reduceIte, Bool.true_eq_false, Bool.false_eq_true, if_true, if_false, aa_end]
          refine ⟨_, by congr 2; simp only [leftD, all_id, Int.toNat_natCast, hl, decide_true, Bool.true_and]⟩
        · have e : ((xs.length : Int) == (k : Int)) = false := by simp; omega
          simp only [ev_var, ev_c, ev_un, ev_bin, ev_anil, ev_acons, ev_fn, ev_tof, ev_tob, ev_tand, ev_tor, ev_tnot, ev_and, ev_or, ev_not, ev_if, ev_chain, ev_true, ev_slice, ev_onone, ev_osome, ev_iseq, ev_irng, ev_ienum, ev_ibin, ev_lc, ev_skip, ev_never, ev_seq, ev_ret, ev_sif, ev_set, ev_expr, ev_asg, ev_par, ev_for, ev_fld, ev_gn, ev_gsnil, ev_gscons, ev_gt, ev_mkfn, ev_bok, ev_berr, ev_bfail, ev_tok, ev_hok, ev_ert, ev_enx, ev_wn, ev_wc, ev_e0, ev_sseq, ev_senum, ev_szip, ev_sltup, ev_ltI, ev_leI, ev_gtI, ev_geI, ev_subI, ev_addI, ev_lenT, List.map_cons, List.map_nil, List.length_cons, List.length_nil, List.cons_append, List.nil_append, List.append_nil, List.getElem?_cons_zero, List.getElem?_cons_succ, List.set_cons_zero, List.set_cons_succ, List.replicate_succ, List.replicate_zero, Nat.reduceAdd, Nat.reduceSub, Nat.reduceEqDiff, reduceIte, Bool.true_eq_false, Bool.false_eq_true, if_true, if_false, e, Bool.not_false]
          refine ⟨[], ?_⟩
          simp [leftD, hl]
      | _ =>
        refine ⟨[], ?_⟩
        simp only [m_is_left, b_is_left, ev_var, ev_c, ev_un, ev_bin, ev_anil, ev_acons, ev_fn, ev_tof, ev_tob, ev_tand, ev_tor, ev_tnot, ev_and, ev_or, ev_not, ev_if, ev_chain, ev_true, ev_slice, ev_onone, ev_osome, ev_iseq, ev_irng, ev_ienum, ev_ibin, ev_lc, ev_skip, ev_never, ev_seq, ev_ret, ev_sif, ev_set, ev_expr, ev_asg, ev_par, ev_for, ev_fld, ev_gn, ev_gsnil, ev_gscons, ev_gt, ev_mkfn, ev_bok, ev_berr, ev_bfail, ev_tok, ev_hok, ev_ert, ev_enx, ev_wn, ev_wc, ev_e0, ev_sseq, ev_senum, ev_szip, ev_sltup, ev_ltI, ev_leI, ev_gtI, ev_geI, ev_subI, ev_addI, ev_lenT, List.map_cons, List.map_nil, List.length_cons, List.length_nil, List.cons_append, List.nil_append, List.append_nil, List.getElem?_cons_zero, List.getElem?_cons_succ, List.set_cons_zero, List.set_cons_succ, List.replicate_succ, List.replicate_zero, Nat.reduceAdd, Nat.reduceSub, Nat.reduceEqDiff, reduceIte, Bool.true_eq_false, Bool.false_eq_true, if_true, if_false, isi_tupD (dk_kn hk)]
        rfl
    · cases h'

def b_is_state_of : SM := (sSeq (sIf (tOr (tNot (tOf (eUn (dIsi "tuple") (eVar 1)))) (tOf (eBin (dEq true) (eFn fLen (aCons (eVar 1) aNil)) (eC (.int 2))))) (sRet (eC (.bl false))) sSkip)
    (sRet (eAnd (eFn s_is_values (aCons (eUn (dFld "Book" "wheels") (eVar 0)) (aCons (eBin dIx (eVar 1) (eC (.int 0))) aNil))) (eFn s_is_left (aCons (eFn fLen (aCons (eUn (dFld "Book" "rules") (eVar 0)) aNil)) (aCons (eBin dIx (eVar 1) (eC (.int 1))) aNil))))))
def m_is_state_of : Fm := mkFn 2 2 b_is_state_of
def s_is_state_of : Fm := obs 2 fun ds st => match ds with
  | [bk, d] => match bookD st bk with
    | some (ws, rs) => if dk st d = true ∧ smallD d = true ∧ ws.all isI = true then some (.bl (stateD ws rs.length d)) else none
    | none => none
  | _ => none
theorem a_is_state_of : Arity 2 s_is_state_of := obs_ar
theorem state_of {d bk : D} {st : Sto} {ws rs : List D} (hb : bookD st bk = some (ws, rs)) (h : dk st d = true) (hs : smallD d = true) (hw : ws.all isI = true) : s_is_state_of [bk, d] st = .ok (.bl (stateD ws rs.length d)) st := by
  refine obs_ok rfl ?_
  show (match bookD st bk with | some (ws, rs) => if dk st d = true ∧ smallD d = true ∧ ws.all isI = true then some (D.bl (stateD ws rs.length d)) else none | none => none) = _
  rw [hb]
  exact if_pos ⟨h, hs, hw⟩
theorem t_is_state_of : Tells m_is_state_of s_is_state_of := .obs fun ds st d g b hl h => by
  match ds, hl, h with
  | [bk, x], _, h =>
    have h' : (match bookD st bk with | some (ws, rs) => if dk st x = true ∧ smallD x = true ∧ ws.all isI = true then some (D.bl (stateD ws rs.length x)) else none | none => none) = some d := h
    cases hb : bookD st bk with
    | none => rw [hb] at h'; cases h'
    | some q =>
      obtain ⟨ws, rs⟩ := q
      rw [hb] at h'
      simp only at h'
      split at h'
      · rename_i hk
        cases h'
        obtain ⟨hk, hs, hw⟩ := hk
        refine ⟨by simp only [Bnd], [], ?_⟩
        have hw1 := book_wheels hb
        have hr1 := book_rules hb
        cases x with
        | tup xs =>
          have hx := dk_tup hk
          by_cases hl2 : xs.length = 2
          · obtain ⟨x, y, rfl⟩ := len2 hl2
            have hs2 := small2 hs
            have ev1 := values_of (ws := ws) (hx x (by simp)) hs2.1 hw
            have ev2 := left_of (n := rs.length) (hx y (by simp)) hs2.2
            simp only [m_is_state_of, b_is_state_of, ev_var, ev_c, ev_un, ev_bin, ev_anil, ev_acons, ev_fn, ev_tof, ev_tob, ev_tand, ev_tor, ev_tnot, ev_and, ev_or, ev_not, ev_if, ev_chain, ev_true, ev_slice, ev_onone, ev_osome, ev_iseq, ev_irng, ev_ienum, ev_ibin, ev_lc, ev_skip, ev_never, ev_seq, ev_ret, ev_sif, ev_set, ev_expr, ev_asg, ev_par, ev_for, ev_fld, ev_gn, ev_gsnil, ev_gscons, ev_gt, ev_mkfn, ev_bok, ev_berr, ev_bfail, ev_tok, ev_hok, ev_ert, ev_enx, ev_wn, ev_wc, ev_e0, ev_sseq, ev_senum, ev_szip, ev_sltup, ev_ltI, ev_leI, ev_gtI, ev_geI, ev_subI, ev_addI, ev_lenT, List.map_cons, List.map_nil, List.length_cons, List.length_nil, List.cons_append, List.nil_append, List.append_nil, List.getElem?_cons_zero, List.getElem?_cons_succ, List.set_cons_zero, List.set_cons_succ, List.replicate_succ, List.replicate_zero, Nat.reduceAdd, Nat.reduceSub, Nat.reduceEqDiff, reduceIte, Bool.true_eq_false, Bool.false_eq_true, if_true, if_false, isi_tup, Bool.not_true, Int.cast_ofNat_Int, eqI, beq_self_eq_true, dIx, seqOf, atI2_0, atI2_1, hw1, hr1, ev1]
            cases hv : valuesD ws x with
            | false => simp only [ev_var, ev_c, ev_un, ev_bin, ev_anil, ev_acons, ev_fn, ev_tof, ev_tob, ev_tand, ev_tor, ev_tnot, ev_and, ev_or, ev_not, ev_if, ev_chain, ev_true, ev_slice, ev_onone, ev_osome, ev_iseq, ev_irng, ev_ienum, ev_ibin, ev_lc, ev_skip, ev_never, ev_seq, ev_ret, ev_sif, ev_set, ev_expr, ev_asg, ev_par, ev_for, ev_fld, ev_gn, ev_gsnil, ev_gscons, ev_gt, ev_mkfn, ev_bok, ev_berr, ev_bfail, ev_tok, ev_hok, ev_ert, ev_enx, ev_wn, ev_wc, ev_e0, ev_sseq, ev_senum, ev_szip, ev_sltup, ev_ltI, ev_leI, ev_gtI, ev_geI, ev_subI, ev_addI, ev_lenT, List.map_cons, List.map_nil, List.length_cons, List.length_nil, List.cons_append, List.nil_append, List.append_nil, List.getElem?_cons_zero, List.getElem?_cons_succ, List.set_cons_zero, List.set_cons_succ, List.replicate_succ, List.replicate_zero, Nat.reduceAdd, Nat.reduceSub, Nat.reduceEqDiff, reduceIte, Bool.true_eq_false, Bool.false_eq_true, if_true, if_false, stateD, hv, Bool.false_and]
            | true => simp only [ev_var, ev_c, ev_un, ev_bin, ev_anil, ev_acons, ev_fn, ev_tof, ev_tob, ev_tand, ev_tor, ev_tnot, ev_and, ev_or, ev_not, ev_if, ev_chain, ev_true, ev_slice, ev_onone, ev_osome, ev_iseq, ev_irng, ev_ienum, ev_ibin, ev_lc, ev_skip, ev_never, ev_seq, ev_ret, ev_sif, ev_set, ev_expr, ev_asg, ev_par, ev_for, ev_fld, ev_gn, ev_gsnil, ev_gscons, ev_gt, ev_mkfn, ev_bok, ev_berr, ev_bfail, ev_tok, ev_hok, ev_ert, ev_enx, ev_wn, ev_wc, ev_e0, ev_sseq, ev_senum, ev_szip, ev_sltup, ev_ltI, ev_leI, ev_gtI, ev_geI, ev_subI, ev_addI, ev_lenT, List.map_cons, List.map_nil, List.length_cons, List.length_nil, List.cons_append, List.nil_append, List.append_nil, List.getElem?_cons_zero, List.getElem?_cons_succ, List.set_cons_zero, List.set_cons_succ, List.replicate_succ, List.replicate_zero, Nat.reduceAdd, Nat.reduceSub, Nat.reduceEqDiff, reduceIte, Bool.true_eq_false, Bool.false_eq_true, if_true, if_false, dIx, seqOf, atI2_1, hr1, ev2, stateD, hv, Bool.true_and]
          · have e : decide ((xs.length : Int) = 2) = false := decide_eq_false (by omega)
            simp only [m_is_state_of, b_is_state_of, ev_var, ev_c, ev_un, ev_bin, ev_anil, ev_acons, ev_fn, ev_tof, ev_tob, ev_tand, ev_tor, ev_tnot, ev_and, ev_or, ev_not, ev_if, ev_chain, ev_true, ev_slice, ev_onone, ev_osome, ev_iseq, ev_irng, ev_ienum, ev_ibin, ev_lc, ev_skip, ev_never, ev_seq, ev_ret, ev_sif, ev_set, ev_expr, ev_asg, ev_par, ev_for, ev_fld, ev_gn, ev_gsnil, ev_gscons, ev_gt, ev_mkfn, ev_bok, ev_berr, ev_bfail, ev_tok, ev_hok, ev_ert, ev_enx, ev_wn, ev_wc, ev_e0, ev_sseq, ev_senum, ev_szip, ev_sltup, ev_ltI, ev_leI, ev_gtI, ev_geI, ev_subI, ev_addI, ev_lenT, List.map_cons, List.map_nil, List.length_cons, List.length_nil, List.cons_append, List.nil_append, List.append_nil, List.getElem?_cons_zero, List.getElem?_cons_succ, List.set_cons_zero, List.set_cons_succ, List.replicate_succ, List.replicate_zero, Nat.reduceAdd, Nat.reduceSub, Nat.reduceEqDiff, reduceIte, Bool.true_eq_false, Bool.false_eq_true, if_true, if_false, isi_tup, Bool.not_true, eqN, e, Bool.not_false]
            congr 2
            unfold stateD
            split
            · rename_i q
              cases q
              exact absurd rfl hl2
            · rfl
        | _ =>
          simp only [m_is_state_of, b_is_state_of, ev_var, ev_c, ev_un, ev_bin, ev_anil, ev_acons, ev_fn, ev_tof, ev_tob, ev_tand, ev_tor, ev_tnot, ev_and, ev_or, ev_not, ev_if, ev_chain, ev_true, ev_slice, ev_onone, ev_osome, ev_iseq, ev_irng, ev_ienum, ev_ibin, ev_lc, ev_skip, ev_never, ev_seq, ev_ret, ev_sif, ev_set, ev_expr, ev_asg, ev_par, ev_for, ev_fld, ev_gn, ev_gsnil, ev_gscons, ev_gt, ev_mkfn, ev_bok, ev_berr, ev_bfail, ev_tok, ev_hok, ev_ert, ev_enx, ev_wn, ev_wc, ev_e0, ev_sseq, ev_senum, ev_szip, ev_sltup, ev_ltI, ev_leI, ev_gtI, ev_geI, ev_subI, ev_addI, ev_lenT, List.map_cons, List.map_nil, List.length_cons, List.length_nil, List.cons_append, List.nil_append, List.append_nil, List.getElem?_cons_zero, List.getElem?_cons_succ, List.set_cons_zero, List.set_cons_succ, List.replicate_succ, List.replicate_zero, Nat.reduceAdd, Nat.reduceSub, Nat.reduceEqDiff, reduceIte, Bool.true_eq_false, Bool.false_eq_true, if_true, if_false, isi_tupD (dk_kn hk)]
          rfl
      · cases h'

def b_want_state : SM := (sIf (tNot (tOf (eFn s_is_state_of (aCons (eVar 0) (aCons (eVar 1) aNil))))) sNever sSkip)
def m_want_state : Fm := mkFn 2 2 b_want_state
def s_want_state : Fm := obs 2 fun ds st => match ds with
  | [bk, d] => match bookD st bk with
    | some (ws, rs) => if dk st d = true ∧ smallD d = true ∧ ws.all isI = true ∧ stateD ws rs.length d = true then some .non else none
    | none => none
  | _ => none
theorem a_want_state : Arity 2 s_want_state := obs_ar
theorem want_state_of {d bk : D} {st : Sto} {ws rs : List D} (hb : bookD st bk = some (ws, rs)) (h : dk st d = true) (hs : smallD d = true) (hw : ws.all isI = true) (ht : stateD ws rs.length d = true) : s_want_state [bk, d] st = .ok .non st := by
  refine obs_ok rfl ?_
  show (match bookD st bk with | some (ws, rs) => if dk st d = true ∧ smallD d = true ∧ ws.all isI = true ∧ stateD ws rs.length d = true then some D.non else none | none => none) = _
  rw [hb]
  exact if_pos ⟨h, hs, hw, ht⟩
theorem t_want_state : Tells m_want_state s_want_state := .obs fun ds st d g b hl h => by
  match ds, hl, h with
  | [bk, x], _, h =>
    have h' : (match bookD st bk with | some (ws, rs) => if dk st x = true ∧ smallD x = true ∧ ws.all isI = true ∧ stateD ws rs.length x = true then some D.non else none | none => none) = some d := h
    cases hb : bookD st bk with
    | none => rw [hb] at h'; cases h'
    | some q =>
      obtain ⟨ws, rs⟩ := q
      rw [hb] at h'
      simp only at h'
      split at h'
      · rename_i hk
        cases h'
        refine ⟨by simp only [Bnd], [], ?_⟩
        simp only [m_want_state, b_want_state, ev_var, ev_c, ev_un, ev_bin, ev_anil, ev_acons, ev_fn, ev_tof, ev_tob, ev_tand, ev_tor, ev_tnot, ev_and, ev_or, ev_not, ev_if, ev_chain, ev_true, ev_slice, ev_onone, ev_osome, ev_iseq, ev_irng, ev_ienum, ev_ibin, ev_lc, ev_skip, ev_never, ev_seq, ev_ret, ev_sif, ev_set, ev_expr, ev_asg, ev_par, ev_for, ev_fld, ev_gn, ev_gsnil, ev_gscons, ev_gt, ev_mkfn, ev_bok, ev_berr, ev_bfail, ev_tok, ev_hok, ev_ert, ev_enx, ev_wn, ev_wc, ev_e0, ev_sseq, ev_senum, ev_szip, ev_sltup, ev_ltI, ev_leI, ev_gtI, ev_geI, ev_subI, ev_addI, ev_lenT, List.map_cons, List.map_nil, List.length_cons, List.length_nil, List.cons_append, List.nil_append, List.append_nil, List.getElem?_cons_zero, List.getElem?_cons_succ, List.set_cons_zero, List.set_cons_succ, List.replicate_succ, List.replicate_zero, Nat.reduceAdd, Nat.reduceSub, Nat.reduceEqDiff, reduceIte, Bool.true_eq_false, Bool.false_eq_true, if_true, if_false, state_of hb hk.1 hk.2.1 hk.2.2.1, hk.2.2.2, Bool.not_true]
      · cases h'

def b_want_rule : SM := (sIf (tNot (tOf (eFn s_is_below (aCons (eVar 1) (aCons (eFn fLen (aCons (eUn (dFld "Book" "rules") (eVar 0)) aNil)) aNil))))) sNever sSkip)
def m_want_rule : Fm := mkFn 2 2 b_want_rule
def s_want_rule : Fm := obs 2 fun ds st => match ds with
  | [bk, d] => match bookD st bk with
    | some (_, rs) => if kn st d = true ∧ withinD 0 (rs.length - 1) d = true then some .non else none
    | none => none
  | _ => none
theorem a_want_rule : Arity 2 s_want_rule := obs_ar
theorem want_rule_of {d bk : D} {st : Sto} {ws rs : List D} (hb : bookD st bk = some (ws, rs)) (h : kn st d = true) (ht : withinD 0 (rs.length - 1) d = true) : s_want_rule [bk, d] st = .ok .non st := by
  refine obs_ok rfl ?_
  show (match bookD st bk with | some (_, rs) => if kn st d = true ∧ withinD 0 (rs.length - 1) d = true then some D.non else none | none => none) = _
  rw [hb]
  exact if_pos ⟨h, ht⟩
theorem t_want_rule : Tells m_want_rule s_want_rule := .obs fun ds st d g b hl h => by
  match ds, hl, h with
  | [bk, x], _, h =>
    have h' : (match bookD st bk with | some (_, rs) => if kn st x = true ∧ withinD 0 (rs.length - 1) x = true then some D.non else none | none => none) = some d := h
    cases hb : bookD st bk with
    | none => rw [hb] at h'; cases h'
    | some q =>
      obtain ⟨ws, rs⟩ := q
      rw [hb] at h'
      simp only at h'
      split at h'
      · rename_i hk
        cases h'
        refine ⟨by simp only [Bnd], [], ?_⟩
        simp only [m_want_rule, b_want_rule, ev_var, ev_c, ev_un, ev_bin, ev_anil, ev_acons, ev_fn, ev_tof, ev_tob, ev_tand, ev_tor, ev_tnot, ev_and, ev_or, ev_not, ev_if, ev_chain, ev_true, ev_slice, ev_onone, ev_osome, ev_iseq, ev_irng, ev_ienum, ev_ibin, ev_lc, ev_skip, ev_never, ev_seq, ev_ret, ev_sif, ev_set, ev_expr, ev_asg, ev_par, ev_for, ev_fld, ev_gn, ev_gsnil, ev_gscons, ev_gt, ev_mkfn, ev_bok, ev_berr, ev_bfail, ev_tok, ev_hok, ev_ert, ev_enx, ev_wn, ev_wc, ev_e0, ev_sseq, ev_senum, ev_szip, ev_sltup, ev_ltI, ev_leI, ev_gtI, ev_geI, ev_subI, ev_addI, ev_lenT, List.map_cons, List.map_nil, List.length_cons, List.length_nil, List.cons_append, List.nil_append, List.append_nil, List.getElem?_cons_zero, List.getElem?_cons_succ, List.set_cons_zero, List.set_cons_succ, List.replicate_succ, List.replicate_zero, Nat.reduceAdd, Nat.reduceSub, Nat.reduceEqDiff, reduceIte, Bool.true_eq_false, Bool.false_eq_true, if_true, if_false, book_rules hb, below_of hk.1, hk.2, Bool.not_true]
      · cases h'

def b_is_row : SM := (sRet (eAnd (eUn (dIsi "tuple") (eVar 0)) (eBin dLe (eFn fLen (aCons (eVar 0) aNil)) (eVar 1))))
def m_is_row : Fm := mkFn 2 2 b_is_row
def s_is_row : Fm := obs 2 fun ds st => match ds with
  | [d, .int n] => if kn st d = true then some (.bl (rowI n d)) else none
  | _ => none
theorem a_is_row : Arity 2 s_is_row := obs_ar
theorem row_of {d : D} {st : Sto} {n : Nat} (h : kn st d = true) : s_is_row [d, .int n] st = .ok (.bl (rowD n d)) st := by
  refine obs_ok rfl ?_
  show (if kn st d = true then _ else _) = _
  rw [if_pos h]
  cases d with
  | tup xs =>
    show some (D.bl (decide ((xs.length : Int) ≤ (n : Int)))) = some (D.bl (decide (xs.length ≤ n)))
    rw [show decide ((xs.length : Int) ≤ (n : Int)) = decide (xs.length ≤ n) from decide_eq_decide.mpr (by omega)]
  | _ => rfl
theorem t_is_row : Tells m_is_row s_is_row := .obs fun ds st d g b hl h => by
  match ds, hl, h with
  | [x, .int n], _, h =>
    have h' : (if kn st x = true then some (D.bl (rowI n x)) else none) = some d := h
    split at h'
    · rename_i hk
      cases h'
      refine ⟨by simp only [Bnd], [], ?_⟩
      cases x with
      | tup xs => simp only [m_is_row, b_is_row, ev_var, ev_c, ev_un, ev_bin, ev_anil, ev_acons, ev_fn, ev_tof, ev_tob, ev_tand, ev_tor, ev_tnot, ev_and, ev_or, ev_not, ev_if, ev_chain, ev_true, ev_slice, ev_onone, ev_osome, ev_iseq, ev_irng, ev_ienum, ev_ibin, ev_lc, ev_skip, ev_never, ev_seq, ev_ret, ev_sif, ev_set, ev_expr, ev_asg, ev_par, ev_for, ev_fld, ev_gn, ev_gsnil, ev_gscons, ev_gt, ev_mkfn, ev_bok, ev_berr, ev_bfail, ev_tok, ev_hok, ev_ert, ev_enx, ev_wn, ev_wc, ev_e0, ev_sseq, ev_senum, ev_szip, ev_sltup, ev_ltI, ev_leI, ev_gtI, ev_geI, ev_subI, ev_addI, ev_lenT, List.map_cons, List.map_nil, List.length_cons, List.length_nil, List.cons_append, List.nil_append, List.append_nil, List.getElem?_cons_zero, List.getElem?_cons_succ, List.set_cons_zero, List.set_cons_succ, List.replicate_succ, List.replicate_zero, Nat.reduceAdd, Nat.reduceSub, Nat.reduceEqDiff, reduceIte, Bool.true_eq_false, Bool.false_eq_true, if_true, if_false, isi_tup, rowI]
      | _ =>
        simp only [m_is_row, b_is_row, ev_var, ev_c, ev_un, ev_bin, ev_anil, ev_acons, ev_fn, ev_tof, ev_tob, ev_tand, ev_tor, ev_tnot, ev_and, ev_or, ev_not, ev_if, ev_chain, ev_true, ev_slice, ev_onone, ev_osome, ev_iseq, ev_irng, ev_ienum, ev_ibin, ev_lc, ev_skip, ev_never, ev_seq, ev_ret, ev_sif, ev_set, ev_expr, ev_asg, ev_par, ev_for, ev_fld, ev_gn, ev_gsnil, ev_gscons, ev_gt, ev_mkfn, ev_bok, ev_berr, ev_bfail, ev_tok, ev_hok, ev_ert, ev_enx, ev_wn, ev_wc, ev_e0, ev_sseq, ev_senum, ev_szip, ev_sltup, ev_ltI, ev_leI, ev_gtI, ev_geI, ev_subI, ev_addI, ev_lenT, List.map_cons, List.map_nil, List.length_cons, List.length_nil, List.cons_append, List.nil_append, List.append_nil, List.getElem?_cons_zero, List.getElem?_cons_succ, List.set_cons_zero, List.set_cons_succ, List.replicate_succ, List.replicate_zero, Nat.reduceAdd, Nat.reduceSub, Nat.reduceEqDiff, reduceIte, Bool.true_eq_false, Bool.false_eq_true, if_true, if_false, isi_tupD hk]
        rfl
    · cases h'

def b_is_moment : SM := (sSeq (sIf (tOr (tNot (tOf (eUn (dIsi "tuple") (eVar 1)))) (tOf (eBin (dEq true) (eFn fLen (aCons (eVar 1) aNil)) (eC (.int 2))))) (sRet (eC (.bl false))) sSkip)
    (sRet (eAnd (eBin (dIn false) (eBin dIx (eVar 1) (eC (.int 0))) (eFn mkTup (aCons (eC (.str "hushed")) (aCons (eC (.str "awake")) aNil)))) (eFn s_is_below (aCons (eBin dIx (eVar 1) (eC (.int 1))) (aCons (eVar 0) aNil))))))
def m_is_moment : Fm := mkFn 2 2 b_is_moment
def s_is_moment : Fm := obs 2 fun ds st => match ds with
  | [.int n, d] => if dk st d = true ∧ wordsD d = true then some (.bl (momentD n d)) else none
  | _ => none
theorem a_is_moment : Arity 2 s_is_moment := obs_ar
theorem moment_of {d : D} {st : Sto} {n : Int} (h : dk st d = true) (hw : wordsD d = true) : s_is_moment [.int n, d] st = .ok (.bl (momentD n d)) st := obs_ok rfl (if_pos ⟨h, hw⟩)
theorem t_is_moment : Tells m_is_moment s_is_moment := .obs fun ds st d g b hl h => by
  match ds, hl, h with
  | [.int n, x], _, h =>
    have h' : (if dk st x = true ∧ wordsD x = true then some (D.bl (momentD n x)) else none) = some d := h
    split at h'
    · rename_i hk
      cases h'
      obtain ⟨hk, hw⟩ := hk
      refine ⟨by simp only [Bnd], [], ?_⟩
      cases x with
      | tup xs =>
        have hx := dk_tup hk
        by_cases hl2 : xs.length = 2
        · obtain ⟨x, y, rfl⟩ := len2 hl2
          have hin := in_words (st := st) (d := x) ["hushed", "awake"] hw (by decide +kernel)
          simp only [List.map_cons, List.map_nil] at hin
          simp only [m_is_moment, b_is_moment, ev_var, ev_c, ev_un, ev_bin, ev_anil, ev_acons, ev_fn, ev_tof, ev_tob, ev_tand, ev_tor, ev_tnot, ev_and, ev_or, ev_not, ev_if, ev_chain, ev_true, ev_slice, ev_onone, ev_osome, ev_iseq, ev_irng, ev_ienum, ev_ibin, ev_lc, ev_skip, ev_never, ev_seq, ev_ret, ev_sif, ev_set, ev_expr, ev_asg, ev_par, ev_for, ev_fld, ev_gn, ev_gsnil, ev_gscons, ev_gt, ev_mkfn, ev_bok, ev_berr, ev_bfail, ev_tok, ev_hok, ev_ert, ev_enx, ev_wn, ev_wc, ev_e0, ev_sseq, ev_senum, ev_szip, ev_sltup, ev_ltI, ev_leI, ev_gtI, ev_geI, ev_subI, ev_addI, ev_lenT, List.map_cons, List.map_nil, List.length_cons, List.length_nil, List.cons_append, List.nil_append, List.append_nil, List.getElem?_cons_zero, List.getElem?_cons_succ, List.set_cons_zero, List.set_cons_succ, List.replicate_succ, List.replicate_zero, Nat.reduceAdd, Nat.reduceSub, Nat.reduceEqDiff, reduceIte, Bool.true_eq_false, Bool.false_eq_true, if_true, if_false, isi_tup, Bool.not_true, Int.cast_ofNat_Int, eqI, beq_self_eq_true, dIx, seqOf, atI2_0, atI2_1, mk2, hin]
          cases hv : wordIn ["hushed", "awake"] x with
          | false => simp only [ev_var, ev_c, ev_un, ev_bin, ev_anil, ev_acons, ev_fn, ev_tof, ev_tob, ev_tand, ev_tor, ev_tnot, ev_and, ev_or, ev_not, ev_if, ev_chain, ev_true, ev_slice, ev_onone, ev_osome, ev_iseq, ev_irng, ev_ienum, ev_ibin, ev_lc, ev_skip, ev_never, ev_seq, ev_ret, ev_sif, ev_set, ev_expr, ev_asg, ev_par, ev_for, ev_fld, ev_gn, ev_gsnil, ev_gscons, ev_gt, ev_mkfn, ev_bok, ev_berr, ev_bfail, ev_tok, ev_hok, ev_ert, ev_enx, ev_wn, ev_wc, ev_e0, ev_sseq, ev_senum, ev_szip, ev_sltup, ev_ltI, ev_leI, ev_gtI, ev_geI, ev_subI, ev_addI, ev_lenT, List.map_cons, List.map_nil, List.length_cons, List.length_nil, List.cons_append, List.nil_append, List.append_nil, List.getElem?_cons_zero, List.getElem?_cons_succ, List.set_cons_zero, List.set_cons_succ, List.replicate_succ, List.replicate_zero, Nat.reduceAdd, Nat.reduceSub, Nat.reduceEqDiff, reduceIte, Bool.true_eq_false, Bool.false_eq_true, if_true, if_false, momentD, hv, Bool.false_and]
          | true => simp only [ev_var, ev_c, ev_un, ev_bin, ev_anil, ev_acons, ev_fn, ev_tof, ev_tob, ev_tand, ev_tor, ev_tnot, ev_and, ev_or, ev_not, ev_if, ev_chain, ev_true, ev_slice, ev_onone, ev_osome, ev_iseq, ev_irng, ev_ienum, ev_ibin, ev_lc, ev_skip, ev_never, ev_seq, ev_ret, ev_sif, ev_set, ev_expr, ev_asg, ev_par, ev_for, ev_fld, ev_gn, ev_gsnil, ev_gscons, ev_gt, ev_mkfn, ev_bok, ev_berr, ev_bfail, ev_tok, ev_hok, ev_ert, ev_enx, ev_wn, ev_wc, ev_e0, ev_sseq, ev_senum, ev_szip, ev_sltup, ev_ltI, ev_leI, ev_gtI, ev_geI, ev_subI, ev_addI, ev_lenT, List.map_cons, List.map_nil, List.length_cons, List.length_nil, List.cons_append, List.nil_append, List.append_nil, List.getElem?_cons_zero, List.getElem?_cons_succ, List.set_cons_zero, List.set_cons_succ, List.replicate_succ, List.replicate_zero, Nat.reduceAdd, Nat.reduceSub, Nat.reduceEqDiff, reduceIte, Bool.true_eq_false, Bool.false_eq_true, if_true, if_false, dIx, seqOf, atI2_1, below_of (dk_kn (hx y (by simp))), momentD, hv, Bool.true_and]
        · have e : decide ((xs.length : Int) = 2) = false := decide_eq_false (by omega)
          simp only [m_is_moment, b_is_moment, ev_var, ev_c, ev_un, ev_bin, ev_anil, ev_acons, ev_fn, ev_tof, ev_tob, ev_tand, ev_tor, ev_tnot, ev_and, ev_or, ev_not, ev_if, ev_chain, ev_true, ev_slice, ev_onone, ev_osome, ev_iseq, ev_irng, ev_ienum, ev_ibin, ev_lc, ev_skip, ev_never, ev_seq, ev_ret, ev_sif, ev_set, ev_expr, ev_asg, ev_par, ev_for, ev_fld, ev_gn, ev_gsnil, ev_gscons, ev_gt, ev_mkfn, ev_bok, ev_berr, ev_bfail, ev_tok, ev_hok, ev_ert, ev_enx, ev_wn, ev_wc, ev_e0, ev_sseq, ev_senum, ev_szip, ev_sltup, ev_ltI, ev_leI, ev_gtI, ev_geI, ev_subI, ev_addI, ev_lenT, List.map_cons, List.map_nil, List.length_cons, List.length_nil, List.cons_append, List.nil_append, List.append_nil, List.getElem?_cons_zero, List.getElem?_cons_succ, List.set_cons_zero, List.set_cons_succ, List.replicate_succ, List.replicate_zero, Nat.reduceAdd, Nat.reduceSub, Nat.reduceEqDiff, reduceIte, Bool.true_eq_false, Bool.false_eq_true, if_true, if_false, isi_tup, Bool.not_true, eqN, e, Bool.not_false]
          congr 2
          unfold momentD
          split
          · rename_i q
            cases q
            exact absurd rfl hl2
          · rfl
      | _ =>
        simp only [m_is_moment, b_is_moment, ev_var, ev_c, ev_un, ev_bin, ev_anil, ev_acons, ev_fn, ev_tof, ev_tob, ev_tand, ev_tor, ev_tnot, ev_and, ev_or, ev_not, ev_if, ev_chain, ev_true, ev_slice, ev_onone, ev_osome, ev_iseq, ev_irng, ev_ienum, ev_ibin, ev_lc, ev_skip, ev_never, ev_seq, ev_ret, ev_sif, ev_set, ev_expr, ev_asg, ev_par, ev_for, ev_fld, ev_gn, ev_gsnil, ev_gscons, ev_gt, ev_mkfn, ev_bok, ev_berr, ev_bfail, ev_tok, ev_hok, ev_ert, ev_enx, ev_wn, ev_wc, ev_e0, ev_sseq, ev_senum, ev_szip, ev_sltup, ev_ltI, ev_leI, ev_gtI, ev_geI, ev_subI, ev_addI, ev_lenT, List.map_cons, List.map_nil, List.length_cons, List.length_nil, List.cons_append, List.nil_append, List.append_nil, List.getElem?_cons_zero, List.getElem?_cons_succ, List.set_cons_zero, List.set_cons_succ, List.replicate_succ, List.replicate_zero, Nat.reduceAdd, Nat.reduceSub, Nat.reduceEqDiff, reduceIte, Bool.true_eq_false, Bool.false_eq_true, if_true, if_false, isi_tupD (dk_kn hk)]
        rfl
    · cases h'

def b_is_spot : SM := (sSeq (sIf (tOr (tNot (tOf (eUn (dIsi "tuple") (eVar 1)))) (tOf (eBin (dEq true) (eFn fLen (aCons (eVar 1) aNil)) (eC (.int 3))))) (sRet (eC (.bl false))) sSkip)
    (sSeq (sAsg (eVar 1) (gT 3 (gsCons (gN 3) (gsCons (gN 4) (gsCons (gN 5) gsNil)))))
    (sRet (eAnd (eBin (dIn false) (eVar 3) (eVar 2)) (eAnd (eFn s_is_below (aCons (eVar 4) (aCons (eFn fLen (aCons (eVar 0) aNil)) aNil))) (eFn s_is_below (aCons (eVar 5) (aCons (eBin dIx (eVar 0) (eVar 4)) aNil))))))))
def m_is_spot : Fm := mkFn 3 6 b_is_spot
def s_is_spot : Fm := obs 3 fun ds st => match ds with
  | [.tup ws, d, .tup wd] => match strsOf wd with
    | some words => if dk st d = true ∧ wordsD d = true ∧ ws.all isI = true ∧ PySem.SeqAt.shaped (.tuple (words.map PyData.str)) = true then some (.bl (spotD ws words d)) else none
    | none => none
  | _ => none
theorem a_is_spot : Arity 3 s_is_spot := obs_ar
theorem spot_of {d : D} {st : Sto} {ws wd : List D} {words : List Str} (hs : strsOf wd = some words) (h : dk st d = true) (hd : wordsD d = true) (hw : ws.all isI = true) (hq : PySem.SeqAt.shaped (.tuple (words.map PyData.str)) = true) : s_is_spot [.tup ws, d, .tup wd] st = .ok (.bl (spotD ws words d)) st := by
  refine obs_ok rfl ?_
  show (match strsOf wd with | some words => if dk st d = true ∧ wordsD d = true ∧ ws.all isI = true ∧ PySem.SeqAt.shaped (.tuple (words.map PyData.str)) = true then some (D.bl (spotD ws words d)) else none | none => none) = _
  rw [hs]
  exact if_pos ⟨h, hd, hw, hq⟩
theorem t_is_spot : Tells m_is_spot s_is_spot := .obs fun ds st d g b hl h => by
  match ds, hl, h with
  | [.tup ws, x, .tup wd], _, h =>
    have h' : (match strsOf wd with | some words => if dk st x = true ∧ wordsD x = true ∧ ws.all isI = true ∧ PySem.SeqAt.shaped (.tuple (words.map PyData.str)) = true then some (D.bl (spotD ws words x)) else none | none => none) = some d := h
    cases hs : strsOf wd with
    | none => rw [hs] at h'; cases h'
    | some words =>
      rw [hs] at h'
      simp only at h'
      split at h'
      · rename_i hk
        cases h'
        obtain ⟨hk, hd, hw, hq⟩ := hk
        have ew := strsOf_eq hs
        subst ew
        refine ⟨by simp only [Bnd], [], ?_⟩
        cases x with
        | tup xs =>
          have hx := dk_tup hk
          by_cases hl3 : xs.length = 3
          · obtain ⟨x, y, z, rfl⟩ := len3 hl3
            have hin := in_words (st := st) (d := x) words hd hq
            simp only [m_is_spot, b_is_spot, ev_var, ev_c, ev_un, ev_bin, ev_anil, ev_acons, ev_fn, ev_tof, ev_tob, ev_tand, ev_tor, ev_tnot, ev_and, ev_or, ev_not, ev_if, ev_chain, ev_true, ev_slice, ev_onone, ev_osome, ev_iseq, ev_irng, ev_ienum, ev_ibin, ev_lc, ev_skip, ev_never, ev_seq, ev_ret, ev_sif, ev_set, ev_expr, ev_asg, ev_par, ev_for, ev_fld, ev_gn, ev_gsnil, ev_gscons, ev_gt, ev_mkfn, ev_bok, ev_berr, ev_bfail, ev_tok, ev_hok, ev_ert, ev_enx, ev_wn, ev_wc, ev_e0, ev_sseq, ev_senum, ev_szip, ev_sltup, ev_ltI, ev_leI, ev_gtI, ev_geI, ev_subI, ev_addI, ev_lenT, List.map_cons, List.map_nil, List.length_cons, List.length_nil, List.cons_append, List.nil_append, List.append_nil, List.getElem?_cons_zero, List.getElem?_cons_succ, List.set_cons_zero, List.set_cons_succ, List.replicate_succ, List.replicate_zero, Nat.reduceAdd, Nat.reduceSub, Nat.reduceEqDiff, reduceIte, Bool.true_eq_false, Bool.false_eq_true, if_true, if_false, isi_tup, Bool.not_true, Int.cast_ofNat_Int, eqI, beq_self_eq_true, hin]
            cases hv : wordIn words x with
            | false => simp only [ev_var, ev_c, ev_un, ev_bin, ev_anil, ev_acons, ev_fn, ev_tof, ev_tob, ev_tand, ev_tor, ev_tnot, ev_and, ev_or, ev_not, ev_if, ev_chain, ev_true, ev_slice, ev_onone, ev_osome, ev_iseq, ev_irng, ev_ienum, ev_ibin, ev_lc, ev_skip, ev_never, ev_seq, ev_ret, ev_sif, ev_set, ev_expr, ev_asg, ev_par, ev_for, ev_fld, ev_gn, ev_gsnil, ev_gscons, ev_gt, ev_mkfn, ev_bok, ev_berr, ev_bfail, ev_tok, ev_hok, ev_ert, ev_enx, ev_wn, ev_wc, ev_e0, ev_sseq, ev_senum, ev_szip, ev_sltup, ev_ltI, ev_leI, ev_gtI, ev_geI, ev_subI, ev_addI, ev_lenT, List.map_cons, List.map_nil, List.length_cons, List.length_nil, List.cons_append, List.nil_append, List.append_nil, List.getElem?_cons_zero, List.getElem?_cons_succ, List.set_cons_zero, List.set_cons_succ, List.replicate_succ, List.replicate_zero, Nat.reduceAdd, Nat.reduceSub, Nat.reduceEqDiff, reduceIte, Bool.true_eq_false, Bool.false_eq_true, if_true, if_false, spotD, hv, Bool.false_and]
            | true =>
              simp only [ev_var, ev_c, ev_un, ev_bin, ev_anil, ev_acons, ev_fn, ev_tof, ev_tob, ev_tand, ev_tor, ev_tnot, ev_and, ev_or, ev_not, ev_if, ev_chain, ev_true, ev_slice, ev_onone, ev_osome, ev_iseq, ev_irng, ev_ienum, ev_ibin, ev_lc, ev_skip, ev_never, ev_seq, ev_ret, ev_sif, ev_set, ev_expr, ev_asg, ev_par, ev_for, ev_fld, ev_gn, ev_gsnil, ev_gscons, ev_gt, ev_mkfn, ev_bok, ev_berr, ev_bfail, ev_tok, ev_hok, ev_ert, ev_enx, ev_wn, ev_wc, ev_e0, ev_sseq, ev_senum, ev_szip, ev_sltup, ev_ltI, ev_leI, ev_gtI, ev_geI, ev_subI, ev_addI, ev_lenT, List.map_cons, List.map_nil, List.length_cons, List.length_nil, List.cons_append, List.nil_append, List.append_nil, List.getElem?_cons_zero, List.getElem?_cons_succ, List.set_cons_zero, List.set_cons_succ, List.replicate_succ, List.replicate_zero, Nat.reduceAdd, Nat.reduceSub, Nat.reduceEqDiff, reduceIte, Bool.true_eq_false, Bool.false_eq_true, if_true, if_false, below_of (dk_kn (hx y (by simp)))]
              cases hy : withinD 0 (ws.length - 1) y with
              | false => simp only [ev_var, ev_c, ev_un, ev_bin, ev_anil, ev_acons, ev_fn, ev_tof, ev_tob, ev_tand, ev_tor, ev_tnot, ev_and, ev_or, ev_not, ev_if, ev_chain, ev_true, ev_slice, ev_onone, ev_osome, ev_iseq, ev_irng, ev_ienum, ev_ibin, ev_lc, ev_skip, ev_never, ev_seq, ev_ret, ev_sif, ev_set, ev_expr, ev_asg, ev_par, ev_for, ev_fld, ev_gn, ev_gsnil, ev_gscons, ev_gt, ev_mkfn, ev_bok, ev_berr, ev_bfail, ev_tok, ev_hok, ev_ert, ev_enx, ev_wn, ev_wc, ev_e0, ev_sseq, ev_senum, ev_szip, ev_sltup, ev_ltI, ev_leI, ev_gtI, ev_geI, ev_subI, ev_addI, ev_lenT, List.map_cons, List.map_nil, List.length_cons, List.length_nil, List.cons_append, List.nil_append, List.append_nil, List.getElem?_cons_zero, List.getElem?_cons_succ, List.set_cons_zero, List.set_cons_succ, List.replicate_succ, List.replicate_zero, Nat.reduceAdd, Nat.reduceSub, Nat.reduceEqDiff, reduceIte, Bool.true_eq_false, Bool.false_eq_true, if_true, if_false, spotD, hv, hy, Bool.false_and, Bool.true_and]
              | true =>
                obtain ⟨j, rfl, hj⟩ := within_ix hy
                have hz := isI_eq (List.all_eq_true.mp hw ws[j] (List.getElem_mem hj))
                simp only [ev_var, ev_c, ev_un, ev_bin, ev_anil, ev_acons, ev_fn, ev_tof, ev_tob, ev_tand, ev_tor, ev_tnot, ev_and, ev_or, ev_not, ev_if, ev_chain, ev_true, ev_slice, ev_onone, ev_osome, ev_iseq, ev_irng, ev_ienum, ev_ibin, ev_lc, ev_skip, ev_never, ev_seq, ev_ret, ev_sif, ev_set, ev_expr, ev_asg, ev_par, ev_for, ev_fld, ev_gn, ev_gsnil, ev_gscons, ev_gt, ev_mkfn, ev_bok, ev_berr, ev_bfail, ev_tok, ev_hok, ev_ert, ev_enx, ev_wn, ev_wc, ev_e0, ev_sseq, ev_senum, ev_szip, ev_sltup, ev_ltI, ev_leI, ev_gtI, ev_geI, ev_subI, ev_addI, ev_lenT, List.map_cons, List.map_nil, List.length_cons, List.length_nil, List.cons_append, List.nil_append, List.append_nil, List.getElem?_cons_zero, List.getElem?_cons_succ, List.set_cons_zero, List.set_cons_succ, List.replicate_succ, List.replicate_zero, Nat.reduceAdd, Nat.reduceSub, Nat.reduceEqDiff, reduceIte, Bool.true_eq_false, Bool.false_eq_true, if_true, if_false, dIx, seqOf, L2.atI_nat (List.getElem?_eq_getElem hj)]
                rw [hz]
                simp only [ev_var, ev_c, ev_un, ev_bin, ev_anil, ev_acons, ev_fn, ev_tof, ev_tob, ev_tand, ev_tor, ev_tnot, ev_and, ev_or, ev_not, ev_if, ev_chain, ev_true, ev_slice, ev_onone, ev_osome, ev_iseq, ev_irng, ev_ienum, ev_ibin, ev_lc, ev_skip, ev_never, ev_seq, ev_ret, ev_sif, ev_set, ev_expr, ev_asg, ev_par, ev_for, ev_fld, ev_gn, ev_gsnil, ev_gscons, ev_gt, ev_mkfn, ev_bok, ev_berr, ev_bfail, ev_tok, ev_hok, ev_ert, ev_enx, ev_wn, ev_wc, ev_e0, ev_sseq, ev_senum, ev_szip, ev_sltup, ev_ltI, ev_leI, ev_gtI, ev_geI, ev_subI, ev_addI, ev_lenT, List.map_cons, List.map_nil, List.length_cons, List.length_nil, List.cons_append, List.nil_append, List.append_nil, List.getElem?_cons_zero, List.getElem?_cons_succ, List.set_cons_zero, List.set_cons_succ, List.replicate_succ, List.replicate_zero, Nat.reduceAdd, Nat.reduceSub, Nat.reduceEqDiff, reduceIte, Bool.true_eq_false, Bool.false_eq_true, if_true, if_false, below_of (dk_kn (hx z (by simp))), spotD, hv, hy, Bool.true_and, wI, Int.toNat_natCast, List.getD, List.getElem?_eq_getElem hj, Option.getD_some]
          · have e : decide ((xs.length : Int) = 3) = false := decide_eq_false (by omega)
            simp only [m_is_spot, b_is_spot, ev_var, ev_c, ev_un, ev_bin, ev_anil, ev_acons, ev_fn, ev_tof, ev_tob, ev_tand, ev_tor, ev_tnot, ev_and, ev_or, ev_not, ev_if, ev_chain, ev_true, ev_slice, ev_onone, ev_osome, ev_iseq, ev_irng, ev_ienum, ev_ibin, ev_lc, ev_skip, ev_never, ev_seq, ev_ret, ev_sif, ev_set, ev_expr, ev_asg, ev_par, ev_for, ev_fld, ev_gn, ev_gsnil, ev_gscons, ev_gt, ev_mkfn, ev_bok, ev_berr, ev_bfail, ev_tok, ev_hok, ev_ert, ev_enx, ev_wn, ev_wc, ev_e0, ev_sseq, ev_senum, ev_szip, ev_sltup, ev_ltI, ev_leI, ev_gtI, ev_geI, ev_subI, ev_addI, ev_lenT, List.map_cons, List.map_nil, List.length_cons, List.length_nil, List.cons_append, List.nil_append, List.append_nil, List.getElem?_cons_zero, List.getElem?_cons_succ, List.set_cons_zero, List.set_cons_succ, List.replicate_succ, List.replicate_zero, Nat.reduceAdd, Nat.reduceSub, Nat.reduceEqDiff, reduceIte, Bool.true_eq_false, Bool.false_eq_true, if_true, if_false, isi_tup, Bool.not_true, eqN, e, Bool.not_false]
            congr 2
            unfold spotD
            split
            · rename_i q
              cases q
              exact absurd rfl hl3
            · rfl
        | _ =>
          simp only [m_is_spot, b_is_spot, ev_var, ev_c, ev_un, ev_bin, ev_anil, ev_acons, ev_fn, ev_tof, ev_tob, ev_tand, ev_tor, ev_tnot, ev_and, ev_or, ev_not, ev_if, ev_chain, ev_true, ev_slice, ev_onone, ev_osome, ev_iseq, ev_irng, ev_ienum, ev_ibin, ev_lc, ev_skip, ev_never, ev_seq, ev_ret, ev_sif, ev_set, ev_expr, ev_asg, ev_par, ev_for, ev_fld, ev_gn, ev_gsnil, ev_gscons, ev_gt, ev_mkfn, ev_bok, ev_berr, ev_bfail, ev_tok, ev_hok, ev_ert, ev_enx, ev_wn, ev_wc, ev_e0, ev_sseq, ev_senum, ev_szip, ev_sltup, ev_ltI, ev_leI, ev_gtI, ev_geI, ev_subI, ev_addI, ev_lenT, List.map_cons, List.map_nil, List.length_cons, List.length_nil, List.cons_append, List.nil_append, List.append_nil, List.getElem?_cons_zero, List.getElem?_cons_succ, List.set_cons_zero, List.set_cons_succ, List.replicate_succ, List.replicate_zero, Nat.reduceAdd, Nat.reduceSub, Nat.reduceEqDiff, reduceIte, Bool.true_eq_false, Bool.false_eq_true, if_true, if_false, isi_tupD (dk_kn hk)]
          rfl
      · cases h'

def b_is_condition : SM := (sRet (eOr (eFn s_is_spot (aCons (eVar 0) (aCons (eVar 2) (aCons (eFn mkTup (aCons (eC (.str "is")) (aCons (eC (.str "not")) (aCons (eC (.str "below")) aNil)))) aNil)))) (eFn s_is_moment (aCons (eVar 1) (aCons (eVar 2) aNil)))))
def m_is_condition : Fm := mkFn 3 3 b_is_condition
def s_is_condition : Fm := obs 3 fun ds st => match ds with
  | [.tup ws, .int n, d] => if dk st d = true ∧ wordsD d = true ∧ ws.all isI = true then some (.bl (condD ws n d)) else none
  | _ => none
theorem a_is_condition : Arity 3 s_is_condition := obs_ar
theorem cond_of {d : D} {st : Sto} {ws : List D} {n : Int} (h : dk st d = true) (hd : wordsD d = true) (hw : ws.all isI = true) : s_is_condition [.tup ws, .int n, d] st = .ok (.bl (condD ws n d)) st := obs_ok rfl (if_pos ⟨h, hd, hw⟩)
theorem t_is_condition : Tells m_is_condition s_is_condition := .obs fun ds st d g b hl h => by
  match ds, hl, h with
  | [.tup ws, .int n, x], _, h =>
    have h' : (if dk st x = true ∧ wordsD x = true ∧ ws.all isI = true then some (D.bl (condD ws n x)) else none) = some d := h
    split at h'
    · rename_i hk
      cases h'
      obtain ⟨hk, hd, hw⟩ := hk
      refine ⟨by simp only [Bnd], [], ?_⟩
      have hsp := spot_of (st := st) (d := x) (ws := ws) (wd := [.str "is", .str "not", .str "below"]) (words := ["is", "not", "below"]) rfl hk hd hw (by decide +kernel)
      simp only [m_is_condition, b_is_condition, ev_var, ev_c, ev_un, ev_bin, ev_anil, ev_acons, ev_fn, ev_tof, ev_tob, ev_tand, ev_tor, ev_tnot, ev_and, ev_or, ev_not, ev_if, ev_chain, ev_true, ev_slice, ev_onone, ev_osome, ev_iseq, ev_irng, ev_ienum, ev_ibin, ev_lc, ev_skip, ev_never, ev_seq, ev_ret, ev_sif, ev_set, ev_expr, ev_asg, ev_par, ev_for, ev_fld, ev_gn, ev_gsnil, ev_gscons, ev_gt, ev_mkfn, ev_bok, ev_berr, ev_bfail, ev_tok, ev_hok, ev_ert, ev_enx, ev_wn, ev_wc, ev_e0, ev_sseq, ev_senum, ev_szip, ev_sltup, ev_ltI, ev_leI, ev_gtI, ev_geI, ev_subI, ev_addI, ev_lenT, List.map_cons, List.map_nil, List.length_cons, List.length_nil, List.cons_append, List.nil_append, List.append_nil, List.getElem?_cons_zero, List.getElem?_cons_succ, List.set_cons_zero, List.set_cons_succ, List.replicate_succ, List.replicate_zero, Nat.reduceAdd, Nat.reduceSub, Nat.reduceEqDiff, reduceIte, Bool.true_eq_false, Bool.false_eq_true, if_true, if_false, mk3, hsp]
      cases hv : spotD ws ["is", "not", "below"] x with
      | true => simp only [ev_var, ev_c, ev_un, ev_bin, ev_anil, ev_acons, ev_fn, ev_tof, ev_tob, ev_tand, ev_tor, ev_tnot, ev_and, ev_or, ev_not, ev_if, ev_chain, ev_true, ev_slice, ev_onone, ev_osome, ev_iseq, ev_irng, ev_ienum, ev_ibin, ev_lc, ev_skip, ev_never, ev_seq, ev_ret, ev_sif, ev_set, ev_expr, ev_asg, ev_par, ev_for, ev_fld, ev_gn, ev_gsnil, ev_gscons, ev_gt, ev_mkfn, ev_bok, ev_berr, ev_bfail, ev_tok, ev_hok, ev_ert, ev_enx, ev_wn, ev_wc, ev_e0, ev_sseq, ev_senum, ev_szip, ev_sltup, ev_ltI, ev_leI, ev_gtI, ev_geI, ev_subI, ev_addI, ev_lenT, List.map_cons, List.map_nil, List.length_cons, List.length_nil, List.cons_append, List.nil_append, List.append_nil, List.getElem?_cons_zero, List.getElem?_cons_succ, List.set_cons_zero, List.set_cons_succ, List.replicate_succ, List.replicate_zero, Nat.reduceAdd, Nat.reduceSub, Nat.reduceEqDiff, reduceIte, Bool.true_eq_false, Bool.false_eq_true, if_true, if_false, condD, hv, Bool.true_or]
      | false => simp only [ev_var, ev_c, ev_un, ev_bin, ev_anil, ev_acons, ev_fn, ev_tof, ev_tob, ev_tand, ev_tor, ev_tnot, ev_and, ev_or, ev_not, ev_if, ev_chain, ev_true, ev_slice, ev_onone, ev_osome, ev_iseq, ev_irng, ev_ienum, ev_ibin, ev_lc, ev_skip, ev_never, ev_seq, ev_ret, ev_sif, ev_set, ev_expr, ev_asg, ev_par, ev_for, ev_fld, ev_gn, ev_gsnil, ev_gscons, ev_gt, ev_mkfn, ev_bok, ev_berr, ev_bfail, ev_tok, ev_hok, ev_ert, ev_enx, ev_wn, ev_wc, ev_e0, ev_sseq, ev_senum, ev_szip, ev_sltup, ev_ltI, ev_leI, ev_gtI, ev_geI, ev_subI, ev_addI, ev_lenT, List.map_cons, List.map_nil, List.length_cons, List.length_nil, List.cons_append, List.nil_append, List.append_nil, List.getElem?_cons_zero, List.getElem?_cons_succ, List.set_cons_zero, List.set_cons_succ, List.replicate_succ, List.replicate_zero, Nat.reduceAdd, Nat.reduceSub, Nat.reduceEqDiff, reduceIte, Bool.true_eq_false, Bool.false_eq_true, if_true, if_false, moment_of hk hd, condD, hv, Bool.false_or]
    · cases h'

def b_is_change : SM := (sRet (eFn s_is_spot (aCons (eVar 0) (aCons (eVar 1) (aCons (eFn mkTup (aCons (eC (.str "put")) (aCons (eC (.str "turn")) aNil))) aNil)))))
def m_is_change : Fm := mkFn 2 2 b_is_change
def s_is_change : Fm := obs 2 fun ds st => match ds with
  | [.tup ws, d] => if dk st d = true ∧ wordsD d = true ∧ ws.all isI = true then some (.bl (changeD ws d)) else none
  | _ => none
theorem a_is_change : Arity 2 s_is_change := obs_ar
theorem change_of {d : D} {st : Sto} {ws : List D} (h : dk st d = true) (hd : wordsD d = true) (hw : ws.all isI = true) : s_is_change [.tup ws, d] st = .ok (.bl (changeD ws d)) st := obs_ok rfl (if_pos ⟨h, hd, hw⟩)
theorem t_is_change : Tells m_is_change s_is_change := .obs fun ds st d g b hl h => by
  match ds, hl, h with
  | [.tup ws, x], _, h =>
    have h' : (if dk st x = true ∧ wordsD x = true ∧ ws.all isI = true then some (D.bl (changeD ws x)) else none) = some d := h
    split at h'
    · rename_i hk
      cases h'
      obtain ⟨hk, hd, hw⟩ := hk
      refine ⟨by simp only [Bnd], [], ?_⟩
      have hsp := spot_of (st := st) (d := x) (ws := ws) (wd := [.str "put", .str "turn"]) (words := ["put", "turn"]) rfl hk hd hw (by decide +kernel)
      simp only [m_is_change, b_is_change, ev_var, ev_c, ev_un, ev_bin, ev_anil, ev_acons, ev_fn, ev_tof, ev_tob, ev_tand, ev_tor, ev_tnot, ev_and, ev_or, ev_not, ev_if, ev_chain, ev_true, ev_slice, ev_onone, ev_osome, ev_iseq, ev_irng, ev_ienum, ev_ibin, ev_lc, ev_skip, ev_never, ev_seq, ev_ret, ev_sif, ev_set, ev_expr, ev_asg, ev_par, ev_for, ev_fld, ev_gn, ev_gsnil, ev_gscons, ev_gt, ev_mkfn, ev_bok, ev_berr, ev_bfail, ev_tok, ev_hok, ev_ert, ev_enx, ev_wn, ev_wc, ev_e0, ev_sseq, ev_senum, ev_szip, ev_sltup, ev_ltI, ev_leI, ev_gtI, ev_geI, ev_subI, ev_addI, ev_lenT, List.map_cons, List.map_nil, List.length_cons, List.length_nil, List.cons_append, List.nil_append, List.append_nil, List.getElem?_cons_zero, List.getElem?_cons_succ, List.set_cons_zero, List.set_cons_succ, List.replicate_succ, List.replicate_zero, Nat.reduceAdd, Nat.reduceSub, Nat.reduceEqDiff, reduceIte, Bool.true_eq_false, Bool.false_eq_true, if_true, if_false, mk2, hsp, changeD]
    · cases h'

def b_is_hush : SM := (sRet (eAnd (eUn (dIsi "tuple") (eVar 0)) (eAnd (eBin (dEq false) (eFn fLen (aCons (eVar 0) aNil)) (eC (.int 2))) (eFn s_is_within (aCons (eBin dIx (eVar 0) (eC (.int 1))) (aCons (eC (.int 1)) (aCons (eC (.int 3)) aNil)))))))
def m_is_hush : Fm := mkFn 1 1 b_is_hush
def s_is_hush : Fm := obs 1 fun ds st => match ds with
  | [d] => if dk st d = true then some (.bl (hushD d)) else none
  | _ => none
theorem a_is_hush : Arity 1 s_is_hush := obs_ar
theorem hush_is {d : D} {st : Sto} (h : dk st d = true) : s_is_hush [d] st = .ok (.bl (hushD d)) st := obs_ok rfl (if_pos h)
theorem t_is_hush : Tells m_is_hush s_is_hush := .obs fun ds st d g b hl h => by
  match ds, hl, h with
  | [x], _, h =>
    have h' : (if dk st x = true then some (D.bl (hushD x)) else none) = some d := h
    split at h'
    · rename_i hk
      cases h'
      refine ⟨by simp only [Bnd], [], ?_⟩
      cases x with
      | tup xs =>
        have hx := dk_tup hk
        by_cases hl : xs.length = 2
        · obtain ⟨x, y, rfl⟩ := len2 hl
          simp only [m_is_hush, b_is_hush, ev_var, ev_c, ev_un, ev_bin, ev_anil, ev_acons, ev_fn, ev_tof, ev_tob, ev_tand, ev_tor, ev_tnot, ev_and, ev_or, ev_not, ev_if, ev_chain, ev_true, ev_slice, ev_onone, ev_osome, ev_iseq, ev_irng, ev_ienum, ev_ibin, ev_lc, ev_skip, ev_never, ev_seq, ev_ret, ev_sif, ev_set, ev_expr, ev_asg, ev_par, ev_for, ev_fld, ev_gn, ev_gsnil, ev_gscons, ev_gt, ev_mkfn, ev_bok, ev_berr, ev_bfail, ev_tok, ev_hok, ev_ert, ev_enx, ev_wn, ev_wc, ev_e0, ev_sseq, ev_senum, ev_szip, ev_sltup, ev_ltI, ev_leI, ev_gtI, ev_geI, ev_subI, ev_addI, ev_lenT, List.map_cons, List.map_nil, List.length_cons, List.length_nil, List.cons_append, List.nil_append, List.append_nil, List.getElem?_cons_zero, List.getElem?_cons_succ, List.set_cons_zero, List.set_cons_succ, List.replicate_succ, List.replicate_zero, Nat.reduceAdd, Nat.reduceSub, Nat.reduceEqDiff, reduceIte, Bool.true_eq_false, Bool.false_eq_true, if_true, if_false, isi_tup, dIx, seqOf, atI2_1, Int.cast_ofNat_Int, eqI, beq_self_eq_true, within_of (dk_kn (hx y (by simp))), hushD]
        · have e : decide ((xs.length : Int) = 2) = false := decide_eq_false (by omega)
          simp only [m_is_hush, b_is_hush, ev_var, ev_c, ev_un, ev_bin, ev_anil, ev_acons, ev_fn, ev_tof, ev_tob, ev_tand, ev_tor, ev_tnot, ev_and, ev_or, ev_not, ev_if, ev_chain, ev_true, ev_slice, ev_onone, ev_osome, ev_iseq, ev_irng, ev_ienum, ev_ibin, ev_lc, ev_skip, ev_never, ev_seq, ev_ret, ev_sif, ev_set, ev_expr, ev_asg, ev_par, ev_for, ev_fld, ev_gn, ev_gsnil, ev_gscons, ev_gt, ev_mkfn, ev_bok, ev_berr, ev_bfail, ev_tok, ev_hok, ev_ert, ev_enx, ev_wn, ev_wc, ev_e0, ev_sseq, ev_senum, ev_szip, ev_sltup, ev_ltI, ev_leI, ev_gtI, ev_geI, ev_subI, ev_addI, ev_lenT, List.map_cons, List.map_nil, List.length_cons, List.length_nil, List.cons_append, List.nil_append, List.append_nil, List.getElem?_cons_zero, List.getElem?_cons_succ, List.set_cons_zero, List.set_cons_succ, List.replicate_succ, List.replicate_zero, Nat.reduceAdd, Nat.reduceSub, Nat.reduceEqDiff, reduceIte, Bool.true_eq_false, Bool.false_eq_true, if_true, if_false, isi_tup, eqN, e]
          congr 2
          unfold hushD
          split
          · rename_i q
            cases q
            exact absurd rfl hl
          · rfl
      | _ =>
        simp only [m_is_hush, b_is_hush, ev_var, ev_c, ev_un, ev_bin, ev_anil, ev_acons, ev_fn, ev_tof, ev_tob, ev_tand, ev_tor, ev_tnot, ev_and, ev_or, ev_not, ev_if, ev_chain, ev_true, ev_slice, ev_onone, ev_osome, ev_iseq, ev_irng, ev_ienum, ev_ibin, ev_lc, ev_skip, ev_never, ev_seq, ev_ret, ev_sif, ev_set, ev_expr, ev_asg, ev_par, ev_for, ev_fld, ev_gn, ev_gsnil, ev_gscons, ev_gt, ev_mkfn, ev_bok, ev_berr, ev_bfail, ev_tok, ev_hok, ev_ert, ev_enx, ev_wn, ev_wc, ev_e0, ev_sseq, ev_senum, ev_szip, ev_sltup, ev_ltI, ev_leI, ev_gtI, ev_geI, ev_subI, ev_addI, ev_lenT, List.map_cons, List.map_nil, List.length_cons, List.length_nil, List.cons_append, List.nil_append, List.append_nil, List.getElem?_cons_zero, List.getElem?_cons_succ, List.set_cons_zero, List.set_cons_succ, List.replicate_succ, List.replicate_zero, Nat.reduceAdd, Nat.reduceSub, Nat.reduceEqDiff, reduceIte, Bool.true_eq_false, Bool.false_eq_true, if_true, if_false, isi_tupD (dk_kn hk)]
        rfl
    · cases h'

def b_is_hushes : SM := (sSeq (sIf (tOr (tNot (tOf (eFn s_is_row (aCons (eVar 1) (aCons (eC (.int 5)) aNil))))) (tNot (tOf (eFn (fAA fun bs => bs.all id) (aCons (cLc (iSeq (eVar 1)) [2] (gN 2) tTrue (eFn s_is_hush (aCons (eVar 2) aNil))) aNil))))) (sRet (eC (.bl false))) sSkip)
    (sRet (eFn s_is_rising (aCons (eFn fTup (aCons (cLc (iSeq (eVar 1)) [3, 4] (gT 2 (gsCons (gN 3) (gsCons (gN 4) gsNil))) tTrue (eVar 3)) aNil)) (aCons (eVar 0) aNil)))))
def m_is_hushes : Fm := mkFn 2 5 b_is_hushes
def s_is_hushes : Fm := obs 2 fun ds st => match ds with
  | [.int n, d] => if dk st d = true then some (.bl (hushesD n d)) else none
  | _ => none
theorem a_is_hushes : Arity 2 s_is_hushes := obs_ar
theorem hushes_of {d : D} {st : Sto} {n : Int} (h : dk st d = true) : s_is_hushes [.int n, d] st = .ok (.bl (hushesD n d)) st := obs_ok rfl (if_pos h)
theorem t_is_hushes : Tells m_is_hushes s_is_hushes := .obs fun ds st d g b hl h => by
  match ds, hl, h with
  | [.int n, x], _, h =>
    have h' : (if dk st x = true then some (D.bl (hushesD n x)) else none) = some d := h
    split at h'
    · rename_i hk
      cases h'
      refine ⟨by simp only [Bnd], ?_⟩
      have hrow : s_is_row [x, .int 5] st = .ok (.bl (rowD 5 x)) st := row_of (n := 5) (dk_kn hk)
      cases x with
      | tup xs =>
        have hx := dk_tup hk
        by_cases h5 : xs.length ≤ 5
        · have hm : xs.length ≤ most := Nat.le_trans h5 (by decide)
          have hr : rowD 5 (.tup xs) = true := decide_eq_true h5
          simp only [m_is_hushes, b_is_hushes, ev_var, ev_c, ev_un, ev_bin, ev_anil, ev_acons, ev_fn, ev_tof, ev_tob, ev_tand, ev_tor, ev_tnot, ev_and, ev_or, ev_not, ev_if, ev_chain, ev_true, ev_slice, ev_onone, ev_osome, ev_iseq, ev_irng, ev_ienum, ev_ibin, ev_lc, ev_skip, ev_never, ev_seq, ev_ret, ev_sif, ev_set, ev_expr, ev_asg, ev_par, ev_for, ev_fld, ev_gn, ev_gsnil, ev_gscons, ev_gt, ev_mkfn, ev_bok, ev_berr, ev_bfail, ev_tok, ev_hok, ev_ert, ev_enx, ev_wn, ev_wc, ev_e0, ev_sseq, ev_senum, ev_szip, ev_sltup, ev_ltI, ev_leI, ev_gtI, ev_geI, ev_subI, ev_addI, ev_lenT, List.map_cons, List.map_nil, List.length_cons, List.length_nil, List.cons_append, List.nil_append, List.append_nil, List.getElem?_cons_zero, List.getElem?_cons_succ, List.set_cons_zero, List.set_cons_succ, List.replicate_succ, List.replicate_zero, Nat.reduceAdd, Nat.reduceSub, Nat.reduceEqDiff, reduceIte, Bool.true_eq_false, Bool.false_eq_true, if_true, if_false, hrow, hr, Bool.not_true]
          rw [startLc_map (f := fun x => .bl (hushD x)) rfl hm fun x h2 acc => ⟨_, rfl, by simp only [ev_var, ev_c, ev_un, ev_bin, ev_anil, ev_acons, ev_fn, ev_tof, ev_tob, ev_tand, ev_tor, ev_tnot, ev_and, ev_or, ev_not, ev_if, ev_chain, ev_true, ev_slice, ev_onone, ev_osome, ev_iseq, ev_irng, ev_ienum, ev_ibin, ev_lc, ev_skip, ev_never, ev_seq, ev_ret, ev_sif, ev_set, ev_expr, ev_asg, ev_par, ev_for, ev_fld, ev_gn, ev_gsnil, ev_gscons, ev_gt, ev_mkfn, ev_bok, ev_berr, ev_bfail, ev_tok, ev_hok, ev_ert, ev_enx, ev_wn, ev_wc, ev_e0, ev_sseq, ev_senum, ev_szip, ev_sltup, ev_ltI, ev_leI, ev_gtI, ev_geI, ev_subI, ev_addI, ev_lenT, List.map_cons, List.map_nil, List.length_cons, List.length_nil, List.cons_append, List.nil_append, List.append_nil, List.getElem?_cons_zero, List.getElem?_cons_succ, List.set_cons_zero, List.set_cons_succ, List.replicate_succ, List.replicate_zero, Nat.reduceAdd, Nat.reduceSub, Nat.reduceEqDiff, reduceIte, Bool.true_eq_false, Bool.false_eq_true, if_true, if_false, hush_is (dk_app (hx x h2))]⟩]
          simp only [ev_var, ev_c, ev_un, ev_bin, ev_anil, ev_acons, ev_fn, ev_tof, ev_tob, ev_tand, ev_tor, ev_tnot, ev_and, ev_or, ev_not, ev_if, ev_chain, ev_true, ev_slice, ev_onone, ev_osome, ev_iseq, ev_irng, ev_ienum, ev_ibin, ev_lc, ev_skip, ev_never, ev_seq, ev_ret, ev_sif, ev_set, ev_expr, ev_asg, ev_par, ev_for, ev_fld, ev_gn, ev_gsnil, ev_gscons, ev_gt, ev_mkfn, ev_bok, ev_berr, ev_bfail, ev_tok, ev_hok, ev_ert, ev_enx, ev_wn, ev_wc, ev_e0, ev_sseq, ev_senum, ev_szip, ev_sltup, ev_ltI, ev_leI, ev_gtI, ev_geI, ev_subI, ev_addI, ev_lenT, List.map_cons, List.map_nil, List.length_cons, List.length_nil, List.cons_append, List.nil_append, List.append_nil, List.getElem?_cons_zero, List.getElem?_cons_succ, List.set_cons_zero, List.set_cons_succ, List.replicate_succ, List.replicate_zero, Nat.reduceAdd, Nat.reduceSub, Nat.reduceEqDiff, reduceIte, Bool.true_eq_false, Bool.false_eq_true, if_true, if_false, aa_end, all_id]
          by_cases ha : xs.all hushD = true
          · simp only [ev_var, ev_c, ev_un, ev_bin, ev_anil, ev_acons, ev_fn, ev_tof, ev_tob, ev_tand, ev_tor, ev_tnot, ev_and, ev_or, ev_not, ev_if, ev_chain, ev_true, ev_slice, ev_onone, ev_osome, ev_iseq, ev_irng, ev_ienum, ev_ibin, ev_lc, ev_skip, ev_never, ev_seq, ev_ret, ev_sif, ev_set, ev_expr, ev_asg, ev_par, ev_for, ev_fld, ev_gn, ev_gsnil, ev_gscons, ev_gt, ev_mkfn, ev_bok, ev_berr, ev_bfail, ev_tok, ev_hok, ev_ert, ev_enx, ev_wn, ev_wc, ev_e0, ev_sseq, ev_senum, ev_szip, ev_sltup, ev_ltI, ev_leI, ev_gtI, ev_geI, ev_subI, ev_addI, ev_lenT, List.map_cons, List.map_nil, List.length_cons, List.length_nil, List.cons_append, List.nil_append, List.append_nil, List.getElem?_cons_zero, List.getElem?_cons_succ, List.set_cons_zero, List.set_cons_succ, List.replicate_succ, List.replicate_zero, Nat.reduceAdd, Nat.reduceSub, Nat.reduceEqDiff, reduceIte, Bool.true_eq_false, Bool.false_eq_true, if_true, if_false, ha, Bool.not_true]
            rw [startLc_map (f := fstD) rfl hm fun x h2 acc => ?_]
            · have hk2 : dk (st ++ [.lst (xs.map fun x => D.bl (hushD x))] ++ [.lst (xs.map fstD)]) (.tup (xs.map fstD)) = true := by
                apply dk_app
                apply dk_app
                exact dk_fsts hx ha
              simp only [ev_var, ev_c, ev_un, ev_bin, ev_anil, ev_acons, ev_fn, ev_tof, ev_tob, ev_tand, ev_tor, ev_tnot, ev_and, ev_or, ev_not, ev_if, ev_chain, ev_true, ev_slice, ev_onone, ev_osome, ev_iseq, ev_irng, ev_ienum, ev_ibin, ev_lc, ev_skip, ev_never, ev_seq, ev_ret, ev_sif, ev_set, ev_expr, ev_asg, ev_par, ev_for, ev_fld, ev_gn, ev_gsnil, ev_gscons, ev_gt, ev_mkfn, ev_bok, ev_berr, ev_bfail, ev_tok, ev_hok, ev_ert, ev_enx, ev_wn, ev_wc, ev_e0, ev_sseq, ev_senum, ev_szip, ev_sltup, ev_ltI, ev_leI, ev_gtI, ev_geI, ev_subI, ev_addI, ev_lenT, List.map_cons, List.map_nil, List.length_cons, List.length_nil, List.cons_append, List.nil_append, List.append_nil, List.getElem?_cons_zero, List.getElem?_cons_succ, List.set_cons_zero, List.set_cons_succ, List.replicate_succ, List.replicate_zero, Nat.reduceAdd, Nat.reduceSub, Nat.reduceEqDiff, reduceIte, Bool.true_eq_false, Bool.false_eq_true, if_true, if_false, fTup, seqOf, lstOf_end, rising_of hk2 (show (xs.map fstD).length ≤ most by rw [List.length_map]; exact hm)]
              refine ⟨_, by rw [List.append_assoc]; congr 2; simp only [hushesD, h5, ha, decide_true, Bool.true_and]⟩
            · obtain ⟨a, b, rfl⟩ := hush_pair (List.all_eq_true.mp ha x h2)
              exact ⟨_, rfl, rfl⟩
          · rw [Bool.not_eq_true] at ha
            simp only [ev_var, ev_c, ev_un, ev_bin, ev_anil, ev_acons, ev_fn, ev_tof, ev_tob, ev_tand, ev_tor, ev_tnot, ev_and, ev_or, ev_not, ev_if, ev_chain, ev_true, ev_slice, ev_onone, ev_osome, ev_iseq, ev_irng, ev_ienum, ev_ibin, ev_lc, ev_skip, ev_never, ev_seq, ev_ret, ev_sif, ev_set, ev_expr, ev_asg, ev_par, ev_for, ev_fld, ev_gn, ev_gsnil, ev_gscons, ev_gt, ev_mkfn, ev_bok, ev_berr, ev_bfail, ev_tok, ev_hok, ev_ert, ev_enx, ev_wn, ev_wc, ev_e0, ev_sseq, ev_senum, ev_szip, ev_sltup, ev_ltI, ev_leI, ev_gtI, ev_geI, ev_subI, ev_addI, ev_lenT, List.map_cons, List.map_nil, List.length_cons, List.length_nil, List.cons_append, List.nil_append, List.append_nil, List.getElem?_cons_zero, List.getElem?_cons_succ, List.set_cons_zero, List.set_cons_succ, List.replicate_succ, List.replicate_zero, Nat.reduceAdd, Nat.reduceSub, Nat.reduceEqDiff, reduceIte, Bool.true_eq_false, Bool.false_eq_true, if_true, if_false, ha, Bool.not_false]
            refine ⟨[.lst (xs.map fun x => D.bl (hushD x))], ?_⟩
            simp only [hushesD, ha, Bool.and_false, Bool.false_and]
        · have hr : rowD 5 (.tup xs) = false := decide_eq_false h5
          refine ⟨[], ?_⟩
          simp only [m_is_hushes, b_is_hushes, ev_var, ev_c, ev_un, ev_bin, ev_anil, ev_acons, ev_fn, ev_tof, ev_tob, ev_tand, ev_tor, ev_tnot, ev_and, ev_or, ev_not, ev_if, ev_chain, ev_true, ev_slice, ev_onone, ev_osome, ev_iseq, ev_irng, ev_ienum, ev_ibin, ev_lc, ev_skip, ev_never, ev_seq, ev_ret, ev_sif, ev_set, ev_expr, ev_asg, ev_par, ev_for, ev_fld, ev_gn, ev_gsnil, ev_gscons, ev_gt, ev_mkfn, ev_bok, ev_berr, ev_bfail, ev_tok, ev_hok, ev_ert, ev_enx, ev_wn, ev_wc, ev_e0, ev_sseq, ev_senum, ev_szip, ev_sltup, ev_ltI, ev_leI, ev_gtI, ev_geI, ev_subI, ev_addI, ev_lenT, List.map_cons, List.map_nil, List.length_cons, List.length_nil, List.cons_append, List.nil_append, List.append_nil, List.getElem?_cons_zero, List.getElem?_cons_succ, List.set_cons_zero, List.set_cons_succ, List.replicate_succ, List.replicate_zero, Nat.reduceAdd, Nat.reduceSub, Nat.reduceEqDiff, reduceIte, Bool.true_eq_false, Bool.false_eq_true, if_true, if_false, hrow, hr, Bool.not_false, hushesD, decide_eq_false h5, Bool.false_and]
      | _ =>
        refine ⟨[], ?_⟩
        simp only [m_is_hushes, b_is_hushes, ev_var, ev_c, ev_un, ev_bin, ev_anil, ev_acons, ev_fn, ev_tof, ev_tob, ev_tand, ev_tor, ev_tnot, ev_and, ev_or, ev_not, ev_if, ev_chain, ev_true, ev_slice, ev_onone, ev_osome, ev_iseq, ev_irng, ev_ienum, ev_ibin, ev_lc, ev_skip, ev_never, ev_seq, ev_ret, ev_sif, ev_set, ev_expr, ev_asg, ev_par, ev_for, ev_fld, ev_gn, ev_gsnil, ev_gscons, ev_gt, ev_mkfn, ev_bok, ev_berr, ev_bfail, ev_tok, ev_hok, ev_ert, ev_enx, ev_wn, ev_wc, ev_e0, ev_sseq, ev_senum, ev_szip, ev_sltup, ev_ltI, ev_leI, ev_gtI, ev_geI, ev_subI, ev_addI, ev_lenT, List.map_cons, List.map_nil, List.length_cons, List.length_nil, List.cons_append, List.nil_append, List.append_nil, List.getElem?_cons_zero, List.getElem?_cons_succ, List.set_cons_zero, List.set_cons_succ, List.replicate_succ, List.replicate_zero, Nat.reduceAdd, Nat.reduceSub, Nat.reduceEqDiff, reduceIte, Bool.true_eq_false, Bool.false_eq_true, if_true, if_false, hrow, rowD, Bool.not_false, hushesD]
    · cases h'

def b_is_wakes : SM := (sSeq (sIf (tOr (tNot (tOf (eFn s_is_row (aCons (eVar 1) (aCons (eC (.int 5)) aNil))))) (tNot (tOf (eFn s_is_rising (aCons (eVar 1) (aCons (eVar 0) aNil)))))) (sRet (eC (.bl false))) sSkip)
    (sRet (eNot (eFn (fAA fun bs => bs.any id) (aCons (cLc (iSeq (eVar 2)) [3, 4] (gT 2 (gsCons (gN 3) (gsCons (gN 4) gsNil))) tTrue (eBin (dIn false) (eVar 3) (eVar 1))) aNil)))))
def m_is_wakes : Fm := mkFn 3 5 b_is_wakes
def s_is_wakes : Fm := obs 3 fun ds st => match ds with
  | [.int n, d, .tup hs] => if dk st d = true ∧ (hs.all fun h => hushD h && isI (fstD h)) = true ∧ hs.length ≤ most then some (.bl (wakesD n d hs)) else none
  | _ => none
theorem a_is_wakes : Arity 3 s_is_wakes := obs_ar
theorem wakes_of {d : D} {st : Sto} {n : Int} {hs : List D} (h : dk st d = true) (hh : (hs.all fun h => hushD h && isI (fstD h)) = true) (hm : hs.length ≤ most) : s_is_wakes [.int n, d, .tup hs] st = .ok (.bl (wakesD n d hs)) st := obs_ok rfl (if_pos ⟨h, hh, hm⟩)
theorem t_is_wakes : Tells m_is_wakes s_is_wakes := .obs fun ds st d g b hl h => by
  match ds, hl, h with
  | [.int n, x, .tup hs], _, h =>
    have h' : (if dk st x = true ∧ (hs.all fun h => hushD h && isI (fstD h)) = true ∧ hs.length ≤ most then some (D.bl (wakesD n x hs)) else none) = some d := h
    split at h'
    · rename_i hk
      cases h'
      obtain ⟨hk, hh, hm⟩ := hk
      refine ⟨by simp only [Bnd], ?_⟩
      have hrow : s_is_row [x, .int 5] st = .ok (.bl (rowD 5 x)) st := row_of (n := 5) (dk_kn hk)
      cases x with
      | tup xs =>
        by_cases h5 : xs.length ≤ 5
        · have hr : rowD 5 (.tup xs) = true := decide_eq_true h5
          have hris := rising_of (n := n) hk (show xs.length ≤ most from Nat.le_trans h5 (by decide))
          simp only [m_is_wakes, b_is_wakes, ev_var, ev_c, ev_un, ev_bin, ev_anil, ev_acons, ev_fn, ev_tof, ev_tob, ev_tand, ev_tor, ev_tnot, ev_and, ev_or, ev_not, ev_if, ev_chain, ev_true, ev_slice, ev_onone, ev_osome, ev_iseq, ev_irng, ev_ienum, ev_ibin, ev_lc, ev_skip, ev_never, ev_seq, ev_ret, ev_sif, ev_set, ev_expr, ev_asg, ev_par, ev_for, ev_fld, ev_gn, ev_gsnil, ev_gscons, ev_gt, ev_mkfn, ev_bok, ev_berr, ev_bfail, ev_tok, ev_hok, ev_ert, ev_enx, ev_wn, ev_wc, ev_e0, ev_sseq, ev_senum, ev_szip, ev_sltup, ev_ltI, ev_leI, ev_gtI, ev_geI, ev_subI, ev_addI, ev_lenT, List.map_cons, List.map_nil, List.length_cons, List.length_nil, List.cons_append, List.nil_append, List.append_nil, List.getElem?_cons_zero, List.getElem?_cons_succ, List.set_cons_zero, List.set_cons_succ, List.replicate_succ, List.replicate_zero, Nat.reduceAdd, Nat.reduceSub, Nat.reduceEqDiff, reduceIte, Bool.true_eq_false, Bool.false_eq_true, if_true, if_false, hrow, hr, Bool.not_true, hris]
          by_cases hg : risingD n (.tup xs) = true
          · simp only [ev_var, ev_c, ev_un, ev_bin, ev_anil, ev_acons, ev_fn, ev_tof, ev_tob, ev_tand, ev_tor, ev_tnot, ev_and, ev_or, ev_not, ev_if, ev_chain, ev_true, ev_slice, ev_onone, ev_osome, ev_iseq, ev_irng, ev_ienum, ev_ibin, ev_lc, ev_skip, ev_never, ev_seq, ev_ret, ev_sif, ev_set, ev_expr, ev_asg, ev_par, ev_for, ev_fld, ev_gn, ev_gsnil, ev_gscons, ev_gt, ev_mkfn, ev_bok, ev_berr, ev_bfail, ev_tok, ev_hok, ev_ert, ev_enx, ev_wn, ev_wc, ev_e0, ev_sseq, ev_senum, ev_szip, ev_sltup, ev_ltI, ev_leI, ev_gtI, ev_geI, ev_subI, ev_addI, ev_lenT, List.map_cons, List.map_nil, List.length_cons, List.length_nil, List.cons_append, List.nil_append, List.append_nil, List.getElem?_cons_zero, List.getElem?_cons_succ, List.set_cons_zero, List.set_cons_succ, List.replicate_succ, List.replicate_zero, Nat.reduceAdd, Nat.reduceSub, Nat.reduceEqDiff, reduceIte, Bool.true_eq_false, Bool.false_eq_true, if_true, if_false, hg, Bool.not_true]
            rw [startLc_map (f := fun h => .bl (memI (fstD h) xs)) rfl hm fun h h2 acc => ?_]
            · simp only [ev_var, ev_c, ev_un, ev_bin, ev_anil, ev_acons, ev_fn, ev_tof, ev_tob, ev_tand, ev_tor, ev_tnot, ev_and, ev_or, ev_not, ev_if, ev_chain, ev_true, ev_slice, ev_onone, ev_osome, ev_iseq, ev_irng, ev_ienum, ev_ibin, ev_lc, ev_skip, ev_never, ev_seq, ev_ret, ev_sif, ev_set, ev_expr, ev_asg, ev_par, ev_for, ev_fld, ev_gn, ev_gsnil, ev_gscons, ev_gt, ev_mkfn, ev_bok, ev_berr, ev_bfail, ev_tok, ev_hok, ev_ert, ev_enx, ev_wn, ev_wc, ev_e0, ev_sseq, ev_senum, ev_szip, ev_sltup, ev_ltI, ev_leI, ev_gtI, ev_geI, ev_subI, ev_addI, ev_lenT, List.map_cons, List.map_nil, List.length_cons, List.length_nil, List.cons_append, List.nil_append, List.append_nil, List.getElem?_cons_zero, List.getElem?_cons_succ, List.set_cons_zero, List.set_cons_succ, List.replicate_succ, List.replicate_zero, Nat.reduceAdd, Nat.reduceSub, Nat.reduceEqDiff, reduceIte, Bool.true_eq_false, Bool.false_eq_true, if_true, if_false, aa_end, any_id]
              refine ⟨_, by congr 2; simp only [wakesD, h5, hg, decide_true, Bool.true_and]⟩
            · have hp := List.all_eq_true.mp hh h h2
              simp only [Bool.and_eq_true] at hp
              obtain ⟨a, b, rfl⟩ := hush_pair hp.1
              have ea := isI_eq hp.2
              refine ⟨_, rfl, ?_⟩
              simp only [fstD] at ea ⊢
              rw [ea]
              simp only [ev_var, ev_c, ev_un, ev_bin, ev_anil, ev_acons, ev_fn, ev_tof, ev_tob, ev_tand, ev_tor, ev_tnot, ev_and, ev_or, ev_not, ev_if, ev_chain, ev_true, ev_slice, ev_onone, ev_osome, ev_iseq, ev_irng, ev_ienum, ev_ibin, ev_lc, ev_skip, ev_never, ev_seq, ev_ret, ev_sif, ev_set, ev_expr, ev_asg, ev_par, ev_for, ev_fld, ev_gn, ev_gsnil, ev_gscons, ev_gt, ev_mkfn, ev_bok, ev_berr, ev_bfail, ev_tok, ev_hok, ev_ert, ev_enx, ev_wn, ev_wc, ev_e0, ev_sseq, ev_senum, ev_szip, ev_sltup, ev_ltI, ev_leI, ev_gtI, ev_geI, ev_subI, ev_addI, ev_lenT, List.map_cons, List.map_nil, List.length_cons, List.length_nil, List.cons_append, List.nil_append, List.append_nil, List.getElem?_cons_zero, List.getElem?_cons_succ, List.set_cons_zero, List.set_cons_succ, List.replicate_succ, List.replicate_zero, Nat.reduceAdd, Nat.reduceSub, Nat.reduceEqDiff, reduceIte, Bool.true_eq_false, Bool.false_eq_true, if_true, if_false, in_ints (rising_ints hg), wI]
          · rw [Bool.not_eq_true] at hg
            refine ⟨[], ?_⟩
            simp only [ev_var, ev_c, ev_un, ev_bin, ev_anil, ev_acons, ev_fn, ev_tof, ev_tob, ev_tand, ev_tor, ev_tnot, ev_and, ev_or, ev_not, ev_if, ev_chain, ev_true, ev_slice, ev_onone, ev_osome, ev_iseq, ev_irng, ev_ienum, ev_ibin, ev_lc, ev_skip, ev_never, ev_seq, ev_ret, ev_sif, ev_set, ev_expr, ev_asg, ev_par, ev_for, ev_fld, ev_gn, ev_gsnil, ev_gscons, ev_gt, ev_mkfn, ev_bok, ev_berr, ev_bfail, ev_tok, ev_hok, ev_ert, ev_enx, ev_wn, ev_wc, ev_e0, ev_sseq, ev_senum, ev_szip, ev_sltup, ev_ltI, ev_leI, ev_gtI, ev_geI, ev_subI, ev_addI, ev_lenT, List.map_cons, List.map_nil, List.length_cons, List.length_nil, List.cons_append, List.nil_append, List.append_nil, List.getElem?_cons_zero, List.getElem?_cons_succ, List.set_cons_zero, List.set_cons_succ, List.replicate_succ, List.replicate_zero, Nat.reduceAdd, Nat.reduceSub, Nat.reduceEqDiff, reduceIte, Bool.true_eq_false, Bool.false_eq_true, if_true, if_false, hg, Bool.not_false, wakesD, Bool.and_false, Bool.false_and]
        · have hr : rowD 5 (.tup xs) = false := decide_eq_false h5
          refine ⟨[], ?_⟩
          simp only [m_is_wakes, b_is_wakes, ev_var, ev_c, ev_un, ev_bin, ev_anil, ev_acons, ev_fn, ev_tof, ev_tob, ev_tand, ev_tor, ev_tnot, ev_and, ev_or, ev_not, ev_if, ev_chain, ev_true, ev_slice, ev_onone, ev_osome, ev_iseq, ev_irng, ev_ienum, ev_ibin, ev_lc, ev_skip, ev_never, ev_seq, ev_ret, ev_sif, ev_set, ev_expr, ev_asg, ev_par, ev_for, ev_fld, ev_gn, ev_gsnil, ev_gscons, ev_gt, ev_mkfn, ev_bok, ev_berr, ev_bfail, ev_tok, ev_hok, ev_ert, ev_enx, ev_wn, ev_wc, ev_e0, ev_sseq, ev_senum, ev_szip, ev_sltup, ev_ltI, ev_leI, ev_gtI, ev_geI, ev_subI, ev_addI, ev_lenT, List.map_cons, List.map_nil, List.length_cons, List.length_nil, List.cons_append, List.nil_append, List.append_nil, List.getElem?_cons_zero, List.getElem?_cons_succ, List.set_cons_zero, List.set_cons_succ, List.replicate_succ, List.replicate_zero, Nat.reduceAdd, Nat.reduceSub, Nat.reduceEqDiff, reduceIte, Bool.true_eq_false, Bool.false_eq_true, if_true, if_false, hrow, hr, Bool.not_false, wakesD, decide_eq_false h5, Bool.false_and]
      | _ =>
        refine ⟨[], ?_⟩
        simp only [m_is_wakes, b_is_wakes, ev_var, ev_c, ev_un, ev_bin, ev_anil, ev_acons, ev_fn, ev_tof, ev_tob, ev_tand, ev_tor, ev_tnot, ev_and, ev_or, ev_not, ev_if, ev_chain, ev_true, ev_slice, ev_onone, ev_osome, ev_iseq, ev_irng, ev_ienum, ev_ibin, ev_lc, ev_skip, ev_never, ev_seq, ev_ret, ev_sif, ev_set, ev_expr, ev_asg, ev_par, ev_for, ev_fld, ev_gn, ev_gsnil, ev_gscons, ev_gt, ev_mkfn, ev_bok, ev_berr, ev_bfail, ev_tok, ev_hok, ev_ert, ev_enx, ev_wn, ev_wc, ev_e0, ev_sseq, ev_senum, ev_szip, ev_sltup, ev_ltI, ev_leI, ev_gtI, ev_geI, ev_subI, ev_addI, ev_lenT, List.map_cons, List.map_nil, List.length_cons, List.length_nil, List.cons_append, List.nil_append, List.append_nil, List.getElem?_cons_zero, List.getElem?_cons_succ, List.set_cons_zero, List.set_cons_succ, List.replicate_succ, List.replicate_zero, Nat.reduceAdd, Nat.reduceSub, Nat.reduceEqDiff, reduceIte, Bool.true_eq_false, Bool.false_eq_true, if_true, if_false, hrow, rowD, Bool.not_false, wakesD]
    · cases h'

def b_is_rule : SM := (sSeq (sIf (tOr (tNot (tOf (eUn (dIsi "tuple") (eVar 2)))) (tOf (eBin (dEq true) (eFn fLen (aCons (eVar 2) aNil)) (eC (.int 4))))) (sRet (eC (.bl false))) sSkip)
    (sSeq (sAsg (eVar 2) (gT 4 (gsCons (gN 3) (gsCons (gN 4) (gsCons (gN 5) (gsCons (gN 6) gsNil))))))
    (sSeq (sIf (tOr (tNot (tOf (eFn s_is_row (aCons (eVar 3) (aCons (eC (.int 4)) aNil))))) (tNot (tOf (eFn s_is_row (aCons (eVar 4) (aCons (eC (.int 3)) aNil)))))) (sRet (eC (.bl false))) sSkip)
    (sSeq (sIf (tNot (tOf (eFn (fAA fun bs => bs.all id) (aCons (cLc (iSeq (eVar 3)) [7] (gN 7) tTrue (eFn s_is_condition (aCons (eVar 0) (aCons (eVar 1) (aCons (eVar 7) aNil))))) aNil)))) (sRet (eC (.bl false))) sSkip)
    (sSeq (sIf (tNot (tOf (eFn (fAA fun bs => bs.all id) (aCons (cLc (iSeq (eVar 4)) [8] (gN 8) tTrue (eFn s_is_change (aCons (eVar 0) (aCons (eVar 8) aNil)))) aNil)))) (sRet (eC (.bl false))) sSkip)
    (sRet (eAnd (eFn s_is_hushes (aCons (eVar 1) (aCons (eVar 5) aNil))) (eFn s_is_wakes (aCons (eVar 1) (aCons (eVar 6) (aCons (eVar 5) aNil)))))))))))
def m_is_rule : Fm := mkFn 3 9 b_is_rule
def s_is_rule : Fm := obs 3 fun ds st => match ds with
  | [.tup ws, .int n, d] => if dk st d = true ∧ ruleWords d = true ∧ ws.all isI = true then some (.bl (ruleD ws n d)) else none
  | _ => none
theorem a_is_rule : Arity 3 s_is_rule := obs_ar
theorem rule_of {d : D} {st : Sto} {ws : List D} {n : Int} (h : dk st d = true) (hd : ruleWords d = true) (hw : ws.all isI = true) : s_is_rule [.tup ws, .int n, d] st = .ok (.bl (ruleD ws n d)) st := obs_ok rfl (if_pos ⟨h, hd, hw⟩)
theorem t_is_rule : Tells m_is_rule s_is_rule := .obs fun ds st d g b hl h => by
  match ds, hl, h with
  | [.tup ws, .int n, x], _, h =>
    have h' : (if dk st x = true ∧ ruleWords x = true ∧ ws.all isI = true then some (D.bl (ruleD ws n x)) else none) = some d := h
    split at h'
    · rename_i hk
      cases h'
      obtain ⟨hk, hd, hw⟩ := hk
      refine ⟨by simp only [Bnd], ?_⟩
      cases x with
      | tup xs =>
        have hx := dk_tup hk
        by_cases hl4 : xs.length = 4
        · obtain ⟨ts, cs, hs, ks, rfl⟩ := len4 hl4
          have kt := hx ts (by simp)
          have kc := hx cs (by simp)
          have kh := hx hs (by simp)
          have kk := hx ks (by simp)
          simp only [ruleWords, Bool.and_eq_true] at hd
          have rt : s_is_row [ts, .int 4] st = .ok (.bl (rowD 4 ts)) st := row_of (n := 4) (dk_kn kt)
          have rc : s_is_row [cs, .int 3] st = .ok (.bl (rowD 3 cs)) st := row_of (n := 3) (dk_kn kc)
          simp only [m_is_rule, b_is_rule, ev_var, ev_c, ev_un, ev_bin, ev_anil, ev_acons, ev_fn, ev_tof, ev_tob, ev_tand, ev_tor, ev_tnot, ev_and, ev_or, ev_not, ev_if, ev_chain, ev_true, ev_slice, ev_onone, ev_osome, ev_iseq, ev_irng, ev_ienum, ev_ibin, ev_lc, ev_skip, ev_never, ev_seq, ev_ret, ev_sif, ev_set, ev_expr, ev_asg, ev_par, ev_for, ev_fld, ev_gn, ev_gsnil, ev_gscons, ev_gt, ev_mkfn, ev_bok, ev_berr, ev_bfail, ev_tok, ev_hok, ev_ert, ev_enx, ev_wn, ev_wc, ev_e0, ev_sseq, ev_senum, ev_szip, ev_sltup, ev_ltI, ev_leI, ev_gtI, ev_geI, ev_subI, ev_addI, ev_lenT, List.map_cons, List.map_nil, List.length_cons, List.length_nil, List.cons_append, List.nil_append, List.append_nil, List.getElem?_cons_zero, List.getElem?_cons_succ, List.set_cons_zero, List.set_cons_succ, List.replicate_succ, List.replicate_zero, Nat.reduceAdd, Nat.reduceSub, Nat.reduceEqDiff, reduceIte, Bool.true_eq_false, Bool.false_eq_true, if_true, if_false, isi_tup, Bool.not_true, Int.cast_ofNat_Int, eqI, beq_self_eq_true, rt]
          cases h1 : rowD 4 ts with
          | false =>
            refine ⟨[], ?_⟩
            simp only [ev_var, ev_c, ev_un, ev_bin, ev_anil, ev_acons, ev_fn, ev_tof, ev_tob, ev_tand, ev_tor, ev_tnot, ev_and, ev_or, ev_not, ev_if, ev_chain, ev_true, ev_slice, ev_onone, ev_osome, ev_iseq, ev_irng, ev_ienum, ev_ibin, ev_lc, ev_skip, ev_never, ev_seq, ev_ret, ev_sif, ev_set, ev_expr, ev_asg, ev_par, ev_for, ev_fld, ev_gn, ev_gsnil, ev_gscons, ev_gt, ev_mkfn, ev_bok, ev_berr, ev_bfail, ev_tok, ev_hok, ev_ert, ev_enx, ev_wn, ev_wc, ev_e0, ev_sseq, ev_senum, ev_szip, ev_sltup, ev_ltI, ev_leI, ev_gtI, ev_geI, ev_subI, ev_addI, ev_lenT, List.map_cons, List.map_nil, List.length_cons, List.length_nil, List.cons_append, List.nil_append, List.append_nil, List.getElem?_cons_zero, List.getElem?_cons_succ, List.set_cons_zero, List.set_cons_succ, List.replicate_succ, List.replicate_zero, Nat.reduceAdd, Nat.reduceSub, Nat.reduceEqDiff, reduceIte, Bool.true_eq_false, Bool.false_eq_true, if_true, if_false, Bool.not_false, ruleD, h1, Bool.false_and]
          | true =>
            simp only [ev_var, ev_c, ev_un, ev_bin, ev_anil, ev_acons, ev_fn, ev_tof, ev_tob, ev_tand, ev_tor, ev_tnot, ev_and, ev_or, ev_not, ev_if, ev_chain, ev_true, ev_slice, ev_onone, ev_osome, ev_iseq, ev_irng, ev_ienum, ev_ibin, ev_lc, ev_skip, ev_never, ev_seq, ev_ret, ev_sif, ev_set, ev_expr, ev_asg, ev_par, ev_for, ev_fld, ev_gn, ev_gsnil, ev_gscons, ev_gt, ev_mkfn, ev_bok, ev_berr, ev_bfail, ev_tok, ev_hok, ev_ert, ev_enx, ev_wn, ev_wc, ev_e0, ev_sseq, ev_senum, ev_szip, ev_sltup, ev_ltI, ev_leI, ev_gtI, ev_geI, ev_subI, ev_addI, ev_lenT, List.map_cons, List.map_nil, List.length_cons, List.length_nil, List.cons_append, List.nil_append, List.append_nil, List.getElem?_cons_zero, List.getElem?_cons_succ, List.set_cons_zero, List.set_cons_succ, List.replicate_succ, List.replicate_zero, Nat.reduceAdd, Nat.reduceSub, Nat.reduceEqDiff, reduceIte, Bool.true_eq_false, Bool.false_eq_true, if_true, if_false, Bool.not_true, rc]
            cases h2 : rowD 3 cs with
            | false =>
              refine ⟨[], ?_⟩
              simp only [ev_var, ev_c, ev_un, ev_bin, ev_anil, ev_acons, ev_fn, ev_tof, ev_tob, ev_tand, ev_tor, ev_tnot, ev_and, ev_or, ev_not, ev_if, ev_chain, ev_true, ev_slice, ev_onone, ev_osome, ev_iseq, ev_irng, ev_ienum, ev_ibin, ev_lc, ev_skip, ev_never, ev_seq, ev_ret, ev_sif, ev_set, ev_expr, ev_asg, ev_par, ev_for, ev_fld, ev_gn, ev_gsnil, ev_gscons, ev_gt, ev_mkfn, ev_bok, ev_berr, ev_bfail, ev_tok, ev_hok, ev_ert, ev_enx, ev_wn, ev_wc, ev_e0, ev_sseq, ev_senum, ev_szip, ev_sltup, ev_ltI, ev_leI, ev_gtI, ev_geI, ev_subI, ev_addI, ev_lenT, List.map_cons, List.map_nil, List.length_cons, List.length_nil, List.cons_append, List.nil_append, List.append_nil, List.getElem?_cons_zero, List.getElem?_cons_succ, List.set_cons_zero, List.set_cons_succ, List.replicate_succ, List.replicate_zero, Nat.reduceAdd, Nat.reduceSub, Nat.reduceEqDiff, reduceIte, Bool.true_eq_false, Bool.false_eq_true, if_true, if_false, Bool.not_false, ruleD, h1, h2, Bool.true_and, Bool.false_and]
            | true =>
              obtain ⟨tl, rfl, ht4⟩ := row_inv h1
              obtain ⟨cl, rfl, hc3⟩ := row_inv h2
              have xt := dk_tup kt
              have xc := dk_tup kc
              simp only [ev_var, ev_c, ev_un, ev_bin, ev_anil, ev_acons, ev_fn, ev_tof, ev_tob, ev_tand, ev_tor, ev_tnot, ev_and, ev_or, ev_not, ev_if, ev_chain, ev_true, ev_slice, ev_onone, ev_osome, ev_iseq, ev_irng, ev_ienum, ev_ibin, ev_lc, ev_skip, ev_never, ev_seq, ev_ret, ev_sif, ev_set, ev_expr, ev_asg, ev_par, ev_for, ev_fld, ev_gn, ev_gsnil, ev_gscons, ev_gt, ev_mkfn, ev_bok, ev_berr, ev_bfail, ev_tok, ev_hok, ev_ert, ev_enx, ev_wn, ev_wc, ev_e0, ev_sseq, ev_senum, ev_szip, ev_sltup, ev_ltI, ev_leI, ev_gtI, ev_geI, ev_subI, ev_addI, ev_lenT, List.map_cons, List.map_nil, List.length_cons, List.length_nil, List.cons_append, List.nil_append, List.append_nil, List.getElem?_cons_zero, List.getElem?_cons_succ, List.set_cons_zero, List.set_cons_succ, List.replicate_succ, List.replicate_zero, Nat.reduceAdd, Nat.reduceSub, Nat.reduceEqDiff, reduceIte, Bool.true_eq_false, Bool.false_eq_true, if_true, if_false, Bool.not_true]
              rw [startLc_map (f := fun x => .bl (condD ws n x)) rfl (Nat.le_trans ht4 (by decide)) fun x q2 acc => ⟨_, rfl, by simp only [ev_var, ev_c, ev_un, ev_bin, ev_anil, ev_acons, ev_fn, ev_tof, ev_tob, ev_tand, ev_tor, ev_tnot, ev_and, ev_or, ev_not, ev_if, ev_chain, ev_true, ev_slice, ev_onone, ev_osome, ev_iseq, ev_irng, ev_ienum, ev_ibin, ev_lc, ev_skip, ev_never, ev_seq, ev_ret, ev_sif, ev_set, ev_expr, ev_asg, ev_par, ev_for, ev_fld, ev_gn, ev_gsnil, ev_gscons, ev_gt, ev_mkfn, ev_bok, ev_berr, ev_bfail, ev_tok, ev_hok, ev_ert, ev_enx, ev_wn, ev_wc, ev_e0, ev_sseq, ev_senum, ev_szip, ev_sltup, ev_ltI, ev_leI, ev_gtI, ev_geI, ev_subI, ev_addI, ev_lenT, List.map_cons, List.map_nil, List.length_cons, List.length_nil, List.cons_append, List.nil_append, List.append_nil, List.getElem?_cons_zero, List.getElem?_cons_succ, List.set_cons_zero, List.set_cons_succ, List.replicate_succ, List.replicate_zero, Nat.reduceAdd, Nat.reduceSub, Nat.reduceEqDiff, reduceIte, Bool.true_eq_false, Bool.false_eq_true, if_true, if_false, cond_of (dk_app (xt x q2)) (List.all_eq_true.mp hd.1 x q2) hw]⟩]
              simp only [ev_var, ev_c, ev_un, ev_bin, ev_anil, ev_acons, ev_fn, ev_tof, ev_tob, ev_tand, ev_tor, ev_tnot, ev_and, ev_or, ev_not, ev_if, ev_chain, ev_true, ev_slice, ev_onone, ev_osome, ev_iseq, ev_irng, ev_ienum, ev_ibin, ev_lc, ev_skip, ev_never, ev_seq, ev_ret, ev_sif, ev_set, ev_expr, ev_asg, ev_par, ev_for, ev_fld, ev_gn, ev_gsnil, ev_gscons, ev_gt, ev_mkfn, ev_bok, ev_berr, ev_bfail, ev_tok, ev_hok, ev_ert, ev_enx, ev_wn, ev_wc, ev_e0, ev_sseq, ev_senum, ev_szip, ev_sltup, ev_ltI, ev_leI, ev_gtI, ev_geI, ev_subI, ev_addI, ev_lenT, List.map_cons, List.map_nil, List.length_cons, List.length_nil, List.cons_append, List.nil_append, List.append_nil, List.getElem?_cons_zero, List.getElem?_cons_succ, List.set_cons_zero, List.set_cons_succ, List.replicate_succ, List.replicate_zero, Nat.reduceAdd, Nat.reduceSub, Nat.reduceEqDiff, reduceIte, Bool.true_eq_false, Bool.false_eq_true, if_true, if_false, aa_end, all_id]
              cases h3 : tl.all (condD ws n) with
              | false =>
                refine ⟨[.lst (tl.map fun x => D.bl (condD ws n x))], ?_⟩
                simp only [ev_var, ev_c, ev_un, ev_bin, ev_anil, ev_acons, ev_fn, ev_tof, ev_tob, ev_tand, ev_tor, ev_tnot, ev_and, ev_or, ev_not, ev_if, ev_chain, ev_true, ev_slice, ev_onone, ev_osome, ev_iseq, ev_irng, ev_ienum, ev_ibin, ev_lc, ev_skip, ev_never, ev_seq, ev_ret, ev_sif, ev_set, ev_expr, ev_asg, ev_par, ev_for, ev_fld, ev_gn, ev_gsnil, ev_gscons, ev_gt, ev_mkfn, ev_bok, ev_berr, ev_bfail, ev_tok, ev_hok, ev_ert, ev_enx, ev_wn, ev_wc, ev_e0, ev_sseq, ev_senum, ev_szip, ev_sltup, ev_ltI, ev_leI, ev_gtI, ev_geI, ev_subI, ev_addI, ev_lenT, List.map_cons, List.map_nil, List.length_cons, List.length_nil, List.cons_append, List.nil_append, List.append_nil, List.getElem?_cons_zero, List.getElem?_cons_succ, List.set_cons_zero, List.set_cons_succ, List.replicate_succ, List.replicate_zero, Nat.reduceAdd, Nat.reduceSub, Nat.reduceEqDiff, reduceIte, Bool.true_eq_false, Bool.false_eq_true, if_true, if_false, Bool.not_false, ruleD, h1, h2, tupsD, h3, Bool.true_and, Bool.false_and]
              | true =>
                simp only [ev_var, ev_c, ev_un, ev_bin, ev_anil, ev_acons, ev_fn, ev_tof, ev_tob, ev_tand, ev_tor, ev_tnot, ev_and, ev_or, ev_not, ev_if, ev_chain, ev_true, ev_slice, ev_onone, ev_osome, ev_iseq, ev_irng, ev_ienum, ev_ibin, ev_lc, ev_skip, ev_never, ev_seq, ev_ret, ev_sif, ev_set, ev_expr, ev_asg, ev_par, ev_for, ev_fld, ev_gn, ev_gsnil, ev_gscons, ev_gt, ev_mkfn, ev_bok, ev_berr, ev_bfail, ev_tok, ev_hok, ev_ert, ev_enx, ev_wn, ev_wc, ev_e0, ev_sseq, ev_senum, ev_szip, ev_sltup, ev_ltI, ev_leI, ev_gtI, ev_geI, ev_subI, ev_addI, ev_lenT, List.map_cons, List.map_nil, List.length_cons, List.length_nil, List.cons_append, List.nil_append, List.append_nil, List.getElem?_cons_zero, List.getElem?_cons_succ, List.set_cons_zero, List.set_cons_succ, List.replicate_succ, List.replicate_zero, Nat.reduceAdd, Nat.reduceSub, Nat.reduceEqDiff, reduceIte, Bool.true_eq_false, Bool.false_eq_true, if_true, if_false, Bool.not_true]
                rw [startLc_map (f := fun x => .bl (changeD ws x)) rfl (Nat.le_trans hc3 (by decide)) fun x q2 acc => ⟨_, rfl, by simp only [ev_var, ev_c, ev_un, ev_bin, ev_anil, ev_acons, ev_fn, ev_tof, ev_tob, ev_tand, ev_tor, ev_tnot, ev_and, ev_or, ev_not, ev_if, ev_chain, ev_true, ev_slice, ev_onone, ev_osome, ev_iseq, ev_irng, ev_ienum, ev_ibin, ev_lc, ev_skip, ev_never, ev_seq, ev_ret, ev_sif, ev_set, ev_expr, ev_asg, ev_par, ev_for, ev_fld, ev_gn, ev_gsnil, ev_gscons, ev_gt, ev_mkfn, ev_bok, ev_berr, ev_bfail, ev_tok, ev_hok, ev_ert, ev_enx, ev_wn, ev_wc, ev_e0, ev_sseq, ev_senum, ev_szip, ev_sltup, ev_ltI, ev_leI, ev_gtI, ev_geI, ev_subI, ev_addI, ev_lenT, List.map_cons, List.map_nil, List.length_cons, List.length_nil, List.cons_append, List.nil_append, List.append_nil, List.getElem?_cons_zero, List.getElem?_cons_succ, List.set_cons_zero, List.set_cons_succ, List.replicate_succ, List.replicate_zero, Nat.reduceAdd, Nat.reduceSub, Nat.reduceEqDiff, reduceIte, Bool.true_eq_false, Bool.false_eq_true, if_true, if_false, change_of (dk_app (dk_app (xc x q2))) (List.all_eq_true.mp hd.2 x q2) hw]⟩]
                simp only [ev_var, ev_c, ev_un, ev_bin, ev_anil, ev_acons, ev_fn, ev_tof, ev_tob, ev_tand, ev_tor, ev_tnot, ev_and, ev_or, ev_not, ev_if, ev_chain, ev_true, ev_slice, ev_onone, ev_osome, ev_iseq, ev_irng, ev_ienum, ev_ibin, ev_lc, ev_skip, ev_never, ev_seq, ev_ret, ev_sif, ev_set, ev_expr, ev_asg, ev_par, ev_for, ev_fld, ev_gn, ev_gsnil, ev_gscons, ev_gt, ev_mkfn, ev_bok, ev_berr, ev_bfail, ev_tok, ev_hok, ev_ert, ev_enx, ev_wn, ev_wc, ev_e0, ev_sseq, ev_senum, ev_szip, ev_sltup, ev_ltI, ev_leI, ev_gtI, ev_geI, ev_subI, ev_addI, ev_lenT, List.map_cons, List.map_nil, List.length_cons, List.length_nil, List.cons_append, List.nil_append, List.append_nil, List.getElem?_cons_zero, List.getElem?_cons_succ, List.set_cons_zero, List.set_cons_succ, List.replicate_succ, List.replicate_zero, Nat.reduceAdd, Nat.reduceSub, Nat.reduceEqDiff, reduceIte, Bool.true_eq_false, Bool.false_eq_true, if_true, if_false, aa_end, all_id]
                cases h4 : cl.all (changeD ws) with
                | false =>
                  refine ⟨[.lst (tl.map fun x => D.bl (condD ws n x)), .lst (cl.map fun x => D.bl (changeD ws x))], ?_⟩
                  simp only [ev_var, ev_c, ev_un, ev_bin, ev_anil, ev_acons, ev_fn, ev_tof, ev_tob, ev_tand, ev_tor, ev_tnot, ev_and, ev_or, ev_not, ev_if, ev_chain, ev_true, ev_slice, ev_onone, ev_osome, ev_iseq, ev_irng, ev_ienum, ev_ibin, ev_lc, ev_skip, ev_never, ev_seq, ev_ret, ev_sif, ev_set, ev_expr, ev_asg, ev_par, ev_for, ev_fld, ev_gn, ev_gsnil, ev_gscons, ev_gt, ev_mkfn, ev_bok, ev_berr, ev_bfail, ev_tok, ev_hok, ev_ert, ev_enx, ev_wn, ev_wc, ev_e0, ev_sseq, ev_senum, ev_szip, ev_sltup, ev_ltI, ev_leI, ev_gtI, ev_geI, ev_subI, ev_addI, ev_lenT, List.map_cons, List.map_nil, List.length_cons, List.length_nil, List.cons_append, List.nil_append, List.append_nil, List.getElem?_cons_zero, List.getElem?_cons_succ, List.set_cons_zero, List.set_cons_succ, List.replicate_succ, List.replicate_zero, Nat.reduceAdd, Nat.reduceSub, Nat.reduceEqDiff, reduceIte, Bool.true_eq_false, Bool.false_eq_true, if_true, if_false, Bool.not_false, ruleD, h1, h2, tupsD, h3, h4, Bool.true_and, Bool.false_and, List.append_assoc]
                | true =>
                  refine ⟨[.lst (tl.map fun x => D.bl (condD ws n x)), .lst (cl.map fun x => D.bl (changeD ws x))], ?_⟩
                  simp only [ev_var, ev_c, ev_un, ev_bin, ev_anil, ev_acons, ev_fn, ev_tof, ev_tob, ev_tand, ev_tor, ev_tnot, ev_and, ev_or, ev_not, ev_if, ev_chain, ev_true, ev_slice, ev_onone, ev_osome, ev_iseq, ev_irng, ev_ienum, ev_ibin, ev_lc, ev_skip, ev_never, ev_seq, ev_ret, ev_sif, ev_set, ev_expr, ev_asg, ev_par, ev_for, ev_fld, ev_gn, ev_gsnil, ev_gscons, ev_gt, ev_mkfn, ev_bok, ev_berr, ev_bfail, ev_tok, ev_hok, ev_ert, ev_enx, ev_wn, ev_wc, ev_e0, ev_sseq, ev_senum, ev_szip, ev_sltup, ev_ltI, ev_leI, ev_gtI, ev_geI, ev_subI, ev_addI, ev_lenT, List.map_cons, List.map_nil, List.length_cons, List.length_nil, List.cons_append, List.nil_append, List.append_nil, List.getElem?_cons_zero, List.getElem?_cons_succ, List.set_cons_zero, List.set_cons_succ, List.replicate_succ, List.replicate_zero, Nat.reduceAdd, Nat.reduceSub, Nat.reduceEqDiff, reduceIte, Bool.true_eq_false, Bool.false_eq_true, if_true, if_false, Bool.not_true, hushes_of (dk_app (dk_app kh))]
                  cases h5 : hushesD n hs with
                  | false => simp only [ev_var, ev_c, ev_un, ev_bin, ev_anil, ev_acons, ev_fn, ev_tof, ev_tob, ev_tand, ev_tor, ev_tnot, ev_and, ev_or, ev_not, ev_if, ev_chain, ev_true, ev_slice, ev_onone, ev_osome, ev_iseq, ev_irng, ev_ienum, ev_ibin, ev_lc, ev_skip, ev_never, ev_seq, ev_ret, ev_sif, ev_set, ev_expr, ev_asg, ev_par, ev_for, ev_fld, ev_gn, ev_gsnil, ev_gscons, ev_gt, ev_mkfn, ev_bok, ev_berr, ev_bfail, ev_tok, ev_hok, ev_ert, ev_enx, ev_wn, ev_wc, ev_e0, ev_sseq, ev_senum, ev_szip, ev_sltup, ev_ltI, ev_leI, ev_gtI, ev_geI, ev_subI, ev_addI, ev_lenT, List.map_cons, List.map_nil, List.length_cons, List.length_nil, List.cons_append, List.nil_append, List.append_nil, List.getElem?_cons_zero, List.getElem?_cons_succ, List.set_cons_zero, List.set_cons_succ, List.replicate_succ, List.replicate_zero, Nat.reduceAdd, Nat.reduceSub, Nat.reduceEqDiff, reduceIte, Bool.true_eq_false, Bool.false_eq_true, if_true, if_false, ruleD, h1, h2, tupsD, h3, h4, h5, Bool.true_and, Bool.false_and, List.append_assoc]
                  | true =>
                    obtain ⟨hl2, rfl, hm5, hall⟩ := hushes_inv h5
                    simp only [ev_var, ev_c, ev_un, ev_bin, ev_anil, ev_acons, ev_fn, ev_tof, ev_tob, ev_tand, ev_tor, ev_tnot, ev_and, ev_or, ev_not, ev_if, ev_chain, ev_true, ev_slice, ev_onone, ev_osome, ev_iseq, ev_irng, ev_ienum, ev_ibin, ev_lc, ev_skip, ev_never, ev_seq, ev_ret, ev_sif, ev_set, ev_expr, ev_asg, ev_par, ev_for, ev_fld, ev_gn, ev_gsnil, ev_gscons, ev_gt, ev_mkfn, ev_bok, ev_berr, ev_bfail, ev_tok, ev_hok, ev_ert, ev_enx, ev_wn, ev_wc, ev_e0, ev_sseq, ev_senum, ev_szip, ev_sltup, ev_ltI, ev_leI, ev_gtI, ev_geI, ev_subI, ev_addI, ev_lenT, List.map_cons, List.map_nil, List.length_cons, List.length_nil, List.cons_append, List.nil_append, List.append_nil, List.getElem?_cons_zero, List.getElem?_cons_succ, List.set_cons_zero, List.set_cons_succ, List.replicate_succ, List.replicate_zero, Nat.reduceAdd, Nat.reduceSub, Nat.reduceEqDiff, reduceIte, Bool.true_eq_false, Bool.false_eq_true, if_true, if_false, wakes_of (dk_app (dk_app kk)) hall hm5]
                    simp only [ruleD, h1, h2, tupsD, h3, h4, h5, Bool.true_and, List.append_assoc, List.cons_append, List.nil_append]
        · have e : decide ((xs.length : Int) = 4) = false := decide_eq_false (by omega)
          refine ⟨[], ?_⟩
          simp only [m_is_rule, b_is_rule, ev_var, ev_c, ev_un, ev_bin, ev_anil, ev_acons, ev_fn, ev_tof, ev_tob, ev_tand, ev_tor, ev_tnot, ev_and, ev_or, ev_not, ev_if, ev_chain, ev_true, ev_slice, ev_onone, ev_osome, ev_iseq, ev_irng, ev_ienum, ev_ibin, ev_lc, ev_skip, ev_never, ev_seq, ev_ret, ev_sif, ev_set, ev_expr, ev_asg, ev_par, ev_for, ev_fld, ev_gn, ev_gsnil, ev_gscons, ev_gt, ev_mkfn, ev_bok, ev_berr, ev_bfail, ev_tok, ev_hok, ev_ert, ev_enx, ev_wn, ev_wc, ev_e0, ev_sseq, ev_senum, ev_szip, ev_sltup, ev_ltI, ev_leI, ev_gtI, ev_geI, ev_subI, ev_addI, ev_lenT, List.map_cons, List.map_nil, List.length_cons, List.length_nil, List.cons_append, List.nil_append, List.append_nil, List.getElem?_cons_zero, List.getElem?_cons_succ, List.set_cons_zero, List.set_cons_succ, List.replicate_succ, List.replicate_zero, Nat.reduceAdd, Nat.reduceSub, Nat.reduceEqDiff, reduceIte, Bool.true_eq_false, Bool.false_eq_true, if_true, if_false, isi_tup, Bool.not_true, eqN, e, Bool.not_false]
          congr 2
          unfold ruleD
          split
          · rename_i q
            cases q
            exact absurd rfl hl4
          · rfl
      | _ =>
        refine ⟨[], ?_⟩
        simp only [m_is_rule, b_is_rule, ev_var, ev_c, ev_un, ev_bin, ev_anil, ev_acons, ev_fn, ev_tof, ev_tob, ev_tand, ev_tor, ev_tnot, ev_and, ev_or, ev_not, ev_if, ev_chain, ev_true, ev_slice, ev_onone, ev_osome, ev_iseq, ev_irng, ev_ienum, ev_ibin, ev_lc, ev_skip, ev_never, ev_seq, ev_ret, ev_sif, ev_set, ev_expr, ev_asg, ev_par, ev_for, ev_fld, ev_gn, ev_gsnil, ev_gscons, ev_gt, ev_mkfn, ev_bok, ev_berr, ev_bfail, ev_tok, ev_hok, ev_ert, ev_enx, ev_wn, ev_wc, ev_e0, ev_sseq, ev_senum, ev_szip, ev_sltup, ev_ltI, ev_leI, ev_gtI, ev_geI, ev_subI, ev_addI, ev_lenT, List.map_cons, List.map_nil, List.length_cons, List.length_nil, List.cons_append, List.nil_append, List.append_nil, List.getElem?_cons_zero, List.getElem?_cons_succ, List.set_cons_zero, List.set_cons_succ, List.replicate_succ, List.replicate_zero, Nat.reduceAdd, Nat.reduceSub, Nat.reduceEqDiff, reduceIte, Bool.true_eq_false, Bool.false_eq_true, if_true, if_false, isi_tupD (dk_kn hk)]
        rfl
    · cases h'

def b_Book_init : SM := (sSeq (sIf (tOr (tNot (tOf (eFn s_is_wheels (aCons (eVar 1) aNil)))) (tNot (tOf (eFn s_is_row (aCons (eVar 2) (aCons (eC (.int 5)) aNil)))))) sNever sSkip)
    (sSeq (sFor (iEnum (eVar 2)) (gT 2 (gsCons (gN 3) (gsCons (gN 4) gsNil))) (sIf (tNot (tOf (eFn s_is_rule (aCons (eVar 1) (aCons (eFn fLen (aCons (eVar 2) aNil)) (aCons (eVar 4) aNil)))))) sNever sSkip))
    (sSeq (sFldM "Book" "wheels" (eVar 0) (eVar 1))
    (sFldM "Book" "rules" (eVar 0) (eVar 2)))))
def m_Book_init : Fm := mkFn 3 5 b_Book_init
def s_Book_init : Fm := wr 3 fun ds st => match ds with
  | [.ref k, .tup ws, .tup rs] => match st[k]? with
    | some (.ins c []) => if c = "Book" ∧ dk st (.tup ws) = true ∧ dk st (.tup rs) = true ∧ wheelsD (.tup ws) = true ∧ rs.length ≤ 5 ∧ (rs.all fun r => ruleWords r && ruleD ws rs.length r) = true then some (.non, st.set k (bookO ws rs)) else none
    | _ => none
  | _ => none
theorem a_Book_init : Arity 3 s_Book_init := wr_ar
theorem t_Book_init : Tells m_Book_init s_Book_init := .wr fun ds st d st1 g b hl h => by
  match ds, hl, h with
  | [.ref k, .tup ws, .tup rs], _, h =>
    have h' : (match st[k]? with | some (.ins c []) => if c = "Book" ∧ dk st (.tup ws) = true ∧ dk st (.tup rs) = true ∧ wheelsD (.tup ws) = true ∧ rs.length ≤ 5 ∧ (rs.all fun r => ruleWords r && ruleD ws rs.length r) = true then some (D.non, st.set k (bookO ws rs)) else none | _ => none) = some (d, st1) := h
    split at h'
    · rename_i c hq
      split at h'
      · rename_i hc
        cases h'
        obtain ⟨rfl, kw, kr, hw, h5, hall⟩ := hc
        have hk : k < st.length := (List.getElem?_eq_some_iff.mp hq).1
        simp only [Bnds] at b
        refine ⟨by simp, good_set g (by simp only [bookO, BndO, List.map_cons, List.map_nil, Bnds]; exact ⟨b.2.1, b.2.2.1, trivial⟩), by simp only [Bnd], [], ?_⟩
        have hI := wheels_ints hw
        have xr := dk_tup kr
        have r5 : s_is_row [.tup rs, .int 5] st = .ok (.bl true) st := by
          have := row_of (n := 5) (d := .tup rs) (st := st) rfl
          rw [show rowD 5 (.tup rs) = true from decide_eq_true h5] at this
          exact this
        simp only [m_Book_init, b_Book_init, ev_var, ev_c, ev_un, ev_bin, ev_anil, ev_acons, ev_fn, ev_tof, ev_tob, ev_tand, ev_tor, ev_tnot, ev_and, ev_or, ev_not, ev_if, ev_chain, ev_true, ev_slice, ev_onone, ev_osome, ev_iseq, ev_irng, ev_ienum, ev_ibin, ev_lc, ev_skip, ev_never, ev_seq, ev_ret, ev_sif, ev_set, ev_expr, ev_asg, ev_par, ev_for, ev_fld, ev_gn, ev_gsnil, ev_gscons, ev_gt, ev_mkfn, ev_bok, ev_berr, ev_bfail, ev_tok, ev_hok, ev_ert, ev_enx, ev_wn, ev_wc, ev_e0, ev_sseq, ev_senum, ev_szip, ev_sltup, ev_ltI, ev_leI, ev_gtI, ev_geI, ev_subI, ev_addI, ev_lenT, List.map_cons, List.map_nil, List.length_cons, List.length_nil, List.cons_append, List.nil_append, List.append_nil, List.getElem?_cons_zero, List.getElem?_cons_succ, List.set_cons_zero, List.set_cons_succ, List.replicate_succ, List.replicate_zero, Nat.reduceAdd, Nat.reduceSub, Nat.reduceEqDiff, reduceIte, Bool.true_eq_false, Bool.false_eq_true, if_true, if_false, wheels_of kw, hw, r5, Bool.not_true]
        obtain ⟨env', e1, x, y, e2⟩ := startFor_inv (s := .fix (enumFrom 0 rs)) (g := gT 2 (gsCons (gN 3) (gsCons (gN 4) gsNil))) (st := st) (xs := enumFrom 0 rs) (env := [some (.ref k), some (.tup ws), some (.tup rs), none, none])
          (body := sIf (tNot (tOf (eFn s_is_rule (aCons (eVar 1) (aCons (eFn fLen (aCons (eVar 2) aNil)) (aCons (eVar 4) aNil)))))) sNever sSkip) rfl (fun env => ∃ x y, env = [some (.ref k), some (.tup ws), some (.tup rs), x, y]) ⟨none, none, rfl⟩ fun p hp env ⟨x, y, he⟩ => by
            subst he
            obtain ⟨i, hi⟩ := List.getElem?_of_mem hp
            obtain ⟨r, hr, rfl⟩ := enum_get hi
            have hm := List.mem_of_getElem? hr
            have hq2 := List.all_eq_true.mp hall r hm
            simp only [Bool.and_eq_true] at hq2
            refine ⟨_, [some (.ref k), some (.tup ws), some (.tup rs), some (.int ((0 + i : Nat) : Int)), some r], rfl, ?_, _, _, rfl⟩
            simp only [ev_var, ev_c, ev_un, ev_bin, ev_anil, ev_acons, ev_fn, ev_tof, ev_tob, ev_tand, ev_tor, ev_tnot, ev_and, ev_or, ev_not, ev_if, ev_chain, ev_true, ev_slice, ev_onone, ev_osome, ev_iseq, ev_irng, ev_ienum, ev_ibin, ev_lc, ev_skip, ev_never, ev_seq, ev_ret, ev_sif, ev_set, ev_expr, ev_asg, ev_par, ev_for, ev_fld, ev_gn, ev_gsnil, ev_gscons, ev_gt, ev_mkfn, ev_bok, ev_berr, ev_bfail, ev_tok, ev_hok, ev_ert, ev_enx, ev_wn, ev_wc, ev_e0, ev_sseq, ev_senum, ev_szip, ev_sltup, ev_ltI, ev_leI, ev_gtI, ev_geI, ev_subI, ev_addI, ev_lenT, List.map_cons, List.map_nil, List.length_cons, List.length_nil, List.cons_append, List.nil_append, List.append_nil, List.getElem?_cons_zero, List.getElem?_cons_succ, List.set_cons_zero, List.set_cons_succ, List.replicate_succ, List.replicate_zero, Nat.reduceAdd, Nat.reduceSub, Nat.reduceEqDiff, reduceIte, Bool.true_eq_false, Bool.false_eq_true, if_true, if_false, rule_of (xr r hm) hq2.1 hI, hq2.2, Bool.not_true]
        rw [e1, e2]
        simp only [ev_var, ev_c, ev_un, ev_bin, ev_anil, ev_acons, ev_fn, ev_tof, ev_tob, ev_tand, ev_tor, ev_tnot, ev_and, ev_or, ev_not, ev_if, ev_chain, ev_true, ev_slice, ev_onone, ev_osome, ev_iseq, ev_irng, ev_ienum, ev_ibin, ev_lc, ev_skip, ev_never, ev_seq, ev_ret, ev_sif, ev_set, ev_expr, ev_asg, ev_par, ev_for, ev_fld, ev_gn, ev_gsnil, ev_gscons, ev_gt, ev_mkfn, ev_bok, ev_berr, ev_bfail, ev_tok, ev_hok, ev_ert, ev_enx, ev_wn, ev_wc, ev_e0, ev_sseq, ev_senum, ev_szip, ev_sltup, ev_ltI, ev_leI, ev_gtI, ev_geI, ev_subI, ev_addI, ev_lenT, List.map_cons, List.map_nil, List.length_cons, List.length_nil, List.cons_append, List.nil_append, List.append_nil, List.getElem?_cons_zero, List.getElem?_cons_succ, List.set_cons_zero, List.set_cons_succ, List.replicate_succ, List.replicate_zero, Nat.reduceAdd, Nat.reduceSub, Nat.reduceEqDiff, reduceIte, Bool.true_eq_false, Bool.false_eq_true, if_true, if_false, setFld_ok hq (show ([] : List (Str × D)).length < 400 by decide)]
        rw [setFld_ok (get_set hk) (by simp [putD])]
        simp only [ev_var, ev_c, ev_un, ev_bin, ev_anil, ev_acons, ev_fn, ev_tof, ev_tob, ev_tand, ev_tor, ev_tnot, ev_and, ev_or, ev_not, ev_if, ev_chain, ev_true, ev_slice, ev_onone, ev_osome, ev_iseq, ev_irng, ev_ienum, ev_ibin, ev_lc, ev_skip, ev_never, ev_seq, ev_ret, ev_sif, ev_set, ev_expr, ev_asg, ev_par, ev_for, ev_fld, ev_gn, ev_gsnil, ev_gscons, ev_gt, ev_mkfn, ev_bok, ev_berr, ev_bfail, ev_tok, ev_hok, ev_ert, ev_enx, ev_wn, ev_wc, ev_e0, ev_sseq, ev_senum, ev_szip, ev_sltup, ev_ltI, ev_leI, ev_gtI, ev_geI, ev_subI, ev_addI, ev_lenT, List.map_cons, List.map_nil, List.length_cons, List.length_nil, List.cons_append, List.nil_append, List.append_nil, List.getElem?_cons_zero, List.getElem?_cons_succ, List.set_cons_zero, List.set_cons_succ, List.replicate_succ, List.replicate_zero, Nat.reduceAdd, Nat.reduceSub, Nat.reduceEqDiff, reduceIte, Bool.true_eq_false, Bool.false_eq_true, if_true, if_false, List.set_set, book_put]
      · cases h'
    · cases h'
theorem book_init_of {st : Sto} {k : Nat} {ws rs : List D} (hq : st[k]? = some (.ins "Book" [])) (kw : dk st (.tup ws) = true) (kr : dk st (.tup rs) = true) (hw : wheelsD (.tup ws) = true) (h5 : rs.length ≤ 5) (ha : (rs.all fun r => ruleWords r && ruleD ws rs.length r) = true) : s_Book_init [.ref k, .tup ws, .tup rs] st = .ok .non (st.set k (bookO ws rs)) := by
  refine wr_ok rfl ?_
  show (match st[k]? with | some (.ins c []) => if c = "Book" ∧ dk st (.tup ws) = true ∧ dk st (.tup rs) = true ∧ wheelsD (.tup ws) = true ∧ rs.length ≤ 5 ∧ (rs.all fun r => ruleWords r && ruleD ws rs.length r) = true then some (D.non, st.set k (bookO ws rs)) else none | _ => none) = _
  rw [hq]
  show (if ("Book" : Str) = ("Book" : Str) ∧ dk st (.tup ws) = true ∧ dk st (.tup rs) = true ∧ wheelsD (.tup ws) = true ∧ rs.length ≤ 5 ∧ (rs.all fun r => ruleWords r && ruleD ws rs.length r) = true then some (D.non, st.set k (bookO ws rs)) else none) = _
  rw [if_pos ⟨rfl, kw, kr, hw, h5, ha⟩]
theorem book_made {st : Sto} {ws rs : List D} (kw : dk st (.tup ws) = true) (kr : dk st (.tup rs) = true) (hw : wheelsD (.tup ws) = true) (h5 : rs.length ≤ 5) (ha : (rs.all fun r => ruleWords r && ruleD ws rs.length r) = true) : mkIns "Book" s_Book_init [.tup ws, .tup rs] st = .ok (.ref st.length) (st ++ [bookO ws rs]) := by
  unfold mkIns
  rw [book_init_of get_end (dk_app kw) (dk_app kr) hw h5 ha, set_end]
  rfl

def b_is_so : SM := (sSeq (sSet 3 (eBin dIx (eVar 0) (eC (.int 0))))
    (sSeq (sIf (tOf (eBin (dEq false) (eVar 3) (eC (.str "hushed")))) (sRet (eBin dGt (eBin dIx (eVar 2) (eBin dIx (eVar 0) (eC (.int 1)))) (eC (.int 0)))) sSkip)
    (sSeq (sIf (tOf (eBin (dEq false) (eVar 3) (eC (.str "awake")))) (sRet (eBin (dEq false) (eBin dIx (eVar 2) (eBin dIx (eVar 0) (eC (.int 1)))) (eC (.int 0)))) sSkip)
    (sSeq (sSet 4 (eBin dIx (eVar 1) (eBin dIx (eVar 0) (eC (.int 1)))))
    (sSeq (sSet 5 (eBin dIx (eVar 0) (eC (.int 2))))
    (sSeq (sIf (tOf (eBin (dEq false) (eVar 3) (eC (.str "is")))) (sRet (eBin (dEq false) (eVar 4) (eVar 5))) sSkip)
    (sSeq (sIf (tOf (eBin (dEq false) (eVar 3) (eC (.str "not")))) (sRet (eBin (dEq true) (eVar 4) (eVar 5))) sSkip)
    (sRet (eBin dLt (eVar 4) (eVar 5))))))))))
def m_is_so : Fm := mkFn 3 6 b_is_so
def s_is_so : Fm := obs 3 fun ds st => match ds with
  | [c, v, l] => match seqOf st v, seqOf st l with
    | some vs, some ls => (soO c vs ls).map D.bl
    | _, _ => none
  | _ => none
theorem a_is_so : Arity 3 s_is_so := obs_ar
theorem so_of {c v l : D} {st : Sto} {vs ls : List D} {b : Bool} (hv : seqOf st v = some vs) (hl : seqOf st l = some ls) (h : soO c vs ls = some b) : s_is_so [c, v, l] st = .ok (.bl b) st := by
  refine obs_ok rfl ?_
  show (match seqOf st v, seqOf st l with | some vs, some ls => (soO c vs ls).map D.bl | _, _ => none) = _
  rw [hv, hl]
  show (soO c vs ls).map D.bl = _
  rw [h]
  rfl
theorem t_is_so : Tells m_is_so s_is_so := .obs fun ds st d g b hl h => by
  match ds, hl, h with
  | [c, v, l], _, h =>
    have h' : (match seqOf st v, seqOf st l with | some vs, some ls => (soO c vs ls).map D.bl | _, _ => none) = some d := h
    cases hv : seqOf st v with
    | none => rw [hv] at h'; cases h'
    | some vs =>
      cases hl2 : seqOf st l with
      | none => rw [hv, hl2] at h'; cases h'
      | some ls =>
        rw [hv, hl2] at h'
        obtain ⟨q, hq, rfl⟩ := Option.map_eq_some_iff.mp h'
        refine ⟨by simp only [Bnd], [], ?_⟩
        unfold soO at hq
        split at hq
        · rename_i w r _
          split at hq
          · rename_i i hi
            by_cases h1 : w = "hushed"
            · subst h1
              rw [if_pos rfl] at hq
              cases hq
              simp only [m_is_so, b_is_so, ev_var, ev_c, ev_un, ev_bin, ev_anil, ev_acons, ev_fn, ev_tof, ev_tob, ev_tand, ev_tor, ev_tnot, ev_and, ev_or, ev_not, ev_if, ev_chain, ev_true, ev_slice, ev_onone, ev_osome, ev_iseq, ev_irng, ev_ienum, ev_ibin, ev_lc, ev_skip, ev_never, ev_seq, ev_ret, ev_sif, ev_set, ev_expr, ev_asg, ev_par, ev_for, ev_fld, ev_gn, ev_gsnil, ev_gscons, ev_gt, ev_mkfn, ev_bok, ev_berr, ev_bfail, ev_tok, ev_hok, ev_ert, ev_enx, ev_wn, ev_wc, ev_e0, ev_sseq, ev_senum, ev_szip, ev_sltup, ev_ltI, ev_leI, ev_gtI, ev_geI, ev_subI, ev_addI, ev_lenT, List.map_cons, List.map_nil, List.length_cons, List.length_nil, List.cons_append, List.nil_append, List.append_nil, List.getElem?_cons_zero, List.getElem?_cons_succ, List.set_cons_zero, List.set_cons_succ, List.replicate_succ, List.replicate_zero, Nat.reduceAdd, Nat.reduceSub, Nat.reduceEqDiff, reduceIte, Bool.true_eq_false, Bool.false_eq_true, if_true, if_false, ixS (st := st) (v := .tup [.str "hushed", .int r]) (i := 0) rfl rfl, ixS (st := st) (v := .tup [.str "hushed", .int r]) (i := 1) rfl rfl, ixS hl2 hi, strEq "hushed" "hushed" (by decide +kernel) (by decide +kernel), beq_self_eq_true]
            · rw [if_neg h1] at hq
              by_cases h2 : w = "awake"
              · subst h2
                rw [if_pos rfl] at hq
                cases hq
                simp only [m_is_so, b_is_so, ev_var, ev_c, ev_un, ev_bin, ev_anil, ev_acons, ev_fn, ev_tof, ev_tob, ev_tand, ev_tor, ev_tnot, ev_and, ev_or, ev_not, ev_if, ev_chain, ev_true, ev_slice, ev_onone, ev_osome, ev_iseq, ev_irng, ev_ienum, ev_ibin, ev_lc, ev_skip, ev_never, ev_seq, ev_ret, ev_sif, ev_set, ev_expr, ev_asg, ev_par, ev_for, ev_fld, ev_gn, ev_gsnil, ev_gscons, ev_gt, ev_mkfn, ev_bok, ev_berr, ev_bfail, ev_tok, ev_hok, ev_ert, ev_enx, ev_wn, ev_wc, ev_e0, ev_sseq, ev_senum, ev_szip, ev_sltup, ev_ltI, ev_leI, ev_gtI, ev_geI, ev_subI, ev_addI, ev_lenT, List.map_cons, List.map_nil, List.length_cons, List.length_nil, List.cons_append, List.nil_append, List.append_nil, List.getElem?_cons_zero, List.getElem?_cons_succ, List.set_cons_zero, List.set_cons_succ, List.replicate_succ, List.replicate_zero, Nat.reduceAdd, Nat.reduceSub, Nat.reduceEqDiff, reduceIte, Bool.true_eq_false, Bool.false_eq_true, if_true, if_false, ixS (st := st) (v := .tup [.str "awake", .int r]) (i := 0) rfl rfl, ixS (st := st) (v := .tup [.str "awake", .int r]) (i := 1) rfl rfl, ixS hl2 hi, strEq "awake" "hushed" (by decide +kernel) (by decide +kernel), strEq "awake" "awake" (by decide +kernel) (by decide +kernel), beq_self_eq_true, show (("awake" : Str) == "hushed") = false by decide +kernel, eqI]
              · rw [if_neg h2] at hq; cases hq
          · cases hq
        · rename_i w x p _
          split at hq
          · rename_i i hi
            have key : ∀ u : Str, SeqAt.shaped (.str u) = true → (u == ("hushed" : Str)) = false → (u == ("awake" : Str)) = false → w = u → m_is_so [.tup [.str w, .int x, .int p], v, l] st = (if u = "is" then .ok (.bl (i == p)) st else if u = "not" then .ok (.bl (!(i == p))) st else .ok (.bl (decide (i < p))) st) := by
              intro u hu e1 e2 hw
              subst hw
              have e3 : (w == ("is" : Str)) = decide (w = "is") := by by_cases z : w = "is" <;> simp [z]
              have e4 : (w == ("not" : Str)) = decide (w = "not") := by by_cases z : w = "not" <;> simp [z]
              simp only [m_is_so, b_is_so, ev_var, ev_c, ev_un, ev_bin, ev_anil, ev_acons, ev_fn, ev_tof, ev_tob, ev_tand, ev_tor, ev_tnot, ev_and, ev_or, ev_not, ev_if, ev_chain, ev_true, ev_slice, ev_onone, ev_osome, ev_iseq, ev_irng, ev_ienum, ev_ibin, ev_lc, ev_skip, ev_never, ev_seq, ev_ret, ev_sif, ev_set, ev_expr, ev_asg, ev_par, ev_for, ev_fld, ev_gn, ev_gsnil, ev_gscons, ev_gt, ev_mkfn, ev_bok, ev_berr, ev_bfail, ev_tok, ev_hok, ev_ert, ev_enx, ev_wn, ev_wc, ev_e0, ev_sseq, ev_senum, ev_szip, ev_sltup, ev_ltI, ev_leI, ev_gtI, ev_geI, ev_subI, ev_addI, ev_lenT, List.map_cons, List.map_nil, List.length_cons, List.length_nil, List.cons_append, List.nil_append, List.append_nil, List.getElem?_cons_zero, List.getElem?_cons_succ, List.set_cons_zero, List.set_cons_succ, List.replicate_succ, List.replicate_zero, Nat.reduceAdd, Nat.reduceSub, Nat.reduceEqDiff, reduceIte, Bool.true_eq_false, Bool.false_eq_true, if_true, if_false, ixS (st := st) (v := .tup [.str w, .int x, .int p]) (i := 0) rfl rfl, ixS (st := st) (v := .tup [.str w, .int x, .int p]) (i := 1) rfl rfl, ixS (st := st) (v := .tup [.str w, .int x, .int p]) (i := 2) rfl rfl, ixS hv hi, strEq w "hushed" hu (by decide +kernel), strEq w "awake" hu (by decide +kernel), e1, e2, strEq w "is" hu (by decide +kernel), strEq w "not" hu (by decide +kernel), e3, e4, eqI]
              by_cases z1 : w = "is"
              · simp only [decide_eq_true z1, ev_var, ev_c, ev_un, ev_bin, ev_anil, ev_acons, ev_fn, ev_tof, ev_tob, ev_tand, ev_tor, ev_tnot, ev_and, ev_or, ev_not, ev_if, ev_chain, ev_true, ev_slice, ev_onone, ev_osome, ev_iseq, ev_irng, ev_ienum, ev_ibin, ev_lc, ev_skip, ev_never, ev_seq, ev_ret, ev_sif, ev_set, ev_expr, ev_asg, ev_par, ev_for, ev_fld, ev_gn, ev_gsnil, ev_gscons, ev_gt, ev_mkfn, ev_bok, ev_berr, ev_bfail, ev_tok, ev_hok, ev_ert, ev_enx, ev_wn, ev_wc, ev_e0, ev_sseq, ev_senum, ev_szip, ev_sltup, ev_ltI, ev_leI, ev_gtI, ev_geI, ev_subI, ev_addI, ev_lenT, List.map_cons, List.map_nil, List.length_cons, List.length_nil, List.cons_append, List.nil_append, List.append_nil, List.getElem?_cons_zero, List.getElem?_cons_succ, List.set_cons_zero, List.set_cons_succ, List.replicate_succ, List.replicate_zero, Nat.reduceAdd, Nat.reduceSub, Nat.reduceEqDiff, reduceIte, Bool.true_eq_false, Bool.false_eq_true, if_true, if_false, eqI, if_pos z1]
              · by_cases z2 : w = "not"
                · simp only [decide_eq_false z1, decide_eq_true z2, ev_var, ev_c, ev_un, ev_bin, ev_anil, ev_acons, ev_fn, ev_tof, ev_tob, ev_tand, ev_tor, ev_tnot, ev_and, ev_or, ev_not, ev_if, ev_chain, ev_true, ev_slice, ev_onone, ev_osome, ev_iseq, ev_irng, ev_ienum, ev_ibin, ev_lc, ev_skip, ev_never, ev_seq, ev_ret, ev_sif, ev_set, ev_expr, ev_asg, ev_par, ev_for, ev_fld, ev_gn, ev_gsnil, ev_gscons, ev_gt, ev_mkfn, ev_bok, ev_berr, ev_bfail, ev_tok, ev_hok, ev_ert, ev_enx, ev_wn, ev_wc, ev_e0, ev_sseq, ev_senum, ev_szip, ev_sltup, ev_ltI, ev_leI, ev_gtI, ev_geI, ev_subI, ev_addI, ev_lenT, List.map_cons, List.map_nil, List.length_cons, List.length_nil, List.cons_append, List.nil_append, List.append_nil, List.getElem?_cons_zero, List.getElem?_cons_succ, List.set_cons_zero, List.set_cons_succ, List.replicate_succ, List.replicate_zero, Nat.reduceAdd, Nat.reduceSub, Nat.reduceEqDiff, reduceIte, Bool.true_eq_false, Bool.false_eq_true, if_true, if_false, strEq w "not" hu (by decide +kernel), e4, eqI, if_neg z1, if_pos z2]
                · simp only [decide_eq_false z1, decide_eq_false z2, ev_var, ev_c, ev_un, ev_bin, ev_anil, ev_acons, ev_fn, ev_tof, ev_tob, ev_tand, ev_tor, ev_tnot, ev_and, ev_or, ev_not, ev_if, ev_chain, ev_true, ev_slice, ev_onone, ev_osome, ev_iseq, ev_irng, ev_ienum, ev_ibin, ev_lc, ev_skip, ev_never, ev_seq, ev_ret, ev_sif, ev_set, ev_expr, ev_asg, ev_par, ev_for, ev_fld, ev_gn, ev_gsnil, ev_gscons, ev_gt, ev_mkfn, ev_bok, ev_berr, ev_bfail, ev_tok, ev_hok, ev_ert, ev_enx, ev_wn, ev_wc, ev_e0, ev_sseq, ev_senum, ev_szip, ev_sltup, ev_ltI, ev_leI, ev_gtI, ev_geI, ev_subI, ev_addI, ev_lenT, List.map_cons, List.map_nil, List.length_cons, List.length_nil, List.cons_append, List.nil_append, List.append_nil, List.getElem?_cons_zero, List.getElem?_cons_succ, List.set_cons_zero, List.set_cons_succ, List.replicate_succ, List.replicate_zero, Nat.reduceAdd, Nat.reduceSub, Nat.reduceEqDiff, reduceIte, Bool.true_eq_false, Bool.false_eq_true, if_true, if_false, strEq w "not" hu (by decide +kernel), e4, eqI, if_neg z1, if_neg z2]
            rw [List.append_nil]
            by_cases h1 : w = "is"
            · rw [if_pos h1] at hq; cases hq
              rw [key "is" (by decide +kernel) (by decide +kernel) (by decide +kernel) h1, if_pos rfl]
            · rw [if_neg h1] at hq
              by_cases h2 : w = "not"
              · rw [if_pos h2] at hq; cases hq
                rw [key "not" (by decide +kernel) (by decide +kernel) (by decide +kernel) h2, if_neg (by decide +kernel), if_pos rfl]
              · rw [if_neg h2] at hq
                by_cases h3 : w = "below"
                · rw [if_pos h3] at hq; cases hq
                  rw [key "below" (by decide +kernel) (by decide +kernel) (by decide +kernel) h3, if_neg (by decide +kernel), if_neg (by decide +kernel)]
                · rw [if_neg h3] at hq; cases hq
          · cases hq
        · cases hq

def b_is_ready : SM := (sSeq (sIf (tOf (eBin dGt (eBin dIx (eVar 3) (eVar 1)) (eC (.int 0)))) (sRet (eC (.bl false))) sSkip)
    (sSeq (sFor (iSeq (eBin dIx (eBin dIx (eUn (dFld "Book" "rules") (eVar 0)) (eVar 1)) (eC (.int 0)))) (gN 4) (sIf (tNot (tOf (eFn s_is_so (aCons (eVar 4) (aCons (eVar 2) (aCons (eVar 3) aNil)))))) (sRet (eC (.bl false))) sSkip))
    (sRet (eC (.bl true)))))
def m_is_ready : Fm := mkFn 4 5 b_is_ready
def s_is_ready : Fm := obs 4 fun ds st => match ds with
  | [bk, .int r, v, l] => match bookD st bk, seqOf st v, seqOf st l with
    | some (_, rs), some vs, some ls => (readyO rs r vs ls).map D.bl
    | _, _, _ => none
  | _ => none
theorem a_is_ready : Arity 4 s_is_ready := obs_ar
theorem ready_of {bk v l : D} {st : Sto} {ws rs vs ls : List D} {r : Int} {b : Bool} (hb : bookD st bk = some (ws, rs)) (hv : seqOf st v = some vs) (hl : seqOf st l = some ls) (h : readyO rs r vs ls = some b) : s_is_ready [bk, .int r, v, l] st = .ok (.bl b) st := by
  refine obs_ok rfl ?_
  show (match bookD st bk, seqOf st v, seqOf st l with | some (_, rs), some vs, some ls => (readyO rs r vs ls).map D.bl | _, _, _ => none) = _
  rw [hb, hv, hl]
  show (readyO rs r vs ls).map D.bl = _
  rw [h]
  rfl
theorem t_is_ready : Tells m_is_ready s_is_ready := .obs fun ds st d g b hl h => by
  match ds, hl, h with
  | [bk, .int r, v, l], _, h =>
    have h' : (match bookD st bk, seqOf st v, seqOf st l with | some (_, rs), some vs, some ls => (readyO rs r vs ls).map D.bl | _, _, _ => none) = some d := h
    split at h'
    · rename_i ws rs vs ls hb hv hl2
      obtain ⟨q, hq, rfl⟩ := Option.map_eq_some_iff.mp h'
      refine ⟨by simp only [Bnd], [], ?_⟩
      rw [List.append_nil]
      unfold readyO at hq
      split at hq
      · rename_i i cs c2 c3 c4 hi hr
        simp only [m_is_ready, b_is_ready, ev_var, ev_c, ev_un, ev_bin, ev_anil, ev_acons, ev_fn, ev_tof, ev_tob, ev_tand, ev_tor, ev_tnot, ev_and, ev_or, ev_not, ev_if, ev_chain, ev_true, ev_slice, ev_onone, ev_osome, ev_iseq, ev_irng, ev_ienum, ev_ibin, ev_lc, ev_skip, ev_never, ev_seq, ev_ret, ev_sif, ev_set, ev_expr, ev_asg, ev_par, ev_for, ev_fld, ev_gn, ev_gsnil, ev_gscons, ev_gt, ev_mkfn, ev_bok, ev_berr, ev_bfail, ev_tok, ev_hok, ev_ert, ev_enx, ev_wn, ev_wc, ev_e0, ev_sseq, ev_senum, ev_szip, ev_sltup, ev_ltI, ev_leI, ev_gtI, ev_geI, ev_subI, ev_addI, ev_lenT, List.map_cons, List.map_nil, List.length_cons, List.length_nil, List.cons_append, List.nil_append, List.append_nil, List.getElem?_cons_zero, List.getElem?_cons_succ, List.set_cons_zero, List.set_cons_succ, List.replicate_succ, List.replicate_zero, Nat.reduceAdd, Nat.reduceSub, Nat.reduceEqDiff, reduceIte, Bool.true_eq_false, Bool.false_eq_true, if_true, if_false, ixS hl2 hi]
        by_cases h0 : 0 < i
        · rw [if_pos h0] at hq
          cases hq
          simp only [decide_eq_true h0, ev_var, ev_c, ev_un, ev_bin, ev_anil, ev_acons, ev_fn, ev_tof, ev_tob, ev_tand, ev_tor, ev_tnot, ev_and, ev_or, ev_not, ev_if, ev_chain, ev_true, ev_slice, ev_onone, ev_osome, ev_iseq, ev_irng, ev_ienum, ev_ibin, ev_lc, ev_skip, ev_never, ev_seq, ev_ret, ev_sif, ev_set, ev_expr, ev_asg, ev_par, ev_for, ev_fld, ev_gn, ev_gsnil, ev_gscons, ev_gt, ev_mkfn, ev_bok, ev_berr, ev_bfail, ev_tok, ev_hok, ev_ert, ev_enx, ev_wn, ev_wc, ev_e0, ev_sseq, ev_senum, ev_szip, ev_sltup, ev_ltI, ev_leI, ev_gtI, ev_geI, ev_subI, ev_addI, ev_lenT, List.map_cons, List.map_nil, List.length_cons, List.length_nil, List.cons_append, List.nil_append, List.append_nil, List.getElem?_cons_zero, List.getElem?_cons_succ, List.set_cons_zero, List.set_cons_succ, List.replicate_succ, List.replicate_zero, Nat.reduceAdd, Nat.reduceSub, Nat.reduceEqDiff, reduceIte, Bool.true_eq_false, Bool.false_eq_true, if_true, if_false]
        · rw [if_neg h0] at hq
          split at hq
          · rename_i hall
            cases hq
            simp only [decide_eq_false h0, ev_var, ev_c, ev_un, ev_bin, ev_anil, ev_acons, ev_fn, ev_tof, ev_tob, ev_tand, ev_tor, ev_tnot, ev_and, ev_or, ev_not, ev_if, ev_chain, ev_true, ev_slice, ev_onone, ev_osome, ev_iseq, ev_irng, ev_ienum, ev_ibin, ev_lc, ev_skip, ev_never, ev_seq, ev_ret, ev_sif, ev_set, ev_expr, ev_asg, ev_par, ev_for, ev_fld, ev_gn, ev_gsnil, ev_gscons, ev_gt, ev_mkfn, ev_bok, ev_berr, ev_bfail, ev_tok, ev_hok, ev_ert, ev_enx, ev_wn, ev_wc, ev_e0, ev_sseq, ev_senum, ev_szip, ev_sltup, ev_ltI, ev_leI, ev_gtI, ev_geI, ev_subI, ev_addI, ev_lenT, List.map_cons, List.map_nil, List.length_cons, List.length_nil, List.cons_append, List.nil_append, List.append_nil, List.getElem?_cons_zero, List.getElem?_cons_succ, List.set_cons_zero, List.set_cons_succ, List.replicate_succ, List.replicate_zero, Nat.reduceAdd, Nat.reduceSub, Nat.reduceEqDiff, reduceIte, Bool.true_eq_false, Bool.false_eq_true, if_true, if_false, book_rules hb, ixS (st := st) (v := .tup rs) rfl hr, ixS (st := st) (v := .tup [.tup cs, c2, c3, c4]) (i := 0) rfl rfl]
            have key := startFor_all (s := .fix cs) (g := gN 4) (st := st) (xs := cs) (P := fun c => soO c vs ls == some true) (d := .bl false) (env := [some bk, some (.int r), some v, some l, none])
              (body := sIf (tNot (tOf (eFn s_is_so (aCons (eVar 4) (aCons (eVar 2) (aCons (eVar 3) aNil)))))) (sRet (eC (.bl false))) sSkip) rfl (fun env => ∃ x, env = [some bk, some (.int r), some v, some l, x]) ⟨none, rfl⟩ fun c hc env ⟨x, he⟩ => by
                subst he
                obtain ⟨z, hz⟩ := Option.isSome_iff_exists.mp (List.all_eq_true.mp hall c hc)
                refine ⟨_, rfl, fun hp => ⟨[some bk, some (.int r), some v, some l, some c], ?_, _, rfl⟩, fun hp => ?_⟩
                · have hz2 : z = true := by rw [hz] at hp; simpa using hp
                  subst hz2
                  simp only [ev_var, ev_c, ev_un, ev_bin, ev_anil, ev_acons, ev_fn, ev_tof, ev_tob, ev_tand, ev_tor, ev_tnot, ev_and, ev_or, ev_not, ev_if, ev_chain, ev_true, ev_slice, ev_onone, ev_osome, ev_iseq, ev_irng, ev_ienum, ev_ibin, ev_lc, ev_skip, ev_never, ev_seq, ev_ret, ev_sif, ev_set, ev_expr, ev_asg, ev_par, ev_for, ev_fld, ev_gn, ev_gsnil, ev_gscons, ev_gt, ev_mkfn, ev_bok, ev_berr, ev_bfail, ev_tok, ev_hok, ev_ert, ev_enx, ev_wn, ev_wc, ev_e0, ev_sseq, ev_senum, ev_szip, ev_sltup, ev_ltI, ev_leI, ev_gtI, ev_geI, ev_subI, ev_addI, ev_lenT, List.map_cons, List.map_nil, List.length_cons, List.length_nil, List.cons_append, List.nil_append, List.append_nil, List.getElem?_cons_zero, List.getElem?_cons_succ, List.set_cons_zero, List.set_cons_succ, List.replicate_succ, List.replicate_zero, Nat.reduceAdd, Nat.reduceSub, Nat.reduceEqDiff, reduceIte, Bool.true_eq_false, Bool.false_eq_true, if_true, if_false, so_of hv hl2 hz, Bool.not_true]
                · have hz2 : z = false := by rw [hz] at hp; simpa using hp
                  subst hz2
                  simp only [ev_var, ev_c, ev_un, ev_bin, ev_anil, ev_acons, ev_fn, ev_tof, ev_tob, ev_tand, ev_tor, ev_tnot, ev_and, ev_or, ev_not, ev_if, ev_chain, ev_true, ev_slice, ev_onone, ev_osome, ev_iseq, ev_irng, ev_ienum, ev_ibin, ev_lc, ev_skip, ev_never, ev_seq, ev_ret, ev_sif, ev_set, ev_expr, ev_asg, ev_par, ev_for, ev_fld, ev_gn, ev_gsnil, ev_gscons, ev_gt, ev_mkfn, ev_bok, ev_berr, ev_bfail, ev_tok, ev_hok, ev_ert, ev_enx, ev_wn, ev_wc, ev_e0, ev_sseq, ev_senum, ev_szip, ev_sltup, ev_ltI, ev_leI, ev_gtI, ev_geI, ev_subI, ev_addI, ev_lenT, List.map_cons, List.map_nil, List.length_cons, List.length_nil, List.cons_append, List.nil_append, List.append_nil, List.getElem?_cons_zero, List.getElem?_cons_succ, List.set_cons_zero, List.set_cons_succ, List.replicate_succ, List.replicate_zero, Nat.reduceAdd, Nat.reduceSub, Nat.reduceEqDiff, reduceIte, Bool.true_eq_false, Bool.false_eq_true, if_true, if_false, so_of hv hl2 hz, Bool.not_false]
            cases hA : cs.all fun c => soO c vs ls == some true with
            | true =>
              obtain ⟨env', e1, _⟩ := key.1 hA
              rw [e1]
              simp only [ev_var, ev_c, ev_un, ev_bin, ev_anil, ev_acons, ev_fn, ev_tof, ev_tob, ev_tand, ev_tor, ev_tnot, ev_and, ev_or, ev_not, ev_if, ev_chain, ev_true, ev_slice, ev_onone, ev_osome, ev_iseq, ev_irng, ev_ienum, ev_ibin, ev_lc, ev_skip, ev_never, ev_seq, ev_ret, ev_sif, ev_set, ev_expr, ev_asg, ev_par, ev_for, ev_fld, ev_gn, ev_gsnil, ev_gscons, ev_gt, ev_mkfn, ev_bok, ev_berr, ev_bfail, ev_tok, ev_hok, ev_ert, ev_enx, ev_wn, ev_wc, ev_e0, ev_sseq, ev_senum, ev_szip, ev_sltup, ev_ltI, ev_leI, ev_gtI, ev_geI, ev_subI, ev_addI, ev_lenT, List.map_cons, List.map_nil, List.length_cons, List.length_nil, List.cons_append, List.nil_append, List.append_nil, List.getElem?_cons_zero, List.getElem?_cons_succ, List.set_cons_zero, List.set_cons_succ, List.replicate_succ, List.replicate_zero, Nat.reduceAdd, Nat.reduceSub, Nat.reduceEqDiff, reduceIte, Bool.true_eq_false, Bool.false_eq_true, if_true, if_false]
            | false =>
              rw [key.2 hA]
              simp only [ev_var, ev_c, ev_un, ev_bin, ev_anil, ev_acons, ev_fn, ev_tof, ev_tob, ev_tand, ev_tor, ev_tnot, ev_and, ev_or, ev_not, ev_if, ev_chain, ev_true, ev_slice, ev_onone, ev_osome, ev_iseq, ev_irng, ev_ienum, ev_ibin, ev_lc, ev_skip, ev_never, ev_seq, ev_ret, ev_sif, ev_set, ev_expr, ev_asg, ev_par, ev_for, ev_fld, ev_gn, ev_gsnil, ev_gscons, ev_gt, ev_mkfn, ev_bok, ev_berr, ev_bfail, ev_tok, ev_hok, ev_ert, ev_enx, ev_wn, ev_wc, ev_e0, ev_sseq, ev_senum, ev_szip, ev_sltup, ev_ltI, ev_leI, ev_gtI, ev_geI, ev_subI, ev_addI, ev_lenT, List.map_cons, List.map_nil, List.length_cons, List.length_nil, List.cons_append, List.nil_append, List.append_nil, List.getElem?_cons_zero, List.getElem?_cons_succ, List.set_cons_zero, List.set_cons_succ, List.replicate_succ, List.replicate_zero, Nat.reduceAdd, Nat.reduceSub, Nat.reduceEqDiff, reduceIte, Bool.true_eq_false, Bool.false_eq_true, if_true, if_false]
          · cases hq
      · cases hq
    · cases h'

def b_may_do : SM := (sSeq (sExpr (eFn s_want_state (aCons (eVar 0) (aCons (eVar 1) aNil))))
    (sSeq (sExpr (eFn s_want_rule (aCons (eVar 0) (aCons (eVar 2) aNil))))
    (sSeq (sAsg (eVar 1) (gT 2 (gsCons (gN 3) (gsCons (gN 4) gsNil))))
    (sRet (eFn s_is_ready (aCons (eVar 0) (aCons (eVar 2) (aCons (eVar 3) (aCons (eVar 4) aNil)))))))))
def m_may_do : Fm := mkFn 3 5 b_may_do
def s_may_do : Fm := obs 3 fun ds st => match ds with
  | [bk, .tup [.tup vs, .tup ls], .int r] => match bookD st bk with
    | some (ws, rs) => if ws.all isI = true ∧ vs.all isI = true ∧ ls.all isI = true ∧ vs.length ≤ most ∧ ls.length ≤ most ∧ stateD ws rs.length (.tup [.tup vs, .tup ls]) = true ∧ withinD 0 (rs.length - 1) (.int r) = true then (readyO rs r vs ls).map D.bl else none
    | none => none
  | _ => none
theorem a_may_do : Arity 3 s_may_do := obs_ar
theorem may_of {bk : D} {st : Sto} {ws rs vs ls : List D} {r : Int} {b : Bool} (hb : bookD st bk = some (ws, rs)) (h1 : ws.all isI = true) (h2 : vs.all isI = true) (h3 : ls.all isI = true) (h4 : vs.length ≤ most) (h5 : ls.length ≤ most) (h6 : stateD ws rs.length (.tup [.tup vs, .tup ls]) = true) (h7 : withinD 0 (rs.length - 1) (.int r) = true) (h : readyO rs r vs ls = some b) :
    s_may_do [bk, .tup [.tup vs, .tup ls], .int r] st = .ok (.bl b) st := by
  refine obs_ok rfl ?_
  show (match bookD st bk with | some (ws, rs) => if ws.all isI = true ∧ vs.all isI = true ∧ ls.all isI = true ∧ vs.length ≤ most ∧ ls.length ≤ most ∧ stateD ws rs.length (.tup [.tup vs, .tup ls]) = true ∧ withinD 0 (rs.length - 1) (.int r) = true then (readyO rs r vs ls).map D.bl else none | none => none) = _
  rw [hb]
  show (if _ then (readyO rs r vs ls).map D.bl else none) = _
  rw [if_pos ⟨h1, h2, h3, h4, h5, h6, h7⟩, h]
  rfl
theorem t_may_do : Tells m_may_do s_may_do := .obs fun ds st d g b hl h => by
  match ds, hl, h with
  | [bk, .tup [.tup vs, .tup ls], .int r], _, h =>
    have h' : (match bookD st bk with | some (ws, rs) => if ws.all isI = true ∧ vs.all isI = true ∧ ls.all isI = true ∧ vs.length ≤ most ∧ ls.length ≤ most ∧ stateD ws rs.length (.tup [.tup vs, .tup ls]) = true ∧ withinD 0 (rs.length - 1) (.int r) = true then (readyO rs r vs ls).map D.bl else none | none => none) = some d := h
    cases hb : bookD st bk with
    | none => rw [hb] at h'; cases h'
    | some q =>
      obtain ⟨ws, rs⟩ := q
      rw [hb] at h'
      simp only at h'
      split at h'
      · rename_i hk
        obtain ⟨h1, h2, h3, h4, h5, h6, h7⟩ := hk
        obtain ⟨q, hq, rfl⟩ := Option.map_eq_some_iff.mp h'
        refine ⟨by simp only [Bnd], [], ?_⟩
        have kd : dk st (.tup [.tup vs, .tup ls]) = true := dk_of fun x hx => by
          have : x = .tup vs ∨ x = .tup ls := by simpa using hx
          rcases this with rfl | rfl
          · exact dk_ints h2
          · exact dk_ints h3
        have sm : smallD (.tup [.tup vs, .tup ls]) = true := by simp [smallD, tupsD, h4, h5]
        simp only [m_may_do, b_may_do, ev_var, ev_c, ev_un, ev_bin, ev_anil, ev_acons, ev_fn, ev_tof, ev_tob, ev_tand, ev_tor, ev_tnot, ev_and, ev_or, ev_not, ev_if, ev_chain, ev_true, ev_slice, ev_onone, ev_osome, ev_iseq, ev_irng, ev_ienum, ev_ibin, ev_lc, ev_skip, ev_never, ev_seq, ev_ret, ev_sif, ev_set, ev_expr, ev_asg, ev_par, ev_for, ev_fld, ev_gn, ev_gsnil, ev_gscons, ev_gt, ev_mkfn, ev_bok, ev_berr, ev_bfail, ev_tok, ev_hok, ev_ert, ev_enx, ev_wn, ev_wc, ev_e0, ev_sseq, ev_senum, ev_szip, ev_sltup, ev_ltI, ev_leI, ev_gtI, ev_geI, ev_subI, ev_addI, ev_lenT, List.map_cons, List.map_nil, List.length_cons, List.length_nil, List.cons_append, List.nil_append, List.append_nil, List.getElem?_cons_zero, List.getElem?_cons_succ, List.set_cons_zero, List.set_cons_succ, List.replicate_succ, List.replicate_zero, Nat.reduceAdd, Nat.reduceSub, Nat.reduceEqDiff, reduceIte, Bool.true_eq_false, Bool.false_eq_true, if_true, if_false, want_state_of hb kd sm h1 h6, want_rule_of hb (show kn st (.int r) = true from rfl) h7, ready_of (v := .tup vs) (l := .tup ls) hb rfl rfl hq]
      · cases h'

def b__law_bag : SM := (sSeq (sSet 2 (eC (.int 0)))
    (sSeq (sIf (tOf (eBin dLt (eVar 1) (eFn fLen (aCons (eVar 0) aNil)))) (sSet 2 (eBin dIx (eVar 0) (eVar 1))) sSkip)
    (sSeq (sSet 3 (eC (.int 0)))
    (sSeq (sIf (tOf (eBin dGe (eFn fAbs (aCons (eVar 2) aNil)) (eBin dPow (eC (.int 10)) (eC (.int 18))))) (sSet 3 (eFn fAbs (aCons (eVar 2) aNil))) sSkip)
    (sSeq (sSet 4 (eFn mkLst (aCons (eC (.int 2147483629)) (aCons (eC (.int 2147483587)) (aCons (eC (.int 2147483579)) (aCons (eC (.int 2147483563)) (aCons (eC (.int 2147483549)) (aCons (eC (.int 2147483543)) (aCons (eC (.int 2147483497)) (aCons (eC (.int 2147483489)) aNil))))))))))
    (sRet (eFn mkLst (aCons (eVar 3) (aCons (eBin dMod (eBin dPow (eBin dAdd (eBin dAdd (eBin dMod (eVar 2) (eC (.int 2147483647))) (eBin dMul (eC (.int 104729)) (eVar 1))) (eC (.int 7))) (eC (.int 5))) (eBin dIx (eVar 4) (eBin dMod (eVar 1) (eC (.int 8))))) (aCons (eC (.int 0)) aNil))))))))))
def m__law_bag : Fm := mkFn 2 5 b__law_bag
def s__law_bag : Fm := s_bag
theorem a__law_bag : Arity 2 s__law_bag := nw_ar
theorem t__law_bag : Tells m__law_bag s__law_bag := s_bag_tells rfl

def b__law_take : SM := (sSeq (sIf (tOf (eBin dGt (eBin dIx (eVar 0) (eC (.int 0))) (eC (.int 0)))) (sSeq (sSet 2 (eBin dMod (eBin dIx (eVar 0) (eC (.int 0))) (eVar 1)))
    (sSeq (sAsg (eBin dDiv (eBin dIx (eVar 0) (eC (.int 0))) (eVar 1)) (gSet (eVar 0) (eC (.int 0))))
    (sRet (eVar 2)))) sSkip)
    (sSeq (sAsg (eBin dAdd (eBin dIx (eVar 0) (eC (.int 2))) (eC (.int 1))) (gSet (eVar 0) (eC (.int 2))))
    (sSeq (sAsg (eBin dMod (eBin dAdd (eBin dAdd (eBin dMul (eBin dIx (eVar 0) (eC (.int 1))) (eC (.int 48271))) (eBin dMul (eBin dMul (eC (.int 7919)) (eBin dIx (eVar 0) (eC (.int 2)))) (eBin dIx (eVar 0) (eC (.int 2))))) (eC (.int 11))) (eC (.int 2147483647))) (gSet (eVar 0) (eC (.int 1))))
    (sRet (eBin dMod (eBin dMod (eBin dPow (eBin dDiv (eBin dIx (eVar 0) (eC (.int 1))) (eC (.int 8))) (eC (.int 3))) (eC (.int 2147483629))) (eVar 1))))))
def m__law_take : Fm := mkFn 2 3 b__law_take
def s__law_take : Fm := s_take
theorem a__law_take : Arity 2 s__law_take := wr_ar
theorem t__law_take : Tells m__law_take s__law_take := s_take_tells fun h hc h0 h1 => bag_take b__law_take rfl rfl h hc h0 h1

end Hd
set_option Elab.async false
set_option linter.all false
set_option maxRecDepth 100000
set_option maxHeartbeats 400000
namespace Hd
open PySem U
def b__law_told : SM := (sSeq (sSet 4 (eFn (mkIns "Book" s_Book_init) (aCons (eVar 0) (aCons (eFn fTup (aCons (cLc (iSeq (eVar 1)) [6] (gN 6) tTrue (eFn mkTup (aCons (eVar 6) (aCons (eFn mkTup aNil) (aCons (eFn mkTup aNil) (aCons (eFn mkTup aNil) aNil)))))) aNil)) aNil))))
    (sRet (cLc (iRng (eFn fLen (aCons (eVar 1) aNil))) [5] (gN 5) tTrue (eFn s_may_do (aCons (eVar 4) (aCons (eFn mkTup (aCons (eVar 2) (aCons (eVar 3) aNil))) (aCons (eVar 5) aNil)))))))
def m__law_told : Fm := mkFn 4 7 b__law_told
def ruleT (t : D) : D := .tup [t, .tup [], .tup [], .tup []]
def toldO (ws ts vs ls : List D) : Option (List Bool) :=
  if dk [] (.tup ws) = true ∧ dk [] (.tup ts) = true ∧ wheelsD (.tup ws) = true ∧ ts.length ≤ 5 ∧ ((ts.map ruleT).all fun r => ruleWords r && ruleD ws ts.length r) = true ∧ vs.all isI = true ∧ ls.all isI = true ∧ stateD ws ts.length (.tup [.tup vs, .tup ls]) = true ∧ ((List.range ts.length).all fun (i : Nat) => (readyO (ts.map ruleT) (i : Int) vs ls).isSome) = true then some ((List.range ts.length).map fun (i : Nat) => readyO (ts.map ruleT) (i : Int) vs ls == some true) else none
def s__law_told : Fm := nw 4 fun ds st => match ds with
  | [.tup ws, .ref n, .tup vs, .tup ls] => match lstOf st n with
    | some ts => (toldO ws ts vs ls).map fun (bs : List Bool) => Ob.lst (bs.map D.bl)
    | none => none
  | _ => none
theorem a__law_told : Arity 4 s__law_told := nw_ar
theorem told_of {st : Sto} {n : Nat} {ws ts vs ls : List D} {bs : List Bool} (h : lstOf st n = some ts) (hb : toldO ws ts vs ls = some bs) : s__law_told [.tup ws, .ref n, .tup vs, .tup ls] st = .ok (.ref st.length) (st ++ [.lst (bs.map D.bl)]) := by
  refine nw_ok rfl ?_
  show (match lstOf st n with | some ts => (toldO ws ts vs ls).map fun (bs : List Bool) => Ob.lst (bs.map D.bl) | none => none) = _
  rw [h]
  show ((toldO ws ts vs ls).map fun (bs : List Bool) => Ob.lst (bs.map D.bl)) = _
  rw [hb]
  rfl
theorem t__law_told : Tells m__law_told s__law_told := .nw fun ds st o g b hl h => by
  match ds, hl, h with
  | [.tup ws, .ref n, .tup vs, .tup ls], _, h =>
    have h' : (match lstOf st n with | some ts => (toldO ws ts vs ls).map fun (bs : List Bool) => Ob.lst (bs.map D.bl) | none => none) = some o := h
    split at h'
    · rename_i ts hts
      obtain ⟨bs, hb, rfl⟩ := Option.map_eq_some_iff.mp h'
      unfold toldO at hb
      split at hb
      · rename_i hc
        obtain ⟨kw, kt, hw, h5, hr, hv, hh, hst, hrd⟩ := hc
        cases hb
        have hm : ts.length ≤ most := Nat.le_trans h5 (by decide)
        have hlen : (ts.map ruleT).length = ts.length := List.length_map ..
        have kr : ∀ s, dk s (.tup (ts.map ruleT)) = true := fun s => dk_of fun x hx => by
          obtain ⟨t, ht, rfl⟩ := List.mem_map.mp hx
          exact dk_of fun y hy => by
            have : y = t ∨ y = .tup [] := by simpa using hy
            rcases this with rfl | rfl
            · exact dk_tup (dk0 (st := s) kt) y ht
            · simp only [dk, dks]
        have lv : vs.length ≤ most ∧ ls.length ≤ most := by
          simp only [stateD, valuesD, leftD, Bool.and_eq_true, decide_eq_true_eq] at hst
          simp only [wheelsD, Bool.and_eq_true, decide_eq_true_eq] at hw
          have := hw.1.1.2
          refine ⟨Nat.le_trans ?_ (show 3 ≤ most by decide), Nat.le_trans ?_ (show 5 ≤ most by decide)⟩ <;> omega
        refine ⟨Bnds_bl _, [.lst (ts.map ruleT), bookO ws (ts.map ruleT), .lst (((List.range ts.length).map fun (i : Nat) => readyO (ts.map ruleT) (i : Int) vs ls == some true).map D.bl)], 2, rfl, ?_⟩
        have hseq : seqSrc (.ref n) st = .ok (.dyn n) st := by
          unfold seqSrc
          simp only [hts]
        have e1 := startLc_map (s := .dyn n) (g := gN 6) (e := eFn mkTup (aCons (eVar 6) (aCons (eFn mkTup aNil) (aCons (eFn mkTup aNil) (aCons (eFn mkTup aNil) aNil))))) (env := [some (.tup ws), some (.ref n), some (.tup vs), some (.tup ls), none, none, none]) (st := st) (xs := ts) (f := ruleT) hts hm fun x hx acc => by
          refine ⟨_, rfl, ?_⟩
          simp only [ev_var, ev_c, ev_un, ev_bin, ev_anil, ev_acons, ev_fn, ev_tof, ev_tob, ev_tand, ev_tor, ev_tnot, ev_and, ev_or, ev_not, ev_if, ev_chain, ev_true, ev_slice, ev_onone, ev_osome, ev_iseq, ev_irng, ev_ienum, ev_ibin, ev_lc, ev_skip, ev_never, ev_seq, ev_ret, ev_sif, ev_set, ev_expr, ev_asg, ev_par, ev_for, ev_fld, ev_gn, ev_gsnil, ev_gscons, ev_gt, ev_mkfn, ev_bok, ev_berr, ev_bfail, ev_tok, ev_hok, ev_ert, ev_enx, ev_wn, ev_wc, ev_e0, ev_sseq, ev_senum, ev_szip, ev_sltup, ev_ltI, ev_leI, ev_gtI, ev_geI, ev_subI, ev_addI, ev_lenT, List.map_cons, List.map_nil, List.length_cons, List.length_nil, List.cons_append, List.nil_append, List.append_nil, List.getElem?_cons_zero, List.getElem?_cons_succ, List.set_cons_zero, List.set_cons_succ, List.replicate_succ, List.replicate_zero, Nat.reduceAdd, Nat.reduceSub, Nat.reduceEqDiff, reduceIte, Bool.true_eq_false, Bool.false_eq_true, if_true, if_false, mk4, show ∀ s, mkTup [] s = .ok (.tup []) s from fun s => if_pos (Nat.zero_le _)]
          rfl
        have hf : fTup [.ref st.length] (st ++ [.lst (ts.map ruleT)]) = .ok (.tup (ts.map ruleT)) (st ++ [.lst (ts.map ruleT)]) := by
          unfold fTup seqOf
          simp only [lstOf_end]
        have hbk := book_made (st := st ++ [.lst (ts.map ruleT)]) (dk0 kw) (kr _) hw (by rw [hlen]; exact h5) (by rw [hlen]; exact hr)
        have hln : fLen [.ref n] (st ++ [.lst (ts.map ruleT)] ++ [bookO ws (ts.map ruleT)]) = .ok (.int ts.length) (st ++ [.lst (ts.map ruleT)] ++ [bookO ws (ts.map ruleT)]) := by
          have : n < st.length := by simp only [Bnds, Bnd] at b; exact b.2.1
          have e : lstOf (st ++ [.lst (ts.map ruleT)] ++ [bookO ws (ts.map ruleT)]) n = some ts := by
            rw [← hts]
            unfold lstOf
            simp only [List.append_assoc, List.getElem?_append_left this]
          unfold fLen seqOf
          simp only [e]
        have hrg : iRng (eFn fLen (aCons (eVar 1) aNil)) [some (.tup ws), some (.ref n), some (.tup vs), some (.tup ls), some (.ref (st ++ [Ob.lst (ts.map ruleT)]).length), none, none] (st ++ [.lst (ts.map ruleT)] ++ [bookO ws (ts.map ruleT)]) = .ok (.fix (rngL 0 ts.length)) (st ++ [.lst (ts.map ruleT)] ++ [bookO ws (ts.map ruleT)]) :=
          irng_of (by simp only [ev_var, ev_c, ev_un, ev_bin, ev_anil, ev_acons, ev_fn, ev_tof, ev_tob, ev_tand, ev_tor, ev_tnot, ev_and, ev_or, ev_not, ev_if, ev_chain, ev_true, ev_slice, ev_onone, ev_osome, ev_iseq, ev_irng, ev_ienum, ev_ibin, ev_lc, ev_skip, ev_never, ev_seq, ev_ret, ev_sif, ev_set, ev_expr, ev_asg, ev_par, ev_for, ev_fld, ev_gn, ev_gsnil, ev_gscons, ev_gt, ev_mkfn, ev_bok, ev_berr, ev_bfail, ev_tok, ev_hok, ev_ert, ev_enx, ev_wn, ev_wc, ev_e0, ev_sseq, ev_senum, ev_szip, ev_sltup, ev_ltI, ev_leI, ev_gtI, ev_geI, ev_subI, ev_addI, ev_lenT, List.map_cons, List.map_nil, List.length_cons, List.length_nil, List.cons_append, List.nil_append, List.append_nil, List.getElem?_cons_zero, List.getElem?_cons_succ, List.set_cons_zero, List.set_cons_succ, List.replicate_succ, List.replicate_zero, Nat.reduceAdd, Nat.reduceSub, Nat.reduceEqDiff, reduceIte, Bool.true_eq_false, Bool.false_eq_true, if_true, if_false, hln]) hm
        simp only [m__law_told, b__law_told, ev_var, ev_c, ev_un, ev_bin, ev_anil, ev_acons, ev_fn, ev_tof, ev_tob, ev_tand, ev_tor, ev_tnot, ev_and, ev_or, ev_not, ev_if, ev_chain, ev_true, ev_slice, ev_onone, ev_osome, ev_iseq, ev_ienum, ev_ibin, ev_lc, ev_skip, ev_never, ev_seq, ev_ret, ev_sif, ev_set, ev_expr, ev_asg, ev_par, ev_for, ev_fld, ev_gn, ev_gsnil, ev_gscons, ev_gt, ev_mkfn, ev_bok, ev_berr, ev_bfail, ev_tok, ev_hok, ev_ert, ev_enx, ev_wn, ev_wc, ev_e0, ev_sseq, ev_senum, ev_szip, ev_sltup, ev_ltI, ev_leI, ev_gtI, ev_geI, ev_subI, ev_addI, ev_lenT, List.map_cons, List.map_nil, List.length_cons, List.length_nil, List.cons_append, List.nil_append, List.append_nil, List.getElem?_cons_zero, List.getElem?_cons_succ, List.set_cons_zero, List.set_cons_succ, List.replicate_succ, List.replicate_zero, Nat.reduceAdd, Nat.reduceSub, Nat.reduceEqDiff, reduceIte, Bool.true_eq_false, Bool.false_eq_true, if_true, if_false, hseq, e1, hf, hbk, hrg]
        have e2 := startLc_map (s := .fix (rngL 0 ts.length)) (g := gN 5) (e := eFn s_may_do (aCons (eVar 4) (aCons (eFn mkTup (aCons (eVar 2) (aCons (eVar 3) aNil))) (aCons (eVar 5) aNil)))) (env := [some (.tup ws), some (.ref n), some (.tup vs), some (.tup ls), some (.ref (st ++ [Ob.lst (ts.map ruleT)]).length), none, none]) (st := st ++ [.lst (ts.map ruleT)] ++ [bookO ws (ts.map ruleT)]) (xs := rngL 0 ts.length) (f := fun d => .bl (readyO (ts.map ruleT) (wI d) vs ls == some true)) rfl (by rw [rngL_length]; exact hm) fun x hx acc => by
          obtain ⟨i, hi, rfl⟩ := rngL_mem hx
          obtain ⟨q, hq⟩ := Option.isSome_iff_exists.mp (List.all_eq_true.mp hrd i (List.mem_range.mpr hi))
          refine ⟨_, rfl, ?_⟩
          have := may_of (bk := .ref (st ++ [Ob.lst (ts.map ruleT)]).length) (st := st ++ [.lst (ts.map ruleT)] ++ [bookO ws (ts.map ruleT)] ++ [.lst acc]) (ws := ws) (rs := ts.map ruleT) (bookD_app (bookO_at get_end)) (wheels_ints hw) hv hh lv.1 lv.2 (by rw [hlen]; exact hst) (r := (i : Int)) (by rw [hlen]; simp only [withinD, Bool.and_eq_true, decide_eq_true_eq]; omega) hq
          simp only [ev_var, ev_c, ev_un, ev_bin, ev_anil, ev_acons, ev_fn, ev_tof, ev_tob, ev_tand, ev_tor, ev_tnot, ev_and, ev_or, ev_not, ev_if, ev_chain, ev_true, ev_slice, ev_onone, ev_osome, ev_iseq, ev_irng, ev_ienum, ev_ibin, ev_lc, ev_skip, ev_never, ev_seq, ev_ret, ev_sif, ev_set, ev_expr, ev_asg, ev_par, ev_for, ev_fld, ev_gn, ev_gsnil, ev_gscons, ev_gt, ev_mkfn, ev_bok, ev_berr, ev_bfail, ev_tok, ev_hok, ev_ert, ev_enx, ev_wn, ev_wc, ev_e0, ev_sseq, ev_senum, ev_szip, ev_sltup, ev_ltI, ev_leI, ev_gtI, ev_geI, ev_subI, ev_addI, ev_lenT, List.map_cons, List.map_nil, List.length_cons, List.length_nil, List.cons_append, List.nil_append, List.append_nil, List.getElem?_cons_zero, List.getElem?_cons_succ, List.set_cons_zero, List.set_cons_succ, List.replicate_succ, List.replicate_zero, Nat.reduceAdd, Nat.reduceSub, Nat.reduceEqDiff, reduceIte, Bool.true_eq_false, Bool.false_eq_true, if_true, if_false, mk2, this, wI, hq]
          cases q <;> rfl
        rw [e2]
        simp only [ev_var, ev_c, ev_un, ev_bin, ev_anil, ev_acons, ev_fn, ev_tof, ev_tob, ev_tand, ev_tor, ev_tnot, ev_and, ev_or, ev_not, ev_if, ev_chain, ev_true, ev_slice, ev_onone, ev_osome, ev_iseq, ev_irng, ev_ienum, ev_ibin, ev_lc, ev_skip, ev_never, ev_seq, ev_ret, ev_sif, ev_set, ev_expr, ev_asg, ev_par, ev_for, ev_fld, ev_gn, ev_gsnil, ev_gscons, ev_gt, ev_mkfn, ev_bok, ev_berr, ev_bfail, ev_tok, ev_hok, ev_ert, ev_enx, ev_wn, ev_wc, ev_e0, ev_sseq, ev_senum, ev_szip, ev_sltup, ev_ltI, ev_leI, ev_gtI, ev_geI, ev_subI, ev_addI, ev_lenT, List.map_cons, List.map_nil, List.length_cons, List.length_nil, List.cons_append, List.nil_append, List.append_nil, List.getElem?_cons_zero, List.getElem?_cons_succ, List.set_cons_zero, List.set_cons_succ, List.replicate_succ, List.replicate_zero, Nat.reduceAdd, Nat.reduceSub, Nat.reduceEqDiff, reduceIte, Bool.true_eq_false, Bool.false_eq_true, if_true, if_false]
        congr 1
        · simp
        · simp only [List.append_assoc, List.cons_append, List.nil_append]
          rw [rngL_map]
          simp only [List.map_map, Function.comp_def, wI]
      · cases hb
    · cases h'

def b_law_1 : SM := (sIf (tOf (eBin (dEq true) (eFn s__law_told (aCons (eVar 6) (aCons (eVar 9) (aCons (eVar 11) (aCons (eFn mkTup (aCons (eC (.int 0)) (aCons (eVar 5) (aCons (eC (.int 0)) (aCons (eVar 5) (aCons (eC (.int 0)) aNil)))))) aNil))))) (eVar 10))) (sRet (eC (.bl false))) sSkip)
def b_law_2 : SM := (sSeq (sSet 11 (eIf (tOf (eBin (dEq false) (eVar 7) (eC (.int 0)))) (eFn mkTup (aCons (eVar 8) (aCons (eVar 3) aNil))) (eFn mkTup (aCons (eVar 3) (aCons (eVar 8) aNil)))))
    (sSeq (sSet 9 (eFn mkLst (aCons (eFn mkTup (aCons (eFn mkTup (aCons (eC (.str "is")) (aCons (eVar 7) (aCons (eVar 4) aNil)))) aNil)) (aCons (eFn mkTup (aCons (eFn mkTup (aCons (eC (.str "not")) (aCons (eVar 7) (aCons (eVar 4) aNil)))) aNil)) (aCons (eFn mkTup (aCons (eFn mkTup (aCons (eC (.str "below")) (aCons (eVar 7) (aCons (eVar 4) aNil)))) aNil)) (aCons (eFn mkTup aNil) aNil))))))
    (sSeq (sExpr (eMtL mAppend (eVar 9) (aCons (eFn mkTup (aCons (eFn mkTup (aCons (eC (.str "below")) (aCons (eVar 7) (aCons (eVar 4) aNil)))) (aCons (eFn mkTup (aCons (eC (.str "is")) (aCons (eBin dSub (eC (.int 1)) (eVar 7)) (aCons (eVar 3) aNil)))) aNil))) aNil)))
    (sSeq (sSet 10 (eFn mkLst (aCons (eBin (dEq false) (eVar 8) (eVar 4)) (aCons (eBin (dEq true) (eVar 8) (eVar 4)) (aCons (eBin dLt (eVar 8) (eVar 4)) (aCons (eC (.bl true)) (aCons (eBin dLt (eVar 8) (eVar 4)) aNil)))))))
    (sSeq (sIf (tOf (eBin (dEq true) (eFn s__law_told (aCons (eVar 6) (aCons (eVar 9) (aCons (eVar 11) (aCons (eBin dMul (eFn mkTup (aCons (eC (.int 0)) aNil)) (eC (.int 5))) aNil))))) (eVar 10))) (sRet (eC (.bl false))) sSkip)
    (sSeq (sSet 10 (eFn mkLst (aCons (eBin dIx (eVar 10) (eC (.int 0))) (aCons (eC (.bl false)) (aCons (eBin dIx (eVar 10) (eC (.int 2))) (aCons (eC (.bl false)) (aCons (eBin dIx (eVar 10) (eC (.int 4))) aNil)))))))
    (sFor (iSeq (eFn mkTup (aCons (eC (.int 1)) (aCons (eC (.int 2)) aNil)))) (gN 5) b_law_1)))))))
def b_law_3 : SM := (sFor (iRng (eBin dIx (eVar 6) (eVar 7))) (gN 8) b_law_2)
def b_law_4 : SM := (sSeq (sSet 9 (eFn mkLst (aCons (eFn mkTup (aCons (eFn mkTup (aCons (eC (.str "hushed")) (aCons (eC (.int 4)) aNil))) aNil)) (aCons (eFn mkTup (aCons (eFn mkTup (aCons (eC (.str "awake")) (aCons (eC (.int 4)) aNil))) aNil)) (aCons (eFn mkTup (aCons (eFn mkTup (aCons (eC (.str "hushed")) (aCons (eC (.int 1)) aNil))) (aCons (eFn mkTup (aCons (eC (.str "awake")) (aCons (eC (.int 4)) aNil))) aNil))) (aCons (eFn mkTup (aCons (eFn mkTup (aCons (eC (.str "awake")) (aCons (eC (.int 3)) aNil))) aNil)) (aCons (eFn mkTup aNil) aNil)))))))
    (sSeq (sSet 10 (eFn mkLst (aCons (eBin dGt (eVar 5) (eC (.int 0))) (aCons (eBin (dEq false) (eVar 5) (eC (.int 0))) (aCons (eC (.bl false)) (aCons (eC (.bl true)) (aCons (eBin (dEq false) (eVar 5) (eC (.int 0))) aNil)))))))
    (sIf (tOf (eBin (dEq true) (eFn s__law_told (aCons (eVar 6) (aCons (eVar 9) (aCons (eFn mkTup (aCons (eC (.int 0)) (aCons (eC (.int 0)) aNil))) (aCons (eFn mkTup (aCons (eC (.int 0)) (aCons (eC (.int 0)) (aCons (eC (.int 0)) (aCons (eC (.int 0)) (aCons (eVar 5) aNil)))))) aNil))))) (eVar 10))) (sRet (eC (.bl false))) sSkip)))
def b_law_5 : SM := (sSeq (sSet 2 (eFn s__law_bag (aCons (eVar 0) (aCons (eVar 1) aNil))))
    (sSeq (sPar 6 7 (eFn mkTup (aCons (eBin dAdd (eC (.int 2)) (eFn s__law_take (aCons (eVar 2) (aCons (eC (.int 3)) aNil)))) (aCons (eBin dAdd (eC (.int 2)) (eFn s__law_take (aCons (eVar 2) (aCons (eC (.int 3)) aNil)))) aNil))) (eFn s__law_take (aCons (eVar 2) (aCons (eC (.int 2)) aNil))))
    (sSeq (sSet 3 (eFn s__law_take (aCons (eVar 2) (aCons (eBin dIx (eVar 6) (eBin dSub (eC (.int 1)) (eVar 7))) aNil))))
    (sSeq (sFor (iRng (eBin dIx (eVar 6) (eVar 7))) (gN 4) b_law_3)
    (sFor (iSeq (eFn mkTup (aCons (eC (.int 0)) (aCons (eC (.int 1)) (aCons (eC (.int 2)) aNil))))) (gN 5) b_law_4)))))
def b_law : SM := (sSeq (sFor (iRng (eFn (fI2 iMax) (aCons (eC (.int 3)) (aCons (eFn (fI2 iMin) (aCons (eC (.int 8)) (aCons (eFn fLen (aCons (eVar 0) aNil)) aNil))) aNil)))) (gN 1) b_law_5)
    (sRet (eC (.bl true))))
def m_law : Fm := mkFn 1 12 b_law
end Hd
set_option Elab.async false
set_option linter.all false
set_option maxRecDepth 100000
set_option maxHeartbeats 4000000
namespace Hd
open PySem PySem.Spec PyProof.Rows L2 U
section
variable {P : Program} {w : World} {K : PySem.W.Frag} {mg : Str → Option Value} {base : Heap}
theorem SC_is_whole : FnScope ["thing"] ["thing"] (defScope (top 11)) := ⟨rfl, rfl, rfl, by decide +kernel, rfl, by decide +kernel, by decide +kernel⟩
set_option maxHeartbeats 4000000 in
theorem F_is_whole (T : Txt K mg) : Fn P w K mg base 1 "is_whole" 1 s_is_whole := by
  obtain ⟨fd, F⟩ := T.f_is_whole
  have Z : Fn P w K mg base 1 "is_whole" 1 m_is_whole := ⟨⟨_, fd, ["thing"], fn_F F SC_is_whole (fun cdv A outer s H E hr => by
      have tk := takes_of (X := cxOf (L2.CX P w) P w K mg base ["thing"] "is_whole" (defScope (top 11)) (He.fAd K ("is_whole", none)) cdv A outer s H E) (E := E) rfl rfl rfl rfl
      exact (ss_one (s_ret (e_and (e_isi "int" T.b_isinstance T.b_int (e_var 0)) (e_one (e_not (e_isi "bool" T.b_isinstance T.b_bool (e_var 0)))))))), T.g_is_whole, F.kp, F.bindsN fun _ _ _ _ _ _ us hl => match us, hl with | [_], _ => rfl⟩, mkFn_ar⟩
  exact U.Fn.by Z t_is_whole a_is_whole
theorem SC_is_within : FnScope ["thing", "least", "most"] ["thing", "least", "most"] (defScope (top 12)) := ⟨rfl, rfl, rfl, by decide +kernel, rfl, by decide +kernel, by decide +kernel⟩
set_option maxHeartbeats 4000000 in
theorem F_is_within (T : Txt K mg) : Fn P w K mg base 2 "is_within" 3 s_is_within := by
  obtain ⟨fd, F⟩ := T.f_is_within
  have Z : Fn P w K mg base 2 "is_within" 3 m_is_within := ⟨⟨_, fd, ["thing", "least", "most"], fn_F F SC_is_within (fun cdv A outer s H E hr => by
      have tk := takes_of (X := cxOf (L2.CX P w) P w K mg base ["thing", "least", "most"] "is_within" (defScope (top 12)) (He.fAd K ("is_within", none)) cdv A outer s H E) (E := E) rfl rfl rfl rfl
      exact (ss_one (s_ret (e_and (e_call (F_is_whole T) tk (hr.mono (by decide)) (a_cons (e_var 0) a_nil)) (e_one (e_chain o_le o_le (e_var 1) (e_var 0) (e_var 2))))))), T.g_is_within, F.kp, F.bindsN fun _ _ _ _ _ _ us hl => match us, hl with | [_, _, _], _ => rfl⟩, mkFn_ar⟩
  exact U.Fn.by Z t_is_within a_is_within
theorem SC_is_below : FnScope ["thing", "many"] ["thing", "many"] (defScope (top 13)) := ⟨rfl, rfl, rfl, by decide +kernel, rfl, by decide +kernel, by decide +kernel⟩
set_option maxHeartbeats 4000000 in
theorem F_is_below (T : Txt K mg) : Fn P w K mg base 3 "is_below" 2 s_is_below := by
  obtain ⟨fd, F⟩ := T.f_is_below
  have Z : Fn P w K mg base 3 "is_below" 2 m_is_below := ⟨⟨_, fd, ["thing", "many"], fn_F F SC_is_below (fun cdv A outer s H E hr => by
      have tk := takes_of (X := cxOf (L2.CX P w) P w K mg base ["thing", "many"] "is_below" (defScope (top 13)) (He.fAd K ("is_below", none)) cdv A outer s H E) (E := E) rfl rfl rfl rfl
      exact (ss_one (s_ret (e_call (F_is_within T) tk (hr.mono (by decide)) (a_cons (e_var 0) (a_cons e_int (a_cons (e_op o_sub (e_var 1) e_int) a_nil))))))), T.g_is_below, F.kp, F.bindsN fun _ _ _ _ _ _ us hl => match us, hl with | [_, _], _ => rfl⟩, mkFn_ar⟩
  exact U.Fn.by Z t_is_below a_is_below
theorem SC_is_rising : FnScope ["thing", "many", "one", "other", "number"] ["thing", "many"] (defScope (top 14)) := ⟨rfl, rfl, rfl, by decide +kernel, rfl, by decide +kernel, by decide +kernel⟩
set_option maxHeartbeats 4000000 in
theorem F_is_rising (T : Txt K mg) : Fn P w K mg base 4 "is_rising" 2 s_is_rising := by
  obtain ⟨fd, F⟩ := T.f_is_rising
  have Z : Fn P w K mg base 4 "is_rising" 2 m_is_rising := ⟨⟨_, fd, ["thing", "many"], fn_F F SC_is_rising (fun cdv A outer s H E hr => by
      have tk := takes_of (X := cxOf (L2.CX P w) P w K mg base ["thing", "many", "one", "other", "number"] "is_rising" (defScope (top 14)) (He.fAd K ("is_rising", none)) cdv A outer s H E) (E := E) rfl rfl rfl rfl
      exact (ss_cons (s_if (t_w (w_or (t_not (t_val (e_isi "tuple" T.b_isinstance T.b_tuple (e_var 0)))) (w_or1 (t_not (t_val (e_all rfl T.b_all (e_lc [("number", 4)] rfl SC_is_rising.nd (go_name 4) (i_seq (e_var 0)) (blkOk_by (N := ["thing", "many", "one", "other", "number"]) (sc := defScope (top 14)) (by decide +kernel)) (fun _ _ _ _ _ => (pg_name (i := 4) SC_is_rising.nd rfl (by first | exact Or.inl rfl | exact Or.inr rfl))) (fun _ _ _ _ _ => c_yes) (fun _ _ _ _ _ => (e_call (F_is_below T) takes0 (hr.mono (by decide)) (a_cons (e_var 4) (a_cons (e_var 1) a_nil))))))))))) (ss_one (s_ret e_bl)) ss_nil)
    (ss_one (s_ret (e_all rfl T.b_all (e_lc [("one", 2), ("other", 3)] rfl SC_is_rising.nd (go_tup 2 (gos_cons (go_name 2) (gos_cons (go_name 3) gos_nil))) (i_zip T.b_zip (e_var 0) (e_slice (e_var 0) (p_some e_int) p_none)) (blkOk_by (N := ["thing", "many", "one", "other", "number"]) (sc := defScope (top 14)) (by decide +kernel)) (fun _ _ _ _ _ => (pg_tup rfl (pgs_cons (pg_name (i := 2) SC_is_rising.nd rfl (by first | exact Or.inl rfl | exact Or.inr rfl)) (pgs_cons (pg_name (i := 3) SC_is_rising.nd rfl (by first | exact Or.inl rfl | exact Or.inr rfl)) pgs_nil)))) (fun _ _ _ _ _ => c_yes) (fun _ _ _ _ _ => (e_cmp o_lt (e_var 2) (e_var 3))))))))), T.g_is_rising, F.kp, F.bindsN fun _ _ _ _ _ _ us hl => match us, hl with | [_, _], _ => rfl⟩, mkFn_ar⟩
  exact U.Fn.by Z t_is_rising a_is_rising
theorem SC_is_wheels : FnScope ["thing", "multiplied", "places"] ["thing"] (defScope (top 15)) := ⟨rfl, rfl, rfl, by decide +kernel, rfl, by decide +kernel, by decide +kernel⟩
set_option maxHeartbeats 4000000 in
theorem F_is_wheels (T : Txt K mg) : Fn P w K mg base 3 "is_wheels" 1 s_is_wheels := by
  obtain ⟨fd, F⟩ := T.f_is_wheels
  have Z : Fn P w K mg base 3 "is_wheels" 1 m_is_wheels := ⟨⟨_, fd, ["thing"], fn_F F SC_is_wheels (fun cdv A outer s H E hr => by
      have tk := takes_of (X := cxOf (L2.CX P w) P w K mg base ["thing", "multiplied", "places"] "is_wheels" (defScope (top 15)) (He.fAd K ("is_wheels", none)) cdv A outer s H E) (E := E) rfl rfl rfl rfl
      exact (ss_cons (s_if (t_w (w_or (t_not (t_val (e_isi "tuple" T.b_isinstance T.b_tuple (e_var 0)))) (w_or1 (t_not (t_chain o_le o_le e_int (e_len (x := "len") T.b_len (e_var 0)) (e_gint T.i_MOST_WHEELS)))))) (ss_one (s_ret e_bl)) ss_nil)
    (ss_cons (s_if (t_not (t_val (e_all rfl T.b_all (e_lc [("places", 2)] rfl SC_is_wheels.nd (go_name 2) (i_seq (e_var 0)) (blkOk_by (N := ["thing", "multiplied", "places"]) (sc := defScope (top 15)) (by decide +kernel)) (fun _ _ _ _ _ => (pg_name (i := 2) SC_is_wheels.nd rfl (by first | exact Or.inl rfl | exact Or.inr rfl))) (fun _ _ _ _ _ => c_yes) (fun _ _ _ _ _ => (e_call (F_is_within T) takes0 (hr.mono (by decide)) (a_cons (e_var 2) (a_cons (e_gint T.i_LEAST_PLACES) (a_cons (e_gint T.i_MOST_PLACES) a_nil))))))))) (ss_one (s_ret e_bl)) ss_nil)
    (ss_cons (s_set 1 e_int SC_is_wheels.nd)
    (ss_cons (s_for (passes_of rfl) rfl (i_seq (e_var 0)) (g_name 2 SC_is_wheels.nd) (ss_one (s_set 1 (e_op o_mul (e_var 1) (e_var 2)) SC_is_wheels.nd)))
    (ss_one (s_ret (e_cmp o_le (e_var 1) (e_gint T.i_MOST_VALUES))))))))), T.g_is_wheels, F.kp, F.bindsN fun _ _ _ _ _ _ us hl => match us, hl with | [_], _ => rfl⟩, mkFn_ar⟩
  exact U.Fn.by Z t_is_wheels a_is_wheels
theorem SC_is_values : FnScope ["wheels", "thing", "place", "places"] ["wheels", "thing"] (defScope (top 16)) := ⟨rfl, rfl, rfl, by decide +kernel, rfl, by decide +kernel, by decide +kernel⟩
set_option maxHeartbeats 4000000 in
theorem F_is_values (T : Txt K mg) : Fn P w K mg base 4 "is_values" 2 s_is_values := by
  obtain ⟨fd, F⟩ := T.f_is_values
  have Z : Fn P w K mg base 4 "is_values" 2 m_is_values := ⟨⟨_, fd, ["wheels", "thing"], fn_F F SC_is_values (fun cdv A outer s H E hr => by
      have tk := takes_of (X := cxOf (L2.CX P w) P w K mg base ["wheels", "thing", "place", "places"] "is_values" (defScope (top 16)) (He.fAd K ("is_values", none)) cdv A outer s H E) (E := E) rfl rfl rfl rfl
      exact (ss_cons (s_if (t_w (w_or (t_not (t_val (e_isi "tuple" T.b_isinstance T.b_tuple (e_var 1)))) (w_or1 (t_cmp (o_ne hr) (e_len (x := "len") T.b_len (e_var 1)) (e_len (x := "len") T.b_len (e_var 0)))))) (ss_one (s_ret e_bl)) ss_nil)
    (ss_one (s_ret (e_all rfl T.b_all (e_lc [("place", 2), ("places", 3)] rfl SC_is_values.nd (go_tup 2 (gos_cons (go_name 2) (gos_cons (go_name 3) gos_nil))) (i_zip T.b_zip (e_var 1) (e_var 0)) (blkOk_by (N := ["wheels", "thing", "place", "places"]) (sc := defScope (top 16)) (by decide +kernel)) (fun _ _ _ _ _ => (pg_tup rfl (pgs_cons (pg_name (i := 2) SC_is_values.nd rfl (by first | exact Or.inl rfl | exact Or.inr rfl)) (pgs_cons (pg_name (i := 3) SC_is_values.nd rfl (by first | exact Or.inl rfl | exact Or.inr rfl)) pgs_nil)))) (fun _ _ _ _ _ => c_yes) (fun _ _ _ _ _ => (e_call (F_is_below T) takes0 (hr.mono (by decide)) (a_cons (e_var 2) (a_cons (e_var 3) a_nil)))))))))), T.g_is_values, F.kp, F.bindsN fun _ _ _ _ _ _ us hl => match us, hl with | [_, _], _ => rfl⟩, mkFn_ar⟩
  exact U.Fn.by Z t_is_values a_is_values
theorem SC_is_left : FnScope ["many", "thing", "beats"] ["many", "thing"] (defScope (top 17)) := ⟨rfl, rfl, rfl, by decide +kernel, rfl, by decide +kernel, by decide +kernel⟩
set_option maxHeartbeats 4000000 in
theorem F_is_left (T : Txt K mg) : Fn P w K mg base 3 "is_left" 2 s_is_left := by
  obtain ⟨fd, F⟩ := T.f_is_left
  have Z : Fn P w K mg base 3 "is_left" 2 m_is_left := ⟨⟨_, fd, ["many", "thing"], fn_F F SC_is_left (fun cdv A outer s H E hr => by
      have tk := takes_of (X := cxOf (L2.CX P w) P w K mg base ["many", "thing", "beats"] "is_left" (defScope (top 17)) (He.fAd K ("is_left", none)) cdv A outer s H E) (E := E) rfl rfl rfl rfl
      exact (ss_cons (s_if (t_w (w_or (t_not (t_val (e_isi "tuple" T.b_isinstance T.b_tuple (e_var 1)))) (w_or1 (t_cmp (o_ne hr) (e_len (x := "len") T.b_len (e_var 1)) (e_var 0))))) (ss_one (s_ret e_bl)) ss_nil)
    (ss_one (s_ret (e_all rfl T.b_all (e_lc [("beats", 2)] rfl SC_is_left.nd (go_name 2) (i_seq (e_var 1)) (blkOk_by (N := ["many", "thing", "beats"]) (sc := defScope (top 17)) (by decide +kernel)) (fun _ _ _ _ _ => (pg_name (i := 2) SC_is_left.nd rfl (by first | exact Or.inl rfl | exact Or.inr rfl))) (fun _ _ _ _ _ => c_yes) (fun _ _ _ _ _ => (e_call (F_is_within T) takes0 (hr.mono (by decide)) (a_cons (e_var 2) (a_cons e_int (a_cons (e_gint T.i_LONGEST_LEFT) a_nil))))))))))), T.g_is_left, F.kp, F.bindsN fun _ _ _ _ _ _ us hl => match us, hl with | [_, _], _ => rfl⟩, mkFn_ar⟩
  exact U.Fn.by Z t_is_left a_is_left
theorem SC_is_state_of : FnScope ["book", "thing"] ["book", "thing"] (defScope (top 18)) := ⟨rfl, rfl, rfl, by decide +kernel, rfl, by decide +kernel, by decide +kernel⟩
set_option maxHeartbeats 4000000 in
theorem F_is_state_of (T : Txt K mg) : Fn P w K mg base 5 "is_state_of" 2 s_is_state_of := by
  obtain ⟨fd, F⟩ := T.f_is_state_of
  have Z : Fn P w K mg base 5 "is_state_of" 2 m_is_state_of := ⟨⟨_, fd, ["book", "thing"], fn_F F SC_is_state_of (fun cdv A outer s H E hr => by
      have tk := takes_of (X := cxOf (L2.CX P w) P w K mg base ["book", "thing"] "is_state_of" (defScope (top 18)) (He.fAd K ("is_state_of", none)) cdv A outer s H E) (E := E) rfl rfl rfl rfl
      exact (ss_cons (s_if (t_w (w_or (t_not (t_val (e_isi "tuple" T.b_isinstance T.b_tuple (e_var 1)))) (w_or1 (t_cmp (o_ne hr) (e_len (x := "len") T.b_len (e_var 1)) e_int)))) (ss_one (s_ret e_bl)) ss_nil)
    (ss_one (s_ret (e_and (e_call (F_is_values T) tk (hr.mono (by decide)) (a_cons (e_fld "Book" "wheels" T.c_Book T.n_Book_wheels (e_var 0)) (a_cons (e_ix (e_var 1) e_int) a_nil))) (e_one (e_call (F_is_left T) tk (hr.mono (by decide)) (a_cons (e_len (x := "len") T.b_len (e_fld "Book" "rules" T.c_Book T.n_Book_rules (e_var 0))) (a_cons (e_ix (e_var 1) e_int) a_nil))))))))), T.g_is_state_of, F.kp, F.bindsN fun _ _ _ _ _ _ us hl => match us, hl with | [_, _], _ => rfl⟩, mkFn_ar⟩
  exact U.Fn.by Z t_is_state_of a_is_state_of
theorem SC_want_state : FnScope ["book", "thing"] ["book", "thing"] (defScope (top 19)) := ⟨rfl, rfl, rfl, by decide +kernel, rfl, by decide +kernel, by decide +kernel⟩
set_option maxHeartbeats 4000000 in
theorem F_want_state (T : Txt K mg) : Fn P w K mg base 6 "want_state" 2 s_want_state := by
  obtain ⟨fd, F⟩ := T.f_want_state
  have Z : Fn P w K mg base 6 "want_state" 2 m_want_state := ⟨⟨_, fd, ["book", "thing"], fn_F F SC_want_state (fun cdv A outer s H E hr => by
      have tk := takes_of (X := cxOf (L2.CX P w) P w K mg base ["book", "thing"] "want_state" (defScope (top 19)) (He.fAd K ("want_state", none)) cdv A outer s H E) (E := E) rfl rfl rfl rfl
      exact (ss_one (s_if (t_not (t_val (e_call (F_is_state_of T) tk (hr.mono (by decide)) (a_cons (e_var 0) (a_cons (e_var 1) a_nil))))) (ss_one s_never) ss_nil))), T.g_want_state, F.kp, F.bindsN fun _ _ _ _ _ _ us hl => match us, hl with | [_, _], _ => rfl⟩, mkFn_ar⟩
  exact U.Fn.by Z t_want_state a_want_state
theorem SC_want_rule : FnScope ["book", "thing"] ["book", "thing"] (defScope (top 20)) := ⟨rfl, rfl, rfl, by decide +kernel, rfl, by decide +kernel, by decide +kernel⟩
set_option maxHeartbeats 4000000 in
theorem F_want_rule (T : Txt K mg) : Fn P w K mg base 4 "want_rule" 2 s_want_rule := by
  obtain ⟨fd, F⟩ := T.f_want_rule
  have Z : Fn P w K mg base 4 "want_rule" 2 m_want_rule := ⟨⟨_, fd, ["book", "thing"], fn_F F SC_want_rule (fun cdv A outer s H E hr => by
      have tk := takes_of (X := cxOf (L2.CX P w) P w K mg base ["book", "thing"] "want_rule" (defScope (top 20)) (He.fAd K ("want_rule", none)) cdv A outer s H E) (E := E) rfl rfl rfl rfl
      exact (ss_one (s_if (t_not (t_val (e_call (F_is_below T) tk (hr.mono (by decide)) (a_cons (e_var 1) (a_cons (e_len (x := "len") T.b_len (e_fld "Book" "rules" T.c_Book T.n_Book_rules (e_var 0))) a_nil))))) (ss_one s_never) ss_nil))), T.g_want_rule, F.kp, F.bindsN fun _ _ _ _ _ _ us hl => match us, hl with | [_, _], _ => rfl⟩, mkFn_ar⟩
  exact U.Fn.by Z t_want_rule a_want_rule
theorem SC_is_row : FnScope ["thing", "most"] ["thing", "most"] (defScope (top 30)) := ⟨rfl, rfl, rfl, by decide +kernel, rfl, by decide +kernel, by decide +kernel⟩
set_option maxHeartbeats 4000000 in
theorem F_is_row (T : Txt K mg) : Fn P w K mg base 1 "is_row" 2 s_is_row := by
  obtain ⟨fd, F⟩ := T.f_is_row
  have Z : Fn P w K mg base 1 "is_row" 2 m_is_row := ⟨⟨_, fd, ["thing", "most"], fn_F F SC_is_row (fun cdv A outer s H E hr => by
      have tk := takes_of (X := cxOf (L2.CX P w) P w K mg base ["thing", "most"] "is_row" (defScope (top 30)) (He.fAd K ("is_row", none)) cdv A outer s H E) (E := E) rfl rfl rfl rfl
      exact (ss_one (s_ret (e_and (e_isi "tuple" T.b_isinstance T.b_tuple (e_var 0)) (e_one (e_cmp o_le (e_len (x := "len") T.b_len (e_var 0)) (e_var 1))))))), T.g_is_row, F.kp, F.bindsN fun _ _ _ _ _ _ us hl => match us, hl with | [_, _], _ => rfl⟩, mkFn_ar⟩
  exact U.Fn.by Z t_is_row a_is_row
theorem SC_is_moment : FnScope ["many", "thing"] ["many", "thing"] (defScope (top 33)) := ⟨rfl, rfl, rfl, by decide +kernel, rfl, by decide +kernel, by decide +kernel⟩
set_option maxHeartbeats 4000000 in
theorem F_is_moment (T : Txt K mg) : Fn P w K mg base 4 "is_moment" 2 s_is_moment := by
  obtain ⟨fd, F⟩ := T.f_is_moment
  have Z : Fn P w K mg base 4 "is_moment" 2 m_is_moment := ⟨⟨_, fd, ["many", "thing"], fn_F F SC_is_moment (fun cdv A outer s H E hr => by
      have tk := takes_of (X := cxOf (L2.CX P w) P w K mg base ["many", "thing"] "is_moment" (defScope (top 33)) (He.fAd K ("is_moment", none)) cdv A outer s H E) (E := E) rfl rfl rfl rfl
      exact (ss_cons (s_if (t_w (w_or (t_not (t_val (e_isi "tuple" T.b_isinstance T.b_tuple (e_var 1)))) (w_or1 (t_cmp (o_ne hr) (e_len (x := "len") T.b_len (e_var 1)) e_int)))) (ss_one (s_ret e_bl)) ss_nil)
    (ss_one (s_ret (e_and (e_cmp (o_in hr) (e_ix (e_var 1) e_int) (e_tup (a_cons e_str (a_cons e_str a_nil)))) (e_one (e_call (F_is_below T) tk (hr.mono (by decide)) (a_cons (e_ix (e_var 1) e_int) (a_cons (e_var 0) a_nil))))))))), T.g_is_moment, F.kp, F.bindsN fun _ _ _ _ _ _ us hl => match us, hl with | [_, _], _ => rfl⟩, mkFn_ar⟩
  exact U.Fn.by Z t_is_moment a_is_moment
theorem SC_is_spot : FnScope ["wheels", "thing", "words", "word", "wheel", "place"] ["wheels", "thing", "words"] (defScope (top 35)) := ⟨rfl, rfl, rfl, by decide +kernel, rfl, by decide +kernel, by decide +kernel⟩
set_option maxHeartbeats 4000000 in
theorem F_is_spot (T : Txt K mg) : Fn P w K mg base 4 "is_spot" 3 s_is_spot := by
  obtain ⟨fd, F⟩ := T.f_is_spot
  have Z : Fn P w K mg base 4 "is_spot" 3 m_is_spot := ⟨⟨_, fd, ["wheels", "thing", "words"], fn_F F SC_is_spot (fun cdv A outer s H E hr => by
      have tk := takes_of (X := cxOf (L2.CX P w) P w K mg base ["wheels", "thing", "words", "word", "wheel", "place"] "is_spot" (defScope (top 35)) (He.fAd K ("is_spot", none)) cdv A outer s H E) (E := E) rfl rfl rfl rfl
      exact (ss_cons (s_if (t_w (w_or (t_not (t_val (e_isi "tuple" T.b_isinstance T.b_tuple (e_var 1)))) (w_or1 (t_cmp (o_ne hr) (e_len (x := "len") T.b_len (e_var 1)) e_int)))) (ss_one (s_ret e_bl)) ss_nil)
    (ss_cons (s_asg (e_var 1) (g_tup 3 rfl (gs_cons (g_name 3 SC_is_spot.nd) (gs_cons (g_name 4 SC_is_spot.nd) (gs_cons (g_name 5 SC_is_spot.nd) gs_nil)))))
    (ss_one (s_ret (e_and (e_cmp (o_in hr) (e_var 3) (e_var 2)) (e_and (e_call (F_is_below T) tk (hr.mono (by decide)) (a_cons (e_var 4) (a_cons (e_len (x := "len") T.b_len (e_var 0)) a_nil))) (e_one (e_call (F_is_below T) tk (hr.mono (by decide)) (a_cons (e_var 5) (a_cons (e_ix (e_var 0) (e_var 4)) a_nil))))))))))), T.g_is_spot, F.kp, F.bindsN fun _ _ _ _ _ _ us hl => match us, hl with | [_, _, _], _ => rfl⟩, mkFn_ar⟩
  exact U.Fn.by Z t_is_spot a_is_spot
theorem SC_is_condition : FnScope ["wheels", "many", "thing"] ["wheels", "many", "thing"] (defScope (top 32)) := ⟨rfl, rfl, rfl, by decide +kernel, rfl, by decide +kernel, by decide +kernel⟩
set_option maxHeartbeats 4000000 in
theorem F_is_condition (T : Txt K mg) : Fn P w K mg base 5 "is_condition" 3 s_is_condition := by
  obtain ⟨fd, F⟩ := T.f_is_condition
  have Z : Fn P w K mg base 5 "is_condition" 3 m_is_condition := ⟨⟨_, fd, ["wheels", "many", "thing"], fn_F F SC_is_condition (fun cdv A outer s H E hr => by
      have tk := takes_of (X := cxOf (L2.CX P w) P w K mg base ["wheels", "many", "thing"] "is_condition" (defScope (top 32)) (He.fAd K ("is_condition", none)) cdv A outer s H E) (E := E) rfl rfl rfl rfl
      exact (ss_one (s_ret (e_or (e_call (F_is_spot T) tk (hr.mono (by decide)) (a_cons (e_var 0) (a_cons (e_var 2) (a_cons (e_tup (a_cons e_str (a_cons e_str (a_cons e_str a_nil)))) a_nil)))) (e_one (e_call (F_is_moment T) tk (hr.mono (by decide)) (a_cons (e_var 1) (a_cons (e_var 2) a_nil)))))))), T.g_is_condition, F.kp, F.bindsN fun _ _ _ _ _ _ us hl => match us, hl with | [_, _, _], _ => rfl⟩, mkFn_ar⟩
  exact U.Fn.by Z t_is_condition a_is_condition
theorem SC_is_change : FnScope ["wheels", "thing"] ["wheels", "thing"] (defScope (top 34)) := ⟨rfl, rfl, rfl, by decide +kernel, rfl, by decide +kernel, by decide +kernel⟩
set_option maxHeartbeats 4000000 in
theorem F_is_change (T : Txt K mg) : Fn P w K mg base 5 "is_change" 2 s_is_change := by
  obtain ⟨fd, F⟩ := T.f_is_change
  have Z : Fn P w K mg base 5 "is_change" 2 m_is_change := ⟨⟨_, fd, ["wheels", "thing"], fn_F F SC_is_change (fun cdv A outer s H E hr => by
      have tk := takes_of (X := cxOf (L2.CX P w) P w K mg base ["wheels", "thing"] "is_change" (defScope (top 34)) (He.fAd K ("is_change", none)) cdv A outer s H E) (E := E) rfl rfl rfl rfl
      exact (ss_one (s_ret (e_call (F_is_spot T) tk (hr.mono (by decide)) (a_cons (e_var 0) (a_cons (e_var 1) (a_cons (e_tup (a_cons e_str (a_cons e_str a_nil))) a_nil))))))), T.g_is_change, F.kp, F.bindsN fun _ _ _ _ _ _ us hl => match us, hl with | [_, _], _ => rfl⟩, mkFn_ar⟩
  exact U.Fn.by Z t_is_change a_is_change
theorem SC_is_hush : FnScope ["thing"] ["thing"] (defScope (top 37)) := ⟨rfl, rfl, rfl, by decide +kernel, rfl, by decide +kernel, by decide +kernel⟩
set_option maxHeartbeats 4000000 in
theorem F_is_hush (T : Txt K mg) : Fn P w K mg base 3 "is_hush" 1 s_is_hush := by
  obtain ⟨fd, F⟩ := T.f_is_hush
  have Z : Fn P w K mg base 3 "is_hush" 1 m_is_hush := ⟨⟨_, fd, ["thing"], fn_F F SC_is_hush (fun cdv A outer s H E hr => by
      have tk := takes_of (X := cxOf (L2.CX P w) P w K mg base ["thing"] "is_hush" (defScope (top 37)) (He.fAd K ("is_hush", none)) cdv A outer s H E) (E := E) rfl rfl rfl rfl
      exact (ss_one (s_ret (e_and (e_isi "tuple" T.b_isinstance T.b_tuple (e_var 0)) (e_and (e_cmp (o_eq hr) (e_len (x := "len") T.b_len (e_var 0)) e_int) (e_one (e_call (F_is_within T) tk (hr.mono (by decide)) (a_cons (e_ix (e_var 0) e_int) (a_cons (e_gint T.i_LEAST_HUSH) (a_cons (e_gint T.i_LONGEST_HUSH) a_nil)))))))))), T.g_is_hush, F.kp, F.bindsN fun _ _ _ _ _ _ us hl => match us, hl with | [_], _ => rfl⟩, mkFn_ar⟩
  exact U.Fn.by Z t_is_hush a_is_hush
theorem SC_is_hushes : FnScope ["many", "thing", "pair", "rule", "beats"] ["many", "thing"] (defScope (top 36)) := ⟨rfl, rfl, rfl, by decide +kernel, rfl, by decide +kernel, by decide +kernel⟩
set_option maxHeartbeats 4000000 in
theorem F_is_hushes (T : Txt K mg) : Fn P w K mg base 5 "is_hushes" 2 s_is_hushes := by
  obtain ⟨fd, F⟩ := T.f_is_hushes
  have Z : Fn P w K mg base 5 "is_hushes" 2 m_is_hushes := ⟨⟨_, fd, ["many", "thing"], fn_F F SC_is_hushes (fun cdv A outer s H E hr => by
      have tk := takes_of (X := cxOf (L2.CX P w) P w K mg base ["many", "thing", "pair", "rule", "beats"] "is_hushes" (defScope (top 36)) (He.fAd K ("is_hushes", none)) cdv A outer s H E) (E := E) rfl rfl rfl rfl
      exact (ss_cons (s_if (t_w (w_or (t_not (t_val (e_call (F_is_row T) tk (hr.mono (by decide)) (a_cons (e_var 1) (a_cons (e_gint T.i_MOST_HUSHES) a_nil))))) (w_or1 (t_not (t_val (e_all rfl T.b_all (e_lc [("pair", 2)] rfl SC_is_hushes.nd (go_name 2) (i_seq (e_var 1)) (blkOk_by (N := ["many", "thing", "pair", "rule", "beats"]) (sc := defScope (top 36)) (by decide +kernel)) (fun _ _ _ _ _ => (pg_name (i := 2) SC_is_hushes.nd rfl (by first | exact Or.inl rfl | exact Or.inr rfl))) (fun _ _ _ _ _ => c_yes) (fun _ _ _ _ _ => (e_call (F_is_hush T) takes0 (hr.mono (by decide)) (a_cons (e_var 2) a_nil)))))))))) (ss_one (s_ret e_bl)) ss_nil)
    (ss_one (s_ret (e_call (F_is_rising T) tk (hr.mono (by decide)) (a_cons (e_tuple T.b_tuple (e_lc [("rule", 3), ("beats", 4)] rfl SC_is_hushes.nd (go_tup 2 (gos_cons (go_name 3) (gos_cons (go_name 4) gos_nil))) (i_seq (e_var 1)) (blkOk_by (N := ["many", "thing", "pair", "rule", "beats"]) (sc := defScope (top 36)) (by decide +kernel)) (fun _ _ _ _ _ => (pg_tup rfl (pgs_cons (pg_name (i := 3) SC_is_hushes.nd rfl (by first | exact Or.inl rfl | exact Or.inr rfl)) (pgs_cons (pg_name (i := 4) SC_is_hushes.nd rfl (by first | exact Or.inl rfl | exact Or.inr rfl)) pgs_nil)))) (fun _ _ _ _ _ => c_yes) (fun _ _ _ _ _ => (e_var 3)))) (a_cons (e_var 0) a_nil))))))), T.g_is_hushes, F.kp, F.bindsN fun _ _ _ _ _ _ us hl => match us, hl with | [_, _], _ => rfl⟩, mkFn_ar⟩
  exact U.Fn.by Z t_is_hushes a_is_hushes
theorem SC_is_wakes : FnScope ["many", "thing", "hushes", "rule", "beats"] ["many", "thing", "hushes"] (defScope (top 38)) := ⟨rfl, rfl, rfl, by decide +kernel, rfl, by decide +kernel, by decide +kernel⟩
set_option maxHeartbeats 4000000 in
theorem F_is_wakes (T : Txt K mg) : Fn P w K mg base 5 "is_wakes" 3 s_is_wakes := by
  obtain ⟨fd, F⟩ := T.f_is_wakes
  have Z : Fn P w K mg base 5 "is_wakes" 3 m_is_wakes := ⟨⟨_, fd, ["many", "thing", "hushes"], fn_F F SC_is_wakes (fun cdv A outer s H E hr => by
      have tk := takes_of (X := cxOf (L2.CX P w) P w K mg base ["many", "thing", "hushes", "rule", "beats"] "is_wakes" (defScope (top 38)) (He.fAd K ("is_wakes", none)) cdv A outer s H E) (E := E) rfl rfl rfl rfl
      exact (ss_cons (s_if (t_w (w_or (t_not (t_val (e_call (F_is_row T) tk (hr.mono (by decide)) (a_cons (e_var 1) (a_cons (e_gint T.i_MOST_WAKES) a_nil))))) (w_or1 (t_not (t_val (e_call (F_is_rising T) tk (hr.mono (by decide)) (a_cons (e_var 1) (a_cons (e_var 0) a_nil)))))))) (ss_one (s_ret e_bl)) ss_nil)
    (ss_one (s_ret (e_not (e_any rfl T.b_any (e_lc [("rule", 3), ("beats", 4)] rfl SC_is_wakes.nd (go_tup 2 (gos_cons (go_name 3) (gos_cons (go_name 4) gos_nil))) (i_seq (e_var 2)) (blkOk_by (N := ["many", "thing", "hushes", "rule", "beats"]) (sc := defScope (top 38)) (by decide +kernel)) (fun _ _ _ _ _ => (pg_tup rfl (pgs_cons (pg_name (i := 3) SC_is_wakes.nd rfl (by first | exact Or.inl rfl | exact Or.inr rfl)) (pgs_cons (pg_name (i := 4) SC_is_wakes.nd rfl (by first | exact Or.inl rfl | exact Or.inr rfl)) pgs_nil)))) (fun _ _ _ _ _ => c_yes) (fun _ _ _ _ _ => (e_cmp (o_in hr) (e_var 3) (e_var 1)))))))))), T.g_is_wakes, F.kp, F.bindsN fun _ _ _ _ _ _ us hl => match us, hl with | [_, _, _], _ => rfl⟩, mkFn_ar⟩
  exact U.Fn.by Z t_is_wakes a_is_wakes
theorem SC_is_rule : FnScope ["wheels", "many", "thing", "test", "changes", "hushes", "wakes", "condition", "change"] ["wheels", "many", "thing"] (defScope (top 31)) := ⟨rfl, rfl, rfl, by decide +kernel, rfl, by decide +kernel, by decide +kernel⟩
set_option maxHeartbeats 4000000 in
theorem F_is_rule (T : Txt K mg) : Fn P w K mg base 6 "is_rule" 3 s_is_rule := by
  obtain ⟨fd, F⟩ := T.f_is_rule
  have Z : Fn P w K mg base 6 "is_rule" 3 m_is_rule := ⟨⟨_, fd, ["wheels", "many", "thing"], fn_F F SC_is_rule (fun cdv A outer s H E hr => by
      have tk := takes_of (X := cxOf (L2.CX P w) P w K mg base ["wheels", "many", "thing", "test", "changes", "hushes", "wakes", "condition", "change"] "is_rule" (defScope (top 31)) (He.fAd K ("is_rule", none)) cdv A outer s H E) (E := E) rfl rfl rfl rfl
      exact (ss_cons (s_if (t_w (w_or (t_not (t_val (e_isi "tuple" T.b_isinstance T.b_tuple (e_var 2)))) (w_or1 (t_cmp (o_ne hr) (e_len (x := "len") T.b_len (e_var 2)) e_int)))) (ss_one (s_ret e_bl)) ss_nil)
    (ss_cons (s_asg (e_var 2) (g_tup 4 rfl (gs_cons (g_name 3 SC_is_rule.nd) (gs_cons (g_name 4 SC_is_rule.nd) (gs_cons (g_name 5 SC_is_rule.nd) (gs_cons (g_name 6 SC_is_rule.nd) gs_nil))))))
    (ss_cons (s_if (t_w (w_or (t_not (t_val (e_call (F_is_row T) tk (hr.mono (by decide)) (a_cons (e_var 3) (a_cons (e_gint T.i_MOST_CONDITIONS) a_nil))))) (w_or1 (t_not (t_val (e_call (F_is_row T) tk (hr.mono (by decide)) (a_cons (e_var 4) (a_cons (e_gint T.i_MOST_CHANGES) a_nil)))))))) (ss_one (s_ret e_bl)) ss_nil)
    (ss_cons (s_if (t_not (t_val (e_all rfl T.b_all (e_lc [("condition", 7)] rfl SC_is_rule.nd (go_name 7) (i_seq (e_var 3)) (blkOk_by (N := ["wheels", "many", "thing", "test", "changes", "hushes", "wakes", "condition", "change"]) (sc := defScope (top 31)) (by decide +kernel)) (fun _ _ _ _ _ => (pg_name (i := 7) SC_is_rule.nd rfl (by first | exact Or.inl rfl | exact Or.inr rfl))) (fun _ _ _ _ _ => c_yes) (fun _ _ _ _ _ => (e_call (F_is_condition T) takes0 (hr.mono (by decide)) (a_cons (e_var 0) (a_cons (e_var 1) (a_cons (e_var 7) a_nil))))))))) (ss_one (s_ret e_bl)) ss_nil)
    (ss_cons (s_if (t_not (t_val (e_all rfl T.b_all (e_lc [("change", 8)] rfl SC_is_rule.nd (go_name 8) (i_seq (e_var 4)) (blkOk_by (N := ["wheels", "many", "thing", "test", "changes", "hushes", "wakes", "condition", "change"]) (sc := defScope (top 31)) (by decide +kernel)) (fun _ _ _ _ _ => (pg_name (i := 8) SC_is_rule.nd rfl (by first | exact Or.inl rfl | exact Or.inr rfl))) (fun _ _ _ _ _ => c_yes) (fun _ _ _ _ _ => (e_call (F_is_change T) takes0 (hr.mono (by decide)) (a_cons (e_var 0) (a_cons (e_var 8) a_nil)))))))) (ss_one (s_ret e_bl)) ss_nil)
    (ss_one (s_ret (e_and (e_call (F_is_hushes T) tk (hr.mono (by decide)) (a_cons (e_var 1) (a_cons (e_var 5) a_nil))) (e_one (e_call (F_is_wakes T) tk (hr.mono (by decide)) (a_cons (e_var 1) (a_cons (e_var 6) (a_cons (e_var 5) a_nil)))))))))))))), T.g_is_rule, F.kp, F.bindsN fun _ _ _ _ _ _ us hl => match us, hl with | [_, _, _], _ => rfl⟩, mkFn_ar⟩
  exact U.Fn.by Z t_is_rule a_is_rule
theorem SC_Book_init : FnScope ["self", "wheels", "rules", "number", "rule"] ["self", "wheels", "rules"] (defScope (topM 29 0)) := ⟨rfl, rfl, rfl, by decide +kernel, rfl, by decide +kernel, by decide +kernel⟩
set_option maxHeartbeats 4000000 in
theorem M_Book (T : Txt K mg) : Mkr P w K mg base 7 "Book" 2 s_Book_init := by
  obtain ⟨fd, F⟩ := T.f_Book_init
  have Z : Mkr P w K mg base 7 "Book" 2 m_Book_init := ⟨⟨_, fd, ["self", "wheels", "rules"], fn_F F SC_Book_init (fun cdv A outer s H E hr => by
      have tk := takes_of (X := cxOf (L2.CX P w) P w K mg base ["self", "wheels", "rules", "number", "rule"] "Book.__init__" (defScope (topM 29 0)) (He.fAd K ("Book", some "__init__")) cdv A outer s H E) (E := E) rfl rfl rfl rfl
      exact (ss_cons (s_if (t_w (w_or (t_not (t_val (e_call (F_is_wheels T) tk (hr.mono (by decide)) (a_cons (e_var 1) a_nil)))) (w_or1 (t_not (t_val (e_call (F_is_row T) tk (hr.mono (by decide)) (a_cons (e_var 2) (a_cons (e_gint T.i_MOST_RULES) a_nil)))))))) (ss_one s_never) ss_nil)
    (ss_cons (s_for (passes_of rfl) rfl (i_enum T.b_enumerate (e_var 2)) (g_tup 2 rfl (gs_cons (g_name 3 SC_Book_init.nd) (gs_cons (g_name 4 SC_Book_init.nd) gs_nil))) (ss_one (s_if (t_not (t_val (e_call (F_is_rule T) tk (hr.mono (by decide)) (a_cons (e_var 1) (a_cons (e_len (x := "len") T.b_len (e_var 2)) (a_cons (e_var 4) a_nil)))))) (ss_one s_never) ss_nil)))
    (ss_cons (s_fld "Book" "wheels" T.c_Book T.n_Book_wheels (e_var 0) (e_var 1))
    (ss_one (s_fld "Book" "rules" T.c_Book T.n_Book_rules (e_var 0) (e_var 2))))))), T.g_Book, T.k_Book, binds_all F (n := 3) (by simp [He.DefD.dvs, d_Book_init]) (by rfl) (fun _ _ _ _ _ _ _ us its hl hi => match us, its, hl, hi with | [_, _, _], [_], _, _ => ⟨_, rfl, rfl⟩)⟩, mkFn_ar⟩
  exact U.Mkr.by Z t_Book_init a_Book_init
theorem SC_is_so : FnScope ["condition", "values", "left", "word", "stands", "place"] ["condition", "values", "left"] (defScope (top 45)) := ⟨rfl, rfl, rfl, by decide +kernel, rfl, by decide +kernel, by decide +kernel⟩
set_option maxHeartbeats 4000000 in
theorem F_is_so (T : Txt K mg) : Fn P w K mg base 1 "is_so" 3 s_is_so := by
  obtain ⟨fd, F⟩ := T.f_is_so
  have Z : Fn P w K mg base 1 "is_so" 3 m_is_so := ⟨⟨_, fd, ["condition", "values", "left"], fn_F F SC_is_so (fun cdv A outer s H E hr => by
      have tk := takes_of (X := cxOf (L2.CX P w) P w K mg base ["condition", "values", "left", "word", "stands", "place"] "is_so" (defScope (top 45)) (He.fAd K ("is_so", none)) cdv A outer s H E) (E := E) rfl rfl rfl rfl
      exact (ss_cons (s_set 3 (e_ix (e_var 0) e_int) SC_is_so.nd)
    (ss_cons (s_if (t_cmp (o_eq hr) (e_var 3) e_str) (ss_one (s_ret (e_cmp o_gt (e_ix (e_var 2) (e_ix (e_var 0) e_int)) e_int))) ss_nil)
    (ss_cons (s_if (t_cmp (o_eq hr) (e_var 3) e_str) (ss_one (s_ret (e_cmp (o_eq hr) (e_ix (e_var 2) (e_ix (e_var 0) e_int)) e_int))) ss_nil)
    (ss_cons (s_set 4 (e_ix (e_var 1) (e_ix (e_var 0) e_int)) SC_is_so.nd)
    (ss_cons (s_set 5 (e_ix (e_var 0) e_int) SC_is_so.nd)
    (ss_cons (s_if (t_cmp (o_eq hr) (e_var 3) e_str) (ss_one (s_ret (e_cmp (o_eq hr) (e_var 4) (e_var 5)))) ss_nil)
    (ss_cons (s_if (t_cmp (o_eq hr) (e_var 3) e_str) (ss_one (s_ret (e_cmp (o_ne hr) (e_var 4) (e_var 5)))) ss_nil)
    (ss_one (s_ret (e_cmp o_lt (e_var 4) (e_var 5)))))))))))), T.g_is_so, F.kp, F.bindsN fun _ _ _ _ _ _ us hl => match us, hl with | [_, _, _], _ => rfl⟩, mkFn_ar⟩
  exact U.Fn.by Z t_is_so a_is_so
theorem SC_is_ready : FnScope ["book", "rule", "values", "left", "condition"] ["book", "rule", "values", "left"] (defScope (top 44)) := ⟨rfl, rfl, rfl, by decide +kernel, rfl, by decide +kernel, by decide +kernel⟩
set_option maxHeartbeats 4000000 in
theorem F_is_ready (T : Txt K mg) : Fn P w K mg base 2 "is_ready" 4 s_is_ready := by
  obtain ⟨fd, F⟩ := T.f_is_ready
  have Z : Fn P w K mg base 2 "is_ready" 4 m_is_ready := ⟨⟨_, fd, ["book", "rule", "values", "left"], fn_F F SC_is_ready (fun cdv A outer s H E hr => by
      have tk := takes_of (X := cxOf (L2.CX P w) P w K mg base ["book", "rule", "values", "left", "condition"] "is_ready" (defScope (top 44)) (He.fAd K ("is_ready", none)) cdv A outer s H E) (E := E) rfl rfl rfl rfl
      exact (ss_cons (s_if (t_cmp o_gt (e_ix (e_var 3) (e_var 1)) e_int) (ss_one (s_ret e_bl)) ss_nil)
    (ss_cons (s_for (passes_of rfl) rfl (i_seq (e_ix (e_ix (e_fld "Book" "rules" T.c_Book T.n_Book_rules (e_var 0)) (e_var 1)) e_int)) (g_name 4 SC_is_ready.nd) (ss_one (s_if (t_not (t_val (e_call (F_is_so T) tk (hr.mono (by decide)) (a_cons (e_var 4) (a_cons (e_var 2) (a_cons (e_var 3) a_nil)))))) (ss_one (s_ret e_bl)) ss_nil)))
    (ss_one (s_ret e_bl))))), T.g_is_ready, F.kp, F.bindsN fun _ _ _ _ _ _ us hl => match us, hl with | [_, _, _, _], _ => rfl⟩, mkFn_ar⟩
  exact U.Fn.by Z t_is_ready a_is_ready
theorem SC_may_do : FnScope ["book", "state", "rule", "values", "left"] ["book", "state", "rule"] (defScope (top 43)) := ⟨rfl, rfl, rfl, by decide +kernel, rfl, by decide +kernel, by decide +kernel⟩
set_option maxHeartbeats 4000000 in
theorem F_may_do (T : Txt K mg) : Fn P w K mg base 7 "may_do" 3 s_may_do := by
  obtain ⟨fd, F⟩ := T.f_may_do
  have Z : Fn P w K mg base 7 "may_do" 3 m_may_do := ⟨⟨_, fd, ["book", "state", "rule"], fn_F F SC_may_do (fun cdv A outer s H E hr => by
      have tk := takes_of (X := cxOf (L2.CX P w) P w K mg base ["book", "state", "rule", "values", "left"] "may_do" (defScope (top 43)) (He.fAd K ("may_do", none)) cdv A outer s H E) (E := E) rfl rfl rfl rfl
      exact (ss_cons (s_expr (e_call (F_want_state T) tk (hr.mono (by decide)) (a_cons (e_var 0) (a_cons (e_var 1) a_nil))))
    (ss_cons (s_expr (e_call (F_want_rule T) tk (hr.mono (by decide)) (a_cons (e_var 0) (a_cons (e_var 2) a_nil))))
    (ss_cons (s_asg (e_var 1) (g_tup 2 rfl (gs_cons (g_name 3 SC_may_do.nd) (gs_cons (g_name 4 SC_may_do.nd) gs_nil))))
    (ss_one (s_ret (e_call (F_is_ready T) tk (hr.mono (by decide)) (a_cons (e_var 0) (a_cons (e_var 2) (a_cons (e_var 3) (a_cons (e_var 4) a_nil))))))))))), T.g_may_do, F.kp, F.bindsN fun _ _ _ _ _ _ us hl => match us, hl with | [_, _, _], _ => rfl⟩, mkFn_ar⟩
  exact U.Fn.by Z t_may_do a_may_do
theorem SC__law_bag : FnScope ["_law_script", "_law_at", "_law_cell", "_law_great", "_law_primes"] ["_law_script", "_law_at"] (defScope (top 47)) := ⟨rfl, rfl, rfl, by decide +kernel, rfl, by decide +kernel, by decide +kernel⟩
set_option maxHeartbeats 4000000 in
theorem F__law_bag (T : Txt K mg) : Fn P w K mg base 1 "_law_bag" 2 s__law_bag := by
  obtain ⟨fd, F⟩ := T.f__law_bag
  have Z : Fn P w K mg base 1 "_law_bag" 2 m__law_bag := ⟨⟨_, fd, ["_law_script", "_law_at"], fn_F F SC__law_bag (fun cdv A outer s H E hr => by
      have tk := takes_of (X := cxOf (L2.CX P w) P w K mg base ["_law_script", "_law_at", "_law_cell", "_law_great", "_law_primes"] "_law_bag" (defScope (top 47)) (He.fAd K ("_law_bag", none)) cdv A outer s H E) (E := E) rfl rfl rfl rfl
      exact (ss_cons (s_set 2 e_int SC__law_bag.nd)
    (ss_cons (s_if (t_cmp o_lt (e_var 1) (e_len (x := "len") T.b_len (e_var 0))) (ss_one (s_set 2 (e_ix (e_var 0) (e_var 1)) SC__law_bag.nd)) ss_nil)
    (ss_cons (s_set 3 e_int SC__law_bag.nd)
    (ss_cons (s_if (t_cmp o_ge (e_abs T.b_abs (e_var 2)) (e_op o_pow e_int e_int)) (ss_one (s_set 3 (e_abs T.b_abs (e_var 2)) SC__law_bag.nd)) ss_nil)
    (ss_cons (s_set 4 (e_lst (a_cons e_int (a_cons e_int (a_cons e_int (a_cons e_int (a_cons e_int (a_cons e_int (a_cons e_int (a_cons e_int a_nil))))))))) SC__law_bag.nd)
    (ss_one (s_ret (e_lst (a_cons (e_var 3) (a_cons (e_op o_mod (e_op o_pow (e_op o_add (e_op o_add (e_op o_mod (e_var 2) e_int) (e_op o_mul e_int (e_var 1))) e_int) e_int) (e_ix (e_var 4) (e_op o_mod (e_var 1) e_int))) (a_cons e_int a_nil)))))))))))), T.g__law_bag, F.kp, F.bindsN fun _ _ _ _ _ _ us hl => match us, hl with | [_, _], _ => rfl⟩, mkFn_ar⟩
  exact U.Fn.by Z t__law_bag a__law_bag
theorem SC__law_take : FnScope ["_law_bag_here", "_law_many", "_law_digit"] ["_law_bag_here", "_law_many"] (defScope (top 48)) := ⟨rfl, rfl, rfl, by decide +kernel, rfl, by decide +kernel, by decide +kernel⟩
set_option maxHeartbeats 4000000 in
theorem F__law_take (T : Txt K mg) : Fn P w K mg base 1 "_law_take" 2 s__law_take := by
  obtain ⟨fd, F⟩ := T.f__law_take
  have Z : Fn P w K mg base 1 "_law_take" 2 m__law_take := ⟨⟨_, fd, ["_law_bag_here", "_law_many"], fn_F F SC__law_take (fun cdv A outer s H E hr => by
      have tk := takes_of (X := cxOf (L2.CX P w) P w K mg base ["_law_bag_here", "_law_many", "_law_digit"] "_law_take" (defScope (top 48)) (He.fAd K ("_law_take", none)) cdv A outer s H E) (E := E) rfl rfl rfl rfl
      exact (ss_cons (s_if (t_cmp o_gt (e_ix (e_var 0) e_int) e_int) (ss_cons (s_set 2 (e_op o_mod (e_ix (e_var 0) e_int) (e_var 1)) SC__law_take.nd)
    (ss_cons (s_asg (e_op o_div (e_ix (e_var 0) e_int) (e_var 1)) (g_sub (W := W0) (e_var 0) e_int))
    (ss_one (s_ret (e_var 2))))) ss_nil)
    (ss_cons (s_asg (e_op o_add (e_ix (e_var 0) e_int) e_int) (g_sub (W := W0) (e_var 0) e_int))
    (ss_cons (s_asg (e_op o_mod (e_op o_add (e_op o_add (e_op o_mul (e_ix (e_var 0) e_int) e_int) (e_op o_mul (e_op o_mul e_int (e_ix (e_var 0) e_int)) (e_ix (e_var 0) e_int))) e_int) e_int) (g_sub (W := W0) (e_var 0) e_int))
    (ss_one (s_ret (e_op o_mod (e_op o_mod (e_op o_pow (e_op o_div (e_ix (e_var 0) e_int) e_int) e_int) e_int) (e_var 1)))))))), T.g__law_take, F.kp, F.bindsN fun _ _ _ _ _ _ us hl => match us, hl with | [_, _], _ => rfl⟩, mkFn_ar⟩
  exact U.Fn.by Z t__law_take a__law_take
theorem SC__law_told : FnScope ["_law_wheels", "_law_tests", "_law_values", "_law_hushes", "_law_book", "_law_number", "_law_test"] ["_law_wheels", "_law_tests", "_law_values", "_law_hushes"] (defScope (top 49)) := ⟨rfl, rfl, rfl, by decide +kernel, rfl, by decide +kernel, by decide +kernel⟩
set_option maxHeartbeats 4000000 in
theorem F__law_told (T : Txt K mg) : Fn P w K mg base 9 "_law_told" 4 s__law_told := by
  obtain ⟨fd, F⟩ := T.f__law_told
  have Z : Fn P w K mg base 9 "_law_told" 4 m__law_told := ⟨⟨_, fd, ["_law_wheels", "_law_tests", "_law_values", "_law_hushes"], fn_F F SC__law_told (fun cdv A outer s H E hr => by
      have tk := takes_of (X := cxOf (L2.CX P w) P w K mg base ["_law_wheels", "_law_tests", "_law_values", "_law_hushes", "_law_book", "_law_number", "_law_test"] "_law_told" (defScope (top 49)) (He.fAd K ("_law_told", none)) cdv A outer s H E) (E := E) rfl rfl rfl rfl
      exact (ss_cons (s_set 4 (e_make (M_Book T) tk (hr.mono (by decide)) (a_cons (e_var 0) (a_cons (e_tuple T.b_tuple (e_lc [("_law_test", 6)] rfl SC__law_told.nd (go_name 6) (i_seq (e_var 1)) (blkOk_by (N := ["_law_wheels", "_law_tests", "_law_values", "_law_hushes", "_law_book", "_law_number", "_law_test"]) (sc := defScope (top 49)) (by decide +kernel)) (fun _ _ _ _ _ => (pg_name (i := 6) SC__law_told.nd rfl (by first | exact Or.inl rfl | exact Or.inr rfl))) (fun _ _ _ _ _ => c_yes) (fun _ _ _ _ _ => (e_tup (a_cons (e_var 6) (a_cons (e_tup a_nil) (a_cons (e_tup a_nil) (a_cons (e_tup a_nil) a_nil)))))))) a_nil))) SC__law_told.nd)
    (ss_one (s_ret (e_lc [("_law_number", 5)] rfl SC__law_told.nd (go_name 5) (i_rng1 T.b_range (e_len (x := "len") T.b_len (e_var 1))) (blkOk_by (N := ["_law_wheels", "_law_tests", "_law_values", "_law_hushes", "_law_book", "_law_number", "_law_test"]) (sc := defScope (top 49)) (by decide +kernel)) (fun _ _ _ _ _ => (pg_name (i := 5) SC__law_told.nd rfl (by first | exact Or.inl rfl | exact Or.inr rfl))) (fun _ _ _ _ _ => c_yes) (fun _ _ _ _ _ => (e_call (F_may_do T) takes0 (hr.mono (by decide)) (a_cons (e_var 4) (a_cons (e_tup (a_cons (e_var 2) (a_cons (e_var 3) a_nil))) (a_cons (e_var 5) a_nil)))))))))), T.g__law_told, F.kp, F.bindsN fun _ _ _ _ _ _ us hl => match us, hl with | [_, _, _, _], _ => rfl⟩, mkFn_ar⟩
  exact U.Fn.by Z t__law_told a__law_told
theorem SC_law : FnScope ["_law_script", "_law_k", "_law_bag_here", "_law_other", "_law_place", "_law_hushed", "_law_wheels", "_law_wheel", "_law_stands", "_law_tests", "_law_due", "_law_values"] ["_law_script"] (defScope (top 50)) := ⟨rfl, rfl, rfl, by decide +kernel, rfl, by decide +kernel, by decide +kernel⟩
set_option maxHeartbeats 4000000 in
theorem E_law (T : Txt K mg) : ∃ fd : FuncData, (∀ (s : Shared) (u : Value), BindsTo s fd ⟨[u], []⟩ [("_law_script", u)]) ∧ ∀ base : Heap, FnOk P w K mg base (L2.CX P w) 10 (He.fAd K ("law", none)) fd ["_law_script"] (spF K 1 m_law) := by
  obtain ⟨fd, F⟩ := T.f_law
  have b := FunD.bindsA (ps := ["_law_script"]) F fun _ _ _ _ _ _ us hl => match us, hl with | [_], _ => rfl
  exact ⟨fd, fun s u => b s [u] rfl, fun base => fn_F F SC_law (fun cdv A outer s H E hr => by
      have tk := takes_of (X := cxOf (L2.CX P w) P w K mg base ["_law_script", "_law_k", "_law_bag_here", "_law_other", "_law_place", "_law_hushed", "_law_wheels", "_law_wheel", "_law_stands", "_law_tests", "_law_due", "_law_values"] "law" (defScope (top 50)) (He.fAd K ("law", none)) cdv A outer s H E) (E := E) rfl rfl rfl rfl
      exact (ss_cons (s_for (passes_of rfl) rfl (i_rng1 T.b_range (e_max2 rfl T.b_max e_int (e_min2 rfl T.b_min e_int (e_len (x := "len") T.b_len (e_var 0))))) (g_name 1 SC_law.nd) (ss_cons (s_set 2 (e_call (F__law_bag T) tk (hr.mono (by decide)) (a_cons (e_var 0) (a_cons (e_var 1) a_nil))) SC_law.nd)
    (ss_cons (s_par 6 7 rfl SC_law.nd (e_tup (a_cons (e_op o_add e_int (e_call (F__law_take T) tk (hr.mono (by decide)) (a_cons (e_var 2) (a_cons e_int a_nil)))) (a_cons (e_op o_add e_int (e_call (F__law_take T) tk (hr.mono (by decide)) (a_cons (e_var 2) (a_cons e_int a_nil)))) a_nil))) (e_call (F__law_take T) tk (hr.mono (by decide)) (a_cons (e_var 2) (a_cons e_int a_nil))))
    (ss_cons (s_set 3 (e_call (F__law_take T) tk (hr.mono (by decide)) (a_cons (e_var 2) (a_cons (e_ix (e_var 6) (e_op o_sub e_int (e_var 7))) a_nil))) SC_law.nd)
    (ss_cons (s_for (passes_of rfl) rfl (i_rng1 T.b_range (e_ix (e_var 6) (e_var 7))) (g_name 4 SC_law.nd) (ss_one (s_for (passes_of rfl) rfl (i_rng1 T.b_range (e_ix (e_var 6) (e_var 7))) (g_name 8 SC_law.nd) (ss_cons (s_set 11 (e_if (t_cmp (o_eq hr) (e_var 7) e_int) (e_tup (a_cons (e_var 8) (a_cons (e_var 3) a_nil))) (e_tup (a_cons (e_var 3) (a_cons (e_var 8) a_nil)))) SC_law.nd)
    (ss_cons (s_set 9 (e_lst (a_cons (e_tup (a_cons (e_tup (a_cons e_str (a_cons (e_var 7) (a_cons (e_var 4) a_nil)))) a_nil)) (a_cons (e_tup (a_cons (e_tup (a_cons e_str (a_cons (e_var 7) (a_cons (e_var 4) a_nil)))) a_nil)) (a_cons (e_tup (a_cons (e_tup (a_cons e_str (a_cons (e_var 7) (a_cons (e_var 4) a_nil)))) a_nil)) (a_cons (e_tup a_nil) a_nil))))) SC_law.nd)
    (ss_cons (s_expr (e_append (e_var 9) (e_tup (a_cons (e_tup (a_cons e_str (a_cons (e_var 7) (a_cons (e_var 4) a_nil)))) (a_cons (e_tup (a_cons e_str (a_cons (e_op o_sub e_int (e_var 7)) (a_cons (e_var 3) a_nil)))) a_nil)))))
    (ss_cons (s_set 10 (e_lst (a_cons (e_cmp (o_eq hr) (e_var 8) (e_var 4)) (a_cons (e_cmp (o_ne hr) (e_var 8) (e_var 4)) (a_cons (e_cmp o_lt (e_var 8) (e_var 4)) (a_cons e_bl (a_cons (e_cmp o_lt (e_var 8) (e_var 4)) a_nil)))))) SC_law.nd)
    (ss_cons (s_if (t_cmp (o_ne hr) (e_call (F__law_told T) tk (hr.mono (by decide)) (a_cons (e_var 6) (a_cons (e_var 9) (a_cons (e_var 11) (a_cons (e_op o_mul (e_tup (a_cons e_int a_nil)) e_int) a_nil))))) (e_var 10)) (ss_one (s_ret e_bl)) ss_nil)
    (ss_cons (s_set 10 (e_lst (a_cons (e_ix (e_var 10) e_int) (a_cons e_bl (a_cons (e_ix (e_var 10) e_int) (a_cons e_bl (a_cons (e_ix (e_var 10) e_int) a_nil)))))) SC_law.nd)
    (ss_one (s_for (passes_of rfl) rfl (i_seq (e_tup (a_cons e_int (a_cons e_int a_nil)))) (g_name 5 SC_law.nd) (ss_one (s_if (t_cmp (o_ne hr) (e_call (F__law_told T) tk (hr.mono (by decide)) (a_cons (e_var 6) (a_cons (e_var 9) (a_cons (e_var 11) (a_cons (e_tup (a_cons e_int (a_cons (e_var 5) (a_cons e_int (a_cons (e_var 5) (a_cons e_int a_nil)))))) a_nil))))) (e_var 10)) (ss_one (s_ret e_bl)) ss_nil)))))))))))))
    (ss_one (s_for (passes_of rfl) rfl (i_seq (e_tup (a_cons e_int (a_cons e_int (a_cons e_int a_nil))))) (g_name 5 SC_law.nd) (ss_cons (s_set 9 (e_lst (a_cons (e_tup (a_cons (e_tup (a_cons e_str (a_cons e_int a_nil))) a_nil)) (a_cons (e_tup (a_cons (e_tup (a_cons e_str (a_cons e_int a_nil))) a_nil)) (a_cons (e_tup (a_cons (e_tup (a_cons e_str (a_cons e_int a_nil))) (a_cons (e_tup (a_cons e_str (a_cons e_int a_nil))) a_nil))) (a_cons (e_tup (a_cons (e_tup (a_cons e_str (a_cons e_int a_nil))) a_nil)) (a_cons (e_tup a_nil) a_nil)))))) SC_law.nd)
    (ss_cons (s_set 10 (e_lst (a_cons (e_cmp o_gt (e_var 5) e_int) (a_cons (e_cmp (o_eq hr) (e_var 5) e_int) (a_cons e_bl (a_cons e_bl (a_cons (e_cmp (o_eq hr) (e_var 5) e_int) a_nil)))))) SC_law.nd)
    (ss_one (s_if (t_cmp (o_ne hr) (e_call (F__law_told T) tk (hr.mono (by decide)) (a_cons (e_var 6) (a_cons (e_var 9) (a_cons (e_tup (a_cons e_int (a_cons e_int a_nil))) (a_cons (e_tup (a_cons e_int (a_cons e_int (a_cons e_int (a_cons e_int (a_cons (e_var 5) a_nil)))))) a_nil))))) (e_var 10)) (ss_one (s_ret e_bl)) ss_nil)))))))))))
    (ss_one (s_ret e_bl))))⟩
end
end Hd
set_option Elab.async false
set_option linter.all false
set_option maxRecDepth 100000
set_option maxHeartbeats 400000
namespace Hd
open PySem U
def tests (w p o : Int) : List D := [.tup [.tup [.str "is", .int w, .int p]], .tup [.tup [.str "not", .int w, .int p]], .tup [.tup [.str "below", .int w, .int p]], .tup [], .tup [.tup [.str "below", .int w, .int p], .tup [.str "is", .int (1 - w), .int o]]]
def due (s p : Int) : List Bool := [s == p, !(s == p), decide (s < p), true, decide (s < p)]
def due2 (s p : Int) : List Bool := [s == p, false, decide (s < p), false, decide (s < p)]
def vals (w s o : Int) : List D := if (w == 0) = true then [.int s, .int o] else [.int o, .int s]
def left5 (h : Int) : List D := [.int 0, .int h, .int 0, .int h, .int 0]
def tests2 : List D := [.tup [.tup [.str "hushed", .int 4]], .tup [.tup [.str "awake", .int 4]], .tup [.tup [.str "hushed", .int 1], .tup [.str "awake", .int 4]], .tup [.tup [.str "awake", .int 3]], .tup []]
def due3 (h : Int) : List Bool := [decide (0 < h), h == 0, false, true, h == 0]
def chk (a b w o p s : Nat) : Bool :=
  toldO [.int (2 + (a : Int)), .int (2 + (b : Int))] (tests w p o) (vals w s o) (left5 0) == some (due s p) && (toldO [.int (2 + (a : Int)), .int (2 + (b : Int))] (tests w p o) (vals w s o) (left5 1) == some (due2 s p) && toldO [.int (2 + (a : Int)), .int (2 + (b : Int))] (tests w p o) (vals w s o) (left5 2) == some (due2 s p))
def chk2 (a b h : Nat) : Bool := toldO [.int (2 + (a : Int)), .int (2 + (b : Int))] tests2 [.int 0, .int 0] [.int 0, .int 0, .int 0, .int 0, .int (h : Int)] == some (due3 h)
theorem chk2_all : ∀ a, a < 3 → ∀ b, b < 3 → ∀ h, h < 3 → chk2 a b h = true := by decide +kernel
theorem chk0_all : ∀ a, a < 3 → ∀ b, b < 3 → ∀ o, o < 2 + b → ∀ p, p < 2 + a → ∀ s, s < 2 + a → chk a b 0 o p s = true := by decide +kernel
theorem chk1_all : ∀ a, a < 3 → ∀ b, b < 3 → ∀ o, o < 2 + a → ∀ p, p < 2 + b → ∀ s, s < 2 + b → chk a b 1 o p s = true := by decide +kernel
end Hd
set_option Elab.async false
set_option linter.all false
set_option maxRecDepth 100000
set_option maxHeartbeats 400000
namespace Hd
open PySem U
def Bag (st : Sto) (b : Nat) (c : Int) : Prop := ∃ g x c', st[b]? = some (lst3 g x c') ∧ CtOk x c' ∧ c' ≤ c
theorem take_step {st : Sto} {b : Nat} {c many : Int} (h : Bag st b c) (h0 : 0 < many) (h1 : many < 1073741824) (hc : c + 1 < 1000000) :
    ∃ (v : Nat) (st' : Sto), s__law_take [.ref b, .int many] st = .ok (.int (v : Int)) st' ∧ (v : Int) < many ∧ Bag st' b (c + 1) ∧ ∀ i, i ≠ b → st'[i]? = st[i]? := by
  obtain ⟨g, x, c', hb, ok, hle⟩ := h
  have hr := take_range (g := g) (x := x) (c := c') h0
  obtain ⟨v, hv⟩ := Int.eq_ofNat_of_zero_le hr.1
  refine ⟨v, _, by rw [← hv]; exact take_of hb ok h0 h1, by omega, ?_, fun i hi => List.getElem?_set_ne (Ne.symm hi)⟩
  obtain ⟨g', x', c'', e, ok', hle'⟩ := take_next (g := g) (many := many) ok (by omega)
  exact ⟨g', x', c'', by rw [get_set (List.getElem?_eq_some_iff.mp hb).1, e], ok', by omega⟩
theorem toS_bools {st : Sto} {i : Nat} {bs : List Bool} (h : st[i]? = some (.lst (bs.map D.bl))) (hs : SeqAt.shaped (.list (bs.map PyData.bool)) = true) : toS st (.ref i) = some (.list (bs.map PyData.bool)) := by
  have e : ∀ (n : Nat) (bs : List Bool), mapO (toP n st) (bs.map D.bl) = some (bs.map PyData.bool) := fun n bs => by
    induction bs with
    | nil => rfl
    | cons b bs ih =>
      simp only [List.map_cons, mapO]
      rw [show toP n st (.bl b) = some (.bool b) by cases n <;> rfl, ih]
  unfold toS
  simp only [toP, lstOf, h, e, Option.map_some, hs, if_true]
theorem eq_bools {st : Sto} {i j : Nat} {bs : List Bool} (h1 : st[i]? = some (.lst (bs.map D.bl))) (h2 : st[j]? = some (.lst (bs.map D.bl))) (hs : SeqAt.shaped (.list (bs.map PyData.bool)) = true) (he : PyData.eqv (.list (bs.map PyData.bool)) (.list (bs.map PyData.bool)) = true) : dEq true (.ref i) (.ref j) st = .ok (.bl false) st := by
  unfold dEq
  rw [toS_bools h1 hs, toS_bools h2 hs]
  simp only [he, if_true, Bool.not_true]
theorem five_ok : ∀ a b c d e : Bool, SeqAt.shaped (.list ([a, b, c, d, e].map PyData.bool)) = true ∧ PyData.eqv (.list ([a, b, c, d, e].map PyData.bool)) (.list ([a, b, c, d, e].map PyData.bool)) = true := by decide +kernel
theorem mkl4 {st : Sto} {a b c d : D} : mkLst [a, b, c, d] st = .ok (.ref st.length) (st ++ [.lst [a, b, c, d]]) := if_pos (show 4 ≤ most by decide)
theorem mkl5 {st : Sto} {a b c d e : D} : mkLst [a, b, c, d, e] st = .ok (.ref st.length) (st ++ [.lst [a, b, c, d, e]]) := if_pos (show 5 ≤ most by decide)
theorem mk5 {st : Sto} {a b c d e : D} : mkTup [a, b, c, d, e] st = .ok (.tup [a, b, c, d, e]) st := if_pos (show 5 ≤ most by decide)
theorem mk1 {st : Sto} {a : D} : mkTup [a] st = .ok (.tup [a]) st := if_pos (show 1 ≤ most by decide)
theorem mk0 {st : Sto} : mkTup [] st = .ok (.tup []) st := if_pos (show 0 ≤ most by decide)
theorem rep5 {st : Sto} : dMul (.tup [.int 0]) (.int 5) st = .ok (.tup (left5 0)) st := by
  unfold dMul
  simp only
  rw [if_pos (by decide)]
  rfl
theorem append_ok {st : Sto} {n : Nat} {ys : List D} {d : D} {ga : EM} {gs : AM} {env : Ev} (hga : ∀ s, ga env s = .ok (.ref n) s) (hgs : ∀ s, gs env s = .ok [d] s) (h : st[n]? = some (.lst ys)) (hl : ys.length < most) : eMtL mAppend ga gs env st = .ok .non (st.set n (.lst (ys ++ [d]))) := by
  have hi : isLst (.ref n) st = true := by
    unfold isLst lstOf
    simp only [h]
    rfl
  unfold eMtL
  rw [hga, ev_bok]
  simp only [hi, if_true, hgs, ev_bok]
  unfold mAppend
  simp only [h]
  rw [if_pos hl]
theorem lst_mid {st ex : Sto} {o : Ob} : (st ++ [o] ++ ex)[st.length]? = some o := by rw [List.append_assoc, List.getElem?_append_right (Nat.le_refl _)]; simp
theorem lstOf_mid {st ex : Sto} {xs : List D} : lstOf (st ++ [.lst xs] ++ ex) st.length = some xs := by unfold lstOf; rw [lst_mid]

def Five (bs : List Bool) : Prop := ∃ a b c d e, bs = [a, b, c, d, e]
theorem due_eq {st : Sto} {n m : Nat} {bs : List Bool} (f : Five bs) (h1 : st[n]? = some (.lst (bs.map D.bl))) (h2 : st[m]? = some (.lst (bs.map D.bl))) : dEq true (.ref n) (.ref m) st = .ok (.bl false) st := by
  obtain ⟨a, b, c, d, e, rfl⟩ := f
  exact eq_bools h1 h2 (five_ok a b c d e).1 (five_ok a b c d e).2
section
variable {st : Sto} {r0 k b e5 e8 e9 e10 e11 : Option D} {o p s w h : Int} {ws : List D}
theorem l1 {n9 n10 : Nat} {vs : List D} {bs : List Bool} (f : Five bs) (h9 : lstOf st n9 = some (tests w p o)) (h10 : st[n10]? = some (.lst (bs.map D.bl))) (ht : toldO ws (tests w p o) vs (left5 h) = some bs) :
    b_law_1 [r0, k, b, some (.int o), some (.int p), some (.int h), some (.tup ws), some (.int w), some (.int s), some (.ref n9), some (.ref n10), some (.tup vs)] st = .nx [r0, k, b, some (.int o), some (.int p), some (.int h), some (.tup ws), some (.int w), some (.int s), some (.ref n9), some (.ref n10), some (.tup vs)] (st ++ [.lst (bs.map D.bl)]) := by
  have hn : n10 < st.length := (List.getElem?_eq_some_iff.mp h10).1
  have e1 := told_of h9 (show toldO ws (tests w p o) vs [.int 0, .int h, .int 0, .int h, .int 0] = _ from ht)
  simp only [b_law_1, ev_var, ev_c, ev_un, ev_bin, ev_anil, ev_acons, ev_fn, ev_tof, ev_tob, ev_tand, ev_tor, ev_tnot, ev_and, ev_or, ev_not, ev_if, ev_chain, ev_true, ev_slice, ev_onone, ev_osome, ev_iseq, ev_ienum, ev_ibin, ev_lc, ev_skip, ev_never, ev_seq, ev_ret, ev_sif, ev_set, ev_expr, ev_asg, ev_par, ev_for, ev_fld, ev_gn, ev_gsnil, ev_gscons, ev_gt, ev_mkfn, ev_bok, ev_berr, ev_bfail, ev_tok, ev_hok, ev_ert, ev_enx, ev_wn, ev_wc, ev_e0, ev_sseq, ev_senum, ev_szip, ev_sltup, ev_ltI, ev_leI, ev_gtI, ev_geI, ev_subI, ev_addI, ev_lenT, List.map_cons, List.map_nil, List.length_cons, List.length_nil, List.cons_append, List.nil_append, List.append_nil, List.getElem?_cons_zero, List.getElem?_cons_succ, List.set_cons_zero, List.set_cons_succ, List.replicate_succ, List.replicate_zero, Nat.reduceAdd, Nat.reduceSub, Nat.reduceEqDiff, reduceIte, Bool.true_eq_false, Bool.false_eq_true, if_true, if_false, mk5, e1]
  rw [due_eq f get_end (by rw [List.getElem?_append_left hn]; exact h10)]
  simp only [ev_var, ev_c, ev_un, ev_bin, ev_anil, ev_acons, ev_fn, ev_tof, ev_tob, ev_tand, ev_tor, ev_tnot, ev_and, ev_or, ev_not, ev_if, ev_chain, ev_true, ev_slice, ev_onone, ev_osome, ev_iseq, ev_ienum, ev_ibin, ev_lc, ev_skip, ev_never, ev_seq, ev_ret, ev_sif, ev_set, ev_expr, ev_asg, ev_par, ev_for, ev_fld, ev_gn, ev_gsnil, ev_gscons, ev_gt, ev_mkfn, ev_bok, ev_berr, ev_bfail, ev_tok, ev_hok, ev_ert, ev_enx, ev_wn, ev_wc, ev_e0, ev_sseq, ev_senum, ev_szip, ev_sltup, ev_ltI, ev_leI, ev_gtI, ev_geI, ev_subI, ev_addI, ev_lenT, List.map_cons, List.map_nil, List.length_cons, List.length_nil, List.cons_append, List.nil_append, List.append_nil, List.getElem?_cons_zero, List.getElem?_cons_succ, List.set_cons_zero, List.set_cons_succ, List.replicate_succ, List.replicate_zero, Nat.reduceAdd, Nat.reduceSub, Nat.reduceEqDiff, reduceIte, Bool.true_eq_false, Bool.false_eq_true, if_true, if_false]
theorem for2 {g : GM} {body : SM} {x1 x2 : D} {env a1 a2 a3 a4 : Ev} {s0 s1 s2 s3 s4 : Sto} (h1 : g x1 env s0 = some (a1, s1)) (h2 : body a1 s1 = .nx a2 s2) (h3 : g x2 a2 s2 = some (a3, s3)) (h4 : body a3 s3 = .nx a4 s4) : startFor g body env (.fix [x1, x2]) s0 = .nx a4 s4 := by
  simp only [startFor, Src.at, List.length_cons, List.length_nil, runFor, List.getElem?_cons_zero, List.getElem?_cons_succ, h1, h2, h3, h4, List.getElem?_nil]
theorem for3 {g : GM} {body : SM} {x1 x2 x3 : D} {env a1 a2 a3 a4 a5 a6 : Ev} {s0 s1 s2 s3 s4 s5 s6 : Sto} (h1 : g x1 env s0 = some (a1, s1)) (h2 : body a1 s1 = .nx a2 s2) (h3 : g x2 a2 s2 = some (a3, s3)) (h4 : body a3 s3 = .nx a4 s4) (h5 : g x3 a4 s4 = some (a5, s5)) (h6 : body a5 s5 = .nx a6 s6) : startFor g body env (.fix [x1, x2, x3]) s0 = .nx a6 s6 := by
  simp only [startFor, Src.at, List.length_cons, List.length_nil, runFor, List.getElem?_cons_zero, List.getElem?_cons_succ, h1, h2, h3, h4, h5, h6, List.getElem?_nil]
theorem due_five : Five (due s p) := ⟨_, _, _, _, _, rfl⟩
theorem due2_five : Five (due2 s p) := ⟨_, _, _, _, _, rfl⟩
theorem due3_five : Five (due3 s) := ⟨_, _, _, _, _, rfl⟩
theorem l2 (h0 : toldO ws (tests w p o) (vals w s o) (left5 0) = some (due s p)) (h1 : toldO ws (tests w p o) (vals w s o) (left5 1) = some (due2 s p)) (h2 : toldO ws (tests w p o) (vals w s o) (left5 2) = some (due2 s p)) :
    ∃ a5 a9 a10 a11 ex, b_law_2 [r0, k, b, some (.int o), some (.int p), e5, some (.tup ws), some (.int w), some (.int s), e9, e10, e11] st = .nx [r0, k, b, some (.int o), some (.int p), a5, some (.tup ws), some (.int w), some (.int s), a9, a10, a11] (st ++ ex) := by
  have hv : eIf (tOf (eBin (dEq false) (eVar 7) (eC (.int 0)))) (eFn mkTup (aCons (eVar 8) (aCons (eVar 3) aNil))) (eFn mkTup (aCons (eVar 3) (aCons (eVar 8) aNil))) [r0, k, b, some (.int o), some (.int p), e5, some (.tup ws), some (.int w), some (.int s), e9, e10, e11] st = .ok (.tup (vals w s o)) st := by
    unfold vals
    simp only [ev_var, ev_c, ev_un, ev_bin, ev_anil, ev_acons, ev_fn, ev_tof, ev_tob, ev_tand, ev_tor, ev_tnot, ev_and, ev_or, ev_not, ev_if, ev_chain, ev_true, ev_slice, ev_onone, ev_osome, ev_iseq, ev_irng, ev_ienum, ev_ibin, ev_lc, ev_skip, ev_never, ev_seq, ev_ret, ev_sif, ev_set, ev_expr, ev_asg, ev_par, ev_for, ev_fld, ev_gn, ev_gsnil, ev_gscons, ev_gt, ev_mkfn, ev_bok, ev_berr, ev_bfail, ev_tok, ev_hok, ev_ert, ev_enx, ev_wn, ev_wc, ev_e0, ev_sseq, ev_senum, ev_szip, ev_sltup, ev_ltI, ev_leI, ev_gtI, ev_geI, ev_subI, ev_addI, ev_lenT, List.map_cons, List.map_nil, List.length_cons, List.length_nil, List.cons_append, List.nil_append, List.append_nil, List.getElem?_cons_zero, List.getElem?_cons_succ, List.set_cons_zero, List.set_cons_succ, List.replicate_succ, List.replicate_zero, Nat.reduceAdd, Nat.reduceSub, Nat.reduceEqDiff, reduceIte, Bool.true_eq_false, Bool.false_eq_true, if_true, if_false, eqI, mk2]
    cases w == 0 <;> rfl
  obtain ⟨S1, hS1⟩ : ∃ S1, S1 = st ++ [Ob.lst (tests w p o)] := ⟨_, rfl⟩
  have l9 : ∀ ex, lstOf (S1 ++ ex) st.length = some (tests w p o) := fun ex => by rw [hS1]; exact lstOf_mid
  have e1 := told_of (l9 [.lst ((due s p).map D.bl)]) h0
  have e2 := due_eq due_five (get_end (st := S1 ++ [.lst ((due s p).map D.bl)]) (o := .lst ((due s p).map D.bl))) (lst_mid (st := S1))
  obtain ⟨S3, hS3⟩ : ∃ S3, S3 = S1 ++ [.lst ((due s p).map D.bl)] ++ [.lst ((due s p).map D.bl)] := ⟨_, rfl⟩
  have l10 : seqOf S3 (.ref S1.length) = some ((due s p).map D.bl) := by rw [hS3]; exact lst_at lst_mid
  have i0 := ixS (i := 0) l10 rfl
  have i2 := ixS (i := 2) l10 rfl
  have i4 := ixS (i := 4) l10 rfl
  have l9' : ∀ ex, lstOf (S3 ++ ex) st.length = some (tests w p o) := fun ex => by rw [hS3, List.append_assoc, List.append_assoc]; exact l9 _
  have f1 := l1 (st := S3 ++ [.lst ((due2 s p).map D.bl)]) (r0 := r0) (k := k) (b := b) (s := s) due2_five (l9' _) (get_end (st := S3)) h1
  have f2 := l1 (st := S3 ++ [.lst ((due2 s p).map D.bl)] ++ [.lst ((due2 s p).map D.bl)]) (r0 := r0) (k := k) (b := b) (s := s) due2_five (by rw [List.append_assoc]; exact l9' _) (lst_mid (st := S3)) h2
  rw [← hS3] at e1 e2
  simp only [due, List.map_cons, List.map_nil] at e1 e2
  refine ⟨some (.int 2), some (.ref st.length), some (.ref S3.length), some (.tup (vals w s o)), [.lst (tests w p o), .lst ((due s p).map D.bl), .lst ((due s p).map D.bl), .lst ((due2 s p).map D.bl), .lst ((due2 s p).map D.bl), .lst ((due2 s p).map D.bl)], ?_⟩
  unfold b_law_2
  rw [ev_seq, ev_set, hv]
  simp only [ev_var, ev_c, ev_un, ev_bin, ev_anil, ev_acons, ev_fn, ev_tof, ev_tob, ev_tand, ev_tor, ev_tnot, ev_and, ev_or, ev_not, ev_if, ev_chain, ev_true, ev_slice, ev_onone, ev_osome, ev_iseq, ev_ienum, ev_ibin, ev_lc, ev_skip, ev_never, ev_seq, ev_ret, ev_sif, ev_set, ev_expr, ev_asg, ev_par, ev_for, ev_fld, ev_gn, ev_gsnil, ev_gscons, ev_gt, ev_mkfn, ev_bok, ev_berr, ev_bfail, ev_tok, ev_hok, ev_ert, ev_enx, ev_wn, ev_wc, ev_e0, ev_sseq, ev_senum, ev_szip, ev_sltup, ev_ltI, ev_leI, ev_gtI, ev_geI, ev_subI, ev_addI, ev_lenT, List.map_cons, List.map_nil, List.length_cons, List.length_nil, List.cons_append, List.nil_append, List.append_nil, List.getElem?_cons_zero, List.getElem?_cons_succ, List.set_cons_zero, List.set_cons_succ, List.replicate_succ, List.replicate_zero, Nat.reduceAdd, Nat.reduceSub, Nat.reduceEqDiff, reduceIte, Bool.true_eq_false, Bool.false_eq_true, if_true, if_false, mk3, mk1, mk0, mkl4]
  rw [append_ok (n := st.length) (ys := [.tup [.tup [.str "is", .int w, .int p]], .tup [.tup [.str "not", .int w, .int p]], .tup [.tup [.str "below", .int w, .int p]], .tup []]) (d := .tup [.tup [.str "below", .int w, .int p], .tup [.str "is", .int (1 - w), .int o]]) (fun s => rfl) (fun s => by simp only [ev_var, ev_c, ev_un, ev_bin, ev_anil, ev_acons, ev_fn, ev_tof, ev_tob, ev_tand, ev_tor, ev_tnot, ev_and, ev_or, ev_not, ev_if, ev_chain, ev_true, ev_slice, ev_onone, ev_osome, ev_iseq, ev_irng, ev_ienum, ev_ibin, ev_lc, ev_skip, ev_never, ev_seq, ev_ret, ev_sif, ev_set, ev_expr, ev_asg, ev_par, ev_for, ev_fld, ev_gn, ev_gsnil, ev_gscons, ev_gt, ev_mkfn, ev_bok, ev_berr, ev_bfail, ev_tok, ev_hok, ev_ert, ev_enx, ev_wn, ev_wc, ev_e0, ev_sseq, ev_senum, ev_szip, ev_sltup, ev_ltI, ev_leI, ev_gtI, ev_geI, ev_subI, ev_addI, ev_lenT, List.map_cons, List.map_nil, List.length_cons, List.length_nil, List.cons_append, List.nil_append, List.append_nil, List.getElem?_cons_zero, List.getElem?_cons_succ, List.set_cons_zero, List.set_cons_succ, List.replicate_succ, List.replicate_zero, Nat.reduceAdd, Nat.reduceSub, Nat.reduceEqDiff, reduceIte, Bool.true_eq_false, Bool.false_eq_true, if_true, if_false, mk3, mk2]) get_end (show 4 < most by decide), set_end]
  rw [show st ++ [Ob.lst ([D.tup [.tup [.str "is", .int w, .int p]], .tup [.tup [.str "not", .int w, .int p]], .tup [.tup [.str "below", .int w, .int p]], .tup []] ++ [D.tup [.tup [.str "below", .int w, .int p], .tup [.str "is", .int (1 - w), .int o]]])] = S1 from hS1.symm]
  simp only [ev_var, ev_c, ev_un, ev_bin, ev_anil, ev_acons, ev_fn, ev_tof, ev_tob, ev_tand, ev_tor, ev_tnot, ev_and, ev_or, ev_not, ev_if, ev_chain, ev_true, ev_slice, ev_onone, ev_osome, ev_iseq, ev_ienum, ev_ibin, ev_lc, ev_skip, ev_never, ev_seq, ev_ret, ev_sif, ev_set, ev_expr, ev_asg, ev_par, ev_for, ev_fld, ev_gn, ev_gsnil, ev_gscons, ev_gt, ev_mkfn, ev_bok, ev_berr, ev_bfail, ev_tok, ev_hok, ev_ert, ev_enx, ev_wn, ev_wc, ev_e0, ev_sseq, ev_senum, ev_szip, ev_sltup, ev_ltI, ev_leI, ev_gtI, ev_geI, ev_subI, ev_addI, ev_lenT, List.map_cons, List.map_nil, List.length_cons, List.length_nil, List.cons_append, List.nil_append, List.append_nil, List.getElem?_cons_zero, List.getElem?_cons_succ, List.set_cons_zero, List.set_cons_succ, List.replicate_succ, List.replicate_zero, Nat.reduceAdd, Nat.reduceSub, Nat.reduceEqDiff, reduceIte, Bool.true_eq_false, Bool.false_eq_true, if_true, if_false, eqI, mkl5, mk1, rep5, e1, e2, i0, i2, i4, mk2]
  refine (for2 rfl f1 rfl f2).trans ?_
  rw [hS3, hS1]
  simp only [List.append_assoc, List.cons_append, List.nil_append]
theorem l4 {e4 : Option D} (hh : toldO ws tests2 [.int 0, .int 0] [.int 0, .int 0, .int 0, .int 0, .int h] = some (due3 h)) :
    ∃ a9 a10 ex, b_law_4 [r0, k, b, some (.int o), e4, some (.int h), some (.tup ws), some (.int w), e8, e9, e10, e11] st = .nx [r0, k, b, some (.int o), e4, some (.int h), some (.tup ws), some (.int w), e8, a9, a10, e11] (st ++ ex) := by
  obtain ⟨S1, hS1⟩ : ∃ S1, S1 = st ++ [Ob.lst tests2] := ⟨_, rfl⟩
  have l9 : ∀ ex, lstOf (S1 ++ ex) st.length = some tests2 := fun ex => by rw [hS1]; exact lstOf_mid
  have e1 := told_of (l9 [.lst ((due3 h).map D.bl)]) hh
  have e2 := due_eq due3_five (get_end (st := S1 ++ [.lst ((due3 h).map D.bl)]) (o := .lst ((due3 h).map D.bl))) (lst_mid (st := S1))
  simp only [due3, List.map_cons, List.map_nil] at e1 e2
  refine ⟨some (.ref st.length), some (.ref S1.length), [.lst tests2, .lst ((due3 h).map D.bl), .lst ((due3 h).map D.bl)], ?_⟩
  unfold b_law_4
  simp only [ev_var, ev_c, ev_un, ev_bin, ev_anil, ev_acons, ev_fn, ev_tof, ev_tob, ev_tand, ev_tor, ev_tnot, ev_and, ev_or, ev_not, ev_if, ev_chain, ev_true, ev_slice, ev_onone, ev_osome, ev_iseq, ev_ienum, ev_ibin, ev_lc, ev_skip, ev_never, ev_seq, ev_ret, ev_sif, ev_set, ev_expr, ev_asg, ev_par, ev_for, ev_fld, ev_gn, ev_gsnil, ev_gscons, ev_gt, ev_mkfn, ev_bok, ev_berr, ev_bfail, ev_tok, ev_hok, ev_ert, ev_enx, ev_wn, ev_wc, ev_e0, ev_sseq, ev_senum, ev_szip, ev_sltup, ev_ltI, ev_leI, ev_gtI, ev_geI, ev_subI, ev_addI, ev_lenT, List.map_cons, List.map_nil, List.length_cons, List.length_nil, List.cons_append, List.nil_append, List.append_nil, List.getElem?_cons_zero, List.getElem?_cons_succ, List.set_cons_zero, List.set_cons_succ, List.replicate_succ, List.replicate_zero, Nat.reduceAdd, Nat.reduceSub, Nat.reduceEqDiff, reduceIte, Bool.true_eq_false, Bool.false_eq_true, if_true, if_false, mk1, mk2, mk0, mkl5]
  rw [show st ++ [Ob.lst [D.tup [.tup [.str "hushed", .int 4]], .tup [.tup [.str "awake", .int 4]], .tup [.tup [.str "hushed", .int 1], .tup [.str "awake", .int 4]], .tup [.tup [.str "awake", .int 3]], .tup []]] = S1 from hS1.symm]
  simp only [ev_var, ev_c, ev_un, ev_bin, ev_anil, ev_acons, ev_fn, ev_tof, ev_tob, ev_tand, ev_tor, ev_tnot, ev_and, ev_or, ev_not, ev_if, ev_chain, ev_true, ev_slice, ev_onone, ev_osome, ev_iseq, ev_ienum, ev_ibin, ev_lc, ev_skip, ev_never, ev_seq, ev_ret, ev_sif, ev_set, ev_expr, ev_asg, ev_par, ev_for, ev_fld, ev_gn, ev_gsnil, ev_gscons, ev_gt, ev_mkfn, ev_bok, ev_berr, ev_bfail, ev_tok, ev_hok, ev_ert, ev_enx, ev_wn, ev_wc, ev_e0, ev_sseq, ev_senum, ev_szip, ev_sltup, ev_ltI, ev_leI, ev_gtI, ev_geI, ev_subI, ev_addI, ev_lenT, List.map_cons, List.map_nil, List.length_cons, List.length_nil, List.cons_append, List.nil_append, List.append_nil, List.getElem?_cons_zero, List.getElem?_cons_succ, List.set_cons_zero, List.set_cons_succ, List.replicate_succ, List.replicate_zero, Nat.reduceAdd, Nat.reduceSub, Nat.reduceEqDiff, reduceIte, Bool.true_eq_false, Bool.false_eq_true, if_true, if_false, eqI, mkl5, mk5, e1, e2]
  rw [hS1]
  simp only [List.append_assoc, List.cons_append, List.nil_append, due3, List.map_cons, List.map_nil]
end
theorem get0 {st ex : Sto} {o : Ob} (h : st[0]? = some o) : (st ++ ex)[0]? = some o := by rw [List.getElem?_append_left (List.getElem?_eq_some_iff.mp h).1]; exact h
theorem cases0 {a b o p s : Nat} {w : Nat} (ha : a < 3) (hb : b < 3) (hw : w < 2) (ho : o < 2 + (if w = 0 then b else a)) (hp : p < 2 + (if w = 0 then a else b)) (hs : s < 2 + (if w = 0 then a else b)) : chk a b w o p s = true := by
  have : w = 0 ∨ w = 1 := by omega
  rcases this with rfl | rfl
  · exact chk0_all a ha b hb o ho p hp s hs
  · exact chk1_all a ha b hb o ho p hp s hs
section
variable {ob : Ob} {r0 k bg : Option D} {a b o w : Nat}
def wsD (a b : Nat) : List D := [.int (2 + (a : Int)), .int (2 + (b : Int))]
def nW (a b w : Nat) : Nat := 2 + (if w = 0 then a else b)
theorem wheel_at (hw : w < 2) {st : Sto} : dIx (.tup (wsD a b)) (.int (w : Int)) st = .ok (.int (nW a b w : Nat)) st := by
  have : w = 0 ∨ w = 1 := by omega
  rcases this with rfl | rfl
  · refine ixS rfl ?_
    show some (D.int (2 + (a : Int))) = some (D.int ((2 + a : Nat) : Int))
    rw [Int.natCast_add]
    rfl
  · refine ixS rfl ?_
    show some (D.int (2 + (b : Int))) = some (D.int ((2 + b : Nat) : Int))
    rw [Int.natCast_add]
    rfl
theorem other_at (hw : w < 2) {st : Sto} : dIx (.tup (wsD a b)) (.int (1 - (w : Int))) st = .ok (.int (nW b a w : Nat)) st := by
  have : w = 0 ∨ w = 1 := by omega
  rcases this with rfl | rfl
  · refine ixS rfl ?_
    show some (D.int (2 + (b : Int))) = some (D.int ((2 + b : Nat) : Int))
    rw [Int.natCast_add]
    rfl
  · refine ixS rfl ?_
    show some (D.int (2 + (a : Int))) = some (D.int ((2 + a : Nat) : Int))
    rw [Int.natCast_add]
    rfl
def J3 (ob : Ob) (r0 k bg : Option D) (a b o w : Nat) (e4 : Option D) (env : Ev) (st : Sto) : Prop := st[0]? = some ob ∧ ∃ a5 a8 a9 a10 a11, env = [r0, k, bg, some (.int (o : Int)), e4, a5, some (.tup (wsD a b)), some (.int (w : Int)), a8, a9, a10, a11]
theorem l3 {p : Nat} {env : Ev} {st : Sto} (ha : a < 3) (hb : b < 3) (hw : w < 2) (ho : o < nW b a w) (hp : p < nW a b w) (hJ : J3 ob r0 k bg a b o w (some (.int (p : Int))) env st) : ∃ env' st', b_law_3 env st = .nx env' st' ∧ J3 ob r0 k bg a b o w (some (.int (p : Int))) env' st' := by
  have hm : nW a b w ≤ most := Nat.le_trans (show nW a b w ≤ 4 by unfold nW; split <;> omega) (by decide)
  have hr : iRng (eBin dIx (eVar 6) (eVar 7)) env st = .ok (.fix (rngL 0 (nW a b w))) st := irng_of (by
    obtain ⟨_, a5, a8, a9, a10, a11, rfl⟩ := hJ
    simp only [ev_var, ev_c, ev_un, ev_bin, ev_anil, ev_acons, ev_fn, ev_tof, ev_tob, ev_tand, ev_tor, ev_tnot, ev_and, ev_or, ev_not, ev_if, ev_chain, ev_true, ev_slice, ev_onone, ev_osome, ev_iseq, ev_ienum, ev_ibin, ev_lc, ev_skip, ev_never, ev_seq, ev_ret, ev_sif, ev_set, ev_expr, ev_asg, ev_par, ev_for, ev_fld, ev_gn, ev_gsnil, ev_gscons, ev_gt, ev_mkfn, ev_bok, ev_berr, ev_bfail, ev_tok, ev_hok, ev_ert, ev_enx, ev_wn, ev_wc, ev_e0, ev_sseq, ev_senum, ev_szip, ev_sltup, ev_ltI, ev_leI, ev_gtI, ev_geI, ev_subI, ev_addI, ev_lenT, List.map_cons, List.map_nil, List.length_cons, List.length_nil, List.cons_append, List.nil_append, List.append_nil, List.getElem?_cons_zero, List.getElem?_cons_succ, List.set_cons_zero, List.set_cons_succ, List.replicate_succ, List.replicate_zero, Nat.reduceAdd, Nat.reduceSub, Nat.reduceEqDiff, reduceIte, Bool.true_eq_false, Bool.false_eq_true, if_true, if_false, wheel_at hw]) hm
  obtain ⟨env', st', e1, e2⟩ := startFor_J (s := .fix (rngL 0 (nW a b w))) (g := gN 8) (body := b_law_2) (xs := rngL 0 (nW a b w)) (env := env) (st := st) (fun _ => J3 ob r0 k bg a b o w (some (.int (p : Int)))) (fun _ _ _ _ => rfl) hJ fun i x env st hx ⟨h0, a5, a8, a9, a10, a11, he⟩ => by
    obtain ⟨hi, rfl⟩ := rngL_get hx
    subst he
    have hc := cases0 (o := o) (p := p) (s := i) ha hb hw ho hp hi
    simp only [chk, Bool.and_eq_true, beq_iff_eq] at hc
    obtain ⟨b5, b9, b10, b11, ex, e⟩ := l2 (st := st) (r0 := r0) (k := k) (b := bg) (e5 := a5) (e9 := a9) (e10 := a10) (e11 := a11) hc.1 hc.2.1 hc.2.2
    exact ⟨_, _, _, _, rfl, e, get0 h0, _, _, _, _, _, rfl⟩
  refine ⟨env', st', ?_, e2⟩
  unfold b_law_3
  rw [ev_for, hr, ev_tok]
  exact e1
end
def J5 (ob : Ob) (env : Ev) (st : Sto) : Prop := st[0]? = some ob ∧ ∃ e1 e2 e3 e4 e5 e6 e7 e8 e9 e10 e11, env = [some (.ref 0), e1, e2, e3, e4, e5, e6, e7, e8, e9, e10, e11]
theorem l5 {ob : Ob} {ns : List Int} {k : Nat} {e2 e3 e4 e5 e6 e7 e8 e9 e10 e11 : Option D} {st : Sto} (hob : ∀ s : Sto, s[0]? = some ob → lstOf s 0 = some (ns.map D.int)) (hn : ns.length ≤ 63) (hk : k < 8) (h0 : st[0]? = some ob) :
    ∃ env' st', b_law_5 [some (.ref 0), some (.int (k : Int)), e2, e3, e4, e5, e6, e7, e8, e9, e10, e11] st = .nx env' st' ∧ J5 ob env' st' := by
  have hpos : 0 < st.length := (List.getElem?_eq_some_iff.mp h0).1
  have q1 : s__law_bag [.ref 0, .int (k : Int)] st = _ := bag_of (hob st h0) (by omega) (by omega)
  obtain ⟨S0, hS0⟩ : ∃ S, S = st ++ [lst3 (bagG (cellI ns k)) (bagX (cellI ns k) k) 0] := ⟨_, rfl⟩
  rw [← hS0] at q1
  have z0 : S0[0]? = some ob := by rw [hS0]; exact get0 h0
  have B0 : Bag S0 st.length 0 := ⟨_, _, _, by rw [hS0]; exact get_end, ⟨(bagX_range _ _).1, (bagX_range _ _).2, by omega, by omega⟩, Int.le_refl _⟩
  obtain ⟨a, S1, t1, ha, B1, k1⟩ := take_step (many := 3) B0 (by omega) (by omega) (by omega)
  obtain ⟨b, S2, t2, hb, B2, k2⟩ := take_step (many := 3) B1 (by omega) (by omega) (by omega)
  obtain ⟨w, S3, t3, hw, B3, k3⟩ := take_step (many := 2) B2 (by omega) (by omega) (by omega)
  have hw2 : w < 2 := by omega
  have hnw : nW b a w < 100 := by unfold nW; split <;> omega
  have hnw0 : 0 < nW b a w := by unfold nW; omega
  obtain ⟨o, S4, t4, ho, B4, k4⟩ := take_step (many := ((nW b a w : Nat) : Int)) B3 (by omega) (by omega) (by omega)
  have z4 : S4[0]? = some ob := by rw [k4 0 (by omega), k3 0 (by omega), k2 0 (by omega), k1 0 (by omega)]; exact z0
  have oa := other_at (a := a) (b := b) hw2 (st := S3)
  unfold wsD at oa
  have hm : nW a b w ≤ most := Nat.le_trans (show nW a b w ≤ 4 by unfold nW; split <;> omega) (by decide)
  have hr : iRng (eBin dIx (eVar 6) (eVar 7)) [some (.ref 0), some (.int (k : Int)), some (.ref st.length), some (.int (o : Int)), e4, e5, some (.tup (wsD a b)), some (.int (w : Int)), e8, e9, e10, e11] S4 = .ok (.fix (rngL 0 (nW a b w))) S4 := irng_of (by simp only [ev_var, ev_c, ev_un, ev_bin, ev_anil, ev_acons, ev_fn, ev_tof, ev_tob, ev_tand, ev_tor, ev_tnot, ev_and, ev_or, ev_not, ev_if, ev_chain, ev_true, ev_slice, ev_onone, ev_osome, ev_iseq, ev_ienum, ev_ibin, ev_lc, ev_skip, ev_never, ev_seq, ev_ret, ev_sif, ev_set, ev_expr, ev_asg, ev_par, ev_for, ev_fld, ev_gn, ev_gsnil, ev_gscons, ev_gt, ev_mkfn, ev_bok, ev_berr, ev_bfail, ev_tok, ev_hok, ev_ert, ev_enx, ev_wn, ev_wc, ev_e0, ev_sseq, ev_senum, ev_szip, ev_sltup, ev_ltI, ev_leI, ev_gtI, ev_geI, ev_subI, ev_addI, ev_lenT, List.map_cons, List.map_nil, List.length_cons, List.length_nil, List.cons_append, List.nil_append, List.append_nil, List.getElem?_cons_zero, List.getElem?_cons_succ, List.set_cons_zero, List.set_cons_succ, List.replicate_succ, List.replicate_zero, Nat.reduceAdd, Nat.reduceSub, Nat.reduceEqDiff, reduceIte, Bool.true_eq_false, Bool.false_eq_true, if_true, if_false, wheel_at hw2]) hm
  unfold wsD at hr
  obtain ⟨env5, S5, f1, z5, c4, hJ⟩ := startFor_J (s := .fix (rngL 0 (nW a b w))) (g := gN 4) (body := b_law_3) (xs := rngL 0 (nW a b w)) (env := [some (.ref 0), some (.int (k : Int)), some (.ref st.length), some (.int (o : Int)), e4, e5, some (.tup (wsD a b)), some (.int (w : Int)), e8, e9, e10, e11]) (st := S4)
    (fun _ env s => s[0]? = some ob ∧ ∃ c4, J3 ob (some (.ref 0)) (some (.int (k : Int))) (some (.ref st.length)) a b o w c4 env s) (fun _ _ _ _ => rfl) ⟨z4, e4, z4, _, _, _, _, _, rfl⟩ fun i x env s hx ⟨z, c4, hz, b5, b8, b9, b10, b11, he⟩ => by
      obtain ⟨hi, rfl⟩ := rngL_get hx
      subst he
      obtain ⟨env', s', g1, g2⟩ := l3 (p := i) (ob := ob) (r0 := some (.ref 0)) (k := some (.int (k : Int))) (bg := some (.ref st.length)) (a := a) (b := b) (o := o) (w := w) (st := s) (by omega) (by omega) hw2 (by omega) hi ⟨z, b5, b8, b9, b10, b11, rfl⟩
      exact ⟨_, _, _, _, rfl, g1, g2.1, _, g2⟩
  obtain ⟨z5', b5, b8, b9, b10, b11, rfl⟩ := hJ
  unfold wsD at f1
  have ck : ∀ h, h < 3 → toldO (wsD a b) tests2 [.int 0, .int 0] [.int 0, .int 0, .int 0, .int 0, .int (h : Nat)] = some (due3 (h : Nat)) := fun h hh => by
    have := chk2_all a (by omega) b (by omega) h hh
    unfold wsD
    simpa only [chk2, beq_iff_eq] using this
  obtain ⟨d9, d10, x1, g1⟩ := l4 (st := S5) (r0 := some (.ref 0)) (k := some (.int (k : Int))) (b := some (.ref st.length)) (o := (o : Int)) (w := (w : Int)) (e4 := c4) (e8 := b8) (e9 := b9) (e10 := b10) (e11 := b11) (ck 0 (by decide))
  obtain ⟨d9', d10', x2, g2⟩ := l4 (st := S5 ++ x1) (r0 := some (.ref 0)) (k := some (.int (k : Int))) (b := some (.ref st.length)) (o := (o : Int)) (w := (w : Int)) (e4 := c4) (e8 := b8) (e9 := d9) (e10 := d10) (e11 := b11) (ck 1 (by decide))
  obtain ⟨d9'', d10'', x3, g3⟩ := l4 (st := S5 ++ x1 ++ x2) (r0 := some (.ref 0)) (k := some (.int (k : Int))) (b := some (.ref st.length)) (o := (o : Int)) (w := (w : Int)) (e4 := c4) (e8 := b8) (e9 := d9') (e10 := d10') (e11 := b11) (ck 2 (by decide))
  unfold wsD at g1 g2 g3
  have fin : b_law_5 [some (.ref 0), some (.int (k : Int)), e2, e3, e4, e5, e6, e7, e8, e9, e10, e11] st = .nx [some (.ref 0), some (.int (k : Int)), some (.ref st.length), some (.int (o : Int)), c4, some (.int ((2 : Nat) : Int)), some (.tup [.int (2 + (a : Int)), .int (2 + (b : Int))]), some (.int (w : Int)), b8, d9'', d10'', b11] (S5 ++ x1 ++ x2 ++ x3) := by
    unfold b_law_5
    simp only [ev_var, ev_c, ev_un, ev_bin, ev_anil, ev_acons, ev_fn, ev_tof, ev_tob, ev_tand, ev_tor, ev_tnot, ev_and, ev_or, ev_not, ev_if, ev_chain, ev_true, ev_slice, ev_onone, ev_osome, ev_iseq, ev_ienum, ev_ibin, ev_lc, ev_skip, ev_never, ev_seq, ev_ret, ev_sif, ev_set, ev_expr, ev_asg, ev_par, ev_for, ev_fld, ev_gn, ev_gsnil, ev_gscons, ev_gt, ev_mkfn, ev_bok, ev_berr, ev_bfail, ev_tok, ev_hok, ev_ert, ev_enx, ev_wn, ev_wc, ev_e0, ev_sseq, ev_senum, ev_szip, ev_sltup, ev_ltI, ev_leI, ev_gtI, ev_geI, ev_subI, ev_addI, ev_lenT, List.map_cons, List.map_nil, List.length_cons, List.length_nil, List.cons_append, List.nil_append, List.append_nil, List.getElem?_cons_zero, List.getElem?_cons_succ, List.set_cons_zero, List.set_cons_succ, List.replicate_succ, List.replicate_zero, Nat.reduceAdd, Nat.reduceSub, Nat.reduceEqDiff, reduceIte, Bool.true_eq_false, Bool.false_eq_true, if_true, if_false, q1, t1, t2, t3, mk2, oa, t4, hr, f1, mk3]
    exact for3 rfl g1 rfl g2 rfl g3
  exact ⟨_, _, fin, get0 (get0 (get0 z5)), _, _, _, _, _, _, _, _, _, _, _, rfl⟩
theorem law_true {ob : Ob} {ns : List Int} (hob : ∀ s : Sto, s[0]? = some ob → lstOf s 0 = some (ns.map D.int)) (hn : ns.length ≤ 63) : ∃ st', m_law [.ref 0] [ob] = .ok (.bl true) st' := by
  have hl : fLen [.ref 0] [ob] = .ok (.int ((ns.length : Nat) : Int)) [ob] := by
    unfold fLen seqOf
    simp only [hob [ob] rfl, List.length_map]
  obtain ⟨N, hN, hN8⟩ : ∃ N : Nat, iMax 3 (iMin 8 ((ns.length : Nat) : Int)) = (N : Int) ∧ N ≤ 8 := by
    unfold iMax iMin
    refine ⟨max 3 (min 8 ns.length), ?_, by omega⟩
    split <;> split <;> omega
  have hr : iRng (eFn (fI2 iMax) (aCons (eC (.int 3)) (aCons (eFn (fI2 iMin) (aCons (eC (.int 8)) (aCons (eFn fLen (aCons (eVar 0) aNil)) aNil))) aNil))) [some (.ref 0), none, none, none, none, none, none, none, none, none, none, none] [ob] = .ok (.fix (rngL 0 N)) [ob] := irng_of (by
    simp only [ev_var, ev_c, ev_un, ev_bin, ev_anil, ev_acons, ev_fn, ev_tof, ev_tob, ev_tand, ev_tor, ev_tnot, ev_and, ev_or, ev_not, ev_if, ev_chain, ev_true, ev_slice, ev_onone, ev_osome, ev_iseq, ev_ienum, ev_ibin, ev_lc, ev_skip, ev_never, ev_seq, ev_ret, ev_sif, ev_set, ev_expr, ev_asg, ev_par, ev_for, ev_fld, ev_gn, ev_gsnil, ev_gscons, ev_gt, ev_mkfn, ev_bok, ev_berr, ev_bfail, ev_tok, ev_hok, ev_ert, ev_enx, ev_wn, ev_wc, ev_e0, ev_sseq, ev_senum, ev_szip, ev_sltup, ev_ltI, ev_leI, ev_gtI, ev_geI, ev_subI, ev_addI, ev_lenT, List.map_cons, List.map_nil, List.length_cons, List.length_nil, List.cons_append, List.nil_append, List.append_nil, List.getElem?_cons_zero, List.getElem?_cons_succ, List.set_cons_zero, List.set_cons_succ, List.replicate_succ, List.replicate_zero, Nat.reduceAdd, Nat.reduceSub, Nat.reduceEqDiff, reduceIte, Bool.true_eq_false, Bool.false_eq_true, if_true, if_false, hl]
    show R.ok (D.int (iMax 3 (iMin 8 ((ns.length : Nat) : Int)))) [ob] = _
    rw [hN]) (Nat.le_trans hN8 (by decide))
  obtain ⟨env', st', f1, _⟩ := startFor_J (s := .fix (rngL 0 N)) (g := gN 1) (body := b_law_5) (xs := rngL 0 N) (env := [some (.ref 0), none, none, none, none, none, none, none, none, none, none, none]) (st := [ob]) (fun _ => J5 ob) (fun _ _ _ _ => rfl) ⟨rfl, _, _, _, _, _, _, _, _, _, _, _, rfl⟩ fun i x env s hx ⟨z, c1, c2, c3, c4, c5, c6, c7, c8, c9, c10, c11, he⟩ => by
    obtain ⟨hi, rfl⟩ := rngL_get hx
    subst he
    obtain ⟨env', s', g1, g2⟩ := l5 (k := i) (e2 := c2) (e3 := c3) (e4 := c4) (e5 := c5) (e6 := c6) (e7 := c7) (e8 := c8) (e9 := c9) (e10 := c10) (e11 := c11) hob hn (by omega) z
    exact ⟨_, _, _, _, rfl, g1, g2⟩
  refine ⟨st', ?_⟩
  simp only [m_law, b_law, ev_var, ev_c, ev_un, ev_bin, ev_anil, ev_acons, ev_fn, ev_tof, ev_tob, ev_tand, ev_tor, ev_tnot, ev_and, ev_or, ev_not, ev_if, ev_chain, ev_true, ev_slice, ev_onone, ev_osome, ev_iseq, ev_ienum, ev_ibin, ev_lc, ev_skip, ev_never, ev_seq, ev_ret, ev_sif, ev_set, ev_expr, ev_asg, ev_par, ev_for, ev_fld, ev_gn, ev_gsnil, ev_gscons, ev_gt, ev_mkfn, ev_bok, ev_berr, ev_bfail, ev_tok, ev_hok, ev_ert, ev_enx, ev_wn, ev_wc, ev_e0, ev_sseq, ev_senum, ev_szip, ev_sltup, ev_ltI, ev_leI, ev_gtI, ev_geI, ev_subI, ev_addI, ev_lenT, List.map_cons, List.map_nil, List.length_cons, List.length_nil, List.cons_append, List.nil_append, List.append_nil, List.getElem?_cons_zero, List.getElem?_cons_succ, List.set_cons_zero, List.set_cons_succ, List.replicate_succ, List.replicate_zero, Nat.reduceAdd, Nat.reduceSub, Nat.reduceEqDiff, reduceIte, Bool.true_eq_false, Bool.false_eq_true, if_true, if_false, hr, f1]
end Hd
set_option Elab.async false
set_option linter.all false
set_option maxRecDepth 100000
set_option maxHeartbeats 0
open PySem PySem.W PySem.Calls PyProof.Rows
abbrev Hd.rw : PySem.W.OpenLaw := PySem.Challenge.rw_hushrules_k10_conditions_one_by_one
theorem PySem.Challenge.cw_hushrules_k10_conditions_one_by_one_holds : PySem.Challenge.rw_hushrules_k10_conditions_one_by_one.Holds := by
  w_on; o_law
  refine HandSHeadRun.head_any (r := Hd.RR) (q := view Hd.RR.prog [50]) (H := Hd.hk) (ob := Hd.ob) (M := 8000) (loose := Hd.loose) (d := HandSHeadRun.topDef Hd.RR.prog 50) (kwd := []) Hd.ob_eq (by kernel_rfl) (fun s => by kernel_rfl) Hd.run (by kernel_rfl) (by kernel_rfl) (by kernel_rfl) (by rfl) (by first | assumption | decide +kernel) (by decide +kernel) ⟨rfl, rfl, rfl, rfl, rfl, by decide +kernel⟩ ?hw ?hc
  case hw => w_witness2
  case hc =>
    refine U.walkW (law := Hd.rw) (n := 63) (k := 10) (x := "_law_script") rfl (by decide) (by kernel_rfl) ⟨rfl, by decide, by decide⟩ ?F
    intro w mg fa h Y G hm0
    obtain ⟨K, KX, c⟩ := Y
    have hm : mg ("law" : PySem.Str) = some (.ref fa) := by
      have e : (HandSHeadRun.topDef Hd.RR.prog 50).name = ("law" : PySem.Str) := by kernel_rfl
      rw [← e]
      exact hm0
    have T := Hd.txt_of KX G c
    obtain ⟨fd, hb, hF⟩ := Hd.E_law (P := Hd.rw.prog) (w := w) T
    have e := hm.symm.trans T.g_law
    cases e
    exact ⟨K, fd, Hd.m_law, KX, hb, fun ob ns hl hs => Hd.law_true (fun s z => hs.at z) hl, hF⟩
