import PyProof.Rows.All
import Wide.All
import OpenK.AllK
import Wide.FinOn
import KE.KStateDown
import Lean
import HandS.ForMost
import HandS.ForExc
import HandS.More
import HandS.Flow
import HandS.IsInst
import HandS.Conv
import HandS.TupMul
import HandS.Zip
import HandS.TupLen
import HandS.TupAny
import HandS.TupSets
import HandS.Defaults
import HandS.FStr
import HandS.Wide
import HandS.Lambda
import HandS.TryMany
import HandS.ExcInit
import HandS.ExcField
import HandS.Head0
import HandS.Head1
import HandS.Head2
import HandS.HeadEnd
import HandS.HeadHook1
import HandS.HeadHook2
import KE.KDictKeyed
import KE.KDictWalk
import KE.KDictCopyH
import KE.KDictList
import KE.GoesMore
import HandS.Deep
import HandS.HeadHook4
import HandS.SortInts
import HandS.ExcValue
import PyProof.TupleOfSeq
import HandS.Style
import HandS.SortKw
import KE.DatumOrd
import KE.SortData
import PySem.Challenge.RW_hushrules_k16_whole_hushes_counted
set_option Elab.async false
set_option linter.all false
set_option maxRecDepth 100000
set_option maxHeartbeats 4000000
namespace U
open PySem PySem.Spec PyProof.Rows L2

inductive D where
  | non | bl (b : Bool) | int (i : Int) | str (x : Str) | tup (xs : List D) | ref (n : Nat)
inductive Ob where
  | lst (xs : List D)
  | rol (xs : List D)
  | kst (xs : List D)
  | ins (c : Str) (fs : List (Str × D))
  | dct (kvs : List (D × D))
abbrev Sto := List Ob
abbrev Pl := List Addr

mutual
inductive RV (K : PySem.W.Frag) (H : Hp) (m : Pl) : D → V → Prop
  | non : RV K H m .non .non
  | bl {b} : RV K H m (.bl b) (.bl b)
  | int {i} : RV K H m (.int i) (.int i)
  | str {x} : RV K H m (.str x) (.str x)
  | tup {xs a vs} : SqT K H a vs → RVs K H m xs vs → RV K H m (.tup xs) (.ref a)
  | ref {n a} : m[n]? = some a → RV K H m (.ref n) (.ref a)
inductive RVs (K : PySem.W.Frag) (H : Hp) (m : Pl) : List D → List V → Prop
  | nil : RVs K H m [] []
  | cons {d ds v vs} : RV K H m d v → RVs K H m ds vs → RVs K H m (d :: ds) (v :: vs)
end

structure Ext (H H' : Hp) : Prop where
  tups : ∀ b xs, H b = some (.tup xs) → H' b = some (.tup xs)
  frzs : ∀ b o u, H b = some (.frz o u) → H' b = some (.frz o u)
theorem Ext.refl (H : Hp) : Ext H H := ⟨fun _ _ h => h, fun _ _ _ h => h⟩
theorem Ext.trans {H H1 H2 : Hp} (a : Ext H H1) (b : Ext H1 H2) : Ext H H2 := ⟨fun c xs h => b.tups c xs (a.tups c xs h), fun c o u h => b.frzs c o u (a.frzs c o u h)⟩
theorem Ext.new {H : Hp} {p : Addr} {o : HO} (h : H p = none) : Ext H (upd H p o) :=
  ⟨fun b xs e => by rw [upd_ne (ne_of_none e h)]; exact e, fun b o u e => by rw [upd_ne (ne_of_none e h)]; exact e⟩
theorem Ext.sqT {K : PySem.W.Frag} {H H' : Hp} {a : Addr} {xs : List V} (e : Ext H H') (h : SqT K H a xs) : SqT K H' a xs := by
  rcases h with (h | ⟨o, h⟩) | h
  · exact .inl (.inl (e.tups _ _ h))
  · exact .inl (.inr ⟨o, e.frzs _ _ _ h⟩)
  · exact .inr h
section
variable {K : PySem.W.Frag} {H H' : Hp} {m m' : Pl}
theorem pre_get {m m' : Pl} (p : m <+: m') {n : Nat} {a : Addr} (h : m[n]? = some a) : m'[n]? = some a := by
  obtain ⟨t, rfl⟩ := p
  rw [List.getElem?_append_left (List.getElem?_eq_some_iff.mp h).1]
  exact h
mutual
theorem RV.mono (e : Ext H H') (p : m <+: m') : ∀ {d : D} {v : V}, RV K H m d v → RV K H' m' d v
  | .non, _, h => by cases h; exact .non
  | .bl _, _, h => by cases h; exact .bl
  | .int _, _, h => by cases h; exact .int
  | .str _, _, h => by cases h; exact .str
  | .tup xs, _, h => by
    cases h with
    | tup h1 h2 => exact .tup (e.sqT h1) (RVs.mono e p h2)
  | .ref _, _, h => by
    cases h with
    | ref h1 => exact .ref (pre_get p h1)
theorem RVs.mono (e : Ext H H') (p : m <+: m') : ∀ {ds : List D} {vs : List V}, RVs K H m ds vs → RVs K H' m' ds vs
  | [], _, h => by cases h; exact .nil
  | _ :: _, _, h => by
    cases h with
    | cons h1 h2 => exact .cons (RV.mono e p h1) (RVs.mono e p h2)
end
theorem RVs.length : ∀ {ds : List D} {vs : List V}, RVs K H m ds vs → ds.length = vs.length
  | [], _, h => by cases h; rfl
  | _ :: _, _, h => by
    cases h with
    | cons h1 h2 => simp [RVs.length h2]
theorem RVs.get : ∀ {ds : List D} {vs : List V} {i : Nat} {d : D}, RVs K H m ds vs → ds[i]? = some d → ∃ v, vs[i]? = some v ∧ RV K H m d v
  | [], _, _, _, _, e => by simp at e
  | x :: xs, _, i, d, h, e => by
    cases h with
    | @cons _ _ v vs h1 h2 =>
      cases i with
      | zero => simp at e; subst e; exact ⟨v, rfl, h1⟩
      | succ i => simpa using RVs.get h2 (by simpa using e)
theorem RVs.getv : ∀ {ds : List D} {vs : List V} {i : Nat} {v : V}, RVs K H m ds vs → vs[i]? = some v → ∃ d, ds[i]? = some d ∧ RV K H m d v
  | [], _, _, _, h, e => by cases h; simp at e
  | x :: xs, _, i, v, h, e => by
    cases h with
    | @cons _ _ w vs h1 h2 =>
      cases i with
      | zero => simp at e; subst e; exact ⟨x, rfl, h1⟩
      | succ i => simpa using RVs.getv h2 (by simpa using e)
theorem RVs.append : ∀ {ds es : List D} {vs ws : List V}, RVs K H m ds vs → RVs K H m es ws → RVs K H m (ds ++ es) (vs ++ ws)
  | [], _, _, _, h, g => by cases h; exact g
  | _ :: _, _, _, _, h, g => by
    cases h with
    | cons h1 h2 => exact .cons h1 (RVs.append h2 g)
theorem RVs.one {d : D} {v : V} (h : RV K H m d v) : RVs K H m [d] [v] := .cons h .nil
theorem RVs.drop : ∀ {ds : List D} {vs : List V} (n : Nat), RVs K H m ds vs → RVs K H m (ds.drop n) (vs.drop n)
  | _, _, 0, h => h
  | [], _, _ + 1, h => by cases h; exact .nil
  | _ :: _, _, n + 1, h => by
    cases h with
    | cons h1 h2 => exact RVs.drop n h2
theorem RVs.take : ∀ {ds : List D} {vs : List V} (n : Nat), RVs K H m ds vs → RVs K H m (ds.take n) (vs.take n)
  | _, _, 0, h => .nil
  | [], _, _ + 1, h => by cases h; exact .nil
  | _ :: _, _, n + 1, h => by
    cases h with
    | cons h1 h2 => exact .cons h1 (RVs.take n h2)
theorem RVs.set {d : D} {v : V} (r : RV K H m d v) : ∀ {ds : List D} {vs : List V} (n : Nat), RVs K H m ds vs → RVs K H m (ds.set n d) (vs.set n v)
  | [], _, _, h => by cases h; exact .nil
  | _ :: _, _, 0, h => by
    cases h with
    | cons h1 h2 => exact .cons r h2
  | _ :: _, _, n + 1, h => by
    cases h with
    | cons h1 h2 => exact .cons h1 (RVs.set r n h2)
end

mutual
def keyD : D → Option NestedKey
  | .non => some .none
  | .bl b => some (.num (if b = true then 1 else 0))
  | .int i => some (.num i)
  | .tup xs => (keysD xs).map .tup
  | .str _ => none
  | .ref _ => none
def keysD : List D → Option (List NestedKey)
  | [] => some []
  | d :: ds => match keyD d, keysD ds with
    | some k, some ks => some (k :: ks)
    | _, _ => none
end
abbrev DEn := NestedKey × Addr × Value
def dObj (a : Addr) (xs : List DEn) : HO := .ext fun h => ∃ (w0 : World) (o : Obj) (es : Array DictEntry) (ep : Nat), h.get? a = some o ∧ o.ExactDict ∧ o.data = .dict es ep ∧ es.toList = xs.map fun x => ⟨x.1.hash w0, .ref x.2.1, x.2.2⟩
structure DR (K : PySem.W.Frag) (H : Hp) (m : Pl) (a : Addr) (kvs : List (D × D)) (xs : List DEn) (vs : List V) : Prop where
  sys : (a == sysModules) = false
  at_ : H a = some (dObj a xs)
  nd : (xs.map (·.1)).Nodup
  key : kvs.map (fun p => keyD p.1) = xs.map (fun x => some x.1)
  dep : ∀ x ∈ xs, x.1.depth ≤ 8
  rk : RVs K H m (kvs.map (·.1)) (xs.map fun x => V.ref x.2.1)
  rv : RVs K H m (kvs.map (·.2)) vs
  vv : Vals vs (xs.map (·.2.2))
  len : kvs.length ≤ sizeLine

def OR (K : PySem.W.Frag) (H : Hp) (m : Pl) (a : Addr) : Ob → Prop
  | .lst xs => ∃ vs, H a = some (.lst vs) ∧ RVs K H m xs vs
  | .rol xs => ∃ o vs, H a = some (.frz o (.lst vs)) ∧ RVs K H m xs vs
  | .kst xs => ∃ vs, (∀ H', SqL K H' a vs) ∧ RVs K H m xs vs
  | .ins c fs => ∃ dx vfs, H a = some (.ins (He.ga K c) dx vfs) ∧ vfs.map (·.1) = fs.map (·.1) ∧ RVs K H m (fs.map (·.2)) (vfs.map (·.2)) ∧ fs.length < 500
  | .dct kvs => ∃ xs vs, DR K H m a kvs xs vs
def Ob.trk : Ob → Bool
  | .kst _ => false
  | _ => true
structure SR (K : PySem.W.Frag) (H : Hp) (m : Pl) (st : Sto) : Prop where
  len : m.length = st.length
  nd : ∀ (i j : Nat) (a : Addr) (o o' : Ob), m[i]? = some a → m[j]? = some a → st[i]? = some o → st[j]? = some o' → o.trk = true → o'.trk = true → i = j
  ob : ∀ (i : Nat) (a : Addr) (o : Ob), m[i]? = some a → st[i]? = some o → OR K H m a o
section
variable {K : PySem.W.Frag} {H H' : Hp} {m m' : Pl} {st : Sto}
theorem OR.tracked {a : Addr} {o : Ob} (h : OR K H m a o) (t : o.trk = true) : ∃ u, H a = some u ∧ ∀ xs, u ≠ .tup xs := by
  cases o with
  | lst xs => obtain ⟨vs, h, _⟩ := h; exact ⟨_, h, fun _ e => by cases e⟩
  | rol xs => obtain ⟨o, vs, h, _⟩ := h; exact ⟨_, h, fun _ e => by cases e⟩
  | kst xs => cases t
  | ins c fs => obtain ⟨dx, vfs, h, _⟩ := h; exact ⟨_, h, fun _ e => by cases e⟩
  | dct kvs => obtain ⟨xs, vs, h⟩ := h; exact ⟨_, h.at_, fun _ e => by cases e⟩
theorem OR.mono {a : Addr} {o : Ob} (e : Ext H H') (p : m <+: m') (k : o.trk = true → ∀ u, H a = some u → H' a = some u) (h : OR K H m a o) : OR K H' m' a o := by
  cases o with
  | lst xs => obtain ⟨vs, h, r⟩ := h; exact ⟨vs, k rfl _ h, r.mono e p⟩
  | rol xs => obtain ⟨o, vs, h, r⟩ := h; exact ⟨o, vs, k rfl _ h, r.mono e p⟩
  | kst xs => obtain ⟨vs, h, r⟩ := h; exact ⟨vs, h, r.mono e p⟩
  | ins c fs => obtain ⟨dx, vfs, h, h2, r, l⟩ := h; exact ⟨dx, vfs, k rfl _ h, h2, r.mono e p, l⟩
  | dct kvs => obtain ⟨xs, vs, h⟩ := h; exact ⟨xs, vs, h.sys, k rfl _ h.at_, h.nd, h.key, h.dep, h.rk.mono e p, h.rv.mono e p, h.vv, h.len⟩
theorem SR.at (s : SR K H m st) {i : Nat} {o : Ob} (h : st[i]? = some o) : ∃ a, m[i]? = some a ∧ OR K H m a o := by
  have hi : i < m.length := by rw [s.len]; exact (List.getElem?_eq_some_iff.mp h).1
  exact ⟨m[i], by simp [hi], s.ob i _ o (by simp [hi]) h⟩
theorem SR.ext (s : SR K H m st) (e : Ext H H') (k : ∀ a ∈ m, ∀ u, H a = some u → H' a = some u) : SR K H' m st :=
  ⟨s.len, s.nd, fun i a o h1 h2 => (s.ob i a o h1 h2).mono e (List.prefix_refl m) fun _ => k a (List.mem_of_getElem? h1)⟩
theorem SR.tup (s : SR K H m st) {p : Addr} {o : HO} (h : H p = none) : SR K (upd H p o) m st :=
  s.ext (.new h) fun a ha u e => by rw [upd_ne (ne_of_none e h)]; exact e
theorem SR.new (s : SR K H m st) {p : Addr} {o : HO} {ob : Ob} (h : H p = none) (n : OR K (upd H p o) (m ++ [p]) p ob) : SR K (upd H p o) (m ++ [p]) (st ++ [ob]) := by
  have look : ∀ {i : Nat} {a : Addr} {q : Ob}, (m ++ [p])[i]? = some a → (st ++ [ob])[i]? = some q → (m[i]? = some a ∧ st[i]? = some q) ∨ (i = m.length ∧ a = p ∧ q = ob) := by
    intro i a q h1 h2
    by_cases hi : i < m.length
    · rw [List.getElem?_append_left hi] at h1
      rw [List.getElem?_append_left (by rw [← s.len]; exact hi)] at h2
      exact .inl ⟨h1, h2⟩
    · have hl : i < (m ++ [p]).length := (List.getElem?_eq_some_iff.mp h1).1
      have hi' : i = m.length := by simp at hl; omega
      subst hi'
      simp at h1
      rw [s.len] at h2
      simp at h2
      exact .inr ⟨rfl, h1.symm, h2.symm⟩
  have off : ∀ {i : Nat} {q : Ob}, m[i]? = some p → st[i]? = some q → q.trk = true → False := fun {i q} h1 h2 t => by
    obtain ⟨u, e, _⟩ := (s.ob i p q h1 h2).tracked t
    rw [h] at e
    cases e
  refine ⟨by simp [s.len], fun i j a oi oj hi hj hoi hoj ti tj => ?_, fun i a q h1 h2 => ?_⟩
  · rcases look hi hoi with ⟨x1, x2⟩ | ⟨x1, x2, x3⟩
    · rcases look hj hoj with ⟨y1, y2⟩ | ⟨y1, y2, y3⟩
      · exact s.nd i j a oi oj x1 y1 x2 y2 ti tj
      · subst y2; exact (off x1 x2 ti).elim
    · rcases look hj hoj with ⟨y1, y2⟩ | ⟨y1, y2, y3⟩
      · subst x2; exact (off y1 y2 tj).elim
      · omega
  · by_cases hi : i < m.length
    · rw [List.getElem?_append_left hi] at h1
      rw [List.getElem?_append_left (by rw [← s.len]; exact hi)] at h2
      exact (s.ob i a q h1 h2).mono (.new h) (List.prefix_append m [p]) fun _ u e => by rw [upd_ne (ne_of_none e h)]; exact e
    · have hl : i < (m ++ [p]).length := (List.getElem?_eq_some_iff.mp h1).1
      have hi' : i = m.length := by simp at hl; omega
      subst hi'
      simp at h1
      rw [s.len] at h2
      simp at h2
      subst h1 h2
      exact n
theorem Ext.write {p : Addr} {o u : HO} (h : H p = some u) (h1 : ∀ xs, u ≠ .tup xs) (h2 : ∀ o' w, u ≠ .frz o' w) : Ext H (upd H p o) :=
  ⟨fun b xs e => by rw [upd_ne (ne_of e h fun z => h1 xs z.symm)]; exact e, fun b o w e => by rw [upd_ne (ne_of e h fun z => h2 o w z.symm)]; exact e⟩
theorem SR.write (s : SR K H m st) {i : Nat} {p : Addr} {o u : HO} {ob o0 : Ob} (hi : m[i]? = some p) (h0 : st[i]? = some o0) (t0 : o0.trk = true) (h : H p = some u) (h1 : ∀ xs, u ≠ .tup xs) (h2 : ∀ o' w, u ≠ .frz o' w)
    (n : OR K (upd H p o) m p ob) : SR K (upd H p o) m (st.set i ob) := by
  have back : ∀ {j : Nat} {q : Ob}, (st.set i ob)[j]? = some q → (j = i ∧ q = ob) ∨ (j ≠ i ∧ st[j]? = some q) := by
    intro j q e
    by_cases hj : j = i
    · subst hj
      rw [List.getElem?_set_self (List.getElem?_eq_some_iff.mp h0).1] at e
      cases e
      exact .inl ⟨rfl, rfl⟩
    · rw [List.getElem?_set_ne (Ne.symm hj)] at e
      exact .inr ⟨hj, e⟩
  refine ⟨by simp [s.len], fun j k a oj ok hj hk hoj hok tj tk => ?_, fun j a q e1 e2 => ?_⟩
  · rcases back hoj with ⟨x1, x2⟩ | ⟨x1, x2⟩
    · rcases back hok with ⟨y1, y2⟩ | ⟨y1, y2⟩
      · omega
      · subst x1; exact s.nd j k a o0 ok hj hk h0 y2 t0 tk
    · rcases back hok with ⟨y1, y2⟩ | ⟨y1, y2⟩
      · subst y1; exact s.nd j k a oj o0 hj hk x2 h0 tj t0
      · exact s.nd j k a oj ok hj hk x2 y2 tj tk
  · rcases back e2 with ⟨x1, x2⟩ | ⟨x1, x2⟩
    · subst x1 x2
      rw [hi] at e1; cases e1
      exact n
    · refine (s.ob j a q e1 x2).mono (.write h h1 h2) (List.prefix_refl m) fun tq w e => ?_
      have ne : a ≠ p := fun z => x1 (s.nd j i a q o0 e1 (z ▸ hi) x2 h0 tq t0)
      rw [upd_ne ne]; exact e
end

abbrev Ev := List (Option D)
structure RE (K : PySem.W.Frag) (H : Hp) (m : Pl) (env : Ev) (σ : L2.St) : Prop where
  len : env.length = σ.length
  at_ : ∀ (i : Nat) (d : D), env[i]? = some (some d) → ∃ v, σ[i]? = some (some v) ∧ RV K H m d v
section
variable {K : PySem.W.Frag} {H H' : Hp} {m m' : Pl} {env : Ev} {σ : L2.St}
theorem RE.mono (r : RE K H m env σ) (e : Ext H H') (p : m <+: m') : RE K H' m' env σ :=
  ⟨r.len, fun i d h => let ⟨v, h1, h2⟩ := r.at_ i d h; ⟨v, h1, h2.mono e p⟩⟩
theorem RE.set (r : RE K H m env σ) {i : Nat} {d : D} {v : V} (h : RV K H m d v) : RE K H m (env.set i (some d)) (σ.set i (some v)) := by
  refine ⟨by simp [r.len], fun j x e => ?_⟩
  by_cases hj : i = j
  · subst hj
    by_cases hl : i < env.length
    · rw [List.getElem?_set_self hl] at e
      cases e
      exact ⟨v, by rw [List.getElem?_set_self (by rw [← r.len]; exact hl)], h⟩
    · rw [List.getElem?_eq_none (by simp; omega)] at e
      cases e
  · rw [List.getElem?_set_ne hj] at e ⊢
    exact r.at_ j x e
theorem RE.forget (r : RE K H m env σ) {i : Nat} : RE K H m (env.set i none) (σ.set i none) := by
  refine ⟨by simp [r.len], fun j x e => ?_⟩
  by_cases hj : i = j
  · subst hj
    by_cases hl : i < env.length
    · rw [List.getElem?_set_self hl] at e; cases e
    · rw [List.getElem?_eq_none (by simp; omega)] at e
      cases e
  · rw [List.getElem?_set_ne hj] at e ⊢
    exact r.at_ j x e
end

inductive R (α : Type) where
  | ok (a : α) (st : Sto)
  | err (c : Str) (fs : List (Str × D)) (st : Sto)
  | fail
def R.bind {α β : Type} (r : R α) (f : α → Sto → R β) : R β := match r with
  | .ok a st => f a st
  | .err c fs st => .err c fs st
  | .fail => .fail
inductive RS where
  | nx (env : Ev) (st : Sto)
  | rt (d : D) (st : Sto)
  | bk (env : Ev) (st : Sto)
  | ct (env : Ev) (st : Sto)
  | err (c : Str) (fs : List (Str × D)) (env : Ev) (st : Sto)
  | fail
def R.then {α : Type} (env : Ev) (r : R α) (f : α → Sto → RS) : RS := match r with
  | .ok a st => f a st
  | .err c fs st => .err c fs env st
  | .fail => .fail
def XR (K : PySem.W.Frag) (H : Hp) (m : Pl) (fs : List (Str × D)) (dO : Option Addr) : Prop :=
  (fs = [] ∧ dO = none) ∨ ∃ dd vfs, dO = some dd ∧ H dd = some (.xd vfs) ∧ vfs.map (·.1) = fs.map (·.1) ∧ RVs K H m (fs.map (·.2)) (vfs.map (·.2))
abbrev EM := Ev → Sto → R D
abbrev TM := Ev → Sto → R Bool
abbrev AM := Ev → Sto → R (List D)
abbrev SM := Ev → Sto → RS
def Post {α β : Type} (K : PySem.W.Frag) (ok : Hp → Pl → α → β → Prop) (E : XK) (m : Pl) (H : Hp) (Q : β → Hp → Prop) : R α → Prop
  | .ok d st => ∀ v H' m', Ext H H' → m <+: m' → SR K H' m' st → ok H' m' d v → Q v H'
  | .err c fs st => ∀ dO H' m', Ext H H' → m <+: m' → SR K H' m' st → XR K H' m' fs dO → E (.ref (He.ga K c)) dO H'
  | .fail => False
def PostS (K : PySem.W.Frag) (W : WX) (m : Pl) (H : Hp) (Dn : Ends) : RS → Prop
  | .nx env st => ∀ σ H' m', Ext H H' → m <+: m' → SR K H' m' st → RE K H' m' env σ → Dn.nx σ H'
  | .rt d st => ∀ v H' m', Ext H H' → m <+: m' → SR K H' m' st → RV K H' m' d v → Dn.rt v H'
  | .bk env st => ∀ σ H' m', Ext H H' → m <+: m' → SR K H' m' st → RE K H' m' env σ → Dn.bk σ H'
  | .ct env st => ∀ σ H' m', Ext H H' → m <+: m' → SR K H' m' st → RE K H' m' env σ → Dn.ct σ H'
  | .err c fs env st => ∀ dO σ H' m', Ext H H' → m <+: m' → SR K H' m' st → XR K H' m' fs dO → RE K H' m' env σ → W (.ref (He.ga K c)) dO σ H'
  | .fail => False
abbrev okV (K : PySem.W.Frag) : Hp → Pl → D → V → Prop := fun H m d v => RV K H m d v
abbrev okB : Hp → Pl → Bool → Bool → Prop := fun _ _ b c => b = c
abbrev okA (K : PySem.W.Frag) : Hp → Pl → List D → List V → Prop := fun H m d v => RVs K H m d v
def rE (K : PySem.W.Frag) (W : WX) (g : EM) : TE := fun σ H Q => ∃ env m st, RE K H m env σ ∧ SR K H m st ∧ Post K (okV K) (WE W σ) m H Q (g env st)
def rT (K : PySem.W.Frag) (W : WX) (g : TM) : TT := fun σ H Q => ∃ env m st, RE K H m env σ ∧ SR K H m st ∧ Post K okB (WE W σ) m H Q (g env st)
def rA (K : PySem.W.Frag) (W : WX) (g : AM) : TA := fun σ H Q => ∃ env m st, RE K H m env σ ∧ SR K H m st ∧ Post K (okA K) (WE W σ) m H Q (g env st)
def rS (K : PySem.W.Frag) (W : WX) (g : SM) : TS := fun Dn σ H => ∃ env m st, RE K H m env σ ∧ SR K H m st ∧ PostS K W m H Dn (g env st)
section
variable {K : PySem.W.Frag} {E : XK} {W : WX} {m m' : Pl} {H H' : Hp} {Dn : Ends} {σ : L2.St}
theorem Post.up {α β : Type} {ok : Hp → Pl → α → β → Prop} {Q : β → Hp → Prop} {r : R α} (h : Post K ok E m H Q r) (e : Ext H H') (p : m <+: m') : Post K ok E m' H' Q r := by
  cases r with
  | ok d st => exact fun v H2 m2 e2 p2 => h v H2 m2 (e.trans e2) (p.trans p2)
  | err c fs st => exact fun dO H2 m2 e2 p2 => h dO H2 m2 (e.trans e2) (p.trans p2)
  | fail => exact h
theorem PostS.up {r : RS} (h : PostS K W m H Dn r) (e : Ext H H') (p : m <+: m') : PostS K W m' H' Dn r := by
  cases r with
  | nx env st => exact fun v H2 m2 e2 p2 => h v H2 m2 (e.trans e2) (p.trans p2)
  | rt d st => exact fun v H2 m2 e2 p2 => h v H2 m2 (e.trans e2) (p.trans p2)
  | bk env st => exact fun v H2 m2 e2 p2 => h v H2 m2 (e.trans e2) (p.trans p2)
  | ct env st => exact fun v H2 m2 e2 p2 => h v H2 m2 (e.trans e2) (p.trans p2)
  | err c fs env st => exact fun dO v H2 m2 e2 p2 => h dO v H2 m2 (e.trans e2) (p.trans p2)
  | fail => exact h
theorem Post.bind {α β α' β' : Type} {ok : Hp → Pl → α → β → Prop} {ok' : Hp → Pl → α' → β' → Prop} {Q : β → Hp → Prop} {Q1 : β' → Hp → Prop} {r : R α'} {f : α' → Sto → R α} (h : Post K ok E m H Q (r.bind f))
    (k : ∀ d st v H' m', Ext H H' → m <+: m' → SR K H' m' st → ok' H' m' d v → Post K ok E m' H' Q (f d st) → Q1 v H') : Post K ok' E m H Q1 r := by
  cases r with
  | ok d st => exact fun v H2 m2 e2 p2 s2 r2 => k d st v H2 m2 e2 p2 s2 r2 (Post.up (r := f d st) h e2 p2)
  | err c fs st => exact h
  | fail => exact h
theorem PostS.bind {α' β' : Type} {ok' : Hp → Pl → α' → β' → Prop} {Q1 : β' → Hp → Prop} {r : R α'} {env : Ev} {f : α' → Sto → RS} (hE : RE K H m env σ) (h : PostS K W m H Dn (r.then env f))
    (k : ∀ d st v H' m', Ext H H' → m <+: m' → SR K H' m' st → ok' H' m' d v → PostS K W m' H' Dn (f d st) → Q1 v H') : Post K ok' (WE W σ) m H Q1 r := by
  cases r with
  | ok d st => exact fun v H2 m2 e2 p2 s2 r2 => k d st v H2 m2 e2 p2 s2 r2 (PostS.up (r := f d st) h e2 p2)
  | err c fs st => exact fun dO H2 m2 e2 p2 s2 r2 => h dO σ H2 m2 e2 p2 s2 r2 (hE.mono e2 p2)
  | fail => exact h
theorem Post.here {α β : Type} {ok : Hp → Pl → α → β → Prop} {Q : β → Hp → Prop} {d : α} {v : β} {st : Sto} (h : Post K ok E m H Q (.ok d st)) (s : SR K H m st) (r : ok H m d v) : Q v H :=
  h v H m (.refl H) (List.prefix_refl m) s r
end
theorem _root_.L2.PE.imp {X : Cx} {e : Expr} {t t' : TE} (h : PE X e t) (i : ∀ σ H Q, t' σ H Q → t σ H Q) : PE X e t' := ⟨fun pins s σ H Q I q => h.run pins s σ H Q I (i _ _ _ q)⟩
theorem _root_.L2.PT.imp {X : Cx} {e : Expr} {t t' : TT} (h : PT X e t) (i : ∀ σ H Q, t' σ H Q → t σ H Q) : PT X e t' := ⟨fun pins s σ H Q I q => h.run pins s σ H Q I (i _ _ _ q)⟩
theorem _root_.L2.PW.imp {X : Cx} {e : Expr} {t t' : TT} (h : PW X e t) (i : ∀ σ H Q, t' σ H Q → t σ H Q) : PW X e t' := ⟨fun wh pins s σ H Q I q => h.run wh pins s σ H Q I (i _ _ _ q)⟩
theorem _root_.L2.PA.imp {X : Cx} {e : List Expr} {t t' : TA} (h : PA X e t) (i : ∀ σ H Q, t' σ H Q → t σ H Q) : PA X e t' := ⟨fun pos pins s σ H Q I q => h.run pos pins s σ H Q I (i _ _ _ q)⟩
theorem _root_.L2.PS.imp {X : Cx} {e : Stmt} {t t' : TS} (h : PS X e t) (i : ∀ D σ H, t' D σ H → t D σ H) : PS X e t' := ⟨fun pins s σ H D I q => h.run pins s σ H D I (i _ _ _ q)⟩
theorem _root_.L2.PSs.imp {X : Cx} {e : List Stmt} {t t' : TS} (h : PSs X e t) (i : ∀ D σ H, t' D σ H → t D σ H) : PSs X e t' := ⟨fun pins s σ H D I q => h.run pins s σ H D I (i _ _ _ q)⟩
end U
set_option Elab.async false
set_option linter.all false
set_option maxRecDepth 100000
set_option maxHeartbeats 4000000
namespace U
open PySem PySem.Spec PyProof.Rows L2

def eVar (i : Nat) : EM := fun env st => match env[i]? with
  | some (some d) => .ok d st
  | _ => .fail
def eC (d : D) : EM := fun _ st => .ok d st
def eUn (f : D → Sto → R D) (a : EM) : EM := fun env st => (a env st).bind f
def eBin (f : D → D → Sto → R D) (a b : EM) : EM := fun env st => (a env st).bind fun x st => (b env st).bind fun y st => f x y st
def aNil : AM := fun _ st => .ok [] st
def aCons (a : EM) (r : AM) : AM := fun env st => (a env st).bind fun x st => (r env st).bind fun xs st => .ok (x :: xs) st
def eFn (f : List D → Sto → R D) (a : AM) : EM := fun env st => (a env st).bind f
def toB (d : D) (st : Sto) : R Bool := match d with
  | .bl b => .ok b st
  | _ => .fail
def tOf (g : EM) : TM := fun env st => (g env st).bind toB
def tAnd (a b : TM) : TM := fun env st => (a env st).bind fun c st => if c = true then b env st else .ok false st
def tOr (a b : TM) : TM := fun env st => (a env st).bind fun c st => if c = true then .ok true st else b env st
def tNot (a : TM) : TM := fun env st => (a env st).bind fun c st => .ok (!c) st
def eAnd (a b : EM) : EM := fun env st => (a env st).bind fun x st => match x with
  | .bl c => if c = true then b env st else .ok (.bl false) st
  | _ => .fail
def eOr (a b : EM) : EM := fun env st => (a env st).bind fun x st => match x with
  | .bl c => if c = true then .ok (.bl true) st else b env st
  | _ => .fail
def eNot (a : EM) : EM := fun env st => (a env st).bind fun x st => match x with
  | .bl c => .ok (.bl (!c)) st
  | _ => .fail
def eIf (c : TM) (a b : EM) : EM := fun env st => (c env st).bind fun k st => if k = true then a env st else b env st

section
variable {X : Cx} {W : WX} {a b c : Expr} {ga gb gc : EM} {es : List Expr} {gs : AM} {pos : Pos}
theorem e_of {v : V} {d : D} (h : PE X a (tC v)) (r : ∀ H m, RV X.K H m d v) : PE X a (rE X.K W (eC d)) := h.imp fun σ H Q ⟨env, m, st, hE, hS, hp⟩ => Post.here (v := v) hp hS (r H m)
theorem e_int {i : Int} {j : Nat} : PE X (.Constant (.int i) j pos) (rE X.K W (eC (.int i))) := e_of pe_int fun _ _ => .int
theorem e_bl {i : Bool} {j : Nat} : PE X (.Constant (.bool i) j pos) (rE X.K W (eC (.bl i))) := e_of pe_bl fun _ _ => .bl
theorem e_non {j : Nat} : PE X (.Constant .none j pos) (rE X.K W (eC .non)) := e_of pe_non fun _ _ => .non
theorem e_str {x : Str} {j : Nat} : PE X (.Constant (.str x) j pos) (rE X.K W (eC (.str x))) := e_of pe_str fun _ _ => .str
theorem e_gint {x : Str} {i : Int} (hm : ∃ t, X.mg x = some (.int i t)) (hg : Gl X x := by rfl) (hd : (x == ("__debug__" : Str)) = false := by decide) : PE X (.Name x pos) (rE X.K W (eC (.int i))) := by
  obtain ⟨t, hm⟩ := hm
  exact e_of (v := .int i) (pe_glob hg hm ⟨t, rfl⟩ hd) fun _ _ => .int
theorem e_var (i : Nat) {x : Str} (hN : X.N[i]? = some x := by rfl) (hv : Vis X.env.scope x := by first | exact Or.inl rfl | exact Or.inr (Or.inl rfl) | exact Or.inr (Or.inr rfl)) (hd : (x == ("__debug__" : Str)) = false := by decide)
    (hcd : (x == ("__classdict__" : Str)) = false := by decide) : PE X (.Name x pos) (rE X.K W (eVar i)) := (pe_var hN hv hd hcd).imp fun σ H Q ⟨env, m, st, hE, hS, hp⟩ => by
  unfold eVar at hp
  cases q : env[i]? with
  | none => rw [q] at hp; exact hp.elim
  | some o =>
    cases o with
    | none => rw [q] at hp; exact hp.elim
    | some d =>
      rw [q] at hp
      obtain ⟨v, e, r⟩ := hE.at_ i d q
      exact ⟨v, e, Post.here (v := v) hp hS r⟩
def OpF (X : Cx) (o : Value → Value → Sem Value) (f : D → D → Sto → R D) : Prop :=
  ∃ r : R2, OpR X o r ∧ ∀ (E : XK) (m : Pl) (H : Hp) (st : Sto) (dx dy : D) (x y : V) (Q : VK), SR X.K H m st → RV X.K H m dx x → RV X.K H m dy y → Post X.K (okV X.K) E m H Q (f dx dy st) → r x y H Q
theorem bin_of {r : R2} {f : D → D → Sto → R D} (hr : ∀ (E : XK) (m : Pl) (H : Hp) (st : Sto) (dx dy : D) (x y : V) (Q : VK), SR X.K H m st → RV X.K H m dx x → RV X.K H m dy y → Post X.K (okV X.K) E m H Q (f dx dy st) → r x y H Q)
    {σ : L2.St} {H : Hp} {Q : VK} (h : rE X.K W (eBin f ga gb) σ H Q) : tOp r (rE X.K W ga) (rE X.K W gb) σ H Q := by
  obtain ⟨env, m, st, hE, hS, hp⟩ := h
  exact ⟨env, m, st, hE, hS, hp.bind fun dx st1 x H1 m1 e1 p1 s1 r1 hp1 => ⟨env, m1, st1, hE.mono e1 p1, s1, hp1.bind fun dy st2 y H2 m2 e2 p2 s2 r2 hp2 => hr _ m2 H2 st2 dx dy x y Q s2 (r1.mono e2 p2) r2 hp2⟩⟩
theorem e_op {op : Operator} {f : D → D → Sto → R D} (ho : OpF X (binaryOp op) f) (ha : PE X a (rE X.K W ga)) (hb : PE X b (rE X.K W gb)) : PE X (.BinOp a op b pos) (rE X.K W (eBin f ga gb)) := by
  obtain ⟨r, h1, h2⟩ := ho
  exact (pe_op h1 ha hb).imp fun σ H Q h => bin_of h2 h
theorem e_cmp {op : CmpOp} {f : D → D → Sto → R D} (ho : OpF X (compareOp op) f) (ha : PE X a (rE X.K W ga)) (hb : PE X b (rE X.K W gb)) (hm : behindInMarks op b = false := by first | exact nomark _ | rfl) : PE X (.Compare a [op] [b] pos) (rE X.K W (eBin f ga gb)) := by
  obtain ⟨r, h1, h2⟩ := ho
  exact (pe_cmpR h1 ha hb hm).imp fun σ H Q h => bin_of h2 h
theorem test_of {g : EM} {σ : L2.St} {H : Hp} {Q : Bool → Hp → Prop} (h : rT X.K W (tOf g) σ H Q) : rE X.K W g σ H (fun x H' => ∃ k, x = .bl k ∧ Q k H') := by
  obtain ⟨env, m, st, hE, hS, hp⟩ := h
  refine ⟨env, m, st, hE, hS, hp.bind fun d st1 x H1 m1 e1 p1 s1 r1 hp1 => ?_⟩
  cases d with
  | bl k => cases r1; exact ⟨k, rfl, Post.here (v := k) hp1 s1 rfl⟩
  | _ => exact hp1.elim
theorem t_cmp {op : CmpOp} {f : D → D → Sto → R D} (ho : OpF X (compareOp op) f) (ha : PE X a (rE X.K W ga)) (hb : PE X b (rE X.K W gb)) (hm : behindInMarks op b = false := by first | exact nomark _ | rfl) : PT X (.Compare a [op] [b] pos) (rT X.K W (tOf (eBin f ga gb))) := by
  obtain ⟨r, h1, h2⟩ := ho
  refine (pt_cmpR h1 ha hb hm).imp fun σ H Q h => ?_
  exact bin_of h2 (test_of h)
theorem t_val (ha : PE X a (rE X.K W ga)) (he : ∀ whole, isTrue a X.env whole = (do let v ← whole; standAt a.pos; holding [v] (truthy v)) := by intro _; rfl) : PT X a (rT X.K W (tOf ga)) :=
  (pt_val ha he).imp fun σ H Q h => test_of h
variable {ta tb tc : TM}
theorem and_of {σ : L2.St} {H : Hp} {Q : Bool → Hp → Prop} (h : rT X.K W (tAnd ta tb) σ H Q) : L2.tAnd (rT X.K W ta) (rT X.K W tb) σ H Q := by
  obtain ⟨env, m, st, hE, hS, hp⟩ := h
  refine ⟨env, m, st, hE, hS, hp.bind fun c st1 c' H1 m1 e1 p1 s1 r1 hp1 => ?_⟩
  cases (show c = c' from r1)
  cases c with
  | true => exact iteT ⟨env, m1, st1, hE.mono e1 p1, s1, hp1⟩
  | false => exact iteF (Post.here (v := false) hp1 s1 rfl)
theorem or_of {σ : L2.St} {H : Hp} {Q : Bool → Hp → Prop} (h : rT X.K W (tOr ta tb) σ H Q) : L2.tOr (rT X.K W ta) (rT X.K W tb) σ H Q := by
  obtain ⟨env, m, st, hE, hS, hp⟩ := h
  refine ⟨env, m, st, hE, hS, hp.bind fun c st1 c' H1 m1 e1 p1 s1 r1 hp1 => ?_⟩
  cases (show c = c' from r1)
  cases c with
  | true => exact iteT (Post.here (v := true) hp1 s1 rfl)
  | false => exact iteF ⟨env, m1, st1, hE.mono e1 p1, s1, hp1⟩
theorem w_and1 (ha : PT X a (rT X.K W ta)) : PW X (.BoolOp .And [a] pos) (rT X.K W ta) := pw_and1 ha
theorem w_or1 (ha : PT X a (rT X.K W ta)) : PW X (.BoolOp .Or [a] pos) (rT X.K W ta) := pw_or1 ha
theorem w_and (ha : PT X a (rT X.K W ta)) (hb : PW X (.BoolOp .And (b :: es) pos) (rT X.K W tb)) : PW X (.BoolOp .And (a :: b :: es) pos) (rT X.K W (tAnd ta tb)) := (pw_and ha hb).imp fun σ H Q h => and_of h
theorem w_or (ha : PT X a (rT X.K W ta)) (hb : PW X (.BoolOp .Or (b :: es) pos) (rT X.K W tb)) : PW X (.BoolOp .Or (a :: b :: es) pos) (rT X.K W (tOr ta tb)) := (pw_or ha hb).imp fun σ H Q h => or_of h
theorem t_w {t : TM} (h : PW X a (rT X.K W t)) : PT X a (rT X.K W t) := h.pt
theorem t_not (ha : PT X a (rT X.K W ta)) : PT X (.UnaryOp .Not a pos) (rT X.K W (tNot ta)) := (pt_not ha).imp fun σ H Q h => by
  obtain ⟨env, m, st, hE, hS, hp⟩ := h
  refine ⟨env, m, st, hE, hS, hp.bind fun c st1 c' H1 m1 e1 p1 s1 r1 hp1 => ?_⟩
  cases (show c = c' from r1)
  exact Post.here (v := !c) hp1 s1 rfl
theorem e_one {op : BoolOp} (ha : PE X a (rE X.K W ga)) : PE X (.BoolOp op [a] pos) (rE X.K W ga) := pe_one ha
theorem e_and (ha : PE X a (rE X.K W ga)) (hb : PE X (.BoolOp .And (b :: es) pos) (rE X.K W gb)) : PE X (.BoolOp .And (a :: b :: es) pos) (rE X.K W (eAnd ga gb)) := (pe_and ha hb).imp fun σ H Q h => by
  obtain ⟨env, m, st, hE, hS, hp⟩ := h
  refine ⟨env, m, st, hE, hS, hp.bind fun d st1 x H1 m1 e1 p1 s1 r1 hp1 => ?_⟩
  cases d with
  | bl c =>
    cases r1
    refine ⟨c, rfl, ?_⟩
    cases c with
    | true => exact iteT ⟨env, m1, st1, hE.mono e1 p1, s1, hp1⟩
    | false => exact iteF (Post.here (v := .bl false) hp1 s1 .bl)
  | _ => exact hp1.elim
theorem e_or (ha : PE X a (rE X.K W ga)) (hb : PE X (.BoolOp .Or (b :: es) pos) (rE X.K W gb)) : PE X (.BoolOp .Or (a :: b :: es) pos) (rE X.K W (eOr ga gb)) := (pe_or ha hb).imp fun σ H Q h => by
  obtain ⟨env, m, st, hE, hS, hp⟩ := h
  refine ⟨env, m, st, hE, hS, hp.bind fun d st1 x H1 m1 e1 p1 s1 r1 hp1 => ?_⟩
  cases d with
  | bl c =>
    cases r1
    refine ⟨c, rfl, ?_⟩
    cases c with
    | true => exact iteT (Post.here (v := .bl true) hp1 s1 .bl)
    | false => exact iteF ⟨env, m1, st1, hE.mono e1 p1, s1, hp1⟩
  | _ => exact hp1.elim
theorem e_not (ha : PE X a (rE X.K W ga)) : PE X (.UnaryOp .Not a pos) (rE X.K W (eNot ga)) := (pe_not ha).imp fun σ H Q h => by
  obtain ⟨env, m, st, hE, hS, hp⟩ := h
  refine ⟨env, m, st, hE, hS, hp.bind fun d st1 x H1 m1 e1 p1 s1 r1 hp1 => ?_⟩
  cases d with
  | bl c => cases r1; exact ⟨c, rfl, Post.here (v := .bl (!c)) hp1 s1 .bl⟩
  | _ => exact hp1.elim
theorem e_if (hc : PT X c (rT X.K W tc)) (ha : PE X a (rE X.K W ga)) (hb : PE X b (rE X.K W gb)) : PE X (.IfExp c a b pos) (rE X.K W (eIf tc ga gb)) := (pe_ifExp hc ha hb).imp fun σ H Q h => by
  obtain ⟨env, m, st, hE, hS, hp⟩ := h
  refine ⟨env, m, st, hE, hS, hp.bind fun k st1 k' H1 m1 e1 p1 s1 r1 hp1 => ?_⟩
  cases (show k = k' from r1)
  cases k with
  | true => exact iteT ⟨env, m1, st1, hE.mono e1 p1, s1, hp1⟩
  | false => exact iteF ⟨env, m1, st1, hE.mono e1 p1, s1, hp1⟩
theorem a_nil : PA X [] (rA X.K W aNil) := pa_nil.imp fun σ H Q ⟨env, m, st, hE, hS, hp⟩ => Post.here (v := []) hp hS .nil
theorem a_cons (ha : PE X a (rE X.K W ga)) (hr : PA X es (rA X.K W gs)) (hs : starEach (a :: es) X.env = (false, eval a X.env) :: starEach es X.env := by rfl) : PA X (a :: es) (rA X.K W (aCons ga gs)) := (pa_cons ha hr hs).imp fun σ H Q h => by
  obtain ⟨env, m, st, hE, hS, hp⟩ := h
  exact ⟨env, m, st, hE, hS, hp.bind fun d st1 x H1 m1 e1 p1 s1 r1 hp1 => ⟨env, m1, st1, hE.mono e1 p1, s1, hp1.bind fun ds st2 xs H2 m2 e2 p2 s2 r2 hp2 => Post.here (v := x :: xs) hp2 s2 (.cons (r1.mono e2 p2) r2)⟩⟩
def CallF (K : PySem.W.Frag) (r : List V → Hp → VK → Prop) (f : List D → Sto → R D) : Prop :=
  ∀ (E : XK) (m : Pl) (H : Hp) (st : Sto) (ds : List D) (vs : List V) (Q : VK), SR K H m st → RVs K H m ds vs → Post K (okV K) E m H Q (f ds st) → r vs H Q
theorem fn_read {r : List V → Hp → VK → Prop} {f : List D → Sto → R D} (hr : CallF X.K r f) {σ : L2.St} {H : Hp} {Q : VK} (h : rE X.K W (eFn f gs) σ H Q) : rA X.K W gs σ H (fun vs H1 => r vs H1 Q) := by
  obtain ⟨env, m, st, hE, hS, hp⟩ := h
  exact ⟨env, m, st, hE, hS, hp.bind fun d st1 x H1 m1 e1 p1 s1 r1 hp1 => hr _ m1 H1 st1 d x Q s1 r1 hp1⟩
theorem e_callB {id : String} {x : Str} {p : Pos} {r : List V → Hp → VK → Prop} {f : List D → Sto → R D} (hc : CallR X (.builtin id) r) (hf : CallF X.K r f) (hm : X.mg x = none) (hv : bootBuiltins x = some (.builtin id)) (ha : PA X (a :: es) (rA X.K W gs))
    (hg : Gl X x := by rfl) (hn : x ≠ "__name__" := by decide) (hdb : (x == ("__debug__" : Str)) = false := by decide) (he : starEach (a :: es) X.env = (false, eval a X.env) :: starEach es X.env := by rfl) (hpl : (backTo pos (starEach es X.env)).any (·.1) = false := by rfl) :
    PE X (.Call (.Name x p) (a :: es) [] pos) (rE X.K W (eFn f gs)) := (pe_callB hc hg hm hv ha hn hdb he hpl).imp fun σ H Q h => fn_read hf h
theorem e_callTy {T : String} {x : Str} {p : Pos} {r : List V → Hp → VK → Prop} {f : List D → Sto → R D} (hc : CallR X (.type T) r) (hf : CallF X.K r f) (hm : X.mg x = none) (hv : bootBuiltins x = some (.type T)) (ha : PA X (a :: es) (rA X.K W gs))
    (hg : Gl X x := by rfl) (hn : x ≠ "__name__" := by decide) (hdb : (x == ("__debug__" : Str)) = false := by decide) (he : starEach (a :: es) X.env = (false, eval a X.env) :: starEach es X.env := by rfl) (hpl : (backTo pos (starEach es X.env)).any (·.1) = false := by rfl) :
    PE X (.Call (.Name x p) (a :: es) [] pos) (rE X.K W (eFn f gs)) := (pe_callTy hc hg hm hv ha hn hdb he hpl).imp fun σ H Q h => fn_read hf h
def most : Nat := 1000000
theorem most_le {n : Nat} (h : n ≤ most) : n ≤ sizeLine := Nat.le_trans h (by rw [sizeLine_eq]; decide)
theorem most_lt {n : Nat} (h : n < most) : n < sizeLine := Nat.lt_of_lt_of_le h (by rw [sizeLine_eq]; decide)
def mkTup (ds : List D) (st : Sto) : R D := if ds.length ≤ most then .ok (.tup ds) st else .fail
def mkLst (ds : List D) (st : Sto) : R D := if ds.length ≤ most then .ok (.ref st.length) (st ++ [.lst ds]) else .fail
theorem new_tup {K : PySem.W.Frag} {E : XK} {m : Pl} {H : Hp} {st : Sto} {ds : List D} {vs : List V} {Q : VK} (hp : Post K (okV K) E m H Q (.ok (.tup ds) st)) (s : SR K H m st) (r : RVs K H m ds vs) {p : Addr} (h : H p = none) : Q (.ref p) (upd H p (.tup vs)) :=
  hp _ _ m (.new h) (List.prefix_refl m) (s.tup h) (.tup (.of upd_same) (r.mono (.new h) (List.prefix_refl m)))
theorem new_lst {K : PySem.W.Frag} {E : XK} {m : Pl} {H : Hp} {st : Sto} {ds : List D} {vs : List V} {Q : VK} (hp : Post K (okV K) E m H Q (.ok (.ref st.length) (st ++ [.lst ds]))) (s : SR K H m st) (r : RVs K H m ds vs) {p : Addr} (h : H p = none) : Q (.ref p) (upd H p (.lst vs)) :=
  hp _ _ (m ++ [p]) (.new h) (List.prefix_append m [p]) (s.new h ⟨vs, upd_same, r.mono (.new h) (List.prefix_append m [p])⟩) (.ref (by rw [← s.len]; simp))
theorem e_tup {k : Nat} (ha : PA X es (rA X.K W gs)) : PE X (.Tuple es k pos) (rE X.K W (eFn mkTup gs)) := (pe_tup ha).imp fun σ H Q h => fn_read (r := fun vs H1 Q => vs.length ≤ sizeLine ∧ ∀ p, H1 p = none → Q (.ref p) (upd H1 p (.tup vs))) (fun E m H st ds vs Q s r hp => by
  unfold mkTup at hp
  split at hp
  · rename_i hl
    exact ⟨by rw [← r.length]; exact most_le hl, fun p h => new_tup hp s r h⟩
  · exact hp.elim) h
theorem e_lst (ha : PA X es (rA X.K W gs)) : PE X (.List es pos) (rE X.K W (eFn mkLst gs)) := (pe_lst ha).imp fun σ H Q h => fn_read (r := fun vs H1 Q => vs.length ≤ sizeLine ∧ ∀ p, H1 p = none → Q (.ref p) (upd H1 p (.lst vs))) (fun E m H st ds vs Q s r hp => by
  unfold mkLst at hp
  split at hp
  · rename_i hl
    exact ⟨by rw [← r.length]; exact most_le hl, fun p h => new_lst hp s r h⟩
  · exact hp.elim) h
end
end U
set_option Elab.async false
set_option linter.all false
set_option maxRecDepth 100000
set_option maxHeartbeats 4000000
namespace U
open PySem PySem.Spec PyProof.Rows L2

def sSkip : SM := fun env st => .nx env st
def sSeq (a b : SM) : SM := fun env st => match a env st with
  | .nx env st => b env st
  | r => r
def sRet (g : EM) : SM := fun env st => (g env st).then env fun d st => .rt d st
def sIf (t : TM) (a b : SM) : SM := fun env st => (t env st).then env fun c st => if c = true then a env st else b env st
def sSet (i : Nat) (g : EM) : SM := fun env st => (g env st).then env fun d st => .nx (env.set i (some d)) st
def sExpr (g : EM) : SM := fun env st => (g env st).then env fun _ st => .nx env st
def sNever : SM := fun _ _ => .fail
section
variable {X : Cx} {W : WX} {a b c : Expr} {ga gb gc : EM} {tc : TM} {s1 s2 : SM} {st : Stmt} {rest : List Stmt} {pos : Pos}
theorem ss_nil : PSs X [] (rS X.K W sSkip) := pss_nil.imp fun D σ H ⟨env, m, st, hE, hS, hp⟩ => hp σ H m (.refl H) (List.prefix_refl m) hS hE
theorem ss_cons (h1 : PS X st (rS X.K W s1)) (h2 : PSs X rest (rS X.K W s2)) : PSs X (st :: rest) (rS X.K W (sSeq s1 s2)) := (pss_cons h1 h2).imp fun D σ H ⟨env, m, sto, hE, hS, hp⟩ => by
  refine ⟨env, m, sto, hE, hS, ?_⟩
  unfold sSeq at hp
  cases q : s1 env sto with
  | nx env' st' => rw [q] at hp; exact fun σ' H' m' e p s r => ⟨env', m', st', r, s, PostS.up (r := s2 env' st') hp e p⟩
  | rt d st' => rw [q] at hp; exact hp
  | bk env' st' => rw [q] at hp; exact hp
  | ct env' st' => rw [q] at hp; exact hp
  | err c fs env' st' => rw [q] at hp; exact hp
  | fail => rw [q] at hp; exact hp
theorem ss_one (h1 : PS X st (rS X.K W s1)) : PSs X [st] (rS X.K W s1) := pss_one h1
theorem s_never : PS X st (rS X.K W sNever) := ps_never.imp fun D σ H ⟨env, m, sto, hE, hS, hp⟩ => hp
theorem s_pass : PS X (.Pass pos) (rS X.K W sSkip) := ps_pass.imp fun D σ H ⟨env, m, st, hE, hS, hp⟩ => hp σ H m (.refl H) (List.prefix_refl m) hS hE
theorem s_cont : PS X (.Continue pos) (rS X.K W (fun env st => .ct env st)) := ps_continue.imp fun D σ H ⟨env, m, st, hE, hS, hp⟩ => hp σ H m (.refl H) (List.prefix_refl m) hS hE
theorem s_brk : PS X (.Break pos) (rS X.K W (fun env st => .bk env st)) := ps_break.imp fun D σ H ⟨env, m, st, hE, hS, hp⟩ => hp σ H m (.refl H) (List.prefix_refl m) hS hE
theorem s_ret (ha : PE X a (rE X.K W ga)) : PS X (.Return (some a) pos) (rS X.K W (sRet ga)) := (ps_ret ha).imp fun D σ H ⟨env, m, st, hE, hS, hp⟩ =>
  ⟨env, m, st, hE, hS, PostS.bind hE hp fun d st1 v H1 m1 e1 p1 s1 r1 hp1 => hp1 v H1 m1 (.refl _) (List.prefix_refl _) s1 r1⟩
theorem s_retN : PS X (.Return none pos) (rS X.K W (fun _ st => .rt .non st)) := ps_retN.imp fun D σ H ⟨env, m, st, hE, hS, hp⟩ => hp .non H m (.refl _) (List.prefix_refl _) hS .non
theorem s_if {x y : List Stmt} (hc : PT X c (rT X.K W tc)) (h1 : PSs X x (rS X.K W s1)) (h2 : PSs X y (rS X.K W s2)) : PS X (.If c x y pos) (rS X.K W (sIf tc s1 s2)) := (ps_if hc h1 h2).imp fun D σ H ⟨env, m, st, hE, hS, hp⟩ => by
  refine ⟨env, m, st, hE, hS, PostS.bind hE hp fun k st1 k' H1 m1 e1 p1 s1 r1 hp1 => ?_⟩
  cases (show k = k' from r1)
  cases k with
  | true => exact iteT ⟨env, m1, st1, hE.mono e1 p1, s1, hp1⟩
  | false => exact iteF ⟨env, m1, st1, hE.mono e1 p1, s1, hp1⟩
theorem s_expr (ha : PE X a (rE X.K W ga)) (hs : swapsWith a none pos.line X.env = pure false := by rfl) : PS X (.Expr a pos) (rS X.K W (sExpr ga)) := (ps_expr ha hs).imp fun D σ H ⟨env, m, st, hE, hS, hp⟩ =>
  ⟨env, m, st, hE, hS, PostS.bind hE hp fun d st1 v H1 m1 e1 p1 s1 r1 hp1 => hp1 σ H1 m1 (.refl _) (List.prefix_refl _) s1 (hE.mono e1 p1)⟩
theorem s_doc {x j p} : PS X (.Expr (.Constant (.str x) j p) pos) (rS X.K W sSkip) := ps_doc.imp fun D σ H ⟨env, m, st, hE, hS, hp⟩ => hp σ H m (.refl H) (List.prefix_refl m) hS hE
theorem set_of {i : Nat} {D : Ends} {σ : L2.St} {H : Hp} (h : rS X.K W (sSet i ga) D σ H) : tAsg (rE X.K W ga) (gName i) D σ H := by
  obtain ⟨env, m, st, hE, hS, hp⟩ := h
  exact ⟨env, m, st, hE, hS, PostS.bind hE hp fun d st1 v H1 m1 e1 p1 s1 r1 hp1 => hp1 _ H1 m1 (.refl _) (List.prefix_refl _) s1 ((hE.mono e1 p1).set r1)⟩
theorem s_set (i : Nat) {x : Str} {p : Pos} (ha : PE X a (rE X.K W ga)) (hN : X.N.Nodup) (hi : X.N[i]? = some x := by rfl) (hx : Loc X.env.scope x := by first | exact Or.inl rfl | exact Or.inr rfl) (hs : swapsWith a (some (.Name x p)) pos.line X.env = pure false := by rfl)
    (hf : X.fn x = true ∨ X.env.scope.names.lookup x = some .local := by first | exact .inl rfl | exact .inr rfl | assumption) : PS X (.Assign [.Name x p] a pos) (rS X.K W (sSet i ga)) := (ps_set hN hi hx ha hs hf).imp fun D σ H h => set_of h

abbrev GM := D → Ev → Sto → Option (Ev × Sto)
abbrev GMs := List D → Ev → Sto → Option (Ev × Sto)
def PostG (K : PySem.W.Frag) (m : Pl) (H : Hp) (Q : L2.St → Hp → Prop) : Option (Ev × Sto) → Prop
  | some (env, st) => ∀ σ H' m', Ext H H' → m <+: m' → SR K H' m' st → RE K H' m' env σ → Q σ H'
  | none => False
theorem PostG.up {K : PySem.W.Frag} {m m' : Pl} {H H' : Hp} {Q : L2.St → Hp → Prop} {r : Option (Ev × Sto)} (h : PostG K m H Q r) (e : Ext H H') (p : m <+: m') : PostG K m' H' Q r := by
  cases r with
  | none => exact h
  | some q => exact fun σ H2 m2 e2 p2 => h σ H2 m2 (e.trans e2) (p.trans p2)
def rG (K : PySem.W.Frag) (g : GM) : TG := fun v σ H Q => ∃ d env m st, RV K H m d v ∧ RE K H m env σ ∧ SR K H m st ∧ PostG K m H Q (g d env st)
def rGs (K : PySem.W.Frag) (g : GMs) : TGs := fun vs σ H Q => ∃ ds env m st, RVs K H m ds vs ∧ RE K H m env σ ∧ SR K H m st ∧ PostG K m H Q (g ds env st)
theorem _root_.L2.PG.imp {X : Cx} {e : Expr} {t t' : TG} (h : PG X e t) (i : ∀ v σ H Q, t' v σ H Q → t v σ H Q) : PG X e t' := ⟨fun pins s σ H v u Q I r q => h.run pins s σ H v u Q I r (i _ _ _ _ q)⟩
theorem _root_.L2.PGs.imp {X : Cx} {e : List Expr} {t t' : TGs} (h : PGs X e t) (i : ∀ v σ H Q, t' v σ H Q → t v σ H Q) : PGs X e t' := ⟨fun pins s σ H v u Q I r q => h.run pins s σ H v u Q I r (i _ _ _ _ q)⟩
def gN (i : Nat) : GM := fun d env st => some (env.set i (some d), st)
def gsNil : GMs := fun ds env st => match ds with
  | [] => some (env, st)
  | _ => none
def gsCons (g : GM) (gs : GMs) : GMs := fun ds env st => match ds with
  | d :: ds => match g d env st with
    | some (env, st) => gs ds env st
    | none => none
  | [] => none
def gT (n : Nat) (g : GMs) : GM := fun d env st => match d with
  | .tup xs => if xs.length = n then g xs env st else none
  | _ => none
variable {g : GM} {gs : GMs} {ts : List Expr}
theorem g_name (i : Nat) {x : Str} (hN : X.N.Nodup) (hi : X.N[i]? = some x := by rfl) (hx : Loc X.env.scope x := by first | exact Or.inl rfl | exact Or.inr rfl) (hf : X.fn x = true ∨ X.env.scope.names.lookup x = some .local := by first | exact .inl rfl | exact .inr rfl | assumption) :
    PG X (.Name x pos) (rG X.K (gN i)) := (pg_name hN hi hx hf).imp fun v σ H Q ⟨d, env, m, st, r, hE, hS, hp⟩ => hp _ H m (.refl _) (List.prefix_refl _) hS (hE.set r)
theorem gs_nil : PGs X [] (rGs X.K gsNil) := pgs_nil.imp fun vs σ H Q ⟨ds, env, m, st, r, hE, hS, hp⟩ => by
  cases r with
  | nil => exact ⟨rfl, hp σ H m (.refl _) (List.prefix_refl _) hS hE⟩
  | cons _ _ => exact hp.elim
theorem gs_cons (h1 : PG X a (rG X.K g)) (h2 : PGs X ts (rGs X.K gs)) (hs : (assignEach (a :: ts) X.env).map (·.2) = assign a X.env :: (assignEach ts X.env).map (·.2) := by rfl) : PGs X (a :: ts) (rGs X.K (gsCons g gs)) :=
  (pgs_cons h1 h2 hs).imp fun vs σ H Q ⟨ds, env, m, st, r, hE, hS, hp⟩ => by
  cases r with
  | nil => exact hp.elim
  | @cons d ds v vs r rs =>
    refine ⟨v, vs, rfl, d, env, m, st, r, hE, hS, ?_⟩
    have hp' : PostG X.K m H Q (match g d env st with | some (env, st) => gs ds env st | none => none) := hp
    cases q : g d env st with
    | none => rw [q] at hp'; exact hp'
    | some z =>
      obtain ⟨env1, st1⟩ := z
      rw [q] at hp'
      exact fun σ1 H1 m1 e1 p1 s1 r1 => ⟨ds, env1, m1, st1, rs.mono e1 p1, r1, s1, PostG.up (r := gs ds env1 st1) hp' e1 p1⟩
theorem g_tup (n : Nat) {k : Nat} (hc : X.calm = true) (h : PGs X ts (rGs X.K gs)) (hn : (assignEach ts X.env).length = n := by rfl) (hst : (assignEach ts X.env).findIdx? (·.1) = none := by rfl) : PG X (.Tuple ts k pos) (rG X.K (gT n gs)) :=
  (pg_tup hc h hn hst).imp fun v σ H Q ⟨d, env, m, st, r, hE, hS, hp⟩ => by
  cases d with
  | tup xs =>
    cases r with
    | @tup _ a vs hq rs =>
      have hp' : PostG X.K m H Q (if xs.length = n then gs xs env st else none) := hp
      by_cases hl : xs.length = n
      · rw [if_pos hl] at hp'
        exact ⟨a, vs, rfl, hq, by rw [← rs.length]; exact hl, xs, env, m, st, rs, hE, hS, hp'⟩
      · rw [if_neg hl] at hp'
        exact hp'.elim
  | _ => exact hp.elim
def sAsg (ga : EM) (g : GM) : SM := fun env st => (ga env st).then env fun d st => match g d env st with
  | some (env, st) => .nx env st
  | none => .fail
theorem s_asg {tg : Expr} (ha : PE X a (rE X.K W ga)) (hg : PG X tg (rG X.K g)) (hs : swapsWithSole [tg] a pos.line X.env = pure false := by rfl) (hw : swappedStores [tg] a X.env = pure none := by rfl)
    (h1 : (assignEach [tg] X.env).map (·.2) = [assign tg X.env] := by rfl) : PS X (.Assign [tg] a pos) (rS X.K W (sAsg ga g)) := (ps_asg ha hg hs hw h1).imp fun D σ H ⟨env, m, st, hE, hS, hp⟩ => by
  refine ⟨env, m, st, hE, hS, PostS.bind hE hp fun d st1 v H1 m1 e1 p1 s1 r1 hp1 => ⟨d, env, m1, st1, r1, hE.mono e1 p1, s1, ?_⟩⟩
  cases q : g d env st1 with
  | none => rw [q] at hp1; exact hp1.elim
  | some z => obtain ⟨env2, st2⟩ := z; rw [q] at hp1; exact hp1
def sPar (i j : Nat) (ga gb : EM) : SM := fun env st => (ga env st).then env fun x st => (gb env st).then env fun y st => .nx ((env.set i (some x)).set j (some y)) st
theorem s_par (i j : Nat) {x y : Str} {px py pt : Pos} {kt k2 : Nat} {pt2 : Pos} (hc : X.calm = true) (hN : X.N.Nodup) (ha : PE X a (rE X.K W ga)) (hb : PE X b (rE X.K W gb)) (hij : i ≠ j := by decide) (hi : X.N[i]? = some x := by rfl) (hj : X.N[j]? = some y := by rfl)
    (hx : X.env.scope.names.lookup x = some .local := by rfl) (hy : X.env.scope.names.lookup y = some .local := by rfl)
    (hw : swappedStores [.Tuple [.Name x px, .Name y py] kt pt] (.Tuple [a, b] k2 pt2) X.env = pure (some [x, y]) := by rfl)
    (hs : swapsWithSole [.Tuple [.Name x px, .Name y py] kt pt] (.Tuple [a, b] k2 pt2) pos.line X.env = pure false := by rfl)
    (h1 : starEach [a, b] X.env = (false, eval a X.env) :: starEach [b] X.env := by rfl) (h2 : starEach [b] X.env = (false, eval b X.env) :: starEach [] X.env := by rfl) :
    PS X (.Assign [.Tuple [.Name x px, .Name y py] kt pt] (.Tuple [a, b] k2 pt2) pos) (rS X.K W (sPar i j ga gb)) := (ps_par hc hN hi hj hij hx hy (pa_cons ha (pa_cons hb pa_nil h2) h1) hw hs).imp fun D σ H ⟨env, m, st, hE, hS, hp⟩ => by
  refine ⟨env, m, st, hE, hS, PostS.bind hE hp fun d st1 v H1 m1 e1 p1 s1 r1 hp1 => ⟨env, m1, st1, hE.mono e1 p1, s1, PostS.bind (hE.mono e1 p1) hp1 fun d2 st2 v2 H2 m2 e2 p2 s2 r2 hp2 => ⟨v, v2, rfl, ?_⟩⟩⟩
  exact hp2 _ H2 m2 (.refl _) (List.prefix_refl _) s2 ((((hE.mono e1 p1).mono e2 p2).set (r1.mono e2 p2)).set r2)
end
end U
set_option Elab.async false
set_option linter.all false
set_option maxRecDepth 100000
set_option maxHeartbeats 4000000
namespace U
open PySem PySem.Spec PyProof.Rows L2

def lstOf (st : Sto) (n : Nat) : Option (List D) := match st[n]? with
  | some (.lst xs) => some xs
  | some (.rol xs) => some xs
  | some (.kst xs) => some xs
  | _ => none
def pairD (x y : D) : D := .tup [x, y]
def enumFrom (k : Nat) : List D → List D
  | [] => []
  | x :: xs => .tup [.int (k : Int), x] :: enumFrom (k + 1) xs
inductive Src where
  | fix (xs : List D)
  | dyn (n : Nat)
  | zipL (a b : Nat)
  | enumL (a : Nat)
def Src.at (s : Src) (st : Sto) : Option (List D) := match s with
  | .fix xs => some xs
  | .dyn n => lstOf st n
  | .zipL a b => match lstOf st a, lstOf st b with
    | some xs, some ys => some (List.zipWith pairD xs ys)
    | _, _ => none
  | .enumL a => (lstOf st a).map (enumFrom 0)
def okI (K : PySem.W.Frag) : Hp → Pl → Src → It → Prop := fun H0 m0 s J => ∀ (i : Nat) (H : Hp) (m : Pl) (st : Sto) (xs : List D), Ext H0 H → m0 <+: m → SR K H m st → s.at st = some xs →
  (xs[i]? = none → J.stop i H) ∧ ∀ d, xs[i]? = some d → J.go i H ∧ ∀ x H', J.yld i H x H' → Ext H H' ∧ SR K H' m st ∧ RV K H' m d x
abbrev IM := Ev → Sto → R Src
def rI (K : PySem.W.Frag) (W : WX) (g : IM) : TI := fun σ H Rr => ∃ env m st, RE K H m env σ ∧ SR K H m st ∧ Post K (okI K) (WE W σ) m H Rr (g env st)
theorem _root_.L2.PI.imp {X : Cx} {tg e : Expr} {t t' : TI} (h : PI X tg e t) (i : ∀ σ H R, t' σ H R → t σ H R) : PI X tg e t' := ⟨fun pins s σ H R I q => h.run pins s σ H R I (i _ _ _ q)⟩
theorem _root_.L2.PI.or {X : Cx} {tg e : Expr} {t t' : TI} (h : PI X tg e t) (h' : PI X tg e t') : PI X tg e (fun σ H R => t σ H R ∨ t' σ H R) := ⟨fun pins s σ H R I q => q.elim (h.run pins s σ H R I) (h'.run pins s σ H R I)⟩
section
variable {X : Cx} {W : WX} {a b c tg : Expr} {ga gb gc : EM} {es : List Expr} {gs : AM} {pos : Pos}
theorem SR.sqL {K : PySem.W.Frag} {H : Hp} {m : Pl} {st : Sto} (s : SR K H m st) {n : Nat} {p : Addr} {xs : List D} (hp : m[n]? = some p) (h : lstOf st n = some xs) : ∃ vs, SqL K H p vs ∧ RVs K H m xs vs := by
  unfold lstOf at h
  split at h
  · rename_i ys e
    cases h
    obtain ⟨vs, h1, r⟩ := s.ob n p _ hp e
    exact ⟨vs, .of h1, r⟩
  · rename_i ys e
    cases h
    obtain ⟨o, vs, h1, r⟩ := s.ob n p _ hp e
    exact ⟨vs, .inl (.inr ⟨o, h1⟩), r⟩
  · rename_i ys e
    cases h
    obtain ⟨vs, h1, r⟩ := s.ob n p _ hp e
    exact ⟨vs, h1 H, r⟩
  · cases h
theorem none_len {α β : Type} {xs : List α} {ys : List β} (h : xs.length = ys.length) {i : Nat} (e : xs[i]? = none) : ys.length ≤ i := by
  have := List.getElem?_eq_none_iff.mp e
  omega
theorem okI_tup {K : PySem.W.Frag} {H0 : Hp} {m0 : Pl} {p : Addr} {xs : List D} {vs : List V} (hq : SqT K H0 p vs) (r : RVs K H0 m0 xs vs) : okI K H0 m0 (.fix xs) (Itt K p) := fun i H m st ys e p s h => by
  cases (show some xs = some ys from h)
  have hq' := e.sqT hq
  have r' := r.mono e p
  refine ⟨fun h1 => ⟨vs, hq', none_len r.length h1⟩, fun d hd => ?_⟩
  obtain ⟨v, hv, rv⟩ := r'.get hd
  refine ⟨⟨vs, v, hq', hv⟩, fun x H' y => ?_⟩
  obtain ⟨rfl, hy⟩ := y
  have := hy vs hq'
  rw [hv] at this
  cases this
  exact ⟨.refl _, s, rv⟩
theorem okI_dyn {K : PySem.W.Frag} {H0 : Hp} {m0 : Pl} {p : Addr} {n : Nat} (hp : m0[n]? = some p) : okI K H0 m0 (.dyn n) (Itl K p) := fun i H m st xs e pr s h => by
  obtain ⟨vs, hq, r⟩ := s.sqL (pre_get pr hp) h
  refine ⟨fun h1 => ⟨vs, hq, none_len r.length h1⟩, fun d hd => ?_⟩
  obtain ⟨v, hv, rv⟩ := r.get hd
  refine ⟨⟨vs, v, hq, hv⟩, fun x H' y => ?_⟩
  obtain ⟨rfl, hy⟩ := y
  have := hy vs hq
  rw [hv] at this
  cases this
  exact ⟨.refl _, s, rv⟩
def rngL (lo : Int) (n : Nat) : List D := (List.range n).map fun (i : Nat) => D.int (lo + (i : Int))
theorem okI_rng {K : PySem.W.Frag} {H0 : Hp} {m0 : Pl} {lo : Int} {n : Nat} : okI K H0 m0 (.fix (rngL lo n)) (Itr lo n) := fun i H m st xs e pr s h => by
  cases (show some (rngL lo n) = some xs from h)
  refine ⟨fun h1 => ?_, fun d hd => ?_⟩
  · have := List.getElem?_eq_none_iff.mp h1
    show n ≤ i
    simpa [rngL] using this
  · unfold rngL at hd
    rw [List.getElem?_map] at hd
    obtain ⟨k, hk, rfl⟩ := Option.map_eq_some_iff.mp hd
    obtain ⟨hl, e2⟩ := List.getElem?_eq_some_iff.mp hk
    simp at hl e2
    subst e2
    refine ⟨hl, fun x H' y => ?_⟩
    obtain ⟨rfl, rfl⟩ := y
    exact ⟨.refl _, s, .int⟩
theorem zip_get {xs ys : List D} {i : Nat} {d : D} (h : (List.zipWith pairD xs ys)[i]? = some d) : ∃ x y, xs[i]? = some x ∧ ys[i]? = some y ∧ d = .tup [x, y] := by
  rw [List.getElem?_zipWith_eq_some] at h
  obtain ⟨x, y, h1, h2, h3⟩ := h
  exact ⟨x, y, h1, h2, h3.symm⟩
theorem zip_none {xs ys : List D} {i : Nat} (h : (List.zipWith pairD xs ys)[i]? = none) : xs.length ≤ i ∨ ys.length ≤ i := by
  have := List.getElem?_eq_none_iff.mp h
  rw [List.length_zipWith] at this
  omega
theorem new_pair {K : PySem.W.Frag} {H : Hp} {m : Pl} {st : Sto} (s : SR K H m st) {T : Addr} (nT : H T = none) {x y : D} {vx vy : V} (rx : RV K H m x vx) (ry : RV K H m y vy) :
    Ext H (upd H T (.tup [vx, vy])) ∧ SR K (upd H T (.tup [vx, vy])) m st ∧ RV K (upd H T (.tup [vx, vy])) m (.tup [x, y]) (.ref T) :=
  ⟨.new nT, s.tup nT, .tup (.of upd_same) (.cons (rx.mono (.new nT) (List.prefix_refl m)) (.cons (ry.mono (.new nT) (List.prefix_refl m)) .nil))⟩
theorem okI_zipT {K : PySem.W.Frag} {H0 : Hp} {m0 : Pl} {p q : Addr} {xs ys : List D} {vs ws : List V} (h1 : SqT K H0 p vs) (r1 : RVs K H0 m0 xs vs) (h2 : SqT K H0 q ws) (r2 : RVs K H0 m0 ys ws) :
    okI K H0 m0 (.fix (List.zipWith pairD xs ys)) (RZ.ItzT K p q) := fun i H m st zs e pr s h => by
  cases (show some (List.zipWith pairD xs ys) = some zs from h)
  have h1' := e.sqT h1
  have h2' := e.sqT h2
  refine ⟨fun hn => ⟨vs, ws, h1', h2', ?_⟩, fun d hd => ?_⟩
  · rw [← r1.length, ← r2.length]; exact zip_none hn
  · obtain ⟨x, y, e1, e2, rfl⟩ := zip_get hd
    obtain ⟨v, hv, rv⟩ := (r1.mono e pr).get e1
    obtain ⟨w, hw, rw'⟩ := (r2.mono e pr).get e2
    refine ⟨⟨vs, ws, v, w, h1', h2', hv, hw⟩, fun z H' yl => ?_⟩
    obtain ⟨T, x', y', rfl, nT, rfl, f1, f2⟩ := yl
    have a1 := f1 vs h1'
    have a2 := f2 ws h2'
    rw [hv] at a1
    rw [hw] at a2
    cases a1
    cases a2
    exact new_pair s nT rv rw'
theorem okI_zipL {K : PySem.W.Frag} {H0 : Hp} {m0 : Pl} {p q : Addr} {n k : Nat} (h1 : m0[n]? = some p) (h2 : m0[k]? = some q) : okI K H0 m0 (.zipL n k) (Itz K p q) := fun i H m st zs e pr s h => by
  have h' : (match lstOf st n, lstOf st k with | some xs, some ys => some (List.zipWith pairD xs ys) | _, _ => none) = some zs := h
  cases g1 : lstOf st n with
  | none => rw [g1] at h'; cases h'
  | some xs =>
    cases g2 : lstOf st k with
    | none => rw [g1, g2] at h'; cases h'
    | some ys =>
      rw [g1, g2] at h'
      cases h'
      obtain ⟨vs, hq1, r1⟩ := s.sqL (pre_get pr h1) g1
      obtain ⟨ws, hq2, r2⟩ := s.sqL (pre_get pr h2) g2
      refine ⟨fun hn => ⟨vs, ws, hq1, hq2, ?_⟩, fun d hd => ?_⟩
      · rw [← r1.length, ← r2.length]; exact zip_none hn
      · obtain ⟨x, y, e1, e2, rfl⟩ := zip_get hd
        obtain ⟨v, hv, rv⟩ := r1.get e1
        obtain ⟨w, hw, rw'⟩ := r2.get e2
        refine ⟨⟨vs, ws, v, w, hq1, hq2, hv, hw⟩, fun z H' yl => ?_⟩
        obtain ⟨T, x', y', rfl, nT, rfl, f1, f2⟩ := yl
        have a1 := f1 vs hq1
        have a2 := f2 ws hq2
        rw [hv] at a1
        rw [hw] at a2
        cases a1
        cases a2
        exact new_pair s nT rv rw'
def seqSrc (d : D) (st : Sto) : R Src := match d with
  | .tup xs => .ok (.fix xs) st
  | .ref n => match lstOf st n with
    | some _ => .ok (.dyn n) st
    | none => .fail
  | _ => .fail
theorem i_seq (ha : PE X a (rE X.K W ga)) : PI X tg a (rI X.K W (fun env st => (ga env st).bind seqSrc)) := ((pi_tup (tg := tg) ha).or (pi_list ha)).imp fun σ H Rr ⟨env, m, st, hE, hS, hp0⟩ => by
  have hp : Post X.K (okI X.K) (WE W σ) m H Rr ((ga env st).bind seqSrc) := hp0
  cases q : ga env st with
  | fail => rw [q] at hp; exact hp.elim
  | err cc fs st' => rw [q] at hp; exact .inl ⟨env, m, st, hE, hS, by rw [q]; exact hp⟩
  | ok d st' =>
    rw [q] at hp
    cases d with
    | tup xs =>
      refine .inl ⟨env, m, st, hE, hS, ?_⟩
      rw [q]
      intro v H1 m1 e1 p1 s1 r1
      cases r1 with
      | @tup _ p vs hq rs => exact ⟨p, rfl, ⟨vs, hq⟩, hp _ H1 m1 e1 p1 s1 (okI_tup hq rs)⟩
    | ref n =>
      refine .inr ⟨env, m, st, hE, hS, ?_⟩
      rw [q]
      intro v H1 m1 e1 p1 s1 r1
      cases r1 with
      | @ref _ p hn =>
        have hp' : Post X.K (okI X.K) (WE W σ) m H Rr (match lstOf st' n with | some _ => .ok (.dyn n) st' | none => .fail) := hp
        cases g : lstOf st' n with
        | none => rw [g] at hp'; exact hp'.elim
        | some xs =>
          rw [g] at hp'
          obtain ⟨vs, hq, _⟩ := s1.sqL hn g
          exact ⟨p, rfl, ⟨vs, hq⟩, hp' _ H1 m1 e1 p1 s1 (okI_dyn hn)⟩
    | _ => exact hp.elim
def rngSrc (d : D) (st : Sto) : R Src := match d with
  | .int j => if -(2 ^ 62) ≤ j ∧ j < 2 ^ 62 then .ok (.fix (rngL 0 j.toNat)) st else .fail
  | _ => .fail
def rngSrc2 (d e : D) (st : Sto) : R Src := match d, e with
  | .int i, .int j => if (-(2 ^ 62) ≤ i ∧ i < 2 ^ 62) ∧ -(2 ^ 62) ≤ j ∧ j < 2 ^ 62 then .ok (.fix (rngL i (j - i).toNat)) st else .fail
  | _, _ => .fail
def iSeq (g : EM) : IM := fun env st => (g env st).bind seqSrc
def iRng (g : EM) : IM := fun env st => (g env st).bind rngSrc
def iBin (f : D → D → Sto → R Src) (a b : EM) : IM := fun env st => (a env st).bind fun x st => (b env st).bind fun y st => f x y st
theorem args2 {σ : L2.St} {H : Hp} {Rr : It → Hp → Prop} {f : D → D → Sto → R Src} {Q : List V → Hp → Prop} (h : rI X.K W (iBin f ga gb) σ H Rr)
    (k : ∀ dx dy x y st H' m', SR X.K H' m' st → RV X.K H' m' dx x → RV X.K H' m' dy y → Post X.K (okI X.K) (WE W σ) m' H' Rr (f dx dy st) → Q [x, y] H') : rA X.K W (aCons ga (aCons gb aNil)) σ H Q := by
  obtain ⟨env, m, st, hE, hS, hp⟩ := h
  have hp' : Post X.K (okI X.K) (WE W σ) m H Rr ((ga env st).bind fun x st => (gb env st).bind fun y st => f x y st) := hp
  refine ⟨env, m, st, hE, hS, ?_⟩
  show Post X.K (okA X.K) (WE W σ) m H Q ((ga env st).bind fun x st => (((gb env st).bind fun y st => (R.ok ([] : List D) st).bind fun ys st => .ok (y :: ys) st)).bind fun xs st => .ok (x :: xs) st)
  cases q : ga env st with
  | fail => rw [q] at hp'; exact hp'
  | err c fs st1 => rw [q] at hp'; exact hp'
  | ok x st1 =>
    rw [q] at hp'
    have hp2 : Post X.K (okI X.K) (WE W σ) m H Rr ((gb env st1).bind fun y st => f x y st) := hp'
    show Post X.K (okA X.K) (WE W σ) m H Q (((gb env st1).bind fun y st => (R.ok ([] : List D) st).bind fun ys st => .ok (y :: ys) st).bind fun xs st => .ok (x :: xs) st)
    cases q2 : gb env st1 with
    | fail => rw [q2] at hp2; exact hp2
    | err c fs st2 => rw [q2] at hp2; exact hp2
    | ok y st2 =>
      rw [q2] at hp2
      intro vs H1 m1 e1 p1 s1 r1
      cases r1 with
      | cons rx rs =>
        cases rs with
        | cons ry rs2 =>
          cases rs2
          exact k x y _ _ st2 H1 m1 s1 rx ry (Post.up (r := f x y st2) hp2 e1 p1)
theorem i_rng1 {p : Pos} (hm : X.mg "range" = none) (ha : PE X a (rE X.K W ga)) (hg : Gl X "range" := by rfl) (hs : starEach [a] X.env = [(false, eval a X.env)] := by rfl) (hs2 : starEach [a] X.env = (false, eval a X.env) :: starEach [] X.env := by rfl) :
    PI X tg (.Call (.Name "range" p) [a] [] pos) (rI X.K W (iRng ga)) := (pi_range1 (tg := tg) hg hm (pa_cons ha pa_nil hs2) hs).imp fun σ H Rr ⟨env, m, st, hE, hS, hp⟩ => by
  refine ⟨env, m, st, hE, hS, hp.bind fun d st1 v H1 m1 e1 p1 s1 r1 hp1 => ?_⟩
  cases d with
  | int j =>
    cases r1
    by_cases hj : -(2 ^ 62) ≤ j ∧ j < 2 ^ 62
    · have hp2 : Post X.K (okI X.K) (WE W σ) m1 H1 Rr (if -(2 ^ 62) ≤ j ∧ j < 2 ^ 62 then .ok (.fix (rngL 0 j.toNat)) st1 else .fail) := hp1
      rw [if_pos hj] at hp2
      exact ⟨j, rfl, hj.1, hj.2, Post.here (v := Itr 0 j.toNat) hp2 s1 okI_rng⟩
    · have hp2 : Post X.K (okI X.K) (WE W σ) m1 H1 Rr (if -(2 ^ 62) ≤ j ∧ j < 2 ^ 62 then .ok (.fix (rngL 0 j.toNat)) st1 else .fail) := hp1
      rw [if_neg hj] at hp2
      exact hp2.elim
  | _ => exact hp1.elim
theorem i_rng2 {p : Pos} (hm : X.mg "range" = none) (ha : PE X a (rE X.K W ga)) (hb : PE X b (rE X.K W gb)) (hg : Gl X "range" := by rfl) (hs : starEach [a, b] X.env = [(false, eval a X.env), (false, eval b X.env)] := by rfl) (hs2 : starEach [b] X.env = [(false, eval b X.env)] := by rfl)
    (h1 : starEach [a, b] X.env = (false, eval a X.env) :: starEach [b] X.env := by rfl) (h2 : starEach [b] X.env = (false, eval b X.env) :: starEach [] X.env := by rfl) :
    PI X tg (.Call (.Name "range" p) [a, b] [] pos) (rI X.K W (iBin rngSrc2 ga gb)) := (pi_range2 (tg := tg) hg hm (a_cons ha (a_cons hb a_nil h2) h1) hs hs2).imp fun σ H Rr h => by
  refine args2 h fun dx dy x y st1 H1 m1 s1 rx ry hp1 => ?_
  cases dx with
  | int i =>
    cases dy with
    | int j =>
      cases rx
      cases ry
      have hp2 : Post X.K (okI X.K) (WE W σ) m1 H1 Rr (if (-(2 ^ 62) ≤ i ∧ i < 2 ^ 62) ∧ -(2 ^ 62) ≤ j ∧ j < 2 ^ 62 then .ok (.fix (rngL i (j - i).toNat)) st1 else .fail) := hp1
      by_cases hj : (-(2 ^ 62) ≤ i ∧ i < 2 ^ 62) ∧ -(2 ^ 62) ≤ j ∧ j < 2 ^ 62
      · rw [if_pos hj] at hp2
        exact ⟨i, j, rfl, ⟨hj.1.1, hj.1.2, hj.2.1, hj.2.2⟩, Post.here (v := Itr i (j - i).toNat) hp2 s1 okI_rng⟩
      · rw [if_neg hj] at hp2
        exact hp2.elim
    | _ => exact hp1.elim
  | _ => exact hp1.elim
def zipSrc (d e : D) (st : Sto) : R Src := match d, e with
  | .tup xs, .tup ys => .ok (.fix (List.zipWith pairD xs ys)) st
  | .ref i, .ref j => match lstOf st i, lstOf st j with
    | some _, some _ => .ok (.zipL i j) st
    | _, _ => .fail
  | _, _ => .fail
theorem i_zip {p tpos : Pos} {elts : List Expr} {kk : Nat} (hm : X.mg "zip" = none) (ha : PE X a (rE X.K W ga)) (hb : PE X b (rE X.K W gb)) (hg : Gl X "zip" := by rfl)
    (h1 : starEach [a, b] X.env = (false, eval a X.env) :: starEach [b] X.env := by rfl) (h2 : starEach [b] X.env = (false, eval b X.env) :: starEach [] X.env := by rfl) (hpl : (backTo pos (starEach [b] X.env)).any (·.1) = false := by rfl) :
    PI X (.Tuple elts kk tpos) (.Call (.Name "zip" p) [a, b] [] pos) (rI X.K W (iBin zipSrc ga gb)) := (RZ.pi_zipA hg hm (a_cons ha (a_cons hb a_nil h2) h1) h1 hpl).imp fun σ H Rr h => by
  refine args2 h fun dx dy x y st1 H1 m1 s1 rx ry hp1 => ?_
  cases dx with
  | tup xs =>
    cases dy with
    | tup ys =>
      cases rx with
      | @tup _ p vs q1 r1 =>
        cases ry with
        | @tup _ q ws q2 r2 => exact ⟨p, q, vs, ws, rfl, .inr ⟨q1, q2, Post.here (v := RZ.ItzT X.K p q) hp1 s1 (okI_zipT q1 r1 q2 r2)⟩⟩
    | _ => exact hp1.elim
  | ref i =>
    cases dy with
    | ref j =>
      cases rx with
      | @ref _ p q1 =>
        cases ry with
        | @ref _ q q2 =>
          have hp2 : Post X.K (okI X.K) (WE W σ) m1 H1 Rr (match lstOf st1 i, lstOf st1 j with | some _, some _ => .ok (.zipL i j) st1 | _, _ => .fail) := hp1
          cases g1 : lstOf st1 i with
          | none => rw [g1] at hp2; exact hp2.elim
          | some xs =>
            cases g2 : lstOf st1 j with
            | none => rw [g1, g2] at hp2; exact hp2.elim
            | some ys =>
              rw [g1, g2] at hp2
              obtain ⟨vs, h1, _⟩ := s1.sqL q1 g1
              obtain ⟨ws, h2, _⟩ := s1.sqL q2 g2
              exact ⟨p, q, vs, ws, rfl, .inl ⟨h1, h2, Post.here (v := Itz X.K p q) hp2 s1 (okI_zipL q1 q2)⟩⟩
    | _ => exact hp1.elim
  | _ => exact hp1.elim
end
end U
set_option Elab.async false
set_option linter.all false
set_option maxRecDepth 100000
set_option maxHeartbeats 4000000
namespace U
open PySem PySem.Spec PyProof.Rows L2

def runFor (s : Src) (g : GM) (body : SM) : Nat → Nat → SM
  | 0, _ => fun _ _ => .fail
  | f + 1, i => fun env st => match s.at st with
    | none => .fail
    | some xs => match xs[i]? with
      | none => .nx env st
      | some d => match g d env st with
        | none => .fail
        | some (env1, st1) => match body env1 st1 with
          | .nx env2 st2 => runFor s g body f (i + 1) env2 st2
          | .ct env2 st2 => runFor s g body f (i + 1) env2 st2
          | .bk env2 st2 => .nx env2 st2
          | r => r
def startFor (g : GM) (body : SM) (env : Ev) (s : Src) (st : Sto) : RS := match s.at st with
  | none => .fail
  | some xs => runFor s g body (xs.length + 1) 0 env st
def sFor (src : IM) (g : GM) (body : SM) : SM := fun env st => (src env st).then env (startFor g body env)
section
variable {X : Cx} {W : WX} {tg iter c : Expr} {src : IM} {g : GM} {body : List Stmt} {gb : SM} {tc : TM} {pos : Pos}
theorem for_word {K : PySem.W.Frag} {D : Ends} {s : Src} {J : It} {H0 : Hp} {m0 : Pl} (hJ : okI K H0 m0 s J) {i f : Nat} {env : Ev} {m : Pl} {st : Sto} {σ : L2.St} {H : Hp} (e : Ext H0 H) (p : m0 <+: m) (hE : RE K H m env σ) (hS : SR K H m st)
    (hp : PostS K W m H D (runFor s g gb f i env st)) :
    (J.stop i H ∧ D.nx σ H) ∨ (J.go i H ∧ ∃ N : L2.St → Hp → Prop, (∀ σ' H', N σ' H' → ∃ f', f' < f ∧ ∃ env m st, Ext H0 H' ∧ m0 <+: m ∧ RE K H' m env σ' ∧ SR K H' m st ∧ PostS K W m H' D (runFor s g gb f' (i + 1) env st)) ∧
      ∀ x H', J.yld i H x H' → rG K g x σ H' fun σ2 H2 => rS K W gb { D with nx := N, ct := N, bk := D.nx } σ2 H2) := by
  cases f with
  | zero => exact hp.elim
  | succ f =>
    unfold runFor at hp
    cases q : s.at st with
    | none => rw [q] at hp; exact hp.elim
    | some xs =>
      rw [q] at hp
      obtain ⟨j1, j2⟩ := hJ i H m st xs e p hS q
      cases q2 : xs[i]? with
      | none =>
        simp only [q2] at hp
        exact .inl ⟨j1 q2, hp σ H m (.refl _) (List.prefix_refl _) hS hE⟩
      | some d =>
        simp only [q2] at hp
        obtain ⟨j3, j4⟩ := j2 d q2
        refine .inr ⟨j3, fun σ' H' => ∃ env m st, Ext H0 H' ∧ m0 <+: m ∧ RE K H' m env σ' ∧ SR K H' m st ∧ PostS K W m H' D (runFor s g gb f (i + 1) env st), fun σ' H' h => ⟨f, Nat.lt_succ_self f, h⟩, fun x H' y => ?_⟩
        obtain ⟨e1, s1, r1⟩ := j4 x H' y
        refine ⟨d, env, m, st, r1, hE.mono e1 (List.prefix_refl _), s1, ?_⟩
        cases q3 : g d env st with
        | none => simp only [q3] at hp; exact hp.elim
        | some z =>
          obtain ⟨env1, st1⟩ := z
          simp only [q3] at hp
          intro σ2 H2 m2 e2 p2 s2 r2
          refine ⟨env1, m2, st1, r2, s2, ?_⟩
          have up : ∀ {r : RS}, PostS K W m H D r → PostS K W m2 H2 D r := fun h => h.up (e1.trans e2) p2
          cases q4 : gb env1 st1 with
          | nx env2 st2 =>
            simp only [q4] at hp
            exact fun σ3 H3 m3 e3 p3 s3 r3 => ⟨env2, m3, st2, ((e.trans e1).trans e2).trans e3, (p.trans p2).trans p3, r3, s3, (up hp).up e3 p3⟩
          | ct env2 st2 =>
            simp only [q4] at hp
            exact fun σ3 H3 m3 e3 p3 s3 r3 => ⟨env2, m3, st2, ((e.trans e1).trans e2).trans e3, (p.trans p2).trans p3, r3, s3, (up hp).up e3 p3⟩
          | bk env2 st2 => simp only [q4] at hp; exact up hp
          | rt d2 st2 => simp only [q4] at hp; exact up hp
          | err cc fs env2 st2 => simp only [q4] at hp; exact up hp
          | fail => simp only [q4] at hp; exact hp
theorem s_for (hpass : PassesOwn (model X.prog X.w) X.A X.env X.xe) (hc : X.calm = true) (hi : PI X tg iter (rI X.K W src)) (hg : PG X tg (rG X.K g)) (hb : PSs X body (rS X.K W gb)) (hs : ∀ x, foldedSetIterable iter X.env x = pure x := by intro _; rfl) :
    PS X (.For tg iter body [] pos) (rS X.K W (sFor src g gb)) := (ps_for hpass hc hi hg hb hs).imp fun D σ H ⟨env, m, st, hE, hS, hp⟩ => by
  refine ⟨env, m, st, hE, hS, PostS.bind hE hp fun s st1 J H1 m1 e1 p1 s1 hJ hp1 => ?_⟩
  unfold startFor at hp1
  cases q : s.at st1 with
  | none => rw [q] at hp1; exact hp1.elim
  | some xs =>
    rw [q] at hp1
    refine ⟨fun i f σ H => ∃ env m st, Ext H1 H ∧ m1 <+: m ∧ RE X.K H m env σ ∧ SR X.K H m st ∧ PostS X.K W m H D (runFor s g gb f i env st), ⟨_, env, m1, st1, .refl _, List.prefix_refl _, hE.mono e1 p1, s1, hp1⟩, ?_⟩
    rintro i f σ2 H2 ⟨env2, m2, st2, e2, p2, r2, s2, hp2⟩
    exact for_word hJ e2 p2 r2 s2 hp2
def runWhile (t : TM) (body : SM) : Nat → SM
  | 0 => fun _ _ => .fail
  | f + 1 => fun env st => (t env st).then env fun c st => if c = true then (match body env st with
    | .nx env2 st2 => runWhile t body f env2 st2
    | .ct env2 st2 => runWhile t body f env2 st2
    | .bk env2 st2 => .nx env2 st2
    | r => r) else .nx env st
theorem s_while (f : Nat) (hpass : PassesOwn (model X.prog X.w) X.A X.env X.xe) (hc : PT X c (rT X.K W tc)) (hb : PSs X body (rS X.K W gb)) : PS X (.While c body [] pos) (rS X.K W (runWhile tc gb f)) := (ps_while hpass hc hb).imp fun D σ H h => by
  refine ⟨fun f σ H => rS X.K W (runWhile tc gb f) D σ H, ⟨f, h⟩, ?_⟩
  rintro f σ H ⟨env, m, st, hE, hS, hp⟩
  cases f with
  | zero => exact hp.elim
  | succ f =>
    refine ⟨env, m, st, hE, hS, PostS.bind hE hp fun k st1 k' H1 m1 e1 p1 s1 r1 hp1 => ?_⟩
    cases (show k = k' from r1)
    cases k with
    | false =>
      refine iteF ?_
      exact hp1 σ H1 m1 (.refl _) (List.prefix_refl _) s1 (hE.mono e1 p1)
    | true =>
      refine iteT ⟨fun σ' H' => rS X.K W (runWhile tc gb f) D σ' H', fun σ' H' h => ⟨f, Nat.lt_succ_self f, h⟩, env, m1, st1, hE.mono e1 p1, s1, ?_⟩
      have hp2 : PostS X.K W m1 H1 D (match gb env st1 with | .nx env2 st2 => runWhile tc gb f env2 st2 | .ct env2 st2 => runWhile tc gb f env2 st2 | .bk env2 st2 => .nx env2 st2 | r => r) := hp1
      cases q4 : gb env st1 with
      | nx env2 st2 => simp only [q4] at hp2; exact fun σ3 H3 m3 e3 p3 s3 r3 => ⟨env2, m3, st2, r3, s3, hp2.up e3 p3⟩
      | ct env2 st2 => simp only [q4] at hp2; exact fun σ3 H3 m3 e3 p3 s3 r3 => ⟨env2, m3, st2, r3, s3, hp2.up e3 p3⟩
      | bk env2 st2 => simp only [q4] at hp2; exact hp2
      | rt d2 st2 => simp only [q4] at hp2; exact hp2
      | err cc fs env2 st2 => simp only [q4] at hp2; exact hp2
      | fail => simp only [q4] at hp2; exact hp2
end

def wipeE (env : Ev) : List Nat → Ev
  | [] => env
  | v :: vs => (wipeE env vs).set v none
theorem RE.wipe {K : PySem.W.Frag} {H : Hp} {m : Pl} {env : Ev} {σ : L2.St} (r : RE K H m env σ) : ∀ vs : List Nat, RE K H m (wipeE env vs) (L2.wipe σ vs)
  | [] => r
  | v :: vs => (RE.wipe r vs).forget
theorem wipe_set {σ : L2.St} {i : Nat} {x : Option V} : ∀ {vs : List Nat}, i ∈ vs → L2.wipe (σ.set i x) vs = L2.wipe σ vs
  | v :: vs, h => by
    unfold L2.wipe
    by_cases hi : i ∈ vs
    · rw [wipe_set hi]
    · have e : i = v := by
        rcases List.mem_cons.mp h with z | z
        · exact z
        · exact absurd z hi
      subst e
      have key : ∀ ws : List Nat, (L2.wipe (σ.set i x) ws).set i none = (L2.wipe σ ws).set i none := by
        intro ws
        induction ws with
        | nil => exact List.set_set ..
        | cons w ws ih =>
          unfold L2.wipe
          by_cases hw : w = i
          · subst hw; rw [ih]
          · rw [List.set_comm _ _ hw, ih, List.set_comm _ _ (Ne.symm hw)]
      exact key vs
def GOk (K : PySem.W.Frag) (vs : List Nat) (t : TG) (g : GM) : Prop :=
  ∀ (d : D) (v : V) (env env' : Ev) (σ : L2.St) (m : Pl) (H : Hp) (st st' : Sto) (Q : L2.St → Hp → Prop), RV K H m d v → RE K H m env σ → g d env st = some (env', st') → (st' = st → ∀ σ', L2.wipe σ' vs = L2.wipe σ vs → RE K H m env' σ' → Q σ' H) → t v σ H Q
def GsOk (K : PySem.W.Frag) (vs : List Nat) (t : TGs) (g : GMs) : Prop :=
  ∀ (d : List D) (v : List V) (env env' : Ev) (σ : L2.St) (m : Pl) (H : Hp) (st st' : Sto) (Q : L2.St → Hp → Prop), RVs K H m d v → RE K H m env σ → g d env st = some (env', st') → (st' = st → ∀ σ', L2.wipe σ' vs = L2.wipe σ vs → RE K H m env' σ' → Q σ' H) → t v σ H Q
section
variable {K : PySem.W.Frag} {vs : List Nat} {t : TG} {ts : TGs} {g : GM} {gs : GMs}
theorem go_name (i : Nat) (hi : i ∈ vs := by decide) : GOk K vs (gName i) (gN i) := fun d v env env' σ m H st st' Q r hE h k => by
  cases (show some (env.set i (some d), st) = some (env', st') from h)
  exact k rfl _ (wipe_set hi) (hE.set r)
theorem gos_nil : GsOk K vs gNil gsNil := fun d v env env' σ m H st st' Q r hE h k => by
  cases r with
  | nil => cases (show some (env, st) = some (env', st') from h); exact ⟨rfl, k rfl σ rfl hE⟩
  | cons _ _ => cases h
theorem gos_cons (h1 : GOk K vs t g) (h2 : GsOk K vs ts gs) : GsOk K vs (gCons t ts) (gsCons g gs) := fun d v env env' σ m H st st' Q r hE h k => by
  cases r with
  | nil => cases h
  | @cons x xs w ws r rs =>
    have h' : (match g x env st with | some (env, st) => gs xs env st | none => none) = some (env', st') := h
    cases q : g x env st with
    | none => rw [q] at h'; cases h'
    | some z =>
      obtain ⟨env1, st1⟩ := z
      rw [q] at h'
      refine ⟨w, ws, rfl, h1 x w env env1 σ m H st st1 _ r hE q fun e1 σ1 w1 r1 => ?_⟩
      exact h2 xs ws env1 env' σ1 m H st1 st' Q rs r1 h' fun e2 σ2 w2 r2 => k (e2.trans e1) σ2 (w2.trans w1) r2
theorem go_tup (n : Nat) (h : GsOk K vs ts gs) : GOk K vs (gTup K n ts) (gT n gs) := fun d v env env' σ m H st st' Q r hE h' k => by
  cases d with
  | tup xs =>
    cases r with
    | @tup _ a ws hq rs =>
      have h2 : (if xs.length = n then gs xs env st else none) = some (env', st') := h'
      by_cases hl : xs.length = n
      · rw [if_pos hl] at h2
        exact ⟨a, ws, rfl, hq, by rw [← rs.length]; exact hl, h xs ws env env' σ m H st st' Q rs hE h2 k⟩
      · rw [if_neg hl] at h2; cases h2
  | _ => cases h'
end
def runLc (s : Src) (g : GM) (t : TM) (e : EM) (k : Nat) (env : Ev) : Nat → Nat → Sto → R D
  | 0, _, _ => .fail
  | f + 1, i, st => match s.at st with
    | none => .fail
    | some xs => match xs[i]? with
      | none => .ok (.ref k) st
      | some d => match g d env st with
        | none => .fail
        | some (env1, _) => (t env1 st).bind fun b st => if b = true then (e env1 st).bind fun y st => (match st[k]? with
            | some (.lst acc) => if acc.length < most then runLc s g t e k env f (i + 1) (st.set k (.lst (acc ++ [y]))) else .fail
            | _ => .fail)
          else runLc s g t e k env f (i + 1) st
def startLc (g : GM) (t : TM) (e : EM) (env : Ev) (s : Src) (st : Sto) : R D := match s.at st with
  | none => .fail
  | some xs => runLc s g t e st.length env (xs.length + 1) 0 (st ++ [.lst []])
def eLc (src : IM) (vs : List Nat) (g : GM) (t : TM) (e : EM) : EM := fun env st => (src env st).bind (startLc g t e (wipeE env vs))
def tTrue : TM := fun _ st => .ok true st
abbrev W0 : WX := fun _ _ _ _ => False
theorem post0 {α β : Type} {K : PySem.W.Frag} {ok : Hp → Pl → α → β → Prop} {E : XK} {m : Pl} {H : Hp} {Q : β → Hp → Prop} {r : R α} (h : Post K ok (fun _ _ _ => False) m H Q r) : Post K ok E m H Q r := by
  cases r with
  | ok d st => exact h
  | err c fs st => exact fun dO H' m' e p s x => (h dO H' m' e p s x).elim
  | fail => exact h
section
variable {X : Cx} {W : WX} {tg iter elt : Expr} {ifs : List Expr} {src : IM} {g : GM} {tt : TM} {ge : EM} {scope : Scope} {own : List (Str × Nat)} {pos : Pos}
theorem src_at_app {s : Src} {st : Sto} {ob : Ob} {xs : List D} (h : s.at st = some xs) : s.at (st ++ [ob]) = some xs := by
  have key : ∀ {n : Nat} {ys : List D}, lstOf st n = some ys → lstOf (st ++ [ob]) n = some ys := by
    intro n ys h
    unfold lstOf at h ⊢
    by_cases hn : n < st.length
    · rw [List.getElem?_append_left hn]; exact h
    · rw [List.getElem?_eq_none (by omega)] at h; cases h
  cases s with
  | fix ys => exact h
  | dyn n => exact key h
  | zipL a b =>
    unfold Src.at at h ⊢
    simp only at h ⊢
    cases g1 : lstOf st a with
    | none => rw [g1] at h; cases h
    | some ys =>
      cases g2 : lstOf st b with
      | none => rw [g1, g2] at h; cases h
      | some zs => rw [g1, g2] at h; rw [key g1, key g2]; exact h
  | enumL a =>
    unfold Src.at at h ⊢
    simp only at h ⊢
    cases g1 : lstOf st a with
    | none => rw [g1] at h; cases h
    | some ys => rw [g1] at h; rw [key g1]; exact h
theorem lc_of {K : PySem.W.Frag} {tgt : TG} {tT : TT} {tE : TE} {σ : L2.St} {Q : VK} {vs : List Nat} {s : Src} {J : It} {H1 : Hp} {m1 : Pl} {st1 : Sto} {env : Ev} (hg : GOk K vs tgt g) (hJ : okI K H1 m1 s J) (hE : RE K H1 m1 env σ) (hS : SR K H1 m1 st1)
    (hT : ∀ σ H Q, rT K W0 tt σ H Q → tT σ H Q) (hEl : ∀ σ H Q, rE K W0 ge σ H Q → tE σ H Q)
    (hp : Post K (okV K) (fun _ _ _ => False) m1 H1 Q (startLc g tt ge (wipeE env vs) s st1)) (Da : Addr) (hD : H1 Da = none) :
    ∃ Wd : Nat → Nat → Hp → Prop, (∃ m, Wd 0 m (upd H1 Da (.lst []))) ∧ ∀ i m H, Wd i m H →
      (J.stop i H ∧ Q (.ref Da) H) ∨ (J.go i H ∧ ∃ Nx : Hp → Prop, (∀ H', Nx H' → ∃ m', m' < m ∧ Wd (i + 1) m' H') ∧ ∀ x H', J.yld i H x H' → tgt x (L2.wipe σ vs) H' fun σ2 H2 => L2.wipe σ2 vs = L2.wipe σ vs ∧ tT σ2 H2 fun b H3 =>
        if b = true then tE σ2 H3 fun y H4 => ∃ acc, H4 Da = some (.lst acc) ∧ acc.length < sizeLine ∧ Nx (upd H4 Da (.lst (acc ++ [y]))) else Nx H3) := by
  unfold startLc at hp
  cases q : s.at st1 with
  | none => rw [q] at hp; exact hp.elim
  | some xs =>
    rw [q] at hp
    have hk : (m1 ++ [Da])[st1.length]? = some Da := by rw [← hS.len]; simp
    refine ⟨fun i f H => ∃ m st, Ext H1 H ∧ (m1 ++ [Da]) <+: m ∧ SR K H m st ∧ Post K (okV K) (fun _ _ _ => False) m H Q (runLc s g tt ge st1.length (wipeE env vs) f i st),
      ⟨xs.length + 1, m1 ++ [Da], st1 ++ [.lst []], .new hD, List.prefix_refl _, hS.new (ob := .lst []) hD ⟨[], upd_same, .nil⟩, Post.up hp (.new hD) (List.prefix_append _ _)⟩, ?_⟩
    rintro i f H ⟨m, st, e, p, sS, hp⟩
    have pm : m1 <+: m := (List.prefix_append m1 [Da]).trans p
    cases f with
    | zero => exact hp.elim
    | succ f =>
      unfold runLc at hp
      cases q : s.at st with
      | none => rw [q] at hp; exact hp.elim
      | some ys =>
        rw [q] at hp
        obtain ⟨j1, j2⟩ := hJ i H m st ys e pm sS q
        cases q2 : ys[i]? with
        | none =>
          simp only [q2] at hp
          exact .inl ⟨j1 q2, Post.here (v := .ref Da) hp sS (.ref (pre_get p hk))⟩
        | some d =>
          simp only [q2] at hp
          obtain ⟨j3, j4⟩ := j2 d q2
          refine .inr ⟨j3, fun H' => ∃ m st, Ext H1 H' ∧ (m1 ++ [Da]) <+: m ∧ SR K H' m st ∧ Post K (okV K) (fun _ _ _ => False) m H' Q (runLc s g tt ge st1.length (wipeE env vs) f (i + 1) st), fun H' h => ⟨f, Nat.lt_succ_self f, h⟩, fun x H' y => ?_⟩
          obtain ⟨e1, s1, r1⟩ := j4 x H' y
          have hE1 : RE K H' m (wipeE env vs) (L2.wipe σ vs) := (hE.mono (e.trans e1) pm).wipe vs
          cases q3 : g d (wipeE env vs) st with
          | none => simp only [q3] at hp; exact hp.elim
          | some z =>
            obtain ⟨env1, st0⟩ := z
            simp only [q3] at hp
            refine hg d x (wipeE env vs) env1 (L2.wipe σ vs) m H' st st0 _ r1 hE1 q3 fun _ σ2 w2 r2 => ⟨?_, ?_⟩
            · rw [w2]
              have idem : ∀ ws : List Nat, (∀ w ∈ ws, w ∈ vs) → L2.wipe (L2.wipe σ vs) ws = L2.wipe σ vs := by
                intro ws
                induction ws with
                | nil => intro _; rfl
                | cons w ws ih =>
                  intro hw
                  show (L2.wipe (L2.wipe σ vs) ws).set w none = L2.wipe σ vs
                  rw [show L2.wipe (L2.wipe σ vs) ws = L2.wipe σ vs from ih fun z hz => hw z (List.mem_cons_of_mem _ hz)]
                  have none_at : ∀ (us : List Nat), w ∈ us → (L2.wipe σ us).set w none = L2.wipe σ us := by
                    intro us
                    induction us with
                    | nil => intro h; cases h
                    | cons u us ih2 =>
                      intro h
                      unfold L2.wipe
                      rcases List.mem_cons.mp h with z | z
                      · subst z; exact List.set_set ..
                      · by_cases hu : u = w
                        · subst hu; exact List.set_set ..
                        · rw [List.set_comm _ _ hu, ih2 z]
                  exact none_at vs (hw w List.mem_cons_self)
              exact idem vs fun _ h => h
            · have hp' := Post.up (m' := m) hp e1 (List.prefix_refl m)
              refine hT _ _ _ ⟨env1, m, st, r2, s1, hp'.bind fun b st2 b' H3 m3 e3 p3 s3 rb hp3 => ?_⟩
              cases (show b = b' from rb)
              cases b with
              | false =>
                refine iteF ⟨m3, st2, (e.trans e1).trans e3, p.trans p3, s3, ?_⟩
                simpa using hp3
              | true =>
                refine iteT ?_
                have hp4 : Post K (okV K) (fun _ _ _ => False) m3 H3 Q ((ge env1 st2).bind fun y st => (match st[st1.length]? with
                  | some (.lst acc) => if acc.length < most then runLc s g tt ge st1.length (wipeE env vs) f (i + 1) (st.set st1.length (.lst (acc ++ [y]))) else .fail
                  | _ => .fail)) := hp3
                refine hEl _ _ _ ⟨env1, m3, st2, r2.mono e3 p3, s3, hp4.bind fun y st4 vy H4 m4 e4 p4 s4 ry hp5 => ?_⟩
                have ha : m4[st1.length]? = some Da := pre_get p4 (pre_get p3 (pre_get p hk))
                split at hp5
                · rename_i acc qa
                  obtain ⟨va, h4, ra⟩ := s4.ob _ _ _ ha qa
                  by_cases hl : acc.length < most
                  · rw [if_pos hl] at hp5
                    have ew : Ext H4 (upd H4 Da (.lst (va ++ [vy]))) := .write h4 (fun _ z => by cases z) (fun _ _ z => by cases z)
                    refine ⟨va, h4, by rw [← ra.length]; exact most_lt hl, m4, st4.set st1.length (.lst (acc ++ [y])), (((e.trans e1).trans e3).trans e4).trans ew, (p.trans p3).trans p4, s4.write (ob := .lst (acc ++ [y])) ha qa rfl h4 (fun _ z => by cases z) (fun _ _ z => by cases z) ⟨va ++ [vy], upd_same, ?_⟩, Post.up hp5 ew (List.prefix_refl _)⟩
                    exact (ra.mono ew (List.prefix_refl _)).append (.one (ry.mono ew (List.prefix_refl _)))
                  · rw [if_neg hl] at hp5; exact hp5.elim
                · exact hp5.elim
end
end U
set_option Elab.async false
set_option linter.all false
set_option maxRecDepth 100000
set_option maxHeartbeats 4000000
namespace U
open PySem PySem.Spec PyProof.Rows L2

def R.hush {α : Type} : R α → R α
  | .err _ _ _ => .fail
  | r => r
theorem hush_of {α β : Type} {K : PySem.W.Frag} {ok : Hp → Pl → α → β → Prop} {E E' : XK} {m : Pl} {H : Hp} {Q : β → Hp → Prop} {r : R α} (h : Post K ok E m H Q r.hush) : Post K ok E' m H Q r := by
  cases r with
  | ok d st => exact h
  | err c fs st => exact h.elim
  | fail => exact h
def cLc (src : IM) (vs : List Nat) (g : GM) (t : TM) (e : EM) : EM := fun env st => (src env st).bind fun s st => (startLc g t e (wipeE env vs) s st).hush
theorem _root_.L2.PTs.imp {X : Cx} {e : List Expr} {t t' : TT} (h : PTs X e t) (i : ∀ σ H Q, t' σ H Q → t σ H Q) : PTs X e t' := ⟨fun pins s σ H Q I q => h.run pins s σ H Q I (i _ _ _ q)⟩
section
variable {X : Cx} {W : WX} {tg iter elt : Expr} {ifs : List Expr} {src : IM} {g : GM} {tt : TM} {ge : EM} {scope : Scope} {own : List (Str × Nat)} {pos spos : Pos} {tgt : TG}
theorem c_yes : PTs X [] (rT X.K W tTrue) := pts_nil.imp fun σ H Q ⟨env, m, st, hE, hS, hp⟩ => Post.here (v := true) hp hS rfl
theorem c_if {c : Expr} (h : PT X c (rT X.K W tt)) : PTs X [c] (rT X.K W tt) := pts_one h
theorem lc_read {vs : List Nat} (hg : GOk X.K vs tgt g) {σ : L2.St} {H : Hp} {Q : VK} (h : rE X.K W (cLc src vs g tt ge) σ H Q) : tLc (rI X.K W src) tgt (rT X.K W0 tt) (rE X.K W0 ge) vs σ H Q := by
  obtain ⟨env, m, st, hE, hS, hp⟩ := h
  refine ⟨env, m, st, hE, hS, hp.bind fun s st1 J H1 m1 e1 p1 s1 hJ hp1 => fun Da hD => ?_⟩
  exact lc_of hg hJ (hE.mono e1 p1) s1 (fun _ _ _ h => h) (fun _ _ _ h => h) (hush_of hp1) Da hD
theorem e_lc (own : List (Str × Nat)) (hc : X.calm = true) (hN : X.N.Nodup) (hgo : GOk X.K (own.map (·.2)) tgt g) (hi : PI X tg iter (rI X.K W src)) (ok : BlkOk X.N X.env.scope scope own)
    (hg : ∀ (s : Shared) (H : Hp) (C : Addr) (cl : List (Str × Addr)) (fp : List Addr), PG (X.blk s H scope (compEnvC scope cl C X.env) fp) tg tgt)
    (ht : ∀ (s : Shared) (H : Hp) (C : Addr) (cl : List (Str × Addr)) (fp : List Addr), PTs (X.blk s H scope (compEnvC scope cl C X.env) fp) ifs (rT X.K W0 tt))
    (he : ∀ (s : Shared) (H : Hp) (C : Addr) (cl : List (Str × Addr)) (fp : List Addr), PE (X.blk s H scope (compEnvC scope cl C X.env) fp) elt (rE X.K W0 ge))
    (hs : ∀ x, foldedSetIterable iter X.env x = pure x := by intro _; rfl) : PE X (.ListComp elt [⟨tg, iter, ifs, 0⟩] scope pos) (rE X.K W (cLc src (own.map (·.2)) g tt ge)) :=
  (pe_lc hc hN hi ok hg ht he hs).imp fun σ H Q h => lc_read hgo h
theorem s_setLc (i : Nat) (own : List (Str × Nat)) {y : Str} {py : Pos} (hc : X.calm = true) (hN : X.N.Nodup) (hgo : GOk X.K (own.map (·.2)) tgt g) (hi : PI X tg iter (rI X.K W src)) (ok : BlkOk X.N X.env.scope scope own)
    (hg : ∀ (s : Shared) (H : Hp) (C : Addr) (cl : List (Str × Addr)) (fp : List Addr), PG (X.blk s H scope (compEnvC scope cl C X.env) fp) tg tgt)
    (ht : ∀ (s : Shared) (H : Hp) (C : Addr) (cl : List (Str × Addr)) (fp : List Addr), PTs (X.blk s H scope (compEnvC scope cl C X.env) fp) ifs (rT X.K W0 tt))
    (he : ∀ (s : Shared) (H : Hp) (C : Addr) (cl : List (Str × Addr)) (fp : List Addr), PE (X.blk s H scope (compEnvC scope cl C X.env) fp) elt (rE X.K W0 ge))
    (hsw : swapsWith (.ListComp elt [⟨tg, iter, ifs, 0⟩] scope pos) (some (.Name y py)) spos.line X.env = pure true) (hy : X.N[i]? = some y := by rfl) (hyl : X.env.scope.names.lookup y = some .local := by rfl)
    (hs : ∀ x, foldedSetIterable iter X.env x = pure x := by intro _; rfl) : PS X (.Assign [.Name y py] (.ListComp elt [⟨tg, iter, ifs, 0⟩] scope pos) spos) (rS X.K W (sSet i (cLc src (own.map (·.2)) g tt ge))) :=
  (ps_setLc hc hN hy hyl hsw hi ok hg ht he hs).imp fun D σ H h => by
    have h2 := set_of h
    exact lc_read hgo h2
end

abbrev Fm := List D → Sto → R D
def env0 (n slots : Nat) (ds : List D) : Ev := ds.map some ++ List.replicate (slots - n) none
def endFn : RS → R D
  | .rt d st => .ok d st
  | .nx _ st => .ok .non st
  | .err c fs _ st => .err c fs st
  | _ => .fail
def mkFn (n slots : Nat) (body : SM) : Fm := fun ds st => if ds.length = n then endFn (body (env0 n slots ds) st) else .fail
def spF (K : PySem.W.Frag) (n : Nat) (f : Fm) : Sp := fun vs H Q E => vs.length = n ∧ ∃ ds m st, RVs K H m ds vs ∧ SR K H m st ∧ Post K (okV K) E m H Q (f ds st)
def Arity (n : Nat) (f : Fm) : Prop := ∀ ds st, ds.length ≠ n → f ds st = .fail
theorem mkFn_ar {n slots : Nat} {body : SM} : Arity n (mkFn n slots body) := fun ds st h => if_neg h
theorem spF_of {K : PySem.W.Frag} {n : Nat} {f : Fm} (ar : Arity n f) {E : XK} {m : Pl} {H : Hp} {st : Sto} {ds : List D} {vs : List V} {Q : VK} (s : SR K H m st) (r : RVs K H m ds vs) (hp : Post K (okV K) E m H Q (f ds st)) : spF K n f vs H Q E := by
  by_cases hl : ds.length = n
  · exact ⟨by rw [← r.length]; exact hl, ds, m, st, r, s, hp⟩
  · rw [ar ds st hl] at hp; exact hp.elim
theorem env0_re {K : PySem.W.Frag} {H : Hp} {m : Pl} {ds : List D} {vs : List V} {N : List Str} {n : Nat} (r : RVs K H m ds vs) (hl : ds.length = n) : RE K H m (env0 n N.length ds) (L2.start N vs) := by
  have hv : vs.length = n := by rw [← r.length]; exact hl
  refine ⟨by simp [env0, L2.start, hl, hv], fun i d h => ?_⟩
  unfold env0 at h
  by_cases hi : i < ds.length
  · rw [List.getElem?_append_left (by simpa using hi), List.getElem?_map] at h
    obtain ⟨x, hx, e⟩ := Option.map_eq_some_iff.mp h
    cases e
    obtain ⟨v, hv2, rv⟩ := r.get hx
    refine ⟨v, ?_, rv⟩
    unfold L2.start
    rw [List.getElem?_append_left (by simp; rw [← r.length]; exact hi), List.getElem?_map, hv2]
    rfl
  · rw [List.getElem?_append_right (by simp; omega)] at h
    obtain ⟨_, e⟩ := List.getElem?_eq_some_iff.mp h
    simp at e
abbrev WK (E : XK) : WX := fun c d _ H => E c d H
section
variable {P : Program} {w : World} {K : PySem.W.Frag} {mg : Str → Option Value} {base : Heap}
theorem fn_F {x qual : Str} {params : Arguments} {body : List Stmt} {scope : Scope} {dvs : List V} {kws : List (Str × V)} {f : Addr} {fd : FuncData} {N ps : List Str} {k : Nat} {gb : SM} (F : FunD K x qual params body scope dvs kws f fd) (S : FnScope N ps scope)
    (h : ∀ (cdv : Value) (A : Around) (outer : List Env) (s : Shared) (H : Hp) (E : XK), Room k (A.deeper (envOfC qual scope s.heap.objs.size f cdv)) → PSs (cxOf (L2.CX P w) P w K mg base N qual scope f cdv A outer s H E) body (rS K (WK E) gb)) :
    FnOk P w K mg base (L2.CX P w) (k + 1) f fd ps (spF K ps.length (mkFn ps.length N.length gb)) := by
  refine F.ok S (fun vs H Q E h => h.1) (fun cdv A outer s H vs Q E hr hsp => ⟨_, h cdv A outer s H E hr, ?_⟩)
  obtain ⟨hl, ds, m, st, r, sS, hp⟩ := hsp
  have hd : ds.length = ps.length := by rw [r.length]; exact hl
  unfold mkFn at hp
  rw [if_pos hd] at hp
  refine ⟨_, m, st, env0_re r hd, sS, ?_⟩
  cases q : gb (env0 ps.length N.length ds) st with
  | rt d st1 => rw [q] at hp; exact hp
  | nx env st1 => rw [q] at hp; exact fun σ H1 m1 e1 p1 s1 r1 => hp .non H1 m1 e1 p1 s1 .non
  | err c fs env st1 => rw [q] at hp; exact fun dO σ H1 m1 e1 p1 s1 x1 r1 => hp dO H1 m1 e1 p1 s1 x1
  | bk env st1 => rw [q] at hp; exact hp.elim
  | ct env st1 => rw [q] at hp; exact hp.elim
  | fail => rw [q] at hp; exact hp.elim
end
structure Fn (P : Program) (w : World) (K : PySem.W.Frag) (mg : Str → Option Value) (base : Heap) (k : Nat) (x : Str) (n : Nat) (f : Fm) : Prop where
  ex : ∃ (a : Addr) (fd : FuncData) (ps : List Str), FnOk P w K mg base (L2.CX P w) k a fd ps (spF K n f) ∧ mg x = some (.ref a) ∧ PySem.W.keepIn K (.ref a) = true ∧ Binds K fd ps []
  ar : Arity n f
section
variable {X : Cx} {W : WX} {a : Expr} {es : List Expr} {gs : AM} {pos p : Pos} {k n : Nat} {x : Str} {f : Fm}
theorem e_call (F : Fn X.prog X.w X.K X.mg X.base k x n f) (tk : Takes X W) (hr : Room k X.A) (ha : PA X (a :: es) (rA X.K W gs)) (hg : Gl X x := by rfl)
    (hdb : (x == ("__debug__" : Str)) = false := by decide) (he : starEach (a :: es) X.env = (false, eval a X.env) :: starEach es X.env := by rfl) (hpl : (backTo pos (starEach es X.env)).any (·.1) = false := by rfl) :
    PE X (.Call (.Name x p) (a :: es) [] pos) (rE X.K W (eFn f gs)) := by
  obtain ⟨ad, fd, ps, ok, hm, hk, hb⟩ := F.ex
  exact (pe_callS ok hr hg hm hk hb (fun σ => passAt tk σ) ha hdb he hpl).imp fun σ H Q h => by
    obtain ⟨env, m, st, hE, hS, hp⟩ := h
    exact ⟨env, m, st, hE, hS, hp.bind fun d st1 v H1 m1 e1 p1 s1 r1 hp1 => spF_of F.ar s1 r1 hp1⟩
end
end U
set_option Elab.async false
set_option linter.all false
set_option maxRecDepth 100000
set_option maxHeartbeats 4000000
namespace U
open PySem PySem.Spec PyProof.Rows L2

def mapO {α β : Type} (f : α → Option β) : List α → Option (List β)
  | [] => some []
  | x :: xs => match f x with
    | none => none
    | some y => match mapO f xs with
      | none => none
      | some ys => some (y :: ys)
def toP : Nat → Sto → D → Option PyData
  | _, _, .non => some .none
  | _, _, .bl b => some (.bool b)
  | _, _, .int i => some (.int i)
  | _, _, .str x => some (.str x)
  | 0, _, _ => none
  | n + 1, st, .tup xs => (mapO (toP n st) xs).map .tuple
  | n + 1, st, .ref i => match lstOf st i with
    | some xs => (mapO (toP n st) xs).map .list
    | none => none
section
variable {K : PySem.W.Frag} {H : Hp} {m : Pl} {st : Sto}
theorem mapO_dp {n : Nat} (ih : ∀ (d : D) (v : V) (p : PyData), RV K H m d v → toP n st d = some p → Dp K H v p) : ∀ (ds : List D) (vs : List V) (ps : List PyData), RVs K H m ds vs → mapO (toP n st) ds = some ps → DpAll K H vs ps
  | [], _, _, r, h => by
    cases r
    cases h
    exact .nil
  | d :: ds, _, ps, r, h => by
    cases r with
    | cons r1 r2 =>
      unfold mapO at h
      cases q : toP n st d with
      | none => rw [q] at h; cases h
      | some p =>
        rw [q] at h
        cases q2 : mapO (toP n st) ds with
        | none => simp only [q2] at h; cases h
        | some ps' =>
          simp only [q2] at h
          cases h
          exact .cons (ih d _ p r1 q) (mapO_dp ih ds _ ps' r2 q2)
theorem toP_dp (s : SR K H m st) : ∀ (n : Nat) (d : D) (v : V) (p : PyData), RV K H m d v → toP n st d = some p → Dp K H v p
  | n, .non, _, _, r, h => by cases r; cases n <;> (cases h; exact .non)
  | n, .bl b, _, _, r, h => by cases r; cases n <;> (cases h; exact .bl b)
  | n, .int i, _, _, r, h => by cases r; cases n <;> (cases h; exact .int i)
  | n, .str x, _, _, r, h => by cases r; cases n <;> (cases h; exact .str x)
  | 0, .tup _, _, _, _, h => by cases h
  | 0, .ref _, _, _, _, h => by cases h
  | n + 1, .tup xs, _, p, r, h => by
    cases r with
    | tup hq rs =>
      obtain ⟨ps, e, rfl⟩ := Option.map_eq_some_iff.mp (show (mapO (toP n st) xs).map PyData.tuple = some p from h)
      exact .tup hq (mapO_dp (toP_dp s n) xs _ ps rs e)
  | n + 1, .ref i, _, p, r, h => by
    cases r with
    | ref hi =>
      have h' : (match lstOf st i with | some xs => (mapO (toP n st) xs).map PyData.list | none => none) = some p := h
      cases q : lstOf st i with
      | none => rw [q] at h'; cases h'
      | some xs =>
        rw [q] at h'
        obtain ⟨ps, e, rfl⟩ := Option.map_eq_some_iff.mp (show (mapO (toP n st) xs).map PyData.list = some p from h')
        obtain ⟨vs, hq, rs⟩ := s.sqL hi q
        exact .lst hq (mapO_dp (toP_dp s n) xs _ ps rs e)
end
def toS (st : Sto) (d : D) : Option PyData := match toP 60 st d with
  | some p => if SeqAt.shaped p = true then some p else none
  | none => none
theorem toS_dp {K : PySem.W.Frag} {H : Hp} {m : Pl} {st : Sto} (s : SR K H m st) {d : D} {v : V} {p : PyData} (r : RV K H m d v) (h : toS st d = some p) : Dp K H v p ∧ SeqAt.shaped p = true := by
  unfold toS at h
  cases q : toP 60 st d with
  | none => rw [q] at h; cases h
  | some p' =>
    rw [q] at h
    simp only at h
    split at h
    · rename_i hs
      cases h
      exact ⟨toP_dp s 60 d v _ r q, hs⟩
    · cases h
def dEq (neg : Bool) (x y : D) (st : Sto) : R D := match toS st x, toS st y with
  | some p, some q => .ok (.bl (if neg then !PyData.eqv p q else PyData.eqv p q)) st
  | _, _ => .fail
def itemsP : PyData → Option (List PyData)
  | .tuple ps => some ps
  | .list ps => some ps
  | _ => none
def dIn (neg : Bool) (x y : D) (st : Sto) : R D := match toS st x, toS st y with
  | some p, some q => match itemsP q with
    | some ps => .ok (.bl (if neg then !ps.any (fun z => PyData.eqv z p) else ps.any (fun z => PyData.eqv z p))) st
    | none => .fail
  | _, _ => .fail
section
variable {X : Cx} {k : Nat}
theorem o_eq (hr : Room k X.A) : OpF X (compareOp .Eq) (dEq false) := ⟨_, op_eqD hr.units, fun E m H st dx dy x y Q s rx ry hp => by
  unfold dEq at hp
  cases q1 : toS st dx with
  | none => rw [q1] at hp; exact hp.elim
  | some p =>
    cases q2 : toS st dy with
    | none => rw [q1, q2] at hp; exact hp.elim
    | some q =>
      rw [q1, q2] at hp
      obtain ⟨h1, h2⟩ := toS_dp s rx q1
      obtain ⟨h3, h4⟩ := toS_dp s ry q2
      exact ⟨p, q, h1, h3, h2, h4, Post.here (v := .bl (PyData.eqv p q)) hp s .bl⟩⟩
theorem o_ne (hr : Room k X.A) : OpF X (compareOp .NotEq) (dEq true) := ⟨_, op_neD hr.units, fun E m H st dx dy x y Q s rx ry hp => by
  unfold dEq at hp
  cases q1 : toS st dx with
  | none => rw [q1] at hp; exact hp.elim
  | some p =>
    cases q2 : toS st dy with
    | none => rw [q1, q2] at hp; exact hp.elim
    | some q =>
      rw [q1, q2] at hp
      obtain ⟨h1, h2⟩ := toS_dp s rx q1
      obtain ⟨h3, h4⟩ := toS_dp s ry q2
      exact ⟨p, q, h1, h3, h2, h4, Post.here (v := .bl (!PyData.eqv p q)) hp s .bl⟩⟩
def rInA (K : PySem.W.Frag) (neg : Bool) : R2 := fun x y H Q => ∃ d e ds, Dp K H x d ∧ Dp K H y e ∧ itemsP e = some ds ∧ SeqAt.shaped d = true ∧ SeqAt.shaped e = true ∧ Q (.bl (if neg then !ds.any (fun z => PyData.eqv z d) else ds.any (fun z => PyData.eqv z d))) H
theorem shaped_items {e : PyData} {ds : List PyData} (h : itemsP e = some ds) (s : SeqAt.shaped e = true) : PyData.canLayAll0 ds = true := by
  have h2 := SeqAt.canLay_of_shaped s
  cases e with
  | tuple ps => cases h; simpa [PyData.canLay0] using h2
  | list ps => cases h; simpa [PyData.canLay0] using h2
  | _ => cases h
theorem or_in (hr : Room k X.A) : OpR X (compareOp .In) (rInA X.K false) := by
  intro pins s σ H x y v u Q I rx ry h
  obtain ⟨d, e, ds, hd, he, hi, sd, se, q⟩ := h
  have hu : X.A.units + 65 < cLine := by have := hr.un; omega
  obtain ⟨as, r1⟩ := Dp.reads I d x v hd rx
  obtain ⟨bs, r2⟩ := Dp.reads I e y u he ry
  have hl := shaped_items hi se
  cases e with
  | tuple ps => cases hi; exact SeqAt.in_tuple_reads r2 r1 hl (SeqAt.canLay_of_shaped sd) (room_in_shaped sd hu) ⟨.bl _, H, I, rfl, q⟩
  | list ps => cases hi; exact SeqAt.in_list_reads r2 r1 hl (SeqAt.canLay_of_shaped sd) (room_in_shaped sd hu) ⟨.bl _, H, I, rfl, q⟩
  | _ => cases hi
theorem or_notIn (hr : Room k X.A) : OpR X (compareOp .NotIn) (rInA X.K true) := by
  intro pins s σ H x y v u Q I rx ry h
  obtain ⟨d, e, ds, hd, he, hi, sd, se, q⟩ := h
  have hu : X.A.units + 65 < cLine := by have := hr.un; omega
  obtain ⟨as, r1⟩ := Dp.reads I d x v hd rx
  obtain ⟨bs, r2⟩ := Dp.reads I e y u he ry
  have hl := shaped_items hi se
  cases e with
  | tuple ps => cases hi; exact SeqAt.notIn_tuple_reads r2 r1 hl (SeqAt.canLay_of_shaped sd) (room_in_shaped sd hu) ⟨.bl _, H, I, rfl, q⟩
  | list ps => cases hi; exact SeqAt.notIn_list_reads r2 r1 hl (SeqAt.canLay_of_shaped sd) (room_in_shaped sd hu) ⟨.bl _, H, I, rfl, q⟩
  | _ => cases hi
theorem in_read {neg : Bool} {E : XK} {m : Pl} {H : Hp} {st : Sto} {dx dy : D} {x y : V} {Q : VK} (s : SR X.K H m st) (rx : RV X.K H m dx x) (ry : RV X.K H m dy y) (hp : Post X.K (okV X.K) E m H Q (dIn neg dx dy st)) : rInA X.K neg x y H Q := by
  unfold dIn at hp
  cases q1 : toS st dx with
  | none => rw [q1] at hp; exact hp.elim
  | some p =>
    cases q2 : toS st dy with
    | none => rw [q1, q2] at hp; exact hp.elim
    | some q =>
      rw [q1, q2] at hp
      simp only at hp
      obtain ⟨h1, h2⟩ := toS_dp s rx q1
      obtain ⟨h3, h4⟩ := toS_dp s ry q2
      cases q3 : itemsP q with
      | none => rw [q3] at hp; exact hp.elim
      | some ps =>
        rw [q3] at hp
        exact ⟨p, q, ps, h1, h3, q3, h2, h4, Post.here (v := .bl _) hp s .bl⟩
theorem o_in (hr : Room k X.A) : OpF X (compareOp .In) (dIn false) := ⟨_, or_in hr, fun E m H st dx dy x y Q s rx ry hp => in_read s rx ry hp⟩
theorem o_notIn (hr : Room k X.A) : OpF X (compareOp .NotIn) (dIn true) := ⟨_, or_notIn hr, fun E m H st dx dy x y Q s rx ry hp => in_read s rx ry hp⟩

def dI (f : Int → Int → R D) (x y : D) : R D := match x, y with
  | .int i, .int j => f i j
  | _, _ => .fail
def dSub (x y : D) (st : Sto) : R D := dI (fun i j => .ok (.int (i - j)) st) x y
def dMod (x y : D) (st : Sto) : R D := dI (fun i j => if 0 < j then .ok (.int (i % j)) st else .fail) x y
def dDiv (x y : D) (st : Sto) : R D := dI (fun i j => if 0 < j ∧ j < 1000000000000000000000 then .ok (.int (i / j)) st else .fail) x y
def dPow (x y : D) (st : Sto) : R D := dI (fun i j => if 0 ≤ j ∧ j ≤ 1000000 ∧ i.natAbs < 2 ^ 64 then .ok (.int (i ^ j.toNat)) st else .fail) x y
def dLt (x y : D) (st : Sto) : R D := dI (fun i j => .ok (.bl (decide (i < j))) st) x y
def dLe (x y : D) (st : Sto) : R D := dI (fun i j => .ok (.bl (decide (i ≤ j))) st) x y
def dGt (x y : D) (st : Sto) : R D := dI (fun i j => .ok (.bl (decide (j < i))) st) x y
def dGe (x y : D) (st : Sto) : R D := dI (fun i j => .ok (.bl (decide (j ≤ i))) st) x y
theorem dI_cases {K : PySem.W.Frag} {H : Hp} {m : Pl} {E : XK} {Q : VK} {f : Int → Int → R D} {dx dy : D} {x y : V} (rx : RV K H m dx x) (ry : RV K H m dy y) (hp : Post K (okV K) E m H Q (dI f dx dy)) : ∃ i j, x = .int i ∧ y = .int j ∧ Post K (okV K) E m H Q (f i j) := by
  cases dx with
  | int i =>
    cases dy with
    | int j => cases rx; cases ry; exact ⟨i, j, rfl, rfl, hp⟩
    | _ => exact hp.elim
  | _ => exact hp.elim
theorem o_sub : OpF X (binaryOp .Sub) dSub := ⟨_, op_sub, fun E m H st dx dy x y Q s rx ry hp => let ⟨i, j, e1, e2, h⟩ := dI_cases rx ry hp; ⟨i, j, e1, e2, Post.here (v := .int (i - j)) h s .int⟩⟩
theorem o_mod : OpF X (binaryOp .Mod) dMod := ⟨_, op_mod, fun E m H st dx dy x y Q s rx ry hp => by
  obtain ⟨i, j, e1, e2, h⟩ := dI_cases rx ry hp
  split at h
  · rename_i hj; exact ⟨i, j, e1, e2, hj, Post.here (v := .int (i % j)) h s .int⟩
  · exact h.elim⟩
theorem wide_ok {j : Int} (h0 : 0 < j) (h : j < 1000000000000000000000) : j.natAbs.log2 < 9000 := by
  have h1 : j.natAbs < 2 ^ 70 := by
    have : (2 : Nat) ^ 70 = 1180591620717411303424 := by decide
    omega
  have h2 : j.natAbs.log2 < 70 := (Nat.log2_lt (by omega)).mpr h1
  omega
theorem o_div : OpF X (binaryOp .FloorDiv) dDiv := ⟨_, op_fdivW, fun E m H st dx dy x y Q s rx ry hp => by
  obtain ⟨i, j, e1, e2, h⟩ := dI_cases rx ry hp
  split at h
  · rename_i hj; exact ⟨i, j, e1, e2, ⟨hj.1, wide_ok hj.1 hj.2⟩, Post.here (v := .int (i / j)) h s .int⟩
  · exact h.elim⟩
theorem o_pow : OpF X (binaryOp .Pow) dPow := ⟨_, op_pow, fun E m H st dx dy x y Q s rx ry hp => by
  obtain ⟨i, j, e1, e2, h⟩ := dI_cases rx ry hp
  split at h
  · rename_i hj; exact ⟨i, j, e1, e2, hj, Post.here (v := .int (i ^ j.toNat)) h s .int⟩
  · exact h.elim⟩
theorem o_lt : OpF X (compareOp .Lt) dLt := ⟨_, op_lt, fun E m H st dx dy x y Q s rx ry hp => let ⟨i, j, e1, e2, h⟩ := dI_cases rx ry hp; ⟨i, j, e1, e2, Post.here (v := .bl _) h s .bl⟩⟩
theorem o_le : OpF X (compareOp .LtE) dLe := ⟨_, op_le, fun E m H st dx dy x y Q s rx ry hp => let ⟨i, j, e1, e2, h⟩ := dI_cases rx ry hp; ⟨i, j, e1, e2, Post.here (v := .bl _) h s .bl⟩⟩
theorem o_gt : OpF X (compareOp .Gt) dGt := ⟨_, op_gt, fun E m H st dx dy x y Q s rx ry hp => let ⟨i, j, e1, e2, h⟩ := dI_cases rx ry hp; ⟨i, j, e1, e2, Post.here (v := .bl _) h s .bl⟩⟩
theorem o_ge : OpF X (compareOp .GtE) dGe := ⟨_, op_ge, fun E m H st dx dy x y Q s rx ry hp => let ⟨i, j, e1, e2, h⟩ := dI_cases rx ry hp; ⟨i, j, e1, e2, Post.here (v := .bl _) h s .bl⟩⟩
def dIsN (neg : Bool) (x y : D) (st : Sto) : R D := match y with
  | .non => (match x with
    | .non => .ok (.bl (!neg)) st
    | _ => .ok (.bl neg) st)
  | _ => .fail
theorem o_isN : OpF X (compareOp .Is) (dIsN false) := ⟨_, op_isN, fun E m H st dx dy x y Q s rx ry hp => by
  cases dy with
  | non =>
    cases ry
    refine ⟨rfl, ?_⟩
    cases rx <;> exact Post.here hp s .bl
  | _ => exact hp.elim⟩
theorem o_notN : OpF X (compareOp .IsNot) (dIsN true) := ⟨_, op_notN, fun E m H st dx dy x y Q s rx ry hp => by
  cases dy with
  | non =>
    cases ry
    refine ⟨rfl, ?_⟩
    cases rx <;> exact Post.here hp s .bl
  | _ => exact hp.elim⟩
def dAdd (x y : D) (st : Sto) : R D := match x, y with
  | .int i, .int j => .ok (.int (i + j)) st
  | .tup xs, .tup ys => if xs.length + ys.length ≤ most then .ok (.tup (xs ++ ys)) st else .fail
  | .str a, .str b => if a.length + b.length ≤ most then .ok (.str (a ++ b)) st else .fail
  | .ref a, .ref b => match st[a]?, st[b]? with
    | some (.lst xs), some (.lst ys) => mkLst (xs ++ ys) st
    | _, _ => .fail
  | _, _ => .fail
theorem o_add : OpF X (binaryOp .Add) dAdd := ⟨_, op_add.or (op_catA.or (op_add_str.or op_cat)), fun E m H st dx dy x y Q s rx ry hp => by
  cases dx with
  | int i =>
    cases dy with
    | int j => cases rx; cases ry; exact .inl ⟨i, j, rfl, rfl, Post.here (v := .int (i + j)) hp s .int⟩
    | _ => exact hp.elim
  | tup xs =>
    cases dy with
    | tup ys =>
      cases rx with
      | @tup _ a vs hq rs =>
        cases ry with
        | @tup _ b ws hq2 rs2 =>
          have hp' : Post X.K (okV X.K) E m H Q (if xs.length + ys.length ≤ most then .ok (.tup (xs ++ ys)) st else .fail) := hp
          by_cases hl : xs.length + ys.length ≤ most
          · rw [if_pos hl] at hp'
            refine .inr (.inl ⟨a, b, vs, ws, rfl, rfl, hq, hq2, by rw [← rs.length, ← rs2.length]; exact most_le hl, fun e => ?_, fun e1 e2 => ?_, fun _ _ p h => new_tup hp' s (rs.append rs2) h⟩)
            · subst e
              cases rs
              exact Post.here (v := .ref b) hp' s (.tup hq2 (show RVs X.K H m ([] ++ ys) ws from rs2))
            · subst e2
              cases rs2
              exact Post.here (v := .ref a) hp' s (.tup hq (by rw [List.append_nil]; exact rs))
          · rw [if_neg hl] at hp'; exact hp'.elim
    | _ => exact hp.elim
  | str a =>
    cases dy with
    | str b =>
      cases rx; cases ry
      have hp' : Post X.K (okV X.K) E m H Q (if a.length + b.length ≤ most then .ok (.str (a ++ b)) st else .fail) := hp
      by_cases hl : a.length + b.length ≤ most
      · rw [if_pos hl] at hp'
        exact .inr (.inr (.inl ⟨a, b, rfl, rfl, most_le hl, Post.here (v := .str (a ++ b)) hp' s .str⟩))
      · rw [if_neg hl] at hp'; exact hp'.elim
    | _ => exact hp.elim
  | ref i =>
    cases dy with
    | ref j =>
      cases rx with
      | @ref _ a h1 =>
        cases ry with
        | @ref _ b h2 =>
          have hp' : Post X.K (okV X.K) E m H Q (match st[i]?, st[j]? with | some (.lst xs), some (.lst ys) => mkLst (xs ++ ys) st | _, _ => .fail) := hp
          split at hp'
          · rename_i xs ys g1 g2
            obtain ⟨vs, a1, r1⟩ := s.ob _ _ _ h1 g1
            obtain ⟨ws, a2, r2⟩ := s.ob _ _ _ h2 g2
            unfold mkLst at hp'
            split at hp'
            · rename_i hl
              exact .inr (.inr (.inr ⟨a, b, vs, ws, rfl, rfl, a1, a2, by rw [← r1.length, ← r2.length]; rw [List.length_append] at hl; exact most_le hl, fun p h => new_lst hp' s (r1.append r2) h⟩))
            · exact hp'.elim
          · exact hp'.elim
    | _ => exact hp.elim
  | _ => exact hp.elim⟩
theorem RVs.rep {K : PySem.W.Frag} {H : Hp} {m : Pl} {xs : List D} {vs : List V} (r : RVs K H m xs vs) : ∀ n : Nat, RVs K H m (List.replicate n xs).flatten (List.replicate n vs).flatten
  | 0 => .nil
  | n + 1 => by
    rw [List.replicate_succ, List.replicate_succ, List.flatten_cons, List.flatten_cons]
    exact r.append (RVs.rep r n)
def dMul (x y : D) (st : Sto) : R D := match x, y with
  | .int i, .int j => if (-(2 ^ 64) < i ∧ i < 2 ^ 64) ∨ (-(2 ^ 64) < j ∧ j < 2 ^ 64) then .ok (.int (i * j)) st else .fail
  | .tup xs, .int k => if xs ≠ [] ∧ 2 ≤ k ∧ k ≤ 1000 ∧ xs.length ≤ 1000 then .ok (.tup (List.replicate k.toNat xs).flatten) st else .fail
  | _, _ => .fail
theorem o_mul : OpF X (binaryOp .Mult) dMul := ⟨_, op_mul.or op_repT, fun E m H st dx dy x y Q s rx ry hp => by
  cases dx with
  | int i =>
    cases dy with
    | int j =>
      cases rx; cases ry
      have hp' : Post X.K (okV X.K) E m H Q (if (-(2 ^ 64) < i ∧ i < 2 ^ 64) ∨ (-(2 ^ 64) < j ∧ j < 2 ^ 64) then .ok (.int (i * j)) st else .fail) := hp
      by_cases hl : (-(2 ^ 64) < i ∧ i < 2 ^ 64) ∨ (-(2 ^ 64) < j ∧ j < 2 ^ 64)
      · rw [if_pos hl] at hp'
        exact .inl ⟨i, j, rfl, rfl, hl, Post.here (v := .int (i * j)) hp' s .int⟩
      · rw [if_neg hl] at hp'; exact hp'.elim
    | _ => exact hp.elim
  | tup xs =>
    cases dy with
    | int k =>
      cases rx with
      | @tup _ a vs hq rs =>
        cases ry
        have hp' : Post X.K (okV X.K) E m H Q (if xs ≠ [] ∧ 2 ≤ k ∧ k ≤ 1000 ∧ xs.length ≤ 1000 then .ok (.tup (List.replicate k.toNat xs).flatten) st else .fail) := hp
        by_cases hl : xs ≠ [] ∧ 2 ≤ k ∧ k ≤ 1000 ∧ xs.length ≤ 1000
        · rw [if_pos hl] at hp'
          refine .inr ⟨a, k, vs, rfl, rfl, hq, fun e => hl.1 ?_, hl.2.1, hl.2.2.1, by rw [← rs.length]; exact hl.2.2.2, fun p h => new_tup hp' s (rs.rep k.toNat) h⟩
          have := rs.length
          rw [e] at this
          exact List.eq_nil_of_length_eq_zero this
        · rw [if_neg hl] at hp'; exact hp'.elim
    | _ => exact hp.elim
  | _ => exact hp.elim⟩
end
def eChain (f g : D → D → Sto → R D) (a b c : EM) : EM := fun env st => (a env st).bind fun x st => (b env st).bind fun y st => (f x y st).bind fun k st => match k with
  | .bl true => (c env st).bind fun z st => g y z st
  | .bl false => .ok (.bl false) st
  | _ => .fail
section
variable {X : Cx} {W : WX} {a b c : Expr} {ga gb gc : EM} {pos : Pos}
theorem chain_of {r r' : R2} {f g : D → D → Sto → R D}
    (hf : ∀ (E : XK) (m : Pl) (H : Hp) (st : Sto) (dx dy : D) (x y : V) (Q : VK), SR X.K H m st → RV X.K H m dx x → RV X.K H m dy y → Post X.K (okV X.K) E m H Q (f dx dy st) → r x y H Q)
    (hg : ∀ (E : XK) (m : Pl) (H : Hp) (st : Sto) (dx dy : D) (x y : V) (Q : VK), SR X.K H m st → RV X.K H m dx x → RV X.K H m dy y → Post X.K (okV X.K) E m H Q (g dx dy st) → r' x y H Q)
    {σ : L2.St} {H : Hp} {Q : VK} (h : rE X.K W (eChain f g ga gb gc) σ H Q) : tChain r r' (rE X.K W ga) (rE X.K W gb) (rE X.K W gc) σ H Q := by
  obtain ⟨env, m, st, hE, hS, hp⟩ := h
  refine ⟨env, m, st, hE, hS, hp.bind fun dx st1 x H1 m1 e1 p1 s1 r1 hp1 => ⟨env, m1, st1, hE.mono e1 p1, s1, hp1.bind fun dy st2 y H2 m2 e2 p2 s2 r2 hp2 => ?_⟩⟩
  refine hf _ m2 H2 st2 dx dy x y _ s2 (r1.mono e2 p2) r2 (hp2.bind fun dk st3 z H3 m3 e3 p3 s3 r3 hp3 => ?_)
  cases dk with
  | bl k =>
    cases r3
    refine ⟨k, rfl, ?_⟩
    cases k with
    | false => exact iteF (Post.here (v := .bl false) hp3 s3 .bl)
    | true =>
      refine iteT ⟨env, m3, st3, ((hE.mono e1 p1).mono e2 p2).mono e3 p3, s3, Post.bind (f := fun z st => g dy z st) hp3 fun dz st4 w H4 m4 e4 p4 s4 r4 hp4 => ?_⟩
      exact hg _ m4 H4 st4 dy dz y w Q s4 ((r2.mono e3 p3).mono e4 p4) r4 hp4
  | _ => exact hp3.elim
theorem e_chain {op op' : CmpOp} {f g : D → D → Sto → R D} (ho : OpF X (compareOp op) f) (ho' : OpF X (compareOp op') g) (ha : PE X a (rE X.K W ga)) (hb : PE X b (rE X.K W gb)) (hc : PE X c (rE X.K W gc))
    (hm : lastMarks [op, op'] [b, c] = false := by with_unfolding_all rfl) : PE X (.Compare a [op, op'] [b, c] pos) (rE X.K W (eChain f g ga gb gc)) := by
  obtain ⟨r, h1, h2⟩ := ho
  obtain ⟨r', h1', h2'⟩ := ho'
  exact (pe_chain h1 h1' ha hb hc hm).imp fun σ H Q h => chain_of h2 h2' h
theorem t_chain {op op' : CmpOp} {f g : D → D → Sto → R D} (ho : OpF X (compareOp op) f) (ho' : OpF X (compareOp op') g) (ha : PE X a (rE X.K W ga)) (hb : PE X b (rE X.K W gb)) (hc : PE X c (rE X.K W gc))
    (hm : lastMarks [op, op'] [b, c] = false := by with_unfolding_all rfl) : PT X (.Compare a [op, op'] [b, c] pos) (rT X.K W (tOf (eChain f g ga gb gc))) := by
  obtain ⟨r, h1, h2⟩ := ho
  obtain ⟨r', h1', h2'⟩ := ho'
  exact (pt_chain h1 h1' ha hb hc hm).imp fun σ H Q h => chain_of h2 h2' (test_of h)
end
end U
set_option Elab.async false
set_option linter.all false
set_option maxRecDepth 100000
set_option maxHeartbeats 4000000
namespace U
open PySem PySem.Spec PyProof.Rows L2

def seqOf (st : Sto) (d : D) : Option (List D) := match d with
  | .tup xs => some xs
  | .ref n => lstOf st n
  | _ => none
theorem seqOf_sq {K : PySem.W.Frag} {H : Hp} {m : Pl} {st : Sto} (s : SR K H m st) {d : D} {v : V} {xs : List D} (r : RV K H m d v) (h : seqOf st d = some xs) : ∃ a vs, v = .ref a ∧ (SqL K H a vs ∨ SqT K H a vs) ∧ RVs K H m xs vs := by
  cases d with
  | tup ys =>
    cases h
    cases r with
    | tup hq rs => exact ⟨_, _, rfl, .inr hq, rs⟩
  | ref n =>
    cases r with
    | ref hn =>
      obtain ⟨vs, hq, rs⟩ := s.sqL hn h
      exact ⟨_, vs, rfl, .inl hq, rs⟩
  | _ => cases h
def fLen (ds : List D) (st : Sto) : R D := match ds with
  | [.str x] => if x.length ≤ most then .ok (.int x.length) st else .fail
  | [d] => match seqOf st d with
    | some xs => .ok (.int xs.length) st
    | none => .fail
  | _ => .fail
theorem len_read {K : PySem.W.Frag} : CallF K (fun xs H Q => ∃ x n, xs = [x] ∧ LenV K x H n ∧ Q (.int n) H) fLen := fun E m H st ds vs Q s r hp => by
  unfold fLen at hp
  split at hp
  · rename_i x
    cases r with
    | cons r1 r2 =>
      cases r2
      cases r1
      split at hp
      · rename_i hl
        exact ⟨.str x, x.length, rfl, ⟨most_le hl, rfl⟩, Post.here (v := .int x.length) hp s .int⟩
      · exact hp.elim
  · rename_i d hd
    cases r with
    | cons r1 r2 =>
      cases r2
      split at hp
      · rename_i xs q
        obtain ⟨a, vs, rfl, hq, rs⟩ := seqOf_sq s r1 q
        refine ⟨.ref a, vs.length, rfl, ?_, ?_⟩
        · rcases hq with hq | hq
          · exact .inl ⟨vs, hq, rfl⟩
          · exact .inr ⟨vs, hq, rfl⟩
        · rw [← rs.length]
          exact Post.here (v := .int xs.length) hp s .int
      · exact hp.elim
  · exact hp.elim
def tyD (st : Sto) : D → Option String
  | .non => some "NoneType"
  | .bl _ => some "bool"
  | .int _ => some "int"
  | .str _ => some "str"
  | .tup _ => some "tuple"
  | .ref n => match st[n]? with
    | some (.lst _) => some "list"
    | some (.rol _) => some "list"
    | _ => none
def isiT (a b : String) : Bool := a == b || (a == "bool" && b == "int")
def kinds : List String := ["NoneType", "bool", "int", "str", "tuple", "list"]
def askd : List String := ["int", "bool", "str", "tuple", "list"]
theorem isi_tab : ∀ a ∈ kinds, ∀ b ∈ askd, kitB a b = some (isiT a b) := by decide +kernel
theorem tyD_mem {st : Sto} {d : D} {T : String} (h : tyD st d = some T) : T ∈ kinds := by
  cases d with
  | ref n =>
    unfold tyD at h
    simp only at h
    split at h
    · cases h; decide
    · cases h; decide
    · cases h
  | _ => cases h; decide
theorem tyD_ty {K : PySem.W.Frag} {H : Hp} {m : Pl} {st : Sto} (s : SR K H m st) {d : D} {v : V} {T : String} (r : RV K H m d v) (h : tyD st d = some T) : TyX K H v (.type T) := by
  cases d with
  | non => cases r; cases h; exact .base .non
  | bl b => cases r; cases h; exact .base (.bl b)
  | int i => cases r; cases h; exact .base (.int i)
  | str x => cases r; cases h; exact .base (.str x)
  | tup xs =>
    cases h
    cases r with
    | tup hq rs =>
      rcases hq with (hq | ⟨o, hq⟩) | ⟨o, its, n, hk, hc, _⟩
      · exact .base (.tup hq)
      · exact .fTuple hq
      · exact .kTuple hk hc
  | ref n =>
    cases r with
    | ref hn =>
      unfold tyD at h
      simp only at h
      split at h
      · rename_i xs q
        cases h
        obtain ⟨vs, e, _⟩ := s.ob _ _ _ hn q
        exact .base (.lst e)
      · rename_i xs q
        cases h
        obtain ⟨o, vs, e, _⟩ := s.ob _ _ _ hn q
        exact .base (.frz e)
      · cases h
def dIsi (T : String) (d : D) (st : Sto) : R D := match tyD st d with
  | some a => .ok (.bl (isiT a T)) st
  | none => .fail
section
variable {X : Cx} {W : WX} {a b c : Expr} {ga gb gc : EM} {es : List Expr} {gs : AM} {pos p p2 : Pos}
theorem e_isi (T : String) {x : Str} (hm : X.mg "isinstance" = none) (hmT : X.mg x = none) (ha : PE X a (rE X.K W ga)) (hvT : bootBuiltins x = some (.type T) := by decide +kernel) (hT : T ∈ askd := by decide) (hg : Gl X "isinstance" := by rfl) (hgT : Gl X x := by rfl) (hn : x ≠ "__name__" := by decide) (hd : (x == ("__debug__" : Str)) = false := by decide)
    (h1 : starEach [a, .Name x p2] X.env = (false, eval a X.env) :: starEach [.Name x p2] X.env := by rfl) (h2 : starEach [.Name x p2] X.env = (false, eval (.Name x p2) X.env) :: starEach [] X.env := by rfl) (hpl : (backTo pos (starEach [.Name x p2] X.env)).any (·.1) = false := by rfl) :
    PE X (.Call (.Name "isinstance" p) [a, .Name x p2] [] pos) (rE X.K W (eUn (dIsi T) ga)) :=
  (pe_callB call_isi hg hm boot_isinstance (pa_cons ha (pa_cons (pe_bltn (v := .ty T) hgT hmT hvT rfl hn hd) pa_nil h2) h1) (by decide) (by decide) h1 hpl).imp fun σ H Q ⟨env, m, st, hE, hS, hp⟩ => by
    refine ⟨env, m, st, hE, hS, hp.bind fun d st1 v H1 m1 e1 p1 s1 r1 hp1 => ?_⟩
    unfold dIsi at hp1
    split at hp1
    · rename_i k q
      exact ⟨v, .ty T, .type k, .type T, isiT k T, rfl, .ty T, tyD_ty s1 r1 q, kit_ty (isi_tab k (tyD_mem q) T hT), Post.here (v := .bl _) hp1 s1 .bl⟩
    · exact hp1.elim
theorem e_len {x : Str} (hm : X.mg "len" = none) (ha : PE X a (rE X.K W ga)) (hg : Gl X "len" := by rfl) (he : starEach [a] X.env = (false, eval a X.env) :: starEach [] X.env := by rfl) (hpl : (backTo pos (starEach [] X.env)).any (·.1) = false := by rfl) :
    PE X (.Call (.Name "len" p) [a] [] pos) (rE X.K W (eFn fLen (aCons ga aNil))) := e_callB (call_len) len_read hm PySem.boot_len (a_cons ha a_nil he) hg (by decide) (by decide) he hpl
def bools : List D → Option (List Bool)
  | [] => some []
  | .bl b :: r => (bools r).map (b :: ·)
  | _ :: _ => none
theorem bools_rv {K : PySem.W.Frag} {H : Hp} {m : Pl} : ∀ {xs : List D} {vs : List V} {bs : List Bool}, RVs K H m xs vs → bools xs = some bs → vs = bs.map V.bl
  | [], _, _, r, h => by cases r; cases h; rfl
  | .bl b :: xs, _, bs, r, h => by
    cases r with
    | cons r1 r2 =>
      cases r1
      obtain ⟨cs, e, rfl⟩ := Option.map_eq_some_iff.mp (show (bools xs).map (b :: ·) = some bs from h)
      rw [bools_rv r2 e]
      rfl
  | .non :: _, _, _, _, h => by cases h
  | .int _ :: _, _, _, _, h => by cases h
  | .str _ :: _, _, _, _, h => by cases h
  | .tup _ :: _, _, _, _, h => by cases h
  | .ref _ :: _, _, _, _, h => by cases h
def fAA (f : List Bool → Bool) (ds : List D) (st : Sto) : R D := match ds with
  | [.ref n] => match lstOf st n with
    | some xs => match bools xs with
      | some bs => .ok (.bl (f bs)) st
      | none => .fail
    | none => .fail
  | _ => .fail
theorem aa_read {K : PySem.W.Frag} {f : List Bool → Bool} : CallF K (fun vs H Q => ∃ (a : Addr) (bs : List Bool), vs = [V.ref a] ∧ SqL K H a (bs.map V.bl) ∧ Q (.bl (f bs)) H) (fAA f) := fun E m H st ds vs Q s r hp => by
  unfold fAA at hp
  split at hp
  · rename_i n
    cases r with
    | cons r1 r2 =>
      cases r2
      cases r1 with
      | @ref _ a hn =>
        split at hp
        · rename_i xs q
          split at hp
          · rename_i bs q2
            obtain ⟨ws, hq, rs⟩ := s.sqL hn q
            rw [bools_rv rs q2] at hq
            exact ⟨a, bs, rfl, hq, Post.here (v := .bl _) hp s .bl⟩
          · exact hp.elim
        · exact hp.elim
  · exact hp.elim
theorem e_all (hc : X.calm = true) (hm : X.mg "all" = none) (ha : PE X a (rE X.K W ga)) (hg : Gl X "all" := by rfl) (he : starEach [a] X.env = (false, eval a X.env) :: starEach [] X.env := by rfl) (hpl : (backTo pos (starEach [] X.env)).any (·.1) = false := by rfl) :
    PE X (.Call (.Name "all" p) [a] [] pos) (rE X.K W (eFn (fAA fun bs => bs.all id) (aCons ga aNil))) := e_callB (cr_all hc) aa_read hm PyProof.Rows.boot_all (a_cons ha a_nil he) hg (by decide) (by decide) he hpl
theorem e_any (hc : X.calm = true) (hm : X.mg "any" = none) (ha : PE X a (rE X.K W ga)) (hg : Gl X "any" := by rfl) (he : starEach [a] X.env = (false, eval a X.env) :: starEach [] X.env := by rfl) (hpl : (backTo pos (starEach [] X.env)).any (·.1) = false := by rfl) :
    PE X (.Call (.Name "any" p) [a] [] pos) (rE X.K W (eFn (fAA fun bs => bs.any id) (aCons ga aNil))) := e_callB (cr_any hc) aa_read hm PyProof.Rows.boot_any (a_cons ha a_nil he) hg (by decide) (by decide) he hpl
def fTup (ds : List D) (st : Sto) : R D := match ds with
  | [d] => match seqOf st d with
    | some xs => .ok (.tup xs) st
    | none => .fail
  | _ => .fail
def fList (ds : List D) (st : Sto) : R D := match ds with
  | [d] => match seqOf st d with
    | some xs => .ok (.ref st.length) (st ++ [.lst xs])
    | none => .fail
  | _ => .fail
theorem tup_read {K : PySem.W.Frag} : CallF K (fun xs H Q => ∃ p ys, xs = [.ref p] ∧ ((SqL K H p ys ∧ ∀ l, H l = none → Q (.ref l) (upd H l (.tup ys))) ∨ (SqT K H p ys ∧ Q (.ref p) H))) fTup := fun E m H st ds vs Q s r hp => by
  unfold fTup at hp
  split at hp
  · rename_i d
    cases r with
    | cons r1 r2 =>
      cases r2
      split at hp
      · rename_i xs q
        obtain ⟨a, vs, rfl, hq, rs⟩ := seqOf_sq s r1 q
        refine ⟨a, vs, rfl, ?_⟩
        rcases hq with hq | hq
        · exact .inl ⟨hq, fun l h => new_tup hp s rs h⟩
        · exact .inr ⟨hq, Post.here (v := .ref a) hp s (.tup hq rs)⟩
      · exact hp.elim
  · exact hp.elim
theorem list_read {K : PySem.W.Frag} : CallF K (fun xs H Q => ∃ p ys, xs = [.ref p] ∧ (SqL K H p ys ∨ SqT K H p ys) ∧ ∀ l, H l = none → Q (.ref l) (upd H l (.lst ys))) fList := fun E m H st ds vs Q s r hp => by
  unfold fList at hp
  split at hp
  · rename_i d
    cases r with
    | cons r1 r2 =>
      cases r2
      split at hp
      · rename_i xs q
        obtain ⟨a, vs, rfl, hq, rs⟩ := seqOf_sq s r1 q
        exact ⟨a, vs, rfl, hq, fun l h => new_lst hp s rs h⟩
      · exact hp.elim
  · exact hp.elim
theorem e_tuple (hm : X.mg "tuple" = none) (ha : PE X a (rE X.K W ga)) (hg : Gl X "tuple" := by rfl) (he : starEach [a] X.env = (false, eval a X.env) :: starEach [] X.env := by rfl) (hpl : (backTo pos (starEach [] X.env)).any (·.1) = false := by rfl) :
    PE X (.Call (.Name "tuple" p) [a] [] pos) (rE X.K W (eFn fTup (aCons ga aNil))) := e_callTy call_tuple_of tup_read hm PyProof.Rows.boot_tuple (a_cons ha a_nil he) hg (by decide) (by decide) he hpl
theorem e_list (hm : X.mg "list" = none) (ha : PE X a (rE X.K W ga)) (hg : Gl X "list" := by rfl) (he : starEach [a] X.env = (false, eval a X.env) :: starEach [] X.env := by rfl) (hpl : (backTo pos (starEach [] X.env)).any (·.1) = false := by rfl) :
    PE X (.Call (.Name "list" p) [a] [] pos) (rE X.K W (eFn fList (aCons ga aNil))) := e_callTy call_list_of list_read hm PyProof.Rows.boot_list (a_cons ha a_nil he) hg (by decide) (by decide) he hpl
def fAbs (ds : List D) (st : Sto) : R D := match ds with
  | [.int i] => .ok (.int (if i < 0 then -i else i)) st
  | _ => .fail
def fI2 (f : Int → Int → Int) (ds : List D) (st : Sto) : R D := match ds with
  | [.int i, .int j] => .ok (.int (f i j)) st
  | _ => .fail
theorem abs_read {K : PySem.W.Frag} : CallF K (fun xs H Q => ∃ i, xs = [.int i] ∧ Q (.int (if i < 0 then -i else i)) H) fAbs := fun E m H st ds vs Q s r hp => by
  unfold fAbs at hp
  split at hp
  · cases r with
    | cons r1 r2 => cases r2; cases r1; exact ⟨_, rfl, Post.here (v := .int _) hp s .int⟩
  · exact hp.elim
theorem i2_read {K : PySem.W.Frag} {f : Int → Int → Int} : CallF K (fun xs H Q => ∃ i j, xs = [.int i, .int j] ∧ Q (.int (f i j)) H) (fI2 f) := fun E m H st ds vs Q s r hp => by
  unfold fI2 at hp
  split at hp
  · cases r with
    | cons r1 r2 =>
      cases r2 with
      | cons r3 r4 => cases r4; cases r1; cases r3; exact ⟨_, _, rfl, Post.here (v := .int _) hp s .int⟩
  · exact hp.elim
theorem e_abs (hm : X.mg "abs" = none) (ha : PE X a (rE X.K W ga)) (hg : Gl X "abs" := by rfl) (he : starEach [a] X.env = (false, eval a X.env) :: starEach [] X.env := by rfl) (hpl : (backTo pos (starEach [] X.env)).any (·.1) = false := by rfl) :
    PE X (.Call (.Name "abs" p) [a] [] pos) (rE X.K W (eFn fAbs (aCons ga aNil))) := e_callB call_abs abs_read hm boot_abs (a_cons ha a_nil he) hg (by decide) (by decide) he hpl
abbrev iMax : Int → Int → Int := fun i j => if j > i then j else i
abbrev iMin : Int → Int → Int := fun i j => if j < i then j else i
theorem e_max2 (hc : X.calm = true) (hm : X.mg "max" = none) (ha : PE X a (rE X.K W ga)) (hb : PE X b (rE X.K W gb)) (hg : Gl X "max" := by rfl) (he : starEach [a, b] X.env = (false, eval a X.env) :: starEach [b] X.env := by rfl)
    (he2 : starEach [b] X.env = (false, eval b X.env) :: starEach [] X.env := by rfl) (hpl : (backTo pos (starEach [b] X.env)).any (·.1) = false := by rfl) :
    PE X (.Call (.Name "max" p) [a, b] [] pos) (rE X.K W (eFn (fI2 iMax) (aCons ga (aCons gb aNil)))) := e_callB (call_max2 hc) i2_read hm PyProof.Rows.boot_max (a_cons ha (a_cons hb a_nil he2) he) hg (by decide) (by decide) he hpl
theorem e_min2 (hc : X.calm = true) (hm : X.mg "min" = none) (ha : PE X a (rE X.K W ga)) (hb : PE X b (rE X.K W gb)) (hg : Gl X "min" := by rfl) (he : starEach [a, b] X.env = (false, eval a X.env) :: starEach [b] X.env := by rfl)
    (he2 : starEach [b] X.env = (false, eval b X.env) :: starEach [] X.env := by rfl) (hpl : (backTo pos (starEach [b] X.env)).any (·.1) = false := by rfl) :
    PE X (.Call (.Name "min" p) [a, b] [] pos) (rE X.K W (eFn (fI2 iMin) (aCons ga (aCons gb aNil)))) := e_callB (call_min2 hc) i2_read hm PyProof.Rows.boot_min (a_cons ha (a_cons hb a_nil he2) he) hg (by decide) (by decide) he hpl
def dNeg (d : D) (st : Sto) : R D := match d with
  | .int i => .ok (.int (-i)) st
  | _ => .fail
theorem e_neg (ha : PE X a (rE X.K W ga)) : PE X (.UnaryOp .USub a pos) (rE X.K W (eUn dNeg ga)) := (pe_un un_neg ha).imp fun σ H Q ⟨env, m, st, hE, hS, hp⟩ => by
  refine ⟨env, m, st, hE, hS, hp.bind fun d st1 v H1 m1 e1 p1 s1 r1 hp1 => ?_⟩
  cases d with
  | int i => cases r1; exact ⟨i, rfl, Post.here (v := .int (-i)) hp1 s1 .int⟩
  | _ => exact hp1.elim
def dIx (x y : D) (st : Sto) : R D := match seqOf st x, y with
  | some xs, .int i => match atI xs i with
    | some d => .ok d st
    | none => .fail
  | _, _ => .fail
theorem atI_rv {K : PySem.W.Frag} {H : Hp} {m : Pl} {xs : List D} {vs : List V} {i : Int} {d : D} (r : RVs K H m xs vs) (h : atI xs i = some d) : ∃ v, atI vs i = some v ∧ RV K H m d v := by
  unfold atI at h ⊢
  rw [← r.length]
  cases q : ixN xs.length i with
  | none => rw [q] at h; cases h
  | some j =>
    rw [q] at h
    exact r.get h
theorem e_ix (ha : PE X a (rE X.K W ga)) (hb : PE X b (rE X.K W gb)) (hs : PlainIx b := by exact fun _ _ => rfl) : PE X (.Subscript a b pos) (rE X.K W (eBin dIx ga gb)) := (pe_ix ix_seq ha hb hs).imp fun σ H Q h => bin_of (fun E m H st dx dy x y Q s rx ry hp => by
  unfold dIx at hp
  split at hp
  · rename_i xs i q
    split at hp
    · rename_i d q2
      obtain ⟨p, vs, rfl, hq, rs⟩ := seqOf_sq s rx q
      cases ry
      obtain ⟨v, e, rv⟩ := atI_rv rs q2
      have fin := Post.here (v := v) hp s rv
      rcases hq with hq | hq
      · exact .inl ⟨p, vs, i, v, rfl, rfl, hq, e, fin⟩
      · exact .inr (.inl ⟨p, vs, i, v, rfl, rfl, hq, e, fin⟩)
    · exact hp.elim
  · exact hp.elim) h
def cutD (xs : List D) (lo hi : Option Int) : List D := (xs.drop (HT.sIx xs.length 0 lo)).take (HT.sIx xs.length xs.length hi - HT.sIx xs.length 0 lo)
theorem cutD_rv {K : PySem.W.Frag} {H : Hp} {m : Pl} {xs : List D} {vs : List V} (r : RVs K H m xs vs) (lo hi : Option Int) : RVs K H m (cutD xs lo hi) (cutV vs lo hi) := by
  unfold cutD cutV
  rw [← r.length]
  exact (r.drop _).take _
def oM := Ev → Sto → R (Option Int)
def oNone : oM := fun _ st => .ok none st
def oSome (g : EM) : oM := fun env st => (g env st).bind fun d st => match d with
  | .int i => .ok (some i) st
  | _ => .fail
abbrev okO : Hp → Pl → Option Int → Option Int → Prop := fun _ _ b c => b = c
def rO (K : PySem.W.Frag) (W : WX) (g : oM) : TO := fun σ H Q => ∃ env m st, RE K H m env σ ∧ SR K H m st ∧ Post K okO (WE W σ) m H Q (g env st)
theorem _root_.L2.PO.imp {X : Cx} {e : Option Expr} {t t' : TO} (h : PO X e t) (i : ∀ σ H Q, t' σ H Q → t σ H Q) : PO X e t' := ⟨fun pins s σ H Q I q => h.run pins s σ H Q I (i _ _ _ q)⟩
theorem p_none : PO X none (rO X.K W oNone) := po_none.imp fun σ H Q ⟨env, m, st, hE, hS, hp⟩ => Post.here (v := none) hp hS rfl
theorem p_some (ha : PE X a (rE X.K W ga)) : PO X (some a) (rO X.K W (oSome ga)) := (po_some ha).imp fun σ H Q ⟨env, m, st, hE, hS, hp⟩ => by
  refine ⟨env, m, st, hE, hS, hp.bind fun d st1 v H1 m1 e1 p1 s1 r1 hp1 => ?_⟩
  cases d with
  | int i => cases r1; exact ⟨i, rfl, Post.here (v := some i) hp1 s1 rfl⟩
  | _ => exact hp1.elim
def sliceD (d : D) (lo hi : Option Int) (st : Sto) : R D := match d with
  | .tup xs => .ok (.tup (cutD xs lo hi)) st
  | .ref n => match lstOf st n with
    | some xs => .ok (.ref st.length) (st ++ [.lst (cutD xs lo hi)])
    | none => .fail
  | _ => .fail
def eSlice (g : EM) (lo hi : oM) : EM := fun env st => (g env st).bind fun d st => (lo env st).bind fun l st => (hi env st).bind fun h st => sliceD d l h st
theorem whole_cut {xs : List D} {lo hi : Option Int} (h : HT.sIx xs.length 0 lo = 0 ∧ HT.sIx xs.length xs.length hi = xs.length) : cutD xs lo hi = xs := by
  unfold cutD
  rw [h.1, h.2]
  simp
theorem e_slice {lo hi : Option Expr} {gl gh : oM} (ha : PE X a (rE X.K W ga)) (hl : PO X lo (rO X.K W gl)) (hh : PO X hi (rO X.K W gh)) : PE X (.Subscript a (.Slice lo hi none p2) pos) (rE X.K W (eSlice ga gl gh)) :=
  (pe_slice (sl_tupA.or sl_list) ha hl hh).imp fun σ H Q ⟨env, m, st, hE, hS, hp⟩ => by
  refine ⟨env, m, st, hE, hS, hp.bind fun d st1 v H1 m1 e1 p1 s1 r1 hp1 => ⟨env, m1, st1, hE.mono e1 p1, s1, hp1.bind fun l st2 l' H2 m2 e2 p2 s2 r2 hp2 => ⟨env, m2, st2, (hE.mono e1 p1).mono e2 p2, s2, hp2.bind fun h st3 h' H3 m3 e3 p3 s3 r3 hp3 => ?_⟩⟩⟩
  cases (show l = l' from r2)
  cases (show h = h' from r3)
  have r := (r1.mono e2 p2).mono e3 p3
  cases d with
  | tup xs =>
    cases r with
    | @tup _ a vs hq rs =>
      refine .inl ⟨a, vs, rfl, hq, fun hw => ?_, fun _ p hp => new_tup hp3 s3 (cutD_rv rs l h) hp⟩
      rw [← rs.length] at hw
      have hp4 : Post X.K (okV X.K) (WE W σ) m3 H3 Q (.ok (.tup (cutD xs l h)) st3) := hp3
      rw [whole_cut hw] at hp4
      exact Post.here (v := .ref a) hp4 s3 (.tup hq rs)
  | ref n =>
    cases r with
    | @ref _ a hn =>
      have hp4 : Post X.K (okV X.K) (WE W σ) m3 H3 Q (match lstOf st3 n with | some xs => .ok (.ref st3.length) (st3 ++ [.lst (cutD xs l h)]) | none => .fail) := hp3
      cases q : lstOf st3 n with
      | none => rw [q] at hp4; exact hp4.elim
      | some xs =>
        rw [q] at hp4
        obtain ⟨vs, hq, rs⟩ := s3.sqL hn q
        exact .inr ⟨a, vs, rfl, hq, fun p hp => new_lst hp4 s3 (cutD_rv rs l h) hp⟩
  | _ => exact hp3.elim
end
end U
set_option Elab.async false
set_option linter.all false
set_option maxRecDepth 100000
set_option maxHeartbeats 4000000
namespace U
open PySem PySem.Spec PyProof.Rows L2

def isLst (x : D) (st : Sto) : Bool := match x with
  | .ref n => (lstOf st n).isSome
  | _ => false
def eMtL (f : D → List D → Sto → R D) (ga : EM) (gs : AM) : EM := fun env st => (ga env st).bind fun x st => if isLst x st = true then (gs env st).bind fun xs st => f x xs st else .fail
def eMtL0 (f : D → List D → Sto → R D) (ga : EM) : EM := fun env st => (ga env st).bind fun x st => if isLst x st = true then f x [] st else .fail
def MtF (K : PySem.W.Frag) (r : V → List V → Hp → VK → Prop) (f : D → List D → Sto → R D) : Prop :=
  ∀ (E : XK) (m : Pl) (H : Hp) (st : Sto) (dx : D) (ds : List D) (x : V) (vs : List V) (Q : VK), SR K H m st → RV K H m dx x → RVs K H m ds vs → Post K (okV K) E m H Q (f dx ds st) → r x vs H Q
theorem isLst_ty {K : PySem.W.Frag} {H : Hp} {m : Pl} {st : Sto} {d : D} {v : V} (s : SR K H m st) (r : RV K H m d v) (h : isLst d st = true) : tyV K "list" v H := by
  cases d with
  | ref n =>
    cases r with
    | ref hn =>
      cases q : lstOf st n with
      | none => simp [isLst, q] at h
      | some xs =>
        obtain ⟨vs, hq, _⟩ := s.sqL hn q
        exact .inl ⟨rfl, vs, hq⟩
  | _ => cases h
section
variable {X : Cx} {W : WX} {a b c : Expr} {ga gb gc : EM} {es : List Expr} {gs : AM} {pos p p2 apos : Pos}
theorem e_mtL {name : Str} {id : String} {r : V → List V → Hp → VK → Prop} {f : D → List D → Sto → R D} (slot : Slot "list" name id) (hty : typeOf (.builtin id) = pure (.type "method_descriptor")) (hm : MtR X id r) (hf : MtF X.K r f) (ha : PE X a (rE X.K W ga)) (hb : PA X (b :: es) (rA X.K W gs))
    (hbase : attributeBase a name X.env (eval a X.env) = eval a X.env := by rfl)
    (hfew : ((backTo pos (starEach (b :: es) X.env)).all (fun x => !x.1) && (backToKw pos (keywordEach [] X.env)).all (fun x => x.1.isSome) && decide ((b :: es).length + ([] : List Keyword).length + (if ([] : List Keyword).isEmpty then 0 else 1) < 30)) = true := by rfl)
    (hline : (apos.endLine == pos.line) = true := by rfl) (hs : starEach (b :: es) X.env = (false, eval b X.env) :: starEach es X.env := by rfl) (hplain : (backTo pos (starEach es X.env)).any (·.1) = false := by rfl) :
    PE X (.Call (.Attribute a name apos) (b :: es) [] pos) (rE X.K W (eMtL f ga gs)) :=
  (pe_bm PySem.F.plainAttrs_list slot hty hm ha hb hbase hfew hline hs hplain).imp fun σ H Q ⟨env, m, st, hE, hS, hp⟩ => by
  refine ⟨env, m, st, hE, hS, hp.bind fun d st1 v H1 m1 e1 p1 s1 r1 hp1 => ?_⟩
  split at hp1
  · rename_i hl
    exact ⟨isLst_ty s1 r1 hl, env, m1, st1, hE.mono e1 p1, s1, hp1.bind fun ds st2 vs H2 m2 e2 p2 s2 r2 hp2 => hf _ m2 H2 st2 d ds v vs Q s2 (r1.mono e2 p2) r2 hp2⟩
  · exact hp1.elim
theorem e_mtL0 {name : Str} {id : String} {r : V → List V → Hp → VK → Prop} {f : D → List D → Sto → R D} (slot : Slot "list" name id) (hty : typeOf (.builtin id) = pure (.type "method_descriptor")) (hm : MtR X id r) (hf : MtF X.K r f) (ha : PE X a (rE X.K W ga))
    (hbase : attributeBase a name X.env (eval a X.env) = eval a X.env := by rfl) (hline : (apos.endLine == pos.line) = true := by rfl) :
    PE X (.Call (.Attribute a name apos) [] [] pos) (rE X.K W (eMtL0 f ga)) :=
  (pe_bm0 PySem.F.plainAttrs_list slot hty hm ha hbase hline).imp fun σ H Q ⟨env, m, st, hE, hS, hp⟩ => by
  refine ⟨env, m, st, hE, hS, hp.bind fun d st1 v H1 m1 e1 p1 s1 r1 hp1 => ?_⟩
  split at hp1
  · rename_i hl
    exact ⟨isLst_ty s1 r1 hl, hf _ m1 H1 st1 d [] v [] Q s1 r1 .nil hp1⟩
  · exact hp1.elim
def mAppend (x : D) (xs : List D) (st : Sto) : R D := match x, xs with
  | .ref n, [d] => match st[n]? with
    | some (.lst ys) => if ys.length < most then .ok .non (st.set n (.lst (ys ++ [d]))) else .fail
    | _ => .fail
  | _, _ => .fail
theorem write_lst {K : PySem.W.Frag} {E : XK} {m : Pl} {H : Hp} {st : Sto} {n : Nat} {p : Addr} {ys : List D} {vs ws : List V} {Q : VK} (s : SR K H m st) (hn : m[n]? = some p) {zs : List D} (h0 : st[n]? = some (.lst zs)) (e : H p = some (.lst vs)) (r : RVs K H m ys ws)
    (hp : Post K (okV K) E m H Q (.ok .non (st.set n (.lst ys)))) : Q .non (upd H p (.lst ws)) := by
  have ew : Ext H (upd H p (.lst ws)) := .write e (fun _ z => by cases z) (fun _ _ z => by cases z)
  exact hp .non _ m ew (List.prefix_refl m) (s.write (ob := .lst ys) hn h0 rfl e (fun _ z => by cases z) (fun _ _ z => by cases z) ⟨ws, upd_same, r.mono ew (List.prefix_refl m)⟩) .non
theorem append_read {K : PySem.W.Frag} : MtF K rAppend mAppend := fun E m H st dx ds x vs Q s rx rs hp => by
  unfold mAppend at hp
  split at hp
  · rename_i n d
    cases rx with
    | @ref _ a hn =>
      cases rs with
      | cons r1 r2 =>
        cases r2
        split at hp
        · rename_i ys q
          obtain ⟨ws, e, rw'⟩ := s.ob _ _ _ hn q
          split at hp
          · rename_i hl
            exact ⟨a, ws, _, rfl, rfl, e, by rw [← rw'.length]; exact most_lt hl, write_lst s hn q e (rw'.append (.one r1)) hp⟩
          · exact hp.elim
        · exact hp.elim
  · exact hp.elim
theorem e_append (ha : PE X a (rE X.K W ga)) (hb : PE X b (rE X.K W gb)) (hbase : attributeBase a "append" X.env (eval a X.env) = eval a X.env := by rfl)
    (hfew : ((backTo pos (starEach [b] X.env)).all (fun x => !x.1) && (backToKw pos (keywordEach [] X.env)).all (fun x => x.1.isSome) && decide ([b].length + ([] : List Keyword).length + (if ([] : List Keyword).isEmpty then 0 else 1) < 30)) = true := by rfl)
    (hline : (apos.endLine == pos.line) = true := by rfl) (hs : starEach [b] X.env = (false, eval b X.env) :: starEach [] X.env := by rfl) (hplain : (backTo pos (starEach [] X.env)).any (·.1) = false := by rfl) :
    PE X (.Call (.Attribute a "append" apos) [b] [] pos) (rE X.K W (eMtL mAppend ga (aCons gb aNil))) :=
  e_mtL PySem.F.slot_list_append PySem.F.type_list_append mt_append append_read ha (a_cons hb a_nil hs) hbase hfew hline hs hplain
def gSet (ga gb : EM) : D → Ev → Sto → Option (Ev × Sto) := fun d env st => match (ga env st).bind fun x st => (gb env st).bind fun y st => (match x, y with
    | .ref n, .int i => (match st[n]? with
      | some (.lst xs) => (match ixN xs.length i with
        | some j => .ok .non (st.set n (.lst (xs.set j d)))
        | none => .fail)
      | _ => .fail)
    | _, _ => .fail : R D) with
  | .ok _ st => some (env, st)
  | _ => none
theorem g_sub (ha : PE X a (rE X.K W ga)) (hb : PE X b (rE X.K W gb))
    (hasg : ∀ v, assign (.Subscript a b pos) X.env v = (do
      let ov ← holding [v] (eval a X.env)
      let iv ← holding [v, ov] (eval b X.env)
      standAt pos
      holding [v, ov, iv] (setItem ov iv v)
      release [v, ov, iv] []) := by intro _; rfl) : PG X (.Subscript a b pos) (rG X.K (gSet ga gb)) := (pg_sub ha hb set_list hasg).imp fun v σ H Q ⟨d, env, m, st, r, hE, hS, hp⟩ => by
  unfold gSet at hp
  refine ⟨env, m, st, hE, hS, ?_⟩
  cases q : ga env st with
  | fail => rw [q] at hp; exact hp.elim
  | err cc fs st1 => rw [q] at hp; exact hp.elim
  | ok x st1 =>
    rw [q] at hp
    intro vx H1 m1 e1 p1 s1 r1
    refine ⟨env, m1, st1, hE.mono e1 p1, s1, ?_⟩
    simp only [R.bind] at hp
    cases q2 : gb env st1 with
    | fail => rw [q2] at hp; exact hp.elim
    | err cc fs st2 => rw [q2] at hp; exact hp.elim
    | ok y st2 =>
      rw [q2] at hp
      intro vy H2 m2 e2 p2 s2 r2
      have rx := r1.mono e2 p2
      have rd := (r.mono e1 p1).mono e2 p2
      simp only at hp
      cases x with
      | ref n =>
        cases rx with
        | @ref _ ad hn =>
          cases y with
          | int i =>
            cases r2
            simp only at hp
            cases q3 : st2[n]? with
            | none => rw [q3] at hp; exact hp.elim
            | some o =>
              rw [q3] at hp
              cases o with
              | lst xs =>
                simp only at hp
                obtain ⟨ws, e, rw'⟩ := s2.ob _ _ _ hn q3
                cases q4 : ixN xs.length i with
                | none => rw [q4] at hp; exact hp.elim
                | some j =>
                  rw [q4] at hp
                  refine ⟨ad, ws, i, j, rfl, rfl, e, by rw [← rw'.length]; exact q4, ?_⟩
                  have ew : Ext H2 (upd H2 ad (.lst (ws.set j v))) := .write e (fun _ z => by cases z) (fun _ _ z => by cases z)
                  exact hp σ _ m2 ((e1.trans e2).trans ew) (p1.trans p2) (s2.write (ob := .lst (xs.set j d)) hn q3 rfl e (fun _ z => by cases z) (fun _ _ z => by cases z) ⟨_, upd_same, (rw'.set rd j).mono ew (List.prefix_refl _)⟩) (((hE.mono e1 p1).mono e2 p2).mono ew (List.prefix_refl _))
              | _ => exact hp.elim
          | _ => exact hp.elim
      | _ => exact hp.elim

def lookF (f : Str) : List (Str × D) → Option D
  | [] => none
  | (g, x) :: r => if g = f then some x else lookF f r
def putD (f : Str) (v : D) : List (Str × D) → List (Str × D)
  | [] => [(f, v)]
  | (g, x) :: r => if g = f then (g, v) :: r else (g, x) :: putD f v r
theorem look_rv {K : PySem.W.Frag} {H : Hp} {m : Pl} {f : Str} {d : D} : ∀ {fs : List (Str × D)} {vfs : List (Str × V)}, vfs.map (·.1) = fs.map (·.1) → RVs K H m (fs.map (·.2)) (vfs.map (·.2)) → lookF f fs = some d → ∃ v, vfs.lookup f = some v ∧ RV K H m d v
  | [], _, _, _, h => by cases h
  | (g, x) :: r, [], e, _, _ => by cases e
  | (g, x) :: r, (g', y) :: r', e, rs, h => by
    simp only [List.map_cons, List.cons.injEq] at e
    obtain ⟨e1, e2⟩ := e
    subst e1
    cases rs with
    | cons r1 r2 =>
      unfold lookF at h
      by_cases hg : g' = f
      · rw [if_pos hg] at h
        cases h
        subst hg
        exact ⟨y, by simp [List.lookup], r1⟩
      · rw [if_neg hg] at h
        obtain ⟨v, h1, h2⟩ := look_rv e2 r2 h
        refine ⟨v, ?_, h2⟩
        rw [List.lookup_cons, show (f == g') = false from beq_eq_false_iff_ne.mpr (Ne.symm hg)]
        exact h1
theorem put_rv {K : PySem.W.Frag} {H : Hp} {m : Pl} {f : Str} {d : D} {v : V} (rv : RV K H m d v) : ∀ {fs : List (Str × D)} {vfs : List (Str × V)}, vfs.map (·.1) = fs.map (·.1) → RVs K H m (fs.map (·.2)) (vfs.map (·.2)) →
    (putF f v vfs).map (·.1) = (putD f d fs).map (·.1) ∧ RVs K H m ((putD f d fs).map (·.2)) ((putF f v vfs).map (·.2))
  | [], [], _, _ => ⟨rfl, .one rv⟩
  | [], _ :: _, e, _ => by cases e
  | (g, x) :: r, [], e, _ => by cases e
  | (g, x) :: r, (g', y) :: r', e, rs => by
    simp only [List.map_cons, List.cons.injEq] at e
    obtain ⟨e1, e2⟩ := e
    subst e1
    cases rs with
    | cons r1 r2 =>
      unfold putF putD
      by_cases hg : g' = f
      · rw [if_pos hg, if_pos hg]
        exact ⟨by simp [e2], .cons rv r2⟩
      · rw [if_neg hg, if_neg hg]
        obtain ⟨h1, h2⟩ := put_rv (f := f) rv e2 r2
        exact ⟨by simp [h1], .cons r1 h2⟩
def dFld (c f : Str) (d : D) (st : Sto) : R D := match d with
  | .ref n => match st[n]? with
    | some (.ins c' fs) => if c' = c then (match lookF f fs with
      | some x => .ok x st
      | none => .fail) else .fail
    | _ => .fail
  | _ => .fail
theorem e_fld (c f : Str) (hc : Cls X.K (He.ga X.K c)) (hn : NoAttr X.K (He.ga X.K c) f) (ha : PE X a (rE X.K W ga)) (hb : attributeBase a f X.env (eval a X.env) = eval a X.env := by rfl) : PE X (.Attribute a f pos) (rE X.K W (eUn (dFld c f) ga)) :=
  (pe_fld ha hb).imp fun σ H Q ⟨env, m, st, hE, hS, hp⟩ => by
  refine ⟨env, m, st, hE, hS, hp.bind fun d st1 v H1 m1 e1 p1 s1 r1 hp1 => ?_⟩
  unfold dFld at hp1
  split at hp1
  · rename_i n
    cases r1 with
    | @ref _ ad hn' =>
      split at hp1
      · rename_i c' fs q
        by_cases hcc : c' = c
        · rw [if_pos hcc] at hp1
          subst hcc
          split at hp1
          · rename_i x q2
            obtain ⟨dx, vfs, h1, h2, h3, _⟩ := s1.ob _ _ _ hn' q
            obtain ⟨w, l, rw'⟩ := look_rv h2 h3 q2
            exact ⟨ad, _, dx, vfs, w, rfl, h1, hc, hn, l, Post.here (v := w) hp1 s1 rw'⟩
          · exact hp1.elim
        · rw [if_neg hcc] at hp1; exact hp1.elim
      · exact hp1.elim
  · exact hp1.elim
def setFld (c f : Str) (x d : D) (env : Ev) (st : Sto) : RS := match x with
  | .ref n => match st[n]? with
    | some (.ins c' fs) => if c' = c ∧ fs.length < 400 then .nx env (st.set n (.ins c (putD f d fs))) else .fail
    | _ => .fail
  | _ => .fail
def sFldM (c f : Str) (ga gv : EM) : SM := fun env st => (gv env st).then env fun d st => (ga env st).then env fun x st => setFld c f x d env st
theorem putD_len (f : Str) (d : D) : ∀ fs : List (Str × D), (putD f d fs).length ≤ fs.length + 1
  | [] => Nat.le_refl _
  | (g, x) :: r => by
    unfold putD
    split
    · simp
    · simp only [List.length_cons]
      have := putD_len f d r
      omega
theorem s_fld (c f : Str) {p' : Pos} (hc : Cls X.K (He.ga X.K c)) (hn : NoAttr X.K (He.ga X.K c) f) (ha : PE X a (rE X.K W ga)) (hb : PE X b (rE X.K W gb)) (hs : swapsWith b (some (.Attribute a f p')) pos.line X.env = pure false := by rfl) :
    PS X (.Assign [.Attribute a f p'] b pos) (rS X.K W (sFldM c f ga gb)) := (ps_fld ha hb hs).imp fun D σ H ⟨env, m, st, hE, hS, hp⟩ => by
  refine ⟨env, m, st, hE, hS, PostS.bind hE hp fun d st1 v H1 m1 e1 p1 s1 r1 hp1 => ⟨env, m1, st1, hE.mono e1 p1, s1, PostS.bind (hE.mono e1 p1) hp1 fun x st2 vx H2 m2 e2 p2 s2 r2 hp2 => ?_⟩⟩
  unfold setFld at hp2
  split at hp2
  · rename_i n
    cases r2 with
    | @ref _ ad hn' =>
      split at hp2
      · rename_i c' fs q
        by_cases hcc : c' = c ∧ fs.length < 400
        · rw [if_pos hcc] at hp2
          obtain ⟨hc1, hl⟩ := hcc
          subst hc1
          obtain ⟨dx, vfs, h1, h2, h3, h4⟩ := s2.ob _ _ _ hn' q
          have hv : vfs.length = fs.length := by
            have := congrArg List.length h2
            simpa using this
          refine ⟨ad, _, dx, vfs, rfl, h1, hc, hn, by omega, ?_⟩
          have ew : Ext H2 (upd H2 ad (.ins (He.ga X.K c') dx (putF f v vfs))) := .write h1 (fun _ z => by cases z) (fun _ _ z => by cases z)
          obtain ⟨g1, g2⟩ := put_rv (f := f) (r1.mono e2 p2) h2 h3
          refine hp2 σ _ m2 ew (List.prefix_refl _) (s2.write (ob := .ins c' (putD f d fs)) hn' q rfl h1 (fun _ z => by cases z) (fun _ _ z => by cases z) ⟨dx, _, upd_same, g1, g2.mono ew (List.prefix_refl _), ?_⟩) (((hE.mono e1 p1).mono e2 p2).mono ew (List.prefix_refl _))
          have := putD_len f d fs
          omega
        · rw [if_neg hcc] at hp2; exact hp2.elim
      · exact hp2.elim
  · exact hp2.elim
structure Mkr (P : Program) (w : World) (K : PySem.W.Frag) (mg : Str → Option Value) (base : Heap) (k : Nat) (c : Str) (n : Nat) (f : Fm) : Prop where
  ex : ∃ (fa : Addr) (fd : FuncData) (ps : List Str), FnOk P w K mg base (L2.CX P w) k fa fd ps (spF K (n + 1) f) ∧ mg c = some (.ref (He.ga K c)) ∧ Mk K (He.ga K c) fa ∧ Binds K fd ps []
  ar : Arity (n + 1) f
def mkIns (c : Str) (f : Fm) : Fm := fun ds st => (f (.ref st.length :: ds) (st ++ [.ins c []])).bind fun d st' => match d with
  | .non => .ok (.ref st.length) st'
  | _ => .fail
theorem e_make {E : XK} {k n : Nat} {cn : Str} {f : Fm} (F : Mkr X.prog X.w X.K X.mg X.base k cn n f) (tk : Takes X (WK E)) (hr : Room (k + 1) X.A) (ha : PA X (a :: es) (rA X.K (WK E) gs)) (hg : Gl X cn := by rfl)
    (hdb : (cn == ("__debug__" : Str)) = false := by decide) (he : starEach (a :: es) X.env = (false, eval a X.env) :: starEach es X.env := by rfl) (hpl : (backTo pos (starEach es X.env)).any (·.1) = false := by rfl) :
    PE X (.Call (.Name cn p) (a :: es) [] pos) (rE X.K (WK E) (eFn (mkIns cn f) gs)) := by
  obtain ⟨fa, fd, ps, ok, hm, hM, hb⟩ := F.ex
  refine (pe_make hM ok hr hg hm hb .nil (passes_call tk fun _ _ _ _ h => h) ha hdb he hpl).imp fun σ H Q ⟨env, m, st, hE, hS, hp⟩ => ?_
  refine ⟨env, m, st, hE, hS, hp.bind fun ds st1 vs H1 m1 e1 p1 s1 r1 hp1 => ?_⟩
  intro x dx nx ndx ne
  have n1 : (upd H1 dx (.own x)) x = none := by rw [upd_ne (Ne.symm ne)]; exact nx
  have sA : SR X.K (upd H1 dx (.own x)) m1 st1 := s1.tup ndx
  have sB : SR X.K (upd (upd H1 dx (.own x)) x (.ins (He.ga X.K cn) dx [])) (m1 ++ [x]) (st1 ++ [.ins cn []]) := sA.new (ob := .ins cn []) n1 ⟨dx, [], upd_same, rfl, .nil, by decide⟩
  have eB : Ext H1 (upd (upd H1 dx (.own x)) x (.ins (He.ga X.K cn) dx [])) := (Ext.new ndx).trans (.new n1)
  have pB : m1 <+: m1 ++ [x] := List.prefix_append _ _
  have hx : (m1 ++ [x])[st1.length]? = some x := by rw [← s1.len]; simp
  rw [List.append_nil]
  refine spF_of F.ar sB (.cons (.ref hx) (r1.mono eB pB)) ?_
  have hp2 : Post X.K (okV X.K) E m1 H1 Q ((f (.ref st1.length :: ds) (st1 ++ [.ins cn []])).bind fun d st' => match d with
    | .non => .ok (.ref st1.length) st'
    | _ => .fail) := hp1
  exact (Post.up hp2 eB pB).bind fun d st2 v H2 m2 e2 p2 s2 r2 hp3 => by
    cases d with
    | non => cases r2; exact ⟨rfl, Post.here (v := .ref x) hp3 s2 (.ref (pre_get p2 hx))⟩
    | _ => exact hp3.elim
end
end U
set_option Elab.async false
set_option linter.all false
set_option maxRecDepth 100000
set_option maxHeartbeats 4000000
namespace U
section
open PySem
open Sem (wp)
open AutoSeq1 (wpAny_loadPart')
abbrev tupIt (l : Addr) : Obj := { cls := .type "tuple_iterator", data := .fields #[.ref l, .int 0 0] }
abbrev enumO (i : Addr) : Obj := { cls := .type "enumerate", data := .fields #[.none, .bool false, .ref i, rawInt 0, .none, .none] }
theorem newT (l : Addr) (items : Array Value) (n : Nat) (dct : Option Addr) (sl : Array (Option Value)) :
    Meets (Builtin.«enumerate.__new__» ⟨[.type "enumerate", .ref l], []⟩) (fun _ Rr s => s.heap.get? l = some { cls := .type "tuple", dict := dct, data := .seq items n, slots := sl } ∧
      Rr (.ok (.ret (.ref (s.heap.push (tupIt l)).objs.size))) { s with heap := (s.heap.push (tupIt l)).push (enumO s.heap.objs.size) }) :=
  .of_wp fun prog w A Rr s h => by
    obtain ⟨hp, g, d, tk, os⟩ := s
    obtain ⟨hl, h⟩ := h
    have hsub := sub_enumerate
    have hT : Heap.IsTuple (Shared.heap ⟨hp, g, d, tk, os⟩) l items := ⟨_, hl, rfl, n, rfl⟩
    wp_walk using wpAny_loadPart' hl
    refine wpAny_stack_any fun st => wpAny_pure ?_
    split
    · rename_i c _ _ _ _ _
      cases (c == Value.type "enumerate")
      · wp_walk using wpAny_loadPart' hl, wpAny_pyIter_tuple hT
        exact ⟨_, rfl, h⟩
      · wp_walk using wpAny_loadPart' hl, wpAny_pyIter_tuple hT
        exact ⟨_, rfl, h⟩
    · wp_walk using wpAny_loadPart' hl, wpAny_pyIter_tuple hT
      exact ⟨_, rfl, h⟩
theorem call_enumT {prog : Program} {w : World} {A : Around} {E : Value → Shared → Prop} {s : Shared} {l : Addr} {items : Array Value} {Q : Value → Shared → Prop} (hT : s.heap.IsTuple l items)
    (h : ∀ h' : Heap, PySem.IsEnum h' (s.heap.objs.size + 1) s.heap.objs.size 0 .none → h'.IsTupleIter s.heap.objs.size l 0 → h'.objs.size = s.heap.objs.size + 2 → (∀ b o, s.heap.get? b = some o → h'.get? b = some o) → Q (.ref (s.heap.objs.size + 1)) { s with heap := h' }) :
    wpAny (model prog w) A (call (.type "enumerate") [.ref l]) Q E s := by
  obtain ⟨⟨c, dct, dt, sl⟩, hl, hc, n, hd⟩ := hT
  obtain rfl : c = .type "tuple" := hc
  obtain rfl : dt = .seq items n := hd
  refine callType_new F.called_enumerate (by decide) (F.typeCall_enumerate_1 _) (F.newCall_enumerate_1 _) (fun obj => F.args_object_init_2 obj _) F.entry_enumerate_new (newT l items n dct sl) ⟨hl, ?_⟩
  have hz : (s.heap.push (tupIt l)).objs.size = s.heap.objs.size + 1 := Heap.size_push ..
  have he : PySem.IsEnum ((s.heap.push (tupIt l)).push (enumO s.heap.objs.size)) (s.heap.objs.size + 1) s.heap.objs.size 0 .none := by
    have q := Heap.get?_push_size (s.heap.push (tupIt l)) (o := enumO s.heap.objs.size) rfl
    rw [hz] at q
    exact q
  show _ ∧ _
  rw [hz]
  exact ⟨⟨_, he, rfl⟩, h _ he ⟨_, Heap.get?_push_of_some _ (Heap.get?_push_size _ rfl), rfl, rfl⟩ (by rw [Heap.size_push, hz]) fun b o x => Heap.get?_push_of_some _ (Heap.get?_push_of_some _ x)⟩
theorem end_enumT {prog : Program} {w : World} {A : Around} {E : Value → Shared → Prop} {s : Shared} {e it t : Addr} {k : Nat} {items : Array Value} {old : Value} {Q : Option Value → Shared → Prop} (hh : A.in1.handled = none) (he : PySem.IsEnum s.heap e it k old)
    (hit : s.heap.IsTupleIter it t k) (ht : s.heap.IsTuple t items) (hx : items[k]? = none) (hQ : ∀ h', Heap.ExtBut it s.heap h' → Q none { s with heap := h' }) : wpAny (model prog w) A (pyNext (.ref e)) Q E s := by
  have tyE : s.TypeIs (.ref e) "enumerate" := ⟨_, he, rfl⟩
  unfold pyNext; refine wpAny_bind (wpAny_attempt (wpAny_callSpecial?_slot (name := Str.ofString "__next__") tyE F.slot_enumerate_next (wpAny_call_entry F.slot_enumerate_next tyE F.entry_enumerate_next ?_ (F.args_enumerate_next_1 _))))
  show wpAny _ _ (field (.ref e) 2 >>= _) _ _ s; refine wpAny_bind (wpAny_field he rfl (x := .ref it) rfl (wpAny_bind (wpAny_nextOf_tuple_end hh hit ht hx fun h2 x2 ext2 st2 => ?_)))
  obtain ⟨o2, g2, c2⟩ := st2
  exact wpAny_bind (wpAny_isInstance (T := "StopIteration") (b := true) ⟨o2, g2, c2⟩ isSubtype_stop (wpAny_pure (hQ _ ext2)))
end
open PySem PySem.Spec PyProof.Rows L2
def IteT (K : PySem.W.Frag) (a : Addr) : It where
  go := fun i H => ∃ (xs : List V) (x : V), SqT K H a xs ∧ xs[i]? = some x
  yld := fun i H v H' => ∃ T x, v = .ref T ∧ H T = none ∧ H' = upd H T (.tup [.int (i : Nat), x]) ∧ ∀ xs, SqT K H a xs → xs[i]? = some x
  stop := fun i H => ∃ xs : List V, SqT K H a xs ∧ xs.length ≤ i
theorem turn_enumT {P : Program} {w : World} {K : PySem.W.Frag} {elts : List Expr} {kk : Nat} {tpos : Pos} (a e it : Addr) :
    Turn P w K (.Tuple elts kk tpos) (IteT K a) [e, it] e (fun i h => (∃ old, PySem.IsEnum h e it ((i : Nat) : Int) old) ∧ h.IsTupleIter it a i ∧ e ≠ it ∧ a ≠ it ∧ e ≠ a) where
  mem := by simp
  obj := fun i h st b hb => by
    obtain ⟨⟨old, he⟩, ⟨o, ho, hc, hd⟩, _⟩ := st
    rcases (show b = e ∨ b = it by simpa using hb) with z | z
    · rw [z]; exact ⟨_, he, fun v q => nomatch q⟩
    · rw [z]; exact ⟨o, ho, fun v q => by rw [hd] at q; cases q⟩
  keep := fun i h h' st k => by
    obtain ⟨⟨old, he⟩, hi, hr⟩ := st
    exact ⟨⟨old, k e (by simp) _ he⟩, hi.at fun o q => k it (by simp) o q, hr⟩
  item := by
    intro X hP hw hK hc i pins s σ H E I hf st hg
    subst hP hw hK
    obtain ⟨⟨old, he⟩, hit, hne, hai, hea⟩ := st
    obtain ⟨xs, x, hq, hx⟩ := hg
    obtain ⟨its, rv, pT, hz⟩ := I.tuple hq
    obtain ⟨u, hu, ru⟩ := rv.get hx
    have hel : e < s.heap.objs.size := Heap.lt_size he
    have hil : it < s.heap.objs.size := by obtain ⟨_, q, _⟩ := hit; exact Heap.lt_size q
    have hpT : s.heap.IsTuple a its.toArray := pT
    have hlt : i < its.toArray.size := by
      obtain ⟨q, _⟩ := List.getElem?_eq_some_iff.mp hu
      simpa using q
    refine wpAny_pyNext_enum_itemD (Draws.tuple (A := X.A.in1) (show X.A.in1.handled = none from I.ok.hd hc) it a hai its.toArray) he ⟨hit, hpT⟩ hlt hne (by simp [hne, hea]) fun x' h' tk hP ho hst' hT hsz hk => ?_
    have ex' : x' = u := by
      have q1 : its.toArray[i]? = some x' := hP
      have q2 : its.toArray[i]? = some u := by simpa using hu
      rw [q2] at q1
      exact (Option.some.inj q1).symm
    subst ex'
    refine ⟨_, rfl, wpAny_letOwnedTupleGo_enum (s := { s with heap := h', toks := tk + 1 }) ho fun h2 he2 sb => ?_⟩
    have hT2 : h2.get? s.heap.objs.size = some { cls := .type "tuple", data := .seq #[.int i tk, x'] } := (sb.2 _ (Nat.ne_of_gt hel)).trans hT
    have new : ObjOk X.prog X.w (upd H s.heap.objs.size (.tup [.int (i : Nat), x])) h2 s.heap.objs.size (.tup [.int (i : Nat), x]) :=
      ⟨by show 2 ≤ sizeLine; decide, [.int i tk, x'], .cons ⟨_, rfl⟩ (.cons ru .nil), ⟨_, hT2, rfl, _, rfl⟩⟩
    have I1 : Inv X pins σ (upd H s.heap.objs.size (.tup [.int (i : Nat), x])) { s with heap := h2, toks := tk + 1 } :=
      I.turnedNew (ch := [e, it]) (fun b ob hb q => (sb.2 b (fun z => hb (by simp [z]))).trans (hk b ob (fun z => hb (by simp [z])) (fun z => hb (by simp [z])) q)) hf (Nat.le_refl _) new
    refine ⟨.ref s.heap.objs.size, _, I1, rfl, ⟨_, x, rfl, I.hok.fresh (Nat.le_refl _), rfl, fun ys hy => by rw [I.tuple_inj hy hq]; exact hx⟩, ⟨⟨x', ?_⟩, hst'.1.at fun o q => (sb.2 it (Ne.symm hne)).trans q, hne, hai, hea⟩, fun b hb => ?_⟩
    · rw [show ((i + 1 : Nat) : Int) = (i : Int) + 1 by omega]; exact he2
    · have hb' : b < s.heap.objs.size := by
        rcases (show b = e ∨ b = it by simpa using hb) with z | z
        · rw [z]; exact hel
        · rw [z]; exact hil
      rw [upd_ne (Nat.ne_of_lt hb')]
      exact (hf b hb).1
  done := by
    intro X hP hw hK hc i pins s σ H E I hf st hg
    subst hP hw hK
    obtain ⟨⟨old, he⟩, hit, hne, hai, hea⟩ := st
    obtain ⟨xs, hq, hx⟩ := hg
    obtain ⟨its, rv, pT, hz⟩ := I.tuple hq
    obtain ⟨f0, f1, f2, f3, f4, f5⟩ := hf it (by simp)
    have hl := rv.length
    exact end_enumT (show X.A.in1.handled = none from I.ok.hd hc) he hit (show s.heap.IsTuple a its.toArray from pT) (by simp; omega) fun h' eb => ⟨rfl, I.turned (t' := s.toks) (fun b o hb q => eb b o hb q) f0 f1 f3 f4 f5⟩
  self := fun A i s Q E st h => by
    obtain ⟨⟨_, he⟩, _⟩ := st
    exact wpAny_pyIter_enum he h
def iEnT (K : PySem.W.Frag) (ta : TA) : TI := fun σ H Rr => ta σ H fun vs H1 => ∃ a xs, vs = [.ref a] ∧ SqT K H1 a xs ∧ Rr (IteT K a) H1
theorem pi_enumT {X : Cx} {e : Expr} {ta : TA} {p pos tpos : Pos} {elts : List Expr} {kk : Nat} (hg : Gl X "enumerate") (hm : X.mg "enumerate" = none) (ha : PA X [e] ta) (hs : starEach [e] X.env = [(false, eval e X.env)]) :
    PI X (.Tuple elts kk tpos) (.Call (.Name "enumerate" p) [e] [] pos) (iEnT X.K ta) := by
  refine ⟨fun pins s σ H Rr I h => ?_⟩
  refine Call_ (ld_blt I hg hm boot_enumerate (PyProof.Rows.callWith_type1 (thn (ha.run pos pins s σ H _ I h) fun us s1 ⟨vs, H1, I1, r1, q1⟩ => ?_) hs rfl))
  obtain ⟨a, xs, ex, hq, q⟩ := q1
  subst ex
  obtain ⟨u0, rfl, r0⟩ := vals1 r1
  cases (show u0 = Value.ref a from r0)
  obtain ⟨its, rv, pT, hz⟩ := I1.tuple hq
  have aLt : a < s1.heap.objs.size := by
    obtain ⟨o, ho, _⟩ := pT
    exact Heap.lt_size ho
  refine call_enumT (show s1.heap.IsTuple a its.toArray from pT) fun h' he hit hsz hk => wpAny_pyIter_enum he ?_
  refine ⟨s1.heap.objs.size + 1, [s1.heap.objs.size + 1, s1.heap.objs.size], _, _, H1, rfl, I1.kept (h' := h') (t' := s1.toks) hk, turn_enumT a (s1.heap.objs.size + 1) s1.heap.objs.size, ⟨⟨.none, he⟩, hit, Nat.succ_ne_self _, Nat.ne_of_lt aLt, Nat.ne_of_gt (Nat.lt_succ_of_lt aLt)⟩, fun b hb => ?_, q⟩
  have hle : s1.heap.objs.size ≤ b := by
    rcases (show b = s1.heap.objs.size + 1 ∨ b = s1.heap.objs.size by simpa using hb) with z | z
    · rw [z]; exact Nat.le_succ _
    · rw [z]; exact Nat.le_refl _
  exact I1.fpOk hle (I1.hok.fresh hle)
theorem enum_get : ∀ {k : Nat} {xs : List D} {i : Nat} {d : D}, (enumFrom k xs)[i]? = some d → ∃ x, xs[i]? = some x ∧ d = .tup [.int ((k + i : Nat) : Int), x]
  | _, [], _, _, h => by simp [enumFrom] at h
  | k, x :: xs, 0, d, h => by
    simp [enumFrom] at h
    exact ⟨x, rfl, by rw [← h]; simp⟩
  | k, x :: xs, i + 1, d, h => by
    have h2 : (enumFrom (k + 1) xs)[i]? = some d := by simpa [enumFrom] using h
    obtain ⟨y, h3, h4⟩ := enum_get h2
    exact ⟨y, by simpa using h3, by rw [h4, show k + 1 + i = k + (i + 1) by omega]⟩
theorem enum_len : ∀ (k : Nat) (xs : List D), (enumFrom k xs).length = xs.length
  | _, [] => rfl
  | k, _ :: xs => by simp [enumFrom, enum_len (k + 1) xs]
theorem new_enum {K : PySem.W.Frag} {H : Hp} {m : Pl} {st : Sto} (s : SR K H m st) {T : Addr} (nT : H T = none) {i : Nat} {x : D} {vx : V} (rx : RV K H m x vx) :
    Ext H (upd H T (.tup [.int (i : Nat), vx])) ∧ SR K (upd H T (.tup [.int (i : Nat), vx])) m st ∧ RV K (upd H T (.tup [.int (i : Nat), vx])) m (.tup [.int ((0 + i : Nat) : Int), x]) (.ref T) :=
  ⟨.new nT, s.tup nT, .tup (.of upd_same) (.cons (by rw [Nat.zero_add]; exact .int) (.cons (rx.mono (.new nT) (List.prefix_refl m)) .nil))⟩
theorem okI_enumT {K : PySem.W.Frag} {H0 : Hp} {m0 : Pl} {p : Addr} {xs : List D} {vs : List V} (hq : SqT K H0 p vs) (r : RVs K H0 m0 xs vs) : okI K H0 m0 (.fix (enumFrom 0 xs)) (IteT K p) := fun i H m st ys e pr s h => by
  cases (show some (enumFrom 0 xs) = some ys from h)
  have hq' := e.sqT hq
  refine ⟨fun hn => ⟨vs, hq', none_len (by rw [enum_len]; exact r.length) hn⟩, fun d hd => ?_⟩
  obtain ⟨x, hx, rfl⟩ := enum_get hd
  obtain ⟨v, hv, rv⟩ := (r.mono e pr).get hx
  refine ⟨⟨vs, v, hq', hv⟩, fun z H' yl => ?_⟩
  obtain ⟨T, x', rfl, nT, rfl, f1⟩ := yl
  have a1 := f1 vs hq'
  rw [hv] at a1
  cases a1
  exact new_enum s nT rv
theorem okI_enumL {K : PySem.W.Frag} {H0 : Hp} {m0 : Pl} {p : Addr} {n : Nat} (hn : m0[n]? = some p) : okI K H0 m0 (.enumL n) (Ite K p) := fun i H m st ys e pr s h => by
  have h' : (lstOf st n).map (enumFrom 0) = some ys := h
  obtain ⟨xs, hl, rfl⟩ := Option.map_eq_some_iff.mp h'
  obtain ⟨vs, hq, r⟩ := s.sqL (pre_get pr hn) hl
  refine ⟨fun hn => ⟨vs, hq, none_len (by rw [enum_len]; exact r.length) hn⟩, fun d hd => ?_⟩
  obtain ⟨x, hx, rfl⟩ := enum_get hd
  obtain ⟨v, hv, rv⟩ := r.get hx
  refine ⟨⟨vs, v, hq, hv⟩, fun z H' yl => ?_⟩
  obtain ⟨T, x', rfl, nT, rfl, f1⟩ := yl
  have a1 := f1 vs hq
  rw [hv] at a1
  cases a1
  exact new_enum s nT rv
def enumSrc (d : D) (st : Sto) : R Src := match d with
  | .tup xs => .ok (.fix (enumFrom 0 xs)) st
  | .ref n => match lstOf st n with
    | some _ => .ok (.enumL n) st
    | none => .fail
  | _ => .fail
def iEnum (g : EM) : IM := fun env st => (g env st).bind enumSrc
theorem one_arg {X : Cx} {W : WX} {ga : EM} {σ : L2.St} {H : Hp} {Q : List V → Hp → Prop} (h : rE X.K W ga σ H fun x H1 => Q [x] H1) : tCons (rE X.K W ga) tNil σ H Q := h
theorem i_enum {X : Cx} {W : WX} {a : Expr} {ga : EM} {p pos tpos : Pos} {elts : List Expr} {kk : Nat} (hm : X.mg "enumerate" = none) (ha : PE X a (rE X.K W ga)) (hg : Gl X "enumerate" := by rfl) (hs : starEach [a] X.env = [(false, eval a X.env)] := by rfl)
    (hs2 : starEach [a] X.env = (false, eval a X.env) :: starEach [] X.env := by rfl) : PI X (.Tuple elts kk tpos) (.Call (.Name "enumerate" p) [a] [] pos) (rI X.K W (iEnum ga)) :=
  ((pi_enumT hg hm (pa_cons ha pa_nil hs2) hs).or (pi_enum hg hm (pa_cons ha pa_nil hs2) hs)).imp fun σ H Rr ⟨env, m, st, hE, hS, hp0⟩ => by
  have hp : Post X.K (okI X.K) (WE W σ) m H Rr ((ga env st).bind enumSrc) := hp0
  cases q : ga env st with
  | fail => rw [q] at hp; exact hp.elim
  | err cc fs st' => rw [q] at hp; exact .inl (one_arg ⟨env, m, st, hE, hS, by rw [q]; exact hp⟩)
  | ok d st' =>
    rw [q] at hp
    cases d with
    | tup xs =>
      refine .inl (one_arg ⟨env, m, st, hE, hS, ?_⟩)
      rw [q]
      intro v H1 m1 e1 p1 s1 r1
      cases r1 with
      | @tup _ ad vs hq rs => exact ⟨ad, vs, rfl, hq, hp _ H1 m1 e1 p1 s1 (okI_enumT hq rs)⟩
    | ref n =>
      refine .inr (one_arg ⟨env, m, st, hE, hS, ?_⟩)
      rw [q]
      intro v H1 m1 e1 p1 s1 r1
      cases r1 with
      | @ref _ ad hn =>
        have hp' : Post X.K (okI X.K) (WE W σ) m H Rr (match lstOf st' n with | some _ => .ok (.enumL n) st' | none => .fail) := hp
        cases g : lstOf st' n with
        | none => rw [g] at hp'; exact hp'.elim
        | some xs =>
          rw [g] at hp'
          obtain ⟨vs, hq, _⟩ := s1.sqL hn g
          exact ⟨ad, vs, rfl, hq, hp' _ H1 m1 e1 p1 s1 (okI_enumL hn)⟩
    | _ => exact hp.elim
end U
set_option Elab.async false
set_option linter.all false
set_option maxRecDepth 100000
set_option maxHeartbeats 4000000
namespace U
open PySem PySem.Spec PyProof.Rows L2
theorem binds_all {K : PySem.W.Frag} {x qual : Str} {params : Arguments} {body : List Stmt} {scope : Scope} {dvs : List V} {kws : List (Str × V)} {f : Addr} {fd : FuncData} {ps : List Str} (F : FunD K x qual params body scope dvs kws f fd) (hd : dvs ≠ []) {n : Nat} (hn : n = ps.length)
    (h : ∀ (T : Addr) (kV doc pm : Value) (an : Option Addr) (cdv ct : Value) (us its : List Value), us.length = n → its.length = dvs.length →
      ∃ k, bindArgs (PySem.W.fnOf x qual params body scope (.ref T) kV doc pm an cdv ct) ⟨us, []⟩ = seqItems? (.ref T) >>= k ∧ k (some its.toArray) = pure (ps.zip us)) : Binds K fd ps [] := by
  obtain ⟨ds, hv, hb⟩ := F.binds1 (ps := ps) n dvs.length hd (by omega) fun T kV doc pm an cdv ct us its hu hi => by
    obtain ⟨k, h1, h2⟩ := h T kV doc pm an cdv ct us its hu hi
    refine ⟨k, h1, ?_⟩
    rw [List.drop_eq_nil_of_le (by omega), List.append_nil]
    exact h2
  rw [List.drop_length] at hv
  cases hv
  exact hb
end U
set_option Elab.async false
set_option linter.all false
set_option maxRecDepth 100000
set_option maxHeartbeats 4000000
namespace U
open PySem PySem.Spec PyProof.Rows L2
mutual
def ren (ρ : Nat → Nat) : D → D
  | .tup xs => .tup (rens ρ xs)
  | .ref n => .ref (ρ n)
  | .non => .non
  | .bl b => .bl b
  | .int i => .int i
  | .str x => .str x
def rens (ρ : Nat → Nat) : List D → List D
  | [] => []
  | d :: ds => ren ρ d :: rens ρ ds
end
mutual
def Bnd (n : Nat) : D → Prop
  | .tup xs => Bnds n xs
  | .ref k => k < n
  | .non => True
  | .bl _ => True
  | .int _ => True
  | .str _ => True
def Bnds (n : Nat) : List D → Prop
  | [] => True
  | d :: ds => Bnd n d ∧ Bnds n ds
end
def renO (ρ : Nat → Nat) : Ob → Ob
  | .lst xs => .lst (rens ρ xs)
  | .rol xs => .rol (rens ρ xs)
  | .kst xs => .kst (rens ρ xs)
  | .ins c fs => .ins c (fs.map fun p => (p.1, ren ρ p.2))
  | .dct kvs => .dct (kvs.map fun p => (ren ρ p.1, ren ρ p.2))
def BndO (n : Nat) : Ob → Prop
  | .lst xs => Bnds n xs
  | .rol xs => Bnds n xs
  | .kst xs => Bnds n xs
  | .ins _ fs => Bnds n (fs.map (·.2))
  | .dct kvs => Bnds n (kvs.map (·.1)) ∧ Bnds n (kvs.map (·.2))
section
variable {K : PySem.W.Frag} {H : Hp} {m ms : Pl} {ρ : Nat → Nat} {n : Nat}
mutual
theorem RV.back (hms : ∀ i, i < n → ∀ a, m[ρ i]? = some a → ms[i]? = some a) : ∀ {d : D} {v : V}, Bnd n d → RV K H m (ren ρ d) v → RV K H ms d v
  | .non, _, _, h => by simp only [ren] at h; cases h; exact .non
  | .bl _, _, _, h => by simp only [ren] at h; cases h; exact .bl
  | .int _, _, _, h => by simp only [ren] at h; cases h; exact .int
  | .str _, _, _, h => by simp only [ren] at h; cases h; exact .str
  | .tup xs, _, hb, h => by
    simp only [ren] at h
    simp only [Bnd] at hb
    cases h with
    | tup hq rs => exact .tup hq (RVs.back hms hb rs)
  | .ref k, _, hb, h => by
    simp only [ren] at h
    simp only [Bnd] at hb
    cases h with
    | ref hk => exact .ref (hms k hb _ hk)
theorem RVs.back (hms : ∀ i, i < n → ∀ a, m[ρ i]? = some a → ms[i]? = some a) : ∀ {ds : List D} {vs : List V}, Bnds n ds → RVs K H m (rens ρ ds) vs → RVs K H ms ds vs
  | [], _, _, h => by simp only [rens] at h; cases h; exact .nil
  | d :: ds, _, hb, h => by
    simp only [rens] at h
    simp only [Bnds] at hb
    cases h with
    | cons h1 h2 => exact .cons (RV.back hms hb.1 h1) (RVs.back hms hb.2 h2)
end
theorem rens_map : ∀ (fs : List (Str × D)), (fs.map fun p => (p.1, ren ρ p.2)).map (·.2) = rens ρ (fs.map (·.2))
  | [] => rfl
  | p :: fs => by simp only [List.map_cons, rens]; rw [← rens_map fs]
mutual
theorem keyD_ren : ∀ d : D, keyD (ren ρ d) = keyD d
  | .non => by simp only [ren]
  | .bl _ => by simp only [ren]
  | .int _ => by simp only [ren]
  | .str _ => by simp only [ren]
  | .ref _ => by simp only [ren, keyD]
  | .tup xs => by simp only [ren, keyD]; rw [keysD_ren xs]
theorem keysD_ren : ∀ ds : List D, keysD (rens ρ ds) = keysD ds
  | [] => by simp only [rens]
  | d :: ds => by simp only [rens, keysD]; rw [keyD_ren d, keysD_ren ds]
end
theorem rens_m1 : ∀ (kvs : List (D × D)), (kvs.map fun p => (ren ρ p.1, ren ρ p.2)).map (·.1) = rens ρ (kvs.map (·.1))
  | [] => rfl
  | p :: kvs => by simp only [List.map_cons, rens]; rw [← rens_m1 kvs]
theorem rens_m2 : ∀ (kvs : List (D × D)), (kvs.map fun p => (ren ρ p.1, ren ρ p.2)).map (·.2) = rens ρ (kvs.map (·.2))
  | [] => rfl
  | p :: kvs => by simp only [List.map_cons, rens]; rw [← rens_m2 kvs]
theorem OR.back (hms : ∀ i, i < n → ∀ a, m[ρ i]? = some a → ms[i]? = some a) {a : Addr} {o : Ob} (hb : BndO n o) (h : OR K H m a (renO ρ o)) : OR K H ms a o := by
  cases o with
  | lst xs => obtain ⟨vs, e, r⟩ := h; exact ⟨vs, e, r.back hms hb⟩
  | rol xs => obtain ⟨o, vs, e, r⟩ := h; exact ⟨o, vs, e, r.back hms hb⟩
  | kst xs => obtain ⟨vs, e, r⟩ := h; exact ⟨vs, e, r.back hms hb⟩
  | ins c fs =>
    obtain ⟨dx, vfs, e, e2, r, l⟩ := h
    refine ⟨dx, vfs, e, by rw [e2]; simp, ?_, by simpa using l⟩
    rw [rens_map] at r
    exact r.back hms hb
  | dct kvs =>
    obtain ⟨xs, vs, h⟩ := h
    refine ⟨xs, vs, h.sys, h.at_, h.nd, ?_, h.dep, ?_, ?_, h.vv, by simpa using h.len⟩
    · rw [← h.key, List.map_map]
      apply List.map_congr_left
      intro p _
      exact (keyD_ren p.1).symm
    · have r := h.rk
      rw [rens_m1] at r
      exact r.back hms hb.1
    · have r := h.rv
      rw [rens_m2] at r
      exact r.back hms hb.2
theorem renO_trk (o : Ob) : (renO ρ o).trk = o.trk := by cases o <;> rfl
mutual
theorem RV.bnd : ∀ {d : D} {v : V}, RV K H m d v → Bnd m.length d
  | .non, _, _ => by simp only [Bnd]
  | .bl _, _, _ => by simp only [Bnd]
  | .int _, _, _ => by simp only [Bnd]
  | .str _, _, _ => by simp only [Bnd]
  | .tup xs, _, h => by
    simp only [Bnd]
    cases h with
    | tup hq rs => exact RVs.bnd rs
  | .ref k, _, h => by
    simp only [Bnd]
    cases h with
    | ref hk => exact (List.getElem?_eq_some_iff.mp hk).1
theorem RVs.bnd : ∀ {ds : List D} {vs : List V}, RVs K H m ds vs → Bnds m.length ds
  | [], _, _ => by simp only [Bnds]
  | _ :: _, _, h => by
    simp only [Bnds]
    cases h with
    | cons h1 h2 => exact ⟨RV.bnd h1, RVs.bnd h2⟩
end
theorem OR.bnd {a : Addr} {o : Ob} (h : OR K H m a o) : BndO m.length o := by
  cases o with
  | lst xs => obtain ⟨vs, e, r⟩ := h; exact r.bnd
  | rol xs => obtain ⟨o, vs, e, r⟩ := h; exact r.bnd
  | kst xs => obtain ⟨vs, e, r⟩ := h; exact r.bnd
  | ins c fs => obtain ⟨dx, vfs, e, e2, r, l⟩ := h; exact r.bnd
  | dct kvs => obtain ⟨xs, vs, h⟩ := h; exact ⟨h.rk.bnd, h.rv.bnd⟩
theorem SR.bnd {st : Sto} (s : SR K H m st) {i : Nat} {o : Ob} (h : st[i]? = some o) : BndO st.length o := by
  obtain ⟨a, _, r⟩ := s.at h
  rw [← s.len]
  exact r.bnd
end
structure Fits (st st1 st' : Sto) (ρ : Nat → Nat) : Prop where
  len : st.length ≤ st1.length
  old : ∀ i, i < st.length → ρ i = i
  inj : ∀ i j, i < st1.length → j < st1.length → ρ i = ρ j → i = j
  ob : ∀ i o, st1[i]? = some o → st'[ρ i]? = some (renO ρ o)
def Good (st : Sto) : Prop := ∀ (i : Nat) (o : Ob), st[i]? = some o → BndO st.length o
structure Tells (m s : Fm) : Prop where
  ok : ∀ ds st d st1, Good st → Bnds st.length ds → s ds st = .ok d st1 → Good st1 ∧ Bnd st1.length d ∧ ∃ ρ st', m ds st = .ok (ren ρ d) st' ∧ Fits st st1 st' ρ
  err : ∀ ds st c fs st1, Good st → Bnds st.length ds → s ds st = .err c fs st1 → Good st1 ∧ Bnds st1.length (fs.map (·.2)) ∧ ∃ ρ st', m ds st = .err c (fs.map fun p => (p.1, ren ρ p.2)) st' ∧ Fits st st1 st' ρ
section
variable {K : PySem.W.Frag} {H H' : Hp} {m0 m' : Pl} {st st1 st' : Sto} {ρ : Nat → Nat}
def placed (m' : Pl) (ρ : Nat → Nat) (n : Nat) : Pl := (List.range n).map fun i => m'.getD (ρ i) 0
theorem placed_get (f : Fits st st1 st' ρ) (hl : m'.length = st'.length) {i : Nat} (hi : i < st1.length) : (placed m' ρ st1.length)[i]? = m'[ρ i]? := by
  unfold placed
  rw [List.getElem?_map, List.getElem?_range hi]
  have ho : st1[i]? = some st1[i] := by simp [hi]
  have h2 := f.ob i _ ho
  have h3 : ρ i < m'.length := by rw [hl]; exact (List.getElem?_eq_some_iff.mp h2).1
  simp [List.getD, h3]
theorem placed_ok (f : Fits st st1 st' ρ) (hl : m'.length = st'.length) : ∀ i, i < st1.length → ∀ a, m'[ρ i]? = some a → (placed m' ρ st1.length)[i]? = some a := fun i hi a e => by rw [placed_get f hl hi]; exact e
theorem placed_pre (f : Fits st st1 st' ρ) (hl : m'.length = st'.length) (h0 : m0.length = st.length) (p : m0 <+: m') : m0 <+: placed m' ρ st1.length := by
  have hlen : (placed m' ρ st1.length).length = st1.length := by simp [placed]
  rw [List.prefix_iff_eq_take]
  apply List.ext_getElem?
  intro i
  by_cases hi : i < m0.length
  · have hi1 : i < st1.length := by have := f.len; omega
    rw [List.getElem?_take, if_pos hi, placed_get f hl hi1, f.old i (by omega)]
    have e : m0[i]? = some m0[i] := by simp [hi]
    rw [e, pre_get p e]
  · rw [List.getElem?_eq_none (by omega), List.getElem?_eq_none (by rw [List.length_take]; omega)]
theorem placed_sr (f : Fits st st1 st' ρ) (g : Good st1) (s : SR K H' m' st') : SR K H' (placed m' ρ st1.length) st1 := by
  have back : ∀ {i : Nat} {a : Addr} {o : Ob}, (placed m' ρ st1.length)[i]? = some a → st1[i]? = some o → m'[ρ i]? = some a ∧ st'[ρ i]? = some (renO ρ o) ∧ i < st1.length := fun {i a o} h1 h2 => by
    have hi : i < st1.length := (List.getElem?_eq_some_iff.mp h2).1
    rw [placed_get f s.len hi] at h1
    exact ⟨h1, f.ob i o h2, hi⟩
  refine ⟨by simp [placed], fun i j a oi oj h1 h2 h3 h4 t1 t2 => ?_, fun i a o h1 h2 => ?_⟩
  · obtain ⟨x1, x2, x3⟩ := back h1 h3
    obtain ⟨y1, y2, y3⟩ := back h2 h4
    exact f.inj i j x3 y3 (s.nd _ _ a _ _ x1 y1 x2 y2 (by rw [renO_trk]; exact t1) (by rw [renO_trk]; exact t2))
  · obtain ⟨x1, x2, x3⟩ := back h1 h2
    exact (s.ob _ a _ x1 x2).back (placed_ok f s.len) (g i o h2)
end
theorem SR.good {K : PySem.W.Frag} {H : Hp} {m : Pl} {st : Sto} (s : SR K H m st) : Good st := fun i o h => s.bnd h
theorem spF_tells {K : PySem.W.Frag} {n : Nat} {m s : Fm} (t : Tells m s) {vs : List V} {H : Hp} {Q : VK} {E : XK} (h : spF K n s vs H Q E) : spF K n m vs H Q E := by
  obtain ⟨hl, ds, m0, st, r, sr, hp⟩ := h
  refine ⟨hl, ds, m0, st, r, sr, ?_⟩
  have hb : Bnds st.length ds := by rw [← sr.len]; exact r.bnd
  cases q : s ds st with
  | fail => rw [q] at hp; exact hp.elim
  | ok d st1 =>
    rw [q] at hp
    obtain ⟨g1, b1, ρ, st', e, f⟩ := t.ok ds st d st1 sr.good hb q
    rw [e]
    intro v H' m' x p s' rv
    exact hp v H' _ x (placed_pre f s'.len sr.len p) (placed_sr f g1 s') (rv.back (placed_ok f s'.len) b1)
  | err c fs st1 =>
    rw [q] at hp
    obtain ⟨g1, b1, ρ, st', e, f⟩ := t.err ds st c fs st1 sr.good hb q
    rw [e]
    intro dO H' m' x p s' xr
    refine hp dO H' _ x (placed_pre f s'.len sr.len p) (placed_sr f g1 s') ?_
    rcases xr with ⟨e1, e2⟩ | ⟨dd, vfs, e1, e2, e3, e4⟩
    · exact .inl ⟨by simpa using e1, e2⟩
    · rw [rens_map] at e4
      exact .inr ⟨dd, vfs, e1, e2, by rw [e3]; simp, e4.back (placed_ok f s'.len) b1⟩
theorem Fn.by {P : Program} {w : World} {K : PySem.W.Frag} {mg : Str → Option Value} {base : Heap} {k : Nat} {x : Str} {n : Nat} {m s : Fm} (F : Fn P w K mg base k x n m) (t : Tells m s) (ar : Arity n s) : Fn P w K mg base k x n s := by
  obtain ⟨a, fd, ps, ok, h1, h2, h3⟩ := F.ex
  exact ⟨⟨a, fd, ps, ok.imp fun vs H Q E h => spF_tells t h, h1, h2, h3⟩, ar⟩
theorem Mkr.by {P : Program} {w : World} {K : PySem.W.Frag} {mg : Str → Option Value} {base : Heap} {k : Nat} {x : Str} {n : Nat} {m s : Fm} (F : Mkr P w K mg base k x n m) (t : Tells m s) (ar : Arity (n + 1) s) : Mkr P w K mg base k x n s := by
  obtain ⟨a, fd, ps, ok, h1, h2, h3⟩ := F.ex
  exact ⟨⟨a, fd, ps, ok.imp fun vs H Q E h => spF_tells t h, h1, h2, h3⟩, ar⟩
end U
set_option Elab.async false
set_option linter.all false
set_option maxRecDepth 100000
set_option maxHeartbeats 4000000
namespace U
open PySem PySem.Spec PyProof.Rows L2
mutual
theorem ren_id : ∀ d : D, ren id d = d
  | .tup xs => by simp only [ren]; rw [rens_id xs]
  | .ref n => by simp only [ren, id]
  | .non => by simp only [ren]
  | .bl b => by simp only [ren]
  | .int i => by simp only [ren]
  | .str x => by simp only [ren]
theorem rens_id : ∀ ds : List D, rens id ds = ds
  | [] => by simp only [rens]
  | d :: ds => by simp only [rens]; rw [ren_id d, rens_id ds]
end
theorem renO_id (o : Ob) : renO id o = o := by
  cases o with
  | lst xs => simp only [renO, rens_id]
  | rol xs => simp only [renO, rens_id]
  | kst xs => simp only [renO, rens_id]
  | ins c fs =>
    simp only [renO]
    congr 1
    induction fs with
    | nil => rfl
    | cons p fs ih => rw [List.map_cons, ren_id, ih]
  | dct kvs =>
    simp only [renO]
    congr 1
    induction kvs with
    | nil => rfl
    | cons p kvs ih => rw [List.map_cons, ren_id, ren_id, ih]
def obs (n : Nat) (f : List D → Sto → Option D) : Fm := fun ds st => if ds.length = n then (match f ds st with
  | some d => .ok d st
  | none => .fail) else .fail
theorem obs_ar {n : Nat} {f : List D → Sto → Option D} : Arity n (obs n f) := fun ds st h => if_neg h
theorem obs_ok {n : Nat} {f : List D → Sto → Option D} {ds : List D} {st : Sto} {d : D} (hl : ds.length = n) (h : f ds st = some d) : obs n f ds st = .ok d st := by
  unfold obs
  rw [if_pos hl, h]
theorem obs_inv {n : Nat} {f : List D → Sto → Option D} {ds : List D} {st st1 : Sto} {d : D} (h : obs n f ds st = .ok d st1) : ds.length = n ∧ f ds st = some d ∧ st1 = st := by
  unfold obs at h
  split at h
  · rename_i hl
    split at h
    · rename_i d' q
      cases h
      exact ⟨hl, q, rfl⟩
    · cases h
  · cases h
theorem obs_noerr {n : Nat} {f : List D → Sto → Option D} {ds : List D} {st st1 : Sto} {c : Str} {fs : List (Str × D)} (h : obs n f ds st = .err c fs st1) : False := by
  unfold obs at h
  split at h
  · split at h <;> cases h
  · cases h
theorem fits_app {st ex : Sto} : Fits st st (st ++ ex) id :=
  ⟨Nat.le_refl _, fun _ _ => rfl, fun _ _ _ _ h => h, fun i o h => by rw [renO_id]; show (st ++ ex)[i]? = some o; rw [List.getElem?_append_left (List.getElem?_eq_some_iff.mp h).1]; exact h⟩
theorem Tells.obs {m : Fm} {n : Nat} {f : List D → Sto → Option D} (h : ∀ ds st d, Good st → Bnds st.length ds → ds.length = n → f ds st = some d → Bnd st.length d ∧ ∃ ex, m ds st = .ok d (st ++ ex)) : Tells m (U.obs n f) where
  ok := fun ds st d st1 g b e => by
    obtain ⟨hl, hf, rfl⟩ := obs_inv e
    obtain ⟨h1, ex, h2⟩ := h ds st1 d g b hl hf
    exact ⟨g, h1, id, st1 ++ ex, by rw [ren_id]; exact h2, fits_app⟩
  err := fun ds st c fs st1 g b e => (obs_noerr e).elim
theorem get_end {st : Sto} {o : Ob} : (st ++ [o])[st.length]? = some o := by simp
theorem set_end {st : Sto} {o o' : Ob} : (st ++ [o]).set st.length o' = st ++ [o'] := by simp
theorem runLc_pure {s : Src} {g : GM} {t : TM} {e : EM} {env : Ev} {st : Sto} {xs : List D} {p : D → Bool} {f : D → D} (hs : ∀ acc, s.at (st ++ [.lst acc]) = some xs) (hm : xs.length ≤ most)
    (h : ∀ x ∈ xs, ∀ acc, ∃ env1, g x env (st ++ [.lst acc]) = some (env1, st ++ [.lst acc]) ∧ t env1 (st ++ [.lst acc]) = .ok (p x) (st ++ [.lst acc]) ∧ (p x = true → e env1 (st ++ [.lst acc]) = .ok (f x) (st ++ [.lst acc]))) :
    ∀ (k i : Nat) (acc : List D), xs.length = i + k → acc.length ≤ i → runLc s g t e st.length env (k + 1) i (st ++ [.lst acc]) = .ok (.ref st.length) (st ++ [.lst (acc ++ ((xs.drop i).filter p).map f)])
  | 0, i, acc, hk, ha => by
    unfold runLc
    simp only [hs]
    rw [List.getElem?_eq_none (by omega)]
    simp [List.drop_eq_nil_of_le (show xs.length ≤ i by omega)]
  | k + 1, i, acc, hk, ha => by
    have hi : i < xs.length := by omega
    obtain ⟨env1, h1, h2, h3⟩ := h xs[i] (List.getElem_mem hi) acc
    unfold runLc
    simp only [hs]
    rw [List.getElem?_eq_getElem hi]
    simp only [h1, h2, R.bind]
    have hd : xs.drop i = xs[i] :: xs.drop (i + 1) := (List.drop_eq_getElem_cons hi)
    cases hp : p xs[i] with
    | false =>
      simp only [Bool.false_eq_true, if_false]
      rw [runLc_pure hs hm h k (i + 1) acc (by omega) (by omega), hd, List.filter_cons_of_neg (by rw [hp]; decide)]
    | true =>
      simp only [if_true, h3 hp, get_end, set_end]
      rw [if_pos (by omega), runLc_pure hs hm h k (i + 1) _ (by omega) (by simp; omega), hd, List.filter_cons_of_pos hp, List.map_cons, List.append_assoc]
      rfl
theorem startLc_pure {s : Src} {g : GM} {t : TM} {e : EM} {env : Ev} {st : Sto} {xs : List D} {p : D → Bool} {f : D → D} (h0 : s.at st = some xs) (hm : xs.length ≤ most)
    (h : ∀ x ∈ xs, ∀ acc, ∃ env1, g x env (st ++ [.lst acc]) = some (env1, st ++ [.lst acc]) ∧ t env1 (st ++ [.lst acc]) = .ok (p x) (st ++ [.lst acc]) ∧ (p x = true → e env1 (st ++ [.lst acc]) = .ok (f x) (st ++ [.lst acc]))) :
    startLc g t e env s st = .ok (.ref st.length) (st ++ [.lst ((xs.filter p).map f)]) := by
  unfold startLc
  rw [h0]
  simp only
  rw [runLc_pure (fun acc => src_at_app h0) hm h xs.length 0 [] (by omega) (by simp)]
  simp
theorem startLc_map {s : Src} {g : GM} {e : EM} {env : Ev} {st : Sto} {xs : List D} {f : D → D} (h0 : s.at st = some xs) (hm : xs.length ≤ most)
    (h : ∀ x ∈ xs, ∀ acc, ∃ env1, g x env (st ++ [.lst acc]) = some (env1, st ++ [.lst acc]) ∧ e env1 (st ++ [.lst acc]) = .ok (f x) (st ++ [.lst acc])) :
    startLc g tTrue e env s st = .ok (.ref st.length) (st ++ [.lst (xs.map f)]) := by
  rw [startLc_pure (p := fun _ => true) (f := f) h0 hm fun x hx acc => ?_]
  · rw [List.filter_eq_self.mpr (by simp)]
  · obtain ⟨env1, h1, h2⟩ := h x hx acc
    exact ⟨env1, h1, rfl, fun _ => h2⟩
theorem lstOf_end {st : Sto} {xs : List D} : lstOf (st ++ [.lst xs]) st.length = some xs := by unfold lstOf; rw [get_end]
theorem bools_map : ∀ bs : List Bool, bools (bs.map D.bl) = some bs
  | [] => rfl
  | b :: bs => by simp only [List.map_cons, bools, bools_map bs, Option.map_some]
theorem bools_mapf {α : Type} (f : α → Bool) (xs : List α) : bools (xs.map fun x => D.bl (f x)) = some (xs.map f) := by
  have := bools_map (xs.map f)
  rw [List.map_map] at this
  exact this
theorem aa_end {F : List Bool → Bool} {α : Type} {f : α → Bool} {xs : List α} {st : Sto} : fAA F [.ref st.length] (st ++ [.lst (xs.map fun x => D.bl (f x))]) = .ok (.bl (F (xs.map f))) (st ++ [.lst (xs.map fun x => D.bl (f x))]) := by
  unfold fAA
  simp only [lstOf_end, bools_mapf]
theorem runFor_fold {s : Src} {g : GM} {body : SM} {st : Sto} {xs : List D} (hs : s.at st = some xs) (I : Ev → Prop) (step : Ev → D → Ev)
    (h : ∀ x ∈ xs, ∀ env, I env → ∃ env1, g x env st = some (env1, st) ∧ body env1 st = .nx (step env x) st ∧ I (step env x)) :
    ∀ (k i : Nat) (env : Ev), xs.length = i + k → I env → runFor s g body (k + 1) i env st = .nx ((xs.drop i).foldl step env) st
  | 0, i, env, hk, hI => by
    unfold runFor
    simp only [hs]
    rw [List.getElem?_eq_none (by omega), List.drop_eq_nil_of_le (by omega)]
    rfl
  | k + 1, i, env, hk, hI => by
    have hi : i < xs.length := by omega
    obtain ⟨env1, h1, h2, h3⟩ := h xs[i] (List.getElem_mem hi) env hI
    unfold runFor
    simp only [hs]
    rw [List.getElem?_eq_getElem hi, List.drop_eq_getElem_cons hi]
    simp only [h1, h2, List.foldl_cons]
    exact runFor_fold hs I step h k (i + 1) _ (by omega) h3
theorem startFor_fold {s : Src} {g : GM} {body : SM} {st : Sto} {xs : List D} {env : Ev} (hs : s.at st = some xs) (I : Ev → Prop) (step : Ev → D → Ev) (h0 : I env)
    (h : ∀ x ∈ xs, ∀ env, I env → ∃ env1, g x env st = some (env1, st) ∧ body env1 st = .nx (step env x) st ∧ I (step env x)) : startFor g body env s st = .nx (xs.foldl step env) st := by
  unfold startFor
  rw [hs]
  simp only
  rw [runFor_fold hs I step h xs.length 0 env (by omega) h0]
  rfl
theorem tyD_app {st ex : Sto} {d : D} {t : String} (h : tyD st d = some t) : tyD (st ++ ex) d = some t := by
  cases d with
  | ref n =>
    have hn : n < st.length := by
      by_cases hn : n < st.length
      · exact hn
      · unfold tyD at h; simp only at h; rw [List.getElem?_eq_none (by omega)] at h; cases h
    unfold tyD at h ⊢
    simp only at h ⊢
    rw [List.getElem?_append_left hn]
    exact h
  | _ => exact h
def kn (st : Sto) (d : D) : Bool := (tyD st d).isSome
theorem kn_app {st ex : Sto} {d : D} (h : kn st d = true) : kn (st ++ ex) d = true := by
  obtain ⟨t, e⟩ := Option.isSome_iff_exists.mp h
  unfold kn
  rw [tyD_app e]
  rfl
end U
set_option Elab.async false
set_option linter.all false
set_option maxRecDepth 100000
set_option maxHeartbeats 4000000
namespace U
open PySem
section
variable {f h : D → D → Sto → R D} {f1 : D → Sto → R D} {fm : Fm} {a b c : EM} {t t2 : TM} {as : AM} {s s2 : SM} {src : IM} {g g' : GM} {gs : GMs} {env : Ev} {st : Sto} {i j n k slots : Nat} {d : D} {ds : List D} {vs : List Nat} {α β : Type} {r : R α} {x : α} {cn fd : Str} {fs : List (Str × D)}
theorem ev_var : eVar i env st = (match env[i]? with | some (some d) => .ok d st | _ => .fail) := rfl
theorem ev_c : eC d env st = .ok d st := rfl
theorem ev_un : eUn f1 a env st = (a env st).bind f1 := rfl
theorem ev_bin : eBin f a b env st = (a env st).bind fun x st => (b env st).bind fun y st => f x y st := rfl
theorem ev_anil : aNil env st = .ok [] st := rfl
theorem ev_acons : aCons a as env st = (a env st).bind fun x st => (as env st).bind fun xs st => .ok (x :: xs) st := rfl
theorem ev_fn : eFn fm as env st = (as env st).bind fm := rfl
theorem ev_tof : tOf a env st = (a env st).bind toB := rfl
theorem ev_tob {q : Bool} : toB (.bl q) st = .ok q st := rfl
theorem ev_tand : tAnd t t2 env st = (t env st).bind fun c st => if c = true then t2 env st else .ok false st := rfl
theorem ev_tor : tOr t t2 env st = (t env st).bind fun c st => if c = true then .ok true st else t2 env st := rfl
theorem ev_tnot : tNot t env st = (t env st).bind fun c st => .ok (!c) st := rfl
theorem ev_and : eAnd a b env st = (a env st).bind fun x st => match x with | .bl c => if c = true then b env st else .ok (.bl false) st | _ => .fail := rfl
theorem ev_or : eOr a b env st = (a env st).bind fun x st => match x with | .bl c => if c = true then .ok (.bl true) st else b env st | _ => .fail := rfl
theorem ev_not : eNot a env st = (a env st).bind fun x st => match x with | .bl c => .ok (.bl (!c)) st | _ => .fail := rfl
theorem ev_if : eIf t a b env st = (t env st).bind fun k st => if k = true then a env st else b env st := rfl
theorem ev_chain : eChain f h a b c env st = (a env st).bind fun x st => (b env st).bind fun y st => (f x y st).bind fun k st => match k with | .bl true => (c env st).bind fun z st => h y z st | .bl false => .ok (.bl false) st | _ => .fail := rfl
theorem ev_true : tTrue env st = .ok true st := rfl
theorem ev_slice {lo hi : oM} : eSlice a lo hi env st = (a env st).bind fun d st => (lo env st).bind fun l st => (hi env st).bind fun h st => sliceD d l h st := rfl
theorem ev_onone : oNone env st = .ok none st := rfl
theorem ev_osome : oSome a env st = (a env st).bind fun d st => match d with | .int i => .ok (some i) st | _ => .fail := rfl
theorem ev_iseq : iSeq a env st = (a env st).bind seqSrc := rfl
theorem ev_irng : iRng a env st = (a env st).bind rngSrc := rfl
theorem ev_ienum : iEnum a env st = (a env st).bind enumSrc := rfl
theorem ev_ibin {fz : D → D → Sto → R Src} : iBin fz a b env st = (a env st).bind fun x st => (b env st).bind fun y st => fz x y st := rfl
theorem ev_lc {e : EM} : cLc src vs g t e env st = (src env st).bind fun s st => (startLc g t e (wipeE env vs) s st).hush := rfl
theorem ev_skip : sSkip env st = .nx env st := rfl
theorem ev_never : sNever env st = .fail := rfl
theorem ev_seq : sSeq s s2 env st = (match s env st with | .nx env st => s2 env st | r => r) := rfl
theorem ev_ret : sRet a env st = (a env st).then env fun d st => .rt d st := rfl
theorem ev_sif : sIf t s s2 env st = (t env st).then env fun c st => if c = true then s env st else s2 env st := rfl
theorem ev_set : sSet i a env st = (a env st).then env fun d st => .nx (env.set i (some d)) st := rfl
theorem ev_expr : sExpr a env st = (a env st).then env fun _ st => .nx env st := rfl
theorem ev_asg : sAsg a g env st = (a env st).then env fun d st => match g d env st with | some (env, st) => .nx env st | none => .fail := rfl
theorem ev_par : sPar i j a b env st = (a env st).then env fun x st => (b env st).then env fun y st => .nx ((env.set i (some x)).set j (some y)) st := rfl
theorem ev_for : sFor src g s env st = (src env st).then env (startFor g s env) := rfl
theorem ev_fld : sFldM cn fd a b env st = (b env st).then env fun d st => (a env st).then env fun x st => setFld cn fd x d env st := rfl
theorem ev_gn : gN i d env st = some (env.set i (some d), st) := rfl
theorem ev_gsnil : gsNil [] env st = some (env, st) := rfl
theorem ev_gscons : gsCons g gs (d :: ds) env st = (match g d env st with | some (env, st) => gs ds env st | none => none) := rfl
theorem ev_gt : gT n gs (.tup ds) env st = if ds.length = n then gs ds env st else none := rfl
theorem ev_mkfn : mkFn n slots s ds st = if ds.length = n then endFn (s (env0 n slots ds) st) else .fail := rfl
theorem ev_bok {q : α → Sto → R β} : (R.ok x st).bind q = q x st := rfl
theorem ev_berr {q : α → Sto → R β} : (R.err cn fs st : R α).bind q = .err cn fs st := rfl
theorem ev_bfail {q : α → Sto → R β} : (R.fail : R α).bind q = .fail := rfl
theorem ev_tok {q : α → Sto → RS} : (R.ok x st).then env q = q x st := rfl
theorem ev_hok : (R.ok x st).hush = .ok x st := rfl
theorem ev_ert : endFn (.rt d st) = .ok d st := rfl
theorem ev_enx : endFn (.nx env st) = .ok .non st := rfl
theorem ev_wn : wipeE env [] = env := rfl
theorem ev_wc : wipeE env (i :: vs) = (wipeE env vs).set i none := rfl
theorem ev_e0 : env0 n slots ds = ds.map some ++ List.replicate (slots - n) none := rfl
theorem ev_sseq {xs : List D} : seqSrc (.tup xs) st = .ok (.fix xs) st := rfl
theorem ev_senum {xs : List D} : enumSrc (.tup xs) st = .ok (.fix (enumFrom 0 xs)) st := rfl
theorem ev_szip {xs ys : List D} : zipSrc (.tup xs) (.tup ys) st = .ok (.fix (List.zipWith pairD xs ys)) st := rfl
theorem ev_sltup {xs : List D} {lo hi : Option Int} : sliceD (.tup xs) lo hi st = .ok (.tup (cutD xs lo hi)) st := rfl
theorem ev_ltI {i j : Int} : dLt (.int i) (.int j) st = .ok (.bl (decide (i < j))) st := rfl
theorem ev_leI {i j : Int} : dLe (.int i) (.int j) st = .ok (.bl (decide (i ≤ j))) st := rfl
theorem ev_gtI {i j : Int} : dGt (.int i) (.int j) st = .ok (.bl (decide (j < i))) st := rfl
theorem ev_geI {i j : Int} : dGe (.int i) (.int j) st = .ok (.bl (decide (j ≤ i))) st := rfl
theorem ev_subI {i j : Int} : dSub (.int i) (.int j) st = .ok (.int (i - j)) st := rfl
theorem ev_addI {i j : Int} : dAdd (.int i) (.int j) st = .ok (.int (i + j)) st := rfl
theorem ev_lenT {xs : List D} : fLen [.tup xs] st = .ok (.int xs.length) st := rfl
theorem ev_isi {T : String} : dIsi T d st = (match tyD st d with | some q => .ok (.bl (isiT q T)) st | none => .fail) := rfl
theorem isi_tup {xs : List D} : dIsi "tuple" (.tup xs) st = .ok (.bl true) st := rfl
theorem eqI {i j : Int} {neg : Bool} : dEq neg (.int i) (.int j) st = .ok (.bl (if neg then !(i == j) else i == j)) st := by
  unfold dEq toS
  simp only [toP]
  rw [if_pos (show SeqAt.shaped (.int i) = true from rfl), if_pos (show SeqAt.shaped (.int j) = true from rfl)]
  simp only [PyData.eqv]
theorem isi_tupD (h : kn st d = true) : dIsi "tuple" d st = .ok (.bl (match d with | .tup _ => true | _ => false)) st := by
  obtain ⟨t, e⟩ := Option.isSome_iff_exists.mp h
  unfold dIsi
  rw [e]
  cases d with
  | ref n =>
    unfold tyD at e
    simp only at e
    split at e
    · cases e; rfl
    · cases e; rfl
    · cases e
  | _ => cases e; rfl
end
open PySem PySem.Spec PyProof.Rows L2 in
theorem cut1 (xs : List D) : cutD xs (some 1) none = xs.drop 1 := by
  unfold cutD
  rw [show HT.sIx xs.length 0 (some 1) = min 1 xs.length from HT.sIx_nat xs.length 0 1, HT.sIx_none]
  cases xs with
  | nil => rfl
  | cons x r =>
    have e : min 1 (x :: r).length = 1 := by simp
    rw [e]
    show List.take ((x :: r).length - 1) r = r
    simp
end U
set_option Elab.async false
set_option linter.all false
set_option maxRecDepth 100000
set_option maxHeartbeats 4000000
namespace U
open PySem PySem.Spec PyProof.Rows L2
def withinD (lo hi : Int) : D → Bool
  | .int i => decide (lo ≤ i) && decide (i ≤ hi)
  | _ => false
def itemsD : D → Option (List D)
  | .tup xs => some xs
  | _ => none
def prodD : List D → Int
  | [] => 1
  | .int i :: r => i * prodD r
  | _ :: r => prodD r
def wheelsD (d : D) : Bool := match d with
  | .tup xs => decide (1 ≤ xs.length) && decide (xs.length ≤ 3) && xs.all (withinD 2 4) && decide (prodD xs ≤ 24)
  | _ => false
def wI : D → Int
  | .int i => i
  | _ => 0
def valuesD (ws : List D) (d : D) : Bool := match d with
  | .tup xs => decide (xs.length = ws.length) && (List.zipWith (fun x w => withinD 0 (wI w - 1) x) xs ws).all id
  | _ => false
def leftD (n : Nat) (d : D) : Bool := match d with
  | .tup xs => decide (xs.length = n) && xs.all (withinD 0 2)
  | _ => false
def stateD (ws : List D) (n : Nat) (d : D) : Bool := match d with
  | .tup [a, b] => valuesD ws a && leftD n b
  | _ => false
def risingD (n : Int) (d : D) : Bool := match d with
  | .tup xs => xs.all (withinD 0 (n - 1)) && (List.zipWith (fun x y => decide (wI x < wI y)) xs (xs.drop 1)).all id
  | _ => false
mutual
def dk (st : Sto) : D → Bool
  | .tup xs => dks st xs
  | .ref n => kn st (.ref n)
  | .non => true
  | .bl _ => true
  | .int _ => true
  | .str _ => true
def dks (st : Sto) : List D → Bool
  | [] => true
  | d :: ds => dk st d && dks st ds
end
theorem dk_kn {st : Sto} : ∀ {d : D}, dk st d = true → kn st d = true
  | .tup xs, _ => rfl
  | .ref n, h => by simpa only [dk] using h
  | .non, _ => rfl
  | .bl _, _ => rfl
  | .int _, _ => rfl
  | .str _, _ => rfl
theorem dks_mem {st : Sto} : ∀ {ds : List D}, dks st ds = true → ∀ x ∈ ds, dk st x = true
  | d :: ds, h, x, hx => by
    simp only [dks, Bool.and_eq_true] at h
    rcases List.mem_cons.mp hx with e | hx
    · rw [e]; exact h.1
    · exact dks_mem h.2 x hx
theorem dk_tup {st : Sto} {xs : List D} (h : dk st (.tup xs) = true) : ∀ x ∈ xs, dk st x = true := dks_mem (by simpa only [dk] using h)
mutual
theorem dk_app {st ex : Sto} : ∀ {d : D}, dk st d = true → dk (st ++ ex) d = true
  | .tup xs, h => by simp only [dk] at h ⊢; exact dks_app h
  | .ref n, h => by simp only [dk] at h ⊢; exact kn_app h
  | .non, _ => by simp only [dk]
  | .bl _, _ => by simp only [dk]
  | .int _, _ => by simp only [dk]
  | .str _, _ => by simp only [dk]
theorem dks_app {st ex : Sto} : ∀ {ds : List D}, dks st ds = true → dks (st ++ ex) ds = true
  | [], _ => by simp only [dks]
  | d :: ds, h => by simp only [dks, Bool.and_eq_true] at h ⊢; exact ⟨dk_app h.1, dks_app h.2⟩
end
def scalD : D → Bool
  | .tup _ => false
  | .ref _ => false
  | .str x => SeqAt.shaped (.str x)
  | _ => true
def wordIn (ws : List Str) : D → Bool
  | .str x => ws.any (· == x)
  | _ => false
theorem toS_scal {st : Sto} {d : D} (h : scalD d = true) : ∃ p, toS st d = some p ∧ ∀ a : Str, PyData.eqv (.str a) p = wordIn [a] d := by
  cases d with
  | tup xs => cases h
  | ref n => cases h
  | str x =>
    have hs : SeqAt.shaped (.str x) = true := h
    refine ⟨.str x, by unfold toS; simp only [toP, hs, if_true], fun a => ?_⟩
    simp [PyData.eqv, wordIn]
  | non => exact ⟨.none, rfl, fun a => by simp [PyData.eqv, wordIn]⟩
  | bl b => exact ⟨.bool b, rfl, fun a => by simp [PyData.eqv, wordIn]⟩
  | int i => exact ⟨.int i, rfl, fun a => by simp [PyData.eqv, wordIn]⟩
theorem mapO_strs {n : Nat} {st : Sto} : ∀ ws : List Str, mapO (toP n st) (ws.map D.str) = some (ws.map PyData.str)
  | [] => rfl
  | w :: ws => by
    simp only [List.map_cons, mapO]
    rw [show toP n st (.str w) = some (.str w) by cases n <;> rfl, mapO_strs ws]
theorem in_words {st : Sto} {d : D} (ws : List Str) (h : scalD d = true) (hw : SeqAt.shaped (.tuple (ws.map PyData.str)) = true) : dIn false d (.tup (ws.map D.str)) st = .ok (.bl (wordIn ws d)) st := by
  obtain ⟨p, e, he⟩ := toS_scal (st := st) h
  have e2 : toS st (.tup (ws.map D.str)) = some (.tuple (ws.map PyData.str)) := by
    unfold toS
    simp only [toP, mapO_strs, Option.map_some, hw, if_true]
  unfold dIn
  rw [e, e2]
  simp only [itemsP]
  congr 2
  simp only [Bool.false_eq_true, if_false, List.any_map]
  clear e e2 hw
  induction ws with
  | nil => cases d <;> rfl
  | cons w ws ih =>
    simp only [List.any_cons, Function.comp_apply, he w]
    rw [ih]
    cases d <;> simp [wordIn]
def spotD (ws : List D) (words : List Str) : D → Bool
  | .tup [word, wheel, place] => wordIn words word && withinD 0 (ws.length - 1) wheel && withinD 0 (wI (ws.getD (wI wheel).toNat .non) - 1) place
  | _ => false
def momentD (n : Int) : D → Bool
  | .tup [word, rule] => wordIn ["hushed", "awake"] word && withinD 0 (n - 1) rule
  | _ => false
def condD (ws : List D) (n : Int) (d : D) : Bool := spotD ws ["is", "not", "below"] d || momentD n d
def changeD (ws : List D) (d : D) : Bool := spotD ws ["put", "turn"] d
def hushD : D → Bool
  | .tup [_, beats] => withinD 1 3 beats
  | _ => false
def fstD : D → D
  | .tup (x :: _) => x
  | _ => .non
def sndD : D → D
  | .tup (_ :: y :: _) => y
  | _ => .non
def isI : D → Bool
  | .int _ => true
  | _ => false
theorem isI_eq {d : D} (h : isI d = true) : d = .int (wI d) := by cases d <;> first | rfl | cases h
theorem all_id {α : Type} {f : α → Bool} {xs : List α} : (xs.map f).all id = xs.all f := by rw [List.all_map]; rfl
theorem atI2_1 {x y : D} : L2.atI [x, y] 1 = some y := rfl
def hushesD (n : Int) (d : D) : Bool := match d with
  | .tup xs => decide (xs.length ≤ 5) && xs.all hushD && risingD n (.tup (xs.map fstD))
  | _ => false
def memI (d : D) (xs : List D) : Bool := xs.any fun y => wI y == wI d
def wakesD (n : Int) (d : D) (hs : List D) : Bool := match d with
  | .tup xs => decide (xs.length ≤ 5) && risingD n d && !(hs.any fun h => memI (fstD h) xs)
  | _ => false
def rowD (most : Nat) : D → Bool
  | .tup xs => decide (xs.length ≤ most)
  | _ => false
theorem len2 {xs : List D} (h : xs.length = 2) : ∃ x y, xs = [x, y] := match xs, h with | [x, y], _ => ⟨x, y, rfl⟩
theorem len3 {xs : List D} (h : xs.length = 3) : ∃ x y z, xs = [x, y, z] := match xs, h with | [x, y, z], _ => ⟨x, y, z, rfl⟩
theorem len4 {xs : List D} (h : xs.length = 4) : ∃ x y z w, xs = [x, y, z, w] := match xs, h with | [x, y, z, w], _ => ⟨x, y, z, w, rfl⟩
theorem eqN {st : Sto} {n : Nat} {k : Int} {neg : Bool} : dEq neg (.int (n : Int)) (.int k) st = .ok (.bl (if neg then !decide ((n : Int) = k) else decide ((n : Int) = k))) st := by
  rw [eqI]
  congr 2
def rowI (n : Int) : D → Bool
  | .tup xs => decide ((xs.length : Int) ≤ n)
  | _ => false
def tupsD : D → List D
  | .tup xs => xs
  | _ => []
def ruleD (ws : List D) (n : Int) (d : D) : Bool := match d with
  | .tup [test, changes, hushes, wakes] => rowD 4 test && rowD 3 changes && (tupsD test).all (condD ws n) && (tupsD changes).all (changeD ws) && hushesD n hushes && wakesD n wakes (tupsD hushes)
  | _ => false
def wordsD (d : D) : Bool := match d with
  | .tup (w :: _) => scalD w
  | _ => true
def twoT : Option D → Option D → Option (List D × List D)
  | some (.tup ws), some (.tup rs) => some (ws, rs)
  | _, _ => none
def bookD (st : Sto) (d : D) : Option (List D × List D) := match d with
  | .ref n => match st[n]? with
    | some (.ins c fs) => if c = "Book" then twoT (lookF "wheels" fs) (lookF "rules" fs) else none
    | _ => none
  | _ => none
theorem twoT_inv {a b : Option D} {ws rs : List D} (h : twoT a b = some (ws, rs)) : a = some (.tup ws) ∧ b = some (.tup rs) := by
  unfold twoT at h
  split at h
  · cases h; exact ⟨rfl, rfl⟩
  · cases h
theorem bookD_at {st : Sto} {d : D} {ws rs : List D} (h : bookD st d = some (ws, rs)) : ∃ n fs, d = .ref n ∧ st[n]? = some (.ins "Book" fs) ∧ lookF "wheels" fs = some (.tup ws) ∧ lookF "rules" fs = some (.tup rs) := by
  unfold bookD at h
  split at h
  · rename_i n
    split at h
    · rename_i c fs q
      split at h
      · rename_i hc
        subst hc
        obtain ⟨h1, h2⟩ := twoT_inv h
        exact ⟨n, fs, rfl, q, h1, h2⟩
      · cases h
    · cases h
  · cases h
theorem book_wheels {st : Sto} {d : D} {ws rs : List D} (h : bookD st d = some (ws, rs)) : dFld "Book" "wheels" d st = .ok (.tup ws) st := by
  obtain ⟨n, fs, rfl, e, h1, h2⟩ := bookD_at h
  unfold dFld
  simp only [e, if_true, h1]
theorem book_rules {st : Sto} {d : D} {ws rs : List D} (h : bookD st d = some (ws, rs)) : dFld "Book" "rules" d st = .ok (.tup rs) st := by
  obtain ⟨n, fs, rfl, e, h1, h2⟩ := bookD_at h
  unfold dFld
  simp only [e, if_true, h2]
theorem bookD_app {st ex : Sto} {d : D} {ws rs : List D} (h : bookD st d = some (ws, rs)) : bookD (st ++ ex) d = some (ws, rs) := by
  obtain ⟨n, fs, rfl, e, h1, h2⟩ := bookD_at h
  unfold bookD
  simp only [List.getElem?_append_left (List.getElem?_eq_some_iff.mp e).1, e, if_true, h1, h2, twoT]
def smallD : D → Bool
  | .tup xs => xs.all fun x => decide ((tupsD x).length ≤ most)
  | _ => true
theorem small2 {x y : D} (h : smallD (.tup [x, y]) = true) : (tupsD x).length ≤ most ∧ (tupsD y).length ≤ most := by
  simp only [smallD, List.all_cons, List.all_nil, Bool.and_true, Bool.and_eq_true, decide_eq_true_eq] at h
  exact h
theorem atI2_0 {x y : D} : L2.atI [x, y] 0 = some x := rfl
theorem mulI {st : Sto} {i j : Int} (h0 : 0 ≤ i) (h1 : i < 18446744073709551616) : dMul (.int i) (.int j) st = .ok (.int (i * j)) st := by
  unfold dMul
  simp only
  rw [if_pos (.inl ⟨by omega, by omega⟩)]
theorem walk_prod {st : Sto} {a b : Option D} : ∀ {xs : List D}, xs.length ≤ 3 → xs.all (withinD 2 4) = true → ∃ c, startFor (gN 2) (sSet 1 (eBin dMul (eVar 1) (eVar 2))) [a, some (.int 1), b] (.fix xs) st = .nx [a, some (.int (prodD xs)), c] st
  | [], _, _ => ⟨b, rfl⟩
  | [.int i], _, h => ⟨some (.int i), by simp [startFor, runFor, Src.at, ev_gn, ev_set, ev_bin, ev_var, ev_bok, ev_tok, mulI, prodD]⟩
  | [.int i, .int j], _, h => by
    simp only [List.all_cons, List.all_nil, withinD, Bool.and_true, Bool.and_eq_true, decide_eq_true_eq] at h
    exact ⟨some (.int j), by simp [startFor, runFor, Src.at, ev_gn, ev_set, ev_bin, ev_var, ev_bok, ev_tok, mulI, mulI (i := i) (by omega) (by omega), prodD]⟩
  | [.int i, .int j, .int k], _, h => by
    simp only [List.all_cons, List.all_nil, withinD, Bool.and_true, Bool.and_eq_true, decide_eq_true_eq] at h
    have hij : 0 ≤ i * j ∧ i * j < 18446744073709551616 := by
      obtain ⟨⟨a1, a2⟩, ⟨b1, b2⟩, _⟩ := h
      have : i = 2 ∨ i = 3 ∨ i = 4 := by omega
      rcases this with rfl | rfl | rfl <;> omega
    exact ⟨some (.int k), by simp [startFor, runFor, Src.at, ev_gn, ev_set, ev_bin, ev_var, ev_bok, ev_tok, mulI, mulI (i := i) (by omega) (by omega), mulI (i := i * j) hij.1 hij.2, prodD, Int.mul_assoc]⟩
  | _ :: _ :: _ :: _ :: _, h, _ => by simp at h
  | .non :: _, _, h => by simp [withinD] at h
  | .bl _ :: _, _, h => by simp [withinD] at h
  | .str _ :: _, _, h => by simp [withinD] at h
  | .tup _ :: _, _, h => by simp [withinD] at h
  | .ref _ :: _, _, h => by simp [withinD] at h
  | [_, .non], _, h => by simp [withinD] at h
  | [_, .bl _], _, h => by simp [withinD] at h
  | [_, .str _], _, h => by simp [withinD] at h
  | [_, .tup _], _, h => by simp [withinD] at h
  | [_, .ref _], _, h => by simp [withinD] at h
  | [_, .non, _], _, h => by simp [withinD] at h
  | [_, .bl _, _], _, h => by simp [withinD] at h
  | [_, .str _, _], _, h => by simp [withinD] at h
  | [_, .tup _, _], _, h => by simp [withinD] at h
  | [_, .ref _, _], _, h => by simp [withinD] at h
  | [_, _, .non], _, h => by simp [withinD] at h
  | [_, _, .bl _], _, h => by simp [withinD] at h
  | [_, _, .str _], _, h => by simp [withinD] at h
  | [_, _, .tup _], _, h => by simp [withinD] at h
  | [_, _, .ref _], _, h => by simp [withinD] at h
theorem mk2 {st : Sto} {a b : D} : mkTup [a, b] st = .ok (.tup [a, b]) st := if_pos (show 2 ≤ most by decide)
theorem mk3 {st : Sto} {a b c : D} : mkTup [a, b, c] st = .ok (.tup [a, b, c]) st := if_pos (show 3 ≤ most by decide)
theorem mk4 {st : Sto} {a b c d : D} : mkTup [a, b, c, d] st = .ok (.tup [a, b, c, d]) st := if_pos (show 4 ≤ most by decide)
def strsOf : List D → Option (List Str)
  | [] => some []
  | .str x :: r => (strsOf r).map (x :: ·)
  | _ :: _ => none
theorem strsOf_eq : ∀ {xs : List D} {ws : List Str}, strsOf xs = some ws → xs = ws.map D.str
  | [], _, h => by cases h; rfl
  | .str x :: r, ws, h => by
    obtain ⟨vs, e, rfl⟩ := Option.map_eq_some_iff.mp (show (strsOf r).map (x :: ·) = some ws from h)
    rw [strsOf_eq e]
    rfl
  | .non :: _, _, h => by cases h
  | .bl _ :: _, _, h => by cases h
  | .int _ :: _, _, h => by cases h
  | .tup _ :: _, _, h => by cases h
  | .ref _ :: _, _, h => by cases h
theorem within_ix {n : Nat} {d : D} (h : withinD 0 ((n : Int) - 1) d = true) : ∃ j : Nat, d = .int (j : Int) ∧ j < n := by
  cases d with
  | int i =>
    simp only [withinD, Bool.and_eq_true, decide_eq_true_eq] at h
    obtain ⟨k, rfl⟩ := Int.eq_ofNat_of_zero_le h.1
    exact ⟨k, rfl, by omega⟩
  | _ => cases h
theorem cast5 : (5 : Int) = ((5 : Nat) : Int) := rfl
theorem hush_pair {d : D} (h : hushD d = true) : ∃ a b, d = .tup [a, b] := by
  unfold hushD at h
  split at h
  · exact ⟨_, _, rfl⟩
  · cases h
theorem any_id {α : Type} {f : α → Bool} {xs : List α} : (xs.map f).any id = xs.any f := by rw [List.any_map]; rfl
theorem dks_of {st : Sto} : ∀ {ds : List D}, (∀ x ∈ ds, dk st x = true) → dks st ds = true
  | [], _ => by simp only [dks]
  | d :: ds, h => by simp only [dks, Bool.and_eq_true]; exact ⟨h d List.mem_cons_self, dks_of fun x hx => h x (List.mem_cons_of_mem _ hx)⟩
theorem dk_of {st : Sto} {ds : List D} (h : ∀ x ∈ ds, dk st x = true) : dk st (.tup ds) = true := by simp only [dk]; exact dks_of h
theorem dk_fsts {st : Sto} {xs : List D} (hx : ∀ x ∈ xs, dk st x = true) (ha : xs.all hushD = true) : dk st (.tup (xs.map fstD)) = true := dk_of fun y hy => by
  obtain ⟨x, h1, rfl⟩ := List.mem_map.mp hy
  obtain ⟨a, b, rfl⟩ := hush_pair (List.all_eq_true.mp ha x h1)
  exact dk_tup (hx _ h1) a (by simp)
theorem rising_ints {n : Int} {xs : List D} (h : risingD n (.tup xs) = true) : xs.all isI = true := by
  simp only [risingD, Bool.and_eq_true] at h
  refine List.all_eq_true.mpr fun x hx => ?_
  have := List.all_eq_true.mp h.1 x hx
  cases x with
  | int i => rfl
  | _ => cases this
theorem mapO_ints {n : Nat} {st : Sto} : ∀ {xs : List D}, xs.all isI = true → mapO (toP n st) xs = some (xs.map fun x => PyData.int (wI x))
  | [], _ => rfl
  | x :: xs, h => by
    simp only [List.all_cons, Bool.and_eq_true] at h
    cases x with
    | int i =>
      have e : toP n st (.int i) = some (.int i) := by cases n <;> rfl
      simp only [List.map_cons, mapO, e, mapO_ints h.2]
      rfl
    | _ => cases h.1
theorem shaped_ints : ∀ (xs : List D), PyData.canLayAll0 (xs.map fun x => PyData.int (wI x)) = true ∧ PyData.depthAll (xs.map fun x => PyData.int (wI x)) = 0
  | [] => ⟨by simp [PyData.canLayAll0], by simp [PyData.depthAll]⟩
  | x :: xs => by
    obtain ⟨h1, h2⟩ := shaped_ints xs
    exact ⟨by simp [PyData.canLayAll0, PyData.canLay0, h1], by simp [PyData.depthAll, PyData.depth, h2]⟩
theorem toS_ints {st : Sto} {xs : List D} (h : xs.all isI = true) : toS st (.tup xs) = some (.tuple (xs.map fun x => PyData.int (wI x))) := by
  obtain ⟨h1, h2⟩ := shaped_ints xs
  have hs : SeqAt.shaped (.tuple (xs.map fun x => PyData.int (wI x))) = true := by
    unfold SeqAt.shaped
    simp [PyData.canLay0, h1, PyData.depth, h2]
  unfold toS
  simp only [toP, mapO_ints h, Option.map_some, hs, if_true]
theorem in_ints {st : Sto} {xs : List D} {i : Int} (h : xs.all isI = true) : dIn false (.int i) (.tup xs) st = .ok (.bl (memI (.int i) xs)) st := by
  unfold dIn
  rw [toS_ints h, show toS st (.int i) = some (.int i) from rfl]
  simp only [itemsP, memI, wI, Bool.false_eq_true, if_false, List.any_map]
  congr 2
def ruleWords : D → Bool
  | .tup [ts, cs, _, _] => (tupsD ts).all wordsD && (tupsD cs).all wordsD
  | _ => true
theorem row_inv {n : Nat} {d : D} (h : rowD n d = true) : ∃ xs, d = .tup xs ∧ xs.length ≤ n := by
  cases d with
  | tup xs => exact ⟨xs, rfl, of_decide_eq_true h⟩
  | _ => cases h
theorem hushes_inv {n : Int} {d : D} (h : hushesD n d = true) : ∃ xs, d = .tup xs ∧ xs.length ≤ most ∧ (xs.all fun h => hushD h && isI (fstD h)) = true := by
  cases d with
  | tup xs =>
    simp only [hushesD, Bool.and_eq_true, decide_eq_true_eq] at h
    obtain ⟨⟨h1, h2⟩, h3⟩ := h
    refine ⟨xs, rfl, Nat.le_trans h1 (by decide), List.all_eq_true.mpr fun x hx => ?_⟩
    have q1 := List.all_eq_true.mp h2 x hx
    have q2 := List.all_eq_true.mp (rising_ints h3) (fstD x) (List.mem_map_of_mem hx)
    rw [q1, q2]
    rfl
  | _ => cases h
end U
set_option Elab.async false
set_option linter.all false
set_option maxRecDepth 100000
set_option maxHeartbeats 1000000
namespace U
open PySem
def wr (n : Nat) (f : List D → Sto → Option (D × Sto)) : Fm := fun ds st => if ds.length = n then (match f ds st with
  | some (d, st1) => .ok d st1
  | none => .fail) else .fail
theorem wr_ar {n : Nat} {f : List D → Sto → Option (D × Sto)} : Arity n (wr n f) := fun ds st h => if_neg h
theorem wr_ok {n : Nat} {f : List D → Sto → Option (D × Sto)} {ds : List D} {st st1 : Sto} {d : D} (hl : ds.length = n) (h : f ds st = some (d, st1)) : wr n f ds st = .ok d st1 := by
  unfold wr
  rw [if_pos hl, h]
theorem Tells.wr {m : Fm} {n : Nat} {f : List D → Sto → Option (D × Sto)} (h : ∀ ds st d st1, Good st → Bnds st.length ds → ds.length = n → f ds st = some (d, st1) → st1.length = st.length ∧ Good st1 ∧ Bnd st1.length d ∧ ∃ ex, m ds st = .ok d (st1 ++ ex)) : Tells m (U.wr n f) where
  ok := fun ds st d st1 g b e => by
    unfold U.wr at e
    split at e
    · rename_i hl
      split at e
      · rename_i d' st1' q
        cases e
        obtain ⟨h0, h1, h2, ex, h3⟩ := h ds st d st1 g b hl q
        refine ⟨h1, h2, id, st1 ++ ex, by rw [ren_id]; exact h3, by omega, fun _ _ => rfl, fun _ _ _ _ h => h, fun i o h => ?_⟩
        rw [renO_id]
        show (st1 ++ ex)[i]? = some o
        rw [List.getElem?_append_left (List.getElem?_eq_some_iff.mp h).1]
        exact h
      · cases e
    · cases e
  err := fun ds st c fs st1 g b e => by
    unfold U.wr at e
    split at e
    · split at e <;> cases e
    · cases e
theorem good_set {st : Sto} {k : Nat} {o : Ob} (g : Good st) (h : BndO st.length o) : Good (st.set k o) := fun i p e => by
  rw [List.length_set]
  by_cases hi : k = i
  · subst hi
    by_cases hl : k < st.length
    · rw [List.getElem?_set_self hl] at e; cases e; exact h
    · rw [List.getElem?_eq_none (by simp; omega)] at e; cases e
  · rw [List.getElem?_set_ne hi] at e
    exact g i p e
def bookO (ws rs : List D) : Ob := .ins "Book" [("wheels", .tup ws), ("rules", .tup rs)]
theorem wheels_ints {ws : List D} (h : wheelsD (.tup ws) = true) : ws.all isI = true := by
  simp only [wheelsD, Bool.and_eq_true] at h
  refine List.all_eq_true.mpr fun x hx => ?_
  have := List.all_eq_true.mp h.1.2 x hx
  cases x with
  | int i => rfl
  | _ => cases this
theorem runFor_J {s : Src} {g : GM} {body : SM} {xs : List D} (J : Nat → Ev → Sto → Prop) (hat : ∀ i env st, J i env st → s.at st = some xs)
    (h : ∀ i x env st, xs[i]? = some x → J i env st → ∃ env1 st1 env2 st2, g x env st = some (env1, st1) ∧ body env1 st1 = .nx env2 st2 ∧ J (i + 1) env2 st2) :
    ∀ (k i : Nat) (env : Ev) (st : Sto), xs.length = i + k → J i env st → ∃ env' st', runFor s g body (k + 1) i env st = .nx env' st' ∧ J xs.length env' st'
  | 0, i, env, st, hk, hJ => by
    have e : i = xs.length := by omega
    subst e
    refine ⟨env, st, ?_, hJ⟩
    unfold runFor
    simp only [hat _ _ _ hJ]
    rw [List.getElem?_eq_none (Nat.le_refl _)]
  | k + 1, i, env, st, hk, hJ => by
    have hi : i < xs.length := by omega
    obtain ⟨env1, st1, env2, st2, h1, h2, h3⟩ := h i xs[i] env st (List.getElem?_eq_getElem hi) hJ
    obtain ⟨env', st', h4, h5⟩ := runFor_J J hat h k (i + 1) env2 st2 (by omega) h3
    refine ⟨env', st', ?_, h5⟩
    unfold runFor
    simp only [hat _ _ _ hJ]
    rw [List.getElem?_eq_getElem hi]
    simp only [h1, h2]
    exact h4
theorem startFor_J {s : Src} {g : GM} {body : SM} {xs : List D} {env : Ev} {st : Sto} (J : Nat → Ev → Sto → Prop) (hat : ∀ i env st, J i env st → s.at st = some xs) (h0 : J 0 env st)
    (h : ∀ i x env st, xs[i]? = some x → J i env st → ∃ env1 st1 env2 st2, g x env st = some (env1, st1) ∧ body env1 st1 = .nx env2 st2 ∧ J (i + 1) env2 st2) : ∃ env' st', startFor g body env s st = .nx env' st' ∧ J xs.length env' st' := by
  unfold startFor
  rw [hat 0 env st h0]
  exact runFor_J J hat h xs.length 0 env st (by omega) h0
theorem startFor_inv {s : Src} {g : GM} {body : SM} {st : Sto} {xs : List D} {env : Ev} (hs : s.at st = some xs) (I : Ev → Prop) (h0 : I env)
    (h : ∀ x ∈ xs, ∀ env, I env → ∃ env1 env2, g x env st = some (env1, st) ∧ body env1 st = .nx env2 st ∧ I env2) : ∃ env', startFor g body env s st = .nx env' st ∧ I env' := by
  obtain ⟨env', st', h1, h2, h3⟩ := startFor_J (s := s) (g := g) (body := body) (xs := xs) (env := env) (st := st) (fun _ e s' => I e ∧ s' = st) (fun _ _ _ hJ => by rw [hJ.2]; exact hs) ⟨h0, rfl⟩ fun i x e s' hx hJ => by
    obtain ⟨hI, rfl⟩ := hJ
    obtain ⟨env1, env2, q1, q2, q3⟩ := h x (List.mem_of_getElem? hx) e hI
    exact ⟨env1, s', env2, s', q1, q2, q3, rfl⟩
  subst h3
  exact ⟨env', h1, h2⟩
theorem runFor_all {s : Src} {g : GM} {body : SM} {xs : List D} {st : Sto} {P : D → Bool} {d : D} (hs : s.at st = some xs) (I : Ev → Prop)
    (h : ∀ x ∈ xs, ∀ env, I env → ∃ env1, g x env st = some (env1, st) ∧ (P x = true → ∃ env2, body env1 st = .nx env2 st ∧ I env2) ∧ (P x = false → body env1 st = .rt d st)) :
    ∀ (k i : Nat) (env : Ev), xs.length = i + k → I env → ((xs.drop i).all P = true → ∃ env', runFor s g body (k + 1) i env st = .nx env' st ∧ I env') ∧ ((xs.drop i).all P = false → runFor s g body (k + 1) i env st = .rt d st)
  | 0, i, env, hk, hI => by
    have hd : xs.drop i = [] := List.drop_eq_nil_of_le (by omega)
    rw [hd]
    refine ⟨fun _ => ⟨env, ?_, hI⟩, fun h => by simp at h⟩
    unfold runFor
    simp only [hs]
    rw [List.getElem?_eq_none (by omega)]
  | k + 1, i, env, hk, hI => by
    have hi : i < xs.length := by omega
    obtain ⟨env1, h1, h2, h3⟩ := h xs[i] (List.getElem_mem hi) env hI
    rw [List.drop_eq_getElem_cons hi, List.all_cons]
    unfold runFor
    simp only [hs]
    rw [List.getElem?_eq_getElem hi]
    simp only [h1]
    cases hp : P xs[i] with
    | false =>
      rw [h3 hp]
      exact ⟨fun q => by simp at q, fun _ => rfl⟩
    | true =>
      obtain ⟨env2, q1, q2⟩ := h2 hp
      rw [q1]
      rw [Bool.true_and]
      exact runFor_all hs I h k (i + 1) env2 (by omega) q2
theorem startFor_all {s : Src} {g : GM} {body : SM} {xs : List D} {st : Sto} {env : Ev} {P : D → Bool} {d : D} (hs : s.at st = some xs) (I : Ev → Prop) (h0 : I env)
    (h : ∀ x ∈ xs, ∀ env, I env → ∃ env1, g x env st = some (env1, st) ∧ (P x = true → ∃ env2, body env1 st = .nx env2 st ∧ I env2) ∧ (P x = false → body env1 st = .rt d st)) :
    (xs.all P = true → ∃ env', startFor g body env s st = .nx env' st ∧ I env') ∧ (xs.all P = false → startFor g body env s st = .rt d st) := by
  unfold startFor
  rw [hs]
  have := runFor_all hs I h xs.length 0 env (by omega) h0
  simpa using this
theorem setFld_ok {st : Sto} {k : Nat} {c f : Str} {fs : List (Str × D)} {d : D} {env : Ev} (h : st[k]? = some (.ins c fs)) (hl : fs.length < 400) : setFld c f (.ref k) d env st = .nx env (st.set k (.ins c (putD f d fs))) := by
  unfold setFld
  simp only [h]
  rw [if_pos (by simp [hl])]
theorem get_set {st : Sto} {k : Nat} {o : Ob} (h : k < st.length) : (st.set k o)[k]? = some o := List.getElem?_set_self h
theorem book_put (ws rs : List D) : Ob.ins "Book" (putD "rules" (.tup rs) (putD "wheels" (.tup ws) [])) = bookO ws rs := by
  unfold bookO
  simp only [putD]
  rw [if_neg (by decide)]
theorem bookO_at {st : Sto} {k : Nat} {ws rs : List D} (h : st[k]? = some (bookO ws rs)) : bookD st (.ref k) = some (ws, rs) := by
  unfold bookD
  simp only [h, bookO, if_true, lookF]
  rw [if_neg (by decide)]
  rfl
end U
set_option Elab.async false
set_option linter.all false
set_option maxRecDepth 100000
set_option maxHeartbeats 1000000
namespace U
open PySem
mutual
theorem ren_old {n : Nat} {ρ : Nat → Nat} (h : ∀ i, i < n → ρ i = i) : ∀ {d : D}, Bnd n d → ren ρ d = d
  | .tup xs, b => by simp only [Bnd] at b; simp only [ren]; rw [rens_old h b]
  | .ref k, b => by simp only [Bnd] at b; simp only [ren]; rw [h k b]
  | .non, _ => by simp only [ren]
  | .bl _, _ => by simp only [ren]
  | .int _, _ => by simp only [ren]
  | .str _, _ => by simp only [ren]
theorem rens_old {n : Nat} {ρ : Nat → Nat} (h : ∀ i, i < n → ρ i = i) : ∀ {ds : List D}, Bnds n ds → rens ρ ds = ds
  | [], _ => by simp only [rens]
  | d :: ds, b => by simp only [Bnds] at b; simp only [rens]; rw [ren_old h b.1, rens_old h b.2]
end
theorem renO_old {n : Nat} {ρ : Nat → Nat} (h : ∀ i, i < n → ρ i = i) {o : Ob} (b : BndO n o) : renO ρ o = o := by
  cases o with
  | lst xs => simp only [renO]; rw [rens_old h b]
  | rol xs => simp only [renO]; rw [rens_old h b]
  | kst xs => simp only [renO]; rw [rens_old h b]
  | ins c fs =>
    simp only [renO]
    congr 1
    have b' : Bnds n (fs.map (·.2)) := b
    clear b
    induction fs with
    | nil => rfl
    | cons p fs ih =>
      simp only [List.map_cons, Bnds] at b'
      rw [List.map_cons, ren_old h b'.1, ih b'.2]
  | dct kvs =>
    simp only [renO]
    congr 1
    obtain ⟨b1, b2⟩ := b
    induction kvs with
    | nil => rfl
    | cons p kvs ih =>
      simp only [List.map_cons, Bnds] at b1 b2
      rw [List.map_cons, ren_old h b1.1, ren_old h b2.1, ih b1.2 b2.2]
mutual
theorem Bnd.mono {n k : Nat} (h : n ≤ k) : ∀ {d : D}, Bnd n d → Bnd k d
  | .tup xs, b => by simp only [Bnd] at b ⊢; exact Bnds.mono h b
  | .ref i, b => by simp only [Bnd] at b ⊢; omega
  | .non, _ => by simp only [Bnd]
  | .bl _, _ => by simp only [Bnd]
  | .int _, _ => by simp only [Bnd]
  | .str _, _ => by simp only [Bnd]
theorem Bnds.mono {n k : Nat} (h : n ≤ k) : ∀ {ds : List D}, Bnds n ds → Bnds k ds
  | [], _ => by simp only [Bnds]
  | d :: ds, b => by simp only [Bnds] at b ⊢; exact ⟨Bnd.mono h b.1, Bnds.mono h b.2⟩
end
theorem BndO.mono {n k : Nat} (h : n ≤ k) {o : Ob} (b : BndO n o) : BndO k o := by
  cases o with
  | lst xs => exact Bnds.mono h b
  | rol xs => exact Bnds.mono h b
  | kst xs => exact Bnds.mono h b
  | ins c fs => exact Bnds.mono h b
  | dct kvs => exact ⟨Bnds.mono h b.1, Bnds.mono h b.2⟩
def nw (n : Nat) (f : List D → Sto → Option Ob) : Fm := fun ds st => if ds.length = n then (match f ds st with
  | some o => .ok (.ref st.length) (st ++ [o])
  | none => .fail) else .fail
theorem nw_ar {n : Nat} {f : List D → Sto → Option Ob} : Arity n (nw n f) := fun ds st h => if_neg h
theorem nw_ok {n : Nat} {f : List D → Sto → Option Ob} {ds : List D} {st : Sto} {o : Ob} (hl : ds.length = n) (h : f ds st = some o) : nw n f ds st = .ok (.ref st.length) (st ++ [o]) := by
  unfold nw
  rw [if_pos hl, h]
theorem Tells.nw {m : Fm} {n : Nat} {f : List D → Sto → Option Ob} (h : ∀ ds st o, Good st → Bnds st.length ds → ds.length = n → f ds st = some o → BndO st.length o ∧ ∃ ex j, ex[j]? = some o ∧ m ds st = .ok (.ref (st.length + j)) (st ++ ex)) : Tells m (U.nw n f) where
  ok := fun ds st d st1 g b e => by
    unfold U.nw at e
    split at e
    · rename_i hl
      split at e
      · rename_i o q
        cases e
        obtain ⟨h1, ex, j, h2, h3⟩ := h ds st o g b hl q
        have old : ∀ i, i < st.length → (fun i => if i < st.length then i else st.length + j) i = i := fun i hi => if_pos hi
        refine ⟨fun i p e => ?_, by simp only [Bnd]; simp, fun i => if i < st.length then i else st.length + j, st ++ ex, ?_, ?_⟩
        · by_cases hi : i < st.length
          · rw [List.getElem?_append_left hi] at e
            exact (g i p e).mono (by simp)
          · have hi2 : i < (st ++ [o]).length := (List.getElem?_eq_some_iff.mp e).1
            have : i = st.length := by simp at hi2; omega
            subst this
            simp at e
            subst e
            exact h1.mono (by simp)
        · simp only [ren]
          rw [if_neg (Nat.lt_irrefl _)]
          exact h3
        · refine ⟨by simp, old, fun i k hi hk e => ?_, fun i p e => ?_⟩
          · simp at hi hk
            have e' : (if i < st.length then i else st.length + j) = (if k < st.length then k else st.length + j) := e
            split at e' <;> split at e' <;> omega
          · by_cases hi : i < st.length
            · rw [List.getElem?_append_left hi] at e
              show (st ++ ex)[if i < st.length then i else st.length + j]? = _
              rw [if_pos hi, List.getElem?_append_left hi, e, renO_old old (g i p e)]
            · have hi2 : i < (st ++ [o]).length := (List.getElem?_eq_some_iff.mp e).1
              have : i = st.length := by simp at hi2; omega
              subst this
              simp at e
              subst e
              show (st ++ ex)[if st.length < st.length then st.length else st.length + j]? = _
              rw [if_neg (Nat.lt_irrefl _), List.getElem?_append_right (by omega), renO_old old h1]
              simpa using h2
      · cases e
    · cases e
  err := fun ds st c fs st1 g b e => by
    unfold U.nw at e
    split at e
    · split at e <;> cases e
    · cases e
theorem ixS {st : Sto} {v d : D} {vs : List D} {i : Int} (h : seqOf st v = some vs) (ha : L2.atI vs i = some d) : dIx v (.int i) st = .ok d st := by
  unfold dIx
  rw [h]
  simp only [ha]
def soO (c : D) (vs ls : List D) : Option Bool := match c with
  | .tup [.str w, .int r] => match L2.atI ls r with
    | some (.int i) => if w = "hushed" then some (decide (0 < i)) else if w = "awake" then some (i == 0) else none
    | _ => none
  | .tup [.str w, .int x, .int p] => match L2.atI vs x with
    | some (.int i) => if w = "is" then some (i == p) else if w = "not" then some (!(i == p)) else if w = "below" then some (decide (i < p)) else none
    | _ => none
  | _ => none
theorem strEq {st : Sto} (a b : Str) (ha : SeqAt.shaped (.str a) = true) (hb : SeqAt.shaped (.str b) = true) : dEq false (.str a) (.str b) st = .ok (.bl (a == b)) st := by
  unfold dEq toS
  simp only [toP, ha, hb, if_true, PyData.eqv, Bool.false_eq_true, if_false]
def readyO (rs : List D) (r : Int) (vs ls : List D) : Option Bool := match L2.atI ls r, L2.atI rs r with
  | some (.int i), some (.tup [.tup cs, _, _, _]) => if 0 < i then some false else if (cs.all fun c => (soO c vs ls).isSome) = true then some (cs.all fun c => soO c vs ls == some true) else none
  | _, _ => none
theorem dk_ints {st : Sto} {xs : List D} (h : xs.all isI = true) : dk st (.tup xs) = true := dk_of fun x hx => by
  rw [isI_eq (List.all_eq_true.mp h x hx)]
  simp only [dk]
end U
set_option Elab.async false
set_option linter.all false
set_option maxRecDepth 100000
set_option maxHeartbeats 1000000
namespace U
open PySem
def lst3 (g x c : Int) : Ob := .lst [.int g, .int x, .int c]
def takeX (x c : Int) : Int := (x * 48271 + 7919 * (c + 1) * (c + 1) + 11) % 2147483647
def takeD (g x c many : Int) : Int := if 0 < g then g % many else (takeX x c / 8) ^ 3 % 2147483629 % many
def takeO (g x c many : Int) : Ob := if 0 < g then lst3 (g / many) x c else lst3 g (takeX x c) (c + 1)
def int3 (o : Ob) : Option (Int × Int × Int) := match o with
  | .lst [.int g, .int x, .int c] => some (g, x, c)
  | _ => none
theorem int3_eq {o : Ob} {g x c : Int} (h : int3 o = some (g, x, c)) : o = lst3 g x c := by
  unfold int3 at h
  split at h
  · cases h; rfl
  · cases h
def CtOk (x c : Int) : Prop := 0 ≤ x ∧ x < 2147483647 ∧ 0 ≤ c ∧ c < 1000000
instance (x c : Int) : Decidable (CtOk x c) := inferInstanceAs (Decidable (_ ∧ _ ∧ _ ∧ _))
def s_take : Fm := wr 2 fun ds st => match ds with
  | [.ref k, .int many] => match (st[k]?).bind int3 with
    | some (g, x, c) => if CtOk x c ∧ 0 < many ∧ many < 1000000000000000000000 then some (.int (takeD g x c many), st.set k (takeO g x c many)) else none
    | none => none
  | _ => none
theorem take_of {st : Sto} {k : Nat} {g x c many : Int} (h : st[k]? = some (lst3 g x c)) (hc : CtOk x c) (h0 : 0 < many) (h1 : many < 1000000000000000000000) : s_take [.ref k, .int many] st = .ok (.int (takeD g x c many)) (st.set k (takeO g x c many)) := by
  refine wr_ok rfl ?_
  show (match (st[k]?).bind int3 with | some (g, x, c) => if CtOk x c ∧ 0 < many ∧ many < 1000000000000000000000 then some (D.int (takeD g x c many), st.set k (takeO g x c many)) else none | none => none) = _
  rw [h]
  show (if CtOk x c ∧ 0 < many ∧ many < 1000000000000000000000 then some (D.int (takeD g x c many), st.set k (takeO g x c many)) else none) = _
  rw [if_pos ⟨hc, h0, h1⟩]
theorem take_range {g x c many : Int} (h0 : 0 < many) : 0 ≤ takeD g x c many ∧ takeD g x c many < many := by
  unfold takeD
  split
  · exact ⟨Int.emod_nonneg _ (by omega), Int.emod_lt_of_pos _ h0⟩
  · exact ⟨Int.emod_nonneg _ (by omega), Int.emod_lt_of_pos _ h0⟩
theorem takeX_range {x c : Int} : 0 ≤ takeX x c ∧ takeX x c < 2147483647 := ⟨Int.emod_nonneg _ (by decide), Int.emod_lt_of_pos _ (by decide)⟩
theorem take_next {g x c many : Int} (hc : CtOk x c) (h : c + 1 < 1000000) : ∃ g' x' c', takeO g x c many = lst3 g' x' c' ∧ CtOk x' c' ∧ c' ≤ c + 1 := by
  unfold takeO
  split
  · exact ⟨_, _, _, rfl, hc, by omega⟩
  · exact ⟨_, _, _, rfl, ⟨takeX_range.1, takeX_range.2, by have := hc.2.2.1; omega, h⟩, Int.le_refl _⟩
theorem ev_gset {env : Ev} {st : Sto} {i k jn : Nat} {xs : List D} {j : Int} {d : D} (he : env[i]? = some (some (.ref k))) (hk : st[k]? = some (.lst xs)) (hj : L2.ixN xs.length j = some jn) :
    gSet (eVar i) (eC (.int j)) d env st = some (env, st.set k (.lst (xs.set jn d))) := by
  unfold gSet eVar eC
  rw [he]
  simp only [R.bind, hk, hj]
theorem lst_at {st : Sto} {k : Nat} {xs : List D} (h : st[k]? = some (.lst xs)) : seqOf st (.ref k) = some xs := by
  unfold seqOf lstOf
  simp only [h]
theorem modI {st : Sto} {i j : Int} (h : 0 < j) : dMod (.int i) (.int j) st = .ok (.int (i % j)) st := if_pos h
theorem divI {st : Sto} {i j : Int} (h : 0 < j) (h2 : j < 1000000000000000000000) : dDiv (.int i) (.int j) st = .ok (.int (i / j)) st := if_pos ⟨h, h2⟩
theorem powI {st : Sto} {i j : Int} (h : 0 ≤ j) (h2 : j ≤ 1000000) (h3 : i.natAbs < 18446744073709551616) : dPow (.int i) (.int j) st = .ok (.int (i ^ j.toNat)) st := if_pos ⟨h, h2, h3⟩
theorem bag_take {st : Sto} {k : Nat} {g x c many : Int} {m : Fm}
    (body : SM) (hm : m = mkFn 2 3 body)
    (hb : body = sSeq (sIf (tOf (eBin dGt (eBin dIx (eVar 0) (eC (.int 0))) (eC (.int 0)))) (sSeq (sSet 2 (eBin dMod (eBin dIx (eVar 0) (eC (.int 0))) (eVar 1))) (sSeq (sAsg (eBin dDiv (eBin dIx (eVar 0) (eC (.int 0))) (eVar 1)) (gSet (eVar 0) (eC (.int 0)))) (sRet (eVar 2)))) sSkip)
      (sSeq (sAsg (eBin dAdd (eBin dIx (eVar 0) (eC (.int 2))) (eC (.int 1))) (gSet (eVar 0) (eC (.int 2))))
      (sSeq (sAsg (eBin dMod (eBin dAdd (eBin dAdd (eBin dMul (eBin dIx (eVar 0) (eC (.int 1))) (eC (.int 48271))) (eBin dMul (eBin dMul (eC (.int 7919)) (eBin dIx (eVar 0) (eC (.int 2)))) (eBin dIx (eVar 0) (eC (.int 2))))) (eC (.int 11))) (eC (.int 2147483647))) (gSet (eVar 0) (eC (.int 1))))
      (sRet (eBin dMod (eBin dMod (eBin dPow (eBin dDiv (eBin dIx (eVar 0) (eC (.int 1))) (eC (.int 8))) (eC (.int 3))) (eC (.int 2147483629))) (eVar 1))))))
    (h : st[k]? = some (lst3 g x c)) (hc : CtOk x c) (h0 : 0 < many) (h1 : many < 1000000000000000000000) : m [.ref k, .int many] st = .ok (.int (takeD g x c many)) (st.set k (takeO g x c many)) := by
  have hk : k < st.length := (List.getElem?_eq_some_iff.mp h).1
  have a0 := ixS (st := st) (v := .ref k) (i := 0) (d := .int g) (lst_at h) rfl
  have a2 := ixS (st := st) (v := .ref k) (i := 2) (d := .int c) (lst_at h) rfl
  subst hm hb
  by_cases hg : 0 < g
  · simp only [ev_var, ev_c, ev_un, ev_bin, ev_anil, ev_acons, ev_fn, ev_tof, ev_tob, ev_tand, ev_tor, ev_tnot, ev_and, ev_or, ev_not, ev_if, ev_chain, ev_true, ev_slice, ev_onone, ev_osome, ev_iseq, ev_irng, ev_ienum, ev_ibin, ev_lc, ev_skip, ev_never, ev_seq, ev_ret, ev_sif, ev_set, ev_expr, ev_asg, ev_par, ev_for, ev_fld, ev_gn, ev_gsnil, ev_gscons, ev_gt, ev_mkfn, ev_bok, ev_berr, ev_bfail, ev_tok, ev_hok, ev_ert, ev_enx, ev_wn, ev_wc, ev_e0, ev_sseq, ev_senum, ev_szip, ev_sltup, ev_ltI, ev_leI, ev_gtI, ev_geI, ev_subI, ev_addI, ev_lenT, List.map_cons, List.map_nil, List.length_cons, List.length_nil, List.cons_append, List.nil_append, List.append_nil, List.getElem?_cons_zero, List.getElem?_cons_succ, List.set_cons_zero, List.set_cons_succ, List.replicate_succ, List.replicate_zero, Nat.reduceAdd, Nat.reduceSub, Nat.reduceEqDiff, reduceIte, Bool.true_eq_false, Bool.false_eq_true, if_true, if_false, a0, decide_eq_true hg, modI h0, divI h0 h1]
    rw [ev_gset rfl h (jn := 0) rfl]
    simp only [ev_var, ev_c, ev_un, ev_bin, ev_anil, ev_acons, ev_fn, ev_tof, ev_tob, ev_tand, ev_tor, ev_tnot, ev_and, ev_or, ev_not, ev_if, ev_chain, ev_true, ev_slice, ev_onone, ev_osome, ev_iseq, ev_irng, ev_ienum, ev_ibin, ev_lc, ev_skip, ev_never, ev_seq, ev_ret, ev_sif, ev_set, ev_expr, ev_asg, ev_par, ev_for, ev_fld, ev_gn, ev_gsnil, ev_gscons, ev_gt, ev_mkfn, ev_bok, ev_berr, ev_bfail, ev_tok, ev_hok, ev_ert, ev_enx, ev_wn, ev_wc, ev_e0, ev_sseq, ev_senum, ev_szip, ev_sltup, ev_ltI, ev_leI, ev_gtI, ev_geI, ev_subI, ev_addI, ev_lenT, List.map_cons, List.map_nil, List.length_cons, List.length_nil, List.cons_append, List.nil_append, List.append_nil, List.getElem?_cons_zero, List.getElem?_cons_succ, List.set_cons_zero, List.set_cons_succ, List.replicate_succ, List.replicate_zero, Nat.reduceAdd, Nat.reduceSub, Nat.reduceEqDiff, reduceIte, Bool.true_eq_false, Bool.false_eq_true, if_true, if_false]
    unfold takeD takeO
    rw [if_pos hg, if_pos hg]
    rfl
  · obtain ⟨c1, c2, c3, c4⟩ := hc
    simp only [ev_var, ev_c, ev_un, ev_bin, ev_anil, ev_acons, ev_fn, ev_tof, ev_tob, ev_tand, ev_tor, ev_tnot, ev_and, ev_or, ev_not, ev_if, ev_chain, ev_true, ev_slice, ev_onone, ev_osome, ev_iseq, ev_irng, ev_ienum, ev_ibin, ev_lc, ev_skip, ev_never, ev_seq, ev_ret, ev_sif, ev_set, ev_expr, ev_asg, ev_par, ev_for, ev_fld, ev_gn, ev_gsnil, ev_gscons, ev_gt, ev_mkfn, ev_bok, ev_berr, ev_bfail, ev_tok, ev_hok, ev_ert, ev_enx, ev_wn, ev_wc, ev_e0, ev_sseq, ev_senum, ev_szip, ev_sltup, ev_ltI, ev_leI, ev_gtI, ev_geI, ev_subI, ev_addI, ev_lenT, List.map_cons, List.map_nil, List.length_cons, List.length_nil, List.cons_append, List.nil_append, List.append_nil, List.getElem?_cons_zero, List.getElem?_cons_succ, List.set_cons_zero, List.set_cons_succ, List.replicate_succ, List.replicate_zero, Nat.reduceAdd, Nat.reduceSub, Nat.reduceEqDiff, reduceIte, Bool.true_eq_false, Bool.false_eq_true, if_true, if_false, a0, decide_eq_false hg, a2]
    rw [ev_gset rfl h (jn := 2) rfl]
    simp only [ev_var, ev_c, ev_un, ev_bin, ev_anil, ev_acons, ev_fn, ev_tof, ev_tob, ev_tand, ev_tor, ev_tnot, ev_and, ev_or, ev_not, ev_if, ev_chain, ev_true, ev_slice, ev_onone, ev_osome, ev_iseq, ev_irng, ev_ienum, ev_ibin, ev_lc, ev_skip, ev_never, ev_seq, ev_ret, ev_sif, ev_set, ev_expr, ev_asg, ev_par, ev_for, ev_fld, ev_gn, ev_gsnil, ev_gscons, ev_gt, ev_mkfn, ev_bok, ev_berr, ev_bfail, ev_tok, ev_hok, ev_ert, ev_enx, ev_wn, ev_wc, ev_e0, ev_sseq, ev_senum, ev_szip, ev_sltup, ev_ltI, ev_leI, ev_gtI, ev_geI, ev_subI, ev_addI, ev_lenT, List.map_cons, List.map_nil, List.length_cons, List.length_nil, List.cons_append, List.nil_append, List.append_nil, List.getElem?_cons_zero, List.getElem?_cons_succ, List.set_cons_zero, List.set_cons_succ, List.replicate_succ, List.replicate_zero, Nat.reduceAdd, Nat.reduceSub, Nat.reduceEqDiff, reduceIte, Bool.true_eq_false, Bool.false_eq_true, if_true, if_false]
    obtain ⟨st1, hs1⟩ : ∃ s, s = st.set k (.lst [D.int g, .int x, .int (c + 1)]) := ⟨_, rfl⟩
    rw [← hs1]
    have hk1 : k < st1.length := by rw [hs1, List.length_set]; exact hk
    have e1 : st1[k]? = some (.lst [D.int g, .int x, .int (c + 1)]) := by rw [hs1]; exact get_set hk
    have b1 := ixS (st := st1) (v := .ref k) (i := 1) (d := .int x) (lst_at e1) rfl
    have b2 := ixS (st := st1) (v := .ref k) (i := 2) (d := .int (c + 1)) (lst_at e1) rfl
    simp only [ev_var, ev_c, ev_un, ev_bin, ev_anil, ev_acons, ev_fn, ev_tof, ev_tob, ev_tand, ev_tor, ev_tnot, ev_and, ev_or, ev_not, ev_if, ev_chain, ev_true, ev_slice, ev_onone, ev_osome, ev_iseq, ev_irng, ev_ienum, ev_ibin, ev_lc, ev_skip, ev_never, ev_seq, ev_ret, ev_sif, ev_set, ev_expr, ev_asg, ev_par, ev_for, ev_fld, ev_gn, ev_gsnil, ev_gscons, ev_gt, ev_mkfn, ev_bok, ev_berr, ev_bfail, ev_tok, ev_hok, ev_ert, ev_enx, ev_wn, ev_wc, ev_e0, ev_sseq, ev_senum, ev_szip, ev_sltup, ev_ltI, ev_leI, ev_gtI, ev_geI, ev_subI, ev_addI, ev_lenT, List.map_cons, List.map_nil, List.length_cons, List.length_nil, List.cons_append, List.nil_append, List.append_nil, List.getElem?_cons_zero, List.getElem?_cons_succ, List.set_cons_zero, List.set_cons_succ, List.replicate_succ, List.replicate_zero, Nat.reduceAdd, Nat.reduceSub, Nat.reduceEqDiff, reduceIte, Bool.true_eq_false, Bool.false_eq_true, if_true, if_false, b1, b2, mulI (i := x) (j := 48271) c1 (by omega), mulI (i := 7919) (j := c + 1) (by omega) (by omega), mulI (i := 7919 * (c + 1)) (j := c + 1) (by omega) (by omega), modI (j := 2147483647) (by decide)]
    rw [ev_gset rfl e1 (jn := 1) rfl]
    simp only [ev_var, ev_c, ev_un, ev_bin, ev_anil, ev_acons, ev_fn, ev_tof, ev_tob, ev_tand, ev_tor, ev_tnot, ev_and, ev_or, ev_not, ev_if, ev_chain, ev_true, ev_slice, ev_onone, ev_osome, ev_iseq, ev_irng, ev_ienum, ev_ibin, ev_lc, ev_skip, ev_never, ev_seq, ev_ret, ev_sif, ev_set, ev_expr, ev_asg, ev_par, ev_for, ev_fld, ev_gn, ev_gsnil, ev_gscons, ev_gt, ev_mkfn, ev_bok, ev_berr, ev_bfail, ev_tok, ev_hok, ev_ert, ev_enx, ev_wn, ev_wc, ev_e0, ev_sseq, ev_senum, ev_szip, ev_sltup, ev_ltI, ev_leI, ev_gtI, ev_geI, ev_subI, ev_addI, ev_lenT, List.map_cons, List.map_nil, List.length_cons, List.length_nil, List.cons_append, List.nil_append, List.append_nil, List.getElem?_cons_zero, List.getElem?_cons_succ, List.set_cons_zero, List.set_cons_succ, List.replicate_succ, List.replicate_zero, Nat.reduceAdd, Nat.reduceSub, Nat.reduceEqDiff, reduceIte, Bool.true_eq_false, Bool.false_eq_true, if_true, if_false]
    obtain ⟨st2, hs2⟩ : ∃ s, s = st1.set k (.lst [D.int g, .int ((x * 48271 + 7919 * (c + 1) * (c + 1) + 11) % 2147483647), .int (c + 1)]) := ⟨_, rfl⟩
    rw [← hs2]
    have e2 : st2[k]? = some (.lst [D.int g, .int (takeX x c), .int (c + 1)]) := by rw [hs2]; exact get_set hk1
    have b3 := ixS (st := st2) (v := .ref k) (i := 1) (d := .int (takeX x c)) (lst_at e2) rfl
    have hx := takeX_range (x := x) (c := c)
    have hx8 : (takeX x c / 8).natAbs < 18446744073709551616 := by omega
    simp only [ev_var, ev_c, ev_un, ev_bin, ev_anil, ev_acons, ev_fn, ev_tof, ev_tob, ev_tand, ev_tor, ev_tnot, ev_and, ev_or, ev_not, ev_if, ev_chain, ev_true, ev_slice, ev_onone, ev_osome, ev_iseq, ev_irng, ev_ienum, ev_ibin, ev_lc, ev_skip, ev_never, ev_seq, ev_ret, ev_sif, ev_set, ev_expr, ev_asg, ev_par, ev_for, ev_fld, ev_gn, ev_gsnil, ev_gscons, ev_gt, ev_mkfn, ev_bok, ev_berr, ev_bfail, ev_tok, ev_hok, ev_ert, ev_enx, ev_wn, ev_wc, ev_e0, ev_sseq, ev_senum, ev_szip, ev_sltup, ev_ltI, ev_leI, ev_gtI, ev_geI, ev_subI, ev_addI, ev_lenT, List.map_cons, List.map_nil, List.length_cons, List.length_nil, List.cons_append, List.nil_append, List.append_nil, List.getElem?_cons_zero, List.getElem?_cons_succ, List.set_cons_zero, List.set_cons_succ, List.replicate_succ, List.replicate_zero, Nat.reduceAdd, Nat.reduceSub, Nat.reduceEqDiff, reduceIte, Bool.true_eq_false, Bool.false_eq_true, if_true, if_false, b3, divI (i := takeX x c) (j := 8) (by decide) (by decide), powI (j := 3) (by decide) (by decide) hx8, modI (j := 2147483629) (by decide), modI h0]
    unfold takeD takeO
    rw [if_neg hg, if_neg hg, hs2, hs1, List.set_set]
    rfl
theorem good3 {st : Sto} {k : Nat} {g x c : Int} (gd : Good st) : Good (st.set k (lst3 g x c)) := good_set gd (by simp [lst3, BndO, Bnds, Bnd])
theorem s_take_tells {m : Fm} (h : ∀ {st : Sto} {k : Nat} {g x c many : Int}, st[k]? = some (lst3 g x c) → CtOk x c → 0 < many → many < 1000000000000000000000 → m [.ref k, .int many] st = .ok (.int (takeD g x c many)) (st.set k (takeO g x c many))) : Tells m s_take := .wr fun ds st d st1 gd b hl hf => by
  match ds, hl, hf with
  | [.ref k, .int many], _, hf =>
    have h' : (match (st[k]?).bind int3 with | some (g, x, c) => if CtOk x c ∧ 0 < many ∧ many < 1000000000000000000000 then some (D.int (takeD g x c many), st.set k (takeO g x c many)) else none | none => none) = some (d, st1) := hf
    split at h'
    · rename_i g x c q
      obtain ⟨o, ho, hi⟩ := Option.bind_eq_some_iff.mp q
      have e := int3_eq hi
      subst e
      split at h'
      · rename_i hc
        cases h'
        refine ⟨by simp, ?_, by simp only [Bnd], [], by rw [List.append_nil]; exact h ho hc.1 hc.2.1 hc.2.2⟩
        unfold takeO
        split <;> exact good3 gd
      · cases h'
    · cases h'
def cellI (ns : List Int) (k : Nat) : Int := ns.getD k 0
def absI (i : Int) : Int := if i < 0 then -i else i
def bagG (c : Int) : Int := if 1000000000000000000 ≤ absI c then absI c else 0
def primes : List Int := [2147483629, 2147483587, 2147483579, 2147483563, 2147483549, 2147483543, 2147483497, 2147483489]
def bagX (c : Int) (k : Nat) : Int := (c % 2147483647 + 104729 * (k : Int) + 7) ^ 5 % primes.getD (k % 8) 1
theorem bagX_range (c : Int) (k : Nat) : 0 ≤ bagX c k ∧ bagX c k < 2147483647 := by
  have h : ∀ j, j < 8 → 0 < primes.getD j 1 ∧ primes.getD j 1 < 2147483647 := by decide
  obtain ⟨h1, h2⟩ := h (k % 8) (Nat.mod_lt _ (by decide))
  unfold bagX
  exact ⟨Int.emod_nonneg _ (by omega), Int.lt_trans (Int.emod_lt_of_pos _ h1) h2⟩
def intsOf : List D → Option (List Int)
  | [] => some []
  | .int i :: r => (intsOf r).map (i :: ·)
  | _ :: _ => none
theorem intsOf_map : ∀ ns : List Int, intsOf (ns.map D.int) = some ns
  | [] => rfl
  | i :: ns => by simp only [List.map_cons, intsOf, intsOf_map ns, Option.map_some]
theorem intsOf_eq : ∀ {xs : List D} {ns : List Int}, intsOf xs = some ns → xs = ns.map D.int
  | [], _, h => by cases h; rfl
  | .int i :: r, ns, h => by
    obtain ⟨vs, e, rfl⟩ := Option.map_eq_some_iff.mp (show (intsOf r).map (i :: ·) = some ns from h)
    rw [intsOf_eq e]
    rfl
  | .non :: _, _, h => by cases h
  | .bl _ :: _, _, h => by cases h
  | .str _ :: _, _, h => by cases h
  | .tup _ :: _, _, h => by cases h
  | .ref _ :: _, _, h => by cases h
def s_bag : Fm := nw 2 fun ds st => match ds with
  | [.ref n, .int k] => match (lstOf st n).bind intsOf with
    | some ns => if 0 ≤ k ∧ k < 1000000 ∧ ns.length ≤ 1000000 then some (lst3 (bagG (cellI ns k.toNat)) (bagX (cellI ns k.toNat) k.toNat) 0) else none
    | none => none
  | _ => none
theorem bag_of {st : Sto} {n k : Nat} {ns : List Int} (h : lstOf st n = some (ns.map D.int)) (hk : k < 1000000) (hn : ns.length ≤ 1000000) : s_bag [.ref n, .int k] st = .ok (.ref st.length) (st ++ [lst3 (bagG (cellI ns k)) (bagX (cellI ns k) k) 0]) := by
  refine nw_ok rfl ?_
  show (match (lstOf st n).bind intsOf with | some ns => if 0 ≤ (k : Int) ∧ (k : Int) < 1000000 ∧ ns.length ≤ 1000000 then some (lst3 (bagG (cellI ns (k : Int).toNat)) (bagX (cellI ns (k : Int).toNat) (k : Int).toNat) 0) else none | none => none) = _
  rw [h, Option.bind_some, intsOf_map]
  show (if 0 ≤ (k : Int) ∧ (k : Int) < 1000000 ∧ ns.length ≤ 1000000 then some (lst3 (bagG (cellI ns (k : Int).toNat)) (bagX (cellI ns (k : Int).toNat) (k : Int).toNat) 0) else none) = _
  rw [if_pos ⟨by omega, by omega, hn⟩, Int.toNat_natCast]
def bagT : SM := sSeq (sSet 4 (eFn mkLst (aCons (eC (.int 2147483629)) (aCons (eC (.int 2147483587)) (aCons (eC (.int 2147483579)) (aCons (eC (.int 2147483563)) (aCons (eC (.int 2147483549)) (aCons (eC (.int 2147483543)) (aCons (eC (.int 2147483497)) (aCons (eC (.int 2147483489)) aNil))))))))))
  (sRet (eFn mkLst (aCons (eVar 3) (aCons (eBin dMod (eBin dPow (eBin dAdd (eBin dAdd (eBin dMod (eVar 2) (eC (.int 2147483647))) (eBin dMul (eC (.int 104729)) (eVar 1))) (eC (.int 7))) (eC (.int 5))) (eBin dIx (eVar 4) (eBin dMod (eVar 1) (eC (.int 8))))) (aCons (eC (.int 0)) aNil)))))
def bagM : SM := sSeq (sSet 3 (eC (.int 0)))
  (sSeq (sIf (tOf (eBin dGe (eFn fAbs (aCons (eVar 2) aNil)) (eBin dPow (eC (.int 10)) (eC (.int 18))))) (sSet 3 (eFn fAbs (aCons (eVar 2) aNil))) sSkip) bagT)
def bagB : SM := sSeq (sSet 2 (eC (.int 0)))
  (sSeq (sIf (tOf (eBin dLt (eVar 1) (eFn fLen (aCons (eVar 0) aNil)))) (sSet 2 (eBin dIx (eVar 0) (eVar 1))) sSkip) bagM)
section
variable {st : Sto} {n j : Nat} {ns : List Int}
theorem bagT_ev {cell gg : Int} (hj : (j : Int) < 1000000) (hc : cell = cellI ns j) (hgg : gg = bagG (cellI ns j)) : endFn (bagT [some (.ref n), some (.int j), some (.int cell), some (.int gg), none] st) = .ok (.ref (st.length + 1)) (st ++ [.lst (primes.map D.int), lst3 (bagG (cellI ns j)) (bagX (cellI ns j) j) 0]) := by
  have hmod : 0 ≤ cell % 2147483647 ∧ cell % 2147483647 < 2147483647 := ⟨Int.emod_nonneg _ (by decide), Int.emod_lt_of_pos _ (by decide)⟩
  have hl8 : ∀ s : Sto, mkLst [.int 2147483629, .int 2147483587, .int 2147483579, .int 2147483563, .int 2147483549, .int 2147483543, .int 2147483497, .int 2147483489] s = .ok (.ref s.length) (s ++ [.lst (primes.map D.int)]) := fun s => if_pos (show 8 ≤ most by decide)
  have hl3 : ∀ (a b c : D) (s : Sto), mkLst [a, b, c] s = .ok (.ref s.length) (s ++ [.lst [a, b, c]]) := fun a b c s => if_pos (show 3 ≤ most by decide)
  have hj8 : (j : Int) % 8 = ((j % 8 : Nat) : Int) := by omega
  have hpr : dIx (.ref st.length) (.int ((j : Int) % 8)) (st ++ [.lst (primes.map D.int)]) = .ok (.int (primes.getD (j % 8) 1)) (st ++ [.lst (primes.map D.int)]) := by
    refine ixS (vs := primes.map D.int) (by unfold seqOf; simp only [lstOf_end]) ?_
    rw [hj8]
    refine L2.atI_nat ?_
    have h8 : j % 8 < primes.length := Nat.mod_lt _ (by decide)
    rw [List.getElem?_map, List.getElem?_eq_getElem h8, List.getD, List.getElem?_eq_getElem h8]
    rfl
  have hpp : 0 < primes.getD (j % 8) 1 := by
    have h : ∀ j, j < 8 → 0 < primes.getD j 1 := by decide
    exact h (j % 8) (Nat.mod_lt _ (by decide))
  simp only [bagT, ev_var, ev_c, ev_un, ev_bin, ev_anil, ev_acons, ev_fn, ev_tof, ev_tob, ev_tand, ev_tor, ev_tnot, ev_and, ev_or, ev_not, ev_if, ev_chain, ev_true, ev_slice, ev_onone, ev_osome, ev_iseq, ev_irng, ev_ienum, ev_ibin, ev_lc, ev_skip, ev_never, ev_seq, ev_ret, ev_sif, ev_set, ev_expr, ev_asg, ev_par, ev_for, ev_fld, ev_gn, ev_gsnil, ev_gscons, ev_gt, ev_mkfn, ev_bok, ev_berr, ev_bfail, ev_tok, ev_hok, ev_ert, ev_enx, ev_wn, ev_wc, ev_e0, ev_sseq, ev_senum, ev_szip, ev_sltup, ev_ltI, ev_leI, ev_gtI, ev_geI, ev_subI, ev_addI, ev_lenT, List.map_cons, List.map_nil, List.length_cons, List.length_nil, List.cons_append, List.nil_append, List.append_nil, List.getElem?_cons_zero, List.getElem?_cons_succ, List.set_cons_zero, List.set_cons_succ, List.replicate_succ, List.replicate_zero, Nat.reduceAdd, Nat.reduceSub, Nat.reduceEqDiff, reduceIte, Bool.true_eq_false, Bool.false_eq_true, if_true, if_false, hl8, modI (j := 2147483647) (by decide), mulI (i := 104729) (j := (j : Int)) (by decide) (by omega), powI (j := 5) (by decide) (by decide) (show (cell % 2147483647 + 104729 * (j : Int) + 7).natAbs < 18446744073709551616 by omega), modI (j := 8) (by decide), hpr, modI hpp, hl3]
  rw [hgg, hc]
  simp only [List.length_append, List.length_cons, List.length_nil, List.append_assoc, List.cons_append, List.nil_append]
  rfl
theorem bagM_ev {cell : Int} (hj : (j : Int) < 1000000) (hc : cell = cellI ns j) : endFn (bagM [some (.ref n), some (.int j), some (.int cell), none, none] st) = .ok (.ref (st.length + 1)) (st ++ [.lst (primes.map D.int), lst3 (bagG (cellI ns j)) (bagX (cellI ns j) j) 0]) := by
  have hp : ∀ (s : Sto), dPow (.int 10) (.int 18) s = .ok (.int 1000000000000000000) s := fun s => by rw [powI (by decide) (by decide) (by decide)]; rfl
  have ha : ∀ (s : Sto), fAbs [.int cell] s = .ok (.int (absI cell)) s := fun s => rfl
  by_cases hb : 1000000000000000000 ≤ absI cell
  · have := bagT_ev (st := st) (n := n) (gg := absI cell) hj hc (by rw [← hc]; unfold bagG; rw [if_pos hb])
    simp only [bagM, ev_var, ev_c, ev_un, ev_bin, ev_anil, ev_acons, ev_fn, ev_tof, ev_tob, ev_tand, ev_tor, ev_tnot, ev_and, ev_or, ev_not, ev_if, ev_chain, ev_true, ev_slice, ev_onone, ev_osome, ev_iseq, ev_irng, ev_ienum, ev_ibin, ev_lc, ev_skip, ev_never, ev_seq, ev_ret, ev_sif, ev_set, ev_expr, ev_asg, ev_par, ev_for, ev_fld, ev_gn, ev_gsnil, ev_gscons, ev_gt, ev_mkfn, ev_bok, ev_berr, ev_bfail, ev_tok, ev_hok, ev_ert, ev_enx, ev_wn, ev_wc, ev_e0, ev_sseq, ev_senum, ev_szip, ev_sltup, ev_ltI, ev_leI, ev_gtI, ev_geI, ev_subI, ev_addI, ev_lenT, List.map_cons, List.map_nil, List.length_cons, List.length_nil, List.cons_append, List.nil_append, List.append_nil, List.getElem?_cons_zero, List.getElem?_cons_succ, List.set_cons_zero, List.set_cons_succ, List.replicate_succ, List.replicate_zero, Nat.reduceAdd, Nat.reduceSub, Nat.reduceEqDiff, reduceIte, Bool.true_eq_false, Bool.false_eq_true, if_true, if_false, ha, hp, decide_eq_true hb]
    exact this
  · have := bagT_ev (st := st) (n := n) (gg := 0) hj hc (by rw [← hc]; unfold bagG; rw [if_neg hb])
    simp only [bagM, ev_var, ev_c, ev_un, ev_bin, ev_anil, ev_acons, ev_fn, ev_tof, ev_tob, ev_tand, ev_tor, ev_tnot, ev_and, ev_or, ev_not, ev_if, ev_chain, ev_true, ev_slice, ev_onone, ev_osome, ev_iseq, ev_irng, ev_ienum, ev_ibin, ev_lc, ev_skip, ev_never, ev_seq, ev_ret, ev_sif, ev_set, ev_expr, ev_asg, ev_par, ev_for, ev_fld, ev_gn, ev_gsnil, ev_gscons, ev_gt, ev_mkfn, ev_bok, ev_berr, ev_bfail, ev_tok, ev_hok, ev_ert, ev_enx, ev_wn, ev_wc, ev_e0, ev_sseq, ev_senum, ev_szip, ev_sltup, ev_ltI, ev_leI, ev_gtI, ev_geI, ev_subI, ev_addI, ev_lenT, List.map_cons, List.map_nil, List.length_cons, List.length_nil, List.cons_append, List.nil_append, List.append_nil, List.getElem?_cons_zero, List.getElem?_cons_succ, List.set_cons_zero, List.set_cons_succ, List.replicate_succ, List.replicate_zero, Nat.reduceAdd, Nat.reduceSub, Nat.reduceEqDiff, reduceIte, Bool.true_eq_false, Bool.false_eq_true, if_true, if_false, ha, hp, decide_eq_false hb]
    exact this
end
theorem s_bag_tells {m : Fm} (hm : m = mkFn 2 5 bagB) : Tells m s_bag := .nw fun ds st o g b hl h => by
  subst hm
  match ds, hl, h with
  | [.ref n, .int k], _, h =>
    have h' : (match (lstOf st n).bind intsOf with | some ns => if 0 ≤ k ∧ k < 1000000 ∧ ns.length ≤ 1000000 then some (lst3 (bagG (cellI ns k.toNat)) (bagX (cellI ns k.toNat) k.toNat) 0) else none | none => none) = some o := h
    split at h'
    · rename_i ns q
      split at h'
      · rename_i hk
        cases h'
        obtain ⟨xs, hx, hi⟩ := Option.bind_eq_some_iff.mp q
        have ex := intsOf_eq hi
        subst ex
        obtain ⟨hk0, hk1, hn⟩ := hk
        obtain ⟨j, rfl⟩ := Int.eq_ofNat_of_zero_le hk0
        simp only [Int.toNat_natCast]
        refine ⟨by simp [lst3, BndO, Bnds, Bnd], [.lst (primes.map D.int), lst3 (bagG (cellI ns j)) (bagX (cellI ns j) j) 0], 1, rfl, ?_⟩
        have hlen : fLen [.ref n] st = .ok (.int ns.length) st := by
          unfold fLen seqOf
          simp only [hx, List.length_map]
        by_cases hj : j < ns.length
        · have hix : dIx (.ref n) (.int j) st = .ok (.int (cellI ns j)) st := by
            refine ixS (vs := ns.map D.int) (by unfold seqOf; exact hx) (L2.atI_nat ?_)
            rw [List.getElem?_map, List.getElem?_eq_getElem hj]
            unfold cellI
            rw [List.getD, List.getElem?_eq_getElem hj]
            rfl
          have hd : decide ((j : Int) < (ns.length : Int)) = true := decide_eq_true (by omega)
          simp only [bagB, ev_var, ev_c, ev_un, ev_bin, ev_anil, ev_acons, ev_fn, ev_tof, ev_tob, ev_tand, ev_tor, ev_tnot, ev_and, ev_or, ev_not, ev_if, ev_chain, ev_true, ev_slice, ev_onone, ev_osome, ev_iseq, ev_irng, ev_ienum, ev_ibin, ev_lc, ev_skip, ev_never, ev_seq, ev_ret, ev_sif, ev_set, ev_expr, ev_asg, ev_par, ev_for, ev_fld, ev_gn, ev_gsnil, ev_gscons, ev_gt, ev_mkfn, ev_bok, ev_berr, ev_bfail, ev_tok, ev_hok, ev_ert, ev_enx, ev_wn, ev_wc, ev_e0, ev_sseq, ev_senum, ev_szip, ev_sltup, ev_ltI, ev_leI, ev_gtI, ev_geI, ev_subI, ev_addI, ev_lenT, List.map_cons, List.map_nil, List.length_cons, List.length_nil, List.cons_append, List.nil_append, List.append_nil, List.getElem?_cons_zero, List.getElem?_cons_succ, List.set_cons_zero, List.set_cons_succ, List.replicate_succ, List.replicate_zero, Nat.reduceAdd, Nat.reduceSub, Nat.reduceEqDiff, reduceIte, Bool.true_eq_false, Bool.false_eq_true, if_true, if_false, hlen, hd, hix]
          exact bagM_ev hk1 rfl
        · have hd : decide ((j : Int) < (ns.length : Int)) = false := decide_eq_false (by omega)
          simp only [bagB, ev_var, ev_c, ev_un, ev_bin, ev_anil, ev_acons, ev_fn, ev_tof, ev_tob, ev_tand, ev_tor, ev_tnot, ev_and, ev_or, ev_not, ev_if, ev_chain, ev_true, ev_slice, ev_onone, ev_osome, ev_iseq, ev_irng, ev_ienum, ev_ibin, ev_lc, ev_skip, ev_never, ev_seq, ev_ret, ev_sif, ev_set, ev_expr, ev_asg, ev_par, ev_for, ev_fld, ev_gn, ev_gsnil, ev_gscons, ev_gt, ev_mkfn, ev_bok, ev_berr, ev_bfail, ev_tok, ev_hok, ev_ert, ev_enx, ev_wn, ev_wc, ev_e0, ev_sseq, ev_senum, ev_szip, ev_sltup, ev_ltI, ev_leI, ev_gtI, ev_geI, ev_subI, ev_addI, ev_lenT, List.map_cons, List.map_nil, List.length_cons, List.length_nil, List.cons_append, List.nil_append, List.append_nil, List.getElem?_cons_zero, List.getElem?_cons_succ, List.set_cons_zero, List.set_cons_succ, List.replicate_succ, List.replicate_zero, Nat.reduceAdd, Nat.reduceSub, Nat.reduceEqDiff, reduceIte, Bool.true_eq_false, Bool.false_eq_true, if_true, if_false, hlen, hd]
          exact bagM_ev hk1 (by unfold cellI; rw [List.getD, List.getElem?_eq_none (by omega)]; rfl)
      · cases h'
    · cases h'
theorem rngL_length {lo : Int} {n : Nat} : (rngL lo n).length = n := by simp [rngL]
theorem rngL_mem {n : Nat} {x : D} (h : x ∈ rngL 0 n) : ∃ i : Nat, i < n ∧ x = .int (i : Int) := by
  unfold rngL at h
  obtain ⟨i, hi, rfl⟩ := List.mem_map.mp h
  exact ⟨i, List.mem_range.mp hi, by rw [Int.zero_add]⟩
theorem rngL_get {n i : Nat} {x : D} (h : (rngL 0 n)[i]? = some x) : i < n ∧ x = .int (i : Int) := by
  have hi : i < (rngL 0 n).length := (List.getElem?_eq_some_iff.mp h).1
  rw [rngL_length] at hi
  unfold rngL at h
  rw [List.getElem?_map, List.getElem?_range hi] at h
  simp only [Option.map_some, Option.some.injEq, Int.zero_add] at h
  exact ⟨hi, h.symm⟩
theorem rngL_map {α : Type} {n : Nat} {f : D → α} : (rngL 0 n).map f = (List.range n).map fun (i : Nat) => f (.int (i : Int)) := by
  unfold rngL
  rw [List.map_map]
  congr 1
  funext i
  simp only [Function.comp_apply, Int.zero_add]
theorem rng_src {st : Sto} {n : Nat} (h : n ≤ most) : rngSrc (.int (n : Int)) st = .ok (.fix (rngL 0 n)) st := by
  have : n ≤ 1000000 := h
  unfold rngSrc
  simp only
  rw [if_pos (by omega)]
  rfl
theorem dk0 {st : Sto} {d : D} (h : dk [] d = true) : dk st d = true := dk_app (st := []) (ex := st) h
theorem Bnds_bl {n : Nat} : ∀ bs : List Bool, Bnds n (bs.map D.bl)
  | [] => by simp only [List.map_nil, Bnds]
  | b :: bs => by simp only [List.map_cons, Bnds, Bnd]; exact ⟨trivial, Bnds_bl bs⟩
theorem irng_of {a : EM} {env : Ev} {st st1 : Sto} {n : Nat} (h : a env st = .ok (.int (n : Int)) st1) (hn : n ≤ most) : iRng a env st = .ok (.fix (rngL 0 n)) st1 := by
  unfold iRng
  rw [h, ev_bok]
  exact rng_src hn
end U
set_option Elab.async false
set_option linter.all false
set_option maxRecDepth 100000
set_option maxHeartbeats 1000000
namespace U
open PySem PySem.Spec PyProof.Rows L2
theorem RVs_ints {K : PySem.W.Frag} {H : Hp} {m : Pl} : ∀ ns : List Int, RVs K H m (ns.map D.int) (ns.map V.int)
  | [] => .nil
  | n :: ns => .cons .int (RVs_ints ns)
def Script (ob : Ob) (ns : List Int) : Prop := ob = .rol (ns.map D.int) ∨ ob = .kst (ns.map D.int)
theorem Script.at {ob : Ob} {ns : List Int} (h : Script ob ns) {st : Sto} (e : st[0]? = some ob) : lstOf st 0 = some (ns.map D.int) := by
  unfold lstOf
  rw [e]
  rcases h with rfl | rfl <;> rfl
theorem one_store {K : PySem.W.Frag} {H : Hp} {a : Addr} {ob : Ob} (h : OR K H [a] a ob) : SR K H [a] [ob] :=
  ⟨rfl, fun i j _ _ _ hi hj _ _ _ _ => by
    have h1 : i < [a].length := (List.getElem?_eq_some_iff.mp hi).1
    have h2 : j < [a].length := (List.getElem?_eq_some_iff.mp hj).1
    simp at h1 h2
    omega, fun i b o hb ho => by
    have h1 : i < [a].length := (List.getElem?_eq_some_iff.mp hb).1
    have : i = 0 := by simp at h1; omega
    subst this
    cases hb
    cases ho
    exact h⟩
theorem ends {K : PySem.W.Frag} {f : Fm} {H : Hp} {a : Addr} {ns : List Int} (hf : ∀ ob, Script ob ns → ∃ st, f [.ref 0] [ob] = .ok (.bl true) st) (hO : Only H) (hS : SqL K H a (ns.map V.int)) :
    spF K 1 f [.ref a] H (fun v _ => v = .bl true) fun _ _ _ => False := by
  have key : ∀ ob, Script ob ns → OR K H [a] a ob → spF K 1 f [.ref a] H (fun v _ => v = .bl true) fun _ _ _ => False := fun ob hs h => by
    obtain ⟨st, e⟩ := hf ob hs
    refine ⟨rfl, [.ref 0], [a], [ob], .cons (.ref rfl) .nil, one_store h, ?_⟩
    rw [e]
    intro v H' m' _ _ _ r
    cases r
    rfl
  rcases hS with hR | hK
  · rcases hO a with h0 | ⟨o, xs, h0⟩
    · rcases hR with r | ⟨o, r⟩ <;> rw [h0] at r <;> cases r
    · have e : xs = ns.map V.int := by
        rcases hR with r | ⟨o', r⟩
        · rw [h0] at r; cases r
        · rw [h0] at r; cases r; rfl
      subst e
      exact key _ (.inl rfl) ⟨o, _, h0, RVs_ints ns⟩
  · exact key _ (.inr rfl) ⟨_, fun _ => .inr hK, RVs_ints ns⟩
theorem noCX {P : Program} {w : World} (H : Hp) (s : Shared) (e : Value) (s' : Shared) (h : L2.CX P w [] H s (fun _ _ _ => False) e s') : False := by
  obtain ⟨_, _, _, _, _, _, _, _, _, _, _, _, z⟩ := h
  exact z
theorem walkW {law : PySem.W.OpenLaw} {n k : Nat} {q : Program} {loose : List Str} {XP : (Str → Option Value) → Heap → Prop} {YP : World → Heap → Prop} {d : DefRec} {x : Str} (h1 : law.most = some n) (h2 : n ≤ sizeLine) (h3 : d.params.defaults = []) (h4 : Room k callerA)
    (F : ∀ (w : World) (mg : Str → Option Value) (fa : Addr) (h : Heap), YP w h → h.Ns mainGlobals mg → mg d.name = some (.ref fa) → ∃ (K : PySem.W.Frag) (fd : FuncData) (f : Fm), K.In h ∧ (∀ (s : Shared) (u : Value), BindsTo s fd ⟨[u], []⟩ [(x, u)]) ∧ (∀ (ob : Ob) (ns : List Int), ns.length ≤ n → Script ob ns → ∃ st, f [.ref 0] [ob] = .ok (.bl true) st) ∧ ∀ base : Heap, FnOk law.prog w K mg base (L2.CX law.prog w) k fa fd [x] (spF K 1 f)) :
    PySem.W.WalkO q loose XP YP law.row.toRowW d [] (fun f vs => PySem.call f vs) := by
  refine Att.attach_call h1 h3 fun w s0 s1 mg mb fa o pm cd doc a vs ns G Y _ _ _ q1 q2 q3 q4 q5 => ?_
  obtain ⟨K, fd, f, KX, hb, hf, hF⟩ := F w mg fa _ Y G.T.g q1
  exact law_call KX G.T.g G.T.b G.T.builtins G.T.nolimit q5 q2 q3 (Nat.le_trans q4 h2) h4 (fun base _ _ => hF base) hb (fun H hO hS => ends (fun ob hs => hf ob ns q4 hs) hO hS) fun H e s' z => noCX H s1 e s' z
end U
set_option Elab.async false
set_option linter.all false
set_option maxRecDepth 100000
set_option maxHeartbeats 4000000
namespace U
open PySem PySem.Spec PyProof.Rows L2
inductive Arg where
  | at (i : Nat)
  | df (d : D)
def pick : List Arg → List D → Option (List D)
  | [], _ => some []
  | .at i :: l, ds => match ds[i]? with
    | some d => (pick l ds).map (d :: ·)
    | none => none
  | .df d :: l, ds => (pick l ds).map (d :: ·)
def via (l : List Arg) (f : Fm) : Fm := fun ds st => match pick l ds with
  | some es => f es st
  | none => .fail
def aApp (ga gk : AM) : AM := fun env st => (ga env st).bind fun xs st => (gk env st).bind fun ys st => .ok (xs ++ ys) st
def AL (n : Nat) (g : AM) : Prop := ∀ env st ds st1, g env st = .ok ds st1 → ds.length = n
theorem al_nil : AL 0 aNil := fun _ _ _ _ h => by cases h; rfl
theorem al_cons {n : Nat} {a : EM} {g : AM} (h : AL n g) : AL (n + 1) (aCons a g) := fun env st ds st1 e => by
  unfold aCons at e
  cases q : a env st with
  | ok d s1 =>
    rw [q] at e
    simp only [R.bind] at e
    cases q2 : g env s1 with
    | ok xs s2 =>
      rw [q2] at e
      cases e
      rw [List.length_cons, h _ _ _ _ q2]
    | err c fs s2 => rw [q2] at e; cases e
    | fail => rw [q2] at e; cases e
  | err c fs s1 => rw [q] at e; cases e
  | fail => rw [q] at e; cases e
section
variable {X : Cx} {W : WX} {a e : Expr} {es : List Expr} {kws : List Keyword} {ga gs gk : AM} {ge : EM} {pos p kpos : Pos} {k n np : Nat} {x : Str} {f : Fm} {nm : Option Str}
theorem _root_.L2.PK.imp {X : Cx} {kws : List Keyword} {t t' : TA} (h : PK X kws t) (i : ∀ σ H Q, t' σ H Q → t σ H Q) : PK X kws t' := ⟨fun pos pins s σ H Q I q => h.run pos pins s σ H Q I (i _ _ _ q)⟩
theorem k_nil : PK X [] (rA X.K W aNil) := pk_nil.imp fun σ H Q ⟨env, m, st, hE, hS, hp⟩ => Post.here (v := []) hp hS .nil
theorem k_cons (ha : PE X e (rE X.K W ge)) (hr : PK X kws (rA X.K W gs)) : PK X (⟨nm, e, kpos⟩ :: kws) (rA X.K W (aCons ge gs)) := (pk_cons ha hr).imp fun σ H Q h => by
  obtain ⟨env, m, st, hE, hS, hp⟩ := h
  refine ⟨env, m, st, hE, hS, hp.bind fun d st1 v H1 m1 e1 p1 s1 r1 hp1 => ⟨env, m1, st1, hE.mono e1 p1, s1, hp1.bind fun ds st2 xs H2 m2 e2 p2 s2 r2 hp2 => ?_⟩⟩
  exact Post.here (v := v :: xs) hp2 s2 (.cons (r1.mono e2 p2) r2)
structure FnS (P : Program) (w : World) (K : PySem.W.Frag) (mg : Str → Option Value) (base : Heap) (k : Nat) (x : Str) (n : Nat) (f : Fm) (np : Nat) (ks : List Str) (l : List Arg) : Prop where
  ex : ∃ (a : Addr) (fd : FuncData) (ps : List Str) (g : List Value → List Value → List Value) (gV : List V → List V → List V), FnOk P w K mg base (L2.CX P w) k a fd ps (spF K n f) ∧ mg x = some (.ref a) ∧ PySem.W.keepIn K (.ref a) = true ∧ KBn K fd ps np ks g gV ∧
    ∀ (H : Hp) (m : Pl) (ds es : List D) (vs zs : List V), RVs K H m ds vs → RVs K H m es zs → vs.length = np → zs.length = ks.length → ∃ fs, pick l (ds ++ es) = some fs ∧ RVs K H m fs (gV vs zs)
  ar : Arity n f
theorem e_callN {E : XK} {ks : List Str} {l : List Arg} (F : FnS X.prog X.w X.K X.mg X.base k x n f np ks l) (tk : Takes X (WK E)) (hr : Room k X.A) (la : AL np ga) (lk : AL ks.length gk) (ha : PA X (a :: es) (rA X.K (WK E) ga)) (hkw : PK X kws (rA X.K (WK E) gk)) (hg : Gl X x := by rfl)
    (hall : (backToKw pos (keywordEach kws X.env)).all (·.1.isSome) = true := by rfl) (hks : (backToKw pos (keywordEach kws X.env)).filterMap (·.1) = ks := by rfl)
    (hdb : (x == ("__debug__" : Str)) = false := by decide) (he : starEach (a :: es) X.env = (false, eval a X.env) :: starEach es X.env := by rfl) (hpl : ((backTo pos (starEach (a :: es) X.env)).any (·.1) || (backToKw pos (keywordEach kws X.env)).any (·.1.isNone)) = false := by rfl)
 :
    PE X (.Call (.Name x p) (a :: es) kws pos) (rE X.K (WK E) (eFn (via l f) (aApp ga gk))) := by
  obtain ⟨ad, fd, ps, g, gV, ok, hm, hk, hb, hv⟩ := F.ex
  refine (pe_callN ok hr hg hm hk hb (passes_call tk fun _ _ _ _ h => h) ha hkw hall hks hdb he hpl).imp fun σ H Q h => ?_
  obtain ⟨env, m, st, hE, hS, hp⟩ := h
  have hp' : Post X.K (okV X.K) (WE (WK E) σ) m H Q ((ga env st).bind fun xs st => (gk env st).bind fun ys st => via l f (xs ++ ys) st) := by
    have e : eFn (via l f) (aApp ga gk) env st = ((ga env st).bind fun xs st => (gk env st).bind fun ys st => via l f (xs ++ ys) st) := by
      unfold eFn aApp
      cases ga env st with
      | ok d s1 =>
        simp only [R.bind]
        cases gk env s1 <;> rfl
      | err c fs s1 => rfl
      | fail => rfl
    rw [← e]
    exact hp
  refine ⟨env, m, st, hE, hS, ?_⟩
  cases q1 : ga env st with
  | fail => rw [q1] at hp'; exact hp'.elim
  | err c fs s1 => rw [q1] at hp'; exact hp'
  | ok ds s1 =>
    rw [q1] at hp'
    intro vs H1 m1 e1 p1 s1' r1
    refine ⟨env, m1, s1, hE.mono e1 p1, s1', ?_⟩
    have hp2 : Post X.K (okV X.K) (WE (WK E) σ) m1 H1 Q ((gk env s1).bind fun ys st => via l f (ds ++ ys) st) := Post.up hp' e1 p1
    cases q2 : gk env s1 with
    | fail => rw [q2] at hp2; exact hp2.elim
    | err c fs s2 => rw [q2] at hp2; exact hp2
    | ok es s2 =>
      rw [q2] at hp2
      intro zs H2 m2 e2 p2 s2' r2
      have hp3 : Post X.K (okV X.K) (WE (WK E) σ) m2 H2 Q (via l f (ds ++ es) s2) := Post.up hp2 e2 p2
      have r1' : RVs X.K H2 m2 ds vs := r1.mono e2 p2
      have l1 : vs.length = np := by rw [← RVs.length r1']; exact la _ _ _ _ q1
      have l2 : zs.length = ks.length := by rw [← RVs.length r2]; exact lk _ _ _ _ q2
      obtain ⟨fs, hf, rf⟩ := hv H2 m2 ds es vs zs r1' r2 l1 l2
      unfold via at hp3
      rw [hf] at hp3
      exact ⟨l1, l2, spF_of F.ar s2' rf hp3⟩
end
section
variable {K : PySem.W.Frag} {x qual : Str} {params : Arguments} {body : List Stmt} {scope : Scope} {dvs : List V} {kws : List (Str × V)} {f : Addr} {fd : FuncData} {ps : List Str}
theorem kbinds0 (F : FunD K x qual params body scope [] kws f fd) (n : Nat) (ks : List Str) (ms : List (Str × V)) (g : {α : Type} → List α → List α → List α → List α) (hk : kws ≠ []) (hms : ∀ q ∈ ms, q ∈ kws)
    (hrel : ∀ {vs mz zs : List V} {us mv ws : List Value}, Vals vs us → Vals mz mv → Vals zs ws → Vals (g vs mz zs) (g us mv ws))
    (h : ∀ (D : Addr) (doc pm : Value) (an : Option Addr) (cdv ct : Value) (us mv ws : List Value), us.length = n → mv.length = ms.length → ws.length = ks.length →
      KwChain D ((ms.map (·.1)).zip mv) (bindArgs (PySem.W.fnOf x qual params body scope .none (.ref D) doc pm an cdv ct) ⟨us, ks.zip ws⟩) (ps.zip (g us mv ws))) :
    ∃ mv : List Value, KBn K fd ps n ks (fun us ws => g us mv ws) (fun vs zs => g vs (ms.map (·.2)) zs) := by
  obtain ⟨oc, od, dV, kV, doc, pm, an, cdv, ct, osl, rfl, lk, hcd, hD, hK⟩ := F.ex
  rcases hD with ⟨_, rfl⟩ | ⟨e, _⟩
  · rcases hK with e | ⟨D, rfl, hq⟩
    · exact absurd e hk
    · obtain ⟨mv, hl, rk, hks⟩ := kwd_vals (ms := ms) fun q hm => hq q (hms q hm)
      exact ⟨mv, ⟨fun s us ws X l1 l2 => BindsTo.of_looks fun M => KwChain.looks X hks (h D doc pm an cdv ct us mv ws l1 hl l2), fun r1 r2 => hrel r1 rk r2⟩⟩
  · exact absurd rfl e
end
def permL {α : Type} : List Nat → List α → List α
  | [], _ => []
  | i :: l, xs => match xs[i]? with
    | some x => x :: permL l xs
    | none => permL l xs
theorem vals_get : ∀ {vs : List V} {us : List Value}, Vals vs us → ∀ i : Nat, (vs[i]? = none ∧ us[i]? = none) ∨ ∃ v u, vs[i]? = some v ∧ us[i]? = some u ∧ RelV v u
  | _, _, .nil, i => .inl ⟨by simp, by simp⟩
  | _, _, .cons r rs, 0 => .inr ⟨_, _, rfl, rfl, r⟩
  | _, _, .cons r rs, i + 1 => by simpa using vals_get rs i
theorem vals_perm : ∀ (l : List Nat) {vs : List V} {us : List Value}, Vals vs us → Vals (permL l vs) (permL l us)
  | [], _, _, _ => .nil
  | i :: l, vs, us, r => by
    unfold permL
    rcases vals_get r i with ⟨h1, h2⟩ | ⟨v, u, h1, h2, h3⟩
    · rw [h1, h2]; exact vals_perm l r
    · rw [h1, h2]; exact .cons h3 (vals_perm l r)
theorem RVs.inv1 {K : PySem.W.Frag} {H : Hp} {m : Pl} {ds : List D} {v : V} {vs : List V} (h : RVs K H m ds (v :: vs)) : ∃ d es, ds = d :: es ∧ RV K H m d v ∧ RVs K H m es vs := by
  cases h with
  | cons h1 h2 => exact ⟨_, _, rfl, h1, h2⟩
theorem RVs.inv0 {K : PySem.W.Frag} {H : Hp} {m : Pl} {ds : List D} (h : RVs K H m ds []) : ds = [] := by cases h; rfl
def kwAt (f : Str × Option Str) (x : Str) (K : PySem.W.Frag) : Addr := match K.lookup (He.fAd K f) with
  | some ⟨_, _, .func fd, _⟩ => (match fd.kwdefaults with
    | .ref D => (match PySem.W.nsIn K D x with
      | some (some (.ref a)) => a
      | _ => 0)
    | _ => 0)
  | _ => 0
def etupB (a : PySem.W.Frag → Addr) (K : PySem.W.Frag) : Bool := match K.lookup (a K) with
  | some ⟨.type c, _, .seq its _, _⟩ => decide (c = "tuple") && decide (its.toList = [])
  | _ => false
theorem etup_ok {K : PySem.W.Frag} {a : PySem.W.Frag → Addr} (h : etupB a K = true) (H : Hp) : SqT K H (a K) [] := by
  unfold etupB at h
  split at h
  · rename_i c d its n sl q
    simp only [Bool.and_eq_true, decide_eq_true_eq] at h
    obtain ⟨rfl, h2⟩ := h
    refine .inr ⟨_, its, n, q, rfl, rfl, ?_, ?_⟩
    · have : its.size = 0 := by rw [← Array.length_toList, h2]; rfl
      rw [this]
      exact Nat.zero_le _
    · rw [h2]; exact .nil
  · cases h
def exOk (xs : List (PySem.W.Frag → Bool)) (K : PySem.W.Frag) : Bool := xs.all fun f => f K
theorem exOk_at {xs : List (PySem.W.Frag → Bool)} {K : PySem.W.Frag} (h : exOk xs K = true) (i : Nat) {f : PySem.W.Frag → Bool} (e : xs[i]? = some f) : f K = true := List.all_eq_true.mp h f (List.mem_of_getElem? e)
end U
set_option Elab.async false
set_option linter.all false
set_option maxRecDepth 100000
set_option maxHeartbeats 4000000
namespace U
open PySem PySem.Spec PyProof.Rows L2
def rSortedT (K : PySem.W.Frag) : List V → Hp → VK → Prop := fun vs H Q => ∃ (a : Addr) (ns : List Int), vs = [V.ref a] ∧ SqT K H a (ns.map V.int) ∧ ∀ (ms : List Int) (p : Addr), ms.Perm ns → ms.Pairwise (· ≤ ·) → H p = none → Q (.ref p) (upd H p (.lst (ms.map V.int)))
theorem cr_sortedT {X : Cx} : CallR X (.builtin "sorted") (rSortedT X.K) := by
  intro pins s σ H vs us Q I r h
  obtain ⟨a, ns, rfl, hs, q⟩ := h
  obtain ⟨its, rv, ⟨o, ho, hc, n, hd⟩, hz⟩ := I.tuple hs
  rw [Vals.ref1 r]
  have hi := rv.ints
  have hl : its.length ≤ sizeLine := by rw [← rv.length]; exact hz
  refine Calls.call_function_entry kind_sorted plain_sorted entry_sorted (args_sorted1 _) ?_
  unfold Builtin.«sorted»
  refine wpAny_bind (m := checkCount "sorted" 1 1 _) (wpAny_pure ?_)
  refine wpAny_bind (wpAny_collect_seq a (.inr rfl) ho hc hd (fun g kp => ?_) (by rw [List.size_toArray]; exact hl))
  refine wpAny_bind (wpAny_newList ?_ (by simpa using hl))
  have hL : (g.push (seqObj "list" its.toArray 0)).get? g.objs.size = some (seqObj "list" its.toArray 0) := Heap.get?_push_size _ rfl
  have hk1 : ∀ b u, s.heap.get? b = some u → b ≠ g.objs.size ∧ b < (g.push (seqObj "list" its.toArray 0)).objs.size ∧ (g.push (seqObj "list" its.toArray 0)).get? b = some u := fun b u e => by
    have lt : b < g.objs.size := Heap.lt_size (kp b u e)
    exact ⟨Nat.ne_of_lt lt, by rw [size_push']; exact Nat.lt_succ_of_lt lt, Heap.get?_push_of_some _ (kp b u e)⟩
  have el : its.toArray.toList.toArray = its.toArray := by simp
  show wpAny _ _ _ _ _ { s with heap := g.push { cls := .type "list", data := .seq its.toArray.toList.toArray } }
  rw [el]
  refine wpAny_bind (wpAny_holding (wpAny_call_entry slot_list_sort ⟨_, hL, rfl⟩ entry_list_sort (SrtO.list_sort_ord (s := { s with heap := g.push (seqObj "list" its.toArray 0) }) SrtO.swo_int hL hl (fun h2 => SrtO.ints_sortable hi h2) fun out h1 h2 => ⟨_, rfl, ?_⟩) (args_list_sort _)))
  obtain ⟨k1, k2, k3⟩ := SrtO.ints_out hi h1 h2
  obtain ⟨ep, he⟩ := sortedHeap_at (out := out.toArray) hL
  have h0 : H g.objs.size = none := (I.hok.kept (h' := g) kp).fresh (Nat.le_refl _)
  have h00 : s.heap.get? g.objs.size = none := by
    cases e : s.heap.get? g.objs.size with
    | none => rfl
    | some u => exact absurd (Heap.lt_size (kp _ _ e)) (Nat.lt_irrefl _)
  have hlen : ((out.map SrtO.iv).map V.int).length ≤ sizeLine := by
    rw [List.length_map, k2.length_eq]
    rw [List.length_map] at hz
    exact hz
  refine wpAny_pure ⟨_, rfl, .ref g.objs.size, upd H g.objs.size (.lst ((out.map SrtO.iv).map V.int)), I.laidN (t' := s.toks) (fun b u e => ?_) h00 h0 ⟨hlen, out, ep, vals_of_ints k1, he⟩, rfl, q _ _ k2 k3 h0⟩
  obtain ⟨z1, z2, z3⟩ := hk1 b u e
  rw [sortedHeap_old z1 z2]
  exact z3
end U
namespace U
open PySem PySem.Spec PyProof.Rows L2
def insI (x : Int) : List Int → List Int
  | [] => [x]
  | y :: r => if x ≤ y then x :: y :: r else y :: insI x r
def isort : List Int → List Int
  | [] => []
  | x :: r => insI x (isort r)
theorem insI_perm (x : Int) : ∀ r : List Int, (insI x r).Perm (x :: r)
  | [] => .refl _
  | y :: r => by
    unfold insI
    split
    · exact .refl _
    · exact ((insI_perm x r).cons y).trans (List.Perm.swap x y r)
theorem isort_perm : ∀ r : List Int, (isort r).Perm r
  | [] => .refl _
  | x :: r => (insI_perm x _).trans ((isort_perm r).cons x)
theorem insI_sorted (x : Int) : ∀ {r : List Int}, r.Pairwise (· ≤ ·) → (insI x r).Pairwise (· ≤ ·)
  | [], _ => List.pairwise_singleton _ _
  | y :: r, h => by
    obtain ⟨h1, h2⟩ := List.pairwise_cons.mp h
    unfold insI
    split
    · rename_i hxy
      exact List.pairwise_cons.mpr ⟨fun z hz => by
        rcases List.mem_cons.mp hz with e | hz
        · rw [e]; exact hxy
        · exact Int.le_trans hxy (h1 z hz), h⟩
    · rename_i hxy
      refine List.pairwise_cons.mpr ⟨fun z hz => ?_, insI_sorted x h2⟩
      rcases List.mem_cons.mp ((insI_perm x r).mem_iff.mp hz) with e | hz
      · rw [e]; omega
      · exact h1 z hz
theorem isort_sorted : ∀ r : List Int, (isort r).Pairwise (· ≤ ·)
  | [] => .nil
  | x :: r => insI_sorted x (isort_sorted r)
theorem sorted_one : ∀ {xs ys : List Int}, xs.Perm ys → xs.Pairwise (· ≤ ·) → ys.Pairwise (· ≤ ·) → xs = ys
  | [], ys, p, _, _ => by rw [List.Perm.nil_eq p]
  | x :: xs, [], p, _, _ => by have := p.length_eq; simp at this
  | x :: xs, y :: ys, p, h1, h2 => by
    obtain ⟨a1, a2⟩ := List.pairwise_cons.mp h1
    obtain ⟨b1, b2⟩ := List.pairwise_cons.mp h2
    have e : x = y := by
      have m1 : x ∈ y :: ys := p.mem_iff.mp List.mem_cons_self
      have m2 : y ∈ x :: xs := p.mem_iff.mpr List.mem_cons_self
      have l1 : y ≤ x := by
        rcases List.mem_cons.mp m1 with e | h
        · omega
        · exact b1 x h
      have l2 : x ≤ y := by
        rcases List.mem_cons.mp m2 with e | h
        · omega
        · exact a1 y h
      omega
    subst e
    rw [sorted_one (List.Perm.cons_inv p) a2 b2]
def fSort (ds : List D) (st : Sto) : R D := match ds with
  | [d] => match (seqOf st d).bind intsOf with
    | some ns => .ok (.ref st.length) (st ++ [.lst ((isort ns).map D.int)])
    | none => .fail
  | _ => .fail
theorem RVs.ints {K : PySem.W.Frag} {H : Hp} {m : Pl} : ∀ {ns : List Int} {vs : List V}, RVs K H m (ns.map D.int) vs → vs = ns.map V.int
  | [], _, h => by cases h; rfl
  | n :: ns, _, h => by
    cases h with
    | cons h1 h2 =>
      cases h1
      rw [RVs.ints h2]
      rfl
def rSortB (K : PySem.W.Frag) : List V → Hp → VK → Prop := fun vs H Q => rSortedI K vs H Q ∨ rSortedT K vs H Q
theorem cr_sortB {X : Cx} : CallR X (.builtin "sorted") (rSortB X.K) := fun pins s σ H vs us Q I r h => by
  rcases h with h | h
  · exact cr_sortedI pins s σ H vs us Q I r h
  · exact cr_sortedT pins s σ H vs us Q I r h
theorem sort_read {K : PySem.W.Frag} : CallF K (rSortB K) fSort := fun E m H st ds vs Q s r hp => by
  unfold fSort at hp
  split at hp
  · rename_i d
    cases r with
    | cons r1 r2 =>
      cases r2
      split at hp
      · rename_i ns q
        obtain ⟨xs, hx, hi⟩ := Option.bind_eq_some_iff.mp q
        have ex := intsOf_eq hi
        subst ex
        obtain ⟨a, vs, rfl, hq, rs⟩ := seqOf_sq s r1 hx
        have ev := RVs.ints rs
        subst ev
        have fin : ∀ (ms : List Int) (p : Addr), ms.Perm ns → ms.Pairwise (· ≤ ·) → H p = none → Q (.ref p) (upd H p (.lst (ms.map V.int))) := fun ms p h1 h2 h3 => by
          have e : ms = isort ns := sorted_one (h1.trans (isort_perm ns).symm) h2 (isort_sorted ns)
          subst e
          exact new_lst hp s (RVs_ints _) h3
        rcases hq with hq | hq
        · exact .inl ⟨a, ns, rfl, hq, fin⟩
        · exact .inr ⟨a, ns, rfl, hq, fin⟩
      · exact hp.elim
  · exact hp.elim
section
variable {X : Cx} {W : WX} {a : Expr} {ga : EM} {p pos pos2 p2 : Pos}
theorem e_sorted (hm : X.mg "sorted" = none) (ha : PE X a (rE X.K W ga)) (hg : Gl X "sorted" := by rfl) (he : starEach [a] X.env = (false, eval a X.env) :: starEach [] X.env := by rfl) (hpl : (backTo pos (starEach [] X.env)).any (·.1) = false := by rfl) :
    PE X (.Call (.Name "sorted" p) [a] [] pos) (rE X.K W (eFn fSort (aCons ga aNil))) := e_callB cr_sortB sort_read hm (by rfl) (a_cons ha a_nil he) hg (by decide) (by decide) he hpl
def fLRg (ds : List D) (st : Sto) : R D := match ds with
  | [.int j] => if j ≤ 16777216 ∧ -16777216 ≤ j then .ok (.ref st.length) (st ++ [.lst (rngL 0 j.toNat)]) else .fail
  | _ => .fail
def fTRg (ds : List D) (st : Sto) : R D := match ds with
  | [.int j] => if j ≤ 16777216 ∧ -16777216 ≤ j then .ok (.tup (rngL 0 j.toNat)) st else .fail
  | _ => .fail
theorem RVs_rng {K : PySem.W.Frag} {H : Hp} {m : Pl} {j : Int} : RVs K H m (rngL 0 j.toNat) (rgV 0 j) := by
  unfold rngL rgV
  rw [Int.sub_zero]
  generalize j.toNat = n
  have : ∀ l : List Nat, RVs K H m (l.map fun (i : Nat) => D.int (0 + (i : Int))) (l.map fun i => V.int (0 + (i : Nat))) := fun l => by
    induction l with
    | nil => exact .nil
    | cons x l ih => exact .cons .int ih
  exact this _
theorem e_listRg (hc : X.calm = true) (hm : X.mg "list" = none) (hm2 : X.mg "range" = none) (ha : PE X a (rE X.K W ga)) (hg : Gl X "list" := by rfl) (hg2 : Gl X "range" := by rfl)
    (na : starEach [.Call (.Name "range" p2) [a] [] pos2] X.env = (false, eval (.Call (.Name "range" p2) [a] [] pos2) X.env) :: starEach [] X.env := by rfl) (na2 : starEach [a] X.env = (false, eval a X.env) :: starEach [] X.env := by rfl) :
    PE X (.Call (.Name "list" p) [.Call (.Name "range" p2) [a] [] pos2] [] pos) (rE X.K W (eFn fLRg (aCons ga aNil))) := (pe_listRg hc hg hm (prg_1 hg2 hm2 ha na2) na).imp fun σ H Q h => by
  obtain ⟨env, m, st, hE, hS, hp⟩ := h
  have hp' : Post X.K (okV X.K) (WE W σ) m H Q ((ga env st).bind fun d st1 => fLRg [d] st1) := by
    have e : eFn fLRg (aCons ga aNil) env st = ((ga env st).bind fun d st1 => fLRg [d] st1) := by
      unfold eFn aCons aNil
      cases ga env st <;> rfl
    rw [← e]; exact hp
  refine ⟨env, m, st, hE, hS, hp'.bind fun d st1 v H1 m1 e1 p1 s1 r1 hp1 => ?_⟩
  unfold fLRg at hp1
  split at hp1
  · rename_i j hj
    cases hj
    cases r1
    split at hp1
    · rename_i h
      exact ⟨j, rfl, ⟨by omega, by omega, by omega, by omega, by omega⟩, fun q hq => new_lst hp1 s1 RVs_rng hq⟩
    · exact hp1.elim
  · exact hp1.elim
theorem e_tupRg (hc : X.calm = true) (hm : X.mg "tuple" = none) (hm2 : X.mg "range" = none) (ha : PE X a (rE X.K W ga)) (hg : Gl X "tuple" := by rfl) (hg2 : Gl X "range" := by rfl)
    (na : starEach [.Call (.Name "range" p2) [a] [] pos2] X.env = (false, eval (.Call (.Name "range" p2) [a] [] pos2) X.env) :: starEach [] X.env := by rfl) (na2 : starEach [a] X.env = (false, eval a X.env) :: starEach [] X.env := by rfl) :
    PE X (.Call (.Name "tuple" p) [.Call (.Name "range" p2) [a] [] pos2] [] pos) (rE X.K W (eFn fTRg (aCons ga aNil))) := (pe_tupRg hc hg hm (prg_1 hg2 hm2 ha na2) na).imp fun σ H Q h => by
  obtain ⟨env, m, st, hE, hS, hp⟩ := h
  have hp' : Post X.K (okV X.K) (WE W σ) m H Q ((ga env st).bind fun d st1 => fTRg [d] st1) := by
    have e : eFn fTRg (aCons ga aNil) env st = ((ga env st).bind fun d st1 => fTRg [d] st1) := by
      unfold eFn aCons aNil
      cases ga env st <;> rfl
    rw [← e]; exact hp
  refine ⟨env, m, st, hE, hS, hp'.bind fun d st1 v H1 m1 e1 p1 s1 r1 hp1 => ?_⟩
  unfold fTRg at hp1
  split at hp1
  · rename_i j hj
    cases hj
    cases r1
    split at hp1
    · rename_i h
      exact ⟨j, rfl, ⟨by omega, by omega, by omega, by omega, by omega⟩, fun q hq => new_tup hp1 s1 RVs_rng hq⟩
    · exact hp1.elim
  · exact hp1.elim
end
end U
set_option Elab.async false
set_option linter.all false
set_option maxRecDepth 100000
set_option maxHeartbeats 1000000
namespace U
open PySem PySem.Spec PyProof.Rows L2
def noText : NestedKey → Bool
  | .none => true
  | .num _ => true
  | .text _ => false
  | .tup ks => go ks
where go : List NestedKey → Bool
  | [] => true
  | k :: ks => noText k && go ks
mutual
theorem hash_any (w w' : World) : ∀ k : NestedKey, noText k = true → k.hash w = k.hash w'
  | .none, _ => by simp only [NestedKey.hash]
  | .num _, _ => by simp only [NestedKey.hash]
  | .text _, h => by simp [noText] at h
  | .tup ks, h => by
    simp only [noText] at h
    simp only [NestedKey.hash]
    rw [hashes_any w w' ks h]
theorem hashes_any (w w' : World) : ∀ ks : List NestedKey, noText.go ks = true → NestedKey.hashes w ks = NestedKey.hashes w' ks
  | [], _ => by simp only [NestedKey.hashes]
  | k :: ks, h => by
    simp only [noText.go, Bool.and_eq_true] at h
    simp only [NestedKey.hashes]
    rw [hash_any w w' k h.1, hashes_any w w' ks h.2]
end
mutual
theorem keyD_noText : ∀ {d : D} {k : NestedKey}, keyD d = some k → noText k = true
  | .non, _, h => by simp only [keyD] at h; cases h; simp only [noText]
  | .bl _, _, h => by simp only [keyD] at h; cases h; simp only [noText]
  | .int _, _, h => by simp only [keyD] at h; cases h; simp only [noText]
  | .str _, _, h => by simp only [keyD] at h; cases h
  | .ref _, _, h => by simp only [keyD] at h; cases h
  | .tup xs, _, h => by
    simp only [keyD] at h
    cases q : keysD xs with
    | none => rw [q] at h; cases h
    | some ks =>
      rw [q] at h
      cases h
      simp only [noText]
      exact keysD_noText q
theorem keysD_noText : ∀ {ds : List D} {ks : List NestedKey}, keysD ds = some ks → noText.go ks = true
  | [], _, h => by simp only [keysD] at h; cases h; simp only [noText.go]
  | d :: ds, _, h => by
    simp only [keysD] at h
    split at h
    · rename_i k ks h1 h2
      cases h
      simp only [noText.go, Bool.and_eq_true]
      exact ⟨keyD_noText h1, keysD_noText h2⟩
    · cases h
end
section
variable {X : Cx} {pins : List (Addr × Obj)} {σ : L2.St} {H : Hp} {s : Shared} {m : Pl}
mutual
theorem key_in (I : Inv X pins σ H s) : ∀ {d : D} {v : V} {u : Value} {k : NestedKey}, RV X.K H m d v → RelV v u → keyD d = some k → NestedIs s.heap k u
  | .non, _, _, _, r, rv, h => by
    simp only [keyD] at h; cases h; cases r
    cases (show _ = Value.none from rv)
    exact .none
  | .bl b, _, _, _, r, rv, h => by
    simp only [keyD] at h; cases h; cases r
    cases (show _ = Value.bool b from rv)
    exact .bool rfl
  | .int i, _, _, _, r, rv, h => by
    simp only [keyD] at h; cases h; cases r
    obtain ⟨t, rfl⟩ := rv
    exact .int i t
  | .str _, _, _, _, _, _, h => by simp only [keyD] at h; cases h
  | .ref _, _, _, _, _, _, h => by simp only [keyD] at h; cases h
  | .tup xs, _, _, _, r, rv, h => by
    simp only [keyD] at h
    cases q : keysD xs with
    | none => rw [q] at h; cases h
    | some ks =>
      rw [q] at h
      cases h
      cases r with
      | tup hq rs =>
        cases (show _ = Value.ref _ from rv)
        obtain ⟨its, r1, ⟨o, ho, hc, n, hd⟩, _⟩ := I.tuple hq
        exact .tup ho hc hd (by simpa using keys_in I rs r1 q)
theorem keys_in (I : Inv X pins σ H s) : ∀ {ds : List D} {vs : List V} {us : List Value} {ks : List NestedKey}, RVs X.K H m ds vs → Vals vs us → keysD ds = some ks → NestedAll s.heap ks us
  | [], _, _, _, r, rv, h => by
    simp only [keysD] at h; cases h; cases r; cases rv
    exact .nil
  | d :: ds, _, _, _, r, rv, h => by
    simp only [keysD] at h
    split at h
    · rename_i k ks h1 h2
      cases h
      cases r with
      | cons r1 r2 =>
        cases rv with
        | cons v1 v2 => exact .cons (key_in I r1 v1 h1) (keys_in I r2 v2 h2)
    · cases h
end
theorem DR.dict (I : Inv X pins σ H s) {a : Addr} {kvs : List (D × D)} {xs : List DEn} {vs : List V} (h : DR X.K H m a kvs xs vs) : s.heap.DictOfH (nestedKind X.prog X.w) a xs := by
  obtain ⟨⟨w0, o, es, ep, h1, h2, h3, h4⟩, _⟩ := (show ObjOk X.prog X.w H s.heap a (dObj a xs) from I.hok a _ h.at_)
  have hx : ∀ (i : Nat) (x : DEn), xs[i]? = some x → ∃ d : D, keyD d = some x.1 ∧ RV X.K H m d (.ref x.2.1) := fun i x hi => by
    obtain ⟨d, hd, r⟩ := h.rk.getv (i := i) (v := .ref x.2.1) (by rw [List.getElem?_map, hi]; rfl)
    rw [List.getElem?_map] at hd
    obtain ⟨p, hp, rfl⟩ := Option.map_eq_some_iff.mp hd
    have e := congrArg (fun l => l[i]?) h.key
    simp only [List.getElem?_map, hp, hi, Option.map_some] at e
    exact ⟨p.1, by injection e, r⟩
  refine ⟨o, es, ep, h1, h2, h3, ?_, fun x hm => ?_, h.nd⟩
  · rw [h4]
    apply List.map_congr_left
    intro x hm
    obtain ⟨i, hi⟩ := List.getElem?_of_mem hm
    obtain ⟨d, hd, _⟩ := hx i x hi
    show (⟨x.1.hash w0, _, _⟩ : DictEntry) = ⟨x.1.hash X.w, _, _⟩
    rw [hash_any w0 X.w _ (keyD_noText hd)]
  · obtain ⟨i, hi⟩ := List.getElem?_of_mem hm
    obtain ⟨d, hd, r⟩ := hx i x hi
    exact ⟨key_in I r rfl hd, h.dep x hm⟩
end
def getK (kvs : List (D × D)) (k : NestedKey) : Option D := match kvs with
  | [] => none
  | p :: r => if keyD p.1 = some k then some p.2 else getK r k
def putK (kvs : List (D × D)) (kd : D) (k : NestedKey) (v : D) : List (D × D) := if (getK kvs k).isSome then kvs.map (fun p => if keyD p.1 = some k then (p.1, v) else p) else kvs ++ [(kd, v)]
section
variable {K : PySem.W.Frag} {H : Hp} {m : Pl} {a : Addr}
theorem get_rel {k : NestedKey} : ∀ {kvs : List (D × D)} {xs : List DEn} {vs : List V}, kvs.map (fun p => keyD p.1) = xs.map (fun x => some x.1) → RVs K H m (kvs.map (·.2)) vs → Vals vs (xs.map (·.2.2)) →
    (getK kvs k = none ∧ atKey xs k = none) ∨ ∃ d v p, getK kvs k = some d ∧ atKey xs k = some p ∧ RV K H m d v ∧ RelV v p.2
  | [], [], _, _, _, _ => .inl ⟨rfl, rfl⟩
  | [], _ :: _, _, e, _, _ => by cases e
  | _ :: _, [], _, e, _, _ => by cases e
  | p :: kvs, x :: xs, _, e, r, rv => by
    simp only [List.map_cons, List.cons.injEq] at e
    cases r with
    | @cons _ _ v vs r1 r2 =>
      cases rv with
      | cons v1 v2 =>
        unfold getK atKey
        rw [List.find?_cons]
        by_cases hk : x.1 = k
        · rw [if_pos (by rw [e.1, hk]), hk]
          simp only [decide_true, Option.map_some]
          exact .inr ⟨_, _, _, rfl, rfl, r1, v1⟩
        · rw [if_neg (by rw [e.1]; intro z; exact hk (Option.some.inj z))]
          simp only [hk, decide_false]
          exact get_rel e.2 r2 v2
end
def dctOf (st : Sto) (d : D) : Option (List (D × D)) := match d with
  | .ref n => match st[n]? with
    | some (.dct kvs) => some kvs
    | _ => none
  | _ => none
def askK (d : D) : Option NestedKey := match d with
  | .tup _ => match keyD d with
    | some k => if k.depth ≤ 8 then some k else none
    | none => none
  | _ => none
theorem dctOf_at {K : PySem.W.Frag} {H : Hp} {m : Pl} {st : Sto} {d : D} {v : V} {kvs : List (D × D)} (s : SR K H m st) (r : RV K H m d v) (h : dctOf st d = some kvs) : ∃ n a xs vs, d = .ref n ∧ v = .ref a ∧ m[n]? = some a ∧ st[n]? = some (.dct kvs) ∧ DR K H m a kvs xs vs := by
  unfold dctOf at h
  split at h
  · rename_i n
    split at h
    · rename_i kvs' q
      cases h
      cases r with
      | @ref _ a hn =>
        obtain ⟨xs, vs, h⟩ := s.ob _ _ _ hn q
        exact ⟨n, a, xs, vs, rfl, rfl, hn, q, h⟩
    · cases h
  · cases h
theorem askK_ok {d : D} {k : NestedKey} (h : askK d = some k) : ∃ xs, d = .tup xs ∧ keyD d = some k ∧ k.depth ≤ 8 := by
  unfold askK at h
  split at h
  · rename_i xs
    split at h
    · rename_i k' q
      split at h
      · rename_i hd
        cases h
        exact ⟨xs, rfl, q, hd⟩
      · cases h
    · cases h
  · cases h
def dInD (neg : Bool) (y d : D) (st : Sto) : R D := match dctOf st d, askK y with
  | some kvs, some k => .ok (.bl (if neg = true then !(getK kvs k).isSome else (getK kvs k).isSome)) st
  | _, _ => .fail
def rInD (X : Cx) (neg : Bool) : R2 := fun y x H Q => ∃ (yd : D) (k : NestedKey) (m : Pl) (a : Addr) (kvs : List (D × D)) (xs : List DEn) (vs : List V), x = .ref a ∧ DR X.K H m a kvs xs vs ∧ RV X.K H m yd y ∧ askK yd = some k ∧ Q (.bl (if neg = true then !(getK kvs k).isSome else (getK kvs k).isSome)) H
section
variable {X : Cx} {W : WX} {k : Nat}
theorem get_some {K : PySem.W.Frag} {H : Hp} {m : Pl} {a : Addr} {kvs : List (D × D)} {xs : List DEn} {vs : List V} (h : DR K H m a kvs xs vs) (k : NestedKey) : (atKey xs k).isSome = (getK kvs k).isSome := by
  rcases get_rel (k := k) h.key h.rv h.vv with ⟨h1, h2⟩ | ⟨d, v, p, h1, h2, _, _⟩ <;> rw [h1, h2] <;> rfl
theorem or_inD (hr : Room k X.A) : OpR X (compareOp .In) (rInD X false) := by
  intro pins s σ H y x v u Q I ry rx h
  obtain ⟨yd, k, m, a, kvs, xs, vs, rfl, hd, rk, hk, q⟩ := h
  obtain ⟨ys, rfl, hk1, hk2⟩ := askK_ok hk
  cases rk with
  | @tup _ b ws hq rs =>
    cases (show v = Value.ref b from ry)
    cases (show u = Value.ref a from rx)
    have hu : (nestedKind X.prog X.w).room X.A.in1 := by have := hr.un; show X.A.units + 1 + 8 < cLine; omega
    refine wpAny_in_heap hu ⟨key_in I (.tup hq rs) rfl hk1, hk2⟩ hd.sys (hd.dict I) ?_
    rw [get_some hd k]
    exact ⟨.bl _, H, I.tok _, rfl, q⟩
theorem or_notInD (hr : Room k X.A) : OpR X (compareOp .NotIn) (rInD X true) := by
  intro pins s σ H y x v u Q I ry rx h
  obtain ⟨yd, k, m, a, kvs, xs, vs, rfl, hd, rk, hk, q⟩ := h
  obtain ⟨ys, rfl, hk1, hk2⟩ := askK_ok hk
  cases rk with
  | @tup _ b ws hq rs =>
    cases (show v = Value.ref b from ry)
    cases (show u = Value.ref a from rx)
    have hu : (nestedKind X.prog X.w).room X.A.in1 := by have := hr.un; show X.A.units + 1 + 8 < cLine; omega
    refine wpAny_notIn_heap hu ⟨key_in I (.tup hq rs) rfl hk1, hk2⟩ hd.sys (hd.dict I) ?_
    rw [get_some hd k]
    exact ⟨.bl _, H, I.tok _, rfl, q⟩
theorem inD_read {neg : Bool} {E : XK} {m : Pl} {H : Hp} {st : Sto} {dy dx : D} {y x : V} {Q : VK} (s : SR X.K H m st) (ry : RV X.K H m dy y) (rx : RV X.K H m dx x) (hp : Post X.K (okV X.K) E m H Q (dInD neg dy dx st)) : rInD X neg y x H Q := by
  unfold dInD at hp
  split at hp
  · rename_i kvs k h1 h2
    obtain ⟨n, a, xs, vs, rfl, rfl, hn, hs, hd⟩ := dctOf_at s rx h1
    exact ⟨dy, k, m, a, kvs, xs, vs, rfl, hd, ry, h2, Post.here (v := .bl _) hp s .bl⟩
  · exact hp.elim
theorem o_inD (hr : Room k X.A) : OpF X (compareOp .In) (dInD false) := ⟨_, or_inD hr, fun E m H st dx dy x y Q s rx ry hp => inD_read s rx ry hp⟩
theorem o_notInD (hr : Room k X.A) : OpF X (compareOp .NotIn) (dInD true) := ⟨_, or_notInD hr, fun E m H st dx dy x y Q s rx ry hp => inD_read s rx ry hp⟩
def dGetD (d y : D) (st : Sto) : R D := match dctOf st d, askK y with
  | some kvs, some k => match getK kvs k with
    | some v => .ok v st
    | none => .fail
  | _, _ => .fail
theorem e_dget {a b : Expr} {ga gb : EM} {pos : Pos} (hr : Room k X.A) (ha : PE X a (rE X.K W ga)) (hb : PE X b (rE X.K W gb)) (hs : NoSl b := by exact fun _ _ => rfl) : PE X (.Subscript a b pos) (rE X.K W (eBin dGetD ga gb)) := by
  refine ⟨fun pins s σ H Q I ⟨env, m, st, hE, hS, hp⟩ => ?_⟩
  refine subD_of PySem.F.slot_dict_getitem.lookup hs (thn (ha.run pins s σ H (fun x H1 => rE X.K W gb σ H1 fun y H2 => ∃ (yd : D) (k : NestedKey) (m : Pl) (a : Addr) (kvs : List (D × D)) (xs : List DEn) (vs : List V) (st : Sto) (dv : D), x = .ref a ∧ SR X.K H2 m st ∧ DR X.K H2 m a kvs xs vs ∧ RV X.K H2 m yd y ∧ askK yd = some k ∧ getK kvs k = some dv ∧ Post X.K (okV X.K) (WE W σ) m H2 Q (.ok dv st)) I ⟨env, m, st, hE, hS, ?_⟩)
    fun u s1 ⟨x, H1, I1, rx, q1⟩ => thn (hb.run pins s1 σ H1 _ I1 q1) fun iv s2 ⟨y, H2, I2, ry, yd, k, m2, a2, kvs, xs, vs, st2, dv, ex, hS2, hd, rk, hk, hg, hp2⟩ => ?_)
  · exact hp.bind fun dx st1 x H1 m1 e1 p1 s1 r1 hp1 => ⟨env, m1, st1, hE.mono e1 p1, s1, hp1.bind fun dy st2 y H2 m2 e2 p2 s2 r2 hp2 => by
      unfold dGetD at hp2
      split at hp2
      · rename_i kvs k h1 h2
        obtain ⟨n, a, xs, vs, rfl, rfl, hn, hs, hd⟩ := dctOf_at s2 (r1.mono e2 p2) h1
        split at hp2
        · rename_i dv hg
          exact ⟨dy, k, m2, a, kvs, xs, vs, st2, dv, rfl, s2, hd, r2, h2, hg, hp2⟩
        · exact hp2.elim
      · exact hp2.elim⟩
  · subst ex
    obtain rfl : u = Value.ref a2 := rx
    obtain ⟨ys, rfl, hk1, hk2⟩ := askK_ok hk
    cases rk with
    | @tup _ b2 ws hq rs =>
      cases (show iv = Value.ref b2 from ry)
      have hu : (nestedKind X.prog X.w).room X.A.in1 := by have := hr.un; show X.A.units + 1 + 8 < cLine; omega
      have dd := hd.dict I2
      rcases get_rel (k := k) hd.key hd.rv hd.vv with ⟨h1, h2⟩ | ⟨d, v, p, h1, h2, h3, h4⟩
      · rw [h1] at hg; cases hg
      · rw [h1] at hg
        cases hg
        exact ⟨dd.typeIs, wpAny_getItem_heap hu ⟨key_in I2 (.tup hq rs) rfl hk1, hk2⟩ dd h2 ⟨v, H2, I2.tok _, h4, Post.here (v := v) hp2 hS2 h3⟩⟩
end
end U
set_option Elab.async false
set_option linter.all false
set_option maxRecDepth 100000
set_option maxHeartbeats 1000000
namespace U
open PySem PySem.Spec PyProof.Rows L2
section
variable {X : Cx} {W : WX} {k : Nat} {a b c : Expr} {ga gb gc : EM} {pos p p2 : Pos}
theorem dObj_ok {P : Program} {w : World} {H : Hp} {h : Heap} {a : Addr} {xs : List DEn} (hd : h.DictOfH (nestedKind P w) a xs) : ObjOk P w H h a (dObj a xs) := by
  obtain ⟨o, es, ep, h1, h2, h3, h4, h5, h6⟩ := hd
  exact ⟨⟨w, o, es, ep, h1, h2, h3, h4⟩, ⟨o, h1⟩, fun h1 h2 ⟨w0, o, es, ep, q1, q2, q3, q4⟩ k => ⟨w0, o, es, ep, k o q1, q2, q3, q4⟩⟩
def eDnew : EM := fun _ st => .ok (.ref st.length) (st ++ [.dct []])
theorem e_dnew : PE X (.Dict [] [] pos) (rE X.K W eDnew) := ⟨fun pins s σ H Q I ⟨env, m, st, hE, hS, hp⟩ => by
  have hf : H s.heap.objs.size = none := I.hok.fresh (Nat.le_refl _)
  have hsys : (s.heap.objs.size == sysModules) = false := beq_eq_false_iff_ne.mpr (Ne.symm (Nat.ne_of_lt I.big))
  refine wpAny_Dict_empty ⟨.ref s.heap.objs.size, upd H s.heap.objs.size (dObj s.heap.objs.size []), I.laid (a := s.heap.objs.size) (o := dObj s.heap.objs.size []) (t' := s.toks) (fun _ _ q => Heap.get?_push_of_some _ q) (Nat.le_refl _) (dObj_ok (Heap.DictOfH.new s.heap)), rfl, ?_⟩
  exact hp _ _ (m ++ [s.heap.objs.size]) (.new hf) (List.prefix_append m _) (hS.new hf ⟨[], [], hsys, upd_same, List.nodup_nil, rfl, fun _ h => by simp at h, .nil, .nil, .nil, Nat.zero_le _⟩) (.ref (by rw [← hS.len]; simp))⟩
def putSt (d y v : D) (st : Sto) : Option Sto := match d with
  | .ref n => match st[n]? with
    | some (.dct kvs) => match askK y with
      | some k => if kvs.length < most then some (st.set n (.dct (putK kvs y k v))) else none
      | none => none
    | _ => none
  | _ => none
def sDPutM (ga gb gv : EM) : SM := fun env st => (gv env st).then env fun v st => (ga env st).then env fun d st => (gb env st).then env fun y st => match putSt d y v st with
  | some st => .nx env st
  | none => .fail
theorem RVs.map_if {K : PySem.W.Frag} {H : Hp} {m : Pl} {q : NestedKey} {dv : D} {v : V} (r : RV K H m dv v) : ∀ {kvs : List (D × D)} {xs : List DEn} {vs : List V}, kvs.map (fun p => keyD p.1) = xs.map (fun x => some x.1) → RVs K H m (kvs.map (·.2)) vs → vs.length = xs.length →
    RVs K H m ((kvs.map fun p => if keyD p.1 = some q then (p.1, dv) else p).map (·.2)) (List.zipWith (fun (x : DEn) w => if x.1 = q then v else w) xs vs)
  | [], [], _, _, h, _ => by cases h; exact .nil
  | [], _ :: _, _, e, _, _ => by cases e
  | _ :: _, [], _, e, _, _ => by cases e
  | p :: kvs, x :: xs, _, e, h, l => by
    simp only [List.map_cons, List.cons.injEq] at e
    cases h with
    | @cons _ _ w ws h1 h2 =>
      simp only [List.map_cons, List.zipWith_cons_cons]
      refine .cons ?_ (RVs.map_if r e.2 h2 (by simpa using l))
      by_cases hk : x.1 = q
      · rw [if_pos hk, if_pos (by rw [e.1, hk])]; exact r
      · rw [if_neg hk, if_neg (by rw [e.1]; intro z; exact hk (Option.some.inj z))]; exact h1
theorem vals_if {q : NestedKey} {v : V} {u : Value} (rv : RelV v u) : ∀ {xs : List DEn} {vs : List V}, Vals vs (xs.map (·.2.2)) → Vals (List.zipWith (fun (x : DEn) w => if x.1 = q then v else w) xs vs) ((xs.map (putAt q u)).map (·.2.2))
  | [], _, h => by cases h; exact .nil
  | x :: xs, _, h => by
    cases h with
    | cons h1 h2 =>
      simp only [List.map_cons, List.zipWith_cons_cons]
      refine .cons ?_ (vals_if rv h2)
      unfold putAt
      by_cases hk : x.1 = q
      · rw [if_pos hk, if_pos hk]; exact rv
      · rw [if_neg hk, if_neg hk]; exact h1
theorem put_keys (q : NestedKey) (u : Value) : ∀ xs : List DEn, (xs.map (putAt q u)).map (·.1) = xs.map (·.1)
  | [] => rfl
  | x :: xs => by
    simp only [List.map_cons]
    rw [put_keys q u xs]
    unfold putAt
    by_cases hk : x.1 = q
    · rw [if_pos hk]
    · rw [if_neg hk]
theorem put_adr (q : NestedKey) (u : Value) : ∀ xs : List DEn, (xs.map (putAt q u)).map (fun x => V.ref x.2.1) = xs.map (fun x => V.ref x.2.1)
  | [] => rfl
  | x :: xs => by
    simp only [List.map_cons]
    rw [put_adr q u xs]
    unfold putAt
    by_cases hk : x.1 = q
    · rw [if_pos hk]
    · rw [if_neg hk]
theorem putD_keys (q : NestedKey) (dv : D) : ∀ kvs : List (D × D), (kvs.map fun p => if keyD p.1 = some q then (p.1, dv) else p).map (·.1) = kvs.map (·.1)
  | [] => rfl
  | p :: kvs => by
    simp only [List.map_cons]
    rw [putD_keys q dv kvs]
    by_cases hk : keyD p.1 = some q
    · rw [if_pos hk]
    · rw [if_neg hk]
theorem key1 {kvs : List (D × D)} : kvs.map (fun p => keyD p.1) = (kvs.map (·.1)).map keyD := by rw [List.map_map]; rfl
theorem key2 {xs : List DEn} : xs.map (fun x => some x.1) = (xs.map (·.1)).map some := by rw [List.map_map]; rfl
theorem DR.put {K : PySem.W.Frag} {H H' : Hp} {m : Pl} {a b : Addr} {kvs : List (D × D)} {xs : List DEn} {vs : List V} (h : DR K H m a kvs xs vs) {yd dv : D} {k : NestedKey} {v : V} {u : Value} (hk : keyD yd = some k) (hk2 : k.depth ≤ 8) (hl : kvs.length < most)
    (e : Ext H H') (ry : RV K H' m yd (.ref b)) (rv : RV K H' m dv v) (ru : RelV v u) (at' : H' a = some (dObj a (storedH xs k b u))) : ∃ vs', DR K H' m a (putK kvs yd k dv) (storedH xs k b u) vs' := by
  have hlen : vs.length = xs.length := by have := h.vv.length; simpa using this
  have gs := get_some h k
  unfold putK storedH at *
  by_cases hs : (getK kvs k).isSome = true
  · rw [if_pos hs]
    rw [gs, if_pos hs] at at' ⊢
    refine ⟨List.zipWith (fun (x : DEn) w => if x.1 = k then v else w) xs vs, h.sys, at', by rw [put_keys]; exact h.nd, ?_, fun x hx => ?_, ?_, RVs.map_if rv h.key (h.rv.mono e (List.prefix_refl m)) hlen, vals_if ru h.vv, by rw [List.length_map]; exact h.len⟩
    · rw [key1, key2, putD_keys, put_keys, ← key1, ← key2]; exact h.key
    · obtain ⟨y, hy, rfl⟩ := List.mem_map.mp hx
      unfold putAt
      by_cases hk : y.1 = k
      · rw [if_pos hk]; exact h.dep y hy
      · rw [if_neg hk]; exact h.dep y hy
    · rw [putD_keys, put_adr]; exact h.rk.mono e (List.prefix_refl m)
  · rw [if_neg hs]
    rw [gs, if_neg hs] at at' ⊢
    have hno : ∀ x ∈ xs, x.1 ≠ k := fun x hx ex => by
      have h1 : (atKey xs k).isSome = true := by
        unfold atKey
        rw [Option.isSome_map, List.find?_isSome]
        exact ⟨x, hx, by simp [ex]⟩
      rw [gs] at h1
      exact hs h1
    refine ⟨vs ++ [v], h.sys, at', ?_, ?_, ?_, ?_, ?_, ?_, ?_⟩
    · rw [List.map_append, List.nodup_append]
      refine ⟨h.nd, by simp, fun x hx y hy => ?_⟩
      obtain ⟨z, hz, rfl⟩ := List.mem_map.mp hx
      simp only [List.map_cons, List.map_nil, List.mem_singleton] at hy
      rw [hy]
      exact hno z hz
    · rw [List.map_append, List.map_append, h.key]; simp [hk]
    · intro x hx
      rcases List.mem_append.mp hx with hx | hx
      · exact h.dep x hx
      · simp only [List.mem_singleton] at hx; subst hx; exact hk2
    · rw [List.map_append, List.map_append]; exact (h.rk.mono e (List.prefix_refl m)).append (.one ry)
    · rw [List.map_append]; exact (h.rv.mono e (List.prefix_refl m)).append (.one rv)
    · rw [List.map_append]; exact h.vv.append (.cons ru .nil)
    · rw [List.length_append]; exact most_lt (n := kvs.length) hl
theorem s_dput {apos : Pos} (hr : Room k X.A) (ha : PE X a (rE X.K W ga)) (hb : PE X b (rE X.K W gb)) (hc : PE X c (rE X.K W gc)) (hs : swapsWith c (some (.Subscript a b apos)) pos.line X.env = pure false := by rfl) : PS X (.Assign [.Subscript a b apos] c pos) (rS X.K W (sDPutM ga gb gc)) := by
  refine ⟨fun pins s σ H Dn I ⟨env, m, st, hE, hS, hp⟩ => ?_⟩
  refine wpAny_Assign_Subscript (thn (hc.run pins s σ H (fun v H1 => rE X.K W ga σ H1 fun x H2 => rE X.K W gb σ H2 fun y H3 => ∃ (dv dx dy : D) (m : Pl) (st st' : Sto) (env : Ev), RE X.K H3 m env σ ∧ SR X.K H3 m st ∧ RV X.K H3 m dv v ∧ RV X.K H3 m dx x ∧ RV X.K H3 m dy y ∧ putSt dx dy dv st = some st' ∧ PostS X.K W m H3 Dn (.nx env st')) I ⟨env, m, st, hE, hS, ?_⟩)
    fun r s1 ⟨v, H1, I1, rv, q1⟩ => thn (ha.run pins s1 σ H1 _ I1 q1) fun u s2 ⟨x, H2, I2, rx, q2⟩ => thn (hb.run pins s2 σ H2 _ I2 q2) fun iv s3 ⟨y, H3, I3, ry, dv, dx, dy, m3, st3, st4, env3, hE3, hS3, r1, r2, r3, hput, hp3⟩ => ?_) hs
  · exact PostS.bind hE hp fun dv st1 v H1 m1 e1 p1 s1 r1 hp1 => ⟨env, m1, st1, hE.mono e1 p1, s1, PostS.bind (hE.mono e1 p1) hp1 fun dx st2 x H2 m2 e2 p2 s2 r2 hp2 => ⟨env, m2, st2, (hE.mono e1 p1).mono e2 p2, s2, PostS.bind ((hE.mono e1 p1).mono e2 p2) hp2 fun dy st3 y H3 m3 e3 p3 s3 r3 hp3 => by
      cases q : putSt dx dy dv st3 with
      | none => rw [q] at hp3; exact hp3.elim
      | some st4 =>
        rw [q] at hp3
        exact ⟨dv, dx, dy, m3, st3, st4, env, ((hE.mono e1 p1).mono e2 p2).mono e3 p3, s3, (r1.mono e2 p2).mono e3 p3, r2.mono e3 p3, r3, q, hp3⟩⟩⟩
  · unfold putSt at hput
    split at hput
    · rename_i n
      split at hput
      · rename_i kvs hn
        split at hput
        · rename_i k hk
          split at hput
          · rename_i hl
            cases hput
            cases r2 with
            | @ref _ a2 hna =>
              obtain ⟨xs, vs, hd⟩ := hS3.ob _ _ _ hna hn
              obtain rfl : u = Value.ref a2 := rx
              obtain ⟨ys, rfl, hk1, hk2⟩ := askK_ok hk
              cases r3 with
              | @tup _ b2 ws hq rs =>
                cases (show iv = Value.ref b2 from ry)
                have hu : (nestedKind X.prog X.w).room X.A.in1 := by have := hr.un; show X.A.units + 1 + 8 < cLine; omega
                have hz : xs.length ≤ sizeLine := by
                  have e := congrArg List.length hd.key
                  simp only [List.length_map] at e
                  rw [← e]; exact hd.len
                refine wpAny_setItem_heap (hsz := hz) hu ⟨key_in I3 (.tup hq rs) rfl hk1, hk2⟩ (hd.dict I3) fun h' dd' hs' => ?_
                have he : ∃ q, h'.get? a2 = some q := let ⟨q, _, _, hq, _⟩ := dd'; ⟨q, hq⟩
                have ew : Ext H3 (upd H3 a2 (dObj a2 (storedH xs k b2 r))) := .write hd.at_ (fun _ z => by cases z) (fun _ _ z => by cases z)
                refine ⟨σ, _, d_write I3 (by rw [hd.at_]; exact True.intro) hs' he (dObj_ok dd'), ?_⟩
                obtain ⟨vs', dr⟩ := hd.put (dv := dv) hk1 hk2 hl ew ((RV.tup hq rs).mono ew (List.prefix_refl m3)) (r1.mono ew (List.prefix_refl m3)) rv upd_same
                exact hp3 σ _ m3 ew (List.prefix_refl m3) (hS3.write (ob := .dct (putK kvs (.tup ys) k dv)) hna hn rfl hd.at_ (fun _ z => by cases z) (fun _ _ z => by cases z) ⟨_, vs', dr⟩) (hE3.mono ew (List.prefix_refl m3))
          · cases hput
        · cases hput
      · cases hput
    · cases hput
def fLenD (ds : List D) (st : Sto) : R D := match ds with
  | [d] => match dctOf st d with
    | some kvs => .ok (.int kvs.length) st
    | none => .fail
  | _ => .fail
def rDct (X : Cx) (f : List (D × D) → Addr → Pl → List V → Hp → VK → Prop) : List V → Hp → VK → Prop := fun us H Q => ∃ (a : Addr) (m : Pl) (kvs : List (D × D)) (xs : List DEn) (vs : List V), us = [.ref a] ∧ DR X.K H m a kvs xs vs ∧ f kvs a m (xs.map fun x => V.ref x.2.1) H Q
theorem dkv_len {K : PySem.W.Frag} {H : Hp} {m : Pl} {a : Addr} {kvs : List (D × D)} {xs : List DEn} {vs : List V} (h : DR K H m a kvs xs vs) : kvs.length = xs.length := by
  have e := congrArg List.length h.key
  simpa using e
theorem call_lenD : CallR X (.builtin "len") (rDct X fun kvs _ _ _ H Q => Q (.int kvs.length) H) := by
  intro pins s σ H xs us Q I r h
  obtain ⟨a, m, kvs, es, vs, rfl, hd, q⟩ := h
  obtain ⟨u, rfl, rx⟩ := r.one
  cases rx
  have dd := hd.dict I
  have hl := dkv_len hd
  have h1 := hd.len
  rw [sizeLine_eq] at h1
  refine call_len_slot (n := (kvs.length : Int)) dd.typeIs PySem.F.slot_dict_len (fun Q' hq => ?_) (by omega) (by omega) ⟨.int kvs.length, H, (I.tok _).tok _, ⟨_, rfl⟩, q⟩
  exact len_keyed (knd := nestedKind X.prog X.w) hd.sys ⟨es, dd, rfl⟩ (by rw [pairsH_length, ← hl]; exact hq)
theorem lenD_read : CallF X.K (rDct X fun kvs _ _ _ H Q => Q (.int kvs.length) H) fLenD := fun E m H st ds vs Q s r hp => by
  unfold fLenD at hp
  split at hp
  · rename_i d
    cases r with
    | cons r1 r2 =>
      cases r2
      split at hp
      · rename_i kvs h1
        obtain ⟨n, a, xs, vs, rfl, rfl, hn, hs, hd⟩ := dctOf_at s r1 h1
        exact ⟨a, m, kvs, xs, vs, rfl, hd, Post.here (v := .int _) hp s .int⟩
      · exact hp.elim
  · exact hp.elim
theorem e_lenD (hm : X.mg "len" = none) (ha : PE X a (rE X.K W ga)) (hg : Gl X "len" := by rfl) (he : starEach [a] X.env = (false, eval a X.env) :: starEach [] X.env := by rfl) (hpl : (backTo pos (starEach [] X.env)).any (·.1) = false := by rfl) :
    PE X (.Call (.Name "len" p) [a] [] pos) (rE X.K W (eFn fLenD (aCons ga aNil))) := e_callB call_lenD lenD_read hm PySem.boot_len (a_cons ha a_nil he) hg (by decide) (by decide) he hpl
def fListD (ds : List D) (st : Sto) : R D := match ds with
  | [d] => match dctOf st d with
    | some kvs => .ok (.ref st.length) (st ++ [.lst (kvs.map (·.1))])
    | none => .fail
  | _ => .fail
theorem refs_vals : ∀ xs : List DEn, Vals (xs.map fun x => V.ref x.2.1) (xs.map fun x => Value.ref x.2.1)
  | [] => .nil
  | _ :: r => .cons rfl (refs_vals r)
theorem call_listD (hc : X.calm = true) : CallR X (.type "list") (rDct X fun _ _ _ ks H Q => ∀ p, H p = none → Q (.ref p) (upd H p (.lst ks))) := by
  intro pins s σ H xs us Q I r h
  obtain ⟨a, m, kvs, es0, vs, rfl, hd, q⟩ := h
  obtain ⟨u, rfl, rx⟩ := r.one
  cases rx
  obtain ⟨o, es, ep, ho, hx, hdt, he, _, _⟩ := hd.dict I
  have l1 : es.size = es0.length := size_of_entries he
  have l2 := dkv_len hd
  have l3 := hd.len
  refine PySem.W.kdl_call (kdl_raw hd.sys hx hdt) (I.ok.hd hc) ho (by omega) fun h' tk acc c' kp e it => ?_
  have ea : acc.toList = es0.map fun x => Value.ref x.2.1 := by
    have hl : acc.toList.length = es0.length := by rw [Array.length_toList, it.1]; exact l1
    refine List.ext_getElem (by rw [hl, List.length_map]) fun j h1 h2 => ?_
    obtain ⟨en, hen, hv⟩ := it.2 j acc.toList[j] (by rw [← Array.getElem?_toList]; simp)
    have qe := entry_at he j
    rw [hen, List.getElem?_eq_getElem (by omega), Option.map_some] at qe
    rw [hv, Option.some.inj qe, List.getElem_map]
    rfl
  have hz : (es0.map fun x => V.ref x.2.1).length ≤ sizeLine := by rw [List.length_map]; omega
  refine ⟨.ref s.heap.objs.size, _, I.laid (t' := tk) (o := .lst (es0.map fun x => V.ref x.2.1)) kp (Nat.le_refl _) ?_, rfl, q _ (I.hok.fresh (Nat.le_refl _))⟩
  exact ⟨hz, acc.toList, c', by rw [ea]; exact refs_vals _, by rw [Array.toArray_toList]; exact e⟩
theorem listD_read : CallF X.K (rDct X fun _ _ _ ks H Q => ∀ p, H p = none → Q (.ref p) (upd H p (.lst ks))) fListD := fun E m H st ds vs Q s r hp => by
  unfold fListD at hp
  split at hp
  · rename_i d
    cases r with
    | cons r1 r2 =>
      cases r2
      split at hp
      · rename_i kvs h1
        obtain ⟨n, a, xs, vs, rfl, rfl, hn, hs, hd⟩ := dctOf_at s r1 h1
        exact ⟨a, m, kvs, xs, vs, rfl, hd, fun l h => new_lst hp s hd.rk h⟩
      · exact hp.elim
  · exact hp.elim
theorem e_listD (hc : X.calm = true) (hm : X.mg "list" = none) (ha : PE X a (rE X.K W ga)) (hg : Gl X "list" := by rfl) (he : starEach [a] X.env = (false, eval a X.env) :: starEach [] X.env := by rfl) (hpl : (backTo pos (starEach [] X.env)).any (·.1) = false := by rfl) :
    PE X (.Call (.Name "list" p) [a] [] pos) (rE X.K W (eFn fListD (aCons ga aNil))) := e_callTy (call_listD hc) listD_read hm PyProof.Rows.boot_list (a_cons ha a_nil he) hg (by decide) (by decide) he hpl
end
end U
set_option Elab.async false
set_option linter.all false
set_option maxRecDepth 100000
set_option maxHeartbeats 1000000
namespace U
open PySem PySem.Spec PyProof.Rows L2
section
variable {X : Cx} {W : WX} {k : Nat} {a b c : Expr} {ga gb gc : EM} {pos p p2 : Pos}
def dMul2 (x y : D) (st : Sto) : R D := match x, y with
  | .ref l, .int j => match st[l]? with
    | some (.lst xs) => if -(2 ^ 63) ≤ j ∧ j < 2 ^ 63 ∧ xs.length * j.toNat ≤ most then .ok (.ref st.length) (st ++ [.lst (List.replicate j.toNat xs).flatten]) else .fail
    | _ => .fail
  | _, _ => dMul x y st
theorem o_mul2 : OpF X (binaryOp .Mult) dMul2 := by
  obtain ⟨r, h1, h2⟩ := o_mul (X := X)
  refine ⟨_, h1.or op_rep, fun E m H st dx dy x y Q s rx ry hp => ?_⟩
  unfold dMul2 at hp
  split at hp
  · rename_i l j
    split at hp
    · rename_i xs hl
      split at hp
      · rename_i hb
        cases rx with
        | @ref _ al hal =>
          cases ry
          obtain ⟨ws, e, rw'⟩ := s.ob _ _ _ hal hl
          exact .inr ⟨al, j, ws, rfl, rfl, e, hb.1, hb.2.1, by rw [← rw'.length]; exact most_le hb.2.2, fun q hq => new_lst hp s (rw'.rep j.toNat) hq⟩
      · exact hp.elim
    · exact hp.elim
  · exact .inl (h2 E m H st dx dy x y Q s rx ry hp)
def fInt (ds : List D) (st : Sto) : R D := match ds with
  | [.int i] => .ok (.int i) st
  | [.bl b] => .ok (.int (if b = true then 1 else 0)) st
  | _ => .fail
theorem int_read {K : PySem.W.Frag} : CallF K (fun xs H Q => (∃ i, xs = [.int i] ∧ Q (.int i) H) ∨ ∃ k, xs = [.bl k] ∧ Q (.int (if k then 1 else 0)) H) fInt := fun E m H st ds vs Q s r hp => by
  unfold fInt at hp
  split at hp
  · rename_i i
    cases r with
    | cons r1 r2 => cases r2; cases r1; exact .inl ⟨i, rfl, Post.here (v := .int i) hp s .int⟩
  · rename_i b
    cases r with
    | cons r1 r2 => cases r2; cases r1; exact .inr ⟨b, rfl, Post.here (v := .int _) hp s .int⟩
  · exact hp.elim
theorem e_intc (hm : X.mg "int" = none) (ha : PE X a (rE X.K W ga)) (hg : Gl X "int" := by rfl) (he : starEach [a] X.env = (false, eval a X.env) :: starEach [] X.env := by rfl) (hpl : (backTo pos (starEach [] X.env)).any (·.1) = false := by rfl) :
    PE X (.Call (.Name "int" p) [a] [] pos) (rE X.K W (eFn fInt (aCons ga aNil))) := e_callTy call_int1 int_read hm PyProof.Rows.boot_int (a_cons ha a_nil he) hg (by decide) (by decide) he hpl
def fDivmod (ds : List D) (st : Sto) : R D := match ds with
  | [.int i, .int j] => if 0 < j ∧ j < 1073741824 then .ok (.tup [.int (i / j), .int (i % j)]) st else .fail
  | _ => .fail
theorem divmod_read {K : PySem.W.Frag} : CallF K (fun xs H Q => ∃ i j, xs = [.int i, .int j] ∧ CDiv i j ∧ ∀ p, H p = none → Q (.ref p) (upd H p (.tup [.int (i / j), .int (i % j)]))) fDivmod := fun E m H st ds vs Q s r hp => by
  unfold fDivmod at hp
  split at hp
  · rename_i i j
    cases r with
    | cons r1 r2 =>
      cases r2 with
      | cons r2 r3 =>
        cases r3; cases r1; cases r2
        split at hp
        · rename_i hj
          exact ⟨i, j, rfl, hj, fun q hq => new_tup hp s (.cons .int (.cons .int .nil)) hq⟩
        · exact hp.elim
  · exact hp.elim
theorem e_divmod (hm : X.mg "divmod" = none) (ha : PE X a (rE X.K W ga)) (hb : PE X b (rE X.K W gb)) (hg : Gl X "divmod" := by rfl) (he : starEach [a, b] X.env = (false, eval a X.env) :: starEach [b] X.env := by rfl) (he2 : starEach [b] X.env = (false, eval b X.env) :: starEach [] X.env := by rfl) (hpl : (backTo pos (starEach [b] X.env)).any (·.1) = false := by rfl) :
    PE X (.Call (.Name "divmod" p) [a, b] [] pos) (rE X.K W (eFn fDivmod (aCons ga (aCons gb aNil)))) := e_callB call_divmod divmod_read hm PyProof.Rows.boot_divmod (a_cons ha (a_cons hb a_nil he2) he) hg (by decide) (by decide) he hpl
def sPar3 (i j l : Nat) (ga gb gc : EM) : SM := fun env st => (ga env st).then env fun x st => (gb env st).then env fun y st => (gc env st).then env fun z st => .nx (((env.set i (some x)).set j (some y)).set l (some z)) st
theorem s_par3 (i j l : Nat) {x y z : Str} {px py pz pt : Pos} {kt k2 : Nat} {pt2 : Pos} (hcalm : X.calm = true) (hN : X.N.Nodup) (ha : PE X a (rE X.K W ga)) (hb : PE X b (rE X.K W gb)) (hc : PE X c (rE X.K W gc)) (hij : i ≠ j := by decide) (hil : i ≠ l := by decide) (hjl : j ≠ l := by decide)
    (hi : X.N[i]? = some x := by rfl) (hj : X.N[j]? = some y := by rfl) (hl : X.N[l]? = some z := by rfl) (hx : X.env.scope.names.lookup x = some .local := by rfl) (hy : X.env.scope.names.lookup y = some .local := by rfl) (hz : X.env.scope.names.lookup z = some .local := by rfl)
    (hw : swappedStores [.Tuple [.Name x px, .Name y py, .Name z pz] kt pt] (.Tuple [a, b, c] k2 pt2) X.env = pure (some [x, y, z]) := by rfl)
    (hs : swapsWithSole [.Tuple [.Name x px, .Name y py, .Name z pz] kt pt] (.Tuple [a, b, c] k2 pt2) pos.line X.env = pure false := by rfl)
    (h1 : starEach [a, b, c] X.env = (false, eval a X.env) :: starEach [b, c] X.env := by rfl) (h2 : starEach [b, c] X.env = (false, eval b X.env) :: starEach [c] X.env := by rfl) (h3 : starEach [c] X.env = (false, eval c X.env) :: starEach [] X.env := by rfl) :
    PS X (.Assign [.Tuple [.Name x px, .Name y py, .Name z pz] kt pt] (.Tuple [a, b, c] k2 pt2) pos) (rS X.K W (sPar3 i j l ga gb gc)) :=
  (ps_par3 hcalm hN hi hj hl hij hil hjl hx hy hz (pa_cons ha (pa_cons hb (pa_cons hc pa_nil h3) h2) h1) hw hs).imp fun D σ H ⟨env, m, st, hE, hS, hp⟩ => by
  refine ⟨env, m, st, hE, hS, PostS.bind hE hp fun d st1 v H1 m1 e1 p1 s1 r1 hp1 => ⟨env, m1, st1, hE.mono e1 p1, s1, PostS.bind (hE.mono e1 p1) hp1 fun d2 st2 v2 H2 m2 e2 p2 s2 r2 hp2 => ⟨env, m2, st2, (hE.mono e1 p1).mono e2 p2, s2, PostS.bind ((hE.mono e1 p1).mono e2 p2) hp2 fun d3 st3 v3 H3 m3 e3 p3 s3 r3 hp3 => ⟨v, v2, v3, rfl, ?_⟩⟩⟩⟩
  exact hp3 _ H3 m3 (.refl _) (List.prefix_refl _) s3 ((((((hE.mono e1 p1).mono e2 p2).mono e3 p3).set ((r1.mono e2 p2).mono e3 p3)).set (r2.mono e3 p3)).set r3)
def maxL : Int → List Int → Int
  | n, [] => n
  | n, x :: xs => maxL (if n < x then x else n) xs
theorem maxL_fold : ∀ (n : Int) (ns : List Int), PySem.W.maxOf n ns = maxL n ns
  | n, [] => rfl
  | n, x :: xs => by
    simp only [maxL]
    rw [← maxL_fold _ xs]
    simp only [PySem.W.maxOf, List.foldl_cons]
    congr 1
    show (if decide (n < x) = true then x else n) = _
    simp only [decide_eq_true_eq]
def fMaxDef (ds : List D) (st : Sto) : R D := match ds with
  | [.ref l, .int d] => match (lstOf st l).bind intsOf with
    | some [] => .ok (.int d) st
    | some (n :: ns) => .ok (.int (maxL n ns)) st
    | none => .fail
  | _ => .fail
def rMaxDef (X : Cx) : List V → List V → Hp → VK → Prop := fun xs zs H Q => ∃ (a : Addr) (ns : List Int) (d : Int), xs = [.ref a] ∧ zs = [.int d] ∧ SqL X.K H a (ns.map V.int) ∧ (ns = [] → Q (.int d) H) ∧ ∀ n r, ns = n :: r → Q (.int (maxL n r)) H
theorem call_maxDef (hc : X.calm = true) (hr : Room k X.A) : CallRK X (.builtin "max") ["default"] (rMaxDef X) := by
  intro pins s σ H xs zs us ws Q I r1 r2 h
  obtain ⟨a, ns, d, rfl, rfl, hs, h0, h1⟩ := h
  obtain ⟨its, rv, hl, hz⟩ := I.list hs
  obtain ⟨u, rfl, ru⟩ := r1.one
  cases ru
  obtain ⟨w, rfl, t, rfl⟩ := vals1 r2
  have hu : X.A.units + 1 + PySem.W.Datum.depth Int < cLine := by have := hr.un; show X.A.units + 1 + 0 < cLine; omega
  refine PySem.W.max_list_datum_default (xs := ns) (I.ok.hd hc) hl.isList (by simpa using PySem.W.HoldAll.of_ints rv.ints) hu (fun e h' tk kp => ?_) fun y ys i v h' tk e hi hv kp => ?_
  · exact ⟨.int d, H, I.kept (t' := tk) kp, ⟨_, rfl⟩, h0 e⟩
  · obtain ⟨as, hv⟩ := hv
    rw [maxL_fold] at hv
    have hv' : Reads h' v (.int (maxL y ys)) as := hv
    cases hv'
    refine ⟨.int (maxL y ys), H, I.kept (t' := tk) kp, ⟨_, rfl⟩, h1 y ys e⟩
theorem e_maxDef {kpos : Pos} (hc : X.calm = true) (hr : Room k X.A) (hm : X.mg "max" = none) (ha : PE X a (rE X.K W ga)) (hb : PE X b (rE X.K W gb)) (hg : Gl X "max" := by rfl) (h1 : starEach [a] X.env = (false, eval a X.env) :: starEach [] X.env := by rfl)
    (he : backTo pos (starEach [a] X.env) = (false, eval a X.env) :: backTo pos (starEach [] X.env) := by rfl) (hpl : (backTo pos (starEach [a] X.env)).any (·.1) = false := by rfl)
    (hall : (backToKw pos (keywordEach [⟨some "default", b, kpos⟩] X.env)).all (·.1.isSome) = true := by rfl) (hnone : (backToKw pos (keywordEach [⟨some "default", b, kpos⟩] X.env)).any (·.1.isNone) = false := by rfl) (hks : (backToKw pos (keywordEach [⟨some "default", b, kpos⟩] X.env)).filterMap (·.1) = [("default" : Str)] := by rfl) :
    PE X (.Call (.Name "max" p) [a] [⟨some "default", b, kpos⟩] pos) (rE X.K W (eFn fMaxDef (aCons ga (aCons gb aNil)))) := by
  refine (pe_callBK (call_maxDef hc hr) hg hm PyProof.Rows.boot_max (pa_cons ha pa_nil h1) (pk_cons hb pk_nil) (by decide) (by decide) he hpl hall hnone hks).imp fun σ H Q ⟨env, m, st, hE, hS, hp⟩ => ?_
  have hp' : Post X.K (okV X.K) (WE W σ) m H Q ((ga env st).bind fun x st => (gb env st).bind fun y st => fMaxDef [x, y] st) := by
    have e : eFn fMaxDef (aCons ga (aCons gb aNil)) env st = ((ga env st).bind fun x st => (gb env st).bind fun y st => fMaxDef [x, y] st) := by
      simp only [eFn, aCons, aNil]
      cases ga env st with
      | ok d s1 => simp only [R.bind]; cases gb env s1 <;> rfl
      | err c fs s1 => rfl
      | fail => rfl
    rw [← e]; exact hp
  refine ⟨env, m, st, hE, hS, hp'.bind fun d st1 v H1 m1 e1 p1 s1 r1 hp1 => ⟨env, m1, st1, hE.mono e1 p1, s1, hp1.bind fun d2 st2 v2 H2 m2 e2 p2 s2 r2 hp2 => ?_⟩⟩
  have r1' := r1.mono e2 p2
  unfold fMaxDef at hp2
  split at hp2
  · rename_i l d0 hds
    cases hds
    cases r2
    cases r1' with
    | @ref _ al hal =>
      have key : ∀ ns : List Int, (lstOf st2 l).bind intsOf = some ns → SqL X.K H2 al (ns.map V.int) := fun ns q => by
        obtain ⟨xs, hx, hi⟩ := Option.bind_eq_some_iff.mp q
        have ex := intsOf_eq hi
        subst ex
        obtain ⟨vs, hq, rs⟩ := s2.sqL hal hx
        have ev := RVs.ints rs
        subst ev
        exact hq
      split at hp2
      · rename_i q
        exact ⟨al, [], d0, rfl, rfl, key _ q, fun _ => Post.here (v := .int d0) hp2 s2 .int, fun n r e => by cases e⟩
      · rename_i n r q
        exact ⟨al, n :: r, d0, rfl, rfl, key _ q, (fun e => by cases e), (fun n r e => by cases e; exact Post.here (v := .int _) hp2 s2 .int)⟩
      · exact hp2.elim
  · exact hp2.elim
end
end U
set_option Elab.async false
set_option linter.all false
set_option maxRecDepth 100000
set_option maxHeartbeats 1000000
namespace U
open PySem PySem.Spec PyProof.Rows L2
def wfuel : Nat := 20000
def encS (st : Sto) (d : D) : PyData := (toS st d).getD .none
def tupled : PyData → Bool
  | .tuple (_ :: _) => true
  | _ => false
def single : PyData → Bool
  | .none => false
  | .tuple _ => false
  | _ => true
def sortable (ps : List PyData) : Bool := (ps.all tupled || ps.all single) && ps.all (fun p => ps.all (PySem.W.alike p)) && ps.all (fun p => decide (p.depth ≤ 60))
def fSortG (ds : List D) (st : Sto) : R D := match ds with
  | [.ref l] => match lstOf st l with
    | some xs => if xs.all (fun d => (toS st d).isSome) = true ∧ sortable (xs.map (encS st)) = true then .ok (.ref st.length) (st ++ [.lst (xs.mergeSort (PySem.W.dataLe false (encS st)))]) else .fail
    | none => .fail
  | _ => .fail
theorem sortable_ok {ps : List PyData} (h : sortable ps = true) : PySem.W.AllAlike ps ∧ PySem.W.Sortable ps ∧ ∀ p ∈ ps, p.depth ≤ 60 := by
  simp only [sortable, Bool.and_eq_true, Bool.or_eq_true, List.all_eq_true, decide_eq_true_eq] at h
  obtain ⟨⟨h1, h2⟩, h3⟩ := h
  refine ⟨fun d hd e he => h2 d hd e he, ?_, h3⟩
  rcases h1 with h1 | h1
  · refine .inl fun d hd => ?_
    have := h1 d hd
    unfold tupled at this
    split at this
    · exact ⟨_, _, rfl⟩
    · cases this
  · refine .inr fun d hd => ?_
    have := h1 d hd
    unfold single at this
    split at this
    · cases this
    · cases this
    · rename_i n1 n2
      exact ⟨n1, n2⟩
def rSortG (X : Cx) : List V → Hp → VK → Prop := fun vs H Q => ∃ (a : Addr) (ds : List D) (xs : List V) (m : Pl) (enc : D → PyData), vs = [.ref a] ∧ SqL X.K H a xs ∧ RVs X.K H m ds xs ∧ (∀ d v, d ∈ ds → RV X.K H m d v → Dp X.K H v (enc d)) ∧ sortable (ds.map enc) = true ∧
  ∀ p ys, H p = none → RVs X.K H m (ds.mergeSort (PySem.W.dataLe false enc)) ys → Q (.ref p) (upd H p (.lst ys))
section
variable {X : Cx} {W : WX} {k : Nat} {a : Expr} {ga : EM} {p pos : Pos}
theorem each_of {K : PySem.W.Frag} {H : Hp} {m : Pl} : ∀ {ds : List D} {xs : List V} {us : List Value}, RVs K H m ds xs → Vals xs us → PySem.W.EachIs (fun u d => ∃ x, RelV x u ∧ RV K H m d x) us ds
  | [], _, _, r, v => by cases r; cases v; exact .nil
  | _ :: _, _, _, r, v => by
    cases r with
    | cons r1 r2 =>
      cases v with
      | cons v1 v2 => exact .cons ⟨_, v1, r1⟩ (each_of r2 v2)
theorem of_each {K : PySem.W.Frag} {H : Hp} {m : Pl} : ∀ {ds : List D} {us : List Value}, PySem.W.EachIs (fun u d => ∃ x, RelV x u ∧ RV K H m d x) us ds → ∃ xs, RVs K H m ds xs ∧ Vals xs us
  | _, _, .nil => ⟨[], .nil, .nil⟩
  | _, _, .cons ⟨x, h1, h2⟩ r => let ⟨xs, h3, h4⟩ := of_each r; ⟨x :: xs, .cons h2 h3, .cons h1 h4⟩
theorem cr_sortG (hr : Room k X.A) : CallR X (.builtin "sorted") (rSortG X) := by
  intro pins s σ H vs us Q I r h
  obtain ⟨a, ds, xs, m, enc, rfl, hs, rs, hd, hso, q⟩ := h
  obtain ⟨its, rv, hl, hz⟩ := I.list hs
  obtain ⟨u, rfl, ru⟩ := r.one
  cases ru
  obtain ⟨h1, h2, h3⟩ := sortable_ok hso
  have hlen : ds.length ≤ sizeLine := by rw [rs.length]; exact hz
  have er : ∀ {es : List D} {ys : List V} {ws : List Value}, (∀ d ∈ es, d ∈ ds) → RVs X.K H m es ys → Vals ys ws → PySem.W.EachIs (fun v b => ∃ as, Reads s.heap v (enc b) as) ws es := by
    intro es
    induction es with
    | nil => intro ys ws _ r v; cases r; cases v; exact .nil
    | cons e es ih =>
      intro ys ws hm r v
      cases r with
      | cons r1 r2 =>
        cases v with
        | cons v1 v2 => exact .cons (Dp.reads I _ _ _ (hd e _ (hm e List.mem_cons_self) r1) v1) (ih (fun d hd => hm d (List.mem_cons_of_mem _ hd)) r2 v2)
  refine PySem.W.sorted_data (bs := ds) (enc := enc) (R := fun u d => ∃ x, RelV x u ∧ RV X.K H m d x) hl.isList (each_of rs rv) (er (fun _ h => h) rs rv) h1 h2 hlen (fun b hb => ?_) fun out ho he => ?_
  · have := h3 _ (List.mem_map.mpr ⟨b, hb, rfl⟩)
    have := hr.un
    omega
  · obtain ⟨ys, hy, hv⟩ := of_each he
    obtain ⟨ep, hat⟩ := sortedAll_at s.heap its out.toArray
    refine ⟨.ref (s.heap.objs.size + 1), upd H (s.heap.objs.size + 1) (.lst ys), I.laid (t' := s.toks) (fun _ _ => sortedAll_old) (Nat.le_succ _) ⟨?_, out, ep, hv, hat⟩, rfl, q _ ys (I.hok.fresh (Nat.le_succ _)) hy⟩
    rw [← hy.length, List.length_mergeSort]; exact hlen
theorem sortG_read : CallF X.K (rSortG X) fSortG := fun E m H st ds vs Q s r hp => by
  unfold fSortG at hp
  split at hp
  · rename_i l
    cases r with
    | cons r1 r2 =>
      cases r2
      split at hp
      · rename_i xs hx
        split at hp
        · rename_i hc
          cases r1 with
          | @ref _ al hal =>
            obtain ⟨ws, hq, rs⟩ := s.sqL hal hx
            refine ⟨al, xs, ws, m, encS st, rfl, hq, rs, fun d v hd rv => ?_, hc.2, fun q ys hq' ry => new_lst hp s ry hq'⟩
            have := List.all_eq_true.mp hc.1 d hd
            obtain ⟨pd, hpd⟩ := Option.isSome_iff_exists.mp this
            unfold encS
            rw [hpd]
            exact (toS_dp s rv hpd).1
        · exact hp.elim
      · exact hp.elim
  · exact hp.elim
theorem e_sortG (hr : Room k X.A) (hm : X.mg "sorted" = none) (ha : PE X a (rE X.K W ga)) (hg : Gl X "sorted" := by rfl) (he : starEach [a] X.env = (false, eval a X.env) :: starEach [] X.env := by rfl) (hpl : (backTo pos (starEach [] X.env)).any (·.1) = false := by rfl) :
    PE X (.Call (.Name "sorted" p) [a] [] pos) (rE X.K W (eFn fSortG (aCons ga aNil))) := e_callB (cr_sortG hr) sortG_read hm (by rfl) (a_cons ha a_nil he) hg (by decide) (by decide) he hpl
end
end U
set_option Elab.async false
set_option linter.all false
set_option maxRecDepth 100000
set_option maxHeartbeats 4000000
namespace U
open PySem PySem.Spec PyProof.Rows L2

def dIsi2 (S T : String) (d : D) (st : Sto) : R D := match tyD st d with
  | some q => .ok (.bl (isiT q S || isiT q T)) st
  | none => .fail
theorem any_isi {K : PySem.W.Frag} {q S T : String} (hq : q ∈ kinds) (hS : S ∈ askd) (hT : T ∈ askd) : PySem.W.kitAny K (.type q) [.type S, .type T] = some (isiT q S || isiT q T) :=
  kitAny_cons (kit_ty (isi_tab q hq S hS)) (fun h => kitAny_cons (kit_ty (isi_tab q hq T hT)) (fun h2 => by rw [h, h2]; exact kitAny_nil) (fun h2 => by rw [h2]; simp)) (fun h => by rw [h]; rfl)
section
variable {X : Cx} {W : WX} {a b c : Expr} {ga gb gc : EM} {es : List Expr} {gs : AM} {pos p p2 p3 pt apos : Pos}
theorem e_isi2 (S T : String) {x y : Str} {kt : Nat} (hm : X.mg "isinstance" = none) (hmS : X.mg x = none) (hmT : X.mg y = none) (ha : PE X a (rE X.K W ga)) (hvS : bootBuiltins x = some (.type S) := by decide +kernel) (hvT : bootBuiltins y = some (.type T) := by decide +kernel) (hS : S ∈ askd := by decide) (hT : T ∈ askd := by decide)
    (hg : Gl X "isinstance" := by rfl) (hgS : Gl X x := by rfl) (hgT : Gl X y := by rfl) (hnS : x ≠ "__name__" := by decide) (hdS : (x == ("__debug__" : Str)) = false := by decide) (hnT : y ≠ "__name__" := by decide) (hdT : (y == ("__debug__" : Str)) = false := by decide)
    (h1 : starEach [a, .Tuple [.Name x p2, .Name y p3] kt pt] X.env = (false, eval a X.env) :: starEach [.Tuple [.Name x p2, .Name y p3] kt pt] X.env := by rfl) (h2 : starEach [.Tuple [.Name x p2, .Name y p3] kt pt] X.env = (false, eval (.Tuple [.Name x p2, .Name y p3] kt pt) X.env) :: starEach [] X.env := by rfl)
    (h3 : starEach [.Name x p2, .Name y p3] X.env = (false, eval (.Name x p2) X.env) :: starEach [.Name y p3] X.env := by rfl) (h4 : starEach [.Name y p3] X.env = (false, eval (.Name y p3) X.env) :: starEach [] X.env := by rfl)
    (hpl : (backTo pos (starEach [.Tuple [.Name x p2, .Name y p3] kt pt] X.env)).any (·.1) = false := by rfl) :
    PE X (.Call (.Name "isinstance" p) [a, .Tuple [.Name x p2, .Name y p3] kt pt] [] pos) (rE X.K W (eUn (dIsi2 S T) ga)) :=
  (pe_callB call_isiT hg hm boot_isinstance (pa_cons ha (pa_cons (pe_tup (pa_cons (pe_bltn (v := .ty S) hgS hmS hvS rfl hnS hdS) (pa_cons (pe_bltn (v := .ty T) hgT hmT hvT rfl hnT hdT) pa_nil h4) h3)) pa_nil h2) h1) (by decide) (by decide) h1 hpl).imp fun σ H Q ⟨env, m, st, hE, hS', hp⟩ => by
    refine ⟨env, m, st, hE, hS', hp.bind fun d st1 v H1 m1 e1 p1 s1 r1 hp1 => ?_⟩
    unfold dIsi2 at hp1
    split at hp1
    · rename_i k q
      refine ⟨by rw [sizeLine_eq]; exact (by decide : (2 : Nat) ≤ 16777216), fun tp hn => ?_⟩
      have s2 := s1.tup (o := .tup [.ty S, .ty T]) hn
      have r2 : RV X.K (upd H1 tp (.tup [.ty S, .ty T])) m1 d v := r1.mono (.new hn) (List.prefix_refl _)
      exact ⟨v, tp, [.ty S, .ty T], .type k, [.type S, .type T], _, rfl, upd_same, .cons (.ty S) (.cons (.ty T) .nil), tyD_ty s2 r2 q, any_isi (tyD_mem q) hS hT, Post.here (v := .bl _) (Post.up hp1 (.new hn) (List.prefix_refl _)) s2 .bl⟩
    · exact hp1.elim
theorem ss_never {l : List Stmt} : PSs X l (rS X.K W sNever) := ⟨fun pins s σ H D I h => by obtain ⟨env, m, st, _, _, hp⟩ := h; exact hp.elim⟩
def mInsert (x : D) (xs : List D) (st : Sto) : R D := match x, xs with
  | .ref n, [.int i, d] => match st[n]? with
    | some (.lst ys) => if ys.length < most ∧ 0 ≤ i ∧ i < 1000000 then .ok .non (st.set n (.lst (ys.take i.toNat ++ [d] ++ ys.drop i.toNat))) else .fail
    | _ => .fail
  | _, _ => .fail
theorem insert_read {K : PySem.W.Frag} : MtF K (fun x vs H Q => ∃ (l : Addr) (xs : List V) (i : Int) (y : V), x = .ref l ∧ vs = [.int i, y] ∧ H l = some (.lst xs) ∧ xs.length < sizeLine ∧ 0 ≤ i ∧ i < 2 ^ 63 ∧
    Q .non (upd H l (.lst (xs.take i.toNat ++ [y] ++ xs.drop i.toNat)))) mInsert := fun E m H st dx ds x vs Q s rx rs hp => by
  unfold mInsert at hp
  split at hp
  · rename_i n i d
    cases rx with
    | @ref _ a hn =>
      cases rs with
      | cons r1 r2 =>
        cases r2 with
        | cons r2 r3 =>
          cases r3
          cases r1
          split at hp
          · rename_i ys q
            obtain ⟨ws, e, rw'⟩ := s.ob _ _ _ hn q
            split at hp
            · rename_i hl
              exact ⟨a, ws, i, _, rfl, rfl, e, by rw [← rw'.length]; exact most_lt hl.1, hl.2.1, Int.lt_trans hl.2.2 (by decide), write_lst s hn q e (((rw'.take _).append (.one r2)).append (rw'.drop _)) hp⟩
            · exact hp.elim
          · exact hp.elim
  · exact hp.elim
theorem e_insert (ha : PE X a (rE X.K W ga)) (hb : PE X b (rE X.K W gb)) (hc : PE X c (rE X.K W gc)) (hbase : attributeBase a "insert" X.env (eval a X.env) = eval a X.env := by rfl)
    (hfew : ((backTo pos (starEach [b, c] X.env)).all (fun x => !x.1) && (backToKw pos (keywordEach [] X.env)).all (fun x => x.1.isSome) && decide ([b, c].length + ([] : List Keyword).length + (if ([] : List Keyword).isEmpty then 0 else 1) < 30)) = true := by rfl)
    (hline : (apos.endLine == pos.line) = true := by rfl) (hs : starEach [b, c] X.env = (false, eval b X.env) :: starEach [c] X.env := by rfl) (hs2 : starEach [c] X.env = (false, eval c X.env) :: starEach [] X.env := by rfl) (hplain : (backTo pos (starEach [c] X.env)).any (·.1) = false := by rfl) :
    PE X (.Call (.Attribute a "insert" apos) [b, c] [] pos) (rE X.K W (eMtL mInsert ga (aCons gb (aCons gc aNil)))) :=
  e_mtL PySem.F.slot_list_insert PySem.F.type_list_insert mt_insert insert_read ha (a_cons hb (a_cons hc a_nil hs2) hs) hbase hfew hline hs hplain
end
theorem wipe_idem {σ : L2.St} {vs : List Nat} : L2.wipe (L2.wipe σ vs) vs = L2.wipe σ vs := by
  have idem : ∀ ws : List Nat, (∀ w ∈ ws, w ∈ vs) → L2.wipe (L2.wipe σ vs) ws = L2.wipe σ vs := by
    intro ws
    induction ws with
    | nil => intro _; rfl
    | cons w ws ih =>
      intro hw
      show (L2.wipe (L2.wipe σ vs) ws).set w none = L2.wipe σ vs
      rw [show L2.wipe (L2.wipe σ vs) ws = L2.wipe σ vs from ih fun z hz => hw z (List.mem_cons_of_mem _ hz)]
      have none_at : ∀ (us : List Nat), w ∈ us → (L2.wipe σ us).set w none = L2.wipe σ us := by
        intro us
        induction us with
        | nil => intro h; cases h
        | cons u us ih2 =>
          intro h
          unfold L2.wipe
          rcases List.mem_cons.mp h with z | z
          · subst z; exact List.set_set ..
          · by_cases hu : u = w
            · subst hu; exact List.set_set ..
            · rw [List.set_comm _ _ hu, ih2 z]
      exact none_at vs (hw w List.mem_cons_self)
  exact idem vs fun _ h => h
def runIn (s : Src) (g : GM) (t : TM) (e : EM) (k : Nat) (env : Ev) (cont : Sto → R D) : Nat → Nat → Sto → R D
  | 0, _, _ => .fail
  | f + 1, j, st => match s.at st with
    | none => .fail
    | some ys => match ys[j]? with
      | none => cont st
      | some d => match g d env st with
        | none => .fail
        | some (env1, _) => (t env1 st).bind fun b st => if b = true then (e env1 st).bind fun y st => (match st[k]? with
            | some (.lst acc) => if acc.length < most then runIn s g t e k env cont f (j + 1) (st.set k (.lst (acc ++ [y]))) else .fail
            | _ => .fail) else runIn s g t e k env cont f (j + 1) st
def startIn (g : GM) (t : TM) (e : EM) (k : Nat) (env : Ev) (cont : Sto → R D) (s : Src) (st : Sto) : R D := match s.at st with
  | none => .fail
  | some ys => runIn s g t e k env cont (ys.length + 1) 0 st
def runLc2 (s : Src) (g : GM) (t : TM) (src1 : IM) (vs1 : List Nat) (g1 : GM) (t1 : TM) (e : EM) (k : Nat) (env : Ev) : Nat → Nat → Sto → R D
  | 0, _, _ => .fail
  | f + 1, i, st => match s.at st with
    | none => .fail
    | some xs => match xs[i]? with
      | none => .ok (.ref k) st
      | some d => match g d env st with
        | none => .fail
        | some (env1, _) => (t env1 st).bind fun b st => if b = true then (src1 env1 st).bind (startIn g1 t1 e k (wipeE env1 vs1) fun st => runLc2 s g t src1 vs1 g1 t1 e k env f (i + 1) st)
          else runLc2 s g t src1 vs1 g1 t1 e k env f (i + 1) st
def startLc2 (g : GM) (t : TM) (src1 : IM) (vs1 : List Nat) (g1 : GM) (t1 : TM) (e : EM) (env : Ev) (s : Src) (st : Sto) : R D := match s.at st with
  | none => .fail
  | some xs => runLc2 s g t src1 vs1 g1 t1 e st.length env (xs.length + 1) 0 (st ++ [.lst []])
def cLc2 (src : IM) (vs : List Nat) (g : GM) (t : TM) (src1 : IM) (vs1 : List Nat) (g1 : GM) (t1 : TM) (e : EM) : EM := fun env st => (src env st).bind fun s st => (startLc2 g t src1 vs1 g1 t1 e (wipeE env vs) s st).hush
theorem lc2_of {K : PySem.W.Frag} {tgt tgt1 : TG} {g g1 : GM} {tt tt1 : TM} {ge : EM} {src1 : IM} {σ : L2.St} {Q : VK} {vs vs1 : List Nat} {s : Src} {J : It} {H1 : Hp} {m1 : Pl} {st1 : Sto} {env : Ev} (hg : GOk K vs tgt g) (hg1 : GOk K vs1 tgt1 g1) (hJ : okI K H1 m1 s J) (hE : RE K H1 m1 env σ) (hS : SR K H1 m1 st1)
    (hp : Post K (okV K) (fun _ _ _ => False) m1 H1 Q (startLc2 g tt src1 vs1 g1 tt1 ge (wipeE env vs) s st1)) (Da : Addr) (hD : H1 Da = none) :
    ∃ Wd : Nat → Nat → Hp → Prop, (∃ m, Wd 0 m (upd H1 Da (.lst []))) ∧ ∀ i m H, Wd i m H →
      (J.stop i H ∧ Q (.ref Da) H) ∨ (J.go i H ∧ ∃ Nx : Hp → Prop, (∀ H', Nx H' → ∃ m', m' < m ∧ Wd (i + 1) m' H') ∧ ∀ x H', J.yld i H x H' → tgt x (L2.wipe σ vs) H' fun σ2 H2 => L2.wipe σ2 vs = L2.wipe σ vs ∧ rT K W0 tt σ2 H2 fun b H3 =>
        if b = true then rI K W0 src1 σ2 H3 fun J1 H4 => ∃ W1 : Nat → Nat → Hp → Prop, (∃ m, W1 0 m H4) ∧ ∀ j k H, W1 j k H →
          (J1.stop j H ∧ Nx H) ∨ (J1.go j H ∧ ∃ Nx1 : Hp → Prop, (∀ H', Nx1 H' → ∃ k', k' < k ∧ W1 (j + 1) k' H') ∧ ∀ x H', J1.yld j H x H' → tgt1 x (L2.wipe σ2 vs1) H' fun σ3 H5 => L2.wipe σ3 vs1 = L2.wipe σ2 vs1 ∧ rT K W0 tt1 σ3 H5 fun b H6 =>
            if b = true then rE K W0 ge σ3 H6 fun y H7 => ∃ acc, H7 Da = some (.lst acc) ∧ acc.length < sizeLine ∧ Nx1 (upd H7 Da (.lst (acc ++ [y]))) else Nx1 H6)
        else Nx H3) := by
  unfold startLc2 at hp
  cases q : s.at st1 with
  | none => rw [q] at hp; exact hp.elim
  | some xs =>
    rw [q] at hp
    have hk : (m1 ++ [Da])[st1.length]? = some Da := by rw [← hS.len]; simp
    refine ⟨fun i f H => ∃ m st, Ext H1 H ∧ (m1 ++ [Da]) <+: m ∧ SR K H m st ∧ Post K (okV K) (fun _ _ _ => False) m H Q (runLc2 s g tt src1 vs1 g1 tt1 ge st1.length (wipeE env vs) f i st),
      ⟨xs.length + 1, m1 ++ [Da], st1 ++ [.lst []], .new hD, List.prefix_refl _, hS.new (ob := .lst []) hD ⟨[], upd_same, .nil⟩, Post.up hp (.new hD) (List.prefix_append _ _)⟩, ?_⟩
    rintro i f H ⟨m, st, e, p, sS, hp⟩
    have pm : m1 <+: m := (List.prefix_append m1 [Da]).trans p
    cases f with
    | zero => exact hp.elim
    | succ f =>
      unfold runLc2 at hp
      cases q : s.at st with
      | none => rw [q] at hp; exact hp.elim
      | some ys =>
        rw [q] at hp
        obtain ⟨j1, j2⟩ := hJ i H m st ys e pm sS q
        cases q2 : ys[i]? with
        | none =>
          simp only [q2] at hp
          exact .inl ⟨j1 q2, Post.here (v := .ref Da) hp sS (.ref (pre_get p hk))⟩
        | some d =>
          simp only [q2] at hp
          obtain ⟨j3, j4⟩ := j2 d q2
          refine .inr ⟨j3, fun H' => ∃ m st, Ext H1 H' ∧ (m1 ++ [Da]) <+: m ∧ SR K H' m st ∧ Post K (okV K) (fun _ _ _ => False) m H' Q (runLc2 s g tt src1 vs1 g1 tt1 ge st1.length (wipeE env vs) f (i + 1) st), fun H' h => ⟨f, Nat.lt_succ_self f, h⟩, fun x H' y => ?_⟩
          obtain ⟨e1, s1, r1⟩ := j4 x H' y
          have hE1 : RE K H' m (wipeE env vs) (L2.wipe σ vs) := (hE.mono (e.trans e1) pm).wipe vs
          cases q3 : g d (wipeE env vs) st with
          | none => simp only [q3] at hp; exact hp.elim
          | some z =>
            obtain ⟨env1, st0⟩ := z
            simp only [q3] at hp
            refine hg d x (wipeE env vs) env1 (L2.wipe σ vs) m H' st st0 _ r1 hE1 q3 fun _ σ2 w2 r2 => ⟨by rw [w2]; exact wipe_idem, ?_⟩
            have hp' := Post.up (m' := m) hp e1 (List.prefix_refl m)
            refine ⟨env1, m, st, r2, s1, hp'.bind fun b st2 b' H3 m3 e3 p3 s3 rb hp3 => ?_⟩
            cases (show b = b' from rb)
            cases b with
            | false =>
              refine iteF ⟨m3, st2, (e.trans e1).trans e3, p.trans p3, s3, ?_⟩
              simpa using hp3
            | true =>
              refine iteT ?_
              have hp4 : Post K (okV K) (fun _ _ _ => False) m3 H3 Q ((src1 env1 st2).bind (startIn g1 tt1 ge st1.length (wipeE env1 vs1) fun st => runLc2 s g tt src1 vs1 g1 tt1 ge st1.length (wipeE env vs) f (i + 1) st)) := hp3
              have r3 := r2.mono e3 p3
              refine ⟨env1, m3, st2, r3, s3, hp4.bind fun sr st4 J1 H4 m4 e4 p4 s4 hJ1 hp5 => ?_⟩
              have r4 := r3.mono e4 p4
              unfold startIn at hp5
              cases q5 : sr.at st4 with
              | none => rw [q5] at hp5; exact hp5.elim
              | some zs =>
                rw [q5] at hp5
                have E4 : Ext H1 H4 := ((e.trans e1).trans e3).trans e4
                have P4 : (m1 ++ [Da]) <+: m4 := (p.trans p3).trans p4
                refine ⟨fun j f1 H => ∃ m st, Ext H4 H ∧ m4 <+: m ∧ SR K H m st ∧ Post K (okV K) (fun _ _ _ => False) m H Q (runIn sr g1 tt1 ge st1.length (wipeE env1 vs1) (fun st => runLc2 s g tt src1 vs1 g1 tt1 ge st1.length (wipeE env vs) f (i + 1) st) f1 j st),
                  ⟨zs.length + 1, m4, st4, .refl _, List.prefix_refl _, s4, hp5⟩, ?_⟩
                rintro j f1 HA ⟨mA, stA, eA, pA, sA, hpA⟩
                cases f1 with
                | zero => exact hpA.elim
                | succ f1 =>
                  unfold runIn at hpA
                  cases q6 : sr.at stA with
                  | none => rw [q6] at hpA; exact hpA.elim
                  | some us =>
                    rw [q6] at hpA
                    obtain ⟨i1, i2⟩ := hJ1 j HA mA stA us eA pA sA q6
                    cases q7 : us[j]? with
                    | none =>
                      simp only [q7] at hpA
                      exact .inl ⟨i1 q7, mA, stA, E4.trans eA, P4.trans pA, sA, hpA⟩
                    | some d1 =>
                      simp only [q7] at hpA
                      obtain ⟨i3, i4⟩ := i2 d1 q7
                      refine .inr ⟨i3, fun H' => ∃ m st, Ext H4 H' ∧ m4 <+: m ∧ SR K H' m st ∧ Post K (okV K) (fun _ _ _ => False) m H' Q (runIn sr g1 tt1 ge st1.length (wipeE env1 vs1) (fun st => runLc2 s g tt src1 vs1 g1 tt1 ge st1.length (wipeE env vs) f (i + 1) st) f1 (j + 1) st), fun H' h => ⟨f1, Nat.lt_succ_self f1, h⟩, fun x1 HB y1 => ?_⟩
                      obtain ⟨eB, sB, rB⟩ := i4 x1 HB y1
                      have hEB : RE K HB mA (wipeE env1 vs1) (L2.wipe σ2 vs1) := (r4.mono (eA.trans eB) pA).wipe vs1
                      cases q8 : g1 d1 (wipeE env1 vs1) stA with
                      | none => simp only [q8] at hpA; exact hpA.elim
                      | some z8 =>
                        obtain ⟨env3, st8⟩ := z8
                        simp only [q8] at hpA
                        refine hg1 d1 x1 (wipeE env1 vs1) env3 (L2.wipe σ2 vs1) mA HB stA st8 _ rB hEB q8 fun _ σ3 w3 r5 => ⟨by rw [w3]; exact wipe_idem, ?_⟩
                        have hpB := Post.up (m' := mA) hpA eB (List.prefix_refl mA)
                        refine ⟨env3, mA, stA, r5, sB, hpB.bind fun b1 stC b1' HC mC eC pC sC rb1 hpC => ?_⟩
                        cases (show b1 = b1' from rb1)
                        cases b1 with
                        | false =>
                          refine iteF ⟨mC, stC, (eA.trans eB).trans eC, pA.trans pC, sC, ?_⟩
                          simpa using hpC
                        | true =>
                          refine iteT ?_
                          have hpD : Post K (okV K) (fun _ _ _ => False) mC HC Q ((ge env3 stC).bind fun y st => (match st[st1.length]? with
                            | some (.lst acc) => if acc.length < most then runIn sr g1 tt1 ge st1.length (wipeE env1 vs1) (fun st => runLc2 s g tt src1 vs1 g1 tt1 ge st1.length (wipeE env vs) f (i + 1) st) f1 (j + 1) (st.set st1.length (.lst (acc ++ [y]))) else .fail
                            | _ => .fail)) := hpC
                          refine ⟨env3, mC, stC, r5.mono eC pC, sC, hpD.bind fun y stD vy HD mD eD pD sD ry hpE => ?_⟩
                          have ha : mD[st1.length]? = some Da := pre_get pD (pre_get pC (pre_get pA (pre_get P4 hk)))
                          split at hpE
                          · rename_i acc qa
                            obtain ⟨va, h4, ra⟩ := sD.ob _ _ _ ha qa
                            by_cases hl : acc.length < most
                            · rw [if_pos hl] at hpE
                              have ew : Ext HD (upd HD Da (.lst (va ++ [vy]))) := .write h4 (fun _ z => by cases z) (fun _ _ z => by cases z)
                              refine ⟨va, h4, by rw [← ra.length]; exact most_lt hl, mD, stD.set st1.length (.lst (acc ++ [y])), (((eA.trans eB).trans eC).trans eD).trans ew, (pA.trans pC).trans pD, sD.write (ob := .lst (acc ++ [y])) ha qa rfl h4 (fun _ z => by cases z) (fun _ _ z => by cases z) ⟨va ++ [vy], upd_same, ?_⟩, Post.up hpE ew (List.prefix_refl _)⟩
                              exact (ra.mono ew (List.prefix_refl _)).append (.one (ry.mono ew (List.prefix_refl _)))
                            · rw [if_neg hl] at hpE; exact hpE.elim
                          · exact hpE.elim
section
variable {X : Cx} {W : WX} {tg iter elt tg1 iter1 : Expr} {ifs ifs1 : List Expr} {src src1 : IM} {g g1 : GM} {tt tt1 : TM} {ge : EM} {scope : Scope} {own : List (Str × Nat)} {vs1 : List Nat} {pos spos : Pos} {tgt tgt1 : TG}
theorem lc2_read {vs : List Nat} (hg : GOk X.K vs tgt g) (hg1 : GOk X.K vs1 tgt1 g1) {σ : L2.St} {H : Hp} {Q : VK} (h : rE X.K W (cLc2 src vs g tt src1 vs1 g1 tt1 ge) σ H Q) : tLc2 (rI X.K W src) tgt (rT X.K W0 tt) (rI X.K W0 src1) tgt1 (rT X.K W0 tt1) (rE X.K W0 ge) vs vs1 σ H Q := by
  obtain ⟨env, m, st, hE, hS, hp⟩ := h
  refine ⟨env, m, st, hE, hS, hp.bind fun s st1 J H1 m1 e1 p1 s1 hJ hp1 => fun Da hD => ?_⟩
  exact lc2_of hg hg1 hJ (hE.mono e1 p1) s1 (hush_of hp1) Da hD
theorem e_lc2 (own : List (Str × Nat)) (vs1 : List Nat) (hc : X.calm = true) (hN : X.N.Nodup) (hgo : GOk X.K (own.map (·.2)) tgt g) (hgo1 : GOk X.K vs1 tgt1 g1) (hi : PI X tg iter (rI X.K W src)) (ok : BlkOk X.N X.env.scope scope own) (hv : ∀ i ∈ vs1, i ∈ own.map (·.2))
    (hg : ∀ (s : Shared) (H : Hp) (C : Addr) (cl : List (Str × Addr)) (fp : List Addr), PG (X.blk s H scope (compEnvC scope cl C X.env) fp) tg tgt)
    (ht : ∀ (s : Shared) (H : Hp) (C : Addr) (cl : List (Str × Addr)) (fp : List Addr), PTs (X.blk s H scope (compEnvC scope cl C X.env) fp) ifs (rT X.K W0 tt))
    (hi1 : ∀ (s : Shared) (H : Hp) (C : Addr) (cl : List (Str × Addr)) (fp : List Addr), PI (X.blk s H scope (compEnvC scope cl C X.env) fp) tg1 iter1 (rI X.K W0 src1))
    (hg1 : ∀ (s : Shared) (H : Hp) (C : Addr) (cl : List (Str × Addr)) (fp : List Addr), PG (X.blk s H scope (compEnvC scope cl C X.env) fp) tg1 tgt1)
    (ht1 : ∀ (s : Shared) (H : Hp) (C : Addr) (cl : List (Str × Addr)) (fp : List Addr), PTs (X.blk s H scope (compEnvC scope cl C X.env) fp) ifs1 (rT X.K W0 tt1))
    (he : ∀ (s : Shared) (H : Hp) (C : Addr) (cl : List (Str × Addr)) (fp : List Addr), PE (X.blk s H scope (compEnvC scope cl C X.env) fp) elt (rE X.K W0 ge))
    (hs : ∀ x, foldedSetIterable iter X.env x = pure x := by intro _; rfl) (hs1 : ∀ env x, foldedSetIterable iter1 env x = pure x := by intro _ _; rfl) :
    PE X (.ListComp elt [⟨tg, iter, ifs, 0⟩, ⟨tg1, iter1, ifs1, 0⟩] scope pos) (rE X.K W (cLc2 src (own.map (·.2)) g tt src1 vs1 g1 tt1 ge)) :=
  (pe_lc2 hc hN hi ok hv hg ht hi1 hg1 ht1 he hs hs1).imp fun σ H Q h => lc2_read hgo hgo1 h
theorem s_setLc2 (i : Nat) (own : List (Str × Nat)) (vs1 : List Nat) {y : Str} {py : Pos} (hc : X.calm = true) (hN : X.N.Nodup) (hgo : GOk X.K (own.map (·.2)) tgt g) (hgo1 : GOk X.K vs1 tgt1 g1) (hi : PI X tg iter (rI X.K W src)) (ok : BlkOk X.N X.env.scope scope own) (hv : ∀ i ∈ vs1, i ∈ own.map (·.2))
    (hg : ∀ (s : Shared) (H : Hp) (C : Addr) (cl : List (Str × Addr)) (fp : List Addr), PG (X.blk s H scope (compEnvC scope cl C X.env) fp) tg tgt)
    (ht : ∀ (s : Shared) (H : Hp) (C : Addr) (cl : List (Str × Addr)) (fp : List Addr), PTs (X.blk s H scope (compEnvC scope cl C X.env) fp) ifs (rT X.K W0 tt))
    (hi1 : ∀ (s : Shared) (H : Hp) (C : Addr) (cl : List (Str × Addr)) (fp : List Addr), PI (X.blk s H scope (compEnvC scope cl C X.env) fp) tg1 iter1 (rI X.K W0 src1))
    (hg1 : ∀ (s : Shared) (H : Hp) (C : Addr) (cl : List (Str × Addr)) (fp : List Addr), PG (X.blk s H scope (compEnvC scope cl C X.env) fp) tg1 tgt1)
    (ht1 : ∀ (s : Shared) (H : Hp) (C : Addr) (cl : List (Str × Addr)) (fp : List Addr), PTs (X.blk s H scope (compEnvC scope cl C X.env) fp) ifs1 (rT X.K W0 tt1))
    (he : ∀ (s : Shared) (H : Hp) (C : Addr) (cl : List (Str × Addr)) (fp : List Addr), PE (X.blk s H scope (compEnvC scope cl C X.env) fp) elt (rE X.K W0 ge))
    (hsw : swapsWith (.ListComp elt [⟨tg, iter, ifs, 0⟩, ⟨tg1, iter1, ifs1, 0⟩] scope pos) (some (.Name y py)) spos.line X.env = pure true) (hy : X.N[i]? = some y := by rfl) (hyl : X.env.scope.names.lookup y = some .local := by rfl)
    (hs : ∀ x, foldedSetIterable iter X.env x = pure x := by intro _; rfl) (hs1 : ∀ env x, foldedSetIterable iter1 env x = pure x := by intro _ _; rfl) :
    PS X (.Assign [.Name y py] (.ListComp elt [⟨tg, iter, ifs, 0⟩, ⟨tg1, iter1, ifs1, 0⟩] scope pos) spos) (rS X.K W (sSet i (cLc2 src (own.map (·.2)) g tt src1 vs1 g1 tt1 ge))) :=
  (ps_setLc2 hc hN hy hyl hsw hi ok hv hg ht hi1 hg1 ht1 he hs hs1).imp fun D σ H h => by
    have h2 := set_of h
    exact lc2_read hgo hgo1 h2
end
end U
set_option Elab.async false
set_option linter.all false
set_option maxRecDepth 100000
set_option maxHeartbeats 1000000
namespace U
open PySem
def foldO {α : Type} (F : α → D → Option α) : α → List D → Option α
  | a, [] => some a
  | a, x :: xs => match F a x with
    | some b => foldO F b xs
    | none => none
theorem runFor_foldO {α : Type} {F : α → D → Option α} {mk : α → Sto} {g : GM} {body : SM} {xs : List D} (I : Ev → Prop)
    (h : ∀ a x b env, x ∈ xs → F a x = some b → I env → ∃ env1 env2, g x env (mk a) = some (env1, mk a) ∧ (body env1 (mk a) = .nx env2 (mk b) ∨ body env1 (mk a) = .ct env2 (mk b)) ∧ I env2) :
    ∀ (k i : Nat) (a b : α) (env : Ev), xs.length = i + k → foldO F a (xs.drop i) = some b → I env → ∃ env', runFor (.fix xs) g body (k + 1) i env (mk a) = .nx env' (mk b) ∧ I env'
  | 0, i, a, b, env, hk, hf, hI => by
    rw [List.drop_eq_nil_of_le (by omega)] at hf
    cases hf
    refine ⟨env, ?_, hI⟩
    unfold runFor
    simp only [Src.at]
    rw [List.getElem?_eq_none (by omega)]
  | k + 1, i, a, b, env, hk, hf, hI => by
    have hi : i < xs.length := by omega
    rw [List.drop_eq_getElem_cons hi] at hf
    simp only [foldO] at hf
    cases q : F a xs[i] with
    | none => rw [q] at hf; cases hf
    | some c =>
      rw [q] at hf
      obtain ⟨env1, env2, h1, h2, h3⟩ := h a xs[i] c env (List.getElem_mem hi) q hI
      obtain ⟨env', h4, h5⟩ := runFor_foldO I h k (i + 1) c b env2 (by omega) hf h3
      refine ⟨env', ?_, h5⟩
      unfold runFor
      simp only [Src.at]
      rw [List.getElem?_eq_getElem hi]
      rcases h2 with h2 | h2 <;> simp only [h1, h2] <;> exact h4
theorem for_foldO {α : Type} {F : α → D → Option α} (mk : α → Sto) {g : GM} {body : SM} {xs : List D} (I : Ev → Prop) {a b : α} {env : Ev} (hf : foldO F a xs = some b) (h0 : I env)
    (h : ∀ a x b env, x ∈ xs → F a x = some b → I env → ∃ env1 env2, g x env (mk a) = some (env1, mk a) ∧ (body env1 (mk a) = .nx env2 (mk b) ∨ body env1 (mk a) = .ct env2 (mk b)) ∧ I env2) : ∃ env', startFor g body env (.fix xs) (mk a) = .nx env' (mk b) ∧ I env' :=
  runFor_foldO I h xs.length 0 a b env (by omega) hf h0
def chgO (ws : List D) (vs : List D) (c : D) : Option (List D) := match c with
  | .tup [.str w, .int x, .int p] => match L2.ixN vs.length x, L2.atI vs x, L2.atI ws x with
    | some j, some (.int v), some (.int n) => if 0 < n then (if w = "turn" then some (vs.set j (.int ((v + p) % n))) else if w = "put" then some (vs.set j (.int ((0 + p) % n))) else none) else none
    | _, _, _ => none
  | _ => none
def hshO (ls : List D) (c : D) : Option (List D) := match c with
  | .tup [.int r, .int b] => match L2.ixN ls.length r, L2.atI ls r with
    | some j, some (.int l) => some (ls.set j (.int (iMax l b)))
    | _, _ => none
  | _ => none
def wakO (ls : List D) (c : D) : Option (List D) := match c with
  | .int r => match L2.ixN ls.length r with
    | some j => some (ls.set j (.int 0))
    | none => none
  | _ => none
def doO (ws rs : List D) (r : Int) (vs ls : List D) : Option (List D × List D) := match L2.atI rs r with
  | some (.tup [_, .tup cs, .tup hs, .tup wk]) => match foldO (chgO ws) vs cs with
    | some vs1 => match foldO hshO ls hs with
      | some ls1 => match foldO wakO ls1 wk with
        | some ls2 => some (vs1, ls2)
        | none => none
      | none => none
    | none => none
  | _ => none
structure Mid where
  vs : List D
  ls : List D
  dn : List D
def askO (ws rs off : List D) (q : Mid) (x : D) : Option Mid := match x with
  | .int r => match readyO rs r q.vs q.ls with
    | some b => if memI (.int r) off = false ∧ b = true then (match doO ws rs r q.vs q.ls with
        | some (vs, ls) => if q.dn.length < 1000 then some ⟨vs, ls, q.dn ++ [.int r]⟩ else none
        | none => none) else some q
    | none => none
  | _ => none
def lessD (d : D) : D := .int (iMax 0 (wI d - 1))
def stepO (ws rs vs ls order off : List D) : Option D :=
  if off.all isI = true ∧ off.length ≤ most then match foldO (askO ws rs off) ⟨vs, ls, []⟩ order with
    | some q => if q.ls.all isI = true ∧ q.vs.all isI = true ∧ q.dn.all isI = true ∧ q.ls.length ≤ most then some (.tup [.tup q.dn, .tup [.tup q.vs, .tup (q.ls.map lessD)]]) else none
    | none => none else none
theorem at_end0 {st : Sto} {a : Ob} {r : List Ob} : (st ++ a :: r)[st.length]? = some a := by simp
theorem at_end1 {st : Sto} {a b : Ob} {r : List Ob} : (st ++ a :: b :: r)[st.length + 1]? = some b := by simp [List.getElem?_append_right]
theorem at_end2 {st : Sto} {a b c : Ob} {r : List Ob} : (st ++ a :: b :: c :: r)[st.length + 2]? = some c := by simp [List.getElem?_append_right]
theorem set_end0 {st : Sto} {a a' : Ob} {r : List Ob} : (st ++ a :: r).set st.length a' = st ++ a' :: r := by simp
theorem set_end1 {st : Sto} {a b b' : Ob} {r : List Ob} : (st ++ a :: b :: r).set (st.length + 1) b' = st ++ a :: b' :: r := by
  rw [List.set_append_right _ _ (by omega)]; simp
theorem set_end2 {st : Sto} {a b c c' : Ob} {r : List Ob} : (st ++ a :: b :: c :: r).set (st.length + 2) c' = st ++ a :: b :: c' :: r := by
  rw [List.set_append_right _ _ (by omega)]; simp
theorem at_endk {st : Sto} {ex : List Ob} (k : Nat) : (st ++ ex)[st.length + k]? = ex[k]? := by rw [List.getElem?_append_right (by omega)]; congr 1; omega
theorem lst_endk {st : Sto} {ex : List Ob} {xs : List D} (k : Nat) (h : ex[k]? = some (.lst xs)) : lstOf (st ++ ex) (st.length + k) = some xs := by unfold lstOf; rw [at_endk, h]
theorem set_endk {st : Sto} {ex : List Ob} {o : Ob} (k : Nat) : (st ++ ex).set (st.length + k) o = st ++ ex.set k o := by rw [List.set_append_right _ _ (by omega)]; congr 2; omega
theorem seq0 {st : Sto} {xs : List D} {r : List Ob} : seqOf (st ++ .lst xs :: r) (.ref st.length) = some xs := by unfold seqOf lstOf; simp only [at_end0]
theorem seq1 {st : Sto} {a : Ob} {xs : List D} {r : List Ob} : seqOf (st ++ a :: .lst xs :: r) (.ref (st.length + 1)) = some xs := by unfold seqOf lstOf; simp only [at_end1]
theorem seq2 {st : Sto} {a b : Ob} {xs : List D} {r : List Ob} : seqOf (st ++ a :: b :: .lst xs :: r) (.ref (st.length + 2)) = some xs := by unfold seqOf lstOf; simp only [at_end2]
theorem gset_at {st : Sto} {env : Ev} {ga gb : EM} {n j : Nat} {i : Int} {xs : List D} {d : D} (ha : ga env st = .ok (.ref n) st) (hb : gb env st = .ok (.int i) st) (hn : st[n]? = some (.lst xs)) (hj : L2.ixN xs.length i = some j) : gSet ga gb d env st = some (env, st.set n (.lst (xs.set j d))) := by
  unfold gSet
  rw [ha]
  simp only [R.bind]
  rw [hb]
  simp only [R.bind, hn, hj]
theorem fList_tup {st : Sto} {xs : List D} : fList [.tup xs] st = .ok (.ref st.length) (st ++ [.lst xs]) := rfl
theorem mkLst_ok {st : Sto} {xs : List D} (h : xs.length ≤ most) : mkLst xs st = .ok (.ref st.length) (st ++ [.lst xs]) := if_pos h
theorem mkLst_nil {st : Sto} : mkLst [] st = .ok (.ref st.length) (st ++ [.lst []]) := rfl
theorem fTup_end {st : Sto} {xs : List D} : fTup [.ref st.length] (st ++ [.lst xs]) = .ok (.tup xs) (st ++ [.lst xs]) := by unfold fTup seqOf; simp only [lstOf_end]
theorem mkTup2 {st : Sto} {a b : D} : mkTup [a, b] st = .ok (.tup [a, b]) st := rfl
theorem mkTup3 {st : Sto} {a b c : D} : mkTup [a, b, c] st = .ok (.tup [a, b, c]) st := rfl
theorem maxI {st : Sto} {i j : Int} : fI2 iMax [.int i, .int j] st = .ok (.int (iMax i j)) st := rfl
theorem bnd_int {n : Nat} {d : D} (h : isI d = true) : Bnd n d := by rw [isI_eq h]; simp only [Bnd]
theorem bnds_ints {n : Nat} : ∀ {xs : List D}, xs.all isI = true → Bnds n xs
  | [], _ => by simp only [Bnds]
  | x :: xs, h => by
    simp only [List.all_cons, Bool.and_eq_true] at h
    simp only [Bnds]
    exact ⟨bnd_int h.1, bnds_ints h.2⟩
theorem bnds_map {n : Nat} {f : D → D} (h : ∀ d, isI (f d) = true) : ∀ xs : List D, Bnds n (xs.map f)
  | [] => by simp only [List.map_nil, Bnds]
  | x :: xs => by
    simp only [List.map_cons, Bnds]
    exact ⟨bnd_int (h x), bnds_map h xs⟩
theorem notin_ints {st : Sto} {xs : List D} {i : Int} (h : xs.all isI = true) : dIn true (.int i) (.tup xs) st = .ok (.bl (!memI (.int i) xs)) st := by
  have e := in_ints (st := st) (i := i) h
  unfold dIn at e ⊢
  cases h1 : toS st (.int i) with
  | none => rw [h1] at e; cases e
  | some p =>
    cases h2 : toS st (.tup xs) with
    | none => rw [h1, h2] at e; cases e
    | some q =>
      rw [h1, h2] at e
      simp only at e ⊢
      cases h3 : itemsP q with
      | none => rw [h3] at e; cases e
      | some ps =>
        rw [h3] at e
        simp only [Bool.false_eq_true, if_false, if_true] at e ⊢
        injection e with e _
        injection e with e
        rw [e]
theorem dkI {st : Sto} {xs : List D} (h : xs.all isI = true) : dk st (.tup xs) = true := dk_ints h
def ordO (rs : List D) : List D := rngL 0 rs.length
theorem ord_ints (rs : List D) : (ordO rs).all isI = true := by
  unfold ordO rngL
  rw [List.all_map]
  exact List.all_eq_true.mpr fun _ _ => rfl
def nextO (ws rs off : List D) (s : D) : Option D := match s with
  | .tup [.tup vs, .tup ls] => stepO ws rs vs ls (ordO rs) off
  | _ => none
def waysO (f : D → Option D) : Nat → List (D × D) → D → Option (List (D × D))
  | 0, _, _ => none
  | n + 1, kvs, here => match askK here with
    | none => none
    | some k => if (getK kvs k).isSome = true then some kvs else match f here with
      | some (.tup [dn, th]) => if kvs.length < 100000 then waysO f n (kvs ++ [(here, .tup [dn, th])]) th else none
      | _ => none
def waysAll (f : D → Option D) : List (D × D) → List D → Option (List (D × D))
  | kvs, [] => some kvs
  | kvs, s :: r => match waysO f 16000 kvs s with
    | some kvs => waysAll f kvs r
    | none => none
def trailO (ways : List (D × D)) : Nat → List (D × D) → List D → D → Option (List (D × D) × List D × D)
  | 0, _, _, _ => none
  | n + 1, nums, dns, here => match askK here with
    | none => none
    | some k => if (getK nums k).isSome = true then some (nums, dns, here) else match getK ways k with
      | some (.tup [dn, th]) => if nums.length < 100000 ∧ dns.length < 100000 then trailO ways n (nums ++ [(here, .int nums.length)]) (dns ++ [dn]) th else none
      | _ => none
def alongO (ways : List (D × D)) (s : D) : Option (List D × List D × D) := match trailO ways 16000 [] [] s with
  | some (nums, dns, here) => match askK here with
    | some k => match getK nums k with
      | some d => some (nums.map (·.1), dns, d)
      | none => none
    | none => none
  | none => none
def trailP (ws rs : List D) (s : D) (off : List D) : Option (List D × List D × D) := match waysAll (nextO ws rs off) [] [s] with
  | some ways => alongO ways s
  | none => none
theorem getK_new {kvs : List (D × D)} {kd v : D} {k : NestedKey} (h : ¬ (getK kvs k).isSome = true) (hk : keyD kd = some k) : getK (kvs ++ [(kd, v)]) k = some v := by
  induction kvs with
  | nil => simp only [List.nil_append, getK, hk, if_true]
  | cons p r ih =>
    simp only [List.cons_append, getK]
    simp only [getK] at h
    by_cases hp : keyD p.1 = some k
    · rw [if_pos hp] at h; simp at h
    · rw [if_neg hp] at h ⊢; exact ih h
theorem putK_new {kvs : List (D × D)} {kd v : D} {k : NestedKey} (h : ¬ (getK kvs k).isSome = true) : putK kvs kd k v = kvs ++ [(kd, v)] := if_neg h
theorem dctOf_at' {st : Sto} {n : Nat} {kvs : List (D × D)} (h : st[n]? = some (.dct kvs)) : dctOf st (.ref n) = some kvs := by unfold dctOf; simp only [h]
theorem putSt_ok {st : Sto} {n : Nat} {kvs : List (D × D)} {y v : D} {k : NestedKey} (h : st[n]? = some (.dct kvs)) (hy : askK y = some k) (hl : kvs.length < most) (hn : ¬ (getK kvs k).isSome = true) : putSt (.ref n) y v st = some (st.set n (.dct (kvs ++ [(y, v)]))) := by
  unfold putSt
  simp only [h, hy]
  rw [if_pos hl, putK_new hn]
theorem ev_dput {ga gb gv : EM} {env : Ev} {st : Sto} : sDPutM ga gb gv env st = (gv env st).then env fun v st => (ga env st).then env fun d st => (gb env st).then env fun y st => (match putSt d y v st with | some st => .nx env st | none => .fail) := rfl
theorem ev_dnew {env : Ev} {st : Sto} : eDnew env st = .ok (.ref st.length) (st ++ [.dct []]) := rfl
theorem ev_while {t : TM} {body : SM} {f : Nat} {env : Ev} {st : Sto} : runWhile t body (f + 1) env st = (t env st).then env fun c st => if c = true then (match body env st with
    | .nx env st => runWhile t body f env st
    | .ct env st => runWhile t body f env st
    | .bk env st => .nx env st
    | r => r) else .nx env st := rfl
def nAt (b : Int) (n : Nat) (k : Int) : Int := if k < b then k else b + (k - b) % (n - b)
def runOk (ws rs : List D) (s off : D) : Bool := match s, off with
  | .tup [.tup vs, .tup ls], .tup os => ws.all isI && vs.all isI && ls.all isI && os.all isI && decide (vs.length ≤ most) && decide (ls.length ≤ most) && decide (os.length ≤ most) && decide (rs.length ≤ 1000) && stateD ws rs.length s && risingD rs.length off
  | _, _ => false
def runO (ws rs : List D) (s off : D) : Option (List D × List D × Int) := if runOk ws rs s off = true then match trailP ws rs s (tupsD off) with
    | some (ss, dns, .int b) => if 0 ≤ b ∧ b < ss.length ∧ ss.length ≤ 100000 ∧ dns.length ≤ 100000 ∧ (dns.all fun d => (tupsD d).all isI && (itemsD d).isSome) = true ∧ ss.all (fun s => keyD s |>.isSome) = true then some (ss, dns, b) else none
    | _ => none else none
theorem runO_ok {ws rs : List D} {s off : D} {ss dns : List D} {b : Int} (h : runO ws rs s off = some (ss, dns, b)) : (∃ vs ls os, s = .tup [.tup vs, .tup ls] ∧ off = .tup os ∧ ws.all isI = true ∧ vs.all isI = true ∧ ls.all isI = true ∧ os.all isI = true ∧ vs.length ≤ most ∧ ls.length ≤ most ∧ os.length ≤ most ∧ rs.length ≤ 1000 ∧ stateD ws rs.length s = true ∧ risingD rs.length off = true ∧ trailP ws rs s os = some (ss, dns, .int b)) ∧
    0 ≤ b ∧ b < ss.length ∧ ss.length ≤ 100000 ∧ dns.length ≤ 100000 ∧ (dns.all fun d => (tupsD d).all isI && (itemsD d).isSome) = true ∧ ss.all (fun s => keyD s |>.isSome) = true := by
  unfold runO at h
  split at h
  · rename_i hk
    split at h
    · rename_i ss1 dns1 b1 ht
      split at h
      · rename_i hc
        cases h
        refine ⟨?_, hc⟩
        unfold runOk at hk
        split at hk
        · rename_i vs ls os
          simp only [Bool.and_eq_true, decide_eq_true_eq] at hk
          obtain ⟨⟨⟨⟨⟨⟨⟨⟨⟨h1, h2⟩, h3⟩, h4⟩, h5⟩, h6⟩, h7⟩, h8⟩, h9⟩, h10⟩ := hk
          exact ⟨vs, ls, os, rfl, rfl, h1, h2, h3, h4, h5, h6, h7, h8, h9, h10, ht⟩
        · cases hk
      · cases h
    · cases h
  · cases h
mutual
theorem key_bnd {n : Nat} : ∀ {d : D}, (keyD d).isSome = true → Bnd n d
  | .non, _ => by simp only [Bnd]
  | .bl _, _ => by simp only [Bnd]
  | .int _, _ => by simp only [Bnd]
  | .str _, _ => by simp only [Bnd]
  | .ref _, h => by simp [keyD] at h
  | .tup xs, h => by
    simp only [keyD, Option.isSome_map] at h
    simp only [Bnd]
    exact keys_bnd h
theorem keys_bnd {n : Nat} : ∀ {ds : List D}, (keysD ds).isSome = true → Bnds n ds
  | [], _ => by simp only [Bnds]
  | d :: ds, h => by
    simp only [keysD] at h
    split at h
    · rename_i k ks h1 h2
      simp only [Bnds]
      exact ⟨key_bnd (by rw [h1]; rfl), keys_bnd (by rw [h2]; rfl)⟩
    · simp at h
end
theorem bnd_at {n : Nat} {xs : List D} {i : Int} {d : D} (h : xs.all (fun s => (keyD s).isSome) = true) (ha : L2.atI xs i = some d) : Bnd n d := by
  unfold L2.atI at ha
  obtain ⟨j, _, hj⟩ := Option.bind_eq_some_iff.mp ha
  exact key_bnd (List.all_eq_true.mp h d (List.mem_of_getElem? hj))
theorem state_small {vs ls : List D} (h1 : vs.length ≤ most) (h2 : ls.length ≤ most) : smallD (.tup [.tup vs, .tup ls]) = true := by simp [smallD, tupsD, h1, h2]
theorem state_dk {st : Sto} {vs ls : List D} (h1 : vs.all isI = true) (h2 : ls.all isI = true) : dk st (.tup [.tup vs, .tup ls]) = true := dk_of fun x hx => by
  have : x = .tup vs ∨ x = .tup ls := by simpa using hx
  rcases this with rfl | rfl
  · exact dk_ints h1
  · exact dk_ints h2
theorem len_end {st : Sto} {ex : List Ob} {xs : List D} {k : Nat} (h : ex[k]? = some (.lst xs)) : fLen [.ref (st.length + k)] (st ++ ex) = .ok (.int xs.length) (st ++ ex) := by
  unfold fLen
  simp only [seqOf, lst_endk k h]
theorem seq_end {st : Sto} {ex : List Ob} {xs : List D} {k : Nat} (h : ex[k]? = some (.lst xs)) : seqOf (st ++ ex) (.ref (st.length + k)) = some xs := lst_endk k h
def didL (dns : List D) : List D := ((enumFrom 0 dns).filter fun x => decide (0 < (tupsD (sndD x)).length)).map fun x => .int (wI (fstD x) + 1)
theorem did_ints (dns : List D) : (didL dns).all isI = true := by
  unfold didL
  rw [List.all_map]
  exact List.all_eq_true.mpr fun _ _ => rfl
def maxDef (d : Int) : List D → Int
  | [] => d
  | x :: xs => maxL (wI x) (xs.map wI)
def lastDid (dns : List D) : Int := maxDef 0 (didL dns)
theorem intsOf_all : ∀ {xs : List D}, xs.all isI = true → intsOf xs = some (xs.map wI)
  | [], _ => rfl
  | x :: xs, h => by
    simp only [List.all_cons, Bool.and_eq_true] at h
    have e := isI_eq h.1
    rw [e]
    simp only [intsOf, intsOf_all h.2, Option.map_some, List.map_cons, wI]
theorem maxDef_end {st : Sto} {xs ys : List D} {d : Int} (e : ys = xs) (h : xs.all isI = true) : fMaxDef [.ref st.length, .int d] (st ++ [.lst ys]) = .ok (.int (maxDef d xs)) (st ++ [.lst ys]) := by
  subst e
  unfold fMaxDef
  simp only [lstOf_end, Option.bind_some, intsOf_all h]
  cases ys with
  | nil => rfl
  | cons x xs => rfl
open PySem PySem.Spec PyProof.Rows L2 in
theorem cutN (xs : List D) (n : Nat) : cutD xs (some (n : Int)) none = xs.drop n := by
  unfold cutD
  rw [show HT.sIx xs.length 0 (some (n : Int)) = min n xs.length from HT.sIx_nat xs.length 0 n, HT.sIx_none]
  by_cases h : n ≤ xs.length
  · rw [Nat.min_eq_left h, List.take_of_length_le (by simp)]
  · rw [Nat.min_eq_right (by omega), List.drop_eq_nil_of_le (by omega), List.drop_eq_nil_of_le (by omega), List.take_nil]
def foundL (dns : List D) (r : Int) : List D := ((enumFrom 0 dns).filter fun x => memI (.int r) (tupsD (sndD x))).map fstD
def soonL (dns : List D) (r b : Int) : List D := (foundL dns r).filter fun x => decide (wI x < b)
def roundL (dns : List D) (r b : Int) : List D := (foundL dns r).drop (soonL dns r b).length
def below (xs : List D) (k : Int) : Int := (xs.filter fun x => decide (wI x < k)).length
def timesO (ss dns : List D) (b r k : Int) : Int := if k < b then below (soonL dns r b) k else (soonL dns r b).length + (k - b) / (ss.length - b) * (roundL dns r b).length + below (roundL dns r b) (b + (k - b) % (ss.length - b))
theorem enum_fst : ∀ (k : Nat) (xs : List D), ∀ x ∈ enumFrom k xs, isI (fstD x) = true
  | _, [], _, h => by simp [enumFrom] at h
  | k, y :: ys, x, h => by
    simp only [enumFrom, List.mem_cons] at h
    rcases h with rfl | h
    · rfl
    · exact enum_fst (k + 1) ys x h
theorem found_ints (dns : List D) (r : Int) : (foundL dns r).all isI = true := by
  unfold foundL
  rw [List.all_map]
  exact List.all_eq_true.mpr fun x hx => enum_fst 0 dns x (List.mem_filter.mp hx).1
theorem found_len (dns : List D) (r : Int) : (foundL dns r).length ≤ dns.length := by
  unfold foundL
  rw [List.length_map]
  exact Nat.le_trans (List.length_filter_le _ _) (by rw [enum_len]; exact Nat.le_refl _)
theorem soon_ints (dns : List D) (r b : Int) : (soonL dns r b).all isI = true := List.all_eq_true.mpr fun x hx => List.all_eq_true.mp (found_ints dns r) x (List.mem_filter.mp hx).1
theorem soon_len (dns : List D) (r b : Int) : (soonL dns r b).length ≤ dns.length := Nat.le_trans (List.length_filter_le _ _) (found_len dns r)
theorem round_ints (dns : List D) (r b : Int) : (roundL dns r b).all isI = true := List.all_eq_true.mpr fun x hx => List.all_eq_true.mp (found_ints dns r) x (List.mem_of_mem_drop hx)
theorem round_len (dns : List D) (r b : Int) : (roundL dns r b).length ≤ dns.length := by unfold roundL; rw [List.length_drop]; have := found_len dns r; omega
end U
set_option Elab.async false
set_option linter.all false
set_option maxRecDepth 100000
set_option maxHeartbeats 1000000
namespace U
open PySem
theorem ixN_nat {n i : Nat} (h : i < n) : L2.ixN n (i : Int) = some i := by
  unfold L2.ixN
  rw [if_pos (by omega), if_pos (by omega)]
  simp
theorem atI_nat {xs : List D} {i : Nat} {d : D} (h : xs[i]? = some d) : L2.atI xs (i : Int) = some d := by
  unfold L2.atI
  rw [ixN_nat (List.getElem?_eq_some_iff.mp h).1]
  exact h
def VOk (ws vs : List D) : Prop := vs.length = ws.length ∧ ∀ (i : Nat) (w : D), ws[i]? = some w → ∃ v m : Nat, vs[i]? = some (.int v) ∧ w = .int m ∧ v < m
def LOk (n b : Nat) (ls : List D) : Prop := ls.length = n ∧ ∀ i, i < n → ∃ l : Nat, ls[i]? = some (.int l) ∧ l ≤ b
def CondOk (ws : List D) (n : Nat) (c : D) : Prop := (∃ (w : Str) (x p m : Nat), c = .tup [.str w, .int x, .int p] ∧ (w = "is" ∨ w = "not" ∨ w = "below") ∧ ws[x]? = some (.int m) ∧ p < m) ∨ ∃ (w : Str) (q : Nat), c = .tup [.str w, .int q] ∧ (w = "hushed" ∨ w = "awake") ∧ q < n
def ChgOk (ws : List D) (c : D) : Prop := ∃ (w : Str) (x p m : Nat), c = .tup [.str w, .int x, .int p] ∧ (w = "turn" ∨ w = "put") ∧ ws[x]? = some (.int m) ∧ p < m
def HshOk (n : Nat) (c : D) : Prop := ∃ q b : Nat, c = .tup [.int q, .int b] ∧ q < n ∧ 1 ≤ b ∧ b ≤ 3
def WakOk (n : Nat) (c : D) : Prop := ∃ q : Nat, c = .int q ∧ q < n
def RuleOk (ws : List D) (n : Nat) (r : D) : Prop := ∃ cs chs hs wk, r = .tup [.tup cs, .tup chs, .tup hs, .tup wk] ∧ (∀ c ∈ cs, CondOk ws n c) ∧ (∀ c ∈ chs, ChgOk ws c) ∧ (∀ c ∈ hs, HshOk n c) ∧ ∀ c ∈ wk, WakOk n c
theorem VOk.set {ws vs : List D} {x v m : Nat} (h : VOk ws vs) (hw : ws[x]? = some (.int m)) (hv : v < m) : VOk ws (vs.set x (.int v)) := by
  refine ⟨by simp [h.1], fun i w hi => ?_⟩
  by_cases e : x = i
  · subst e
    rw [hw] at hi
    cases hi
    exact ⟨v, m, by rw [List.getElem?_set_self (by rw [h.1]; exact (List.getElem?_eq_some_iff.mp hw).1)], rfl, hv⟩
  · obtain ⟨v', m', h1, h2, h3⟩ := h.2 i w hi
    exact ⟨v', m', by rw [List.getElem?_set_ne e]; exact h1, h2, h3⟩
theorem LOk.set {n b x l : Nat} {ls : List D} (h : LOk n b ls) (hl : l ≤ b) : LOk n b (ls.set x (.int l)) := by
  refine ⟨by simp [h.1], fun i hi => ?_⟩
  by_cases e : x = i
  · subst e
    exact ⟨l, by rw [List.getElem?_set_self (by rw [h.1]; exact hi)], hl⟩
  · obtain ⟨l', h1, h2⟩ := h.2 i hi
    exact ⟨l', by rw [List.getElem?_set_ne e]; exact h1, h2⟩
theorem foldO_ok {α : Type} {F : α → D → Option α} (I : α → Prop) : ∀ {xs : List D} {a : α}, I a → (∀ a x, I a → x ∈ xs → ∃ b, F a x = some b ∧ I b) → ∃ b, foldO F a xs = some b ∧ I b
  | [], a, ha, _ => ⟨a, rfl, ha⟩
  | x :: xs, a, ha, h => by
    obtain ⟨b, h1, h2⟩ := h a x ha List.mem_cons_self
    obtain ⟨c, h3, h4⟩ := foldO_ok I h2 fun a y hI hy => h a y hI (List.mem_cons_of_mem _ hy)
    exact ⟨c, by simp only [foldO, h1]; exact h3, h4⟩
theorem mod_nat {v p m : Nat} : ((v : Int) + (p : Int)) % (m : Int) = (((v + p) % m : Nat) : Int) := by simp
theorem chg_ok {ws vs : List D} {c : D} (h : VOk ws vs) (hc : ChgOk ws c) : ∃ vs1, chgO ws vs c = some vs1 ∧ VOk ws vs1 := by
  obtain ⟨w, x, p, m, rfl, hw, hm, hp⟩ := hc
  obtain ⟨v, m', h1, h2, h3⟩ := h.2 x _ hm
  cases h2
  have hx : x < vs.length := (List.getElem?_eq_some_iff.mp h1).1
  have hm0 : (0 : Int) < (m : Int) := by omega
  unfold chgO
  simp only [ixN_nat hx, atI_nat h1, atI_nat hm]
  rw [if_pos hm0]
  rcases hw with rfl | rfl
  · rw [if_pos rfl, mod_nat]
    exact ⟨_, rfl, h.set hm (Nat.mod_lt _ (by omega))⟩
  · rw [if_neg (by decide +kernel), if_pos rfl, show (0 : Int) = ((0 : Nat) : Int) from rfl, mod_nat]
    exact ⟨_, rfl, h.set hm (Nat.mod_lt _ (by omega))⟩
theorem hsh_ok {n : Nat} {ls : List D} {c : D} (h : LOk n 3 ls) (hc : HshOk n c) : ∃ ls1, hshO ls c = some ls1 ∧ LOk n 3 ls1 := by
  obtain ⟨q, b, rfl, hq, h1, h3⟩ := hc
  obtain ⟨l, hl, hl3⟩ := h.2 q hq
  unfold hshO
  simp only [ixN_nat (show q < ls.length by rw [h.1]; exact hq), atI_nat hl]
  have e : iMax (l : Int) (b : Int) = ((max l b : Nat) : Int) := by unfold iMax; split <;> omega
  rw [e]
  exact ⟨_, rfl, h.set (by omega)⟩
theorem wak_ok {n : Nat} {ls : List D} {c : D} (h : LOk n 3 ls) (hc : WakOk n c) : ∃ ls1, wakO ls c = some ls1 ∧ LOk n 3 ls1 := by
  obtain ⟨q, rfl, hq⟩ := hc
  unfold wakO
  simp only [ixN_nat (show q < ls.length by rw [h.1]; exact hq)]
  exact ⟨_, rfl, h.set (l := 0) (by omega)⟩
theorem so_ok {ws vs ls : List D} {n b : Nat} {c : D} (h : VOk ws vs) (hl : LOk n b ls) (hc : CondOk ws n c) : (soO c vs ls).isSome = true := by
  rcases hc with ⟨w, x, p, m, rfl, hw, hm, hp⟩ | ⟨w, q, rfl, hw, hq⟩
  · obtain ⟨v, m', h1, h2, h3⟩ := h.2 x _ hm
    unfold soO
    simp only [atI_nat h1]
    rcases hw with rfl | rfl | rfl
    · rw [if_pos rfl]; rfl
    · rw [if_neg (by decide +kernel), if_pos rfl]; rfl
    · rw [if_neg (by decide +kernel), if_neg (by decide +kernel), if_pos rfl]; rfl
  · obtain ⟨l, h1, h2⟩ := hl.2 q hq
    unfold soO
    simp only [atI_nat h1]
    rcases hw with rfl | rfl
    · rw [if_pos rfl]; rfl
    · rw [if_neg (by decide +kernel), if_pos rfl]; rfl
def BookOk (ws rs : List D) : Prop := ∀ r ∈ rs, RuleOk ws rs.length r
theorem ready_ok {ws rs vs ls : List D} {b q : Nat} (B : BookOk ws rs) (h : VOk ws vs) (hl : LOk rs.length b ls) (hq : q < rs.length) : ∃ k, readyO rs (q : Int) vs ls = some k := by
  obtain ⟨cs, chs, hs, wk, e, h1, h2, h3, h4⟩ := B rs[q] (List.getElem_mem hq)
  obtain ⟨l, hl1, hl2⟩ := hl.2 q hq
  have hr : rs[q]? = some (.tup [.tup cs, .tup chs, .tup hs, .tup wk]) := by rw [List.getElem?_eq_getElem hq, e]
  unfold readyO
  simp only [atI_nat hl1, atI_nat hr]
  split
  · exact ⟨_, rfl⟩
  · rw [if_pos (List.all_eq_true.mpr fun c hc => so_ok h hl (h1 c hc))]
    exact ⟨_, rfl⟩
theorem do_ok {ws rs vs ls : List D} {q : Nat} (B : BookOk ws rs) (h : VOk ws vs) (hl : LOk rs.length 3 ls) (hq : q < rs.length) : ∃ vs1 ls1, doO ws rs (q : Int) vs ls = some (vs1, ls1) ∧ VOk ws vs1 ∧ LOk rs.length 3 ls1 := by
  obtain ⟨cs, chs, hs, wk, e, h1, h2, h3, h4⟩ := B rs[q] (List.getElem_mem hq)
  have hr : rs[q]? = some (.tup [.tup cs, .tup chs, .tup hs, .tup wk]) := by rw [List.getElem?_eq_getElem hq, e]
  obtain ⟨vs1, k1, k2⟩ := foldO_ok (F := chgO ws) (xs := chs) (VOk ws) h fun a x hI hx => chg_ok hI (h2 x hx)
  obtain ⟨ls1, k3, k4⟩ := foldO_ok (F := hshO) (xs := hs) (LOk rs.length 3) hl fun a x hI hx => hsh_ok hI (h3 x hx)
  obtain ⟨ls2, k5, k6⟩ := foldO_ok (F := wakO) (xs := wk) (LOk rs.length 3) k4 fun a x hI hx => wak_ok hI (h4 x hx)
  unfold doO
  simp only [atI_nat hr, k1, k3, k5]
  exact ⟨_, _, rfl, k2, k6⟩
theorem VOk.ints {ws vs : List D} (h : VOk ws vs) : vs.all isI = true := List.all_eq_true.mpr fun x hx => by
  obtain ⟨i, hi⟩ := List.getElem?_of_mem hx
  have hl : i < ws.length := by rw [← h.1]; exact (List.getElem?_eq_some_iff.mp hi).1
  obtain ⟨v, m, h1, _⟩ := h.2 i _ (List.getElem?_eq_getElem hl)
  rw [hi] at h1
  cases h1
  rfl
theorem LOk.ints {n b : Nat} {ls : List D} (h : LOk n b ls) : ls.all isI = true := List.all_eq_true.mpr fun x hx => by
  obtain ⟨i, hi⟩ := List.getElem?_of_mem hx
  have hl : i < n := by rw [← h.1]; exact (List.getElem?_eq_some_iff.mp hi).1
  obtain ⟨v, h1, _⟩ := h.2 i hl
  rw [hi] at h1
  cases h1
  rfl
theorem LOk.less {n : Nat} {ls : List D} (h : LOk n 3 ls) : LOk n 2 (ls.map lessD) := by
  refine ⟨by simp [h.1], fun i hi => ?_⟩
  obtain ⟨l, h1, h2⟩ := h.2 i hi
  refine ⟨l - 1, ?_, by omega⟩
  rw [List.getElem?_map, h1]
  show some (D.int (iMax 0 ((l : Int) - 1))) = _
  congr 2
  unfold iMax
  split <;> omega
theorem LOk.mono {n b c : Nat} {ls : List D} (h : LOk n b ls) (hb : b ≤ c) : LOk n c ls := ⟨h.1, fun i hi => let ⟨l, h1, h2⟩ := h.2 i hi; ⟨l, h1, Nat.le_trans h2 hb⟩⟩
theorem step_ok {ws rs vs ls order off : List D} (B : BookOk ws rs) (hn : rs.length ≤ 5) (h : VOk ws vs) (hl : LOk rs.length 2 ls) (ho : ∀ x ∈ order, ∃ q : Nat, x = .int q ∧ q < rs.length) (hlen : order.length ≤ 500) (hoff : off.all isI = true) (hol : off.length ≤ most) :
    ∃ dn vs1 ls1, stepO ws rs vs ls order off = some (.tup [.tup dn, .tup [.tup vs1, .tup ls1]]) ∧ VOk ws vs1 ∧ LOk rs.length 2 ls1 ∧ dn.all isI = true := by
  have key : ∀ (xs : List D) (q : Mid), (∀ x ∈ xs, ∃ q : Nat, x = .int q ∧ q < rs.length) → VOk ws q.vs → LOk rs.length 3 q.ls → q.dn.all isI = true → q.dn.length + xs.length ≤ 500 → ∃ q1, foldO (askO ws rs off) q xs = some q1 ∧ VOk ws q1.vs ∧ LOk rs.length 3 q1.ls ∧ q1.dn.all isI = true := by
    intro xs
    induction xs with
    | nil => intro q _ h1 h2 h3 _; exact ⟨q, rfl, h1, h2, h3⟩
    | cons x xs ih =>
      intro q hx h1 h2 h3 h4
      obtain ⟨r, rfl, hr⟩ := hx x List.mem_cons_self
      obtain ⟨k, hk⟩ := ready_ok B h1 h2 hr
      simp only [List.length_cons] at h4
      by_cases hc : memI (.int (r : Int)) off = false ∧ k = true
      · obtain ⟨vs1, ls1, d1, d2, d3⟩ := do_ok B h1 h2 hr
        have e : askO ws rs off q (.int (r : Int)) = some ⟨vs1, ls1, q.dn ++ [.int (r : Int)]⟩ := by
          unfold askO
          simp only [hk, d1]
          rw [if_pos hc, if_pos (by omega)]
        obtain ⟨q1, g1, g2⟩ := ih ⟨vs1, ls1, q.dn ++ [.int (r : Int)]⟩ (fun y hy => hx y (List.mem_cons_of_mem _ hy)) d2 d3 (by rw [List.all_append, h3]; rfl) (by simp; omega)
        exact ⟨q1, by simp only [foldO, e]; exact g1, g2⟩
      · have e : askO ws rs off q (.int (r : Int)) = some q := by
          unfold askO
          simp only [hk]
          rw [if_neg hc]
        obtain ⟨q1, g1, g2⟩ := ih q (fun y hy => hx y (List.mem_cons_of_mem _ hy)) h1 h2 h3 (by omega)
        exact ⟨q1, by simp only [foldO, e]; exact g1, g2⟩
  obtain ⟨q, g1, g2, g3, g4⟩ := key order ⟨vs, ls, []⟩ ho h (hl.mono (by omega)) rfl (by simpa using hlen)
  refine ⟨q.dn, q.vs, q.ls.map lessD, ?_, g2, g3.less, g4⟩
  unfold stepO
  rw [if_pos ⟨hoff, hol⟩, g1]
  simp only
  rw [if_pos ⟨g3.ints, g2.ints, g4, by rw [g3.1]; exact Nat.le_trans hn (by decide)⟩]
end U
set_option Elab.async false
set_option linter.all false
set_option maxRecDepth 100000
set_option maxHeartbeats 1000000
namespace U
open PySem
def SOk (ws rs : List D) (s : D) : Prop := ∃ vs ls, s = .tup [.tup vs, .tup ls] ∧ VOk ws vs ∧ LOk rs.length 2 ls
def thenD (ws rs off : List D) (s : D) : D := match nextO ws rs off s with
  | some (.tup [_, th]) => th
  | _ => s
def didD (ws rs off : List D) (s : D) : D := match nextO ws rs off s with
  | some (.tup [dn, _]) => dn
  | _ => .tup []
def iter (ws rs off : List D) : Nat → D → D
  | 0, s => s
  | n + 1, s => thenD ws rs off (iter ws rs off n s)
structure RunOk (ws rs off : List D) : Prop where
  book : BookOk ws rs
  n5 : rs.length ≤ 5
  w3 : ws.length ≤ 3
  w4 : ∀ w ∈ ws, ∃ m : Nat, w = .int m ∧ m ≤ 4
  offI : off.all isI = true
  offL : off.length ≤ 5
section
variable {ws rs off : List D}
theorem ord_get (h : rs.length ≤ 5) : ∀ x ∈ ordO rs, ∃ q : Nat, x = .int q ∧ q < rs.length := fun x hx => by
  obtain ⟨i, hi⟩ := List.getElem?_of_mem hx
  obtain ⟨h1, rfl⟩ := rngL_get (n := rs.length) hi
  exact ⟨i, rfl, h1⟩
theorem next_ok (R : RunOk ws rs off) {s : D} (h : SOk ws rs s) : nextO ws rs off s = some (.tup [didD ws rs off s, thenD ws rs off s]) ∧ SOk ws rs (thenD ws rs off s) ∧ ∃ dn, didD ws rs off s = .tup dn ∧ dn.all isI = true := by
  obtain ⟨vs, ls, rfl, hv, hl⟩ := h
  obtain ⟨dn, vs1, ls1, e, h1, h2, h3⟩ := step_ok (order := ordO rs) R.book R.n5 hv hl (ord_get R.n5) (by unfold ordO; rw [rngL_length]; have := R.n5; omega) R.offI (Nat.le_trans R.offL (by decide))
  have e2 : nextO ws rs off (.tup [.tup vs, .tup ls]) = some (.tup [.tup dn, .tup [.tup vs1, .tup ls1]]) := e
  unfold didD thenD
  simp only [e2]
  exact ⟨trivial, ⟨vs1, ls1, rfl, h1, h2⟩, dn, rfl, h3⟩
theorem iter_ok (R : RunOk ws rs off) {s : D} (h : SOk ws rs s) : ∀ n, SOk ws rs (iter ws rs off n s)
  | 0 => h
  | n + 1 => (next_ok R (iter_ok R h n)).2.1
theorem iter_add {s : D} (a : Nat) : ∀ n, iter ws rs off (a + n) s = iter ws rs off n (iter ws rs off a s)
  | 0 => rfl
  | n + 1 => by
    show thenD ws rs off (iter ws rs off (a + n) s) = thenD ws rs off (iter ws rs off n (iter ws rs off a s))
    rw [iter_add a n]
theorem keysD_ints : ∀ {xs : List D}, xs.all isI = true → keysD xs = some (xs.map fun x => .num (wI x))
  | [], _ => by simp only [keysD, List.map_nil]
  | x :: xs, h => by
    simp only [List.all_cons, Bool.and_eq_true] at h
    obtain ⟨i, rfl⟩ : ∃ i, x = .int i := ⟨_, isI_eq h.1⟩
    simp only [keysD, keyD, keysD_ints h.2, List.map_cons, wI]
def keyS (vs ls : List D) : NestedKey := .tup [.tup (vs.map fun x => .num (wI x)), .tup (ls.map fun x => .num (wI x))]
theorem key_state {vs ls : List D} (h1 : vs.all isI = true) (h2 : ls.all isI = true) : keyD (.tup [.tup vs, .tup ls]) = some (keyS vs ls) := by
  simp only [keyD, keysD, keysD_ints h1, keysD_ints h2, Option.map_some, keyS]
theorem depth_nums : ∀ xs : List D, NestedKey.depthAll (xs.map fun x => .num (wI x)) = 0
  | [] => by simp only [List.map_nil, NestedKey.depthAll]
  | x :: xs => by simp only [List.map_cons, NestedKey.depthAll, NestedKey.depth, depth_nums xs]; rfl
theorem ask_state {vs ls : List D} (h1 : vs.all isI = true) (h2 : ls.all isI = true) : askK (.tup [.tup vs, .tup ls]) = some (keyS vs ls) := by
  unfold askK
  simp only [key_state h1 h2]
  rw [if_pos]
  simp only [keyS, NestedKey.depth, NestedKey.depthAll, depth_nums]
  decide
theorem nums_inj : ∀ {xs ys : List D}, xs.all isI = true → ys.all isI = true → (xs.map fun x => NestedKey.num (wI x)) = ys.map (fun x => .num (wI x)) → xs = ys
  | [], [], _, _, _ => rfl
  | [], _ :: _, _, _, e => by cases e
  | _ :: _, [], _, _, e => by cases e
  | x :: xs, y :: ys, h1, h2, e => by
    simp only [List.all_cons, Bool.and_eq_true] at h1 h2
    simp only [List.map_cons, List.cons.injEq, NestedKey.num.injEq] at e
    rw [isI_eq h1.1, isI_eq h2.1, e.1, nums_inj h1.2 h2.2 e.2]
theorem key_inj {s t : D} (h1 : SOk ws rs s) (h2 : SOk ws rs t) (e : keyD s = keyD t) : s = t := by
  obtain ⟨vs, ls, rfl, hv, hl⟩ := h1
  obtain ⟨vs', ls', rfl, hv', hl'⟩ := h2
  rw [key_state hv.ints hl.ints, key_state hv'.ints hl'.ints] at e
  simp only [Option.some.injEq, keyS, NestedKey.tup.injEq, List.cons.injEq, and_true] at e
  rw [nums_inj hv.ints hv'.ints e.1, nums_inj hl.ints hl'.ints e.2]
theorem ask_ok {s : D} (h : SOk ws rs s) : ∃ k, askK s = some k ∧ keyD s = some k := by
  obtain ⟨vs, ls, rfl, hv, hl⟩ := h
  exact ⟨_, ask_state hv.ints hl.ints, key_state hv.ints hl.ints⟩
theorem nodup_lt : ∀ (N : Nat) (l : List Nat), l.Nodup → (∀ x ∈ l, x < N) → l.length ≤ N
  | 0, [], _, _ => Nat.le_refl _
  | 0, x :: l, _, h => absurd (h x List.mem_cons_self) (Nat.not_lt_zero _)
  | N + 1, l, hn, h => by
    by_cases hm : N ∈ l
    · have h1 := nodup_lt N (l.erase N) (hn.erase N) fun x hx => by
        have hx2 := (hn.mem_erase_iff).mp hx
        have := h x hx2.2
        omega
      rw [List.length_erase_of_mem hm] at h1
      omega
    · have := nodup_lt N l hn fun x hx => by
        have h1 := h x hx
        have h2 : x ≠ N := fun e => hm (e ▸ hx)
        omega
      omega
def digits (b : Nat) : List D → Nat
  | [] => 0
  | x :: xs => (wI x).toNat + b * digits b xs
theorem digits_lt {b : Nat} (hb : 0 < b) : ∀ {xs : List D}, (∀ x ∈ xs, ∃ v : Nat, x = .int v ∧ v < b) → digits b xs < b ^ xs.length
  | [], _ => by simp [digits]
  | x :: xs, h => by
    obtain ⟨v, rfl, hv⟩ := h x List.mem_cons_self
    have ih := digits_lt hb (xs := xs) fun y hy => h y (List.mem_cons_of_mem _ hy)
    simp only [digits, wI, List.length_cons, Int.toNat_natCast, Nat.pow_succ]
    have h1 : b * (digits b xs + 1) ≤ b * b ^ xs.length := Nat.mul_le_mul_left b ih
    rw [Nat.mul_comm (b ^ xs.length) b]
    have h2 : b * (digits b xs + 1) = b * digits b xs + b := Nat.mul_succ _ _
    omega
theorem digits_inj {b : Nat} (hb : 0 < b) : ∀ {xs ys : List D}, xs.length = ys.length → (∀ x ∈ xs, ∃ v : Nat, x = .int v ∧ v < b) → (∀ x ∈ ys, ∃ v : Nat, x = .int v ∧ v < b) → digits b xs = digits b ys → xs = ys
  | [], [], _, _, _, _ => rfl
  | [], _ :: _, e, _, _, _ => by cases e
  | _ :: _, [], e, _, _, _ => by cases e
  | x :: xs, y :: ys, e, h1, h2, h => by
    obtain ⟨v, rfl, hv⟩ := h1 x List.mem_cons_self
    obtain ⟨w, rfl, hw⟩ := h2 y List.mem_cons_self
    simp only [digits, wI, Int.toNat_natCast] at h
    have hm : v = w := by
      have := congrArg (· % b) h
      simp only [Nat.add_mul_mod_self_left, Nat.mod_eq_of_lt hv, Nat.mod_eq_of_lt hw] at this
      exact this
    subst hm
    have hd : digits b xs = digits b ys := Nat.eq_of_mul_eq_mul_left hb (by omega)
    rw [digits_inj hb (by simpa using e) (fun y hy => h1 y (List.mem_cons_of_mem _ hy)) (fun y hy => h2 y (List.mem_cons_of_mem _ hy)) hd]
def codeS : D → Nat
  | .tup [.tup vs, .tup ls] => digits 4 vs * 243 + digits 3 ls
  | _ => 0
theorem VOk.dig (R : RunOk ws rs off) {vs : List D} (h : VOk ws vs) : ∀ x ∈ vs, ∃ v : Nat, x = .int v ∧ v < 4 := fun x hx => by
  obtain ⟨i, hi⟩ := List.getElem?_of_mem hx
  have hl : i < ws.length := by rw [← h.1]; exact (List.getElem?_eq_some_iff.mp hi).1
  obtain ⟨v, m, h1, h2, h3⟩ := h.2 i _ (List.getElem?_eq_getElem hl)
  obtain ⟨m', h4, h5⟩ := R.w4 _ (List.getElem_mem hl)
  rw [hi] at h1
  cases h1
  rw [h4] at h2
  cases h2
  exact ⟨v, rfl, by omega⟩
theorem LOk.dig {n : Nat} {ls : List D} (h : LOk n 2 ls) : ∀ x ∈ ls, ∃ v : Nat, x = .int v ∧ v < 3 := fun x hx => by
  obtain ⟨i, hi⟩ := List.getElem?_of_mem hx
  have hl : i < n := by rw [← h.1]; exact (List.getElem?_eq_some_iff.mp hi).1
  obtain ⟨v, h1, h2⟩ := h.2 i hl
  rw [hi] at h1
  cases h1
  exact ⟨v, rfl, by omega⟩
theorem dig3 (R : RunOk ws rs off) {ls : List D} (h : LOk rs.length 2 ls) : digits 3 ls < 243 := by
  have h1 := digits_lt (b := 3) (by omega) h.dig
  have h2 : 3 ^ ls.length ≤ 3 ^ 5 := Nat.pow_le_pow_right (by omega) (by rw [h.1]; exact R.n5)
  omega
theorem dig4 (R : RunOk ws rs off) {vs : List D} (h : VOk ws vs) : digits 4 vs < 64 := by
  have h1 := digits_lt (b := 4) (by omega) (h.dig R)
  have h2 : 4 ^ vs.length ≤ 4 ^ 3 := Nat.pow_le_pow_right (by omega) (by rw [h.1]; exact R.w3)
  omega
theorem code_lt (R : RunOk ws rs off) {s : D} (h : SOk ws rs s) : codeS s < 15552 := by
  obtain ⟨vs, ls, rfl, hv, hl⟩ := h
  have h1 := dig4 R hv
  have h2 := dig3 R hl
  simp only [codeS]
  omega
theorem code_inj (R : RunOk ws rs off) {s t : D} (h1 : SOk ws rs s) (h2 : SOk ws rs t) (e : codeS s = codeS t) : s = t := by
  obtain ⟨vs, ls, rfl, hv, hl⟩ := h1
  obtain ⟨vs', ls', rfl, hv', hl'⟩ := h2
  have a1 := dig3 R hl
  have a2 := dig3 R hl'
  simp only [codeS] at e
  have e1 : digits 4 vs = digits 4 vs' := by omega
  have e2 : digits 3 ls = digits 3 ls' := by omega
  rw [digits_inj (by omega) (by rw [hv.1, hv'.1]) (hv.dig R) (hv'.dig R) e1, digits_inj (by omega) (by rw [hl.1, hl'.1]) hl.dig hl'.dig e2]
theorem few_states (R : RunOk ws rs off) {l : List D} (hn : l.Nodup) (h : ∀ s ∈ l, SOk ws rs s) : l.length ≤ 15552 := by
  have h1 := nodup_lt 15552 (l.map codeS) (by
    rw [List.nodup_iff_pairwise_ne, List.pairwise_map]
    exact List.Pairwise.imp_of_mem (fun {a b} ha hb hab e => hab (code_inj R (h a ha) (h b hb) e)) (List.nodup_iff_pairwise_ne.mp hn)) fun x hx => by
    obtain ⟨s, hs, rfl⟩ := List.mem_map.mp hx
    exact code_lt R (h s hs)
  simpa using h1
end
end U
set_option Elab.async false
set_option linter.all false
set_option maxRecDepth 100000
set_option maxHeartbeats 1000000
namespace U
open PySem
section
variable {ws rs off : List D}
theorem getK_none {k : NestedKey} : ∀ {kvs : List (D × D)}, (∀ p ∈ kvs, keyD p.1 ≠ some k) → getK kvs k = none
  | [], _ => rfl
  | p :: r, h => by
    unfold getK
    rw [if_neg (h p List.mem_cons_self)]
    exact getK_none fun q hq => h q (List.mem_cons_of_mem _ hq)
theorem getK_some {k : NestedKey} : ∀ {kvs : List (D × D)} {i : Nat} {p : D × D}, kvs[i]? = some p → keyD p.1 = some k → (∀ j q, j < i → kvs[j]? = some q → keyD q.1 ≠ some k) → getK kvs k = some p.2
  | [], _, _, h, _, _ => by simp at h
  | q :: r, 0, p, h, hk, _ => by
    simp at h
    subst h
    unfold getK
    rw [if_pos hk]
  | q :: r, i + 1, p, h, hk, hn => by
    unfold getK
    rw [if_neg (hn 0 q (by omega) rfl)]
    exact getK_some (by simpa using h) hk fun j q' hj hq => hn (j + 1) q' (by omega) (by simpa using hq)
theorem range_map_get {α : Type} {g : Nat → α} {m i : Nat} (h : i < m) : ((List.range m).map g)[i]? = some (g i) := by rw [List.getElem?_map, List.getElem?_range h]; rfl
theorem range_map_inv {α : Type} {g : Nat → α} {m i : Nat} {x : α} (h : ((List.range m).map g)[i]? = some x) : i < m ∧ x = g i := by
  have hi : i < m := by have := (List.getElem?_eq_some_iff.mp h).1; simpa using this
  rw [range_map_get hi] at h
  exact ⟨hi, (Option.some.inj h).symm⟩
structure Rho (ws rs off : List D) (s : D) (m b : Nat) : Prop where
  lt : b < m
  few : m ≤ 15552
  rep : iter ws rs off m s = iter ws rs off b s
  dist : ∀ i j, i < j → j < m → iter ws rs off i s ≠ iter ws rs off j s
theorem rho_search (s : D) : ∀ N : Nat, (∃ m b, m ≤ N ∧ b < m ∧ iter ws rs off m s = iter ws rs off b s ∧ ∀ i j, i < j → j < m → iter ws rs off i s ≠ iter ws rs off j s) ∨ ∀ i j, i < j → j ≤ N → iter ws rs off i s ≠ iter ws rs off j s
  | 0 => .inr fun i j h1 h2 => by omega
  | N + 1 => by
    rcases rho_search s N with ⟨m, b, h1, h2, h3, h4⟩ | h
    · exact .inl ⟨m, b, by omega, h2, h3, h4⟩
    · by_cases hx : ∃ b, b < N + 1 ∧ iter ws rs off (N + 1) s = iter ws rs off b s
      · obtain ⟨b, hb, e⟩ := hx
        exact .inl ⟨N + 1, b, Nat.le_refl _, hb, e, fun i j h1 h2 => h i j h1 (by omega)⟩
      · refine .inr fun i j h1 h2 e => ?_
        by_cases hj : j = N + 1
        · subst hj
          exact hx ⟨i, h1, e.symm⟩
        · exact h i j h1 (by omega) e
theorem rho_ex (R : RunOk ws rs off) {s : D} (h : SOk ws rs s) : ∃ m b, Rho ws rs off s m b := by
  rcases rho_search (ws := ws) (rs := rs) (off := off) s 15552 with ⟨m, b, h1, h2, h3, h4⟩ | hd
  · exact ⟨m, b, h2, h1, h3, h4⟩
  · have := few_states R (l := (List.range 15553).map fun i => iter ws rs off i s) (by
      rw [List.nodup_iff_pairwise_ne, List.pairwise_map]
      refine List.Pairwise.imp_of_mem (fun {a b} ha hb hab => hd a b hab ?_) List.pairwise_lt_range
      have := List.mem_range.mp hb
      omega) fun x hx => by
        obtain ⟨i, _, rfl⟩ := List.mem_map.mp hx
        exact iter_ok R h i
    rw [List.length_map, List.length_range] at this
    omega
def kvW (ws rs off : List D) (s : D) (i : Nat) : D × D := (iter ws rs off i s, .tup [didD ws rs off (iter ws rs off i s), thenD ws rs off (iter ws rs off i s)])
theorem range_snoc {α : Type} {g : Nat → α} {m : Nat} : (List.range (m + 1)).map g = (List.range m).map g ++ [g m] := by rw [List.range_succ, List.map_append]; rfl
theorem row_none (R : RunOk ws rs off) {s t : D} {m : Nat} {v : Nat → D} {k : NestedKey} (h : SOk ws rs s) (ht : SOk ws rs t) (hk : keyD t = some k) (hn : ∀ i, i < m → iter ws rs off i s ≠ t) : getK ((List.range m).map fun i => (iter ws rs off i s, v i)) k = none :=
  getK_none fun p hp e => by
    obtain ⟨i, hi, rfl⟩ := List.mem_map.mp hp
    exact hn i (List.mem_range.mp hi) (key_inj (iter_ok R h i) ht (by rw [e, hk]))
theorem row_some (R : RunOk ws rs off) {s t : D} {m i : Nat} {v : Nat → D} {k : NestedKey} (h : SOk ws rs s) (hk : keyD t = some k) (hi : i < m) (he : iter ws rs off i s = t) (hd : ∀ i j, i < j → j < m → iter ws rs off i s ≠ iter ws rs off j s) : getK ((List.range m).map fun i => (iter ws rs off i s, v i)) k = some (v i) := by
  refine getK_some (p := (iter ws rs off i s, v i)) (range_map_get (g := fun i => (iter ws rs off i s, v i)) hi) (by rw [he]; exact hk) fun j q hj hq e => ?_
  obtain ⟨h1, rfl⟩ := range_map_inv hq
  exact hd j i hj hi (key_inj (iter_ok R h j) (iter_ok R h i) (by rw [e, he, hk]))
theorem ways_all (R : RunOk ws rs off) {s : D} {m b : Nat} (h : SOk ws rs s) (r : Rho ws rs off s m b) : ∀ (n j : Nat), j ≤ m → m < j + n → waysO (nextO ws rs off) n ((List.range j).map (kvW ws rs off s)) (iter ws rs off j s) = some ((List.range m).map (kvW ws rs off s))
  | 0, j, h1, h2 => by omega
  | n + 1, j, h1, h2 => by
    have hj := iter_ok R h j
    obtain ⟨k, a1, a2⟩ := ask_ok hj
    unfold waysO
    simp only [a1]
    by_cases hm : j = m
    · subst hm
      have : getK ((List.range j).map (kvW ws rs off s)) k = some _ := row_some R (v := fun i => .tup [didD ws rs off (iter ws rs off i s), thenD ws rs off (iter ws rs off i s)]) h a2 r.lt r.rep.symm r.dist
      rw [this]
      rfl
    · have : getK ((List.range j).map (kvW ws rs off s)) k = none := row_none R (v := fun i => .tup [didD ws rs off (iter ws rs off i s), thenD ws rs off (iter ws rs off i s)]) h hj a2 fun i hi => r.dist i j hi (by omega)
      rw [this]
      rw [if_neg (by simp)]
      simp only [(next_ok R hj).1]
      have hf := r.few
      rw [if_pos (by simp; omega)]
      have e : (List.range j).map (kvW ws rs off s) ++ [(iter ws rs off j s, .tup [didD ws rs off (iter ws rs off j s), thenD ws rs off (iter ws rs off j s)])] = (List.range (j + 1)).map (kvW ws rs off s) := range_snoc.symm
      rw [e]
      exact ways_all R h r n (j + 1) (by omega) (by omega)
theorem trail_all (R : RunOk ws rs off) {s : D} {m b : Nat} (h : SOk ws rs s) (r : Rho ws rs off s m b) : ∀ (n j : Nat), j ≤ m → m < j + n →
    trailO ((List.range m).map (kvW ws rs off s)) n ((List.range j).map fun (i : Nat) => (iter ws rs off i s, D.int i)) ((List.range j).map fun i => didD ws rs off (iter ws rs off i s)) (iter ws rs off j s) = some ((List.range m).map fun (i : Nat) => (iter ws rs off i s, D.int i), (List.range m).map fun i => didD ws rs off (iter ws rs off i s), iter ws rs off m s)
  | 0, j, h1, h2 => by omega
  | n + 1, j, h1, h2 => by
    have hj := iter_ok R h j
    obtain ⟨k, a1, a2⟩ := ask_ok hj
    unfold trailO
    simp only [a1]
    by_cases hm : j = m
    · subst hm
      have : getK ((List.range j).map fun (i : Nat) => (iter ws rs off i s, D.int i)) k = some _ := row_some R (v := fun (i : Nat) => D.int i) h a2 r.lt r.rep.symm r.dist
      rw [this]
      rfl
    · have e1 : getK ((List.range j).map fun (i : Nat) => (iter ws rs off i s, D.int i)) k = none := row_none R (v := fun (i : Nat) => D.int i) h hj a2 fun i hi => r.dist i j hi (by omega)
      have e2 : getK ((List.range m).map (kvW ws rs off s)) k = some _ := row_some R (v := fun i => .tup [didD ws rs off (iter ws rs off i s), thenD ws rs off (iter ws rs off i s)]) h a2 (by omega) rfl r.dist
      rw [e1, if_neg (by simp), e2]
      simp only
      have hf := r.few
      rw [if_pos (by simp; omega)]
      have e3 : (List.range j).map (fun (i : Nat) => (iter ws rs off i s, D.int i)) ++ [(iter ws rs off j s, D.int (((List.range j).map fun (i : Nat) => (iter ws rs off i s, D.int i)).length : Nat))] = (List.range (j + 1)).map fun (i : Nat) => (iter ws rs off i s, D.int i) := by
        rw [range_snoc]; simp
      have e4 : (List.range j).map (fun i => didD ws rs off (iter ws rs off i s)) ++ [didD ws rs off (iter ws rs off j s)] = (List.range (j + 1)).map fun i => didD ws rs off (iter ws rs off i s) := range_snoc.symm
      rw [e3, e4]
      exact trail_all R h r n (j + 1) (by omega) (by omega)
theorem trailP_ok (R : RunOk ws rs off) {s : D} {m b : Nat} (h : SOk ws rs s) (r : Rho ws rs off s m b) : trailP ws rs s off = some ((List.range m).map fun i => iter ws rs off i s, (List.range m).map fun i => didD ws rs off (iter ws rs off i s), .int b) := by
  have hf := r.few
  have w := ways_all R h r 16000 0 (by omega) (by omega)
  have t := trail_all R h r 16000 0 (by omega) (by omega)
  simp only [List.range_zero, List.map_nil, iter] at w t
  obtain ⟨k, a1, a2⟩ := ask_ok (iter_ok R h m)
  unfold trailP
  simp only [waysAll, w]
  unfold alongO
  simp only [t, a1]
  have : getK ((List.range m).map fun (i : Nat) => (iter ws rs off i s, D.int i)) k = some _ := row_some R (v := fun (i : Nat) => D.int i) h a2 r.lt r.rep.symm r.dist
  rw [this]
  simp only [List.map_map]
  rfl
end
end U
set_option Elab.async false
set_option linter.all false
set_option maxRecDepth 100000
set_option maxHeartbeats 1000000
namespace U
open PySem
section
variable {ws rs off : List D}
theorem zip_all {f : D → D → Bool} {xs ys : List D} (h : ∀ (i : Nat) (x y : D), xs[i]? = some x → ys[i]? = some y → f x y = true) : (List.zipWith f xs ys).all id = true := List.all_eq_true.mpr fun b hb => by
  obtain ⟨i, hi⟩ := List.getElem?_of_mem hb
  rw [List.getElem?_zipWith] at hi
  cases hx : xs[i]? with
  | none => rw [hx] at hi; cases hi
  | some x =>
    cases hy : ys[i]? with
    | none => rw [hx, hy] at hi; cases hi
    | some y =>
      rw [hx, hy] at hi
      cases hi
      exact h i x y hx hy
theorem values_ok {vs : List D} (h : VOk ws vs) : valuesD ws (.tup vs) = true := by
  simp only [valuesD, Bool.and_eq_true, decide_eq_true_eq]
  refine ⟨h.1, zip_all fun i x y hx hy => ?_⟩
  obtain ⟨v, m, h1, h2, h3⟩ := h.2 i y hy
  rw [hx] at h1
  cases h1
  subst h2
  have a1 : (0 : Int) ≤ (v : Int) := by omega
  have a2 : (v : Int) ≤ (m : Int) - 1 := by omega
  simp only [withinD, wI, decide_eq_true a1, Bool.true_and]
  exact decide_eq_true a2
theorem left_ok {n : Nat} {ls : List D} (h : LOk n 2 ls) : leftD n (.tup ls) = true := by
  simp only [leftD, Bool.and_eq_true, decide_eq_true_eq]
  refine ⟨h.1, List.all_eq_true.mpr fun x hx => ?_⟩
  obtain ⟨v, rfl, hv⟩ := h.dig x hx
  simp only [withinD, Bool.and_eq_true, decide_eq_true_eq]
  omega
theorem ws_ints (R : RunOk ws rs off) : ws.all isI = true := List.all_eq_true.mpr fun w hw => by
  obtain ⟨m, rfl, _⟩ := R.w4 w hw
  rfl
theorem runO_all (R : RunOk ws rs off) (hr : risingD rs.length (.tup off) = true) {s : D} {m b : Nat} (h : SOk ws rs s) (r : Rho ws rs off s m b) :
    runO ws rs s (.tup off) = some ((List.range m).map fun i => iter ws rs off i s, (List.range m).map fun i => didD ws rs off (iter ws rs off i s), (b : Int)) := by
  have t := trailP_ok R h r
  have hf := r.few
  have hlt := r.lt
  unfold runO
  rw [if_pos]
  · simp only [show tupsD (.tup off) = off from rfl, t]
    rw [if_pos]
    refine ⟨by omega, by simp; omega, by simp; omega, by simp; omega, ?_, ?_⟩
    · refine List.all_eq_true.mpr fun d hd => ?_
      obtain ⟨i, _, rfl⟩ := List.mem_map.mp hd
      obtain ⟨dn, e, hi⟩ := (next_ok R (iter_ok R h i)).2.2
      rw [e]
      simp only [tupsD, hi, itemsD]
      rfl
    · refine List.all_eq_true.mpr fun d hd => ?_
      obtain ⟨i, _, rfl⟩ := List.mem_map.mp hd
      obtain ⟨k, _, hk⟩ := ask_ok (iter_ok R h i)
      rw [hk]
      rfl
  · obtain ⟨vs, ls, rfl, hv, hl⟩ := h
    have h3 : vs.length ≤ most := by rw [hv.1]; exact Nat.le_trans R.w3 (by decide)
    have h4 : ls.length ≤ most := by rw [hl.1]; exact Nat.le_trans R.n5 (by decide)
    have h5 : off.length ≤ most := Nat.le_trans R.offL (by decide)
    have h6 : rs.length ≤ 1000 := Nat.le_trans R.n5 (by decide)
    simp only [runOk, ws_ints R, hv.ints, hl.ints, R.offI, stateD, values_ok hv, left_ok hl, hr, Bool.and_true, Bool.true_and, Bool.and_eq_true, decide_eq_true_eq]
    exact ⟨⟨⟨h3, h4⟩, h5⟩, h6⟩
theorem iter_round {s : D} {b m : Nat} (hb : b < m) (e : iter ws rs off m s = iter ws rs off b s) (j : Nat) : iter ws rs off (b + j) s = iter ws rs off (b + j % (m - b)) s := by
  have hL : 0 < m - b := by omega
  have key : ∀ q t, iter ws rs off (b + ((m - b) * q + t)) s = iter ws rs off (b + t) s := by
    intro q
    induction q with
    | zero => intro t; simp
    | succ q ih =>
      intro t
      have e1 : b + ((m - b) * (q + 1) + t) = m + ((m - b) * q + t) := by rw [Nat.mul_succ]; omega
      rw [e1, iter_add m, e, ← iter_add b, ih t]
  have := key (j / (m - b)) (j % (m - b))
  rw [Nat.div_add_mod] at this
  exact this
theorem nAt_nat {b m k : Nat} (h : b < m) : nAt (b : Int) m (k : Int) = ((if k < b then k else b + (k - b) % (m - b) : Nat) : Int) := by
  unfold nAt
  by_cases hk : k < b
  · rw [if_pos (by omega), if_pos hk]
  · rw [if_neg (by omega), if_neg hk]
    have e1 : (k : Int) - (b : Int) = ((k - b : Nat) : Int) := by omega
    have e2 : (m : Int) - (b : Int) = ((m - b : Nat) : Int) := by omega
    rw [e1, e2]
    simp
theorem at_all {s : D} {m b : Nat} (r : Rho ws rs off s m b) (k : Nat) : L2.atI ((List.range m).map fun i => iter ws rs off i s) (nAt (b : Int) ((List.range m).map fun i => iter ws rs off i s).length (k : Int)) = some (iter ws rs off k s) := by
  have hlt := r.lt
  rw [List.length_map, List.length_range, nAt_nat hlt]
  have hlt2 : (if k < b then k else b + (k - b) % (m - b)) < m := by
    split
    · omega
    · have := Nat.mod_lt (k - b) (show 0 < m - b by omega)
      omega
  rw [atI_nat (range_map_get hlt2)]
  congr 1
  split
  · rfl
  · rename_i hk
    have := iter_round hlt r.rep (k - b)
    rw [show b + (k - b) = k by omega] at this
    exact this.symm
def cnt (P : Nat → Bool) (k : Nat) : Nat := ((List.range k).filter P).length
theorem range_split (b j : Nat) : List.range (b + j) = List.range b ++ (List.range j).map (b + ·) := by
  induction j with
  | zero => simp
  | succ j ih => rw [show b + (j + 1) = (b + j) + 1 by omega, List.range_succ, ih, List.range_succ, List.map_append, List.append_assoc]; rfl
theorem filter_map_len {P : Nat → Bool} {f : Nat → Nat} (l : List Nat) : ((l.map f).filter P).length = (l.filter fun i => P (f i)).length := by rw [List.filter_map, List.length_map]; rfl
theorem cnt_add {P : Nat → Bool} (b j : Nat) : cnt P (b + j) = cnt P b + cnt (fun i => P (b + i)) j := by
  unfold cnt
  rw [range_split, List.filter_append, List.length_append, filter_map_len]
theorem cnt_succ {P : Nat → Bool} (k : Nat) : cnt P (k + 1) = cnt P k + (if P k = true then 1 else 0) := by
  rw [cnt_add]
  congr 1
  unfold cnt
  simp only [List.range_succ, List.range_zero, List.nil_append, List.filter_cons, List.filter_nil, Nat.add_zero]
  split <;> rfl
theorem cnt_congr {P Q : Nat → Bool} {k : Nat} (h : ∀ i, i < k → P i = Q i) : cnt P k = cnt Q k := by
  unfold cnt
  rw [List.filter_congr fun i hi => h i (List.mem_range.mp hi)]
theorem cnt_mul {P : Nat → Bool} {L : Nat} (h : ∀ i, P (L + i) = P i) : ∀ (q t : Nat), cnt P (q * L + t) = q * cnt P L + cnt P t
  | 0, t => by simp
  | q + 1, t => by
    have e : (q + 1) * L + t = L + (q * L + t) := by rw [Nat.succ_mul]; omega
    rw [e, cnt_add, cnt_congr (Q := P) fun i _ => h i, cnt_mul h q t, Nat.succ_mul]
    omega
def didR (ws rs off : List D) (r : Int) (s : D) (i : Nat) : Bool := memI (.int r) (tupsD (didD ws rs off (iter ws rs off i s)))
theorem didR_add {r : Int} {s : D} (n i : Nat) : didR ws rs off r (iter ws rs off n s) i = didR ws rs off r s (n + i) := by
  unfold didR
  rw [iter_add n i]
theorem enum_range {g : Nat → D} : ∀ (m k : Nat), enumFrom k ((List.range m).map fun i => g (k + i)) = (List.range m).map fun i => .tup [.int ((k + i : Nat) : Int), g (k + i)]
  | 0, k => rfl
  | m + 1, k => by
    rw [List.range_succ_eq_map]
    simp only [List.map_cons, enumFrom, List.map_map]
    congr 1
    have := enum_range (g := g) m (k + 1)
    have e1 : ((fun i => g (k + i)) ∘ Nat.succ) = fun i => g (k + 1 + i) := by funext i; simp [Nat.succ_eq_add_one]; congr 1; omega
    have e2 : ((fun (i : Nat) => D.tup [.int ((k + i : Nat) : Int), g (k + i)]) ∘ Nat.succ) = fun i => D.tup [.int ((k + 1 + i : Nat) : Int), g (k + 1 + i)] := by
      funext i
      simp only [Function.comp_apply, Nat.succ_eq_add_one]
      rw [show k + (i + 1) = k + 1 + i by omega]
    rw [e1, e2]
    exact this
theorem found_all {r : Int} {s : D} {m : Nat} : foundL ((List.range m).map fun i => didD ws rs off (iter ws rs off i s)) r = ((List.range m).filter (didR ws rs off r s)).map fun (i : Nat) => D.int i := by
  unfold foundL
  have e := enum_range (g := fun i => didD ws rs off (iter ws rs off i s)) m 0
  simp only [Nat.zero_add] at e
  rw [e, List.filter_map, List.map_map]
  rfl
theorem below_nat {l : List Nat} {k : Int} : below (l.map fun (i : Nat) => D.int i) k = ((l.filter fun (i : Nat) => decide ((i : Int) < k)).length : Nat) := by
  unfold below
  rw [List.filter_map, List.length_map]
  rfl
theorem filter_comm' {P Q : Nat → Bool} (l : List Nat) : (l.filter P).filter Q = (l.filter Q).filter P := by rw [List.filter_filter, List.filter_filter]; congr 1; funext i; exact Bool.and_comm _ _
theorem range_below (m k : Nat) : (List.range m).filter (fun (i : Nat) => decide ((i : Int) < (k : Int))) = List.range (min m k) := by
  induction m with
  | zero => simp
  | succ m ih =>
    rw [List.range_succ, List.filter_append, ih]
    by_cases h : m < k
    · rw [show min m k = m by omega, show min (m + 1) k = m + 1 by omega, List.range_succ, List.filter_cons_of_pos (by simp; omega)]
      rfl
    · rw [show min m k = k by omega, show min (m + 1) k = k by omega, List.filter_cons_of_neg (by simp; omega)]
      simp
theorem soon_all {r : Int} {s : D} {m b : Nat} (h : b < m) : soonL ((List.range m).map fun i => didD ws rs off (iter ws rs off i s)) r b = ((List.range b).filter (didR ws rs off r s)).map fun (i : Nat) => D.int i := by
  unfold soonL
  rw [found_all, List.filter_map]
  congr 1
  have := filter_comm' (P := didR ws rs off r s) (Q := fun (i : Nat) => decide ((i : Int) < (b : Int))) (List.range m)
  rw [range_below, show min m b = b by omega] at this
  exact this
theorem round_all {r : Int} {s : D} {m b : Nat} (h : b < m) : roundL ((List.range m).map fun i => didD ws rs off (iter ws rs off i s)) r b = (((List.range (m - b)).map (b + ·)).filter (didR ws rs off r s)).map fun (i : Nat) => D.int i := by
  unfold roundL
  rw [soon_all h, found_all, List.length_map]
  have e : (List.range m).filter (didR ws rs off r s) = (List.range b).filter (didR ws rs off r s) ++ ((List.range (m - b)).map (b + ·)).filter (didR ws rs off r s) := by
    rw [← List.filter_append, ← range_split, show b + (m - b) = m by omega]
  rw [e, List.map_append, List.drop_left' (by simp)]
theorem times_all {r : Int} {s : D} {m b : Nat} (ρ : Rho ws rs off s m b) (k : Nat) :
    timesO ((List.range m).map fun i => iter ws rs off i s) ((List.range m).map fun i => didD ws rs off (iter ws rs off i s)) (b : Int) r (k : Int) = (cnt (didR ws rs off r s) k : Nat) := by
  have hlt := ρ.lt
  unfold timesO
  rw [soon_all hlt, round_all hlt, List.length_map, List.length_map, List.length_map, List.length_range]
  by_cases hk : k < b
  · rw [if_pos (by omega), below_nat]
    congr 1
    have := filter_comm' (P := didR ws rs off r s) (Q := fun (i : Nat) => decide ((i : Int) < (k : Int))) (List.range b)
    rw [range_below, show min b k = k by omega] at this
    rw [this]
    rfl
  · rw [if_neg (by omega), below_nat]
    have e1 : (k : Int) - (b : Int) = ((k - b : Nat) : Int) := by omega
    have e2 : (m : Int) - (b : Int) = ((m - b : Nat) : Int) := by omega
    have per : ∀ i, didR ws rs off r s (b + ((m - b) + i)) = didR ws rs off r s (b + i) := fun i => by
      unfold didR
      rw [show b + ((m - b) + i) = m + i by omega, iter_add m, ρ.rep, ← iter_add b]
    have hq := cnt_mul (P := fun i => didR ws rs off r s (b + i)) (L := m - b) per ((k - b) / (m - b)) ((k - b) % (m - b))
    rw [Nat.div_add_mod' (k - b) (m - b)] at hq
    have hs := cnt_add (P := didR ws rs off r s) b (k - b)
    rw [show b + (k - b) = k by omega, hq] at hs
    rw [hs, e1, e2, filter_map_len]
    have e3 : ((((List.range (m - b)).map (b + ·)).filter (didR ws rs off r s)).filter fun (i : Nat) => decide ((i : Int) < (b : Int) + ((k - b : Nat) : Int) % ((m - b : Nat) : Int))).length = cnt (fun i => didR ws rs off r s (b + i)) ((k - b) % (m - b)) := by
      rw [filter_comm', List.filter_map, filter_map_len]
      have e4 : (List.range (m - b)).filter ((fun (i : Nat) => decide ((i : Int) < (b : Int) + ((k - b : Nat) : Int) % ((m - b : Nat) : Int))) ∘ (b + ·)) = List.range ((k - b) % (m - b)) := by
        have h1 := range_below (m - b) ((k - b) % (m - b))
        have h2 := Nat.mod_lt (k - b) (show 0 < m - b by omega)
        rw [show min (m - b) ((k - b) % (m - b)) = (k - b) % (m - b) by omega] at h1
        rw [← h1]
        congr 1
        funext i
        simp only [Function.comp_apply]
        refine decide_eq_decide.mpr ?_
        have e5 : ((k - b : Nat) : Int) % ((m - b : Nat) : Int) = (((k - b) % (m - b) : Nat) : Int) := by simp
        rw [e5]
        omega
      rw [e4]
      rfl
    rw [e3]
    show (((List.range b).filter (didR ws rs off r s)).length : Int) + _ + _ = _
    have e6 : ((k - b : Nat) : Int) / ((m - b : Nat) : Int) = (((k - b) / (m - b) : Nat) : Int) := by simp
    rw [e6]
    simp only [cnt]
    omega
end
end U
set_option Elab.async false
set_option linter.all false
set_option maxRecDepth 100000
set_option maxHeartbeats 1000000
namespace U
open PySem
theorem runOk_inv {ws rs : List D} {s off : D} (hk : runOk ws rs s off = true) : ∃ vs ls os, s = .tup [.tup vs, .tup ls] ∧ off = .tup os ∧ ws.all isI = true ∧ vs.all isI = true ∧ ls.all isI = true ∧ os.all isI = true ∧ vs.length ≤ most ∧ ls.length ≤ most ∧ os.length ≤ most ∧ rs.length ≤ 1000 ∧ stateD ws rs.length s = true ∧ risingD rs.length off = true := by
  unfold runOk at hk
  split at hk
  · rename_i vs ls os
    simp only [Bool.and_eq_true, decide_eq_true_eq] at hk
    obtain ⟨⟨⟨⟨⟨⟨⟨⟨⟨h1, h2⟩, h3⟩, h4⟩, h5⟩, h6⟩, h7⟩, h8⟩, h9⟩, h10⟩ := hk
    exact ⟨vs, ls, os, rfl, rfl, h1, h2, h3, h4, h5, h6, h7, h8, h9, h10⟩
  · cases hk
def Bag (st : Sto) (b : Nat) (c : Int) : Prop := ∃ g x c', st[b]? = some (lst3 g x c') ∧ CtOk x c' ∧ c' ≤ c
theorem take_step {st : Sto} {b : Nat} {c many : Int} (h : Bag st b c) (h0 : 0 < many) (h1 : many < 1000000000000000000000) (hc : c + 1 < 1000000) :
    ∃ (v : Nat) (st' : Sto), s_take [.ref b, .int many] st = .ok (.int (v : Int)) st' ∧ (v : Int) < many ∧ Bag st' b (c + 1) ∧ (∀ i, i ≠ b → st'[i]? = st[i]?) ∧ st'.length = st.length := by
  obtain ⟨g, x, c', hb, ok, hle⟩ := h
  have hr := take_range (g := g) (x := x) (c := c') h0
  obtain ⟨v, hv⟩ := Int.eq_ofNat_of_zero_le hr.1
  refine ⟨v, _, by rw [← hv]; exact take_of hb ok h0 h1, by omega, ?_, fun i hi => List.getElem?_set_ne (Ne.symm hi), by simp⟩
  obtain ⟨g', x', c'', e, ok', hle'⟩ := take_next (g := g) (many := many) ok (by omega)
  exact ⟨g', x', c'', by rw [get_set (List.getElem?_eq_some_iff.mp hb).1, e], ok', by omega⟩
theorem get0 {st ex : Sto} {o : Ob} {i : Nat} (h : st[i]? = some o) : (st ++ ex)[i]? = some o := by rw [List.getElem?_append_left (List.getElem?_eq_some_iff.mp h).1]; exact h
theorem Bag.app {st ex : Sto} {b : Nat} {c : Int} (h : Bag st b c) : Bag (st ++ ex) b c := by
  obtain ⟨g, x, c', hb, r⟩ := h
  exact ⟨g, x, c', get0 hb, r⟩
theorem runLc_J {xs : List D} {g : GM} {e : EM} {env : Ev} {k : Nat} (J : Nat → List D → Sto → Prop) (hk : ∀ i acc st, J i acc st → acc.length < most)
    (h : ∀ i x acc st, xs[i]? = some x → J i acc st → ∃ env1 st1 d st2, g x env st = some (env1, st1) ∧ e env1 st = .ok d st2 ∧ st2[k]? = some (.lst acc) ∧ J (i + 1) (acc ++ [d]) (st2.set k (.lst (acc ++ [d])))) :
    ∀ (n i : Nat) (acc : List D) (st : Sto), xs.length = i + n → J i acc st → ∃ acc' st', runLc (.fix xs) g tTrue e k env (n + 1) i st = .ok (.ref k) st' ∧ J xs.length acc' st'
  | 0, i, acc, st, hn, hJ => by
    have e : i = xs.length := by omega
    subst e
    refine ⟨acc, st, ?_, hJ⟩
    unfold runLc
    simp only [Src.at]
    rw [List.getElem?_eq_none (Nat.le_refl _)]
  | n + 1, i, acc, st, hn, hJ => by
    have hi : i < xs.length := by omega
    obtain ⟨env1, st1, d, st2, h1, h2, h3, h4⟩ := h i xs[i] acc st (List.getElem?_eq_getElem hi) hJ
    obtain ⟨acc', st', h5, h6⟩ := runLc_J J hk h n (i + 1) (acc ++ [d]) _ (by omega) h4
    refine ⟨acc', st', ?_, h6⟩
    unfold runLc
    simp only [Src.at]
    rw [List.getElem?_eq_getElem hi]
    simp only [h1, tTrue, R.bind, if_true, h2, h3]
    rw [if_pos (hk _ _ _ hJ)]
    exact h5
theorem startLc_J {xs : List D} {g : GM} {e : EM} {env : Ev} {st : Sto} (J : Nat → List D → Sto → Prop) (hk : ∀ i acc st, J i acc st → acc.length < most) (h0 : J 0 [] (st ++ [.lst []]))
    (h : ∀ i x acc s', xs[i]? = some x → J i acc s' → ∃ env1 st1 d st2, g x env s' = some (env1, st1) ∧ e env1 s' = .ok d st2 ∧ st2[st.length]? = some (.lst acc) ∧ J (i + 1) (acc ++ [d]) (st2.set st.length (.lst (acc ++ [d])))) :
    ∃ acc' st', startLc g tTrue e env (.fix xs) st = .ok (.ref st.length) st' ∧ J xs.length acc' st' :=
  runLc_J J hk h xs.length 0 [] _ (by omega) h0
theorem seq_to {a b : SM} {env env1 : Ev} {st st1 : Sto} {r : RS} (h1 : a env st = .nx env1 st1) (h2 : b env1 st1 = r) : sSeq a b env st = r := by unfold sSeq; rw [h1]; exact h2
theorem set_to {i : Nat} {g : EM} {b : SM} {env : Ev} {st st1 : Sto} {d : D} {r : RS} (h1 : g env st = .ok d st1) (h2 : b (env.set i (some d)) st1 = r) : sSeq (sSet i g) b env st = r := seq_to (by unfold sSet; rw [h1]; rfl) h2
theorem par_to {i j : Nat} {ga gb : EM} {b : SM} {env : Ev} {st s1 s2 : Sto} {x y : D} {r : RS} (h1 : ga env st = .ok x s1) (h2 : gb env s1 = .ok y s2) (h : b ((env.set i (some x)).set j (some y)) s2 = r) : sSeq (sPar i j ga gb) b env st = r := seq_to (by unfold sPar; rw [h1]; simp only [R.then]; rw [h2]) h
theorem par3_to {i j l : Nat} {ga gb gc : EM} {b : SM} {env : Ev} {st s1 s2 s3 : Sto} {x y z : D} {r : RS} (h1 : ga env st = .ok x s1) (h2 : gb env s1 = .ok y s2) (h3 : gc env s2 = .ok z s3) (h : b (((env.set i (some x)).set j (some y)).set l (some z)) s3 = r) : sSeq (sPar3 i j l ga gb gc) b env st = r := seq_to (by unfold sPar3; rw [h1]; simp only [R.then]; rw [h2]; simp only; rw [h3]) h
theorem if_to {t : TM} {a b : SM} {env : Ev} {st st1 : Sto} {r : RS} (h1 : t env st = .ok false st1) (h2 : b env st1 = r) : sSeq (sIf t a sSkip) b env st = r := seq_to (by unfold sIf; rw [h1]; rfl) h2
def Out (r : RS) (P : Ev → Sto → Prop) : Prop := ∃ env' st', r = .nx env' st' ∧ P env' st'
section
variable {P : Ev → Sto → Prop} {b : SM} {env env1 : Ev} {st st1 : Sto}
theorem out_seq {a : SM} (h1 : a env st = .nx env1 st1) (h2 : Out (b env1 st1) P) : Out (sSeq a b env st) P := by rw [seq_to h1 rfl]; exact h2
theorem out_set {i : Nat} {g : EM} {d : D} (h1 : g env st = .ok d st1) (h2 : Out (b (env.set i (some d)) st1) P) : Out (sSeq (sSet i g) b env st) P := by rw [set_to h1 rfl]; exact h2
theorem out_par {i j : Nat} {ga gb : EM} {s1 s2 : Sto} {x y : D} (h1 : ga env st = .ok x s1) (h2 : gb env s1 = .ok y s2) (h : Out (b ((env.set i (some x)).set j (some y)) s2) P) : Out (sSeq (sPar i j ga gb) b env st) P := by rw [par_to h1 h2 rfl]; exact h
theorem out_par3 {i j l : Nat} {ga gb gc : EM} {s1 s2 s3 : Sto} {x y z : D} (h1 : ga env st = .ok x s1) (h2 : gb env s1 = .ok y s2) (h3 : gc env s2 = .ok z s3) (h : Out (b (((env.set i (some x)).set j (some y)).set l (some z)) s3) P) : Out (sSeq (sPar3 i j l ga gb gc) b env st) P := by rw [par3_to h1 h2 h3 rfl]; exact h
theorem out_if {t : TM} {a : SM} (h1 : t env st = .ok false st1) (h2 : Out (b env st1) P) : Out (sSeq (sIf t a sSkip) b env st) P := by rw [if_to h1 rfl]; exact h2
end
theorem mul10 {st : Sto} {i : Int} : dMul (.int i) (.int 10) st = .ok (.int (i * 10)) st := by
  unfold dMul
  simp only
  rw [if_pos (.inr ⟨by omega, by omega⟩)]
theorem ten_turn {st : Sto} {e : D} {v : Int} {x : D} : sSet 1 (eBin dMul (eVar 1) (eC (.int 10))) [some e, some (.int v), some x] st = .nx [some e, some (.int (v * 10)), some x] st := by
  rw [ev_set, ev_bin, ev_var]
  show ((eC (.int 10) [some e, some (.int v), some x] st).bind fun y s => dMul (.int v) y s).then _ _ = _
  rw [ev_c, ev_bok, mul10]
  rfl
theorem mul2L {st : Sto} {l : Nat} {x : D} {b : Bool} (h : st[l]? = some (.lst [x])) : dMul2 (.ref l) (.int (if b = true then 1 else 0)) st = .ok (.ref st.length) (st ++ [.lst (if b = true then [x] else [])]) := by
  unfold dMul2
  simp only [h]
  cases b with
  | true => rw [if_pos ⟨by decide, by decide, by show 1 * 1 ≤ most; decide⟩]; rfl
  | false => rw [if_pos ⟨by decide, by decide, by show 1 * 0 ≤ most; decide⟩]; rfl
theorem addL {st : Sto} {i j : Nat} {xs ys : List D} (h1 : st[i]? = some (.lst xs)) (h2 : st[j]? = some (.lst ys)) (hl : (xs ++ ys).length ≤ most) : dAdd (.ref i) (.ref j) st = .ok (.ref st.length) (st ++ [.lst (xs ++ ys)]) := by
  unfold dAdd
  simp only [h1, h2]
  exact if_pos hl

theorem neI {st : Sto} {i j : Int} (h : i = j) : dEq true (.int i) (.int j) st = .ok (.bl false) st := by
  rw [eqI, h]
  simp
theorem mkTup_0 {st : Sto} : mkTup [] st = .ok (.tup []) st := rfl
theorem mkTup_1 {st : Sto} {a : D} : mkTup [a] st = .ok (.tup [a]) st := rfl
theorem mkTup_4 {st : Sto} {a b c d : D} : mkTup [a, b, c, d] st = .ok (.tup [a, b, c, d]) st := rfl
theorem fInt_b {st : Sto} {b : Bool} : fInt [.bl b] st = .ok (.int (if b = true then 1 else 0)) st := rfl

theorem Bag.mono {st : Sto} {b : Nat} {c d : Int} (h : Bag st b c) (hd : c ≤ d) : Bag st b d := let ⟨g, x, c', h1, h2, h3⟩ := h; ⟨g, x, c', h1, h2, Int.le_trans h3 hd⟩
theorem Bag.lt {st : Sto} {b : Nat} {c : Int} (h : Bag st b c) : b < st.length := let ⟨_, _, _, h1, _⟩ := h; (List.getElem?_eq_some_iff.mp h1).1
structure Grw (S T : Sto) (B : Nat) : Prop where
  len : S.length ≤ T.length
  at_ : ∀ i, i < S.length → i ≠ B → T[i]? = S[i]?
theorem Grw.refl {S : Sto} {B : Nat} : Grw S S B := ⟨Nat.le_refl _, fun _ _ _ => rfl⟩
theorem Grw.trans {S T V : Sto} {B : Nat} (a : Grw S T B) (b : Grw T V B) : Grw S V B := ⟨Nat.le_trans a.len b.len, fun i hi hb => (b.at_ i (Nat.lt_of_lt_of_le hi a.len) hb).trans (a.at_ i hi hb)⟩
theorem Grw.app {S ex : Sto} {B : Nat} : Grw S (S ++ ex) B := ⟨by simp, fun i hi _ => List.getElem?_append_left hi⟩
theorem Grw.same {S T : Sto} {B : Nat} (h : ∀ i, i ≠ B → T[i]? = S[i]?) (hl : T.length = S.length) : Grw S T B := ⟨Nat.le_of_eq hl.symm, fun i _ hb => h i hb⟩
theorem Grw.set {S T : Sto} {B k : Nat} {o : Ob} (a : Grw S T B) (hk : S.length ≤ k) : Grw S (T.set k o) B := ⟨by simpa using a.len, fun i hi hb => by rw [List.getElem?_set_ne (by omega)]; exact a.at_ i hi hb⟩
theorem Bag.set {T : Sto} {B k : Nat} {c : Int} {o : Ob} (h : Bag T B c) (hk : k ≠ B) : Bag (T.set k o) B c := by
  obtain ⟨g, x, c', h1, r⟩ := h
  exact ⟨g, x, c', by rw [List.getElem?_set_ne hk]; exact h1, r⟩
theorem take_go {st : Sto} {b : Nat} {c many : Int} (h : Bag st b c) (h0 : 0 < many) (h1 : many < 1000000000000000000000) (hc : c + 1 < 1000000) :
    ∃ (v : Nat) (st' : Sto), s_take [.ref b, .int many] st = .ok (.int (v : Int)) st' ∧ (v : Int) < many ∧ Bag st' b (c + 1) ∧ Grw st st' b ∧ st'.length = st.length :=
  let ⟨v, st', h1, h2, h3, h4, h5⟩ := take_step h h0 h1 hc; ⟨v, st', h1, h2, h3, .same h4 h5, h5⟩
theorem within60 {k : Nat} (h : k < 10 ^ 60) : withinD 0 999999999999999999999999999999999999999999999999999999999999 (.int (k : Int)) = true := by
  have h1 : k < 1000000000000000000000000000000000000000000000000000000000000 := h
  have a1 : (0 : Int) ≤ (k : Int) := by omega
  have a2 : (k : Int) ≤ 999999999999999999999999999999999999999999999999999999999999 := by omega
  simp only [withinD, decide_eq_true a1, Bool.true_and]
  exact decide_eq_true a2
end U
set_option Elab.async false
set_option linter.all false
set_option maxRecDepth 100000
set_option maxHeartbeats 400000
namespace U
open PySem

def WR {α : Type} (r : R α) (P : α → Sto → Prop) : Prop := match r with
  | .ok a st => P a st
  | _ => False
def WS (r : RS) (N : Ev → Sto → Prop) (T : D → Sto → Prop) (C B : Ev → Sto → Prop) : Prop := match r with
  | .nx e s => N e s
  | .rt d s => T d s
  | .ct e s => C e s
  | .bk e s => B e s
  | _ => False
def Cond (c : Bool) (A B : Prop) : Prop := if c = true then A else B
theorem cond_t {A B : Prop} (h : A) : Cond true A B := h
theorem cond_f {A B : Prop} (h : B) : Cond false A B := h
theorem cond_at {c : Bool} {A B : Prop} (hc : c = true) (h : A) : Cond c A B := by rw [hc]; exact h
theorem cond_af {c : Bool} {A B : Prop} (hc : c = false) (h : B) : Cond c A B := by rw [hc]; exact h
theorem cond_by {c : Bool} {A B : Prop} (h1 : c = true → A) (h2 : c = false → B) : Cond c A B := by
  cases c with
  | true => exact h1 rfl
  | false => exact h2 rfl
section
variable {α β : Type} {r : R α} {P : α → Sto → Prop} {PB : Bool → Sto → Prop} {PD : D → Sto → Prop} {PL : List D → Sto → Prop} {N C B : Ev → Sto → Prop} {T : D → Sto → Prop} {env env1 : Ev} {st st1 : Sto}
theorem wr_by {a : α} (h : r = .ok a st1) (k : P a st1) : WR r P := by rw [h]; exact k
theorem wr_out (h : WR r P) : ∃ a s, r = .ok a s ∧ P a s := by
  cases r with
  | ok a s => exact ⟨a, s, rfl, h⟩
  | err => exact h.elim
  | fail => exact h.elim
theorem wr_bind {q : R β} {f : β → Sto → R α} (h : WR q fun x s => WR (f x s) P) : WR (q.bind f) P := by
  cases q with
  | ok a s => exact h
  | err => exact h.elim
  | fail => exact h.elim
theorem wr_imp {Q : α → Sto → Prop} (h : WR r P) (i : ∀ a s, P a s → Q a s) : WR r Q := by
  cases r with
  | ok a s => exact i a s h
  | err => exact h.elim
  | fail => exact h.elim
theorem ws_then {q : R β} {f : β → Sto → RS} (h : WR q fun x s => WS (f x s) N T C B) : WS (q.then env f) N T C B := by
  cases q with
  | ok a s => exact h
  | err => exact h.elim
  | fail => exact h.elim
theorem wr_hush (h : WR r P) : WR r.hush P := by
  cases r with
  | ok a s => exact h
  | err => exact h.elim
  | fail => exact h.elim
theorem w_var {i : Nat} {d : D} (h : env[i]? = some (some d)) (k : PD d st) : WR (eVar i env st) PD := by unfold eVar; rw [h]; exact k
theorem w_c {d : D} (k : PD d st) : WR (eC d env st) PD := k
theorem w_un {f : D → Sto → R D} {a : EM} (k : WR (a env st) fun x s => WR (f x s) PD) : WR (eUn f a env st) PD := wr_bind k
theorem w_bin {f : D → D → Sto → R D} {a b : EM} (k : WR (a env st) fun x s => WR (b env s) fun y s => WR (f x y s) PD) : WR (eBin f a b env st) PD := wr_bind (wr_imp k fun _ _ h => wr_bind h)
theorem w_anil (k : PL [] st) : WR (aNil env st) PL := k
theorem w_acons {a : EM} {as : AM} (k : WR (a env st) fun x s => WR (as env s) fun xs s => PL (x :: xs) s) : WR (aCons a as env st) PL := wr_bind (wr_imp k fun _ _ h => wr_bind h)
theorem w_aapp {a b : AM} (k : WR (a env st) fun x s => WR (b env s) fun xs s => PL (x ++ xs) s) : WR (aApp a b env st) PL := wr_bind (wr_imp k fun _ _ h => wr_bind h)
theorem w_fn {f : List D → Sto → R D} {as : AM} (k : WR (as env st) fun xs s => WR (f xs s) PD) : WR (eFn f as env st) PD := wr_bind k
theorem w_via {l : List Arg} {f : Fm} {ds es : List D} (h : pick l ds = some es) (k : WR (f es st) PD) : WR (via l f ds st) PD := by unfold via; rw [h]; exact k
theorem w_tof {a : EM} (k : WR (a env st) fun x s => WR (toB x s) PB) : WR (tOf a env st) PB := wr_bind k
theorem w_tob {c : Bool} (k : PB c st) : WR (toB (.bl c) st) PB := k
theorem w_tand {a b : TM} (k : WR (a env st) fun c s => Cond c (WR (b env s) PB) (PB false s)) : WR (tAnd a b env st) PB := wr_bind (wr_imp k fun c _ h => by cases c <;> exact h)
theorem w_tor {a b : TM} (k : WR (a env st) fun c s => Cond c (PB true s) (WR (b env s) PB)) : WR (tOr a b env st) PB := wr_bind (wr_imp k fun c _ h => by cases c <;> exact h)
theorem w_tnot {a : TM} (k : WR (a env st) fun c s => PB (!c) s) : WR (tNot a env st) PB := wr_bind k
theorem w_true (k : PB true st) : WR (tTrue env st) PB := k
theorem w_bcase {x : D} {c : Bool} {A B : Prop} (hx : x = .bl c) (k : Cond c A B) : (match x with | .bl c => Cond c A B | _ => False) := by subst hx; exact k
theorem w_eand {a b : EM} (k : WR (a env st) fun x s => ∃ c, x = .bl c ∧ Cond c (WR (b env s) PD) (PD (.bl false) s)) : WR (eAnd a b env st) PD := wr_bind (wr_imp k fun x _ ⟨c, e, h⟩ => by subst e; cases c <;> exact h)
theorem w_eor {a b : EM} (k : WR (a env st) fun x s => ∃ c, x = .bl c ∧ Cond c (PD (.bl true) s) (WR (b env s) PD)) : WR (eOr a b env st) PD := wr_bind (wr_imp k fun x _ ⟨c, e, h⟩ => by subst e; cases c <;> exact h)
theorem w_enot {a : EM} (k : WR (a env st) fun x s => ∃ c, x = .bl c ∧ PD (.bl (!c)) s) : WR (eNot a env st) PD := wr_bind (wr_imp k fun x _ ⟨c, e, h⟩ => by subst e; exact h)
theorem w_exb {c : Bool} {A : Bool → Prop} (k : A c) : ∃ c', D.bl c = .bl c' ∧ A c' := ⟨c, rfl, k⟩
theorem w_if {t : TM} {a b : EM} (k : WR (t env st) fun c s => Cond c (WR (a env s) PD) (WR (b env s) PD)) : WR (eIf t a b env st) PD := wr_bind (wr_imp k fun c _ h => by cases c <;> exact h)
theorem w_slice {a : EM} {lo hi : oM} (k : WR (a env st) fun d s => WR (lo env s) fun l s => WR (hi env s) fun h s => WR (sliceD d l h s) PD) : WR (eSlice a lo hi env st) PD := wr_bind (wr_imp k fun _ _ h => wr_bind (wr_imp h fun _ _ h => wr_bind h))
theorem w_onone {PO : Option Int → Sto → Prop} (k : PO none st) : WR (oNone env st) PO := k
theorem w_osome {a : EM} {PO : Option Int → Sto → Prop} (k : WR (a env st) fun d s => ∃ i, d = .int i ∧ PO (some i) s) : WR (oSome a env st) PO := wr_bind (wr_imp k fun x _ ⟨i, e, h⟩ => by subst e; exact h)
theorem w_exi {i : Int} {A : Int → Prop} (k : A i) : ∃ i', D.int i = .int i' ∧ A i' := ⟨i, rfl, k⟩
theorem w_lc {src : IM} {vs : List Nat} {g : GM} {t : TM} {e : EM} (k : WR (src env st) fun s st => WR (startLc g t e (wipeE env vs) s st) PD) : WR (cLc src vs g t e env st) PD := wr_bind (wr_imp k fun _ _ h => wr_hush h)
theorem w_mtl {f : D → List D → Sto → R D} {a : EM} {as : AM} (k : WR (a env st) fun x s => isLst x s = true ∧ WR (as env s) fun xs s => WR (f x xs s) PD) : WR (eMtL f a as env st) PD := wr_bind (wr_imp k fun x s ⟨h, h2⟩ => by rw [if_pos h]; exact wr_bind h2)
variable {PS : Src → Sto → Prop}
theorem w_iseq {a : EM} (k : WR (a env st) fun x s => WR (seqSrc x s) PS) : WR (iSeq a env st) PS := wr_bind k
theorem w_irng {a : EM} (k : WR (a env st) fun x s => WR (rngSrc x s) PS) : WR (iRng a env st) PS := wr_bind k
theorem w_ienum {a : EM} (k : WR (a env st) fun x s => WR (enumSrc x s) PS) : WR (iEnum a env st) PS := wr_bind k
theorem w_ibin {f : D → D → Sto → R Src} {a b : EM} (k : WR (a env st) fun x s => WR (b env s) fun y s => WR (f x y s) PS) : WR (iBin f a b env st) PS := wr_bind (wr_imp k fun _ _ h => wr_bind h)
theorem w_sseq {xs : List D} (k : PS (.fix xs) st) : WR (seqSrc (.tup xs) st) PS := k
theorem w_sdyn {n : Nat} {xs : List D} (h : st[n]? = some (.lst xs)) (k : PS (.dyn n) st) : WR (seqSrc (.ref n) st) PS := by unfold seqSrc lstOf; simp only [h]; exact k
theorem w_senum {xs : List D} (k : PS (.fix (enumFrom 0 xs)) st) : WR (enumSrc (.tup xs) st) PS := k
theorem w_szip {xs ys : List D} (k : PS (.fix (List.zipWith pairD xs ys)) st) : WR (zipSrc (.tup xs) (.tup ys) st) PS := k
theorem w_rng {i : Int} {n : Nat} (hi : i = (n : Int)) (hn : n ≤ most) (k : PS (.fix (rngL 0 n)) st) : WR (rngSrc (.int i) st) PS := by subst hi; rw [rng_src hn]; exact k
theorem w_skip (k : N env st) : WS (sSkip env st) N T C B := k
theorem w_seq {a b : SM} (k : WS (a env st) (fun e s => WS (b e s) N T C B) T C B) : WS (sSeq a b env st) N T C B := by
  unfold sSeq
  cases h : a env st with
  | nx e s => rw [h] at k; exact k
  | rt d s => rw [h] at k; exact k
  | ct e s => rw [h] at k; exact k
  | bk e s => rw [h] at k; exact k
  | err c fs e s => rw [h] at k; exact k.elim
  | fail => rw [h] at k; exact k.elim
theorem w_ret {a : EM} (k : WR (a env st) fun d s => T d s) : WS (sRet a env st) N T C B := ws_then k
theorem w_retN (k : T .non st) : WS ((fun _ st => RS.rt .non st) env st) N T C B := k
theorem w_ct (k : C env st) : WS ((fun env st => RS.ct env st) env st) N T C B := k
theorem w_sif {t : TM} {a b : SM} (k : WR (t env st) fun c s => Cond c (WS (a env s) N T C B) (WS (b env s) N T C B)) : WS (sIf t a b env st) N T C B := ws_then (wr_imp k fun c _ h => by cases c <;> exact h)
theorem w_set {i : Nat} {a : EM} (k : WR (a env st) fun d s => N (env.set i (some d)) s) : WS (sSet i a env st) N T C B := ws_then k
theorem w_expr {a : EM} (k : WR (a env st) fun _ s => N env s) : WS (sExpr a env st) N T C B := ws_then k
theorem w_asg {a : EM} {g : GM} (k : WR (a env st) fun d s => ∃ e1 s1, g d env s = some (e1, s1) ∧ N e1 s1) : WS (sAsg a g env st) N T C B := ws_then (wr_imp k fun d s ⟨e1, s1, h, k⟩ => by simp only [h]; exact k)
theorem w_asg2 {a : EM} {i j : Nat} (k : WR (a env st) fun d s => ∃ x y, d = .tup [x, y] ∧ N ((env.set i (some x)).set j (some y)) s) : WS (sAsg a (gT 2 (gsCons (gN i) (gsCons (gN j) gsNil))) env st) N T C B := w_asg (wr_imp k fun d s ⟨x, y, e, k⟩ => by subst e; exact ⟨_, _, rfl, k⟩)
theorem w_asg3 {a : EM} {i j l : Nat} (k : WR (a env st) fun d s => ∃ x y z, d = .tup [x, y, z] ∧ N (((env.set i (some x)).set j (some y)).set l (some z)) s) : WS (sAsg a (gT 3 (gsCons (gN i) (gsCons (gN j) (gsCons (gN l) gsNil)))) env st) N T C B := w_asg (wr_imp k fun d s ⟨x, y, z, e, k⟩ => by subst e; exact ⟨_, _, rfl, k⟩)
theorem w_asg4 {a : EM} {i j l o : Nat} (k : WR (a env st) fun d s => ∃ x y z u, d = .tup [x, y, z, u] ∧ N ((((env.set i (some x)).set j (some y)).set l (some z)).set o (some u)) s) : WS (sAsg a (gT 4 (gsCons (gN i) (gsCons (gN j) (gsCons (gN l) (gsCons (gN o) gsNil))))) env st) N T C B := w_asg (wr_imp k fun d s ⟨x, y, z, u, e, k⟩ => by subst e; exact ⟨_, _, rfl, k⟩)
theorem w_ex2 {x y : D} {A : D → D → Prop} (k : A x y) : ∃ x' y', D.tup [x, y] = .tup [x', y'] ∧ A x' y' := ⟨x, y, rfl, k⟩
theorem w_ex3 {x y z : D} {A : D → D → D → Prop} (k : A x y z) : ∃ x' y' z', D.tup [x, y, z] = .tup [x', y', z'] ∧ A x' y' z' := ⟨x, y, z, rfl, k⟩
theorem w_ex4 {x y z u : D} {A : D → D → D → D → Prop} (k : A x y z u) : ∃ x' y' z' u', D.tup [x, y, z, u] = .tup [x', y', z', u'] ∧ A x' y' z' u' := ⟨x, y, z, u, rfl, k⟩
theorem cond_keep {c : Bool} {A B : Prop} (k : B) (h : c = true → B → A) : Cond c A B := cond_by (fun e => h e k) fun _ => k
theorem w_par {i j : Nat} {a b : EM} (k : WR (a env st) fun x s => WR (b env s) fun y s => N ((env.set i (some x)).set j (some y)) s) : WS (sPar i j a b env st) N T C B := ws_then (wr_imp k fun _ _ h => ws_then h)
theorem w_par3 {i j l : Nat} {a b c : EM} (k : WR (a env st) fun x s => WR (b env s) fun y s => WR (c env s) fun z s => N (((env.set i (some x)).set j (some y)).set l (some z)) s) : WS (sPar3 i j l a b c env st) N T C B := ws_then (wr_imp k fun _ _ h => ws_then (wr_imp h fun _ _ h => ws_then h))
theorem w_for {src : IM} {g : GM} {b : SM} (k : WR (src env st) fun s st => WS (startFor g b env s st) N T C B) : WS (sFor src g b env st) N T C B := ws_then k
theorem w_nx (h : N env1 st1) {r : RS} (e : r = .nx env1 st1) : WS r N T C B := by rw [e]; exact h
theorem w_def {n slots : Nat} {b : SM} {ds : List D} (hl : ds.length = n) (k : WS (b (env0 n slots ds) st) (fun _ s => PD .non s) (fun d s => PD d s) (fun _ _ => False) (fun _ _ => False)) : WR (mkFn n slots b ds st) PD := by
  unfold mkFn
  rw [if_pos hl]
  revert k
  cases b (env0 n slots ds) st with
  | nx e s => exact id
  | rt d s => exact id
  | ct e s => exact False.elim
  | bk e s => exact False.elim
  | err c fs e s => exact False.elim
  | fail => exact False.elim
theorem ws_nx {r : RS} {P : Ev → Sto → Prop} (h : WS r P (fun _ _ => False) (fun _ _ => False) (fun _ _ => False)) : ∃ e s, r = .nx e s ∧ P e s := by
  cases r with
  | nx e s => exact ⟨e, s, rfl, h⟩
  | rt d s => exact h.elim
  | ct e s => exact h.elim
  | bk e s => exact h.elim
  | err c fs e s => exact h.elim
  | fail => exact h.elim
theorem ws_imp {r : RS} {N' C' B' : Ev → Sto → Prop} {T' : D → Sto → Prop} (h : WS r N T C B) (h1 : ∀ e s, N e s → N' e s) (h2 : ∀ e s, T e s → T' e s) (h3 : ∀ e s, C e s → C' e s) (h4 : ∀ e s, B e s → B' e s) : WS r N' T' C' B' := by
  cases r with
  | nx e s => exact h1 e s h
  | rt d s => exact h2 d s h
  | ct e s => exact h3 e s h
  | bk e s => exact h4 e s h
  | err c fs e s => exact h.elim
  | fail => exact h.elim
theorem runFor_W {s : Src} {g : GM} {body : SM} {xs : List D} (J : Nat → Ev → Sto → Prop) (hat : ∀ i env st, J i env st → s.at st = some xs)
    (h : ∀ i x env st, xs[i]? = some x → J i env st → ∃ env1 st1, g x env st = some (env1, st1) ∧ WS (body env1 st1) (J (i + 1)) T (J (i + 1)) N)
    (hN : ∀ env st, J xs.length env st → N env st) : ∀ (n i : Nat) (env : Ev) (st : Sto), xs.length = i + n → J i env st → WS (runFor s g body (n + 1) i env st) N T C B
  | 0, i, env, st, hn, hJ => by
    obtain rfl : i = xs.length := by omega
    unfold runFor
    rw [hat _ _ _ hJ]
    simp only
    rw [List.getElem?_eq_none (Nat.le_refl _)]
    exact hN _ _ hJ
  | n + 1, i, env, st, hn, hJ => by
    have hi : i < xs.length := by omega
    obtain ⟨env1, st1, h1, h2⟩ := h i xs[i] env st (List.getElem?_eq_getElem hi) hJ
    unfold runFor
    rw [hat _ _ _ hJ]
    simp only
    rw [List.getElem?_eq_getElem hi]
    simp only [h1]
    cases hb : body env1 st1 with
    | nx e s =>
      rw [hb] at h2
      exact runFor_W J hat h hN n (i + 1) e s (by omega) h2
    | ct e s =>
      rw [hb] at h2
      exact runFor_W J hat h hN n (i + 1) e s (by omega) h2
    | bk e s => rw [hb] at h2; exact h2
    | rt d s => rw [hb] at h2; exact h2
    | err c fs e s => rw [hb] at h2; exact h2.elim
    | fail => rw [hb] at h2; exact h2.elim
theorem w_loop {s : Src} {g : GM} {body : SM} {xs : List D} (J : Nat → Ev → Sto → Prop) (hat : ∀ i env st, J i env st → s.at st = some xs) (h0 : J 0 env st)
    (h : ∀ i x env st, xs[i]? = some x → J i env st → ∃ env1 st1, g x env st = some (env1, st1) ∧ WS (body env1 st1) (J (i + 1)) T (J (i + 1)) N)
    (hN : ∀ env st, J xs.length env st → N env st) : WS (startFor g body env s st) N T C B := by
  unfold startFor
  rw [hat 0 env st h0]
  exact runFor_W J hat h hN xs.length 0 env st (by omega) h0
theorem w_loopF {g : GM} {body : SM} {xs : List D} (J : Nat → Ev → Sto → Prop) (h0 : J 0 env st)
    (h : ∀ i x env st, xs[i]? = some x → J i env st → ∃ env1 st1, g x env st = some (env1, st1) ∧ WS (body env1 st1) (J (i + 1)) T (J (i + 1)) N)
    (hN : ∀ env st, J xs.length env st → N env st) : WS (startFor g body env (.fix xs) st) N T C B := w_loop J (fun _ _ _ _ => rfl) h0 h hN
theorem w_addI {i j : Int} (k : PD (.int (i + j)) st) : WR (dAdd (.int i) (.int j) st) PD := k
theorem w_subI {i j : Int} (k : PD (.int (i - j)) st) : WR (dSub (.int i) (.int j) st) PD := k
theorem w_ltI {i j : Int} (k : PD (.bl (decide (i < j))) st) : WR (dLt (.int i) (.int j) st) PD := k
theorem w_leI {i j : Int} (k : PD (.bl (decide (i ≤ j))) st) : WR (dLe (.int i) (.int j) st) PD := k
theorem w_gtI {i j : Int} (k : PD (.bl (decide (j < i))) st) : WR (dGt (.int i) (.int j) st) PD := k
theorem w_geI {i j : Int} (k : PD (.bl (decide (j ≤ i))) st) : WR (dGe (.int i) (.int j) st) PD := k
theorem w_eqI {i j : Int} (k : PD (.bl (i == j)) st) : WR (dEq false (.int i) (.int j) st) PD := wr_by eqI k
theorem w_neI {i j : Int} (k : PD (.bl (!(i == j))) st) : WR (dEq true (.int i) (.int j) st) PD := wr_by eqI k
theorem w_modI {i j : Int} (h : 0 < j) (k : PD (.int (i % j)) st) : WR (dMod (.int i) (.int j) st) PD := wr_by (modI h) k
theorem w_divI {i j : Int} (h : 0 < j) (h2 : j < 1000000000000000000000) (k : PD (.int (i / j)) st) : WR (dDiv (.int i) (.int j) st) PD := wr_by (divI h h2) k
theorem w_mulI {i j : Int} (h : (-(2 ^ 64) < i ∧ i < 2 ^ 64) ∨ (-(2 ^ 64) < j ∧ j < 2 ^ 64)) (k : PD (.int (i * j)) st) : WR (dMul (.int i) (.int j) st) PD := by unfold dMul; simp only; rw [if_pos h]; exact k
theorem w_negI {i : Int} (k : PD (.int (-i)) st) : WR (dNeg (.int i) st) PD := k
theorem w_maxI {i j : Int} (k : PD (.int (iMax i j)) st) : WR (fI2 iMax [.int i, .int j] st) PD := k
theorem w_minI {i j : Int} (k : PD (.int (iMin i j)) st) : WR (fI2 iMin [.int i, .int j] st) PD := k
theorem w_isN {x : D} {c : Bool} (h : dIsN false x .non st = .ok (.bl c) st) (k : PD (.bl c) st) : WR (dIsN false x .non st) PD := wr_by h k
theorem w_lenT {xs : List D} (k : PD (.int (xs.length : Int)) st) : WR (fLen [.tup xs] st) PD := k
theorem w_lenL {n : Nat} {xs : List D} (h : st[n]? = some (.lst xs)) (k : PD (.int (xs.length : Int)) st) : WR (fLen [.ref n] st) PD := by unfold fLen seqOf lstOf; simp only [h]; exact k
theorem w_ix {x d : D} {xs : List D} {i : Int} (h : seqOf st x = some xs) (h2 : L2.atI xs i = some d) (k : PD d st) : WR (dIx x (.int i) st) PD := wr_by (ixS h h2) k
theorem w_mkTup {ds : List D} (h : ds.length ≤ most) (k : PD (.tup ds) st) : WR (mkTup ds st) PD := by unfold mkTup; rw [if_pos h]; exact k
theorem w_mkLst {ds : List D} (h : ds.length ≤ most) (k : PD (.ref st.length) (st ++ [.lst ds])) : WR (mkLst ds st) PD := by unfold mkLst; rw [if_pos h]; exact k
theorem w_tupL {n : Nat} {xs : List D} (h : st[n]? = some (.lst xs)) (k : PD (.tup xs) st) : WR (fTup [.ref n] st) PD := by unfold fTup seqOf lstOf; simp only [h]; exact k
theorem w_slT {xs : List D} {lo hi : Option Int} (k : PD (.tup (cutD xs lo hi)) st) : WR (sliceD (.tup xs) lo hi st) PD := k
theorem w_append {n : Nat} {xs : List D} {d : D} (h : st[n]? = some (.lst xs)) (hl : xs.length < most) (k : PD .non (st.set n (.lst (xs ++ [d])))) : WR (mAppend (.ref n) [d] st) PD := by
  unfold mAppend
  simp only [h]
  rw [if_pos hl]
  exact k
theorem isLst_at {n : Nat} {xs : List D} (h : st[n]? = some (.lst xs)) : isLst (.ref n) st = true := by unfold isLst lstOf; simp only [h]; rfl
theorem seq_lst {n : Nat} {xs : List D} (h : st[n]? = some (.lst xs)) : seqOf st (.ref n) = some xs := lst_at h
theorem w_isi {Ty q : String} {d : D} (h : tyD st d = some q) (k : PD (.bl (isiT q Ty)) st) : WR (dIsi Ty d st) PD := by unfold dIsi; rw [h]; exact k
theorem w_isi2 {S Ty q : String} {d : D} (h : tyD st d = some q) (k : PD (.bl (isiT q S || isiT q Ty)) st) : WR (dIsi2 S Ty d st) PD := by unfold dIsi2; rw [h]; exact k
theorem w_eqB {a b : Bool} (k : PD (.bl (a == b)) st) : WR (dEq false (.bl a) (.bl b) st) PD := wr_by (show dEq false (.bl a) (.bl b) st = .ok (.bl (a == b)) st by cases a <;> cases b <;> rfl) k
theorem w_neB {a b : Bool} (k : PD (.bl (!(a == b))) st) : WR (dEq true (.bl a) (.bl b) st) PD := wr_by (show dEq true (.bl a) (.bl b) st = .ok (.bl (!(a == b))) st by cases a <;> cases b <;> rfl) k
theorem w_lcmap {s : Src} {g : GM} {e : EM} {xs : List D} {f : D → D} (h0 : s.at st = some xs) (hm : xs.length ≤ most)
    (h : ∀ x ∈ xs, ∀ acc, ∃ env1, g x env (st ++ [.lst acc]) = some (env1, st ++ [.lst acc]) ∧ e env1 (st ++ [.lst acc]) = .ok (f x) (st ++ [.lst acc])) (k : PD (.ref st.length) (st ++ [.lst (xs.map f)])) : WR (startLc g tTrue e env s st) PD := wr_by (startLc_map h0 hm h) k
theorem w_aa {F : List Bool → Bool} {bs : List Bool} {n : Nat} (h : st[n]? = some (.lst (bs.map D.bl))) (k : PD (.bl (F bs)) st) : WR (fAA F [.ref n] st) PD := by
  unfold fAA lstOf
  simp only [h, bools_map]
  exact k
theorem eqv_intsU : ∀ (xs : List D), PyData.eqvAll (xs.map fun x => PyData.int (wI x)) (xs.map fun x => PyData.int (wI x)) = true
  | [] => by simp [PyData.eqvAll]
  | x :: xs => by
    have := eqv_intsU xs
    simp [PyData.eqvAll, PyData.eqv, this]
theorem eqTI {xs : List D} {neg : Bool} (h : xs.all isI = true) : dEq neg (.tup xs) (.tup xs) st = .ok (.bl (!neg)) st := by
  unfold dEq
  rw [toS_ints h]
  cases neg <;> simp [PyData.eqv, eqv_intsU]
theorem eqNil {xs : List D} (h : xs.all isI = true) : dEq false (.tup xs) (.tup []) st = .ok (.bl xs.isEmpty) st := by
  unfold dEq
  rw [toS_ints h, toS_ints (xs := []) rfl]
  cases xs with
  | nil => simp [PyData.eqv, PyData.eqvAll]
  | cons y ys => simp [PyData.eqv, PyData.eqvAll]
end
structure Stg (B : Nat) (ps : List (Nat × Ob)) (T : Sto) (c : Int) : Prop where
  bag : Bag T B c
  pin : ∀ p ∈ ps, T[p.1]? = some p.2
  off : ∀ p ∈ ps, p.1 ≠ B
section
variable {B : Nat} {ps qs : List (Nat × Ob)} {T T' ex : Sto} {c c' : Int}
theorem Stg.at (H : Stg B ps T c) {i : Nat} {o : Ob} (h : (i, o) ∈ ps) : T[i]? = some o := H.pin (i, o) h
theorem Stg.grw (H : Stg B ps T c) (G : Grw T T' B) (b : Bag T' B c') : Stg B ps T' c' :=
  ⟨b, fun p hp => by have h := H.pin p hp; rw [G.at_ p.1 (List.getElem?_eq_some_iff.mp h).1 (H.off p hp)]; exact h, H.off⟩
theorem Stg.app (H : Stg B ps T c) : Stg B ps (T ++ ex) c := ⟨H.bag.app, fun p hp => get0 (H.pin p hp), H.off⟩
theorem Stg.mono (H : Stg B ps T c) (h : c ≤ c') : Stg B ps T c' := ⟨H.bag.mono h, H.pin, H.off⟩
theorem Stg.sub (H : Stg B ps T c) (h : ∀ p ∈ qs, p ∈ ps) : Stg B qs T c := ⟨H.bag, fun p hp => H.pin p (h p hp), fun p hp => H.off p (h p hp)⟩
theorem Stg.new (H : Stg B ps T c) (o : Ob) : Stg B ((T.length, o) :: ps) (T ++ [o]) c := by
  refine ⟨H.bag.app, fun p hp => ?_, fun p hp => ?_⟩
  · rcases List.mem_cons.mp hp with rfl | hp
    · exact get_end
    · exact get0 (H.pin p hp)
  · rcases List.mem_cons.mp hp with rfl | hp
    · exact Nat.ne_of_gt H.bag.lt
    · exact H.off p hp
theorem Stg.add (H : Stg B ps T c) {k : Nat} {o : Ob} (h : T[k]? = some o) (hB : k ≠ B) : Stg B ((k, o) :: ps) T c := by
  refine ⟨H.bag, fun p hp => ?_, fun p hp => ?_⟩
  · rcases List.mem_cons.mp hp with rfl | hp
    · exact h
    · exact H.pin p hp
  · rcases List.mem_cons.mp hp with rfl | hp
    · exact hB
    · exact H.off p hp
theorem Stg.tail {p : Nat × Ob} (H : Stg B (p :: ps) T c) : Stg B ps T c := H.sub fun q hq => List.mem_cons_of_mem _ hq
theorem Stg.set {k : Nat} {o o' : Ob} (H : Stg B ((k, o) :: ps) T c) (hk : ∀ p ∈ ps, p.1 ≠ k) : Stg B ((k, o') :: ps) (T.set k o') c := by
  have hkB : k ≠ B := H.off (k, o) List.mem_cons_self
  refine ⟨H.bag.set hkB, fun p hp => ?_, fun p hp => ?_⟩
  · rcases List.mem_cons.mp hp with rfl | hp
    · exact get_set (List.getElem?_eq_some_iff.mp (H.pin (k, o) List.mem_cons_self)).1
    · rw [List.getElem?_set_ne (fun e => hk p hp e.symm)]
      exact H.pin p (List.mem_cons_of_mem _ hp)
  · rcases List.mem_cons.mp hp with rfl | hp
    · exact hkB
    · exact H.off p (List.mem_cons_of_mem _ hp)
theorem Stg.lt (H : Stg B ps T c) {p : Nat × Ob} (hp : p ∈ ps) : p.1 < T.length := (List.getElem?_eq_some_iff.mp (H.pin p hp)).1
end
end U
set_option Elab.async false
set_option linter.all false
set_option maxRecDepth 100000
set_option maxHeartbeats 400000
namespace U
open PySem

section
variable {st : Sto}
theorem mapO_mono {α β : Type} {f g : α → Option β} : ∀ {xs : List α} {ys : List β}, (∀ x y, x ∈ xs → f x = some y → g x = some y) → mapO f xs = some ys → mapO g xs = some ys
  | [], ys, _, h => h
  | x :: xs, ys, hf, h => by
    unfold mapO at h ⊢
    cases e : f x with
    | none => rw [e] at h; cases h
    | some y =>
      rw [e] at h
      rw [hf x y List.mem_cons_self e]
      cases e2 : mapO f xs with
      | none => simp only [e2] at h; cases h
      | some zs =>
        simp only [e2] at h
        rw [mapO_mono (fun x y hx => hf x y (List.mem_cons_of_mem _ hx)) e2]
        exact h
theorem mapO_all {α β : Type} {f : α → Option β} {P : β → Prop} : ∀ {xs : List α} {ys : List β}, (∀ x y, x ∈ xs → f x = some y → P y) → mapO f xs = some ys → ∀ y ∈ ys, P y
  | [], ys, _, h => by unfold mapO at h; cases h; intro y hy; cases hy
  | x :: xs, ys, hf, h => by
    unfold mapO at h
    cases e : f x with
    | none => rw [e] at h; cases h
    | some y =>
      rw [e] at h
      cases e2 : mapO f xs with
      | none => simp only [e2] at h; cases h
      | some zs =>
        simp only [e2] at h
        cases h
        intro z hz
        rcases List.mem_cons.mp hz with rfl | hz
        · exact hf x z List.mem_cons_self e
        · exact mapO_all (fun x y hx => hf x y (List.mem_cons_of_mem _ hx)) e2 z hz
theorem toP_mono : ∀ (n : Nat) {d : D} {p : PyData}, toP n st d = some p → toP (n + 1) st d = some p := by
  intro n
  induction n with
  | zero =>
    intro d p h
    cases d <;> first | exact h | (simp only [toP] at h; cases h)
  | succ n ih =>
    intro d p h
    cases d with
    | tup xs =>
      simp only [toP] at h ⊢
      cases e : mapO (toP n st) xs with
      | none => rw [e] at h; cases h
      | some ys => rw [e] at h; rw [mapO_mono (fun x y _ => ih) e]; exact h
    | ref i =>
      simp only [toP] at h ⊢
      cases e0 : lstOf st i with
      | none => rw [e0] at h; cases h
      | some xs =>
        rw [e0] at h
        simp only at h ⊢
        cases e : mapO (toP n st) xs with
        | none => rw [e] at h; cases h
        | some ys => rw [e] at h; rw [mapO_mono (fun x y _ => ih) e]; exact h
    | non => exact h
    | bl b => exact h
    | int i => exact h
    | str x => exact h
theorem toP_le {n m : Nat} (h : n ≤ m) {d : D} {p : PyData} (e : toP n st d = some p) : toP m st d = some p := by
  induction h with
  | refl => exact e
  | step _ ih => exact toP_mono _ ih
theorem depthAll_le {n : Nat} : ∀ {ps : List PyData}, (∀ p ∈ ps, p.depth ≤ n) → PyData.depthAll ps ≤ n
  | [], _ => by simp [PyData.depthAll]
  | p :: ps, h => by
    have h1 := h p List.mem_cons_self
    have h2 := depthAll_le (ps := ps) fun q hq => h q (List.mem_cons_of_mem _ hq)
    simp only [PyData.depthAll]
    omega
theorem toP_depth : ∀ (n : Nat) {d : D} {p : PyData}, toP n st d = some p → p.depth ≤ n := by
  intro n
  induction n with
  | zero => intro d p h; cases d <;> simp only [toP] at h <;> cases h <;> simp [PyData.depth]
  | succ n ih =>
    intro d p h
    cases d with
    | tup xs =>
      simp only [toP] at h
      cases e : mapO (toP n st) xs with
      | none => rw [e] at h; cases h
      | some ys =>
        rw [e] at h; cases h
        have := depthAll_le (n := n) (mapO_all (fun x y _ => ih) e)
        simp only [PyData.depth]
        omega
    | ref i =>
      simp only [toP] at h
      cases e0 : lstOf st i with
      | none => rw [e0] at h; cases h
      | some xs =>
        rw [e0] at h
        simp only at h
        cases e : mapO (toP n st) xs with
        | none => rw [e] at h; cases h
        | some ys =>
          rw [e] at h; cases h
          have := depthAll_le (n := n) (mapO_all (fun x y _ => ih) e)
          simp only [PyData.depth]
          omega
    | non => simp only [toP] at h; cases h; simp [PyData.depth]
    | bl b => simp only [toP] at h; cases h; simp [PyData.depth]
    | int i => simp only [toP] at h; cases h; simp [PyData.depth]
    | str x => simp only [toP] at h; cases h; simp [PyData.depth]
theorem eqvAll_refl : ∀ {ps : List PyData}, (∀ p ∈ ps, PyData.eqv p p = true) → PyData.eqvAll ps ps = true
  | [], _ => by simp [PyData.eqvAll]
  | p :: ps, h => by simp [PyData.eqvAll, h p List.mem_cons_self, eqvAll_refl fun q hq => h q (List.mem_cons_of_mem _ hq)]
theorem toP_refl : ∀ (n : Nat) {d : D} {p : PyData}, toP n st d = some p → PyData.eqv p p = true := by
  intro n
  induction n with
  | zero => intro d p h; cases d <;> simp only [toP] at h <;> cases h <;> simp [PyData.eqv]
  | succ n ih =>
    intro d p h
    cases d with
    | tup xs =>
      simp only [toP] at h
      cases e : mapO (toP n st) xs with
      | none => rw [e] at h; cases h
      | some ys =>
        rw [e] at h; cases h
        simp only [PyData.eqv]
        exact eqvAll_refl (mapO_all (fun x y _ => ih) e)
    | ref i =>
      simp only [toP] at h
      cases e0 : lstOf st i with
      | none => rw [e0] at h; cases h
      | some xs =>
        rw [e0] at h
        simp only at h
        cases e : mapO (toP n st) xs with
        | none => rw [e] at h; cases h
        | some ys =>
          rw [e] at h; cases h
          simp only [PyData.eqv]
          exact eqvAll_refl (mapO_all (fun x y _ => ih) e)
    | non => simp only [toP] at h; cases h; simp [PyData.eqv]
    | bl b => simp only [toP] at h; cases h; simp [PyData.eqv]
    | int i => simp only [toP] at h; cases h; simp [PyData.eqv]
    | str x => simp only [toP] at h; cases h; simp [PyData.eqv]
theorem toS_of {n : Nat} {d : D} {p : PyData} (h : toP n st d = some p) (hn : n ≤ 60) (hc : p.canLay0 = true) : toS st d = some p := by
  unfold toS
  rw [toP_le hn h]
  simp only
  rw [if_pos]
  unfold SeqAt.shaped
  rw [hc, Bool.true_and]
  exact decide_eq_true (Nat.le_trans (toP_depth n h) (by omega))
theorem eq_val {n : Nat} {neg : Bool} {x y : D} {p q : PyData} (hx : toP n st x = some p) (hy : toP n st y = some q) (hn : n ≤ 60) (hp : p.canLay0 = true) (hq : q.canLay0 = true) : dEq neg x y st = .ok (.bl (if neg = true then !PyData.eqv p q else PyData.eqv p q)) st := by
  unfold dEq
  rw [toS_of hx hn hp, toS_of hy hn hq]
theorem eq_same {n : Nat} {neg : Bool} {x y : D} {p : PyData} (hx : toP n st x = some p) (hy : toP n st y = some p) (hn : n ≤ 60) (hp : p.canLay0 = true) : dEq neg x y st = .ok (.bl (!neg)) st := by
  rw [eq_val hx hy hn hp hp, toP_refl n hx]
  cases neg <;> rfl
theorem mapO_intsN {n : Nat} : ∀ (ns : List Int), mapO (toP n st) (ns.map D.int) = some (ns.map PyData.int)
  | [] => rfl
  | i :: ns => by
    have := mapO_intsN (n := n) ns
    simp only [List.map_cons, mapO, this]
    cases n <;> simp only [toP]
theorem lay_ints : ∀ (ns : List Int), PyData.canLayAll0 (ns.map PyData.int) = true
  | [] => by simp [PyData.canLayAll0]
  | i :: ns => by simp [PyData.canLayAll0, PyData.canLay0, lay_ints ns]
theorem eqv_intsB : ∀ (ns ms : List Int), PyData.eqvAll (ns.map PyData.int) (ms.map PyData.int) = decide (ns = ms)
  | [], [] => by simp [PyData.eqvAll]
  | [], _ :: _ => by simp [PyData.eqvAll]
  | _ :: _, [] => by simp [PyData.eqvAll]
  | i :: ns, j :: ms => by
    simp only [List.map_cons, PyData.eqvAll, eqv_intsB ns ms, PyData.eqv]
    by_cases h : i = j
    · subst h; simp
    · simp [h]
theorem toP_intL {i : Nat} {ns : List Int} (h : st[i]? = some (.lst (ns.map D.int))) : toP 1 st (.ref i) = some (.list (ns.map PyData.int)) := by
  simp only [toP, lstOf, h, mapO_intsN, Option.map_some]
theorem eq_intL {i j : Nat} {ns ms : List Int} {neg : Bool} (h : st[i]? = some (.lst (ns.map D.int))) (h2 : st[j]? = some (.lst (ms.map D.int))) : dEq neg (.ref i) (.ref j) st = .ok (.bl (if neg = true then !decide (ns = ms) else decide (ns = ms))) st := by
  rw [eq_val (toP_intL h) (toP_intL h2) (by decide) (by simp [PyData.canLay0, lay_ints]) (by simp [PyData.canLay0, lay_ints])]
  simp only [PyData.eqv, eqv_intsB]
variable {PD : D → Sto → Prop} {PS : Src → Sto → Prop} {env : Ev} {N C B : Ev → Sto → Prop} {T : D → Sto → Prop}
theorem w_isl {n : Nat} {xs : List D} {K : Prop} (h : st[n]? = some (.lst xs)) (k : K) : isLst (.ref n) st = true ∧ K := ⟨isLst_at h, k⟩
theorem w_slL {n : Nat} {xs : List D} {lo hi : Option Int} (h : st[n]? = some (.lst xs)) (k : PD (.ref st.length) (st ++ [.lst (cutD xs lo hi)])) : WR (sliceD (.ref n) lo hi st) PD := by
  unfold sliceD lstOf
  simp only [h]
  exact k
theorem w_enumL {n : Nat} {xs : List D} (h : st[n]? = some (.lst xs)) (k : PS (.enumL n) st) : WR (enumSrc (.ref n) st) PS := by
  unfold enumSrc lstOf
  simp only [h]
  exact k
theorem w_lcpure {s : Src} {g : GM} {t : TM} {e : EM} {xs : List D} {p : D → Bool} {f : D → D} (h0 : s.at st = some xs) (hm : xs.length ≤ most)
    (h : ∀ x ∈ xs, ∀ acc, ∃ env1, g x env (st ++ [.lst acc]) = some (env1, st ++ [.lst acc]) ∧ t env1 (st ++ [.lst acc]) = .ok (p x) (st ++ [.lst acc]) ∧ (p x = true → e env1 (st ++ [.lst acc]) = .ok (f x) (st ++ [.lst acc])))
    (k : PD (.ref st.length) (st ++ [.lst ((xs.filter p).map f)])) : WR (startLc g t e env s st) PD := wr_by (startLc_pure h0 hm h) k
theorem w_addL {i j : Nat} {xs ys : List D} (h1 : st[i]? = some (.lst xs)) (h2 : st[j]? = some (.lst ys)) (hl : (xs ++ ys).length ≤ most) (k : PD (.ref st.length) (st ++ [.lst (xs ++ ys)])) : WR (dAdd (.ref i) (.ref j) st) PD := wr_by (addL h1 h2 hl) k
end
end U
set_option Elab.async false
set_option linter.all false
set_option maxRecDepth 100000
set_option maxHeartbeats 0
namespace Hd
open PySem PySem.Spec PyProof.Rows L2
def top (i : Nat) : Stmt := PySem.Challenge.pw_hushrules_k16_whole_hushes_counted.main.body.getD i (.Pass ⟨0, 0, 0, 0⟩)
def topM (i j : Nat) : Stmt := inClass (top i) j
def d_is_whole : He.DefD := ⟨("is_whole", none), "is_whole", "is_whole", defArgs (top 14), defBody (top 14), defScope (top 14), [], []⟩
def d_is_within : He.DefD := ⟨("is_within", none), "is_within", "is_within", defArgs (top 15), defBody (top 15), defScope (top 15), [], []⟩
def d_is_below : He.DefD := ⟨("is_below", none), "is_below", "is_below", defArgs (top 16), defBody (top 16), defScope (top 16), [], []⟩
def d_is_rising : He.DefD := ⟨("is_rising", none), "is_rising", "is_rising", defArgs (top 17), defBody (top 17), defScope (top 17), [], []⟩
def d_is_wheels : He.DefD := ⟨("is_wheels", none), "is_wheels", "is_wheels", defArgs (top 18), defBody (top 18), defScope (top 18), [], []⟩
def d_is_values : He.DefD := ⟨("is_values", none), "is_values", "is_values", defArgs (top 19), defBody (top 19), defScope (top 19), [], []⟩
def d_is_left : He.DefD := ⟨("is_left", none), "is_left", "is_left", defArgs (top 20), defBody (top 20), defScope (top 20), [], []⟩
def d_is_state_of : He.DefD := ⟨("is_state_of", none), "is_state_of", "is_state_of", defArgs (top 21), defBody (top 21), defScope (top 21), [], []⟩
def d_is_beats : He.DefD := ⟨("is_beats", none), "is_beats", "is_beats", defArgs (top 22), defBody (top 22), defScope (top 22), [], []⟩
def d_want_state : He.DefD := ⟨("want_state", none), "want_state", "want_state", defArgs (top 23), defBody (top 23), defScope (top 23), [], []⟩
def d_want_rule : He.DefD := ⟨("want_rule", none), "want_rule", "want_rule", defArgs (top 24), defBody (top 24), defScope (top 24), [], []⟩
def d_want_off : He.DefD := ⟨("want_off", none), "want_off", "want_off", defArgs (top 25), defBody (top 25), defScope (top 25), [], []⟩
def d_want_beats : He.DefD := ⟨("want_beats", none), "want_beats", "want_beats", defArgs (top 26), defBody (top 26), defScope (top 26), [], []⟩
def d_Book_init : He.DefD := ⟨("Book", some "__init__"), "__init__", "Book.__init__", defArgs (topM 35 0), defBody (topM 35 0), defScope (topM 35 0), [.adr (He.dflAt ("Book", some "__init__") 0)], []⟩
def d_is_row : He.DefD := ⟨("is_row", none), "is_row", "is_row", defArgs (top 36), defBody (top 36), defScope (top 36), [], []⟩
def d_is_rule : He.DefD := ⟨("is_rule", none), "is_rule", "is_rule", defArgs (top 37), defBody (top 37), defScope (top 37), [], []⟩
def d_is_condition : He.DefD := ⟨("is_condition", none), "is_condition", "is_condition", defArgs (top 38), defBody (top 38), defScope (top 38), [], []⟩
def d_is_moment : He.DefD := ⟨("is_moment", none), "is_moment", "is_moment", defArgs (top 39), defBody (top 39), defScope (top 39), [], []⟩
def d_is_change : He.DefD := ⟨("is_change", none), "is_change", "is_change", defArgs (top 40), defBody (top 40), defScope (top 40), [], []⟩
def d_is_spot : He.DefD := ⟨("is_spot", none), "is_spot", "is_spot", defArgs (top 41), defBody (top 41), defScope (top 41), [], []⟩
def d_is_hushes : He.DefD := ⟨("is_hushes", none), "is_hushes", "is_hushes", defArgs (top 42), defBody (top 42), defScope (top 42), [], []⟩
def d_is_hush : He.DefD := ⟨("is_hush", none), "is_hush", "is_hush", defArgs (top 43), defBody (top 43), defScope (top 43), [], []⟩
def d_is_wakes : He.DefD := ⟨("is_wakes", none), "is_wakes", "is_wakes", defArgs (top 44), defBody (top 44), defScope (top 44), [], []⟩
def d_begun : He.DefD := ⟨("begun", none), "begun", "begun", defArgs (top 48), defBody (top 48), defScope (top 48), [], []⟩
def d_own_order : He.DefD := ⟨("own_order", none), "own_order", "own_order", defArgs (top 50), defBody (top 50), defScope (top 50), [], []⟩
def d_step : He.DefD := ⟨("step", none), "step", "step", defArgs (top 51), defBody (top 51), defScope (top 51), [], []⟩
def d_ended : He.DefD := ⟨("ended", none), "ended", "ended", defArgs (top 52), defBody (top 52), defScope (top 52), [], []⟩
def d_is_ready : He.DefD := ⟨("is_ready", none), "is_ready", "is_ready", defArgs (top 53), defBody (top 53), defScope (top 53), [], []⟩
def d_is_so : He.DefD := ⟨("is_so", none), "is_so", "is_so", defArgs (top 54), defBody (top 54), defScope (top 54), [], []⟩
def d_carry_out : He.DefD := ⟨("carry_out", none), "carry_out", "carry_out", defArgs (top 55), defBody (top 55), defScope (top 55), [], []⟩
def d_state_at : He.DefD := ⟨("state_at", none), "state_at", "state_at", defArgs (top 57), defBody (top 57), defScope (top 57), [], [("off", .adr (U.kwAt ("state_at", none) "off"))]⟩
def d_round_of : He.DefD := ⟨("round_of", none), "round_of", "round_of", defArgs (top 58), defBody (top 58), defScope (top 58), [], [("off", .adr (U.kwAt ("round_of", none) "off"))]⟩
def d_quiet_from : He.DefD := ⟨("quiet_from", none), "quiet_from", "quiet_from", defArgs (top 59), defBody (top 59), defScope (top 59), [], [("off", .adr (U.kwAt ("quiet_from", none) "off"))]⟩
def d_times : He.DefD := ⟨("times", none), "times", "times", defArgs (top 60), defBody (top 60), defScope (top 60), [], [("off", .adr (U.kwAt ("times", none) "off"))]⟩
def d_trail : He.DefD := ⟨("trail", none), "trail", "trail", defArgs (top 61), defBody (top 61), defScope (top 61), [], []⟩
def d_ways_from : He.DefD := ⟨("ways_from", none), "ways_from", "ways_from", defArgs (top 62), defBody (top 62), defScope (top 62), [], []⟩
def d_trail_along : He.DefD := ⟨("trail_along", none), "trail_along", "trail_along", defArgs (top 63), defBody (top 63), defScope (top 63), [], []⟩
def d_number_at : He.DefD := ⟨("number_at", none), "number_at", "number_at", defArgs (top 64), defBody (top 64), defScope (top 64), [], []⟩
def d_doings : He.DefD := ⟨("doings", none), "doings", "doings", defArgs (top 65), defBody (top 65), defScope (top 65), [], []⟩
def d_count_below : He.DefD := ⟨("count_below", none), "count_below", "count_below", defArgs (top 66), defBody (top 66), defScope (top 66), [], []⟩
def d__law_bag : He.DefD := ⟨("_law_bag", none), "_law_bag", "_law_bag", defArgs (top 68), defBody (top 68), defScope (top 68), [], []⟩
def d__law_take : He.DefD := ⟨("_law_take", none), "_law_take", "_law_take", defArgs (top 69), defBody (top 69), defScope (top 69), [], []⟩
def d__law_place : He.DefD := ⟨("_law_place", none), "_law_place", "_law_place", defArgs (top 70), defBody (top 70), defScope (top 70), [], []⟩
def d__law_ten : He.DefD := ⟨("_law_ten", none), "_law_ten", "_law_ten", defArgs (top 71), defBody (top 71), defScope (top 71), [], []⟩
def d__law_still : He.DefD := ⟨("_law_still", none), "_law_still", "_law_still", defArgs (top 72), defBody (top 72), defScope (top 72), [], []⟩
def d_law : He.DefD := ⟨("law", none), "law", "law", defArgs (top 73), defBody (top 73), defScope (top 73), [], []⟩
def fn0 : List He.DefD := [d_is_whole, d_is_within, d_is_below, d_is_rising, d_is_wheels, d_is_values, d_is_left, d_is_state_of, d_is_beats, d_want_state, d_want_rule, d_want_off, d_want_beats, d_Book_init, d_is_row, d_is_rule, d_is_condition, d_is_moment, d_is_change, d_is_spot, d_is_hushes, d_is_hush, d_is_wakes, d_begun, d_own_order, d_step, d_ended, d_is_ready, d_is_so, d_carry_out]
def fn1 : List He.DefD := [d_state_at, d_round_of, d_quiet_from, d_times, d_trail, d_ways_from, d_trail_along, d_number_at, d_doings, d_count_below, d__law_bag, d__law_take, d__law_place, d__law_ten, d__law_still, d_law]
def fn : List He.DefD := fn0 ++ fn1
def fa0 : List He.Fa := [.glo "HushError", .glo "NoBook", .glo "NoState", .glo "NoOff", .glo "NoRule", .glo "NoBeat", .int "MOST_WHEELS" 3, .int "LEAST_PLACES" 2, .int "MOST_PLACES" 4, .int "MOST_VALUES" 24, .int "LONGEST_LEFT" 2, .int "GREATEST_BEAT" 999999999999999999999999999999999999999999999999999999999999, .glo "is_whole", .glo "is_within", .glo "is_below", .glo "is_rising", .glo "is_wheels", .glo "is_values", .glo "is_left", .glo "is_state_of", .glo "is_beats", .glo "want_state", .glo "want_rule", .glo "want_off", .glo "want_beats", .int "MOST_RULES" 5, .int "MOST_CONDITIONS" 4, .int "MOST_CHANGES" 3, .int "MOST_HUSHES" 5, .int "MOST_WAKES" 5]
def fa1 : List He.Fa := [.int "LEAST_HUSH" 1, .int "LONGEST_HUSH" 3, .glo "Book", .glo "is_row", .glo "is_rule", .glo "is_condition", .glo "is_moment", .glo "is_change", .glo "is_spot", .glo "is_hushes", .glo "is_hush", .glo "is_wakes", .glo "book_lines", .glo "rule_line", .glo "spaced", .glo "begun", .glo "own_order", .glo "step", .glo "ended", .glo "is_ready", .glo "is_so", .glo "carry_out", .glo "state_at", .glo "round_of", .glo "quiet_from", .glo "times", .glo "trail", .glo "ways_from", .glo "trail_along", .glo "number_at"]
def fa2 : List He.Fa := [.glo "doings", .glo "count_below", .glo "_law_bag", .glo "_law_take", .glo "_law_place", .glo "_law_ten", .glo "_law_still", .glo "law", .free "LookupError", .free "OverflowError", .free "ValueError", .free "abs", .free "all", .free "any", .free "bool", .free "divmod", .free "enumerate", .free "int", .free "isinstance", .free "len", .free "list", .free "max", .free "min", .free "range", .free "sorted", .free "str", .free "tuple", .free "zip", .cls "Book", .noat "Book" "wheels"]
def fa3 : List He.Fa := [.noat "Book" "rules", .mkr "Book"]
def fa : List He.Fa := fa0 ++ fa1 ++ fa2 ++ fa3
def loose0 : List PySem.Str := ["HushError", "NoBook", "NoState", "NoOff", "NoRule", "NoBeat", "MOST_WHEELS", "LEAST_PLACES", "MOST_PLACES", "MOST_VALUES", "LONGEST_LEFT", "GREATEST_BEAT", "is_whole", "is_within", "is_below", "is_rising", "is_wheels", "is_values", "is_left", "is_state_of", "is_beats", "want_state", "want_rule", "want_off", "want_beats", "MOST_RULES", "MOST_CONDITIONS", "MOST_CHANGES", "MOST_HUSHES", "MOST_WAKES"]
def loose1 : List PySem.Str := ["LEAST_HUSH", "LONGEST_HUSH", "Book", "is_row", "is_rule", "is_condition", "is_moment", "is_change", "is_spot", "is_hushes", "is_hush", "is_wakes", "book_lines", "rule_line", "spaced", "begun", "own_order", "step", "ended", "is_ready", "is_so", "carry_out", "state_at", "round_of", "quiet_from", "times", "trail", "ways_from", "trail_along", "number_at"]
def loose2 : List PySem.Str := ["doings", "count_below", "_law_bag", "_law_take", "_law_place", "_law_ten", "_law_still"]
def loose : List PySem.Str := loose0 ++ loose1 ++ loose2
structure Txt (K : PySem.W.Frag) (mg : Str → Option Value) : Prop where
  g_HushError : mg "HushError" = some (.ref (He.ga K "HushError"))
  g_NoBook : mg "NoBook" = some (.ref (He.ga K "NoBook"))
  g_NoState : mg "NoState" = some (.ref (He.ga K "NoState"))
  g_NoOff : mg "NoOff" = some (.ref (He.ga K "NoOff"))
  g_NoRule : mg "NoRule" = some (.ref (He.ga K "NoRule"))
  g_NoBeat : mg "NoBeat" = some (.ref (He.ga K "NoBeat"))
  i_MOST_WHEELS : ∃ t, mg "MOST_WHEELS" = some (.int 3 t)
  i_LEAST_PLACES : ∃ t, mg "LEAST_PLACES" = some (.int 2 t)
  i_MOST_PLACES : ∃ t, mg "MOST_PLACES" = some (.int 4 t)
  i_MOST_VALUES : ∃ t, mg "MOST_VALUES" = some (.int 24 t)
  i_LONGEST_LEFT : ∃ t, mg "LONGEST_LEFT" = some (.int 2 t)
  i_GREATEST_BEAT : ∃ t, mg "GREATEST_BEAT" = some (.int 999999999999999999999999999999999999999999999999999999999999 t)
  g_is_whole : mg "is_whole" = some (.ref (He.ga K "is_whole"))
  g_is_within : mg "is_within" = some (.ref (He.ga K "is_within"))
  g_is_below : mg "is_below" = some (.ref (He.ga K "is_below"))
  g_is_rising : mg "is_rising" = some (.ref (He.ga K "is_rising"))
  g_is_wheels : mg "is_wheels" = some (.ref (He.ga K "is_wheels"))
  g_is_values : mg "is_values" = some (.ref (He.ga K "is_values"))
  g_is_left : mg "is_left" = some (.ref (He.ga K "is_left"))
  g_is_state_of : mg "is_state_of" = some (.ref (He.ga K "is_state_of"))
  g_is_beats : mg "is_beats" = some (.ref (He.ga K "is_beats"))
  g_want_state : mg "want_state" = some (.ref (He.ga K "want_state"))
  g_want_rule : mg "want_rule" = some (.ref (He.ga K "want_rule"))
  g_want_off : mg "want_off" = some (.ref (He.ga K "want_off"))
  g_want_beats : mg "want_beats" = some (.ref (He.ga K "want_beats"))
  i_MOST_RULES : ∃ t, mg "MOST_RULES" = some (.int 5 t)
  i_MOST_CONDITIONS : ∃ t, mg "MOST_CONDITIONS" = some (.int 4 t)
  i_MOST_CHANGES : ∃ t, mg "MOST_CHANGES" = some (.int 3 t)
  i_MOST_HUSHES : ∃ t, mg "MOST_HUSHES" = some (.int 5 t)
  i_MOST_WAKES : ∃ t, mg "MOST_WAKES" = some (.int 5 t)
  i_LEAST_HUSH : ∃ t, mg "LEAST_HUSH" = some (.int 1 t)
  i_LONGEST_HUSH : ∃ t, mg "LONGEST_HUSH" = some (.int 3 t)
  g_Book : mg "Book" = some (.ref (He.ga K "Book"))
  g_is_row : mg "is_row" = some (.ref (He.ga K "is_row"))
  g_is_rule : mg "is_rule" = some (.ref (He.ga K "is_rule"))
  g_is_condition : mg "is_condition" = some (.ref (He.ga K "is_condition"))
  g_is_moment : mg "is_moment" = some (.ref (He.ga K "is_moment"))
  g_is_change : mg "is_change" = some (.ref (He.ga K "is_change"))
  g_is_spot : mg "is_spot" = some (.ref (He.ga K "is_spot"))
  g_is_hushes : mg "is_hushes" = some (.ref (He.ga K "is_hushes"))
  g_is_hush : mg "is_hush" = some (.ref (He.ga K "is_hush"))
  g_is_wakes : mg "is_wakes" = some (.ref (He.ga K "is_wakes"))
  g_book_lines : mg "book_lines" = some (.ref (He.ga K "book_lines"))
  g_rule_line : mg "rule_line" = some (.ref (He.ga K "rule_line"))
  g_spaced : mg "spaced" = some (.ref (He.ga K "spaced"))
  g_begun : mg "begun" = some (.ref (He.ga K "begun"))
  g_own_order : mg "own_order" = some (.ref (He.ga K "own_order"))
  g_step : mg "step" = some (.ref (He.ga K "step"))
  g_ended : mg "ended" = some (.ref (He.ga K "ended"))
  g_is_ready : mg "is_ready" = some (.ref (He.ga K "is_ready"))
  g_is_so : mg "is_so" = some (.ref (He.ga K "is_so"))
  g_carry_out : mg "carry_out" = some (.ref (He.ga K "carry_out"))
  g_state_at : mg "state_at" = some (.ref (He.ga K "state_at"))
  g_round_of : mg "round_of" = some (.ref (He.ga K "round_of"))
  g_quiet_from : mg "quiet_from" = some (.ref (He.ga K "quiet_from"))
  g_times : mg "times" = some (.ref (He.ga K "times"))
  g_trail : mg "trail" = some (.ref (He.ga K "trail"))
  g_ways_from : mg "ways_from" = some (.ref (He.ga K "ways_from"))
  g_trail_along : mg "trail_along" = some (.ref (He.ga K "trail_along"))
  g_number_at : mg "number_at" = some (.ref (He.ga K "number_at"))
  g_doings : mg "doings" = some (.ref (He.ga K "doings"))
  g_count_below : mg "count_below" = some (.ref (He.ga K "count_below"))
  g__law_bag : mg "_law_bag" = some (.ref (He.ga K "_law_bag"))
  g__law_take : mg "_law_take" = some (.ref (He.ga K "_law_take"))
  g__law_place : mg "_law_place" = some (.ref (He.ga K "_law_place"))
  g__law_ten : mg "_law_ten" = some (.ref (He.ga K "_law_ten"))
  g__law_still : mg "_law_still" = some (.ref (He.ga K "_law_still"))
  g_law : mg "law" = some (.ref (He.ga K "law"))
  b_LookupError : mg "LookupError" = none
  b_OverflowError : mg "OverflowError" = none
  b_ValueError : mg "ValueError" = none
  b_abs : mg "abs" = none
  b_all : mg "all" = none
  b_any : mg "any" = none
  b_bool : mg "bool" = none
  b_divmod : mg "divmod" = none
  b_enumerate : mg "enumerate" = none
  b_int : mg "int" = none
  b_isinstance : mg "isinstance" = none
  b_len : mg "len" = none
  b_list : mg "list" = none
  b_max : mg "max" = none
  b_min : mg "min" = none
  b_range : mg "range" = none
  b_sorted : mg "sorted" = none
  b_str : mg "str" = none
  b_tuple : mg "tuple" = none
  b_zip : mg "zip" = none
  c_Book : Cls K (He.ga K "Book")
  n_Book_wheels : NoAttr K (He.ga K "Book") "wheels"
  n_Book_rules : NoAttr K (He.ga K "Book") "rules"
  k_Book : Mk K (He.ga K "Book") (He.ma K (He.ga K "Book") "__init__")
  x_Book_init_rules : U.etupB (He.dflAt ("Book", some "__init__") 0) K = true
  x_state_at_off : U.etupB (U.kwAt ("state_at", none) "off") K = true
  x_round_of_off : U.etupB (U.kwAt ("round_of", none) "off") K = true
  x_quiet_from_off : U.etupB (U.kwAt ("quiet_from", none) "off") K = true
  x_times_off : U.etupB (U.kwAt ("times", none) "off") K = true
  f_is_whole : ∃ fd, FunD K "is_whole" "is_whole" (defArgs (top 14)) (defBody (top 14)) (defScope (top 14)) (d_is_whole.dvs K) (d_is_whole.kws K) (He.fAd K ("is_whole", none)) fd
  f_is_within : ∃ fd, FunD K "is_within" "is_within" (defArgs (top 15)) (defBody (top 15)) (defScope (top 15)) (d_is_within.dvs K) (d_is_within.kws K) (He.fAd K ("is_within", none)) fd
  f_is_below : ∃ fd, FunD K "is_below" "is_below" (defArgs (top 16)) (defBody (top 16)) (defScope (top 16)) (d_is_below.dvs K) (d_is_below.kws K) (He.fAd K ("is_below", none)) fd
  f_is_rising : ∃ fd, FunD K "is_rising" "is_rising" (defArgs (top 17)) (defBody (top 17)) (defScope (top 17)) (d_is_rising.dvs K) (d_is_rising.kws K) (He.fAd K ("is_rising", none)) fd
  f_is_wheels : ∃ fd, FunD K "is_wheels" "is_wheels" (defArgs (top 18)) (defBody (top 18)) (defScope (top 18)) (d_is_wheels.dvs K) (d_is_wheels.kws K) (He.fAd K ("is_wheels", none)) fd
  f_is_values : ∃ fd, FunD K "is_values" "is_values" (defArgs (top 19)) (defBody (top 19)) (defScope (top 19)) (d_is_values.dvs K) (d_is_values.kws K) (He.fAd K ("is_values", none)) fd
  f_is_left : ∃ fd, FunD K "is_left" "is_left" (defArgs (top 20)) (defBody (top 20)) (defScope (top 20)) (d_is_left.dvs K) (d_is_left.kws K) (He.fAd K ("is_left", none)) fd
  f_is_state_of : ∃ fd, FunD K "is_state_of" "is_state_of" (defArgs (top 21)) (defBody (top 21)) (defScope (top 21)) (d_is_state_of.dvs K) (d_is_state_of.kws K) (He.fAd K ("is_state_of", none)) fd
  f_is_beats : ∃ fd, FunD K "is_beats" "is_beats" (defArgs (top 22)) (defBody (top 22)) (defScope (top 22)) (d_is_beats.dvs K) (d_is_beats.kws K) (He.fAd K ("is_beats", none)) fd
  f_want_state : ∃ fd, FunD K "want_state" "want_state" (defArgs (top 23)) (defBody (top 23)) (defScope (top 23)) (d_want_state.dvs K) (d_want_state.kws K) (He.fAd K ("want_state", none)) fd
  f_want_rule : ∃ fd, FunD K "want_rule" "want_rule" (defArgs (top 24)) (defBody (top 24)) (defScope (top 24)) (d_want_rule.dvs K) (d_want_rule.kws K) (He.fAd K ("want_rule", none)) fd
  f_want_off : ∃ fd, FunD K "want_off" "want_off" (defArgs (top 25)) (defBody (top 25)) (defScope (top 25)) (d_want_off.dvs K) (d_want_off.kws K) (He.fAd K ("want_off", none)) fd
  f_want_beats : ∃ fd, FunD K "want_beats" "want_beats" (defArgs (top 26)) (defBody (top 26)) (defScope (top 26)) (d_want_beats.dvs K) (d_want_beats.kws K) (He.fAd K ("want_beats", none)) fd
  f_Book_init : ∃ fd, FunD K "__init__" "Book.__init__" (defArgs (topM 35 0)) (defBody (topM 35 0)) (defScope (topM 35 0)) (d_Book_init.dvs K) (d_Book_init.kws K) (He.fAd K ("Book", some "__init__")) fd
  f_is_row : ∃ fd, FunD K "is_row" "is_row" (defArgs (top 36)) (defBody (top 36)) (defScope (top 36)) (d_is_row.dvs K) (d_is_row.kws K) (He.fAd K ("is_row", none)) fd
  f_is_rule : ∃ fd, FunD K "is_rule" "is_rule" (defArgs (top 37)) (defBody (top 37)) (defScope (top 37)) (d_is_rule.dvs K) (d_is_rule.kws K) (He.fAd K ("is_rule", none)) fd
  f_is_condition : ∃ fd, FunD K "is_condition" "is_condition" (defArgs (top 38)) (defBody (top 38)) (defScope (top 38)) (d_is_condition.dvs K) (d_is_condition.kws K) (He.fAd K ("is_condition", none)) fd
  f_is_moment : ∃ fd, FunD K "is_moment" "is_moment" (defArgs (top 39)) (defBody (top 39)) (defScope (top 39)) (d_is_moment.dvs K) (d_is_moment.kws K) (He.fAd K ("is_moment", none)) fd
  f_is_change : ∃ fd, FunD K "is_change" "is_change" (defArgs (top 40)) (defBody (top 40)) (defScope (top 40)) (d_is_change.dvs K) (d_is_change.kws K) (He.fAd K ("is_change", none)) fd
  f_is_spot : ∃ fd, FunD K "is_spot" "is_spot" (defArgs (top 41)) (defBody (top 41)) (defScope (top 41)) (d_is_spot.dvs K) (d_is_spot.kws K) (He.fAd K ("is_spot", none)) fd
  f_is_hushes : ∃ fd, FunD K "is_hushes" "is_hushes" (defArgs (top 42)) (defBody (top 42)) (defScope (top 42)) (d_is_hushes.dvs K) (d_is_hushes.kws K) (He.fAd K ("is_hushes", none)) fd
  f_is_hush : ∃ fd, FunD K "is_hush" "is_hush" (defArgs (top 43)) (defBody (top 43)) (defScope (top 43)) (d_is_hush.dvs K) (d_is_hush.kws K) (He.fAd K ("is_hush", none)) fd
  f_is_wakes : ∃ fd, FunD K "is_wakes" "is_wakes" (defArgs (top 44)) (defBody (top 44)) (defScope (top 44)) (d_is_wakes.dvs K) (d_is_wakes.kws K) (He.fAd K ("is_wakes", none)) fd
  f_begun : ∃ fd, FunD K "begun" "begun" (defArgs (top 48)) (defBody (top 48)) (defScope (top 48)) (d_begun.dvs K) (d_begun.kws K) (He.fAd K ("begun", none)) fd
  f_own_order : ∃ fd, FunD K "own_order" "own_order" (defArgs (top 50)) (defBody (top 50)) (defScope (top 50)) (d_own_order.dvs K) (d_own_order.kws K) (He.fAd K ("own_order", none)) fd
  f_step : ∃ fd, FunD K "step" "step" (defArgs (top 51)) (defBody (top 51)) (defScope (top 51)) (d_step.dvs K) (d_step.kws K) (He.fAd K ("step", none)) fd
  f_ended : ∃ fd, FunD K "ended" "ended" (defArgs (top 52)) (defBody (top 52)) (defScope (top 52)) (d_ended.dvs K) (d_ended.kws K) (He.fAd K ("ended", none)) fd
  f_is_ready : ∃ fd, FunD K "is_ready" "is_ready" (defArgs (top 53)) (defBody (top 53)) (defScope (top 53)) (d_is_ready.dvs K) (d_is_ready.kws K) (He.fAd K ("is_ready", none)) fd
  f_is_so : ∃ fd, FunD K "is_so" "is_so" (defArgs (top 54)) (defBody (top 54)) (defScope (top 54)) (d_is_so.dvs K) (d_is_so.kws K) (He.fAd K ("is_so", none)) fd
  f_carry_out : ∃ fd, FunD K "carry_out" "carry_out" (defArgs (top 55)) (defBody (top 55)) (defScope (top 55)) (d_carry_out.dvs K) (d_carry_out.kws K) (He.fAd K ("carry_out", none)) fd
  f_state_at : ∃ fd, FunD K "state_at" "state_at" (defArgs (top 57)) (defBody (top 57)) (defScope (top 57)) (d_state_at.dvs K) (d_state_at.kws K) (He.fAd K ("state_at", none)) fd
  f_round_of : ∃ fd, FunD K "round_of" "round_of" (defArgs (top 58)) (defBody (top 58)) (defScope (top 58)) (d_round_of.dvs K) (d_round_of.kws K) (He.fAd K ("round_of", none)) fd
  f_quiet_from : ∃ fd, FunD K "quiet_from" "quiet_from" (defArgs (top 59)) (defBody (top 59)) (defScope (top 59)) (d_quiet_from.dvs K) (d_quiet_from.kws K) (He.fAd K ("quiet_from", none)) fd
  f_times : ∃ fd, FunD K "times" "times" (defArgs (top 60)) (defBody (top 60)) (defScope (top 60)) (d_times.dvs K) (d_times.kws K) (He.fAd K ("times", none)) fd
  f_trail : ∃ fd, FunD K "trail" "trail" (defArgs (top 61)) (defBody (top 61)) (defScope (top 61)) (d_trail.dvs K) (d_trail.kws K) (He.fAd K ("trail", none)) fd
  f_ways_from : ∃ fd, FunD K "ways_from" "ways_from" (defArgs (top 62)) (defBody (top 62)) (defScope (top 62)) (d_ways_from.dvs K) (d_ways_from.kws K) (He.fAd K ("ways_from", none)) fd
  f_trail_along : ∃ fd, FunD K "trail_along" "trail_along" (defArgs (top 63)) (defBody (top 63)) (defScope (top 63)) (d_trail_along.dvs K) (d_trail_along.kws K) (He.fAd K ("trail_along", none)) fd
  f_number_at : ∃ fd, FunD K "number_at" "number_at" (defArgs (top 64)) (defBody (top 64)) (defScope (top 64)) (d_number_at.dvs K) (d_number_at.kws K) (He.fAd K ("number_at", none)) fd
  f_doings : ∃ fd, FunD K "doings" "doings" (defArgs (top 65)) (defBody (top 65)) (defScope (top 65)) (d_doings.dvs K) (d_doings.kws K) (He.fAd K ("doings", none)) fd
  f_count_below : ∃ fd, FunD K "count_below" "count_below" (defArgs (top 66)) (defBody (top 66)) (defScope (top 66)) (d_count_below.dvs K) (d_count_below.kws K) (He.fAd K ("count_below", none)) fd
  f__law_bag : ∃ fd, FunD K "_law_bag" "_law_bag" (defArgs (top 68)) (defBody (top 68)) (defScope (top 68)) (d__law_bag.dvs K) (d__law_bag.kws K) (He.fAd K ("_law_bag", none)) fd
  f__law_take : ∃ fd, FunD K "_law_take" "_law_take" (defArgs (top 69)) (defBody (top 69)) (defScope (top 69)) (d__law_take.dvs K) (d__law_take.kws K) (He.fAd K ("_law_take", none)) fd
  f__law_place : ∃ fd, FunD K "_law_place" "_law_place" (defArgs (top 70)) (defBody (top 70)) (defScope (top 70)) (d__law_place.dvs K) (d__law_place.kws K) (He.fAd K ("_law_place", none)) fd
  f__law_ten : ∃ fd, FunD K "_law_ten" "_law_ten" (defArgs (top 71)) (defBody (top 71)) (defScope (top 71)) (d__law_ten.dvs K) (d__law_ten.kws K) (He.fAd K ("_law_ten", none)) fd
  f__law_still : ∃ fd, FunD K "_law_still" "_law_still" (defArgs (top 72)) (defBody (top 72)) (defScope (top 72)) (d__law_still.dvs K) (d__law_still.kws K) (He.fAd K ("_law_still", none)) fd
  f_law : ∃ fd, FunD K "law" "law" (defArgs (top 73)) (defBody (top 73)) (defScope (top 73)) (d_law.dvs K) (d_law.kws K) (He.fAd K ("law", none)) fd
def exs : List (PySem.W.Frag → Bool) := [U.etupB (He.dflAt ("Book", some "__init__") 0), U.etupB (U.kwAt ("state_at", none) "off"), U.etupB (U.kwAt ("round_of", none) "off"), U.etupB (U.kwAt ("quiet_from", none) "off"), U.etupB (U.kwAt ("times", none) "off")]
theorem txt_of {K : PySem.W.Frag} {h : Heap} {w : World} {mg : Str → Option Value} (X : K.In h) (G : h.Ns mainGlobals mg) (c0 : He.SaysX fa fn [] [] (U.exOk exs) w h K) : Txt K mg :=
  have c := c0.t.d
  {
  g_HushError := He.glo_ok X G (c.fact 0 (f := .glo "HushError") rfl)
  g_NoBook := He.glo_ok X G (c.fact 1 (f := .glo "NoBook") rfl)
  g_NoState := He.glo_ok X G (c.fact 2 (f := .glo "NoState") rfl)
  g_NoOff := He.glo_ok X G (c.fact 3 (f := .glo "NoOff") rfl)
  g_NoRule := He.glo_ok X G (c.fact 4 (f := .glo "NoRule") rfl)
  g_NoBeat := He.glo_ok X G (c.fact 5 (f := .glo "NoBeat") rfl)
  i_MOST_WHEELS := He.int_ok X G (c.fact 6 (f := .int "MOST_WHEELS" 3) rfl)
  i_LEAST_PLACES := He.int_ok X G (c.fact 7 (f := .int "LEAST_PLACES" 2) rfl)
  i_MOST_PLACES := He.int_ok X G (c.fact 8 (f := .int "MOST_PLACES" 4) rfl)
  i_MOST_VALUES := He.int_ok X G (c.fact 9 (f := .int "MOST_VALUES" 24) rfl)
  i_LONGEST_LEFT := He.int_ok X G (c.fact 10 (f := .int "LONGEST_LEFT" 2) rfl)
  i_GREATEST_BEAT := He.int_ok X G (c.fact 11 (f := .int "GREATEST_BEAT" 999999999999999999999999999999999999999999999999999999999999) rfl)
  g_is_whole := He.glo_ok X G (c.fact 12 (f := .glo "is_whole") rfl)
  g_is_within := He.glo_ok X G (c.fact 13 (f := .glo "is_within") rfl)
  g_is_below := He.glo_ok X G (c.fact 14 (f := .glo "is_below") rfl)
  g_is_rising := He.glo_ok X G (c.fact 15 (f := .glo "is_rising") rfl)
  g_is_wheels := He.glo_ok X G (c.fact 16 (f := .glo "is_wheels") rfl)
  g_is_values := He.glo_ok X G (c.fact 17 (f := .glo "is_values") rfl)
  g_is_left := He.glo_ok X G (c.fact 18 (f := .glo "is_left") rfl)
  g_is_state_of := He.glo_ok X G (c.fact 19 (f := .glo "is_state_of") rfl)
  g_is_beats := He.glo_ok X G (c.fact 20 (f := .glo "is_beats") rfl)
  g_want_state := He.glo_ok X G (c.fact 21 (f := .glo "want_state") rfl)
  g_want_rule := He.glo_ok X G (c.fact 22 (f := .glo "want_rule") rfl)
  g_want_off := He.glo_ok X G (c.fact 23 (f := .glo "want_off") rfl)
  g_want_beats := He.glo_ok X G (c.fact 24 (f := .glo "want_beats") rfl)
  i_MOST_RULES := He.int_ok X G (c.fact 25 (f := .int "MOST_RULES" 5) rfl)
  i_MOST_CONDITIONS := He.int_ok X G (c.fact 26 (f := .int "MOST_CONDITIONS" 4) rfl)
  i_MOST_CHANGES := He.int_ok X G (c.fact 27 (f := .int "MOST_CHANGES" 3) rfl)
  i_MOST_HUSHES := He.int_ok X G (c.fact 28 (f := .int "MOST_HUSHES" 5) rfl)
  i_MOST_WAKES := He.int_ok X G (c.fact 29 (f := .int "MOST_WAKES" 5) rfl)
  i_LEAST_HUSH := He.int_ok X G (c.fact 30 (f := .int "LEAST_HUSH" 1) rfl)
  i_LONGEST_HUSH := He.int_ok X G (c.fact 31 (f := .int "LONGEST_HUSH" 3) rfl)
  g_Book := He.glo_ok X G (c.fact 32 (f := .glo "Book") rfl)
  g_is_row := He.glo_ok X G (c.fact 33 (f := .glo "is_row") rfl)
  g_is_rule := He.glo_ok X G (c.fact 34 (f := .glo "is_rule") rfl)
  g_is_condition := He.glo_ok X G (c.fact 35 (f := .glo "is_condition") rfl)
  g_is_moment := He.glo_ok X G (c.fact 36 (f := .glo "is_moment") rfl)
  g_is_change := He.glo_ok X G (c.fact 37 (f := .glo "is_change") rfl)
  g_is_spot := He.glo_ok X G (c.fact 38 (f := .glo "is_spot") rfl)
  g_is_hushes := He.glo_ok X G (c.fact 39 (f := .glo "is_hushes") rfl)
  g_is_hush := He.glo_ok X G (c.fact 40 (f := .glo "is_hush") rfl)
  g_is_wakes := He.glo_ok X G (c.fact 41 (f := .glo "is_wakes") rfl)
  g_book_lines := He.glo_ok X G (c.fact 42 (f := .glo "book_lines") rfl)
  g_rule_line := He.glo_ok X G (c.fact 43 (f := .glo "rule_line") rfl)
  g_spaced := He.glo_ok X G (c.fact 44 (f := .glo "spaced") rfl)
  g_begun := He.glo_ok X G (c.fact 45 (f := .glo "begun") rfl)
  g_own_order := He.glo_ok X G (c.fact 46 (f := .glo "own_order") rfl)
  g_step := He.glo_ok X G (c.fact 47 (f := .glo "step") rfl)
  g_ended := He.glo_ok X G (c.fact 48 (f := .glo "ended") rfl)
  g_is_ready := He.glo_ok X G (c.fact 49 (f := .glo "is_ready") rfl)
  g_is_so := He.glo_ok X G (c.fact 50 (f := .glo "is_so") rfl)
  g_carry_out := He.glo_ok X G (c.fact 51 (f := .glo "carry_out") rfl)
  g_state_at := He.glo_ok X G (c.fact 52 (f := .glo "state_at") rfl)
  g_round_of := He.glo_ok X G (c.fact 53 (f := .glo "round_of") rfl)
  g_quiet_from := He.glo_ok X G (c.fact 54 (f := .glo "quiet_from") rfl)
  g_times := He.glo_ok X G (c.fact 55 (f := .glo "times") rfl)
  g_trail := He.glo_ok X G (c.fact 56 (f := .glo "trail") rfl)
  g_ways_from := He.glo_ok X G (c.fact 57 (f := .glo "ways_from") rfl)
  g_trail_along := He.glo_ok X G (c.fact 58 (f := .glo "trail_along") rfl)
  g_number_at := He.glo_ok X G (c.fact 59 (f := .glo "number_at") rfl)
  g_doings := He.glo_ok X G (c.fact 60 (f := .glo "doings") rfl)
  g_count_below := He.glo_ok X G (c.fact 61 (f := .glo "count_below") rfl)
  g__law_bag := He.glo_ok X G (c.fact 62 (f := .glo "_law_bag") rfl)
  g__law_take := He.glo_ok X G (c.fact 63 (f := .glo "_law_take") rfl)
  g__law_place := He.glo_ok X G (c.fact 64 (f := .glo "_law_place") rfl)
  g__law_ten := He.glo_ok X G (c.fact 65 (f := .glo "_law_ten") rfl)
  g__law_still := He.glo_ok X G (c.fact 66 (f := .glo "_law_still") rfl)
  g_law := He.glo_ok X G (c.fact 67 (f := .glo "law") rfl)
  b_LookupError := He.free_ok X G (c.fact 68 (f := .free "LookupError") rfl)
  b_OverflowError := He.free_ok X G (c.fact 69 (f := .free "OverflowError") rfl)
  b_ValueError := He.free_ok X G (c.fact 70 (f := .free "ValueError") rfl)
  b_abs := He.free_ok X G (c.fact 71 (f := .free "abs") rfl)
  b_all := He.free_ok X G (c.fact 72 (f := .free "all") rfl)
  b_any := He.free_ok X G (c.fact 73 (f := .free "any") rfl)
  b_bool := He.free_ok X G (c.fact 74 (f := .free "bool") rfl)
  b_divmod := He.free_ok X G (c.fact 75 (f := .free "divmod") rfl)
  b_enumerate := He.free_ok X G (c.fact 76 (f := .free "enumerate") rfl)
  b_int := He.free_ok X G (c.fact 77 (f := .free "int") rfl)
  b_isinstance := He.free_ok X G (c.fact 78 (f := .free "isinstance") rfl)
  b_len := He.free_ok X G (c.fact 79 (f := .free "len") rfl)
  b_list := He.free_ok X G (c.fact 80 (f := .free "list") rfl)
  b_max := He.free_ok X G (c.fact 81 (f := .free "max") rfl)
  b_min := He.free_ok X G (c.fact 82 (f := .free "min") rfl)
  b_range := He.free_ok X G (c.fact 83 (f := .free "range") rfl)
  b_sorted := He.free_ok X G (c.fact 84 (f := .free "sorted") rfl)
  b_str := He.free_ok X G (c.fact 85 (f := .free "str") rfl)
  b_tuple := He.free_ok X G (c.fact 86 (f := .free "tuple") rfl)
  b_zip := He.free_ok X G (c.fact 87 (f := .free "zip") rfl)
  c_Book := He.cls_ok (c.fact 88 (f := .cls "Book") rfl)
  n_Book_wheels := He.noat_ok (c.fact 89 (f := .noat "Book" "wheels") rfl)
  n_Book_rules := He.noat_ok (c.fact 90 (f := .noat "Book" "rules") rfl)
  k_Book := He.mkr_ok (c.fact 91 (f := .mkr "Book") rfl)
  x_Book_init_rules := U.exOk_at c0.more 0 rfl
  x_state_at_off := U.exOk_at c0.more 1 rfl
  x_round_of_off := U.exOk_at c0.more 2 rfl
  x_quiet_from_off := U.exOk_at c0.more 3 rfl
  x_times_off := U.exOk_at c0.more 4 rfl
  f_is_whole := c.def_ 0 (d := d_is_whole) rfl
  f_is_within := c.def_ 1 (d := d_is_within) rfl
  f_is_below := c.def_ 2 (d := d_is_below) rfl
  f_is_rising := c.def_ 3 (d := d_is_rising) rfl
  f_is_wheels := c.def_ 4 (d := d_is_wheels) rfl
  f_is_values := c.def_ 5 (d := d_is_values) rfl
  f_is_left := c.def_ 6 (d := d_is_left) rfl
  f_is_state_of := c.def_ 7 (d := d_is_state_of) rfl
  f_is_beats := c.def_ 8 (d := d_is_beats) rfl
  f_want_state := c.def_ 9 (d := d_want_state) rfl
  f_want_rule := c.def_ 10 (d := d_want_rule) rfl
  f_want_off := c.def_ 11 (d := d_want_off) rfl
  f_want_beats := c.def_ 12 (d := d_want_beats) rfl
  f_Book_init := c.def_ 13 (d := d_Book_init) rfl
  f_is_row := c.def_ 14 (d := d_is_row) rfl
  f_is_rule := c.def_ 15 (d := d_is_rule) rfl
  f_is_condition := c.def_ 16 (d := d_is_condition) rfl
  f_is_moment := c.def_ 17 (d := d_is_moment) rfl
  f_is_change := c.def_ 18 (d := d_is_change) rfl
  f_is_spot := c.def_ 19 (d := d_is_spot) rfl
  f_is_hushes := c.def_ 20 (d := d_is_hushes) rfl
  f_is_hush := c.def_ 21 (d := d_is_hush) rfl
  f_is_wakes := c.def_ 22 (d := d_is_wakes) rfl
  f_begun := c.def_ 23 (d := d_begun) rfl
  f_own_order := c.def_ 24 (d := d_own_order) rfl
  f_step := c.def_ 25 (d := d_step) rfl
  f_ended := c.def_ 26 (d := d_ended) rfl
  f_is_ready := c.def_ 27 (d := d_is_ready) rfl
  f_is_so := c.def_ 28 (d := d_is_so) rfl
  f_carry_out := c.def_ 29 (d := d_carry_out) rfl
  f_state_at := c.def_ 30 (d := d_state_at) rfl
  f_round_of := c.def_ 31 (d := d_round_of) rfl
  f_quiet_from := c.def_ 32 (d := d_quiet_from) rfl
  f_times := c.def_ 33 (d := d_times) rfl
  f_trail := c.def_ 34 (d := d_trail) rfl
  f_ways_from := c.def_ 35 (d := d_ways_from) rfl
  f_trail_along := c.def_ 36 (d := d_trail_along) rfl
  f_number_at := c.def_ 37 (d := d_number_at) rfl
  f_doings := c.def_ 38 (d := d_doings) rfl
  f_count_below := c.def_ 39 (d := d_count_below) rfl
  f__law_bag := c.def_ 40 (d := d__law_bag) rfl
  f__law_take := c.def_ 41 (d := d__law_take) rfl
  f__law_place := c.def_ 42 (d := d__law_place) rfl
  f__law_ten := c.def_ 43 (d := d__law_ten) rfl
  f__law_still := c.def_ 44 (d := d__law_still) rfl
  f_law := c.def_ 45 (d := d_law) rfl
  }
abbrev RR : PySem.W.OpenRow := PySem.W.OpenLaw.row PySem.Challenge.rw_hushrules_k16_whole_hushes_counted
abbrev hk : PySem.W.Hook := He.hookX 5 fa fn [] [] (U.exOk exs)
def ob (s : PySem.W.SharedT) : He.AlX := He.obsX 5 fa fn [] [] (U.exOk exs) (HandSHeadRun.getT s)
theorem ob_eq (s : PySem.W.SharedT) : ob s = hk.obs s.abs := He.obsX_eq (HandSHeadRun.getT_eq s)
theorem run (w : World) : HandSHeadRun.RunEq RR (PySem.W.view RR.prog [73]) hk ob 8000 loose w := by
  intro os
  kernel_rfl
end Hd
set_option Elab.async false
set_option linter.all false
set_option maxRecDepth 100000
set_option maxHeartbeats 400000
namespace Hd
open PySem U
def b_is_whole : SM := (sRet (eAnd (eUn (dIsi "int") (eVar 0)) (eNot (eUn (dIsi "bool") (eVar 0)))))
def m_is_whole : Fm := mkFn 1 1 b_is_whole
def s_is_whole : Fm := obs 1 fun ds st => match ds with
  | [d] => (tyD st d).map fun t => D.bl (t == "int")
  | _ => none
theorem a_is_whole : Arity 1 s_is_whole := obs_ar
theorem t_is_whole : Tells m_is_whole s_is_whole := .obs fun ds st d g b hl h => by
  match ds, hl with
  | [x], _ =>
    obtain ⟨t, ht, rfl⟩ := Option.map_eq_some_iff.mp h
    refine ⟨by simp only [Bnd], [], ?_⟩
    have key : ∀ t ∈ kinds, (isiT t "int" && !isiT t "bool") = (t == "int") := by decide
    have k := key t (tyD_mem ht)
    simp only [m_is_whole, b_is_whole, ev_var, ev_c, ev_un, ev_bin, ev_anil, ev_acons, ev_fn, ev_tof, ev_tob, ev_tand, ev_tor, ev_tnot, ev_and, ev_or, ev_not, ev_if, ev_chain, ev_true, ev_slice, ev_onone, ev_osome, ev_iseq, ev_irng, ev_ienum, ev_ibin, ev_lc, ev_skip, ev_never, ev_seq, ev_ret, ev_sif, ev_set, ev_expr, ev_asg, ev_par, ev_for, ev_fld, ev_gn, ev_gsnil, ev_gscons, ev_gt, ev_mkfn, ev_bok, ev_berr, ev_bfail, ev_tok, ev_hok, ev_ert, ev_enx, ev_wn, ev_wc, ev_e0, ev_sseq, ev_senum, ev_szip, ev_sltup, ev_ltI, ev_leI, ev_gtI, ev_geI, ev_subI, ev_addI, ev_lenT, List.map_cons, List.map_nil, List.length_cons, List.length_nil, List.cons_append, List.nil_append, List.append_nil, List.getElem?_cons_zero, List.getElem?_cons_succ, List.set_cons_zero, List.set_cons_succ, List.replicate_succ, List.replicate_zero, Nat.reduceAdd, Nat.reduceSub, Nat.reduceEqDiff, reduceIte, Bool.true_eq_false, Bool.false_eq_true, if_true, if_false, ev_isi, ht]
    cases h1 : isiT t "int" <;> cases h2 : isiT t "bool" <;> rw [h1, h2] at k <;> simp [← k, ev_tok, ev_ert]
theorem whole_int (i : Int) (st : Sto) : s_is_whole [.int i] st = .ok (.bl true) st := obs_ok rfl rfl
theorem whole_of {d : D} {st : Sto} (h : kn st d = true) : s_is_whole [d] st = .ok (.bl (match d with | .int _ => true | _ => false)) st := by
  obtain ⟨t, e⟩ := Option.isSome_iff_exists.mp h
  refine obs_ok rfl ?_
  show (tyD st d).map (fun t => D.bl (t == "int")) = _
  rw [e]
  cases d with
  | ref n =>
    unfold tyD at e
    simp only at e
    split at e
    · cases e; rfl
    · cases e; rfl
    · cases e
  | _ => cases e; rfl

def b_is_within : SM := (sRet (eAnd (eFn s_is_whole (aCons (eVar 0) aNil)) (eChain dLe dLe (eVar 1) (eVar 0) (eVar 2))))
def m_is_within : Fm := mkFn 3 3 b_is_within
def s_is_within : Fm := obs 3 fun ds st => match ds with
  | [d, .int lo, .int hi] => if kn st d = true then some (.bl (withinD lo hi d)) else none
  | _ => none
theorem a_is_within : Arity 3 s_is_within := obs_ar
theorem within_of {d : D} {st : Sto} {lo hi : Int} (h : kn st d = true) : s_is_within [d, .int lo, .int hi] st = .ok (.bl (withinD lo hi d)) st := obs_ok rfl (if_pos h)
theorem t_is_within : Tells m_is_within s_is_within := .obs fun ds st d g b hl h => by
  match ds, hl, h with
  | [x, .int lo, .int hi], _, h =>
    have h' : (if kn st x = true then some (D.bl (withinD lo hi x)) else none) = some d := h
    split at h'
    · rename_i hk
      cases h'
      refine ⟨by simp only [Bnd], [], ?_⟩
      simp only [m_is_within, b_is_within, ev_var, ev_c, ev_un, ev_bin, ev_anil, ev_acons, ev_fn, ev_tof, ev_tob, ev_tand, ev_tor, ev_tnot, ev_and, ev_or, ev_not, ev_if, ev_chain, ev_true, ev_slice, ev_onone, ev_osome, ev_iseq, ev_irng, ev_ienum, ev_ibin, ev_lc, ev_skip, ev_never, ev_seq, ev_ret, ev_sif, ev_set, ev_expr, ev_asg, ev_par, ev_for, ev_fld, ev_gn, ev_gsnil, ev_gscons, ev_gt, ev_mkfn, ev_bok, ev_berr, ev_bfail, ev_tok, ev_hok, ev_ert, ev_enx, ev_wn, ev_wc, ev_e0, ev_sseq, ev_senum, ev_szip, ev_sltup, ev_ltI, ev_leI, ev_gtI, ev_geI, ev_subI, ev_addI, ev_lenT, List.map_cons, List.map_nil, List.length_cons, List.length_nil, List.cons_append, List.nil_append, List.append_nil, List.getElem?_cons_zero, List.getElem?_cons_succ, List.set_cons_zero, List.set_cons_succ, List.replicate_succ, List.replicate_zero, Nat.reduceAdd, Nat.reduceSub, Nat.reduceEqDiff, reduceIte, Bool.true_eq_false, Bool.false_eq_true, if_true, if_false, whole_of hk]
      cases x with
      | int i =>
        simp only [ev_var, ev_c, ev_un, ev_bin, ev_anil, ev_acons, ev_fn, ev_tof, ev_tob, ev_tand, ev_tor, ev_tnot, ev_and, ev_or, ev_not, ev_if, ev_chain, ev_true, ev_slice, ev_onone, ev_osome, ev_iseq, ev_irng, ev_ienum, ev_ibin, ev_lc, ev_skip, ev_never, ev_seq, ev_ret, ev_sif, ev_set, ev_expr, ev_asg, ev_par, ev_for, ev_fld, ev_gn, ev_gsnil, ev_gscons, ev_gt, ev_mkfn, ev_bok, ev_berr, ev_bfail, ev_tok, ev_hok, ev_ert, ev_enx, ev_wn, ev_wc, ev_e0, ev_sseq, ev_senum, ev_szip, ev_sltup, ev_ltI, ev_leI, ev_gtI, ev_geI, ev_subI, ev_addI, ev_lenT, List.map_cons, List.map_nil, List.length_cons, List.length_nil, List.cons_append, List.nil_append, List.append_nil, List.getElem?_cons_zero, List.getElem?_cons_succ, List.set_cons_zero, List.set_cons_succ, List.replicate_succ, List.replicate_zero, Nat.reduceAdd, Nat.reduceSub, Nat.reduceEqDiff, reduceIte, Bool.true_eq_false, Bool.false_eq_true, if_true, if_false, withinD]
        by_cases h1 : lo ≤ i <;> simp [h1, ev_tok, ev_ert, ev_leI, ev_bok]
      | _ => rfl
    · cases h'

def b_is_below : SM := (sRet (eFn s_is_within (aCons (eVar 0) (aCons (eC (.int 0)) (aCons (eBin dSub (eVar 1) (eC (.int 1))) aNil)))))
def m_is_below : Fm := mkFn 2 2 b_is_below
def s_is_below : Fm := obs 2 fun ds st => match ds with
  | [d, .int n] => if kn st d = true then some (.bl (withinD 0 (n - 1) d)) else none
  | _ => none
theorem a_is_below : Arity 2 s_is_below := obs_ar
theorem below_of {d : D} {st : Sto} {n : Int} (h : kn st d = true) : s_is_below [d, .int n] st = .ok (.bl (withinD 0 (n - 1) d)) st := obs_ok rfl (if_pos h)
theorem t_is_below : Tells m_is_below s_is_below := .obs fun ds st d g b hl h => by
  match ds, hl, h with
  | [x, .int n], _, h =>
    have h' : (if kn st x = true then some (D.bl (withinD 0 (n - 1) x)) else none) = some d := h
    split at h'
    · rename_i hk
      cases h'
      refine ⟨by simp only [Bnd], [], ?_⟩
      simp only [m_is_below, b_is_below, ev_var, ev_c, ev_un, ev_bin, ev_anil, ev_acons, ev_fn, ev_tof, ev_tob, ev_tand, ev_tor, ev_tnot, ev_and, ev_or, ev_not, ev_if, ev_chain, ev_true, ev_slice, ev_onone, ev_osome, ev_iseq, ev_irng, ev_ienum, ev_ibin, ev_lc, ev_skip, ev_never, ev_seq, ev_ret, ev_sif, ev_set, ev_expr, ev_asg, ev_par, ev_for, ev_fld, ev_gn, ev_gsnil, ev_gscons, ev_gt, ev_mkfn, ev_bok, ev_berr, ev_bfail, ev_tok, ev_hok, ev_ert, ev_enx, ev_wn, ev_wc, ev_e0, ev_sseq, ev_senum, ev_szip, ev_sltup, ev_ltI, ev_leI, ev_gtI, ev_geI, ev_subI, ev_addI, ev_lenT, List.map_cons, List.map_nil, List.length_cons, List.length_nil, List.cons_append, List.nil_append, List.append_nil, List.getElem?_cons_zero, List.getElem?_cons_succ, List.set_cons_zero, List.set_cons_succ, List.replicate_succ, List.replicate_zero, Nat.reduceAdd, Nat.reduceSub, Nat.reduceEqDiff, reduceIte, Bool.true_eq_false, Bool.false_eq_true, if_true, if_false, within_of hk]
    · cases h'

def b_is_rising : SM := (sSeq (sIf (tOr (tNot (tOf (eUn (dIsi "tuple") (eVar 0)))) (tNot (tOf (eFn (fAA fun bs => bs.all id) (aCons (cLc (iSeq (eVar 0)) [4] (gN 4) tTrue (eFn s_is_below (aCons (eVar 4) (aCons (eVar 1) aNil)))) aNil))))) (sRet (eC (.bl false))) sSkip)
    (sRet (eFn (fAA fun bs => bs.all id) (aCons (cLc (iBin zipSrc (eVar 0) (eSlice (eVar 0) (oSome (eC (.int 1))) oNone)) [2, 3] (gT 2 (gsCons (gN 2) (gsCons (gN 3) gsNil))) tTrue (eBin dLt (eVar 2) (eVar 3))) aNil))))
def m_is_rising : Fm := mkFn 2 5 b_is_rising
def s_is_rising : Fm := obs 2 fun ds st => match ds with
  | [d, .int n] => if dk st d = true ∧ (tupsD d).length ≤ most then some (.bl (risingD n d)) else none
  | _ => none
theorem a_is_rising : Arity 2 s_is_rising := obs_ar
theorem rising_of {d : D} {st : Sto} {n : Int} (h : dk st d = true) (hm : (tupsD d).length ≤ most) : s_is_rising [d, .int n] st = .ok (.bl (risingD n d)) st := obs_ok rfl (if_pos ⟨h, hm⟩)
theorem t_is_rising : Tells m_is_rising s_is_rising := .obs fun ds st d g b hl h => by
  match ds, hl, h with
  | [x, .int n], _, h =>
    have h' : (if dk st x = true ∧ (tupsD x).length ≤ most then some (D.bl (risingD n x)) else none) = some d := h
    split at h'
    · rename_i hk
      cases h'
      obtain ⟨hk, hm⟩ := hk
      refine ⟨by simp only [Bnd], ?_⟩
      cases x with
      | tup xs =>
        have hx := dk_tup hk
        have hm : xs.length ≤ most := hm
        simp only [m_is_rising, b_is_rising, ev_var, ev_c, ev_un, ev_bin, ev_anil, ev_acons, ev_fn, ev_tof, ev_tob, ev_tand, ev_tor, ev_tnot, ev_and, ev_or, ev_not, ev_if, ev_chain, ev_true, ev_slice, ev_onone, ev_osome, ev_iseq, ev_irng, ev_ienum, ev_ibin, ev_lc, ev_skip, ev_never, ev_seq, ev_ret, ev_sif, ev_set, ev_expr, ev_asg, ev_par, ev_for, ev_fld, ev_gn, ev_gsnil, ev_gscons, ev_gt, ev_mkfn, ev_bok, ev_berr, ev_bfail, ev_tok, ev_hok, ev_ert, ev_enx, ev_wn, ev_wc, ev_e0, ev_sseq, ev_senum, ev_szip, ev_sltup, ev_ltI, ev_leI, ev_gtI, ev_geI, ev_subI, ev_addI, ev_lenT, List.map_cons, List.map_nil, List.length_cons, List.length_nil, List.cons_append, List.nil_append, List.append_nil, List.getElem?_cons_zero, List.getElem?_cons_succ, List.set_cons_zero, List.set_cons_succ, List.replicate_succ, List.replicate_zero, Nat.reduceAdd, Nat.reduceSub, Nat.reduceEqDiff, reduceIte, Bool.true_eq_false, Bool.false_eq_true, if_true, if_false, isi_tup, Bool.not_true]
        rw [startLc_map (f := fun x => .bl (withinD 0 (n - 1) x)) rfl hm fun x h2 acc => ⟨_, rfl, by simp only [ev_var, ev_c, ev_un, ev_bin, ev_anil, ev_acons, ev_fn, ev_tof, ev_tob, ev_tand, ev_tor, ev_tnot, ev_and, ev_or, ev_not, ev_if, ev_chain, ev_true, ev_slice, ev_onone, ev_osome, ev_iseq, ev_irng, ev_ienum, ev_ibin, ev_lc, ev_skip, ev_never, ev_seq, ev_ret, ev_sif, ev_set, ev_expr, ev_asg, ev_par, ev_for, ev_fld, ev_gn, ev_gsnil, ev_gscons, ev_gt, ev_mkfn, ev_bok, ev_berr, ev_bfail, ev_tok, ev_hok, ev_ert, ev_enx, ev_wn, ev_wc, ev_e0, ev_sseq, ev_senum, ev_szip, ev_sltup, ev_ltI, ev_leI, ev_gtI, ev_geI, ev_subI, ev_addI, ev_lenT, List.map_cons, List.map_nil, List.length_cons, List.length_nil, List.cons_append, List.nil_append, List.append_nil, List.getElem?_cons_zero, List.getElem?_cons_succ, List.set_cons_zero, List.set_cons_succ, List.replicate_succ, List.replicate_zero, Nat.reduceAdd, Nat.reduceSub, Nat.reduceEqDiff, reduceIte, Bool.true_eq_false, Bool.false_eq_true, if_true, if_false, below_of (kn_app (dk_kn (hx x h2)))]⟩]
        simp only [ev_var, ev_c, ev_un, ev_bin, ev_anil, ev_acons, ev_fn, ev_tof, ev_tob, ev_tand, ev_tor, ev_tnot, ev_and, ev_or, ev_not, ev_if, ev_chain, ev_true, ev_slice, ev_onone, ev_osome, ev_iseq, ev_irng, ev_ienum, ev_ibin, ev_lc, ev_skip, ev_never, ev_seq, ev_ret, ev_sif, ev_set, ev_expr, ev_asg, ev_par, ev_for, ev_fld, ev_gn, ev_gsnil, ev_gscons, ev_gt, ev_mkfn, ev_bok, ev_berr, ev_bfail, ev_tok, ev_hok, ev_ert, ev_enx, ev_wn, ev_wc, ev_e0, ev_sseq, ev_senum, ev_szip, ev_sltup, ev_ltI, ev_leI, ev_gtI, ev_geI, ev_subI, ev_addI, ev_lenT, List.map_cons, List.map_nil, List.length_cons, List.length_nil, List.cons_append, List.nil_append, List.append_nil, List.getElem?_cons_zero, List.getElem?_cons_succ, List.set_cons_zero, List.set_cons_succ, List.replicate_succ, List.replicate_zero, Nat.reduceAdd, Nat.reduceSub, Nat.reduceEqDiff, reduceIte, Bool.true_eq_false, Bool.false_eq_true, if_true, if_false, aa_end]
        by_cases ha : (xs.map (withinD 0 (n - 1))).all id = true
        · have hi : ∀ x ∈ xs, x = .int (wI x) := fun x h2 => by
            have h3 : withinD 0 (n - 1) x = true := by
              have := List.all_eq_true.mp ha (withinD 0 (n - 1) x) (List.mem_map_of_mem h2)
              exact this
            cases x with
            | int i => rfl
            | _ => cases h3
          simp only [ev_var, ev_c, ev_un, ev_bin, ev_anil, ev_acons, ev_fn, ev_tof, ev_tob, ev_tand, ev_tor, ev_tnot, ev_and, ev_or, ev_not, ev_if, ev_chain, ev_true, ev_slice, ev_onone, ev_osome, ev_iseq, ev_irng, ev_ienum, ev_ibin, ev_lc, ev_skip, ev_never, ev_seq, ev_ret, ev_sif, ev_set, ev_expr, ev_asg, ev_par, ev_for, ev_fld, ev_gn, ev_gsnil, ev_gscons, ev_gt, ev_mkfn, ev_bok, ev_berr, ev_bfail, ev_tok, ev_hok, ev_ert, ev_enx, ev_wn, ev_wc, ev_e0, ev_sseq, ev_senum, ev_szip, ev_sltup, ev_ltI, ev_leI, ev_gtI, ev_geI, ev_subI, ev_addI, ev_lenT, List.map_cons, List.map_nil, List.length_cons, List.length_nil, List.cons_append, List.nil_append, List.append_nil, List.getElem?_cons_zero, List.getElem?_cons_succ, List.set_cons_zero, List.set_cons_succ, List.replicate_succ, List.replicate_zero, Nat.reduceAdd, Nat.reduceSub, Nat.reduceEqDiff, reduceIte, Bool.true_eq_false, Bool.false_eq_true, if_true, if_false, ha, Bool.not_true, cut1]
          rw [startLc_map (f := fun p => .bl (decide (wI (fstD p) < wI (sndD p)))) rfl (by rw [List.length_zipWith]; omega) fun p h2 acc => ?_]
          · simp only [ev_var, ev_c, ev_un, ev_bin, ev_anil, ev_acons, ev_fn, ev_tof, ev_tob, ev_tand, ev_tor, ev_tnot, ev_and, ev_or, ev_not, ev_if, ev_chain, ev_true, ev_slice, ev_onone, ev_osome, ev_iseq, ev_irng, ev_ienum, ev_ibin, ev_lc, ev_skip, ev_never, ev_seq, ev_ret, ev_sif, ev_set, ev_expr, ev_asg, ev_par, ev_for, ev_fld, ev_gn, ev_gsnil, ev_gscons, ev_gt, ev_mkfn, ev_bok, ev_berr, ev_bfail, ev_tok, ev_hok, ev_ert, ev_enx, ev_wn, ev_wc, ev_e0, ev_sseq, ev_senum, ev_szip, ev_sltup, ev_ltI, ev_leI, ev_gtI, ev_geI, ev_subI, ev_addI, ev_lenT, List.map_cons, List.map_nil, List.length_cons, List.length_nil, List.cons_append, List.nil_append, List.append_nil, List.getElem?_cons_zero, List.getElem?_cons_succ, List.set_cons_zero, List.set_cons_succ, List.replicate_succ, List.replicate_zero, Nat.reduceAdd, Nat.reduceSub, Nat.reduceEqDiff, reduceIte, Bool.true_eq_false, Bool.false_eq_true, if_true, if_false, aa_end]
            refine ⟨_, by rw [List.append_assoc]; congr 2; rw [List.map_zipWith]; simp only [risingD, all_id, pairD, fstD, sndD] at ha ⊢; rw [ha]; rfl⟩
          · obtain ⟨i, hi2⟩ := List.getElem?_of_mem h2
            obtain ⟨x, y, h3, h4, rfl⟩ := zip_get hi2
            have ex := hi x (List.mem_of_getElem? h3)
            have ey := hi y (List.mem_of_mem_drop (List.mem_of_getElem? h4))
            refine ⟨_, rfl, ?_⟩
            rw [ex, ey]
            rfl
        · rw [Bool.not_eq_true] at ha
          simp only [ev_var, ev_c, ev_un, ev_bin, ev_anil, ev_acons, ev_fn, ev_tof, ev_tob, ev_tand, ev_tor, ev_tnot, ev_and, ev_or, ev_not, ev_if, ev_chain, ev_true, ev_slice, ev_onone, ev_osome, ev_iseq, ev_irng, ev_ienum, ev_ibin, ev_lc, ev_skip, ev_never, ev_seq, ev_ret, ev_sif, ev_set, ev_expr, ev_asg, ev_par, ev_for, ev_fld, ev_gn, ev_gsnil, ev_gscons, ev_gt, ev_mkfn, ev_bok, ev_berr, ev_bfail, ev_tok, ev_hok, ev_ert, ev_enx, ev_wn, ev_wc, ev_e0, ev_sseq, ev_senum, ev_szip, ev_sltup, ev_ltI, ev_leI, ev_gtI, ev_geI, ev_subI, ev_addI, ev_lenT, List.map_cons, List.map_nil, List.length_cons, List.length_nil, List.cons_append, List.nil_append, List.append_nil, List.getElem?_cons_zero, List.getElem?_cons_succ, List.set_cons_zero, List.set_cons_succ, List.replicate_succ, List.replicate_zero, Nat.reduceAdd, Nat.reduceSub, Nat.reduceEqDiff, reduceIte, Bool.true_eq_false, Bool.false_eq_true, if_true, if_false, ha, Bool.not_false]
          refine ⟨[.lst (xs.map fun x => .bl (withinD 0 (n - 1) x))], ?_⟩
          rw [all_id] at ha
          simp only [risingD, ha, Bool.false_and]
      | _ =>
        refine ⟨[], ?_⟩
        simp only [m_is_rising, b_is_rising, ev_var, ev_c, ev_un, ev_bin, ev_anil, ev_acons, ev_fn, ev_tof, ev_tob, ev_tand, ev_tor, ev_tnot, ev_and, ev_or, ev_not, ev_if, ev_chain, ev_true, ev_slice, ev_onone, ev_osome, ev_iseq, ev_irng, ev_ienum, ev_ibin, ev_lc, ev_skip, ev_never, ev_seq, ev_ret, ev_sif, ev_set, ev_expr, ev_asg, ev_par, ev_for, ev_fld, ev_gn, ev_gsnil, ev_gscons, ev_gt, ev_mkfn, ev_bok, ev_berr, ev_bfail, ev_tok, ev_hok, ev_ert, ev_enx, ev_wn, ev_wc, ev_e0, ev_sseq, ev_senum, ev_szip, ev_sltup, ev_ltI, ev_leI, ev_gtI, ev_geI, ev_subI, ev_addI, ev_lenT, List.map_cons, List.map_nil, List.length_cons, List.length_nil, List.cons_append, List.nil_append, List.append_nil, List.getElem?_cons_zero, List.getElem?_cons_succ, List.set_cons_zero, List.set_cons_succ, List.replicate_succ, List.replicate_zero, Nat.reduceAdd, Nat.reduceSub, Nat.reduceEqDiff, reduceIte, Bool.true_eq_false, Bool.false_eq_true, if_true, if_false, isi_tupD (dk_kn hk)]
        rfl
    · cases h'

def b_is_wheels : SM := (sSeq (sIf (tOr (tNot (tOf (eUn (dIsi "tuple") (eVar 0)))) (tNot (tOf (eChain dLe dLe (eC (.int 1)) (eFn fLen (aCons (eVar 0) aNil)) (eC (.int 3)))))) (sRet (eC (.bl false))) sSkip)
    (sSeq (sIf (tNot (tOf (eFn (fAA fun bs => bs.all id) (aCons (cLc (iSeq (eVar 0)) [2] (gN 2) tTrue (eFn s_is_within (aCons (eVar 2) (aCons (eC (.int 2)) (aCons (eC (.int 4)) aNil))))) aNil)))) (sRet (eC (.bl false))) sSkip)
    (sSeq (sSet 1 (eC (.int 1)))
    (sSeq (sFor (iSeq (eVar 0)) (gN 2) (sSet 1 (eBin dMul (eVar 1) (eVar 2))))
    (sRet (eBin dLe (eVar 1) (eC (.int 24))))))))
def m_is_wheels : Fm := mkFn 1 3 b_is_wheels
def s_is_wheels : Fm := obs 1 fun ds st => match ds with
  | [d] => if dk st d = true then some (.bl (wheelsD d)) else none
  | _ => none
theorem a_is_wheels : Arity 1 s_is_wheels := obs_ar
theorem wheels_of {d : D} {st : Sto} (h : dk st d = true) : s_is_wheels [d] st = .ok (.bl (wheelsD d)) st := obs_ok rfl (if_pos h)
theorem t_is_wheels : Tells m_is_wheels s_is_wheels := .obs fun ds st d g b hl h => by
  match ds, hl, h with
  | [x], _, h =>
    have h' : (if dk st x = true then some (D.bl (wheelsD x)) else none) = some d := h
    split at h'
    · rename_i hk
      cases h'
      refine ⟨by simp only [Bnd], ?_⟩
      cases x with
      | tup xs =>
        have hx := dk_tup hk
        by_cases h1 : 1 ≤ xs.length
        · by_cases h3 : xs.length ≤ 3
          · have e1 : decide ((1 : Int) ≤ (xs.length : Int)) = true := decide_eq_true (by omega)
            have e3 : decide ((xs.length : Int) ≤ (3 : Int)) = true := decide_eq_true (by omega)
            have hm : xs.length ≤ most := Nat.le_trans h3 (by decide)
            simp only [m_is_wheels, b_is_wheels, ev_var, ev_c, ev_un, ev_bin, ev_anil, ev_acons, ev_fn, ev_tof, ev_tob, ev_tand, ev_tor, ev_tnot, ev_and, ev_or, ev_not, ev_if, ev_chain, ev_true, ev_slice, ev_onone, ev_osome, ev_iseq, ev_irng, ev_ienum, ev_ibin, ev_lc, ev_skip, ev_never, ev_seq, ev_ret, ev_sif, ev_set, ev_expr, ev_asg, ev_par, ev_for, ev_fld, ev_gn, ev_gsnil, ev_gscons, ev_gt, ev_mkfn, ev_bok, ev_berr, ev_bfail, ev_tok, ev_hok, ev_ert, ev_enx, ev_wn, ev_wc, ev_e0, ev_sseq, ev_senum, ev_szip, ev_sltup, ev_ltI, ev_leI, ev_gtI, ev_geI, ev_subI, ev_addI, ev_lenT, List.map_cons, List.map_nil, List.length_cons, List.length_nil, List.cons_append, List.nil_append, List.append_nil, List.getElem?_cons_zero, List.getElem?_cons_succ, List.set_cons_zero, List.set_cons_succ, List.replicate_succ, List.replicate_zero, Nat.reduceAdd, Nat.reduceSub, Nat.reduceEqDiff, reduceIte, Bool.true_eq_false, Bool.false_eq_true, if_true, if_false, isi_tup, Bool.not_true, e1, e3]
            rw [startLc_map (f := fun x => .bl (withinD 2 4 x)) rfl hm fun x h2 acc => ⟨_, rfl, by simp only [ev_var, ev_c, ev_un, ev_bin, ev_anil, ev_acons, ev_fn, ev_tof, ev_tob, ev_tand, ev_tor, ev_tnot, ev_and, ev_or, ev_not, ev_if, ev_chain, ev_true, ev_slice, ev_onone, ev_osome, ev_iseq, ev_irng, ev_ienum, ev_ibin, ev_lc, ev_skip, ev_never, ev_seq, ev_ret, ev_sif, ev_set, ev_expr, ev_asg, ev_par, ev_for, ev_fld, ev_gn, ev_gsnil, ev_gscons, ev_gt, ev_mkfn, ev_bok, ev_berr, ev_bfail, ev_tok, ev_hok, ev_ert, ev_enx, ev_wn, ev_wc, ev_e0, ev_sseq, ev_senum, ev_szip, ev_sltup, ev_ltI, ev_leI, ev_gtI, ev_geI, ev_subI, ev_addI, ev_lenT, List.map_cons, List.map_nil, List.length_cons, List.length_nil, List.cons_append, List.nil_append, List.append_nil, List.getElem?_cons_zero, List.getElem?_cons_succ, List.set_cons_zero, List.set_cons_succ, List.replicate_succ, List.replicate_zero, Nat.reduceAdd, Nat.reduceSub, Nat.reduceEqDiff, reduceIte, Bool.true_eq_false, Bool.false_eq_true, if_true, if_false, within_of (kn_app (dk_kn (hx x h2)))]⟩]
            simp only [ev_var, ev_c, ev_un, ev_bin, ev_anil, ev_acons, ev_fn, ev_tof, ev_tob, ev_tand, ev_tor, ev_tnot, ev_and, ev_or, ev_not, ev_if, ev_chain, ev_true, ev_slice, ev_onone, ev_osome, ev_iseq, ev_irng, ev_ienum, ev_ibin, ev_lc, ev_skip, ev_never, ev_seq, ev_ret, ev_sif, ev_set, ev_expr, ev_asg, ev_par, ev_for, ev_fld, ev_gn, ev_gsnil, ev_gscons, ev_gt, ev_mkfn, ev_bok, ev_berr, ev_bfail, ev_tok, ev_hok, ev_ert, ev_enx, ev_wn, ev_wc, ev_e0, ev_sseq, ev_senum, ev_szip, ev_sltup, ev_ltI, ev_leI, ev_gtI, ev_geI, ev_subI, ev_addI, ev_lenT, List.map_cons, List.map_nil, List.length_cons, List.length_nil, List.cons_append, List.nil_append, List.append_nil, List.getElem?_cons_zero, List.getElem?_cons_succ, List.set_cons_zero, List.set_cons_succ, List.replicate_succ, List.replicate_zero, Nat.reduceAdd, Nat.reduceSub, Nat.reduceEqDiff, reduceIte, Bool.true_eq_false, Bool.false_eq_true, if_true, if_false, aa_end, all_id]
            refine ⟨[.lst (xs.map fun x => D.bl (withinD 2 4 x))], ?_⟩
            by_cases ha : xs.all (withinD 2 4) = true
            · simp only [ev_var, ev_c, ev_un, ev_bin, ev_anil, ev_acons, ev_fn, ev_tof, ev_tob, ev_tand, ev_tor, ev_tnot, ev_and, ev_or, ev_not, ev_if, ev_chain, ev_true, ev_slice, ev_onone, ev_osome, ev_iseq, ev_irng, ev_ienum, ev_ibin, ev_lc, ev_skip, ev_never, ev_seq, ev_ret, ev_sif, ev_set, ev_expr, ev_asg, ev_par, ev_for, ev_fld, ev_gn, ev_gsnil, ev_gscons, ev_gt, ev_mkfn, ev_bok, ev_berr, ev_bfail, ev_tok, ev_hok, ev_ert, ev_enx, ev_wn, ev_wc, ev_e0, ev_sseq, ev_senum, ev_szip, ev_sltup, ev_ltI, ev_leI, ev_gtI, ev_geI, ev_subI, ev_addI, ev_lenT, List.map_cons, List.map_nil, List.length_cons, List.length_nil, List.cons_append, List.nil_append, List.append_nil, List.getElem?_cons_zero, List.getElem?_cons_succ, List.set_cons_zero, List.set_cons_succ, List.replicate_succ, List.replicate_zero, Nat.reduceAdd, Nat.reduceSub, Nat.reduceEqDiff, reduceIte, Bool.true_eq_false, Bool.false_eq_true, if_true, if_false, ha, Bool.not_true]
              obtain ⟨c, hw⟩ := walk_prod (st := st ++ [.lst (xs.map fun x => D.bl (withinD 2 4 x))]) (a := some (.tup xs)) (b := none) h3 ha
              rw [hw]
              simp only [ev_var, ev_c, ev_un, ev_bin, ev_anil, ev_acons, ev_fn, ev_tof, ev_tob, ev_tand, ev_tor, ev_tnot, ev_and, ev_or, ev_not, ev_if, ev_chain, ev_true, ev_slice, ev_onone, ev_osome, ev_iseq, ev_irng, ev_ienum, ev_ibin, ev_lc, ev_skip, ev_never, ev_seq, ev_ret, ev_sif, ev_set, ev_expr, ev_asg, ev_par, ev_for, ev_fld, ev_gn, ev_gsnil, ev_gscons, ev_gt, ev_mkfn, ev_bok, ev_berr, ev_bfail, ev_tok, ev_hok, ev_ert, ev_enx, ev_wn, ev_wc, ev_e0, ev_sseq, ev_senum, ev_szip, ev_sltup, ev_ltI, ev_leI, ev_gtI, ev_geI, ev_subI, ev_addI, ev_lenT, List.map_cons, List.map_nil, List.length_cons, List.length_nil, List.cons_append, List.nil_append, List.append_nil, List.getElem?_cons_zero, List.getElem?_cons_succ, List.set_cons_zero, List.set_cons_succ, List.replicate_succ, List.replicate_zero, Nat.reduceAdd, Nat.reduceSub, Nat.reduceEqDiff, reduceIte, Bool.true_eq_false, Bool.false_eq_true, if_true, if_false, wheelsD, ha, h1, h3, decide_true, Bool.true_and]
            · rw [Bool.not_eq_true] at ha
              simp only [ev_var, ev_c, ev_un, ev_bin, ev_anil, ev_acons, ev_fn, ev_tof, ev_tob, ev_tand, ev_tor, ev_tnot, ev_and, ev_or, ev_not, ev_if, ev_chain, ev_true, ev_slice, ev_onone, ev_osome, ev_iseq, ev_irng, ev_ienum, ev_ibin, ev_lc, ev_skip, ev_never, ev_seq, ev_ret, ev_sif, ev_set, ev_expr, ev_asg, ev_par, ev_for, ev_fld, ev_gn, ev_gsnil, ev_gscons, ev_gt, ev_mkfn, ev_bok, ev_berr, ev_bfail, ev_tok, ev_hok, ev_ert, ev_enx, ev_wn, ev_wc, ev_e0, ev_sseq, ev_senum, ev_szip, ev_sltup, ev_ltI, ev_leI, ev_gtI, ev_geI, ev_subI, ev_addI, ev_lenT, List.map_cons, List.map_nil, List.length_cons, List.length_nil, List.cons_append, List.nil_append, List.append_nil, List.getElem?_cons_zero, List.getElem?_cons_succ, List.set_cons_zero, List.set_cons_succ, List.replicate_succ, List.replicate_zero, Nat.reduceAdd, Nat.reduceSub, Nat.reduceEqDiff, reduceIte, Bool.true_eq_false, Bool.false_eq_true, if_true, if_false, ha, Bool.not_false, wheelsD, Bool.and_false, Bool.false_and]
          · have e1 : decide ((1 : Int) ≤ (xs.length : Int)) = true := decide_eq_true (by omega)
            have e3 : decide ((xs.length : Int) ≤ (3 : Int)) = false := decide_eq_false (by omega)
            refine ⟨[], ?_⟩
            simp only [m_is_wheels, b_is_wheels, ev_var, ev_c, ev_un, ev_bin, ev_anil, ev_acons, ev_fn, ev_tof, ev_tob, ev_tand, ev_tor, ev_tnot, ev_and, ev_or, ev_not, ev_if, ev_chain, ev_true, ev_slice, ev_onone, ev_osome, ev_iseq, ev_irng, ev_ienum, ev_ibin, ev_lc, ev_skip, ev_never, ev_seq, ev_ret, ev_sif, ev_set, ev_expr, ev_asg, ev_par, ev_for, ev_fld, ev_gn, ev_gsnil, ev_gscons, ev_gt, ev_mkfn, ev_bok, ev_berr, ev_bfail, ev_tok, ev_hok, ev_ert, ev_enx, ev_wn, ev_wc, ev_e0, ev_sseq, ev_senum, ev_szip, ev_sltup, ev_ltI, ev_leI, ev_gtI, ev_geI, ev_subI, ev_addI, ev_lenT, List.map_cons, List.map_nil, List.length_cons, List.length_nil, List.cons_append, List.nil_append, List.append_nil, List.getElem?_cons_zero, List.getElem?_cons_succ, List.set_cons_zero, List.set_cons_succ, List.replicate_succ, List.replicate_zero, Nat.reduceAdd, Nat.reduceSub, Nat.reduceEqDiff, reduceIte, Bool.true_eq_false, Bool.false_eq_true, if_true, if_false, isi_tup, Bool.not_true, e1, e3, Bool.not_false, wheelsD, decide_eq_false h3, Bool.and_false, Bool.false_and]
        · have e1 : decide ((1 : Int) ≤ (xs.length : Int)) = false := decide_eq_false (by omega)
          refine ⟨[], ?_⟩
          simp only [m_is_wheels, b_is_wheels, ev_var, ev_c, ev_un, ev_bin, ev_anil, ev_acons, ev_fn, ev_tof, ev_tob, ev_tand, ev_tor, ev_tnot, ev_and, ev_or, ev_not, ev_if, ev_chain, ev_true, ev_slice, ev_onone, ev_osome, ev_iseq, ev_irng, ev_ienum, ev_ibin, ev_lc, ev_skip, ev_never, ev_seq, ev_ret, ev_sif, ev_set, ev_expr, ev_asg, ev_par, ev_for, ev_fld, ev_gn, ev_gsnil, ev_gscons, ev_gt, ev_mkfn, ev_bok, ev_berr, ev_bfail, ev_tok, ev_hok, ev_ert, ev_enx, ev_wn, ev_wc, ev_e0, ev_sseq, ev_senum, ev_szip, ev_sltup, ev_ltI, ev_leI, ev_gtI, ev_geI, ev_subI, ev_addI, ev_lenT, List.map_cons, List.map_nil, List.length_cons, List.length_nil, List.cons_append, List.nil_append, List.append_nil, List.getElem?_cons_zero, List.getElem?_cons_succ, List.set_cons_zero, List.set_cons_succ, List.replicate_succ, List.replicate_zero, Nat.reduceAdd, Nat.reduceSub, Nat.reduceEqDiff, reduceIte, Bool.true_eq_false, Bool.false_eq_true, if_true, if_false, isi_tup, Bool.not_true, e1, Bool.not_false, wheelsD, decide_eq_false h1, Bool.false_and]
      | _ =>
        refine ⟨[], ?_⟩
        simp only [m_is_wheels, b_is_wheels, ev_var, ev_c, ev_un, ev_bin, ev_anil, ev_acons, ev_fn, ev_tof, ev_tob, ev_tand, ev_tor, ev_tnot, ev_and, ev_or, ev_not, ev_if, ev_chain, ev_true, ev_slice, ev_onone, ev_osome, ev_iseq, ev_irng, ev_ienum, ev_ibin, ev_lc, ev_skip, ev_never, ev_seq, ev_ret, ev_sif, ev_set, ev_expr, ev_asg, ev_par, ev_for, ev_fld, ev_gn, ev_gsnil, ev_gscons, ev_gt, ev_mkfn, ev_bok, ev_berr, ev_bfail, ev_tok, ev_hok, ev_ert, ev_enx, ev_wn, ev_wc, ev_e0, ev_sseq, ev_senum, ev_szip, ev_sltup, ev_ltI, ev_leI, ev_gtI, ev_geI, ev_subI, ev_addI, ev_lenT, List.map_cons, List.map_nil, List.length_cons, List.length_nil, List.cons_append, List.nil_append, List.append_nil, List.getElem?_cons_zero, List.getElem?_cons_succ, List.set_cons_zero, List.set_cons_succ, List.replicate_succ, List.replicate_zero, Nat.reduceAdd, Nat.reduceSub, Nat.reduceEqDiff, reduceIte, Bool.true_eq_false, Bool.false_eq_true, if_true, if_false, isi_tupD (dk_kn hk)]
        rfl
    · cases h'

def b_is_values : SM := (sSeq (sIf (tOr (tNot (tOf (eUn (dIsi "tuple") (eVar 1)))) (tOf (eBin (dEq true) (eFn fLen (aCons (eVar 1) aNil)) (eFn fLen (aCons (eVar 0) aNil))))) (sRet (eC (.bl false))) sSkip)
    (sRet (eFn (fAA fun bs => bs.all id) (aCons (cLc (iBin zipSrc (eVar 1) (eVar 0)) [2, 3] (gT 2 (gsCons (gN 2) (gsCons (gN 3) gsNil))) tTrue (eFn s_is_below (aCons (eVar 2) (aCons (eVar 3) aNil)))) aNil))))
def m_is_values : Fm := mkFn 2 4 b_is_values
def s_is_values : Fm := obs 2 fun ds st => match ds with
  | [.tup ws, d] => if dk st d = true ∧ (tupsD d).length ≤ most ∧ ws.all isI = true then some (.bl (valuesD ws d)) else none
  | _ => none
theorem a_is_values : Arity 2 s_is_values := obs_ar
theorem values_of {d : D} {st : Sto} {ws : List D} (h : dk st d = true) (hm : (tupsD d).length ≤ most) (hw : ws.all isI = true) : s_is_values [.tup ws, d] st = .ok (.bl (valuesD ws d)) st := obs_ok rfl (if_pos ⟨h, hm, hw⟩)
theorem t_is_values : Tells m_is_values s_is_values := .obs fun ds st d g b hl h => by
  match ds, hl, h with
  | [.tup ws, x], _, h =>
    have h' : (if dk st x = true ∧ (tupsD x).length ≤ most ∧ ws.all isI = true then some (D.bl (valuesD ws x)) else none) = some d := h
    split at h'
    · rename_i hk
      cases h'
      obtain ⟨hk, hm, hw⟩ := hk
      refine ⟨by simp only [Bnd], ?_⟩
      cases x with
      | tup xs =>
        have hx := dk_tup hk
        have hm : xs.length ≤ most := hm
        simp only [m_is_values, b_is_values, ev_var, ev_c, ev_un, ev_bin, ev_anil, ev_acons, ev_fn, ev_tof, ev_tob, ev_tand, ev_tor, ev_tnot, ev_and, ev_or, ev_not, ev_if, ev_chain, ev_true, ev_slice, ev_onone, ev_osome, ev_iseq, ev_irng, ev_ienum, ev_ibin, ev_lc, ev_skip, ev_never, ev_seq, ev_ret, ev_sif, ev_set, ev_expr, ev_asg, ev_par, ev_for, ev_fld, ev_gn, ev_gsnil, ev_gscons, ev_gt, ev_mkfn, ev_bok, ev_berr, ev_bfail, ev_tok, ev_hok, ev_ert, ev_enx, ev_wn, ev_wc, ev_e0, ev_sseq, ev_senum, ev_szip, ev_sltup, ev_ltI, ev_leI, ev_gtI, ev_geI, ev_subI, ev_addI, ev_lenT, List.map_cons, List.map_nil, List.length_cons, List.length_nil, List.cons_append, List.nil_append, List.append_nil, List.getElem?_cons_zero, List.getElem?_cons_succ, List.set_cons_zero, List.set_cons_succ, List.replicate_succ, List.replicate_zero, Nat.reduceAdd, Nat.reduceSub, Nat.reduceEqDiff, reduceIte, Bool.true_eq_false, Bool.false_eq_true, if_true, if_false, isi_tup, Bool.not_true, eqI]
        by_cases hl : xs.length = ws.length
        · have e : ((xs.length : Int) == (ws.length : Int)) = true := by simp [hl]
          simp only [ev_var, ev_c, ev_un, ev_bin, ev_anil, ev_acons, ev_fn, ev_tof, ev_tob, ev_tand, ev_tor, ev_tnot, ev_and, ev_or, ev_not, ev_if, ev_chain, ev_true, ev_slice, ev_onone, ev_osome, ev_iseq, ev_irng, ev_ienum, ev_ibin, ev_lc, ev_skip, ev_never, ev_seq, ev_ret, ev_sif, ev_set, ev_expr, ev_asg, ev_par, ev_for, ev_fld, ev_gn, ev_gsnil, ev_gscons, ev_gt, ev_mkfn, ev_bok, ev_berr, ev_bfail, ev_tok, ev_hok, ev_ert, ev_enx, ev_wn, ev_wc, ev_e0, ev_sseq, ev_senum, ev_szip, ev_sltup, ev_ltI, ev_leI, ev_gtI, ev_geI, ev_subI, ev_addI, ev_lenT, List.map_cons, List.map_nil, List.length_cons, List.length_nil, List.cons_append, List.nil_append, List.append_nil, List.getElem?_cons_zero, List.getElem?_cons_succ, List.set_cons_zero, List.set_cons_succ, List.replicate_succ, List.replicate_zero, Nat.reduceAdd, Nat.reduceSub, Nat.reduceEqDiff, reduceIte, Bool.true_eq_false, Bool.false_eq_true, if_true, if_false, e, Bool.not_true]
          rw [startLc_map (f := fun p => .bl (withinD 0 (wI (sndD p) - 1) (fstD p))) rfl (by rw [List.length_zipWith]; omega) fun p h2 acc => ?_]
          · simp only [ev_var, ev_c, ev_un, ev_bin, ev_anil, ev_acons, ev_fn, ev_tof, ev_tob, ev_tand, ev_tor, ev_tnot, ev_and, ev_or, ev_not, ev_if, ev_chain, ev_true, ev_slice, ev_onone, ev_osome, ev_iseq, ev_irng, ev_ienum, ev_ibin, ev_lc, ev_skip, ev_never, ev_seq, ev_ret, ev_sif, ev_set, ev_expr, ev_asg, ev_par, ev_for, ev_fld, ev_gn, ev_gsnil, ev_gscons, ev_gt, ev_mkfn, ev_bok, ev_berr, ev_bfail, ev_tok, ev_hok, ev_ert, ev_enx, ev_wn, ev_wc, ev_e0, ev_sseq, ev_senum, ev_szip, ev_sltup, ev_ltI, ev_leI, ev_gtI, ev_geI, ev_subI, ev_addI, ev_lenT, List.map_cons, List.map_nil, List.length_cons, List.length_nil, List.cons_append, List.nil_append, List.append_nil, List.getElem?_cons_zero, List.getElem?_cons_succ, List.set_cons_zero, List.set_cons_succ, List.replicate_succ, List.replicate_zero, Nat.reduceAdd, Nat.reduceSub, Nat.reduceEqDiff, reduceIte, Bool.true_eq_false, Bool.false_eq_true, if_true, if_false, aa_end]
            refine ⟨_, by congr 2; rw [List.map_zipWith]; simp only [valuesD, pairD, fstD, sndD, hl, decide_true, Bool.true_and]⟩
          · obtain ⟨i, hi2⟩ := List.getElem?_of_mem h2
            obtain ⟨x, y, h3, h4, rfl⟩ := zip_get hi2
            have hy := isI_eq (List.all_eq_true.mp hw y (List.mem_of_getElem? h4))
            refine ⟨_, rfl, ?_⟩
            rw [hy]
            simp only [ev_var, ev_c, ev_un, ev_bin, ev_anil, ev_acons, ev_fn, ev_tof, ev_tob, ev_tand, ev_tor, ev_tnot, ev_and, ev_or, ev_not, ev_if, ev_chain, ev_true, ev_slice, ev_onone, ev_osome, ev_iseq, ev_irng, ev_ienum, ev_ibin, ev_lc, ev_skip, ev_never, ev_seq, ev_ret, ev_sif, ev_set, ev_expr, ev_asg, ev_par, ev_for, ev_fld, ev_gn, ev_gsnil, ev_gscons, ev_gt, ev_mkfn, ev_bok, ev_berr, ev_bfail, ev_tok, ev_hok, ev_ert, ev_enx, ev_wn, ev_wc, ev_e0, ev_sseq, ev_senum, ev_szip, ev_sltup, ev_ltI, ev_leI, ev_gtI, ev_geI, ev_subI, ev_addI, ev_lenT, List.map_cons, List.map_nil, List.length_cons, List.length_nil, List.cons_append, List.nil_append, List.append_nil, List.getElem?_cons_zero, List.getElem?_cons_succ, List.set_cons_zero, List.set_cons_succ, List.replicate_succ, List.replicate_zero, Nat.reduceAdd, Nat.reduceSub, Nat.reduceEqDiff, reduceIte, Bool.true_eq_false, Bool.false_eq_true, if_true, if_false, below_of (kn_app (dk_kn (hx x (List.mem_of_getElem? h3)))), fstD, sndD, wI]
        · have e : ((xs.length : Int) == (ws.length : Int)) = false := by simp; omega
          simp only [ev_var, ev_c, ev_un, ev_bin, ev_anil, ev_acons, ev_fn, ev_tof, ev_tob, ev_tand, ev_tor, ev_tnot, ev_and, ev_or, ev_not, ev_if, ev_chain, ev_true, ev_slice, ev_onone, ev_osome, ev_iseq, ev_irng, ev_ienum, ev_ibin, ev_lc, ev_skip, ev_never, ev_seq, ev_ret, ev_sif, ev_set, ev_expr, ev_asg, ev_par, ev_for, ev_fld, ev_gn, ev_gsnil, ev_gscons, ev_gt, ev_mkfn, ev_bok, ev_berr, ev_bfail, ev_tok, ev_hok, ev_ert, ev_enx, ev_wn, ev_wc, ev_e0, ev_sseq, ev_senum, ev_szip, ev_sltup, ev_ltI, ev_leI, ev_gtI, ev_geI, ev_subI, ev_addI, ev_lenT, List.map_cons, List.map_nil, List.length_cons, List.length_nil, List.cons_append, List.nil_append, List.append_nil, List.getElem?_cons_zero, List.getElem?_cons_succ, List.set_cons_zero, List.set_cons_succ, List.replicate_succ, List.replicate_zero, Nat.reduceAdd, Nat.reduceSub, Nat.reduceEqDiff, reduceIte, Bool.true_eq_false, Bool.false_eq_true, if_true, if_false, e, Bool.not_false]
          refine ⟨[], ?_⟩
          simp [valuesD, hl]
      | _ =>
        refine ⟨[], ?_⟩
        simp only [m_is_values, b_is_values, ev_var, ev_c, ev_un, ev_bin, ev_anil, ev_acons, ev_fn, ev_tof, ev_tob, ev_tand, ev_tor, ev_tnot, ev_and, ev_or, ev_not, ev_if, ev_chain, ev_true, ev_slice, ev_onone, ev_osome, ev_iseq, ev_irng, ev_ienum, ev_ibin, ev_lc, ev_skip, ev_never, ev_seq, ev_ret, ev_sif, ev_set, ev_expr, ev_asg, ev_par, ev_for, ev_fld, ev_gn, ev_gsnil, ev_gscons, ev_gt, ev_mkfn, ev_bok, ev_berr, ev_bfail, ev_tok, ev_hok, ev_ert, ev_enx, ev_wn, ev_wc, ev_e0, ev_sseq, ev_senum, ev_szip, ev_sltup, ev_ltI, ev_leI, ev_gtI, ev_geI, ev_subI, ev_addI, ev_lenT, List.map_cons, List.map_nil, List.length_cons, List.length_nil, List.cons_append, List.nil_append, List.append_nil, List.getElem?_cons_zero, List.getElem?_cons_succ, List.set_cons_zero, List.set_cons_succ, List.replicate_succ, List.replicate_zero, Nat.reduceAdd, Nat.reduceSub, Nat.reduceEqDiff, reduceIte, Bool.true_eq_false, Bool.false_eq_true, if_true, if_false, isi_tupD (dk_kn hk)]
        rfl
    · cases h'

def b_is_left : SM := (sSeq (sIf (tOr (tNot (tOf (eUn (dIsi "tuple") (eVar 1)))) (tOf (eBin (dEq true) (eFn fLen (aCons (eVar 1) aNil)) (eVar 0)))) (sRet (eC (.bl false))) sSkip)
    (sRet (eFn (fAA fun bs => bs.all id) (aCons (cLc (iSeq (eVar 1)) [2] (gN 2) tTrue (eFn s_is_within (aCons (eVar 2) (aCons (eC (.int 0)) (aCons (eC (.int 2)) aNil))))) aNil))))
def m_is_left : Fm := mkFn 2 3 b_is_left
def s_is_left : Fm := obs 2 fun ds st => match ds with
  | [.int n, d] => if dk st d = true ∧ (tupsD d).length ≤ most ∧ 0 ≤ n then some (.bl (leftD n.toNat d)) else none
  | _ => none
theorem a_is_left : Arity 2 s_is_left := obs_ar
theorem left_of {d : D} {st : Sto} {n : Nat} (h : dk st d = true) (hm : (tupsD d).length ≤ most) : s_is_left [.int n, d] st = .ok (.bl (leftD n d)) st := obs_ok rfl (if_pos ⟨h, hm, Int.natCast_nonneg n⟩)
theorem t_is_left : Tells m_is_left s_is_left := .obs fun ds st d g b hl h => by
  match ds, hl, h with
  | [.int n, x], _, h =>
    have h' : (if dk st x = true ∧ (tupsD x).length ≤ most ∧ 0 ≤ n then some (D.bl (leftD n.toNat x)) else none) = some d := h
    split at h'
    · rename_i hk
      cases h'
      obtain ⟨hk, hm, hn⟩ := hk
      obtain ⟨k, rfl⟩ := Int.eq_ofNat_of_zero_le hn
      refine ⟨by simp only [Bnd], ?_⟩
      cases x with
      | tup xs =>
        have hx := dk_tup hk
        have hm : xs.length ≤ most := hm
        simp only [m_is_left, b_is_left, ev_var, ev_c, ev_un, ev_bin, ev_anil, ev_acons, ev_fn, ev_tof, ev_tob, ev_tand, ev_tor, ev_tnot, ev_and, ev_or, ev_not, ev_if, ev_chain, ev_true, ev_slice, ev_onone, ev_osome, ev_iseq, ev_irng, ev_ienum, ev_ibin, ev_lc, ev_skip, ev_never, ev_seq, ev_ret, ev_sif, ev_set, ev_expr, ev_asg, ev_par, ev_for, ev_fld, ev_gn, ev_gsnil, ev_gscons, ev_gt, ev_mkfn, ev_bok, ev_berr, ev_bfail, ev_tok, ev_hok, ev_ert, ev_enx, ev_wn, ev_wc, ev_e0, ev_sseq, ev_senum, ev_szip, ev_sltup, ev_ltI, ev_leI, ev_gtI, ev_geI, ev_subI, ev_addI, ev_lenT, List.map_cons, List.map_nil, List.length_cons, List.length_nil, List.cons_append, List.nil_append, List.append_nil, List.getElem?_cons_zero, List.getElem?_cons_succ, List.set_cons_zero, List.set_cons_succ, List.replicate_succ, List.replicate_zero, Nat.reduceAdd, Nat.reduceSub, Nat.reduceEqDiff, reduceIte, Bool.true_eq_false, Bool.false_eq_true, if_true, if_false, isi_tup, Bool.not_true, eqI]
        by_cases hl : xs.length = k
        · have e : ((xs.length : Int) == (k : Int)) = true := by simp [hl]
          simp only [ev_var, ev_c, ev_un, ev_bin, ev_anil, ev_acons, ev_fn, ev_tof, ev_tob, ev_tand, ev_tor, ev_tnot, ev_and, ev_or, ev_not, ev_if, ev_chain, ev_true, ev_slice, ev_onone, ev_osome, ev_iseq, ev_irng, ev_ienum, ev_ibin, ev_lc, ev_skip, ev_never, ev_seq, ev_ret, ev_sif, ev_set, ev_expr, ev_asg, ev_par, ev_for, ev_fld, ev_gn, ev_gsnil, ev_gscons, ev_gt, ev_mkfn, ev_bok, ev_berr, ev_bfail, ev_tok, ev_hok, ev_ert, ev_enx, ev_wn, ev_wc, ev_e0, ev_sseq, ev_senum, ev_szip, ev_sltup, ev_ltI, ev_leI, ev_gtI, ev_geI, ev_subI, ev_addI, ev_lenT, List.map_cons, List.map_nil, List.length_cons, List.length_nil, List.cons_append, List.nil_append, List.append_nil, List.getElem?_cons_zero, List.getElem?_cons_succ, List.set_cons_zero, List.set_cons_succ, List.replicate_succ, List.replicate_zero, Nat.reduceAdd, Nat.reduceSub, Nat.reduceEqDiff, reduceIte, Bool.true_eq_false, Bool.false_eq_true, if_true, if_false, e, Bool.not_true]
          rw [startLc_map (f := fun x => .bl (withinD 0 2 x)) rfl hm fun x h2 acc => ⟨_, rfl, by simp only [ev_var, ev_c, ev_un, ev_bin, ev_anil, ev_acons, ev_fn, ev_tof, ev_tob, ev_tand, ev_tor, ev_tnot, ev_and, ev_or, ev_not, ev_if, ev_chain, ev_true, ev_slice, ev_onone, ev_osome, ev_iseq, ev_irng, ev_ienum, ev_ibin, ev_lc, ev_skip, ev_never, ev_seq, ev_ret, ev_sif, ev_set, ev_expr, ev_asg, ev_par, ev_for, ev_fld, ev_gn, ev_gsnil, ev_gscons, ev_gt, ev_mkfn, ev_bok, ev_berr, ev_bfail, ev_tok, ev_hok, ev_ert, ev_enx, ev_wn, ev_wc, ev_e0, ev_sseq, ev_senum, ev_szip, ev_sltup, ev_ltI, ev_leI, ev_gtI, ev_geI, ev_subI, ev_addI, ev_lenT, List.map_cons, List.map_nil, List.length_cons, List.length_nil, List.cons_append, List.nil_append, List.append_nil, List.getElem?_cons_zero, List.getElem?_cons_succ, List.set_cons_zero, List.set_cons_succ, List.replicate_succ, List.replicate_zero, Nat.reduceAdd, Nat.reduceSub, Nat.reduceEqDiff, reduceIte, Bool.true_eq_false, Bool.false_eq_true, if_true, if_false, within_of (kn_app (dk_kn (hx x h2)))]⟩]
          simp only [ev_var, ev_c, ev_un, ev_bin, ev_anil, ev_acons, ev_fn, ev_tof, ev_tob, ev_tand, ev_tor, ev_tnot, ev_and, ev_or, ev_not, ev_if, ev_chain, ev_true, ev_slice, ev_onone, ev_osome, ev_iseq, ev_irng, ev_ienum, ev_ibin, ev_lc, ev_skip, ev_never, ev_seq, ev_ret, ev_sif, ev_set, ev_expr, ev_asg, ev_par, ev_for, ev_fld, ev_gn, ev_gsnil, ev_gscons, ev_gt, ev_mkfn, ev_bok, ev_berr, ev_bfail, ev_tok, ev_hok, ev_ert, ev_enx, ev_wn, ev_wc, ev_e0, ev_sseq, ev_senum, ev_szip, ev_sltup, ev_ltI, ev_leI, ev_gtI, ev_geI, ev_subI, ev_addI, ev_lenT, List.map_cons, List.map_nil, List.length_cons, List.length_nil, List.cons_append, List.nil_append, List.append_nil, List.getElem?_cons_zero, List.getElem?_cons_succ, List.set_cons_zero, List.set_cons_succ, List.replicate_succ, List.replicate_zero, Nat.reduceAdd, Nat.reduceSub, Nat.reduceEqDiff, reduceIte, Bool.true_eq_false, Bool.false_eq_true, if_true, if_false, aa_end]
          refine ⟨_, by congr 2; simp only [leftD, all_id, Int.toNat_natCast, hl, decide_true, Bool.true_and]⟩
        · have e : ((xs.length : Int) == (k : Int)) = false := by simp; omega
          simp only [ev_var, ev_c, ev_un, ev_bin, ev_anil, ev_acons, ev_fn, ev_tof, ev_tob, ev_tand, ev_tor, ev_tnot, ev_and, ev_or, ev_not, ev_if, ev_chain, ev_true, ev_slice, ev_onone, ev_osome, ev_iseq, ev_irng, ev_ienum, ev_ibin, ev_lc, ev_skip, ev_never, ev_seq, ev_ret, ev_sif, ev_set, ev_expr, ev_asg, ev_par, ev_for, ev_fld, ev_gn, ev_gsnil, ev_gscons, ev_gt, ev_mkfn, ev_bok, ev_berr, ev_bfail, ev_tok, ev_hok, ev_ert, ev_enx, ev_wn, ev_wc, ev_e0, ev_sseq, ev_senum, ev_szip, ev_sltup, ev_ltI, ev_leI, ev_gtI, ev_geI, ev_subI, ev_addI, ev_lenT, List.map_cons, List.map_nil, List.length_cons, List.length_nil, List.cons_append, List.nil_append, List.append_nil, List.getElem?_cons_zero, List.getElem?_cons_succ, List.set_cons_zero, List.set_cons_succ, List.replicate_succ, List.replicate_zero, Nat.reduceAdd, Nat.reduceSub, Nat.reduceEqDiff, reduceIte, Bool.true_eq_false, Bool.false_eq_true, if_true, if_false, e, Bool.not_false]
          refine ⟨[], ?_⟩
          simp [leftD, hl]
      | _ =>
        refine ⟨[], ?_⟩
        simp only [m_is_left, b_is_left, ev_var, ev_c, ev_un, ev_bin, ev_anil, ev_acons, ev_fn, ev_tof, ev_tob, ev_tand, ev_tor, ev_tnot, ev_and, ev_or, ev_not, ev_if, ev_chain, ev_true, ev_slice, ev_onone, ev_osome, ev_iseq, ev_irng, ev_ienum, ev_ibin, ev_lc, ev_skip, ev_never, ev_seq, ev_ret, ev_sif, ev_set, ev_expr, ev_asg, ev_par, ev_for, ev_fld, ev_gn, ev_gsnil, ev_gscons, ev_gt, ev_mkfn, ev_bok, ev_berr, ev_bfail, ev_tok, ev_hok, ev_ert, ev_enx, ev_wn, ev_wc, ev_e0, ev_sseq, ev_senum, ev_szip, ev_sltup, ev_ltI, ev_leI, ev_gtI, ev_geI, ev_subI, ev_addI, ev_lenT, List.map_cons, List.map_nil, List.length_cons, List.length_nil, List.cons_append, List.nil_append, List.append_nil, List.getElem?_cons_zero, List.getElem?_cons_succ, List.set_cons_zero, List.set_cons_succ, List.replicate_succ, List.replicate_zero, Nat.reduceAdd, Nat.reduceSub, Nat.reduceEqDiff, reduceIte, Bool.true_eq_false, Bool.false_eq_true, if_true, if_false, isi_tupD (dk_kn hk)]
        rfl
    · cases h'

def b_is_state_of : SM := (sSeq (sIf (tOr (tNot (tOf (eUn (dIsi "tuple") (eVar 1)))) (tOf (eBin (dEq true) (eFn fLen (aCons (eVar 1) aNil)) (eC (.int 2))))) (sRet (eC (.bl false))) sSkip)
    (sRet (eAnd (eFn s_is_values (aCons (eUn (dFld "Book" "wheels") (eVar 0)) (aCons (eBin dIx (eVar 1) (eC (.int 0))) aNil))) (eFn s_is_left (aCons (eFn fLen (aCons (eUn (dFld "Book" "rules") (eVar 0)) aNil)) (aCons (eBin dIx (eVar 1) (eC (.int 1))) aNil))))))
def m_is_state_of : Fm := mkFn 2 2 b_is_state_of
def s_is_state_of : Fm := obs 2 fun ds st => match ds with
  | [bk, d] => match bookD st bk with
    | some (ws, rs) => if dk st d = true ∧ smallD d = true ∧ ws.all isI = true then some (.bl (stateD ws rs.length d)) else none
    | none => none
  | _ => none
theorem a_is_state_of : Arity 2 s_is_state_of := obs_ar
theorem state_of {d bk : D} {st : Sto} {ws rs : List D} (hb : bookD st bk = some (ws, rs)) (h : dk st d = true) (hs : smallD d = true) (hw : ws.all isI = true) : s_is_state_of [bk, d] st = .ok (.bl (stateD ws rs.length d)) st := by
  refine obs_ok rfl ?_
  show (match bookD st bk with | some (ws, rs) => if dk st d = true ∧ smallD d = true ∧ ws.all isI = true then some (D.bl (stateD ws rs.length d)) else none | none => none) = _
  rw [hb]
  exact if_pos ⟨h, hs, hw⟩
theorem t_is_state_of : Tells m_is_state_of s_is_state_of := .obs fun ds st d g b hl h => by
  match ds, hl, h with
  | [bk, x], _, h =>
    have h' : (match bookD st bk with | some (ws, rs) => if dk st x = true ∧ smallD x = true ∧ ws.all isI = true then some (D.bl (stateD ws rs.length x)) else none | none => none) = some d := h
    cases hb : bookD st bk with
    | none => rw [hb] at h'; cases h'
    | some q =>
      obtain ⟨ws, rs⟩ := q
      rw [hb] at h'
      simp only at h'
      split at h'
      · rename_i hk
        cases h'
        obtain ⟨hk, hs, hw⟩ := hk
        refine ⟨by simp only [Bnd], [], ?_⟩
        have hw1 := book_wheels hb
        have hr1 := book_rules hb
        cases x with
        | tup xs =>
          have hx := dk_tup hk
          by_cases hl2 : xs.length = 2
          · obtain ⟨x, y, rfl⟩ := len2 hl2
            have hs2 := small2 hs
            have ev1 := values_of (ws := ws) (hx x (by simp)) hs2.1 hw
            have ev2 := left_of (n := rs.length) (hx y (by simp)) hs2.2
            simp only [m_is_state_of, b_is_state_of, ev_var, ev_c, ev_un, ev_bin, ev_anil, ev_acons, ev_fn, ev_tof, ev_tob, ev_tand, ev_tor, ev_tnot, ev_and, ev_or, ev_not, ev_if, ev_chain, ev_true, ev_slice, ev_onone, ev_osome, ev_iseq, ev_irng, ev_ienum, ev_ibin, ev_lc, ev_skip, ev_never, ev_seq, ev_ret, ev_sif, ev_set, ev_expr, ev_asg, ev_par, ev_for, ev_fld, ev_gn, ev_gsnil, ev_gscons, ev_gt, ev_mkfn, ev_bok, ev_berr, ev_bfail, ev_tok, ev_hok, ev_ert, ev_enx, ev_wn, ev_wc, ev_e0, ev_sseq, ev_senum, ev_szip, ev_sltup, ev_ltI, ev_leI, ev_gtI, ev_geI, ev_subI, ev_addI, ev_lenT, List.map_cons, List.map_nil, List.length_cons, List.length_nil, List.cons_append, List.nil_append, List.append_nil, List.getElem?_cons_zero, List.getElem?_cons_succ, List.set_cons_zero, List.set_cons_succ, List.replicate_succ, List.replicate_zero, Nat.reduceAdd, Nat.reduceSub, Nat.reduceEqDiff, reduceIte, Bool.true_eq_false, Bool.false_eq_true, if_true, if_false, isi_tup, Bool.not_true, Int.cast_ofNat_Int, eqI, beq_self_eq_true, dIx, seqOf, atI2_0, atI2_1, hw1, hr1, ev1]
            cases hv : valuesD ws x with
            | false => simp only [ev_var, ev_c, ev_un, ev_bin, ev_anil, ev_acons, ev_fn, ev_tof, ev_tob, ev_tand, ev_tor, ev_tnot, ev_and, ev_or, ev_not, ev_if, ev_chain, ev_true, ev_slice, ev_onone, ev_osome, ev_iseq, ev_irng, ev_ienum, ev_ibin, ev_lc, ev_skip, ev_never, ev_seq, ev_ret, ev_sif, ev_set, ev_expr, ev_asg, ev_par, ev_for, ev_fld, ev_gn, ev_gsnil, ev_gscons, ev_gt, ev_mkfn, ev_bok, ev_berr, ev_bfail, ev_tok, ev_hok, ev_ert, ev_enx, ev_wn, ev_wc, ev_e0, ev_sseq, ev_senum, ev_szip, ev_sltup, ev_ltI, ev_leI, ev_gtI, ev_geI, ev_subI, ev_addI, ev_lenT, List.map_cons, List.map_nil, List.length_cons, List.length_nil, List.cons_append, List.nil_append, List.append_nil, List.getElem?_cons_zero, List.getElem?_cons_succ, List.set_cons_zero, List.set_cons_succ, List.replicate_succ, List.replicate_zero, Nat.reduceAdd, Nat.reduceSub, Nat.reduceEqDiff, reduceIte, Bool.true_eq_false, Bool.false_eq_true, if_true, if_false, stateD, hv, Bool.false_and]
            | true => simp only [ev_var, ev_c, ev_un, ev_bin, ev_anil, ev_acons, ev_fn, ev_tof, ev_tob, ev_tand, ev_tor, ev_tnot, ev_and, ev_or, ev_not, ev_if, ev_chain, ev_true, ev_slice, ev_onone, ev_osome, ev_iseq, ev_irng, ev_ienum, ev_ibin, ev_lc, ev_skip, ev_never, ev_seq, ev_ret, ev_sif, ev_set, ev_expr, ev_asg, ev_par, ev_for, ev_fld, ev_gn, ev_gsnil, ev_gscons, ev_gt, ev_mkfn, ev_bok, ev_berr, ev_bfail, ev_tok, ev_hok, ev_ert, ev_enx, ev_wn, ev_wc, ev_e0, ev_sseq, ev_senum, ev_szip, ev_sltup, ev_ltI, ev_leI, ev_gtI, ev_geI, ev_subI, ev_addI, ev_lenT, List.map_cons, List.map_nil, List.length_cons, List.length_nil, List.cons_append, List.nil_append, List.append_nil, List.getElem?_cons_zero, List.getElem?_cons_succ, List.set_cons_zero, List.set_cons_succ, List.replicate_succ, List.replicate_zero, Nat.reduceAdd, Nat.reduceSub, Nat.reduceEqDiff, reduceIte, Bool.true_eq_false, Bool.false_eq_true, if_true, if_false, dIx, seqOf, atI2_1, hr1, ev2, stateD, hv, Bool.true_and]
          · have e : decide ((xs.length : Int) = 2) = false := decide_eq_false (by omega)
            simp only [m_is_state_of, b_is_state_of, ev_var, ev_c, ev_un, ev_bin, ev_anil, ev_acons, ev_fn, ev_tof, ev_tob, ev_tand, ev_tor, ev_tnot, ev_and, ev_or, ev_not, ev_if, ev_chain, ev_true, ev_slice, ev_onone, ev_osome, ev_iseq, ev_irng, ev_ienum, ev_ibin, ev_lc, ev_skip, ev_never, ev_seq, ev_ret, ev_sif, ev_set, ev_expr, ev_asg, ev_par, ev_for, ev_fld, ev_gn, ev_gsnil, ev_gscons, ev_gt, ev_mkfn, ev_bok, ev_berr, ev_bfail, ev_tok, ev_hok, ev_ert, ev_enx, ev_wn, ev_wc, ev_e0, ev_sseq, ev_senum, ev_szip, ev_sltup, ev_ltI, ev_leI, ev_gtI, ev_geI, ev_subI, ev_addI, ev_lenT, List.map_cons, List.map_nil, List.length_cons, List.length_nil, List.cons_append, List.nil_append, List.append_nil, List.getElem?_cons_zero, List.getElem?_cons_succ, List.set_cons_zero, List.set_cons_succ, List.replicate_succ, List.replicate_zero, Nat.reduceAdd, Nat.reduceSub, Nat.reduceEqDiff, reduceIte, Bool.true_eq_false, Bool.false_eq_true, if_true, if_false, isi_tup, Bool.not_true, eqN, e, Bool.not_false]
            congr 2
            unfold stateD
            split
            · rename_i q
              cases q
              exact absurd rfl hl2
            · rfl
        | _ =>
          simp only [m_is_state_of, b_is_state_of, ev_var, ev_c, ev_un, ev_bin, ev_anil, ev_acons, ev_fn, ev_tof, ev_tob, ev_tand, ev_tor, ev_tnot, ev_and, ev_or, ev_not, ev_if, ev_chain, ev_true, ev_slice, ev_onone, ev_osome, ev_iseq, ev_irng, ev_ienum, ev_ibin, ev_lc, ev_skip, ev_never, ev_seq, ev_ret, ev_sif, ev_set, ev_expr, ev_asg, ev_par, ev_for, ev_fld, ev_gn, ev_gsnil, ev_gscons, ev_gt, ev_mkfn, ev_bok, ev_berr, ev_bfail, ev_tok, ev_hok, ev_ert, ev_enx, ev_wn, ev_wc, ev_e0, ev_sseq, ev_senum, ev_szip, ev_sltup, ev_ltI, ev_leI, ev_gtI, ev_geI, ev_subI, ev_addI, ev_lenT, List.map_cons, List.map_nil, List.length_cons, List.length_nil, List.cons_append, List.nil_append, List.append_nil, List.getElem?_cons_zero, List.getElem?_cons_succ, List.set_cons_zero, List.set_cons_succ, List.replicate_succ, List.replicate_zero, Nat.reduceAdd, Nat.reduceSub, Nat.reduceEqDiff, reduceIte, Bool.true_eq_false, Bool.false_eq_true, if_true, if_false, isi_tupD (dk_kn hk)]
          rfl
      · cases h'

def b_is_beats : SM := (sRet (eFn s_is_within (aCons (eVar 0) (aCons (eVar 1) (aCons (eC (.int 999999999999999999999999999999999999999999999999999999999999)) aNil)))))
def m_is_beats : Fm := mkFn 2 2 b_is_beats
def s_is_beats : Fm := obs 2 fun ds st => match ds with
  | [d, .int lo] => if kn st d = true then some (.bl (withinD lo 999999999999999999999999999999999999999999999999999999999999 d)) else none
  | _ => none
theorem a_is_beats : Arity 2 s_is_beats := obs_ar
theorem beats_of {d : D} {st : Sto} {lo : Int} (h : kn st d = true) : s_is_beats [d, .int lo] st = .ok (.bl (withinD lo 999999999999999999999999999999999999999999999999999999999999 d)) st := obs_ok rfl (if_pos h)
theorem t_is_beats : Tells m_is_beats s_is_beats := .obs fun ds st d g b hl h => by
  match ds, hl, h with
  | [x, .int lo], _, h =>
    have h' : (if kn st x = true then some (D.bl (withinD lo 999999999999999999999999999999999999999999999999999999999999 x)) else none) = some d := h
    split at h'
    · rename_i hk
      cases h'
      refine ⟨by simp only [Bnd], [], ?_⟩
      simp only [m_is_beats, b_is_beats, ev_var, ev_c, ev_un, ev_bin, ev_anil, ev_acons, ev_fn, ev_tof, ev_tob, ev_tand, ev_tor, ev_tnot, ev_and, ev_or, ev_not, ev_if, ev_chain, ev_true, ev_slice, ev_onone, ev_osome, ev_iseq, ev_irng, ev_ienum, ev_ibin, ev_lc, ev_skip, ev_never, ev_seq, ev_ret, ev_sif, ev_set, ev_expr, ev_asg, ev_par, ev_for, ev_fld, ev_gn, ev_gsnil, ev_gscons, ev_gt, ev_mkfn, ev_bok, ev_berr, ev_bfail, ev_tok, ev_hok, ev_ert, ev_enx, ev_wn, ev_wc, ev_e0, ev_sseq, ev_senum, ev_szip, ev_sltup, ev_ltI, ev_leI, ev_gtI, ev_geI, ev_subI, ev_addI, ev_lenT, List.map_cons, List.map_nil, List.length_cons, List.length_nil, List.cons_append, List.nil_append, List.append_nil, List.getElem?_cons_zero, List.getElem?_cons_succ, List.set_cons_zero, List.set_cons_succ, List.replicate_succ, List.replicate_zero, Nat.reduceAdd, Nat.reduceSub, Nat.reduceEqDiff, reduceIte, Bool.true_eq_false, Bool.false_eq_true, if_true, if_false, within_of hk]
    · cases h'

def b_want_state : SM := (sIf (tNot (tOf (eFn s_is_state_of (aCons (eVar 0) (aCons (eVar 1) aNil))))) sNever sSkip)
def m_want_state : Fm := mkFn 2 2 b_want_state
def s_want_state : Fm := obs 2 fun ds st => match ds with
  | [bk, d] => match bookD st bk with
    | some (ws, rs) => if dk st d = true ∧ smallD d = true ∧ ws.all isI = true ∧ stateD ws rs.length d = true then some .non else none
    | none => none
  | _ => none
theorem a_want_state : Arity 2 s_want_state := obs_ar
theorem want_state_of {d bk : D} {st : Sto} {ws rs : List D} (hb : bookD st bk = some (ws, rs)) (h : dk st d = true) (hs : smallD d = true) (hw : ws.all isI = true) (ht : stateD ws rs.length d = true) : s_want_state [bk, d] st = .ok .non st := by
  refine obs_ok rfl ?_
  show (match bookD st bk with | some (ws, rs) => if dk st d = true ∧ smallD d = true ∧ ws.all isI = true ∧ stateD ws rs.length d = true then some D.non else none | none => none) = _
  rw [hb]
  exact if_pos ⟨h, hs, hw, ht⟩
theorem t_want_state : Tells m_want_state s_want_state := .obs fun ds st d g b hl h => by
  match ds, hl, h with
  | [bk, x], _, h =>
    have h' : (match bookD st bk with | some (ws, rs) => if dk st x = true ∧ smallD x = true ∧ ws.all isI = true ∧ stateD ws rs.length x = true then some D.non else none | none => none) = some d := h
    cases hb : bookD st bk with
    | none => rw [hb] at h'; cases h'
    | some q =>
      obtain ⟨ws, rs⟩ := q
      rw [hb] at h'
      simp only at h'
      split at h'
      · rename_i hk
        cases h'
        refine ⟨by simp only [Bnd], [], ?_⟩
        simp only [m_want_state, b_want_state, ev_var, ev_c, ev_un, ev_bin, ev_anil, ev_acons, ev_fn, ev_tof, ev_tob, ev_tand, ev_tor, ev_tnot, ev_and, ev_or, ev_not, ev_if, ev_chain, ev_true, ev_slice, ev_onone, ev_osome, ev_iseq, ev_irng, ev_ienum, ev_ibin, ev_lc, ev_skip, ev_never, ev_seq, ev_ret, ev_sif, ev_set, ev_expr, ev_asg, ev_par, ev_for, ev_fld, ev_gn, ev_gsnil, ev_gscons, ev_gt, ev_mkfn, ev_bok, ev_berr, ev_bfail, ev_tok, ev_hok, ev_ert, ev_enx, ev_wn, ev_wc, ev_e0, ev_sseq, ev_senum, ev_szip, ev_sltup, ev_ltI, ev_leI, ev_gtI, ev_geI, ev_subI, ev_addI, ev_lenT, List.map_cons, List.map_nil, List.length_cons, List.length_nil, List.cons_append, List.nil_append, List.append_nil, List.getElem?_cons_zero, List.getElem?_cons_succ, List.set_cons_zero, List.set_cons_succ, List.replicate_succ, List.replicate_zero, Nat.reduceAdd, Nat.reduceSub, Nat.reduceEqDiff, reduceIte, Bool.true_eq_false, Bool.false_eq_true, if_true, if_false, state_of hb hk.1 hk.2.1 hk.2.2.1, hk.2.2.2, Bool.not_true]
      · cases h'

def b_want_rule : SM := (sIf (tNot (tOf (eFn s_is_below (aCons (eVar 1) (aCons (eFn fLen (aCons (eUn (dFld "Book" "rules") (eVar 0)) aNil)) aNil))))) sNever sSkip)
def m_want_rule : Fm := mkFn 2 2 b_want_rule
def s_want_rule : Fm := obs 2 fun ds st => match ds with
  | [bk, d] => match bookD st bk with
    | some (_, rs) => if kn st d = true ∧ withinD 0 (rs.length - 1) d = true then some .non else none
    | none => none
  | _ => none
theorem a_want_rule : Arity 2 s_want_rule := obs_ar
theorem want_rule_of {d bk : D} {st : Sto} {ws rs : List D} (hb : bookD st bk = some (ws, rs)) (h : kn st d = true) (ht : withinD 0 (rs.length - 1) d = true) : s_want_rule [bk, d] st = .ok .non st := by
  refine obs_ok rfl ?_
  show (match bookD st bk with | some (_, rs) => if kn st d = true ∧ withinD 0 (rs.length - 1) d = true then some D.non else none | none => none) = _
  rw [hb]
  exact if_pos ⟨h, ht⟩
theorem t_want_rule : Tells m_want_rule s_want_rule := .obs fun ds st d g b hl h => by
  match ds, hl, h with
  | [bk, x], _, h =>
    have h' : (match bookD st bk with | some (_, rs) => if kn st x = true ∧ withinD 0 (rs.length - 1) x = true then some D.non else none | none => none) = some d := h
    cases hb : bookD st bk with
    | none => rw [hb] at h'; cases h'
    | some q =>
      obtain ⟨ws, rs⟩ := q
      rw [hb] at h'
      simp only at h'
      split at h'
      · rename_i hk
        cases h'
        refine ⟨by simp only [Bnd], [], ?_⟩
        simp only [m_want_rule, b_want_rule, ev_var, ev_c, ev_un, ev_bin, ev_anil, ev_acons, ev_fn, ev_tof, ev_tob, ev_tand, ev_tor, ev_tnot, ev_and, ev_or, ev_not, ev_if, ev_chain, ev_true, ev_slice, ev_onone, ev_osome, ev_iseq, ev_irng, ev_ienum, ev_ibin, ev_lc, ev_skip, ev_never, ev_seq, ev_ret, ev_sif, ev_set, ev_expr, ev_asg, ev_par, ev_for, ev_fld, ev_gn, ev_gsnil, ev_gscons, ev_gt, ev_mkfn, ev_bok, ev_berr, ev_bfail, ev_tok, ev_hok, ev_ert, ev_enx, ev_wn, ev_wc, ev_e0, ev_sseq, ev_senum, ev_szip, ev_sltup, ev_ltI, ev_leI, ev_gtI, ev_geI, ev_subI, ev_addI, ev_lenT, List.map_cons, List.map_nil, List.length_cons, List.length_nil, List.cons_append, List.nil_append, List.append_nil, List.getElem?_cons_zero, List.getElem?_cons_succ, List.set_cons_zero, List.set_cons_succ, List.replicate_succ, List.replicate_zero, Nat.reduceAdd, Nat.reduceSub, Nat.reduceEqDiff, reduceIte, Bool.true_eq_false, Bool.false_eq_true, if_true, if_false, book_rules hb, below_of hk.1, hk.2, Bool.not_true]
      · cases h'

def b_want_off : SM := (sIf (tNot (tOf (eFn s_is_rising (aCons (eVar 1) (aCons (eFn fLen (aCons (eUn (dFld "Book" "rules") (eVar 0)) aNil)) aNil))))) sNever sSkip)
def m_want_off : Fm := mkFn 2 2 b_want_off
def s_want_off : Fm := obs 2 fun ds st => match ds with
  | [bk, d] => match bookD st bk with
    | some (ws, rs) => if dk st d = true ∧ (tupsD d).length ≤ most ∧ risingD rs.length d = true then some .non else none
    | none => none
  | _ => none
theorem a_want_off : Arity 2 s_want_off := obs_ar
theorem want_off_of {d bk : D} {st : Sto} {ws rs : List D} (hb : bookD st bk = some (ws, rs)) (h : dk st d = true) (hs : (tupsD d).length ≤ most) (ht : risingD rs.length d = true) : s_want_off [bk, d] st = .ok .non st := by
  refine obs_ok rfl ?_
  show (match bookD st bk with | some (ws, rs) => if dk st d = true ∧ (tupsD d).length ≤ most ∧ risingD rs.length d = true then some D.non else none | none => none) = _
  rw [hb]
  exact if_pos ⟨h, hs, ht⟩
theorem t_want_off : Tells m_want_off s_want_off := .obs fun ds st d g b hl h => by
  match ds, hl, h with
  | [bk, x], _, h =>
    have h' : (match bookD st bk with | some (ws, rs) => if dk st x = true ∧ (tupsD x).length ≤ most ∧ risingD rs.length x = true then some D.non else none | none => none) = some d := h
    split at h'
    · rename_i ws rs hb
      split at h'
      · rename_i hk
        cases h'
        refine ⟨by simp only [Bnd], [], ?_⟩
        cases x with
        | tup xs => simp only [m_want_off, b_want_off, ev_var, ev_c, ev_un, ev_bin, ev_anil, ev_acons, ev_fn, ev_tof, ev_tob, ev_tand, ev_tor, ev_tnot, ev_and, ev_or, ev_not, ev_if, ev_chain, ev_true, ev_slice, ev_onone, ev_osome, ev_iseq, ev_irng, ev_ienum, ev_ibin, ev_lc, ev_skip, ev_never, ev_seq, ev_ret, ev_sif, ev_set, ev_expr, ev_asg, ev_par, ev_for, ev_fld, ev_gn, ev_gsnil, ev_gscons, ev_gt, ev_mkfn, ev_bok, ev_berr, ev_bfail, ev_tok, ev_hok, ev_ert, ev_enx, ev_wn, ev_wc, ev_e0, ev_sseq, ev_senum, ev_szip, ev_sltup, ev_ltI, ev_leI, ev_gtI, ev_geI, ev_subI, ev_addI, ev_lenT, List.map_cons, List.map_nil, List.length_cons, List.length_nil, List.cons_append, List.nil_append, List.append_nil, List.getElem?_cons_zero, List.getElem?_cons_succ, List.set_cons_zero, List.set_cons_succ, List.replicate_succ, List.replicate_zero, Nat.reduceAdd, Nat.reduceSub, Nat.reduceEqDiff, reduceIte, Bool.true_eq_false, Bool.false_eq_true, if_true, if_false, book_rules hb, rising_of hk.1 hk.2.1, hk.2.2, Bool.not_true]
        | _ => simp [risingD] at hk
      · cases h'
    · cases h'

def b_want_beats : SM := (sIf (tNot (tOf (eFn s_is_beats (aCons (eVar 0) (aCons (eVar 1) aNil))))) sNever sSkip)
def m_want_beats : Fm := mkFn 2 2 b_want_beats
def s_want_beats : Fm := obs 2 fun ds st => match ds with
  | [d, .int lo] => if kn st d = true ∧ withinD lo 999999999999999999999999999999999999999999999999999999999999 d = true then some .non else none
  | _ => none
theorem a_want_beats : Arity 2 s_want_beats := obs_ar
theorem want_beats_of {d : D} {st : Sto} {lo : Int} (h : kn st d = true) (hw : withinD lo 999999999999999999999999999999999999999999999999999999999999 d = true) : s_want_beats [d, .int lo] st = .ok .non st := obs_ok rfl (if_pos ⟨h, hw⟩)
theorem t_want_beats : Tells m_want_beats s_want_beats := .obs fun ds st d g b hl h => by
  match ds, hl, h with
  | [x, .int lo], _, h =>
    have h' : (if kn st x = true ∧ withinD lo 999999999999999999999999999999999999999999999999999999999999 x = true then some D.non else none) = some d := h
    split at h'
    · rename_i hk
      cases h'
      refine ⟨by simp only [Bnd], [], ?_⟩
      simp only [m_want_beats, b_want_beats, ev_var, ev_c, ev_un, ev_bin, ev_anil, ev_acons, ev_fn, ev_tof, ev_tob, ev_tand, ev_tor, ev_tnot, ev_and, ev_or, ev_not, ev_if, ev_chain, ev_true, ev_slice, ev_onone, ev_osome, ev_iseq, ev_irng, ev_ienum, ev_ibin, ev_lc, ev_skip, ev_never, ev_seq, ev_ret, ev_sif, ev_set, ev_expr, ev_asg, ev_par, ev_for, ev_fld, ev_gn, ev_gsnil, ev_gscons, ev_gt, ev_mkfn, ev_bok, ev_berr, ev_bfail, ev_tok, ev_hok, ev_ert, ev_enx, ev_wn, ev_wc, ev_e0, ev_sseq, ev_senum, ev_szip, ev_sltup, ev_ltI, ev_leI, ev_gtI, ev_geI, ev_subI, ev_addI, ev_lenT, List.map_cons, List.map_nil, List.length_cons, List.length_nil, List.cons_append, List.nil_append, List.append_nil, List.getElem?_cons_zero, List.getElem?_cons_succ, List.set_cons_zero, List.set_cons_succ, List.replicate_succ, List.replicate_zero, Nat.reduceAdd, Nat.reduceSub, Nat.reduceEqDiff, reduceIte, Bool.true_eq_false, Bool.false_eq_true, if_true, if_false, beats_of hk.1, hk.2, Bool.not_true]
    · cases h'

def b_is_row : SM := (sRet (eAnd (eUn (dIsi "tuple") (eVar 0)) (eBin dLe (eFn fLen (aCons (eVar 0) aNil)) (eVar 1))))
def m_is_row : Fm := mkFn 2 2 b_is_row
def s_is_row : Fm := obs 2 fun ds st => match ds with
  | [d, .int n] => if kn st d = true then some (.bl (rowI n d)) else none
  | _ => none
theorem a_is_row : Arity 2 s_is_row := obs_ar
theorem row_of {d : D} {st : Sto} {n : Nat} (h : kn st d = true) : s_is_row [d, .int n] st = .ok (.bl (rowD n d)) st := by
  refine obs_ok rfl ?_
  show (if kn st d = true then _ else _) = _
  rw [if_pos h]
  cases d with
  | tup xs =>
    show some (D.bl (decide ((xs.length : Int) ≤ (n : Int)))) = some (D.bl (decide (xs.length ≤ n)))
    rw [show decide ((xs.length : Int) ≤ (n : Int)) = decide (xs.length ≤ n) from decide_eq_decide.mpr (by omega)]
  | _ => rfl
theorem t_is_row : Tells m_is_row s_is_row := .obs fun ds st d g b hl h => by
  match ds, hl, h with
  | [x, .int n], _, h =>
    have h' : (if kn st x = true then some (D.bl (rowI n x)) else none) = some d := h
    split at h'
    · rename_i hk
      cases h'
      refine ⟨by simp only [Bnd], [], ?_⟩
      cases x with
      | tup xs => simp only [m_is_row, b_is_row, ev_var, ev_c, ev_un, ev_bin, ev_anil, ev_acons, ev_fn, ev_tof, ev_tob, ev_tand, ev_tor, ev_tnot, ev_and, ev_or, ev_not, ev_if, ev_chain, ev_true, ev_slice, ev_onone, ev_osome, ev_iseq, ev_irng, ev_ienum, ev_ibin, ev_lc, ev_skip, ev_never, ev_seq, ev_ret, ev_sif, ev_set, ev_expr, ev_asg, ev_par, ev_for, ev_fld, ev_gn, ev_gsnil, ev_gscons, ev_gt, ev_mkfn, ev_bok, ev_berr, ev_bfail, ev_tok, ev_hok, ev_ert, ev_enx, ev_wn, ev_wc, ev_e0, ev_sseq, ev_senum, ev_szip, ev_sltup, ev_ltI, ev_leI, ev_gtI, ev_geI, ev_subI, ev_addI, ev_lenT, List.map_cons, List.map_nil, List.length_cons, List.length_nil, List.cons_append, List.nil_append, List.append_nil, List.getElem?_cons_zero, List.getElem?_cons_succ, List.set_cons_zero, List.set_cons_succ, List.replicate_succ, List.replicate_zero, Nat.reduceAdd, Nat.reduceSub, Nat.reduceEqDiff, reduceIte, Bool.true_eq_false, Bool.false_eq_true, if_true, if_false, isi_tup, rowI]
      | _ =>
        simp only [m_is_row, b_is_row, ev_var, ev_c, ev_un, ev_bin, ev_anil, ev_acons, ev_fn, ev_tof, ev_tob, ev_tand, ev_tor, ev_tnot, ev_and, ev_or, ev_not, ev_if, ev_chain, ev_true, ev_slice, ev_onone, ev_osome, ev_iseq, ev_irng, ev_ienum, ev_ibin, ev_lc, ev_skip, ev_never, ev_seq, ev_ret, ev_sif, ev_set, ev_expr, ev_asg, ev_par, ev_for, ev_fld, ev_gn, ev_gsnil, ev_gscons, ev_gt, ev_mkfn, ev_bok, ev_berr, ev_bfail, ev_tok, ev_hok, ev_ert, ev_enx, ev_wn, ev_wc, ev_e0, ev_sseq, ev_senum, ev_szip, ev_sltup, ev_ltI, ev_leI, ev_gtI, ev_geI, ev_subI, ev_addI, ev_lenT, List.map_cons, List.map_nil, List.length_cons, List.length_nil, List.cons_append, List.nil_append, List.append_nil, List.getElem?_cons_zero, List.getElem?_cons_succ, List.set_cons_zero, List.set_cons_succ, List.replicate_succ, List.replicate_zero, Nat.reduceAdd, Nat.reduceSub, Nat.reduceEqDiff, reduceIte, Bool.true_eq_false, Bool.false_eq_true, if_true, if_false, isi_tupD hk]
        rfl
    · cases h'

def b_is_moment : SM := (sSeq (sIf (tOr (tNot (tOf (eUn (dIsi "tuple") (eVar 1)))) (tOf (eBin (dEq true) (eFn fLen (aCons (eVar 1) aNil)) (eC (.int 2))))) (sRet (eC (.bl false))) sSkip)
    (sRet (eAnd (eBin (dIn false) (eBin dIx (eVar 1) (eC (.int 0))) (eFn mkTup (aCons (eC (.str "hushed")) (aCons (eC (.str "awake")) aNil)))) (eFn s_is_below (aCons (eBin dIx (eVar 1) (eC (.int 1))) (aCons (eVar 0) aNil))))))
def m_is_moment : Fm := mkFn 2 2 b_is_moment
def s_is_moment : Fm := obs 2 fun ds st => match ds with
  | [.int n, d] => if dk st d = true ∧ wordsD d = true then some (.bl (momentD n d)) else none
  | _ => none
theorem a_is_moment : Arity 2 s_is_moment := obs_ar
theorem moment_of {d : D} {st : Sto} {n : Int} (h : dk st d = true) (hw : wordsD d = true) : s_is_moment [.int n, d] st = .ok (.bl (momentD n d)) st := obs_ok rfl (if_pos ⟨h, hw⟩)
theorem t_is_moment : Tells m_is_moment s_is_moment := .obs fun ds st d g b hl h => by
  match ds, hl, h with
  | [.int n, x], _, h =>
    have h' : (if dk st x = true ∧ wordsD x = true then some (D.bl (momentD n x)) else none) = some d := h
    split at h'
    · rename_i hk
      cases h'
      obtain ⟨hk, hw⟩ := hk
      refine ⟨by simp only [Bnd], [], ?_⟩
      cases x with
      | tup xs =>
        have hx := dk_tup hk
        by_cases hl2 : xs.length = 2
        · obtain ⟨x, y, rfl⟩ := len2 hl2
          have hin := in_words (st := st) (d := x) ["hushed", "awake"] hw (by decide +kernel)
          simp only [List.map_cons, List.map_nil] at hin
          simp only [m_is_moment, b_is_moment, ev_var, ev_c, ev_un, ev_bin, ev_anil, ev_acons, ev_fn, ev_tof, ev_tob, ev_tand, ev_tor, ev_tnot, ev_and, ev_or, ev_not, ev_if, ev_chain, ev_true, ev_slice, ev_onone, ev_osome, ev_iseq, ev_irng, ev_ienum, ev_ibin, ev_lc, ev_skip, ev_never, ev_seq, ev_ret, ev_sif, ev_set, ev_expr, ev_asg, ev_par, ev_for, ev_fld, ev_gn, ev_gsnil, ev_gscons, ev_gt, ev_mkfn, ev_bok, ev_berr, ev_bfail, ev_tok, ev_hok, ev_ert, ev_enx, ev_wn, ev_wc, ev_e0, ev_sseq, ev_senum, ev_szip, ev_sltup, ev_ltI, ev_leI, ev_gtI, ev_geI, ev_subI, ev_addI, ev_lenT, List.map_cons, List.map_nil, List.length_cons, List.length_nil, List.cons_append, List.nil_append, List.append_nil, List.getElem?_cons_zero, List.getElem?_cons_succ, List.set_cons_zero, List.set_cons_succ, List.replicate_succ, List.replicate_zero, Nat.reduceAdd, Nat.reduceSub, Nat.reduceEqDiff, reduceIte, Bool.true_eq_false, Bool.false_eq_true, if_true, if_false, isi_tup, Bool.not_true, Int.cast_ofNat_Int, eqI, beq_self_eq_true, dIx, seqOf, atI2_0, atI2_1, mk2, hin]
          cases hv : wordIn ["hushed", "awake"] x with
          | false => simp only [ev_var, ev_c, ev_un, ev_bin, ev_anil, ev_acons, ev_fn, ev_tof, ev_tob, ev_tand, ev_tor, ev_tnot, ev_and, ev_or, ev_not, ev_if, ev_chain, ev_true, ev_slice, ev_onone, ev_osome, ev_iseq, ev_irng, ev_ienum, ev_ibin, ev_lc, ev_skip, ev_never, ev_seq, ev_ret, ev_sif, ev_set, ev_expr, ev_asg, ev_par, ev_for, ev_fld, ev_gn, ev_gsnil, ev_gscons, ev_gt, ev_mkfn, ev_bok, ev_berr, ev_bfail, ev_tok, ev_hok, ev_ert, ev_enx, ev_wn, ev_wc, ev_e0, ev_sseq, ev_senum, ev_szip, ev_sltup, ev_ltI, ev_leI, ev_gtI, ev_geI, ev_subI, ev_addI, ev_lenT, List.map_cons, List.map_nil, List.length_cons, List.length_nil, List.cons_append, List.nil_append, List.append_nil, List.getElem?_cons_zero, List.getElem?_cons_succ, List.set_cons_zero, List.set_cons_succ, List.replicate_succ, List.replicate_zero, Nat.reduceAdd, Nat.reduceSub, Nat.reduceEqDiff, reduceIte, Bool.true_eq_false, Bool.false_eq_true, if_true, if_false, momentD, hv, Bool.false_and]
          | true => simp only [ev_var, ev_c, ev_un, ev_bin, ev_anil, ev_acons, ev_fn, ev_tof, ev_tob, ev_tand, ev_tor, ev_tnot, ev_and, ev_or, ev_not, ev_if, ev_chain, ev_true, ev_slice, ev_onone, ev_osome, ev_iseq, ev_irng, ev_ienum, ev_ibin, ev_lc, ev_skip, ev_never, ev_seq, ev_ret, ev_sif, ev_set, ev_expr, ev_asg, ev_par, ev_for, ev_fld, ev_gn, ev_gsnil, ev_gscons, ev_gt, ev_mkfn, ev_bok, ev_berr, ev_bfail, ev_tok, ev_hok, ev_ert, ev_enx, ev_wn, ev_wc, ev_e0, ev_sseq, ev_senum, ev_szip, ev_sltup, ev_ltI, ev_leI, ev_gtI, ev_geI, ev_subI, ev_addI, ev_lenT, List.map_cons, List.map_nil, List.length_cons, List.length_nil, List.cons_append, List.nil_append, List.append_nil, List.getElem?_cons_zero, List.getElem?_cons_succ, List.set_cons_zero, List.set_cons_succ, List.replicate_succ, List.replicate_zero, Nat.reduceAdd, Nat.reduceSub, Nat.reduceEqDiff, reduceIte, Bool.true_eq_false, Bool.false_eq_true, if_true, if_false, dIx, seqOf, atI2_1, below_of (dk_kn (hx y (by simp))), momentD, hv, Bool.true_and]
        · have e : decide ((xs.length : Int) = 2) = false := decide_eq_false (by omega)
          simp only [m_is_moment, b_is_moment, ev_var, ev_c, ev_un, ev_bin, ev_anil, ev_acons, ev_fn, ev_tof, ev_tob, ev_tand, ev_tor, ev_tnot, ev_and, ev_or, ev_not, ev_if, ev_chain, ev_true, ev_slice, ev_onone, ev_osome, ev_iseq, ev_irng, ev_ienum, ev_ibin, ev_lc, ev_skip, ev_never, ev_seq, ev_ret, ev_sif, ev_set, ev_expr, ev_asg, ev_par, ev_for, ev_fld, ev_gn, ev_gsnil, ev_gscons, ev_gt, ev_mkfn, ev_bok, ev_berr, ev_bfail, ev_tok, ev_hok, ev_ert, ev_enx, ev_wn, ev_wc, ev_e0, ev_sseq, ev_senum, ev_szip, ev_sltup, ev_ltI, ev_leI, ev_gtI, ev_geI, ev_subI, ev_addI, ev_lenT, List.map_cons, List.map_nil, List.length_cons, List.length_nil, List.cons_append, List.nil_append, List.append_nil, List.getElem?_cons_zero, List.getElem?_cons_succ, List.set_cons_zero, List.set_cons_succ, List.replicate_succ, List.replicate_zero, Nat.reduceAdd, Nat.reduceSub, Nat.reduceEqDiff, reduceIte, Bool.true_eq_false, Bool.false_eq_true, if_true, if_false, isi_tup, Bool.not_true, eqN, e, Bool.not_false]
          congr 2
          unfold momentD
          split
          · rename_i q
            cases q
            exact absurd rfl hl2
          · rfl
      | _ =>
        simp only [m_is_moment, b_is_moment, ev_var, ev_c, ev_un, ev_bin, ev_anil, ev_acons, ev_fn, ev_tof, ev_tob, ev_tand, ev_tor, ev_tnot, ev_and, ev_or, ev_not, ev_if, ev_chain, ev_true, ev_slice, ev_onone, ev_osome, ev_iseq, ev_irng, ev_ienum, ev_ibin, ev_lc, ev_skip, ev_never, ev_seq, ev_ret, ev_sif, ev_set, ev_expr, ev_asg, ev_par, ev_for, ev_fld, ev_gn, ev_gsnil, ev_gscons, ev_gt, ev_mkfn, ev_bok, ev_berr, ev_bfail, ev_tok, ev_hok, ev_ert, ev_enx, ev_wn, ev_wc, ev_e0, ev_sseq, ev_senum, ev_szip, ev_sltup, ev_ltI, ev_leI, ev_gtI, ev_geI, ev_subI, ev_addI, ev_lenT, List.map_cons, List.map_nil, List.length_cons, List.length_nil, List.cons_append, List.nil_append, List.append_nil, List.getElem?_cons_zero, List.getElem?_cons_succ, List.set_cons_zero, List.set_cons_succ, List.replicate_succ, List.replicate_zero, Nat.reduceAdd, Nat.reduceSub, Nat.reduceEqDiff, reduceIte, Bool.true_eq_false, Bool.false_eq_true, if_true, if_false, isi_tupD (dk_kn hk)]
        rfl
    · cases h'

def b_is_spot : SM := (sSeq (sIf (tOr (tNot (tOf (eUn (dIsi "tuple") (eVar 1)))) (tOf (eBin (dEq true) (eFn fLen (aCons (eVar 1) aNil)) (eC (.int 3))))) (sRet (eC (.bl false))) sSkip)
    (sSeq (sAsg (eVar 1) (gT 3 (gsCons (gN 3) (gsCons (gN 4) (gsCons (gN 5) gsNil)))))
    (sRet (eAnd (eBin (dIn false) (eVar 3) (eVar 2)) (eAnd (eFn s_is_below (aCons (eVar 4) (aCons (eFn fLen (aCons (eVar 0) aNil)) aNil))) (eFn s_is_below (aCons (eVar 5) (aCons (eBin dIx (eVar 0) (eVar 4)) aNil))))))))
def m_is_spot : Fm := mkFn 3 6 b_is_spot
def s_is_spot : Fm := obs 3 fun ds st => match ds with
  | [.tup ws, d, .tup wd] => match strsOf wd with
    | some words => if dk st d = true ∧ wordsD d = true ∧ ws.all isI = true ∧ PySem.SeqAt.shaped (.tuple (words.map PyData.str)) = true then some (.bl (spotD ws words d)) else none
    | none => none
  | _ => none
theorem a_is_spot : Arity 3 s_is_spot := obs_ar
theorem spot_of {d : D} {st : Sto} {ws wd : List D} {words : List Str} (hs : strsOf wd = some words) (h : dk st d = true) (hd : wordsD d = true) (hw : ws.all isI = true) (hq : PySem.SeqAt.shaped (.tuple (words.map PyData.str)) = true) : s_is_spot [.tup ws, d, .tup wd] st = .ok (.bl (spotD ws words d)) st := by
  refine obs_ok rfl ?_
  show (match strsOf wd with | some words => if dk st d = true ∧ wordsD d = true ∧ ws.all isI = true ∧ PySem.SeqAt.shaped (.tuple (words.map PyData.str)) = true then some (D.bl (spotD ws words d)) else none | none => none) = _
  rw [hs]
  exact if_pos ⟨h, hd, hw, hq⟩
theorem t_is_spot : Tells m_is_spot s_is_spot := .obs fun ds st d g b hl h => by
  match ds, hl, h with
  | [.tup ws, x, .tup wd], _, h =>
    have h' : (match strsOf wd with | some words => if dk st x = true ∧ wordsD x = true ∧ ws.all isI = true ∧ PySem.SeqAt.shaped (.tuple (words.map PyData.str)) = true then some (D.bl (spotD ws words x)) else none | none => none) = some d := h
    cases hs : strsOf wd with
    | none => rw [hs] at h'; cases h'
    | some words =>
      rw [hs] at h'
      simp only at h'
      split at h'
      · rename_i hk
        cases h'
        obtain ⟨hk, hd, hw, hq⟩ := hk
        have ew := strsOf_eq hs
        subst ew
        refine ⟨by simp only [Bnd], [], ?_⟩
        cases x with
        | tup xs =>
          have hx := dk_tup hk
          by_cases hl3 : xs.length = 3
          · obtain ⟨x, y, z, rfl⟩ := len3 hl3
            have hin := in_words (st := st) (d := x) words hd hq
            simp only [m_is_spot, b_is_spot, ev_var, ev_c, ev_un, ev_bin, ev_anil, ev_acons, ev_fn, ev_tof, ev_tob, ev_tand, ev_tor, ev_tnot, ev_and, ev_or, ev_not, ev_if, ev_chain, ev_true, ev_slice, ev_onone, ev_osome, ev_iseq, ev_irng, ev_ienum, ev_ibin, ev_lc, ev_skip, ev_never, ev_seq, ev_ret, ev_sif, ev_set, ev_expr, ev_asg, ev_par, ev_for, ev_fld, ev_gn, ev_gsnil, ev_gscons, ev_gt, ev_mkfn, ev_bok, ev_berr, ev_bfail, ev_tok, ev_hok, ev_ert, ev_enx, ev_wn, ev_wc, ev_e0, ev_sseq, ev_senum, ev_szip, ev_sltup, ev_ltI, ev_leI, ev_gtI, ev_geI, ev_subI, ev_addI, ev_lenT, List.map_cons, List.map_nil, List.length_cons, List.length_nil, List.cons_append, List.nil_append, List.append_nil, List.getElem?_cons_zero, List.getElem?_cons_succ, List.set_cons_zero, List.set_cons_succ, List.replicate_succ, List.replicate_zero, Nat.reduceAdd, Nat.reduceSub, Nat.reduceEqDiff, reduceIte, Bool.true_eq_false, Bool.false_eq_true, if_true, if_false, isi_tup, Bool.not_true, Int.cast_ofNat_Int, eqI, beq_self_eq_true, hin]
            cases hv : wordIn words x with
            | false => simp only [ev_var, ev_c, ev_un, ev_bin, ev_anil, ev_acons, ev_fn, ev_tof, ev_tob, ev_tand, ev_tor, ev_tnot, ev_and, ev_or, ev_not, ev_if, ev_chain, ev_true, ev_slice, ev_onone, ev_osome, ev_iseq, ev_irng, ev_ienum, ev_ibin, ev_lc, ev_skip, ev_never, ev_seq, ev_ret, ev_sif, ev_set, ev_expr, ev_asg, ev_par, ev_for, ev_fld, ev_gn, ev_gsnil, ev_gscons, ev_gt, ev_mkfn, ev_bok, ev_berr, ev_bfail, ev_tok, ev_hok, ev_ert, ev_enx, ev_wn, ev_wc, ev_e0, ev_sseq, ev_senum, ev_szip, ev_sltup, ev_ltI, ev_leI, ev_gtI, ev_geI, ev_subI, ev_addI, ev_lenT, List.map_cons, List.map_nil, List.length_cons, List.length_nil, List.cons_append, List.nil_append, List.append_nil, List.getElem?_cons_zero, List.getElem?_cons_succ, List.set_cons_zero, List.set_cons_succ, List.replicate_succ, List.replicate_zero, Nat.reduceAdd, Nat.reduceSub, Nat.reduceEqDiff, reduceIte, Bool.true_eq_false, Bool.false_eq_true, if_true, if_false, spotD, hv, Bool.false_and]
            | true =>
              simp only [ev_var, ev_c, ev_un, ev_bin, ev_anil, ev_acons, ev_fn, ev_tof, ev_tob, ev_tand, ev_tor, ev_tnot, ev_and, ev_or, ev_not, ev_if, ev_chain, ev_true, ev_slice, ev_onone, ev_osome, ev_iseq, ev_irng, ev_ienum, ev_ibin, ev_lc, ev_skip, ev_never, ev_seq, ev_ret, ev_sif, ev_set, ev_expr, ev_asg, ev_par, ev_for, ev_fld, ev_gn, ev_gsnil, ev_gscons, ev_gt, ev_mkfn, ev_bok, ev_berr, ev_bfail, ev_tok, ev_hok, ev_ert, ev_enx, ev_wn, ev_wc, ev_e0, ev_sseq, ev_senum, ev_szip, ev_sltup, ev_ltI, ev_leI, ev_gtI, ev_geI, ev_subI, ev_addI, ev_lenT, List.map_cons, List.map_nil, List.length_cons, List.length_nil, List.cons_append, List.nil_append, List.append_nil, List.getElem?_cons_zero, List.getElem?_cons_succ, List.set_cons_zero, List.set_cons_succ, List.replicate_succ, List.replicate_zero, Nat.reduceAdd, Nat.reduceSub, Nat.reduceEqDiff, reduceIte, Bool.true_eq_false, Bool.false_eq_true, if_true, if_false, below_of (dk_kn (hx y (by simp)))]
              cases hy : withinD 0 (ws.length - 1) y with
              | false => simp only [ev_var, ev_c, ev_un, ev_bin, ev_anil, ev_acons, ev_fn, ev_tof, ev_tob, ev_tand, ev_tor, ev_tnot, ev_and, ev_or, ev_not, ev_if, ev_chain, ev_true, ev_slice, ev_onone, ev_osome, ev_iseq, ev_irng, ev_ienum, ev_ibin, ev_lc, ev_skip, ev_never, ev_seq, ev_ret, ev_sif, ev_set, ev_expr, ev_asg, ev_par, ev_for, ev_fld, ev_gn, ev_gsnil, ev_gscons, ev_gt, ev_mkfn, ev_bok, ev_berr, ev_bfail, ev_tok, ev_hok, ev_ert, ev_enx, ev_wn, ev_wc, ev_e0, ev_sseq, ev_senum, ev_szip, ev_sltup, ev_ltI, ev_leI, ev_gtI, ev_geI, ev_subI, ev_addI, ev_lenT, List.map_cons, List.map_nil, List.length_cons, List.length_nil, List.cons_append, List.nil_append, List.append_nil, List.getElem?_cons_zero, List.getElem?_cons_succ, List.set_cons_zero, List.set_cons_succ, List.replicate_succ, List.replicate_zero, Nat.reduceAdd, Nat.reduceSub, Nat.reduceEqDiff, reduceIte, Bool.true_eq_false, Bool.false_eq_true, if_true, if_false, spotD, hv, hy, Bool.false_and, Bool.true_and]
              | true =>
                obtain ⟨j, rfl, hj⟩ := within_ix hy
                have hz := isI_eq (List.all_eq_true.mp hw ws[j] (List.getElem_mem hj))
                simp only [ev_var, ev_c, ev_un, ev_bin, ev_anil, ev_acons, ev_fn, ev_tof, ev_tob, ev_tand, ev_tor, ev_tnot, ev_and, ev_or, ev_not, ev_if, ev_chain, ev_true, ev_slice, ev_onone, ev_osome, ev_iseq, ev_irng, ev_ienum, ev_ibin, ev_lc, ev_skip, ev_never, ev_seq, ev_ret, ev_sif, ev_set, ev_expr, ev_asg, ev_par, ev_for, ev_fld, ev_gn, ev_gsnil, ev_gscons, ev_gt, ev_mkfn, ev_bok, ev_berr, ev_bfail, ev_tok, ev_hok, ev_ert, ev_enx, ev_wn, ev_wc, ev_e0, ev_sseq, ev_senum, ev_szip, ev_sltup, ev_ltI, ev_leI, ev_gtI, ev_geI, ev_subI, ev_addI, ev_lenT, List.map_cons, List.map_nil, List.length_cons, List.length_nil, List.cons_append, List.nil_append, List.append_nil, List.getElem?_cons_zero, List.getElem?_cons_succ, List.set_cons_zero, List.set_cons_succ, List.replicate_succ, List.replicate_zero, Nat.reduceAdd, Nat.reduceSub, Nat.reduceEqDiff, reduceIte, Bool.true_eq_false, Bool.false_eq_true, if_true, if_false, dIx, seqOf, L2.atI_nat (List.getElem?_eq_getElem hj)]
                rw [hz]
                simp only [ev_var, ev_c, ev_un, ev_bin, ev_anil, ev_acons, ev_fn, ev_tof, ev_tob, ev_tand, ev_tor, ev_tnot, ev_and, ev_or, ev_not, ev_if, ev_chain, ev_true, ev_slice, ev_onone, ev_osome, ev_iseq, ev_irng, ev_ienum, ev_ibin, ev_lc, ev_skip, ev_never, ev_seq, ev_ret, ev_sif, ev_set, ev_expr, ev_asg, ev_par, ev_for, ev_fld, ev_gn, ev_gsnil, ev_gscons, ev_gt, ev_mkfn, ev_bok, ev_berr, ev_bfail, ev_tok, ev_hok, ev_ert, ev_enx, ev_wn, ev_wc, ev_e0, ev_sseq, ev_senum, ev_szip, ev_sltup, ev_ltI, ev_leI, ev_gtI, ev_geI, ev_subI, ev_addI, ev_lenT, List.map_cons, List.map_nil, List.length_cons, List.length_nil, List.cons_append, List.nil_append, List.append_nil, List.getElem?_cons_zero, List.getElem?_cons_succ, List.set_cons_zero, List.set_cons_succ, List.replicate_succ, List.replicate_zero, Nat.reduceAdd, Nat.reduceSub, Nat.reduceEqDiff, reduceIte, Bool.true_eq_false, Bool.false_eq_true, if_true, if_false, below_of (dk_kn (hx z (by simp))), spotD, hv, hy, Bool.true_and, wI, Int.toNat_natCast, List.getD, List.getElem?_eq_getElem hj, Option.getD_some]
          · have e : decide ((xs.length : Int) = 3) = false := decide_eq_false (by omega)
            simp only [m_is_spot, b_is_spot, ev_var, ev_c, ev_un, ev_bin, ev_anil, ev_acons, ev_fn, ev_tof, ev_tob, ev_tand, ev_tor, ev_tnot, ev_and, ev_or, ev_not, ev_if, ev_chain, ev_true, ev_slice, ev_onone, ev_osome, ev_iseq, ev_irng, ev_ienum, ev_ibin, ev_lc, ev_skip, ev_never, ev_seq, ev_ret, ev_sif, ev_set, ev_expr, ev_asg, ev_par, ev_for, ev_fld, ev_gn, ev_gsnil, ev_gscons, ev_gt, ev_mkfn, ev_bok, ev_berr, ev_bfail, ev_tok, ev_hok, ev_ert, ev_enx, ev_wn, ev_wc, ev_e0, ev_sseq, ev_senum, ev_szip, ev_sltup, ev_ltI, ev_leI, ev_gtI, ev_geI, ev_subI, ev_addI, ev_lenT, List.map_cons, List.map_nil, List.length_cons, List.length_nil, List.cons_append, List.nil_append, List.append_nil, List.getElem?_cons_zero, List.getElem?_cons_succ, List.set_cons_zero, List.set_cons_succ, List.replicate_succ, List.replicate_zero, Nat.reduceAdd, Nat.reduceSub, Nat.reduceEqDiff, reduceIte, Bool.true_eq_false, Bool.false_eq_true, if_true, if_false, isi_tup, Bool.not_true, eqN, e, Bool.not_false]
            congr 2
            unfold spotD
            split
            · rename_i q
              cases q
              exact absurd rfl hl3
            · rfl
        | _ =>
          simp only [m_is_spot, b_is_spot, ev_var, ev_c, ev_un, ev_bin, ev_anil, ev_acons, ev_fn, ev_tof, ev_tob, ev_tand, ev_tor, ev_tnot, ev_and, ev_or, ev_not, ev_if, ev_chain, ev_true, ev_slice, ev_onone, ev_osome, ev_iseq, ev_irng, ev_ienum, ev_ibin, ev_lc, ev_skip, ev_never, ev_seq, ev_ret, ev_sif, ev_set, ev_expr, ev_asg, ev_par, ev_for, ev_fld, ev_gn, ev_gsnil, ev_gscons, ev_gt, ev_mkfn, ev_bok, ev_berr, ev_bfail, ev_tok, ev_hok, ev_ert, ev_enx, ev_wn, ev_wc, ev_e0, ev_sseq, ev_senum, ev_szip, ev_sltup, ev_ltI, ev_leI, ev_gtI, ev_geI, ev_subI, ev_addI, ev_lenT, List.map_cons, List.map_nil, List.length_cons, List.length_nil, List.cons_append, List.nil_append, List.append_nil, List.getElem?_cons_zero, List.getElem?_cons_succ, List.set_cons_zero, List.set_cons_succ, List.replicate_succ, List.replicate_zero, Nat.reduceAdd, Nat.reduceSub, Nat.reduceEqDiff, reduceIte, Bool.true_eq_false, Bool.false_eq_true, if_true, if_false, isi_tupD (dk_kn hk)]
          rfl
      · cases h'

def b_is_condition : SM := (sRet (eOr (eFn s_is_spot (aCons (eVar 0) (aCons (eVar 2) (aCons (eFn mkTup (aCons (eC (.str "is")) (aCons (eC (.str "not")) (aCons (eC (.str "below")) aNil)))) aNil)))) (eFn s_is_moment (aCons (eVar 1) (aCons (eVar 2) aNil)))))
def m_is_condition : Fm := mkFn 3 3 b_is_condition
def s_is_condition : Fm := obs 3 fun ds st => match ds with
  | [.tup ws, .int n, d] => if dk st d = true ∧ wordsD d = true ∧ ws.all isI = true then some (.bl (condD ws n d)) else none
  | _ => none
theorem a_is_condition : Arity 3 s_is_condition := obs_ar
theorem cond_of {d : D} {st : Sto} {ws : List D} {n : Int} (h : dk st d = true) (hd : wordsD d = true) (hw : ws.all isI = true) : s_is_condition [.tup ws, .int n, d] st = .ok (.bl (condD ws n d)) st := obs_ok rfl (if_pos ⟨h, hd, hw⟩)
theorem t_is_condition : Tells m_is_condition s_is_condition := .obs fun ds st d g b hl h => by
  match ds, hl, h with
  | [.tup ws, .int n, x], _, h =>
    have h' : (if dk st x = true ∧ wordsD x = true ∧ ws.all isI = true then some (D.bl (condD ws n x)) else none) = some d := h
    split at h'
    · rename_i hk
      cases h'
      obtain ⟨hk, hd, hw⟩ := hk
      refine ⟨by simp only [Bnd], [], ?_⟩
      have hsp := spot_of (st := st) (d := x) (ws := ws) (wd := [.str "is", .str "not", .str "below"]) (words := ["is", "not", "below"]) rfl hk hd hw (by decide +kernel)
      simp only [m_is_condition, b_is_condition, ev_var, ev_c, ev_un, ev_bin, ev_anil, ev_acons, ev_fn, ev_tof, ev_tob, ev_tand, ev_tor, ev_tnot, ev_and, ev_or, ev_not, ev_if, ev_chain, ev_true, ev_slice, ev_onone, ev_osome, ev_iseq, ev_irng, ev_ienum, ev_ibin, ev_lc, ev_skip, ev_never, ev_seq, ev_ret, ev_sif, ev_set, ev_expr, ev_asg, ev_par, ev_for, ev_fld, ev_gn, ev_gsnil, ev_gscons, ev_gt, ev_mkfn, ev_bok, ev_berr, ev_bfail, ev_tok, ev_hok, ev_ert, ev_enx, ev_wn, ev_wc, ev_e0, ev_sseq, ev_senum, ev_szip, ev_sltup, ev_ltI, ev_leI, ev_gtI, ev_geI, ev_subI, ev_addI, ev_lenT, List.map_cons, List.map_nil, List.length_cons, List.length_nil, List.cons_append, List.nil_append, List.append_nil, List.getElem?_cons_zero, List.getElem?_cons_succ, List.set_cons_zero, List.set_cons_succ, List.replicate_succ, List.replicate_zero, Nat.reduceAdd, Nat.reduceSub, Nat.reduceEqDiff, reduceIte, Bool.true_eq_false, Bool.false_eq_true, if_true, if_false, mk3, hsp]
      cases hv : spotD ws ["is", "not", "below"] x with
      | true => simp only [ev_var, ev_c, ev_un, ev_bin, ev_anil, ev_acons, ev_fn, ev_tof, ev_tob, ev_tand, ev_tor, ev_tnot, ev_and, ev_or, ev_not, ev_if, ev_chain, ev_true, ev_slice, ev_onone, ev_osome, ev_iseq, ev_irng, ev_ienum, ev_ibin, ev_lc, ev_skip, ev_never, ev_seq, ev_ret, ev_sif, ev_set, ev_expr, ev_asg, ev_par, ev_for, ev_fld, ev_gn, ev_gsnil, ev_gscons, ev_gt, ev_mkfn, ev_bok, ev_berr, ev_bfail, ev_tok, ev_hok, ev_ert, ev_enx, ev_wn, ev_wc, ev_e0, ev_sseq, ev_senum, ev_szip, ev_sltup, ev_ltI, ev_leI, ev_gtI, ev_geI, ev_subI, ev_addI, ev_lenT, List.map_cons, List.map_nil, List.length_cons, List.length_nil, List.cons_append, List.nil_append, List.append_nil, List.getElem?_cons_zero, List.getElem?_cons_succ, List.set_cons_zero, List.set_cons_succ, List.replicate_succ, List.replicate_zero, Nat.reduceAdd, Nat.reduceSub, Nat.reduceEqDiff, reduceIte, Bool.true_eq_false, Bool.false_eq_true, if_true, if_false, condD, hv, Bool.true_or]
      | false => simp only [ev_var, ev_c, ev_un, ev_bin, ev_anil, ev_acons, ev_fn, ev_tof, ev_tob, ev_tand, ev_tor, ev_tnot, ev_and, ev_or, ev_not, ev_if, ev_chain, ev_true, ev_slice, ev_onone, ev_osome, ev_iseq, ev_irng, ev_ienum, ev_ibin, ev_lc, ev_skip, ev_never, ev_seq, ev_ret, ev_sif, ev_set, ev_expr, ev_asg, ev_par, ev_for, ev_fld, ev_gn, ev_gsnil, ev_gscons, ev_gt, ev_mkfn, ev_bok, ev_berr, ev_bfail, ev_tok, ev_hok, ev_ert, ev_enx, ev_wn, ev_wc, ev_e0, ev_sseq, ev_senum, ev_szip, ev_sltup, ev_ltI, ev_leI, ev_gtI, ev_geI, ev_subI, ev_addI, ev_lenT, List.map_cons, List.map_nil, List.length_cons, List.length_nil, List.cons_append, List.nil_append, List.append_nil, List.getElem?_cons_zero, List.getElem?_cons_succ, List.set_cons_zero, List.set_cons_succ, List.replicate_succ, List.replicate_zero, Nat.reduceAdd, Nat.reduceSub, Nat.reduceEqDiff, reduceIte, Bool.true_eq_false, Bool.false_eq_true, if_true, if_false, moment_of hk hd, condD, hv, Bool.false_or]
    · cases h'

def b_is_change : SM := (sRet (eFn s_is_spot (aCons (eVar 0) (aCons (eVar 1) (aCons (eFn mkTup (aCons (eC (.str "put")) (aCons (eC (.str "turn")) aNil))) aNil)))))
def m_is_change : Fm := mkFn 2 2 b_is_change
def s_is_change : Fm := obs 2 fun ds st => match ds with
  | [.tup ws, d] => if dk st d = true ∧ wordsD d = true ∧ ws.all isI = true then some (.bl (changeD ws d)) else none
  | _ => none
theorem a_is_change : Arity 2 s_is_change := obs_ar
theorem change_of {d : D} {st : Sto} {ws : List D} (h : dk st d = true) (hd : wordsD d = true) (hw : ws.all isI = true) : s_is_change [.tup ws, d] st = .ok (.bl (changeD ws d)) st := obs_ok rfl (if_pos ⟨h, hd, hw⟩)
theorem t_is_change : Tells m_is_change s_is_change := .obs fun ds st d g b hl h => by
  match ds, hl, h with
  | [.tup ws, x], _, h =>
    have h' : (if dk st x = true ∧ wordsD x = true ∧ ws.all isI = true then some (D.bl (changeD ws x)) else none) = some d := h
    split at h'
    · rename_i hk
      cases h'
      obtain ⟨hk, hd, hw⟩ := hk
      refine ⟨by simp only [Bnd], [], ?_⟩
      have hsp := spot_of (st := st) (d := x) (ws := ws) (wd := [.str "put", .str "turn"]) (words := ["put", "turn"]) rfl hk hd hw (by decide +kernel)
      simp only [m_is_change, b_is_change, ev_var, ev_c, ev_un, ev_bin, ev_anil, ev_acons, ev_fn, ev_tof, ev_tob, ev_tand, ev_tor, ev_tnot, ev_and, ev_or, ev_not, ev_if, ev_chain, ev_true, ev_slice, ev_onone, ev_osome, ev_iseq, ev_irng, ev_ienum, ev_ibin, ev_lc, ev_skip, ev_never, ev_seq, ev_ret, ev_sif, ev_set, ev_expr, ev_asg, ev_par, ev_for, ev_fld, ev_gn, ev_gsnil, ev_gscons, ev_gt, ev_mkfn, ev_bok, ev_berr, ev_bfail, ev_tok, ev_hok, ev_ert, ev_enx, ev_wn, ev_wc, ev_e0, ev_sseq, ev_senum, ev_szip, ev_sltup, ev_ltI, ev_leI, ev_gtI, ev_geI, ev_subI, ev_addI, ev_lenT, List.map_cons, List.map_nil, List.length_cons, List.length_nil, List.cons_append, List.nil_append, List.append_nil, List.getElem?_cons_zero, List.getElem?_cons_succ, List.set_cons_zero, List.set_cons_succ, List.replicate_succ, List.replicate_zero, Nat.reduceAdd, Nat.reduceSub, Nat.reduceEqDiff, reduceIte, Bool.true_eq_false, Bool.false_eq_true, if_true, if_false, mk2, hsp, changeD]
    · cases h'

def b_is_hush : SM := (sRet (eAnd (eUn (dIsi "tuple") (eVar 0)) (eAnd (eBin (dEq false) (eFn fLen (aCons (eVar 0) aNil)) (eC (.int 2))) (eFn s_is_within (aCons (eBin dIx (eVar 0) (eC (.int 1))) (aCons (eC (.int 1)) (aCons (eC (.int 3)) aNil)))))))
def m_is_hush : Fm := mkFn 1 1 b_is_hush
def s_is_hush : Fm := obs 1 fun ds st => match ds with
  | [d] => if dk st d = true then some (.bl (hushD d)) else none
  | _ => none
theorem a_is_hush : Arity 1 s_is_hush := obs_ar
theorem hush_is {d : D} {st : Sto} (h : dk st d = true) : s_is_hush [d] st = .ok (.bl (hushD d)) st := obs_ok rfl (if_pos h)
theorem t_is_hush : Tells m_is_hush s_is_hush := .obs fun ds st d g b hl h => by
  match ds, hl, h with
  | [x], _, h =>
    have h' : (if dk st x = true then some (D.bl (hushD x)) else none) = some d := h
    split at h'
    · rename_i hk
      cases h'
      refine ⟨by simp only [Bnd], [], ?_⟩
      cases x with
      | tup xs =>
        have hx := dk_tup hk
        by_cases hl : xs.length = 2
        · obtain ⟨x, y, rfl⟩ := len2 hl
          simp only [m_is_hush, b_is_hush, ev_var, ev_c, ev_un, ev_bin, ev_anil, ev_acons, ev_fn, ev_tof, ev_tob, ev_tand, ev_tor, ev_tnot, ev_and, ev_or, ev_not, ev_if, ev_chain, ev_true, ev_slice, ev_onone, ev_osome, ev_iseq, ev_irng, ev_ienum, ev_ibin, ev_lc, ev_skip, ev_never, ev_seq, ev_ret, ev_sif, ev_set, ev_expr, ev_asg, ev_par, ev_for, ev_fld, ev_gn, ev_gsnil, ev_gscons, ev_gt, ev_mkfn, ev_bok, ev_berr, ev_bfail, ev_tok, ev_hok, ev_ert, ev_enx, ev_wn, ev_wc, ev_e0, ev_sseq, ev_senum, ev_szip, ev_sltup, ev_ltI, ev_leI, ev_gtI, ev_geI, ev_subI, ev_addI, ev_lenT, List.map_cons, List.map_nil, List.length_cons, List.length_nil, List.cons_append, List.nil_append, List.append_nil, List.getElem?_cons_zero, List.getElem?_cons_succ, List.set_cons_zero, List.set_cons_succ, List.replicate_succ, List.replicate_zero, Nat.reduceAdd, Nat.reduceSub, Nat.reduceEqDiff, reduceIte, Bool.true_eq_false, Bool.false_eq_true, if_true, if_false, isi_tup, dIx, seqOf, atI2_1, Int.cast_ofNat_Int, eqI, beq_self_eq_true, within_of (dk_kn (hx y (by simp))), hushD]
        · have e : decide ((xs.length : Int) = 2) = false := decide_eq_false (by omega)
          simp only [m_is_hush, b_is_hush, ev_var, ev_c, ev_un, ev_bin, ev_anil, ev_acons, ev_fn, ev_tof, ev_tob, ev_tand, ev_tor, ev_tnot, ev_and, ev_or, ev_not, ev_if, ev_chain, ev_true, ev_slice, ev_onone, ev_osome, ev_iseq, ev_irng, ev_ienum, ev_ibin, ev_lc, ev_skip, ev_never, ev_seq, ev_ret, ev_sif, ev_set, ev_expr, ev_asg, ev_par, ev_for, ev_fld, ev_gn, ev_gsnil, ev_gscons, ev_gt, ev_mkfn, ev_bok, ev_berr, ev_bfail, ev_tok, ev_hok, ev_ert, ev_enx, ev_wn, ev_wc, ev_e0, ev_sseq, ev_senum, ev_szip, ev_sltup, ev_ltI, ev_leI, ev_gtI, ev_geI, ev_subI, ev_addI, ev_lenT, List.map_cons, List.map_nil, List.length_cons, List.length_nil, List.cons_append, List.nil_append, List.append_nil, List.getElem?_cons_zero, List.getElem?_cons_succ, List.set_cons_zero, List.set_cons_succ, List.replicate_succ, List.replicate_zero, Nat.reduceAdd, Nat.reduceSub, Nat.reduceEqDiff, reduceIte, Bool.true_eq_false, Bool.false_eq_true, if_true, if_false, isi_tup, eqN, e]
          congr 2
          unfold hushD
          split
          · rename_i q
            cases q
            exact absurd rfl hl
          · rfl
      | _ =>
        simp only [m_is_hush, b_is_hush, ev_var, ev_c, ev_un, ev_bin, ev_anil, ev_acons, ev_fn, ev_tof, ev_tob, ev_tand, ev_tor, ev_tnot, ev_and, ev_or, ev_not, ev_if, ev_chain, ev_true, ev_slice, ev_onone, ev_osome, ev_iseq, ev_irng, ev_ienum, ev_ibin, ev_lc, ev_skip, ev_never, ev_seq, ev_ret, ev_sif, ev_set, ev_expr, ev_asg, ev_par, ev_for, ev_fld, ev_gn, ev_gsnil, ev_gscons, ev_gt, ev_mkfn, ev_bok, ev_berr, ev_bfail, ev_tok, ev_hok, ev_ert, ev_enx, ev_wn, ev_wc, ev_e0, ev_sseq, ev_senum, ev_szip, ev_sltup, ev_ltI, ev_leI, ev_gtI, ev_geI, ev_subI, ev_addI, ev_lenT, List.map_cons, List.map_nil, List.length_cons, List.length_nil, List.cons_append, List.nil_append, List.append_nil, List.getElem?_cons_zero, List.getElem?_cons_succ, List.set_cons_zero, List.set_cons_succ, List.replicate_succ, List.replicate_zero, Nat.reduceAdd, Nat.reduceSub, Nat.reduceEqDiff, reduceIte, Bool.true_eq_false, Bool.false_eq_true, if_true, if_false, isi_tupD (dk_kn hk)]
        rfl
    · cases h'

def b_is_hushes : SM := (sSeq (sIf (tOr (tNot (tOf (eFn s_is_row (aCons (eVar 1) (aCons (eC (.int 5)) aNil))))) (tNot (tOf (eFn (fAA fun bs => bs.all id) (aCons (cLc (iSeq (eVar 1)) [2] (gN 2) tTrue (eFn s_is_hush (aCons (eVar 2) aNil))) aNil))))) (sRet (eC (.bl false))) sSkip)
    (sRet (eFn s_is_rising (aCons (eFn fTup (aCons (cLc (iSeq (eVar 1)) [3, 4] (gT 2 (gsCons (gN 3) (gsCons (gN 4) gsNil))) tTrue (eVar 3)) aNil)) (aCons (eVar 0) aNil)))))
def m_is_hushes : Fm := mkFn 2 5 b_is_hushes
def s_is_hushes : Fm := obs 2 fun ds st => match ds with
  | [.int n, d] => if dk st d = true then some (.bl (hushesD n d)) else none
  | _ => none
theorem a_is_hushes : Arity 2 s_is_hushes := obs_ar
theorem hushes_of {d : D} {st : Sto} {n : Int} (h : dk st d = true) : s_is_hushes [.int n, d] st = .ok (.bl (hushesD n d)) st := obs_ok rfl (if_pos h)
theorem t_is_hushes : Tells m_is_hushes s_is_hushes := .obs fun ds st d g b hl h => by
  match ds, hl, h with
  | [.int n, x], _, h =>
    have h' : (if dk st x = true then some (D.bl (hushesD n x)) else none) = some d := h
    split at h'
    · rename_i hk
      cases h'
      refine ⟨by simp only [Bnd], ?_⟩
      have hrow : s_is_row [x, .int 5] st = .ok (.bl (rowD 5 x)) st := row_of (n := 5) (dk_kn hk)
      cases x with
      | tup xs =>
        have hx := dk_tup hk
        by_cases h5 : xs.length ≤ 5
        · have hm : xs.length ≤ most := Nat.le_trans h5 (by decide)
          have hr : rowD 5 (.tup xs) = true := decide_eq_true h5
          simp only [m_is_hushes, b_is_hushes, ev_var, ev_c, ev_un, ev_bin, ev_anil, ev_acons, ev_fn, ev_tof, ev_tob, ev_tand, ev_tor, ev_tnot, ev_and, ev_or, ev_not, ev_if, ev_chain, ev_true, ev_slice, ev_onone, ev_osome, ev_iseq, ev_irng, ev_ienum, ev_ibin, ev_lc, ev_skip, ev_never, ev_seq, ev_ret, ev_sif, ev_set, ev_expr, ev_asg, ev_par, ev_for, ev_fld, ev_gn, ev_gsnil, ev_gscons, ev_gt, ev_mkfn, ev_bok, ev_berr, ev_bfail, ev_tok, ev_hok, ev_ert, ev_enx, ev_wn, ev_wc, ev_e0, ev_sseq, ev_senum, ev_szip, ev_sltup, ev_ltI, ev_leI, ev_gtI, ev_geI, ev_subI, ev_addI, ev_lenT, List.map_cons, List.map_nil, List.length_cons, List.length_nil, List.cons_append, List.nil_append, List.append_nil, List.getElem?_cons_zero, List.getElem?_cons_succ, List.set_cons_zero, List.set_cons_succ, List.replicate_succ, List.replicate_zero, Nat.reduceAdd, Nat.reduceSub, Nat.reduceEqDiff, reduceIte, Bool.true_eq_false, Bool.false_eq_true, if_true, if_false, hrow, hr, Bool.not_true]
          rw [startLc_map (f := fun x => .bl (hushD x)) rfl hm fun x h2 acc => ⟨_, rfl, by simp only [ev_var, ev_c, ev_un, ev_bin, ev_anil, ev_acons, ev_fn, ev_tof, ev_tob, ev_tand, ev_tor, ev_tnot, ev_and, ev_or, ev_not, ev_if, ev_chain, ev_true, ev_slice, ev_onone, ev_osome, ev_iseq, ev_irng, ev_ienum, ev_ibin, ev_lc, ev_skip, ev_never, ev_seq, ev_ret, ev_sif, ev_set, ev_expr, ev_asg, ev_par, ev_for, ev_fld, ev_gn, ev_gsnil, ev_gscons, ev_gt, ev_mkfn, ev_bok, ev_berr, ev_bfail, ev_tok, ev_hok, ev_ert, ev_enx, ev_wn, ev_wc, ev_e0, ev_sseq, ev_senum, ev_szip, ev_sltup, ev_ltI, ev_leI, ev_gtI, ev_geI, ev_subI, ev_addI, ev_lenT, List.map_cons, List.map_nil, List.length_cons, List.length_nil, List.cons_append, List.nil_append, List.append_nil, List.getElem?_cons_zero, List.getElem?_cons_succ, List.set_cons_zero, List.set_cons_succ, List.replicate_succ, List.replicate_zero, Nat.reduceAdd, Nat.reduceSub, Nat.reduceEqDiff, reduceIte, Bool.true_eq_false, Bool.false_eq_true, if_true, if_false, hush_is (dk_app (hx x h2))]⟩]
          simp only [ev_var, ev_c, ev_un, ev_bin, ev_anil, ev_acons, ev_fn, ev_tof, ev_tob, ev_tand, ev_tor, ev_tnot, ev_and, ev_or, ev_not, ev_if, ev_chain, ev_true, ev_slice, ev_onone, ev_osome, ev_iseq, ev_irng, ev_ienum, ev_ibin, ev_lc, ev_skip, ev_never, ev_seq, ev_ret, ev_sif, ev_set, ev_expr, ev_asg, ev_par, ev_for, ev_fld, ev_gn, ev_gsnil, ev_gscons, ev_gt, ev_mkfn, ev_bok, ev_berr, ev_bfail, ev_tok, ev_hok, ev_ert, ev_enx, ev_wn, ev_wc, ev_e0, ev_sseq, ev_senum, ev_szip, ev_sltup, ev_ltI, ev_leI, ev_gtI, ev_geI, ev_subI, ev_addI, ev_lenT, List.map_cons, List.map_nil, List.length_cons, List.length_nil, List.cons_append, List.nil_append, List.append_nil, List.getElem?_cons_zero, List.getElem?_cons_succ, List.set_cons_zero, List.set_cons_succ, List.replicate_succ, List.replicate_zero, Nat.reduceAdd, Nat.reduceSub, Nat.reduceEqDiff, reduceIte, Bool.true_eq_false, Bool.false_eq_true, if_true, if_false, aa_end, all_id]
          by_cases ha : xs.all hushD = true
          · simp only [ev_var, ev_c, ev_un, ev_bin, ev_anil, ev_acons, ev_fn, ev_tof, ev_tob, ev_tand, ev_tor, ev_tnot, ev_and, ev_or, ev_not, ev_if, ev_chain, ev_true, ev_slice, ev_onone, ev_osome, ev_iseq, ev_irng, ev_ienum, ev_ibin, ev_lc, ev_skip, ev_never, ev_seq, ev_ret, ev_sif, ev_set, ev_expr, ev_asg, ev_par, ev_for, ev_fld, ev_gn, ev_gsnil, ev_gscons, ev_gt, ev_mkfn, ev_bok, ev_berr, ev_bfail, ev_tok, ev_hok, ev_ert, ev_enx, ev_wn, ev_wc, ev_e0, ev_sseq, ev_senum, ev_szip, ev_sltup, ev_ltI, ev_leI, ev_gtI, ev_geI, ev_subI, ev_addI, ev_lenT, List.map_cons, List.map_nil, List.length_cons, List.length_nil, List.cons_append, List.nil_append, List.append_nil, List.getElem?_cons_zero, List.getElem?_cons_succ, List.set_cons_zero, List.set_cons_succ, List.replicate_succ, List.replicate_zero, Nat.reduceAdd, Nat.reduceSub, Nat.reduceEqDiff, reduceIte, Bool.true_eq_false, Bool.false_eq_true, if_true, if_false, ha, Bool.not_true]
            rw [startLc_map (f := fstD) rfl hm fun x h2 acc => ?_]
            · have hk2 : dk (st ++ [.lst (xs.map fun x => D.bl (hushD x))] ++ [.lst (xs.map fstD)]) (.tup (xs.map fstD)) = true := by
                apply dk_app
                apply dk_app
                exact dk_fsts hx ha
              simp only [ev_var, ev_c, ev_un, ev_bin, ev_anil, ev_acons, ev_fn, ev_tof, ev_tob, ev_tand, ev_tor, ev_tnot, ev_and, ev_or, ev_not, ev_if, ev_chain, ev_true, ev_slice, ev_onone, ev_osome, ev_iseq, ev_irng, ev_ienum, ev_ibin, ev_lc, ev_skip, ev_never, ev_seq, ev_ret, ev_sif, ev_set, ev_expr, ev_asg, ev_par, ev_for, ev_fld, ev_gn, ev_gsnil, ev_gscons, ev_gt, ev_mkfn, ev_bok, ev_berr, ev_bfail, ev_tok, ev_hok, ev_ert, ev_enx, ev_wn, ev_wc, ev_e0, ev_sseq, ev_senum, ev_szip, ev_sltup, ev_ltI, ev_leI, ev_gtI, ev_geI, ev_subI, ev_addI, ev_lenT, List.map_cons, List.map_nil, List.length_cons, List.length_nil, List.cons_append, List.nil_append, List.append_nil, List.getElem?_cons_zero, List.getElem?_cons_succ, List.set_cons_zero, List.set_cons_succ, List.replicate_succ, List.replicate_zero, Nat.reduceAdd, Nat.reduceSub, Nat.reduceEqDiff, reduceIte, Bool.true_eq_false, Bool.false_eq_true, if_true, if_false, fTup, seqOf, lstOf_end, rising_of hk2 (show (xs.map fstD).length ≤ most by rw [List.length_map]; exact hm)]
              refine ⟨_, by rw [List.append_assoc]; congr 2; simp only [hushesD, h5, ha, decide_true, Bool.true_and]⟩
            · obtain ⟨a, b, rfl⟩ := hush_pair (List.all_eq_true.mp ha x h2)
              exact ⟨_, rfl, rfl⟩
          · rw [Bool.not_eq_true] at ha
            simp only [ev_var, ev_c, ev_un, ev_bin, ev_anil, ev_acons, ev_fn, ev_tof, ev_tob, ev_tand, ev_tor, ev_tnot, ev_and, ev_or, ev_not, ev_if, ev_chain, ev_true, ev_slice, ev_onone, ev_osome, ev_iseq, ev_irng, ev_ienum, ev_ibin, ev_lc, ev_skip, ev_never, ev_seq, ev_ret, ev_sif, ev_set, ev_expr, ev_asg, ev_par, ev_for, ev_fld, ev_gn, ev_gsnil, ev_gscons, ev_gt, ev_mkfn, ev_bok, ev_berr, ev_bfail, ev_tok, ev_hok, ev_ert, ev_enx, ev_wn, ev_wc, ev_e0, ev_sseq, ev_senum, ev_szip, ev_sltup, ev_ltI, ev_leI, ev_gtI, ev_geI, ev_subI, ev_addI, ev_lenT, List.map_cons, List.map_nil, List.length_cons, List.length_nil, List.cons_append, List.nil_append, List.append_nil, List.getElem?_cons_zero, List.getElem?_cons_succ, List.set_cons_zero, List.set_cons_succ, List.replicate_succ, List.replicate_zero, Nat.reduceAdd, Nat.reduceSub, Nat.reduceEqDiff, reduceIte, Bool.true_eq_false, Bool.false_eq_true, if_true, if_false, ha, Bool.not_false]
            refine ⟨[.lst (xs.map fun x => D.bl (hushD x))], ?_⟩
            simp only [hushesD, ha, Bool.and_false, Bool.false_and]
        · have hr : rowD 5 (.tup xs) = false := decide_eq_false h5
          refine ⟨[], ?_⟩
          simp only [m_is_hushes, b_is_hushes, ev_var, ev_c, ev_un, ev_bin, ev_anil, ev_acons, ev_fn, ev_tof, ev_tob, ev_tand, ev_tor, ev_tnot, ev_and, ev_or, ev_not, ev_if, ev_chain, ev_true, ev_slice, ev_onone, ev_osome, ev_iseq, ev_irng, ev_ienum, ev_ibin, ev_lc, ev_skip, ev_never, ev_seq, ev_ret, ev_sif, ev_set, ev_expr, ev_asg, ev_par, ev_for, ev_fld, ev_gn, ev_gsnil, ev_gscons, ev_gt, ev_mkfn, ev_bok, ev_berr, ev_bfail, ev_tok, ev_hok, ev_ert, ev_enx, ev_wn, ev_wc, ev_e0, ev_sseq, ev_senum, ev_szip, ev_sltup, ev_ltI, ev_leI, ev_gtI, ev_geI, ev_subI, ev_addI, ev_lenT, List.map_cons, List.map_nil, List.length_cons, List.length_nil, List.cons_append, List.nil_append, List.append_nil, List.getElem?_cons_zero, List.getElem?_cons_succ, List.set_cons_zero, List.set_cons_succ, List.replicate_succ, List.replicate_zero, Nat.reduceAdd, Nat.reduceSub, Nat.reduceEqDiff, reduceIte, Bool.true_eq_false, Bool.false_eq_true, if_true, if_false, hrow, hr, Bool.not_false, hushesD, decide_eq_false h5, Bool.false_and]
      | _ =>
        refine ⟨[], ?_⟩
        simp only [m_is_hushes, b_is_hushes, ev_var, ev_c, ev_un, ev_bin, ev_anil, ev_acons, ev_fn, ev_tof, ev_tob, ev_tand, ev_tor, ev_tnot, ev_and, ev_or, ev_not, ev_if, ev_chain, ev_true, ev_slice, ev_onone, ev_osome, ev_iseq, ev_irng, ev_ienum, ev_ibin, ev_lc, ev_skip, ev_never, ev_seq, ev_ret, ev_sif, ev_set, ev_expr, ev_asg, ev_par, ev_for, ev_fld, ev_gn, ev_gsnil, ev_gscons, ev_gt, ev_mkfn, ev_bok, ev_berr, ev_bfail, ev_tok, ev_hok, ev_ert, ev_enx, ev_wn, ev_wc, ev_e0, ev_sseq, ev_senum, ev_szip, ev_sltup, ev_ltI, ev_leI, ev_gtI, ev_geI, ev_subI, ev_addI, ev_lenT, List.map_cons, List.map_nil, List.length_cons, List.length_nil, List.cons_append, List.nil_append, List.append_nil, List.getElem?_cons_zero, List.getElem?_cons_succ, List.set_cons_zero, List.set_cons_succ, List.replicate_succ, List.replicate_zero, Nat.reduceAdd, Nat.reduceSub, Nat.reduceEqDiff, reduceIte, Bool.true_eq_false, Bool.false_eq_true, if_true, if_false, hrow, rowD, Bool.not_false, hushesD]
    · cases h'

def b_is_wakes : SM := (sSeq (sIf (tOr (tNot (tOf (eFn s_is_row (aCons (eVar 1) (aCons (eC (.int 5)) aNil))))) (tNot (tOf (eFn s_is_rising (aCons (eVar 1) (aCons (eVar 0) aNil)))))) (sRet (eC (.bl false))) sSkip)
    (sRet (eNot (eFn (fAA fun bs => bs.any id) (aCons (cLc (iSeq (eVar 2)) [3, 4] (gT 2 (gsCons (gN 3) (gsCons (gN 4) gsNil))) tTrue (eBin (dIn false) (eVar 3) (eVar 1))) aNil)))))
def m_is_wakes : Fm := mkFn 3 5 b_is_wakes
def s_is_wakes : Fm := obs 3 fun ds st => match ds with
  | [.int n, d, .tup hs] => if dk st d = true ∧ (hs.all fun h => hushD h && isI (fstD h)) = true ∧ hs.length ≤ most then some (.bl (wakesD n d hs)) else none
  | _ => none
theorem a_is_wakes : Arity 3 s_is_wakes := obs_ar
theorem wakes_of {d : D} {st : Sto} {n : Int} {hs : List D} (h : dk st d = true) (hh : (hs.all fun h => hushD h && isI (fstD h)) = true) (hm : hs.length ≤ most) : s_is_wakes [.int n, d, .tup hs] st = .ok (.bl (wakesD n d hs)) st := obs_ok rfl (if_pos ⟨h, hh, hm⟩)
theorem t_is_wakes : Tells m_is_wakes s_is_wakes := .obs fun ds st d g b hl h => by
  match ds, hl, h with
  | [.int n, x, .tup hs], _, h =>
    have h' : (if dk st x = true ∧ (hs.all fun h => hushD h && isI (fstD h)) = true ∧ hs.length ≤ most then some (D.bl (wakesD n x hs)) else none) = some d := h
    split at h'
    · rename_i hk
      cases h'
      obtain ⟨hk, hh, hm⟩ := hk
      refine ⟨by simp only [Bnd], ?_⟩
      have hrow : s_is_row [x, .int 5] st = .ok (.bl (rowD 5 x)) st := row_of (n := 5) (dk_kn hk)
      cases x with
      | tup xs =>
        by_cases h5 : xs.length ≤ 5
        · have hr : rowD 5 (.tup xs) = true := decide_eq_true h5
          have hris := rising_of (n := n) hk (show xs.length ≤ most from Nat.le_trans h5 (by decide))
          simp only [m_is_wakes, b_is_wakes, ev_var, ev_c, ev_un, ev_bin, ev_anil, ev_acons, ev_fn, ev_tof, ev_tob, ev_tand, ev_tor, ev_tnot, ev_and, ev_or, ev_not, ev_if, ev_chain, ev_true, ev_slice, ev_onone, ev_osome, ev_iseq, ev_irng, ev_ienum, ev_ibin, ev_lc, ev_skip, ev_never, ev_seq, ev_ret, ev_sif, ev_set, ev_expr, ev_asg, ev_par, ev_for, ev_fld, ev_gn, ev_gsnil, ev_gscons, ev_gt, ev_mkfn, ev_bok, ev_berr, ev_bfail, ev_tok, ev_hok, ev_ert, ev_enx, ev_wn, ev_wc, ev_e0, ev_sseq, ev_senum, ev_szip, ev_sltup, ev_ltI, ev_leI, ev_gtI, ev_geI, ev_subI, ev_addI, ev_lenT, List.map_cons, List.map_nil, List.length_cons, List.length_nil, List.cons_append, List.nil_append, List.append_nil, List.getElem?_cons_zero, List.getElem?_cons_succ, List.set_cons_zero, List.set_cons_succ, List.replicate_succ, List.replicate_zero, Nat.reduceAdd, Nat.reduceSub, Nat.reduceEqDiff, reduceIte, Bool.true_eq_false, Bool.false_eq_true, if_true, if_false, hrow, hr, Bool.not_true, hris]
          by_cases hg : risingD n (.tup xs) = true
          · simp only [ev_var, ev_c, ev_un, ev_bin, ev_anil, ev_acons, ev_fn, ev_tof, ev_tob, ev_tand, ev_tor, ev_tnot, ev_and, ev_or, ev_not, ev_if, ev_chain, ev_true, ev_slice, ev_onone, ev_osome, ev_iseq, ev_irng, ev_ienum, ev_ibin, ev_lc, ev_skip, ev_never, ev_seq, ev_ret, ev_sif, ev_set, ev_expr, ev_asg, ev_par, ev_for, ev_fld, ev_gn, ev_gsnil, ev_gscons, ev_gt, ev_mkfn, ev_bok, ev_berr, ev_bfail, ev_tok, ev_hok, ev_ert, ev_enx, ev_wn, ev_wc, ev_e0, ev_sseq, ev_senum, ev_szip, ev_sltup, ev_ltI, ev_leI, ev_gtI, ev_geI, ev_subI, ev_addI, ev_lenT, List.map_cons, List.map_nil, List.length_cons, List.length_nil, List.cons_append, List.nil_append, List.append_nil, List.getElem?_cons_zero, List.getElem?_cons_succ, List.set_cons_zero, List.set_cons_succ, List.replicate_succ, List.replicate_zero, Nat.reduceAdd, Nat.reduceSub, Nat.reduceEqDiff, reduceIte, Bool.true_eq_false, Bool.false_eq_true, if_true, if_false, hg, Bool.not_true]
            rw [startLc_map (f := fun h => .bl (memI (fstD h) xs)) rfl hm fun h h2 acc => ?_]
            · simp only [ev_var, ev_c, ev_un, ev_bin, ev_anil, ev_acons, ev_fn, ev_tof, ev_tob, ev_tand, ev_tor, ev_tnot, ev_and, ev_or, ev_not, ev_if, ev_chain, ev_true, ev_slice, ev_onone, ev_osome, ev_iseq, ev_irng, ev_ienum, ev_ibin, ev_lc, ev_skip, ev_never, ev_seq, ev_ret, ev_sif, ev_set, ev_expr, ev_asg, ev_par, ev_for, ev_fld, ev_gn, ev_gsnil, ev_gscons, ev_gt, ev_mkfn, ev_bok, ev_berr, ev_bfail, ev_tok, ev_hok, ev_ert, ev_enx, ev_wn, ev_wc, ev_e0, ev_sseq, ev_senum, ev_szip, ev_sltup, ev_ltI, ev_leI, ev_gtI, ev_geI, ev_subI, ev_addI, ev_lenT, List.map_cons, List.map_nil, List.length_cons, List.length_nil, List.cons_append, List.nil_append, List.append_nil, List.getElem?_cons_zero, List.getElem?_cons_succ, List.set_cons_zero, List.set_cons_succ, List.replicate_succ, List.replicate_zero, Nat.reduceAdd, Nat.reduceSub, Nat.reduceEqDiff, reduceIte, Bool.true_eq_false, Bool.false_eq_true, if_true, if_false, aa_end, any_id]
              refine ⟨_, by congr 2; simp only [wakesD, h5, hg, decide_true, Bool.true_and]⟩
            · have hp := List.all_eq_true.mp hh h h2
              simp only [Bool.and_eq_true] at hp
              obtain ⟨a, b, rfl⟩ := hush_pair hp.1
              have ea := isI_eq hp.2
              refine ⟨_, rfl, ?_⟩
              simp only [fstD] at ea ⊢
              rw [ea]
              simp only [ev_var, ev_c, ev_un, ev_bin, ev_anil, ev_acons, ev_fn, ev_tof, ev_tob, ev_tand, ev_tor, ev_tnot, ev_and, ev_or, ev_not, ev_if, ev_chain, ev_true, ev_slice, ev_onone, ev_osome, ev_iseq, ev_irng, ev_ienum, ev_ibin, ev_lc, ev_skip, ev_never, ev_seq, ev_ret, ev_sif, ev_set, ev_expr, ev_asg, ev_par, ev_for, ev_fld, ev_gn, ev_gsnil, ev_gscons, ev_gt, ev_mkfn, ev_bok, ev_berr, ev_bfail, ev_tok, ev_hok, ev_ert, ev_enx, ev_wn, ev_wc, ev_e0, ev_sseq, ev_senum, ev_szip, ev_sltup, ev_ltI, ev_leI, ev_gtI, ev_geI, ev_subI, ev_addI, ev_lenT, List.map_cons, List.map_nil, List.length_cons, List.length_nil, List.cons_append, List.nil_append, List.append_nil, List.getElem?_cons_zero, List.getElem?_cons_succ, List.set_cons_zero, List.set_cons_succ, List.replicate_succ, List.replicate_zero, Nat.reduceAdd, Nat.reduceSub, Nat.reduceEqDiff, reduceIte, Bool.true_eq_false, Bool.false_eq_true, if_true, if_false, in_ints (rising_ints hg), wI]
          · rw [Bool.not_eq_true] at hg
            refine ⟨[], ?_⟩
            simp only [ev_var, ev_c, ev_un, ev_bin, ev_anil, ev_acons, ev_fn, ev_tof, ev_tob, ev_tand, ev_tor, ev_tnot, ev_and, ev_or, ev_not, ev_if, ev_chain, ev_true, ev_slice, ev_onone, ev_osome, ev_iseq, ev_irng, ev_ienum, ev_ibin, ev_lc, ev_skip, ev_never, ev_seq, ev_ret, ev_sif, ev_set, ev_expr, ev_asg, ev_par, ev_for, ev_fld, ev_gn, ev_gsnil, ev_gscons, ev_gt, ev_mkfn, ev_bok, ev_berr, ev_bfail, ev_tok, ev_hok, ev_ert, ev_enx, ev_wn, ev_wc, ev_e0, ev_sseq, ev_senum, ev_szip, ev_sltup, ev_ltI, ev_leI, ev_gtI, ev_geI, ev_subI, ev_addI, ev_lenT, List.map_cons, List.map_nil, List.length_cons, List.length_nil, List.cons_append, List.nil_append, List.append_nil, List.getElem?_cons_zero, List.getElem?_cons_succ, List.set_cons_zero, List.set_cons_succ, List.replicate_succ, List.replicate_zero, Nat.reduceAdd, Nat.reduceSub, Nat.reduceEqDiff, reduceIte, Bool.true_eq_false, Bool.false_eq_true, if_true, if_false, hg, Bool.not_false, wakesD, Bool.and_false, Bool.false_and]
        · have hr : rowD 5 (.tup xs) = false := decide_eq_false h5
          refine ⟨[], ?_⟩
          simp only [m_is_wakes, b_is_wakes, ev_var, ev_c, ev_un, ev_bin, ev_anil, ev_acons, ev_fn, ev_tof, ev_tob, ev_tand, ev_tor, ev_tnot, ev_and, ev_or, ev_not, ev_if, ev_chain, ev_true, ev_slice, ev_onone, ev_osome, ev_iseq, ev_irng, ev_ienum, ev_ibin, ev_lc, ev_skip, ev_never, ev_seq, ev_ret, ev_sif, ev_set, ev_expr, ev_asg, ev_par, ev_for, ev_fld, ev_gn, ev_gsnil, ev_gscons, ev_gt, ev_mkfn, ev_bok, ev_berr, ev_bfail, ev_tok, ev_hok, ev_ert, ev_enx, ev_wn, ev_wc, ev_e0, ev_sseq, ev_senum, ev_szip, ev_sltup, ev_ltI, ev_leI, ev_gtI, ev_geI, ev_subI, ev_addI, ev_lenT, List.map_cons, List.map_nil, List.length_cons, List.length_nil, List.cons_append, List.nil_append, List.append_nil, List.getElem?_cons_zero, List.getElem?_cons_succ, List.set_cons_zero, List.set_cons_succ, List.replicate_succ, List.replicate_zero, Nat.reduceAdd, Nat.reduceSub, Nat.reduceEqDiff, reduceIte, Bool.true_eq_false, Bool.false_eq_true, if_true, if_false, hrow, hr, Bool.not_false, wakesD, decide_eq_false h5, Bool.false_and]
      | _ =>
        refine ⟨[], ?_⟩
        simp only [m_is_wakes, b_is_wakes, ev_var, ev_c, ev_un, ev_bin, ev_anil, ev_acons, ev_fn, ev_tof, ev_tob, ev_tand, ev_tor, ev_tnot, ev_and, ev_or, ev_not, ev_if, ev_chain, ev_true, ev_slice, ev_onone, ev_osome, ev_iseq, ev_irng, ev_ienum, ev_ibin, ev_lc, ev_skip, ev_never, ev_seq, ev_ret, ev_sif, ev_set, ev_expr, ev_asg, ev_par, ev_for, ev_fld, ev_gn, ev_gsnil, ev_gscons, ev_gt, ev_mkfn, ev_bok, ev_berr, ev_bfail, ev_tok, ev_hok, ev_ert, ev_enx, ev_wn, ev_wc, ev_e0, ev_sseq, ev_senum, ev_szip, ev_sltup, ev_ltI, ev_leI, ev_gtI, ev_geI, ev_subI, ev_addI, ev_lenT, List.map_cons, List.map_nil, List.length_cons, List.length_nil, List.cons_append, List.nil_append, List.append_nil, List.getElem?_cons_zero, List.getElem?_cons_succ, List.set_cons_zero, List.set_cons_succ, List.replicate_succ, List.replicate_zero, Nat.reduceAdd, Nat.reduceSub, Nat.reduceEqDiff, reduceIte, Bool.true_eq_false, Bool.false_eq_true, if_true, if_false, hrow, rowD, Bool.not_false, wakesD]
    · cases h'

def b_is_rule : SM := (sSeq (sIf (tOr (tNot (tOf (eUn (dIsi "tuple") (eVar 2)))) (tOf (eBin (dEq true) (eFn fLen (aCons (eVar 2) aNil)) (eC (.int 4))))) (sRet (eC (.bl false))) sSkip)
    (sSeq (sAsg (eVar 2) (gT 4 (gsCons (gN 3) (gsCons (gN 4) (gsCons (gN 5) (gsCons (gN 6) gsNil))))))
    (sSeq (sIf (tOr (tNot (tOf (eFn s_is_row (aCons (eVar 3) (aCons (eC (.int 4)) aNil))))) (tNot (tOf (eFn s_is_row (aCons (eVar 4) (aCons (eC (.int 3)) aNil)))))) (sRet (eC (.bl false))) sSkip)
    (sSeq (sIf (tNot (tOf (eFn (fAA fun bs => bs.all id) (aCons (cLc (iSeq (eVar 3)) [7] (gN 7) tTrue (eFn s_is_condition (aCons (eVar 0) (aCons (eVar 1) (aCons (eVar 7) aNil))))) aNil)))) (sRet (eC (.bl false))) sSkip)
    (sSeq (sIf (tNot (tOf (eFn (fAA fun bs => bs.all id) (aCons (cLc (iSeq (eVar 4)) [8] (gN 8) tTrue (eFn s_is_change (aCons (eVar 0) (aCons (eVar 8) aNil)))) aNil)))) (sRet (eC (.bl false))) sSkip)
    (sRet (eAnd (eFn s_is_hushes (aCons (eVar 1) (aCons (eVar 5) aNil))) (eFn s_is_wakes (aCons (eVar 1) (aCons (eVar 6) (aCons (eVar 5) aNil)))))))))))
def m_is_rule : Fm := mkFn 3 9 b_is_rule
def s_is_rule : Fm := obs 3 fun ds st => match ds with
  | [.tup ws, .int n, d] => if dk st d = true ∧ ruleWords d = true ∧ ws.all isI = true then some (.bl (ruleD ws n d)) else none
  | _ => none
theorem a_is_rule : Arity 3 s_is_rule := obs_ar
theorem rule_of {d : D} {st : Sto} {ws : List D} {n : Int} (h : dk st d = true) (hd : ruleWords d = true) (hw : ws.all isI = true) : s_is_rule [.tup ws, .int n, d] st = .ok (.bl (ruleD ws n d)) st := obs_ok rfl (if_pos ⟨h, hd, hw⟩)
theorem t_is_rule : Tells m_is_rule s_is_rule := .obs fun ds st d g b hl h => by
  match ds, hl, h with
  | [.tup ws, .int n, x], _, h =>
    have h' : (if dk st x = true ∧ ruleWords x = true ∧ ws.all isI = true then some (D.bl (ruleD ws n x)) else none) = some d := h
    split at h'
    · rename_i hk
      cases h'
      obtain ⟨hk, hd, hw⟩ := hk
      refine ⟨by simp only [Bnd], ?_⟩
      cases x with
      | tup xs =>
        have hx := dk_tup hk
        by_cases hl4 : xs.length = 4
        · obtain ⟨ts, cs, hs, ks, rfl⟩ := len4 hl4
          have kt := hx ts (by simp)
          have kc := hx cs (by simp)
          have kh := hx hs (by simp)
          have kk := hx ks (by simp)
          simp only [ruleWords, Bool.and_eq_true] at hd
          have rt : s_is_row [ts, .int 4] st = .ok (.bl (rowD 4 ts)) st := row_of (n := 4) (dk_kn kt)
          have rc : s_is_row [cs, .int 3] st = .ok (.bl (rowD 3 cs)) st := row_of (n := 3) (dk_kn kc)
          simp only [m_is_rule, b_is_rule, ev_var, ev_c, ev_un, ev_bin, ev_anil, ev_acons, ev_fn, ev_tof, ev_tob, ev_tand, ev_tor, ev_tnot, ev_and, ev_or, ev_not, ev_if, ev_chain, ev_true, ev_slice, ev_onone, ev_osome, ev_iseq, ev_irng, ev_ienum, ev_ibin, ev_lc, ev_skip, ev_never, ev_seq, ev_ret, ev_sif, ev_set, ev_expr, ev_asg, ev_par, ev_for, ev_fld, ev_gn, ev_gsnil, ev_gscons, ev_gt, ev_mkfn, ev_bok, ev_berr, ev_bfail, ev_tok, ev_hok, ev_ert, ev_enx, ev_wn, ev_wc, ev_e0, ev_sseq, ev_senum, ev_szip, ev_sltup, ev_ltI, ev_leI, ev_gtI, ev_geI, ev_subI, ev_addI, ev_lenT, List.map_cons, List.map_nil, List.length_cons, List.length_nil, List.cons_append, List.nil_append, List.append_nil, List.getElem?_cons_zero, List.getElem?_cons_succ, List.set_cons_zero, List.set_cons_succ, List.replicate_succ, List.replicate_zero, Nat.reduceAdd, Nat.reduceSub, Nat.reduceEqDiff, reduceIte, Bool.true_eq_false, Bool.false_eq_true, if_true, if_false, isi_tup, Bool.not_true, Int.cast_ofNat_Int, eqI, beq_self_eq_true, rt]
          cases h1 : rowD 4 ts with
          | false =>
            refine ⟨[], ?_⟩
            simp only [ev_var, ev_c, ev_un, ev_bin, ev_anil, ev_acons, ev_fn, ev_tof, ev_tob, ev_tand, ev_tor, ev_tnot, ev_and, ev_or, ev_not, ev_if, ev_chain, ev_true, ev_slice, ev_onone, ev_osome, ev_iseq, ev_irng, ev_ienum, ev_ibin, ev_lc, ev_skip, ev_never, ev_seq, ev_ret, ev_sif, ev_set, ev_expr, ev_asg, ev_par, ev_for, ev_fld, ev_gn, ev_gsnil, ev_gscons, ev_gt, ev_mkfn, ev_bok, ev_berr, ev_bfail, ev_tok, ev_hok, ev_ert, ev_enx, ev_wn, ev_wc, ev_e0, ev_sseq, ev_senum, ev_szip, ev_sltup, ev_ltI, ev_leI, ev_gtI, ev_geI, ev_subI, ev_addI, ev_lenT, List.map_cons, List.map_nil, List.length_cons, List.length_nil, List.cons_append, List.nil_append, List.append_nil, List.getElem?_cons_zero, List.getElem?_cons_succ, List.set_cons_zero, List.set_cons_succ, List.replicate_succ, List.replicate_zero, Nat.reduceAdd, Nat.reduceSub, Nat.reduceEqDiff, reduceIte, Bool.true_eq_false, Bool.false_eq_true, if_true, if_false, Bool.not_false, ruleD, h1, Bool.false_and]
          | true =>
            simp only [ev_var, ev_c, ev_un, ev_bin, ev_anil, ev_acons, ev_fn, ev_tof, ev_tob, ev_tand, ev_tor, ev_tnot, ev_and, ev_or, ev_not, ev_if, ev_chain, ev_true, ev_slice, ev_onone, ev_osome, ev_iseq, ev_irng, ev_ienum, ev_ibin, ev_lc, ev_skip, ev_never, ev_seq, ev_ret, ev_sif, ev_set, ev_expr, ev_asg, ev_par, ev_for, ev_fld, ev_gn, ev_gsnil, ev_gscons, ev_gt, ev_mkfn, ev_bok, ev_berr, ev_bfail, ev_tok, ev_hok, ev_ert, ev_enx, ev_wn, ev_wc, ev_e0, ev_sseq, ev_senum, ev_szip, ev_sltup, ev_ltI, ev_leI, ev_gtI, ev_geI, ev_subI, ev_addI, ev_lenT, List.map_cons, List.map_nil, List.length_cons, List.length_nil, List.cons_append, List.nil_append, List.append_nil, List.getElem?_cons_zero, List.getElem?_cons_succ, List.set_cons_zero, List.set_cons_succ, List.replicate_succ, List.replicate_zero, Nat.reduceAdd, Nat.reduceSub, Nat.reduceEqDiff, reduceIte, Bool.true_eq_false, Bool.false_eq_true, if_true, if_false, Bool.not_true, rc]
            cases h2 : rowD 3 cs with
            | false =>
              refine ⟨[], ?_⟩
              simp only [ev_var, ev_c, ev_un, ev_bin, ev_anil, ev_acons, ev_fn, ev_tof, ev_tob, ev_tand, ev_tor, ev_tnot, ev_and, ev_or, ev_not, ev_if, ev_chain, ev_true, ev_slice, ev_onone, ev_osome, ev_iseq, ev_irng, ev_ienum, ev_ibin, ev_lc, ev_skip, ev_never, ev_seq, ev_ret, ev_sif, ev_set, ev_expr, ev_asg, ev_par, ev_for, ev_fld, ev_gn, ev_gsnil, ev_gscons, ev_gt, ev_mkfn, ev_bok, ev_berr, ev_bfail, ev_tok, ev_hok, ev_ert, ev_enx, ev_wn, ev_wc, ev_e0, ev_sseq, ev_senum, ev_szip, ev_sltup, ev_ltI, ev_leI, ev_gtI, ev_geI, ev_subI, ev_addI, ev_lenT, List.map_cons, List.map_nil, List.length_cons, List.length_nil, List.cons_append, List.nil_append, List.append_nil, List.getElem?_cons_zero, List.getElem?_cons_succ, List.set_cons_zero, List.set_cons_succ, List.replicate_succ, List.replicate_zero, Nat.reduceAdd, Nat.reduceSub, Nat.reduceEqDiff, reduceIte, Bool.true_eq_false, Bool.false_eq_true, if_true, if_false, Bool.not_false, ruleD, h1, h2, Bool.true_and, Bool.false_and]
            | true =>
              obtain ⟨tl, rfl, ht4⟩ := row_inv h1
              obtain ⟨cl, rfl, hc3⟩ := row_inv h2
              have xt := dk_tup kt
              have xc := dk_tup kc
              simp only [ev_var, ev_c, ev_un, ev_bin, ev_anil, ev_acons, ev_fn, ev_tof, ev_tob, ev_tand, ev_tor, ev_tnot, ev_and, ev_or, ev_not, ev_if, ev_chain, ev_true, ev_slice, ev_onone, ev_osome, ev_iseq, ev_irng, ev_ienum, ev_ibin, ev_lc, ev_skip, ev_never, ev_seq, ev_ret, ev_sif, ev_set, ev_expr, ev_asg, ev_par, ev_for, ev_fld, ev_gn, ev_gsnil, ev_gscons, ev_gt, ev_mkfn, ev_bok, ev_berr, ev_bfail, ev_tok, ev_hok, ev_ert, ev_enx, ev_wn, ev_wc, ev_e0, ev_sseq, ev_senum, ev_szip, ev_sltup, ev_ltI, ev_leI, ev_gtI, ev_geI, ev_subI, ev_addI, ev_lenT, List.map_cons, List.map_nil, List.length_cons, List.length_nil, List.cons_append, List.nil_append, List.append_nil, List.getElem?_cons_zero, List.getElem?_cons_succ, List.set_cons_zero, List.set_cons_succ, List.replicate_succ, List.replicate_zero, Nat.reduceAdd, Nat.reduceSub, Nat.reduceEqDiff, reduceIte, Bool.true_eq_false, Bool.false_eq_true, if_true, if_false, Bool.not_true]
              rw [startLc_map (f := fun x => .bl (condD ws n x)) rfl (Nat.le_trans ht4 (by decide)) fun x q2 acc => ⟨_, rfl, by simp only [ev_var, ev_c, ev_un, ev_bin, ev_anil, ev_acons, ev_fn, ev_tof, ev_tob, ev_tand, ev_tor, ev_tnot, ev_and, ev_or, ev_not, ev_if, ev_chain, ev_true, ev_slice, ev_onone, ev_osome, ev_iseq, ev_irng, ev_ienum, ev_ibin, ev_lc, ev_skip, ev_never, ev_seq, ev_ret, ev_sif, ev_set, ev_expr, ev_asg, ev_par, ev_for, ev_fld, ev_gn, ev_gsnil, ev_gscons, ev_gt, ev_mkfn, ev_bok, ev_berr, ev_bfail, ev_tok, ev_hok, ev_ert, ev_enx, ev_wn, ev_wc, ev_e0, ev_sseq, ev_senum, ev_szip, ev_sltup, ev_ltI, ev_leI, ev_gtI, ev_geI, ev_subI, ev_addI, ev_lenT, List.map_cons, List.map_nil, List.length_cons, List.length_nil, List.cons_append, List.nil_append, List.append_nil, List.getElem?_cons_zero, List.getElem?_cons_succ, List.set_cons_zero, List.set_cons_succ, List.replicate_succ, List.replicate_zero, Nat.reduceAdd, Nat.reduceSub, Nat.reduceEqDiff, reduceIte, Bool.true_eq_false, Bool.false_eq_true, if_true, if_false, cond_of (dk_app (xt x q2)) (List.all_eq_true.mp hd.1 x q2) hw]⟩]
              simp only [ev_var, ev_c, ev_un, ev_bin, ev_anil, ev_acons, ev_fn, ev_tof, ev_tob, ev_tand, ev_tor, ev_tnot, ev_and, ev_or, ev_not, ev_if, ev_chain, ev_true, ev_slice, ev_onone, ev_osome, ev_iseq, ev_irng, ev_ienum, ev_ibin, ev_lc, ev_skip, ev_never, ev_seq, ev_ret, ev_sif, ev_set, ev_expr, ev_asg, ev_par, ev_for, ev_fld, ev_gn, ev_gsnil, ev_gscons, ev_gt, ev_mkfn, ev_bok, ev_berr, ev_bfail, ev_tok, ev_hok, ev_ert, ev_enx, ev_wn, ev_wc, ev_e0, ev_sseq, ev_senum, ev_szip, ev_sltup, ev_ltI, ev_leI, ev_gtI, ev_geI, ev_subI, ev_addI, ev_lenT, List.map_cons, List.map_nil, List.length_cons, List.length_nil, List.cons_append, List.nil_append, List.append_nil, List.getElem?_cons_zero, List.getElem?_cons_succ, List.set_cons_zero, List.set_cons_succ, List.replicate_succ, List.replicate_zero, Nat.reduceAdd, Nat.reduceSub, Nat.reduceEqDiff, reduceIte, Bool.true_eq_false, Bool.false_eq_true, if_true, if_false, aa_end, all_id]
              cases h3 : tl.all (condD ws n) with
              | false =>
                refine ⟨[.lst (tl.map fun x => D.bl (condD ws n x))], ?_⟩
                simp only [ev_var, ev_c, ev_un, ev_bin, ev_anil, ev_acons, ev_fn, ev_tof, ev_tob, ev_tand, ev_tor, ev_tnot, ev_and, ev_or, ev_not, ev_if, ev_chain, ev_true, ev_slice, ev_onone, ev_osome, ev_iseq, ev_irng, ev_ienum, ev_ibin, ev_lc, ev_skip, ev_never, ev_seq, ev_ret, ev_sif, ev_set, ev_expr, ev_asg, ev_par, ev_for, ev_fld, ev_gn, ev_gsnil, ev_gscons, ev_gt, ev_mkfn, ev_bok, ev_berr, ev_bfail, ev_tok, ev_hok, ev_ert, ev_enx, ev_wn, ev_wc, ev_e0, ev_sseq, ev_senum, ev_szip, ev_sltup, ev_ltI, ev_leI, ev_gtI, ev_geI, ev_subI, ev_addI, ev_lenT, List.map_cons, List.map_nil, List.length_cons, List.length_nil, List.cons_append, List.nil_append, List.append_nil, List.getElem?_cons_zero, List.getElem?_cons_succ, List.set_cons_zero, List.set_cons_succ, List.replicate_succ, List.replicate_zero, Nat.reduceAdd, Nat.reduceSub, Nat.reduceEqDiff, reduceIte, Bool.true_eq_false, Bool.false_eq_true, if_true, if_false, Bool.not_false, ruleD, h1, h2, tupsD, h3, Bool.true_and, Bool.false_and]
              | true =>
                simp only [ev_var, ev_c, ev_un, ev_bin, ev_anil, ev_acons, ev_fn, ev_tof, ev_tob, ev_tand, ev_tor, ev_tnot, ev_and, ev_or, ev_not, ev_if, ev_chain, ev_true, ev_slice, ev_onone, ev_osome, ev_iseq, ev_irng, ev_ienum, ev_ibin, ev_lc, ev_skip, ev_never, ev_seq, ev_ret, ev_sif, ev_set, ev_expr, ev_asg, ev_par, ev_for, ev_fld, ev_gn, ev_gsnil, ev_gscons, ev_gt, ev_mkfn, ev_bok, ev_berr, ev_bfail, ev_tok, ev_hok, ev_ert, ev_enx, ev_wn, ev_wc, ev_e0, ev_sseq, ev_senum, ev_szip, ev_sltup, ev_ltI, ev_leI, ev_gtI, ev_geI, ev_subI, ev_addI, ev_lenT, List.map_cons, List.map_nil, List.length_cons, List.length_nil, List.cons_append, List.nil_append, List.append_nil, List.getElem?_cons_zero, List.getElem?_cons_succ, List.set_cons_zero, List.set_cons_succ, List.replicate_succ, List.replicate_zero, Nat.reduceAdd, Nat.reduceSub, Nat.reduceEqDiff, reduceIte, Bool.true_eq_false, Bool.false_eq_true, if_true, if_false, Bool.not_true]
                rw [startLc_map (f := fun x => .bl (changeD ws x)) rfl (Nat.le_trans hc3 (by decide)) fun x q2 acc => ⟨_, rfl, by simp only [ev_var, ev_c, ev_un, ev_bin, ev_anil, ev_acons, ev_fn, ev_tof, ev_tob, ev_tand, ev_tor, ev_tnot, ev_and, ev_or, ev_not, ev_if, ev_chain, ev_true, ev_slice, ev_onone, ev_osome, ev_iseq, ev_irng, ev_ienum, ev_ibin, ev_lc, ev_skip, ev_never, ev_seq, ev_ret, ev_sif, ev_set, ev_expr, ev_asg, ev_par, ev_for, ev_fld, ev_gn, ev_gsnil, ev_gscons, ev_gt, ev_mkfn, ev_bok, ev_berr, ev_bfail, ev_tok, ev_hok, ev_ert, ev_enx, ev_wn, ev_wc, ev_e0, ev_sseq, ev_senum, ev_szip, ev_sltup, ev_ltI, ev_leI, ev_gtI, ev_geI, ev_subI, ev_addI, ev_lenT, List.map_cons, List.map_nil, List.length_cons, List.length_nil, List.cons_append, List.nil_append, List.append_nil, List.getElem?_cons_zero, List.getElem?_cons_succ, List.set_cons_zero, List.set_cons_succ, List.replicate_succ, List.replicate_zero, Nat.reduceAdd, Nat.reduceSub, Nat.reduceEqDiff, reduceIte, Bool.true_eq_false, Bool.false_eq_true, if_true, if_false, change_of (dk_app (dk_app (xc x q2))) (List.all_eq_true.mp hd.2 x q2) hw]⟩]
                simp only [ev_var, ev_c, ev_un, ev_bin, ev_anil, ev_acons, ev_fn, ev_tof, ev_tob, ev_tand, ev_tor, ev_tnot, ev_and, ev_or, ev_not, ev_if, ev_chain, ev_true, ev_slice, ev_onone, ev_osome, ev_iseq, ev_irng, ev_ienum, ev_ibin, ev_lc, ev_skip, ev_never, ev_seq, ev_ret, ev_sif, ev_set, ev_expr, ev_asg, ev_par, ev_for, ev_fld, ev_gn, ev_gsnil, ev_gscons, ev_gt, ev_mkfn, ev_bok, ev_berr, ev_bfail, ev_tok, ev_hok, ev_ert, ev_enx, ev_wn, ev_wc, ev_e0, ev_sseq, ev_senum, ev_szip, ev_sltup, ev_ltI, ev_leI, ev_gtI, ev_geI, ev_subI, ev_addI, ev_lenT, List.map_cons, List.map_nil, List.length_cons, List.length_nil, List.cons_append, List.nil_append, List.append_nil, List.getElem?_cons_zero, List.getElem?_cons_succ, List.set_cons_zero, List.set_cons_succ, List.replicate_succ, List.replicate_zero, Nat.reduceAdd, Nat.reduceSub, Nat.reduceEqDiff, reduceIte, Bool.true_eq_false, Bool.false_eq_true, if_true, if_false, aa_end, all_id]
                cases h4 : cl.all (changeD ws) with
                | false =>
                  refine ⟨[.lst (tl.map fun x => D.bl (condD ws n x)), .lst (cl.map fun x => D.bl (changeD ws x))], ?_⟩
                  simp only [ev_var, ev_c, ev_un, ev_bin, ev_anil, ev_acons, ev_fn, ev_tof, ev_tob, ev_tand, ev_tor, ev_tnot, ev_and, ev_or, ev_not, ev_if, ev_chain, ev_true, ev_slice, ev_onone, ev_osome, ev_iseq, ev_irng, ev_ienum, ev_ibin, ev_lc, ev_skip, ev_never, ev_seq, ev_ret, ev_sif, ev_set, ev_expr, ev_asg, ev_par, ev_for, ev_fld, ev_gn, ev_gsnil, ev_gscons, ev_gt, ev_mkfn, ev_bok, ev_berr, ev_bfail, ev_tok, ev_hok, ev_ert, ev_enx, ev_wn, ev_wc, ev_e0, ev_sseq, ev_senum, ev_szip, ev_sltup, ev_ltI, ev_leI, ev_gtI, ev_geI, ev_subI, ev_addI, ev_lenT, List.map_cons, List.map_nil, List.length_cons, List.length_nil, List.cons_append, List.nil_append, List.append_nil, List.getElem?_cons_zero, List.getElem?_cons_succ, List.set_cons_zero, List.set_cons_succ, List.replicate_succ, List.replicate_zero, Nat.reduceAdd, Nat.reduceSub, Nat.reduceEqDiff, reduceIte, Bool.true_eq_false, Bool.false_eq_true, if_true, if_false, Bool.not_false, ruleD, h1, h2, tupsD, h3, h4, Bool.true_and, Bool.false_and, List.append_assoc]
                | true =>
                  refine ⟨[.lst (tl.map fun x => D.bl (condD ws n x)), .lst (cl.map fun x => D.bl (changeD ws x))], ?_⟩
                  simp only [ev_var, ev_c, ev_un, ev_bin, ev_anil, ev_acons, ev_fn, ev_tof, ev_tob, ev_tand, ev_tor, ev_tnot, ev_and, ev_or, ev_not, ev_if, ev_chain, ev_true, ev_slice, ev_onone, ev_osome, ev_iseq, ev_irng, ev_ienum, ev_ibin, ev_lc, ev_skip, ev_never, ev_seq, ev_ret, ev_sif, ev_set, ev_expr, ev_asg, ev_par, ev_for, ev_fld, ev_gn, ev_gsnil, ev_gscons, ev_gt, ev_mkfn, ev_bok, ev_berr, ev_bfail, ev_tok, ev_hok, ev_ert, ev_enx, ev_wn, ev_wc, ev_e0, ev_sseq, ev_senum, ev_szip, ev_sltup, ev_ltI, ev_leI, ev_gtI, ev_geI, ev_subI, ev_addI, ev_lenT, List.map_cons, List.map_nil, List.length_cons, List.length_nil, List.cons_append, List.nil_append, List.append_nil, List.getElem?_cons_zero, List.getElem?_cons_succ, List.set_cons_zero, List.set_cons_succ, List.replicate_succ, List.replicate_zero, Nat.reduceAdd, Nat.reduceSub, Nat.reduceEqDiff, reduceIte, Bool.true_eq_false, Bool.false_eq_true, if_true, if_false, Bool.not_true, hushes_of (dk_app (dk_app kh))]
                  cases h5 : hushesD n hs with
                  | false => simp only [ev_var, ev_c, ev_un, ev_bin, ev_anil, ev_acons, ev_fn, ev_tof, ev_tob, ev_tand, ev_tor, ev_tnot, ev_and, ev_or, ev_not, ev_if, ev_chain, ev_true, ev_slice, ev_onone, ev_osome, ev_iseq, ev_irng, ev_ienum, ev_ibin, ev_lc, ev_skip, ev_never, ev_seq, ev_ret, ev_sif, ev_set, ev_expr, ev_asg, ev_par, ev_for, ev_fld, ev_gn, ev_gsnil, ev_gscons, ev_gt, ev_mkfn, ev_bok, ev_berr, ev_bfail, ev_tok, ev_hok, ev_ert, ev_enx, ev_wn, ev_wc, ev_e0, ev_sseq, ev_senum, ev_szip, ev_sltup, ev_ltI, ev_leI, ev_gtI, ev_geI, ev_subI, ev_addI, ev_lenT, List.map_cons, List.map_nil, List.length_cons, List.length_nil, List.cons_append, List.nil_append, List.append_nil, List.getElem?_cons_zero, List.getElem?_cons_succ, List.set_cons_zero, List.set_cons_succ, List.replicate_succ, List.replicate_zero, Nat.reduceAdd, Nat.reduceSub, Nat.reduceEqDiff, reduceIte, Bool.true_eq_false, Bool.false_eq_true, if_true, if_false, ruleD, h1, h2, tupsD, h3, h4, h5, Bool.true_and, Bool.false_and, List.append_assoc]
                  | true =>
                    obtain ⟨hl2, rfl, hm5, hall⟩ := hushes_inv h5
                    simp only [ev_var, ev_c, ev_un, ev_bin, ev_anil, ev_acons, ev_fn, ev_tof, ev_tob, ev_tand, ev_tor, ev_tnot, ev_and, ev_or, ev_not, ev_if, ev_chain, ev_true, ev_slice, ev_onone, ev_osome, ev_iseq, ev_irng, ev_ienum, ev_ibin, ev_lc, ev_skip, ev_never, ev_seq, ev_ret, ev_sif, ev_set, ev_expr, ev_asg, ev_par, ev_for, ev_fld, ev_gn, ev_gsnil, ev_gscons, ev_gt, ev_mkfn, ev_bok, ev_berr, ev_bfail, ev_tok, ev_hok, ev_ert, ev_enx, ev_wn, ev_wc, ev_e0, ev_sseq, ev_senum, ev_szip, ev_sltup, ev_ltI, ev_leI, ev_gtI, ev_geI, ev_subI, ev_addI, ev_lenT, List.map_cons, List.map_nil, List.length_cons, List.length_nil, List.cons_append, List.nil_append, List.append_nil, List.getElem?_cons_zero, List.getElem?_cons_succ, List.set_cons_zero, List.set_cons_succ, List.replicate_succ, List.replicate_zero, Nat.reduceAdd, Nat.reduceSub, Nat.reduceEqDiff, reduceIte, Bool.true_eq_false, Bool.false_eq_true, if_true, if_false, wakes_of (dk_app (dk_app kk)) hall hm5]
                    simp only [ruleD, h1, h2, tupsD, h3, h4, h5, Bool.true_and, List.append_assoc, List.cons_append, List.nil_append]
        · have e : decide ((xs.length : Int) = 4) = false := decide_eq_false (by omega)
          refine ⟨[], ?_⟩
          simp only [m_is_rule, b_is_rule, ev_var, ev_c, ev_un, ev_bin, ev_anil, ev_acons, ev_fn, ev_tof, ev_tob, ev_tand, ev_tor, ev_tnot, ev_and, ev_or, ev_not, ev_if, ev_chain, ev_true, ev_slice, ev_onone, ev_osome, ev_iseq, ev_irng, ev_ienum, ev_ibin, ev_lc, ev_skip, ev_never, ev_seq, ev_ret, ev_sif, ev_set, ev_expr, ev_asg, ev_par, ev_for, ev_fld, ev_gn, ev_gsnil, ev_gscons, ev_gt, ev_mkfn, ev_bok, ev_berr, ev_bfail, ev_tok, ev_hok, ev_ert, ev_enx, ev_wn, ev_wc, ev_e0, ev_sseq, ev_senum, ev_szip, ev_sltup, ev_ltI, ev_leI, ev_gtI, ev_geI, ev_subI, ev_addI, ev_lenT, List.map_cons, List.map_nil, List.length_cons, List.length_nil, List.cons_append, List.nil_append, List.append_nil, List.getElem?_cons_zero, List.getElem?_cons_succ, List.set_cons_zero, List.set_cons_succ, List.replicate_succ, List.replicate_zero, Nat.reduceAdd, Nat.reduceSub, Nat.reduceEqDiff, reduceIte, Bool.true_eq_false, Bool.false_eq_true, if_true, if_false, isi_tup, Bool.not_true, eqN, e, Bool.not_false]
          congr 2
          unfold ruleD
          split
          · rename_i q
            cases q
            exact absurd rfl hl4
          · rfl
      | _ =>
        refine ⟨[], ?_⟩
        simp only [m_is_rule, b_is_rule, ev_var, ev_c, ev_un, ev_bin, ev_anil, ev_acons, ev_fn, ev_tof, ev_tob, ev_tand, ev_tor, ev_tnot, ev_and, ev_or, ev_not, ev_if, ev_chain, ev_true, ev_slice, ev_onone, ev_osome, ev_iseq, ev_irng, ev_ienum, ev_ibin, ev_lc, ev_skip, ev_never, ev_seq, ev_ret, ev_sif, ev_set, ev_expr, ev_asg, ev_par, ev_for, ev_fld, ev_gn, ev_gsnil, ev_gscons, ev_gt, ev_mkfn, ev_bok, ev_berr, ev_bfail, ev_tok, ev_hok, ev_ert, ev_enx, ev_wn, ev_wc, ev_e0, ev_sseq, ev_senum, ev_szip, ev_sltup, ev_ltI, ev_leI, ev_gtI, ev_geI, ev_subI, ev_addI, ev_lenT, List.map_cons, List.map_nil, List.length_cons, List.length_nil, List.cons_append, List.nil_append, List.append_nil, List.getElem?_cons_zero, List.getElem?_cons_succ, List.set_cons_zero, List.set_cons_succ, List.replicate_succ, List.replicate_zero, Nat.reduceAdd, Nat.reduceSub, Nat.reduceEqDiff, reduceIte, Bool.true_eq_false, Bool.false_eq_true, if_true, if_false, isi_tupD (dk_kn hk)]
        rfl
    · cases h'

def b_Book_init : SM := (sSeq (sIf (tOr (tNot (tOf (eFn s_is_wheels (aCons (eVar 1) aNil)))) (tNot (tOf (eFn s_is_row (aCons (eVar 2) (aCons (eC (.int 5)) aNil)))))) sNever sSkip)
    (sSeq (sFor (iEnum (eVar 2)) (gT 2 (gsCons (gN 3) (gsCons (gN 4) gsNil))) (sIf (tNot (tOf (eFn s_is_rule (aCons (eVar 1) (aCons (eFn fLen (aCons (eVar 2) aNil)) (aCons (eVar 4) aNil)))))) sNever sSkip))
    (sSeq (sFldM "Book" "wheels" (eVar 0) (eVar 1))
    (sFldM "Book" "rules" (eVar 0) (eVar 2)))))
def m_Book_init : Fm := mkFn 3 5 b_Book_init
def s_Book_init : Fm := wr 3 fun ds st => match ds with
  | [.ref k, .tup ws, .tup rs] => match st[k]? with
    | some (.ins c []) => if c = "Book" ∧ dk st (.tup ws) = true ∧ dk st (.tup rs) = true ∧ wheelsD (.tup ws) = true ∧ rs.length ≤ 5 ∧ (rs.all fun r => ruleWords r && ruleD ws rs.length r) = true then some (.non, st.set k (bookO ws rs)) else none
    | _ => none
  | _ => none
theorem a_Book_init : Arity 3 s_Book_init := wr_ar
theorem t_Book_init : Tells m_Book_init s_Book_init := .wr fun ds st d st1 g b hl h => by
  match ds, hl, h with
  | [.ref k, .tup ws, .tup rs], _, h =>
    have h' : (match st[k]? with | some (.ins c []) => if c = "Book" ∧ dk st (.tup ws) = true ∧ dk st (.tup rs) = true ∧ wheelsD (.tup ws) = true ∧ rs.length ≤ 5 ∧ (rs.all fun r => ruleWords r && ruleD ws rs.length r) = true then some (D.non, st.set k (bookO ws rs)) else none | _ => none) = some (d, st1) := h
    split at h'
    · rename_i c hq
      split at h'
      · rename_i hc
        cases h'
        obtain ⟨rfl, kw, kr, hw, h5, hall⟩ := hc
        have hk : k < st.length := (List.getElem?_eq_some_iff.mp hq).1
        simp only [Bnds] at b
        refine ⟨by simp, good_set g (by simp only [bookO, BndO, List.map_cons, List.map_nil, Bnds]; exact ⟨b.2.1, b.2.2.1, trivial⟩), by simp only [Bnd], [], ?_⟩
        have hI := wheels_ints hw
        have xr := dk_tup kr
        have r5 : s_is_row [.tup rs, .int 5] st = .ok (.bl true) st := by
          have := row_of (n := 5) (d := .tup rs) (st := st) rfl
          rw [show rowD 5 (.tup rs) = true from decide_eq_true h5] at this
          exact this
        simp only [m_Book_init, b_Book_init, ev_var, ev_c, ev_un, ev_bin, ev_anil, ev_acons, ev_fn, ev_tof, ev_tob, ev_tand, ev_tor, ev_tnot, ev_and, ev_or, ev_not, ev_if, ev_chain, ev_true, ev_slice, ev_onone, ev_osome, ev_iseq, ev_irng, ev_ienum, ev_ibin, ev_lc, ev_skip, ev_never, ev_seq, ev_ret, ev_sif, ev_set, ev_expr, ev_asg, ev_par, ev_for, ev_fld, ev_gn, ev_gsnil, ev_gscons, ev_gt, ev_mkfn, ev_bok, ev_berr, ev_bfail, ev_tok, ev_hok, ev_ert, ev_enx, ev_wn, ev_wc, ev_e0, ev_sseq, ev_senum, ev_szip, ev_sltup, ev_ltI, ev_leI, ev_gtI, ev_geI, ev_subI, ev_addI, ev_lenT, List.map_cons, List.map_nil, List.length_cons, List.length_nil, List.cons_append, List.nil_append, List.append_nil, List.getElem?_cons_zero, List.getElem?_cons_succ, List.set_cons_zero, List.set_cons_succ, List.replicate_succ, List.replicate_zero, Nat.reduceAdd, Nat.reduceSub, Nat.reduceEqDiff, reduceIte, Bool.true_eq_false, Bool.false_eq_true, if_true, if_false, wheels_of kw, hw, r5, Bool.not_true]
        obtain ⟨env', e1, x, y, e2⟩ := startFor_inv (s := .fix (enumFrom 0 rs)) (g := gT 2 (gsCons (gN 3) (gsCons (gN 4) gsNil))) (st := st) (xs := enumFrom 0 rs) (env := [some (.ref k), some (.tup ws), some (.tup rs), none, none])
          (body := sIf (tNot (tOf (eFn s_is_rule (aCons (eVar 1) (aCons (eFn fLen (aCons (eVar 2) aNil)) (aCons (eVar 4) aNil)))))) sNever sSkip) rfl (fun env => ∃ x y, env = [some (.ref k), some (.tup ws), some (.tup rs), x, y]) ⟨none, none, rfl⟩ fun p hp env ⟨x, y, he⟩ => by
            subst he
            obtain ⟨i, hi⟩ := List.getElem?_of_mem hp
            obtain ⟨r, hr, rfl⟩ := enum_get hi
            have hm := List.mem_of_getElem? hr
            have hq2 := List.all_eq_true.mp hall r hm
            simp only [Bool.and_eq_true] at hq2
            refine ⟨_, [some (.ref k), some (.tup ws), some (.tup rs), some (.int ((0 + i : Nat) : Int)), some r], rfl, ?_, _, _, rfl⟩
            simp only [ev_var, ev_c, ev_un, ev_bin, ev_anil, ev_acons, ev_fn, ev_tof, ev_tob, ev_tand, ev_tor, ev_tnot, ev_and, ev_or, ev_not, ev_if, ev_chain, ev_true, ev_slice, ev_onone, ev_osome, ev_iseq, ev_irng, ev_ienum, ev_ibin, ev_lc, ev_skip, ev_never, ev_seq, ev_ret, ev_sif, ev_set, ev_expr, ev_asg, ev_par, ev_for, ev_fld, ev_gn, ev_gsnil, ev_gscons, ev_gt, ev_mkfn, ev_bok, ev_berr, ev_bfail, ev_tok, ev_hok, ev_ert, ev_enx, ev_wn, ev_wc, ev_e0, ev_sseq, ev_senum, ev_szip, ev_sltup, ev_ltI, ev_leI, ev_gtI, ev_geI, ev_subI, ev_addI, ev_lenT, List.map_cons, List.map_nil, List.length_cons, List.length_nil, List.cons_append, List.nil_append, List.append_nil, List.getElem?_cons_zero, List.getElem?_cons_succ, List.set_cons_zero, List.set_cons_succ, List.replicate_succ, List.replicate_zero, Nat.reduceAdd, Nat.reduceSub, Nat.reduceEqDiff, reduceIte, Bool.true_eq_false, Bool.false_eq_true, if_true, if_false, rule_of (xr r hm) hq2.1 hI, hq2.2, Bool.not_true]
        rw [e1, e2]
        simp only [ev_var, ev_c, ev_un, ev_bin, ev_anil, ev_acons, ev_fn, ev_tof, ev_tob, ev_tand, ev_tor, ev_tnot, ev_and, ev_or, ev_not, ev_if, ev_chain, ev_true, ev_slice, ev_onone, ev_osome, ev_iseq, ev_irng, ev_ienum, ev_ibin, ev_lc, ev_skip, ev_never, ev_seq, ev_ret, ev_sif, ev_set, ev_expr, ev_asg, ev_par, ev_for, ev_fld, ev_gn, ev_gsnil, ev_gscons, ev_gt, ev_mkfn, ev_bok, ev_berr, ev_bfail, ev_tok, ev_hok, ev_ert, ev_enx, ev_wn, ev_wc, ev_e0, ev_sseq, ev_senum, ev_szip, ev_sltup, ev_ltI, ev_leI, ev_gtI, ev_geI, ev_subI, ev_addI, ev_lenT, List.map_cons, List.map_nil, List.length_cons, List.length_nil, List.cons_append, List.nil_append, List.append_nil, List.getElem?_cons_zero, List.getElem?_cons_succ, List.set_cons_zero, List.set_cons_succ, List.replicate_succ, List.replicate_zero, Nat.reduceAdd, Nat.reduceSub, Nat.reduceEqDiff, reduceIte, Bool.true_eq_false, Bool.false_eq_true, if_true, if_false, setFld_ok hq (show ([] : List (Str × D)).length < 400 by decide)]
        rw [setFld_ok (get_set hk) (by simp [putD])]
        simp only [ev_var, ev_c, ev_un, ev_bin, ev_anil, ev_acons, ev_fn, ev_tof, ev_tob, ev_tand, ev_tor, ev_tnot, ev_and, ev_or, ev_not, ev_if, ev_chain, ev_true, ev_slice, ev_onone, ev_osome, ev_iseq, ev_irng, ev_ienum, ev_ibin, ev_lc, ev_skip, ev_never, ev_seq, ev_ret, ev_sif, ev_set, ev_expr, ev_asg, ev_par, ev_for, ev_fld, ev_gn, ev_gsnil, ev_gscons, ev_gt, ev_mkfn, ev_bok, ev_berr, ev_bfail, ev_tok, ev_hok, ev_ert, ev_enx, ev_wn, ev_wc, ev_e0, ev_sseq, ev_senum, ev_szip, ev_sltup, ev_ltI, ev_leI, ev_gtI, ev_geI, ev_subI, ev_addI, ev_lenT, List.map_cons, List.map_nil, List.length_cons, List.length_nil, List.cons_append, List.nil_append, List.append_nil, List.getElem?_cons_zero, List.getElem?_cons_succ, List.set_cons_zero, List.set_cons_succ, List.replicate_succ, List.replicate_zero, Nat.reduceAdd, Nat.reduceSub, Nat.reduceEqDiff, reduceIte, Bool.true_eq_false, Bool.false_eq_true, if_true, if_false, List.set_set, book_put]
      · cases h'
    · cases h'
theorem book_init_of {st : Sto} {k : Nat} {ws rs : List D} (hq : st[k]? = some (.ins "Book" [])) (kw : dk st (.tup ws) = true) (kr : dk st (.tup rs) = true) (hw : wheelsD (.tup ws) = true) (h5 : rs.length ≤ 5) (ha : (rs.all fun r => ruleWords r && ruleD ws rs.length r) = true) : s_Book_init [.ref k, .tup ws, .tup rs] st = .ok .non (st.set k (bookO ws rs)) := by
  refine wr_ok rfl ?_
  show (match st[k]? with | some (.ins c []) => if c = "Book" ∧ dk st (.tup ws) = true ∧ dk st (.tup rs) = true ∧ wheelsD (.tup ws) = true ∧ rs.length ≤ 5 ∧ (rs.all fun r => ruleWords r && ruleD ws rs.length r) = true then some (D.non, st.set k (bookO ws rs)) else none | _ => none) = _
  rw [hq]
  show (if ("Book" : Str) = ("Book" : Str) ∧ dk st (.tup ws) = true ∧ dk st (.tup rs) = true ∧ wheelsD (.tup ws) = true ∧ rs.length ≤ 5 ∧ (rs.all fun r => ruleWords r && ruleD ws rs.length r) = true then some (D.non, st.set k (bookO ws rs)) else none) = _
  rw [if_pos ⟨rfl, kw, kr, hw, h5, ha⟩]
theorem book_made {st : Sto} {ws rs : List D} (kw : dk st (.tup ws) = true) (kr : dk st (.tup rs) = true) (hw : wheelsD (.tup ws) = true) (h5 : rs.length ≤ 5) (ha : (rs.all fun r => ruleWords r && ruleD ws rs.length r) = true) : mkIns "Book" s_Book_init [.tup ws, .tup rs] st = .ok (.ref st.length) (st ++ [bookO ws rs]) := by
  unfold mkIns
  rw [book_init_of get_end (dk_app kw) (dk_app kr) hw h5 ha, set_end]
  rfl

def b_begun : SM := (sSeq (sIf (tNot (tOf (eFn s_is_values (aCons (eUn (dFld "Book" "wheels") (eVar 0)) (aCons (eVar 1) aNil))))) sNever sSkip)
    (sRet (eFn mkTup (aCons (eVar 1) (aCons (eBin dMul (eFn mkTup (aCons (eC (.int 0)) aNil)) (eFn fLen (aCons (eUn (dFld "Book" "rules") (eVar 0)) aNil))) aNil)))))
def m_begun : Fm := mkFn 2 2 b_begun
def s_begun : Fm := obs 2 fun ds st => match ds with
  | [bk, .tup vs] => match bookD st bk with
    | some (ws, rs) => if vs.all isI = true ∧ ws.all isI = true ∧ vs.length ≤ most ∧ valuesD ws (.tup vs) = true ∧ 2 ≤ rs.length ∧ rs.length ≤ 1000 then some (.tup [.tup vs, .tup (List.replicate rs.length (.int 0))]) else none
    | none => none
  | _ => none
theorem a_begun : Arity 2 s_begun := obs_ar
theorem begun_of {st : Sto} {bk : D} {ws rs vs : List D} (hb : bookD st bk = some (ws, rs)) (h : vs.all isI = true ∧ ws.all isI = true ∧ vs.length ≤ most ∧ valuesD ws (.tup vs) = true ∧ 2 ≤ rs.length ∧ rs.length ≤ 1000) : s_begun [bk, .tup vs] st = .ok (.tup [.tup vs, .tup (List.replicate rs.length (.int 0))]) st := by
  refine obs_ok rfl ?_
  simp only [hb]
  exact if_pos h
theorem t_begun : Tells m_begun s_begun := .obs fun ds st d g bd hl h => by
  match ds, hl, h with
  | [bk, .tup vs], _, h =>
    cases hb : bookD st bk with
    | none => simp only [hb] at h; cases h
    | some q =>
      obtain ⟨ws, rs⟩ := q
      simp only [hb] at h
      split at h
      · rename_i hk
        obtain ⟨h1, h2, h3, h4, h5, h6⟩ := hk
        cases h
        refine ⟨by simp only [Bnd, Bnds, and_true]; exact ⟨bnds_ints h1, bnds_ints (List.all_eq_true.mpr fun x hx => by rw [(List.mem_replicate.mp hx).2]; rfl)⟩, [], ?_⟩
        have hmul : dMul (.tup [.int 0]) (.int (rs.length : Int)) st = .ok (.tup (List.replicate rs.length (.int 0))) st := by
          unfold dMul
          simp only
          rw [if_pos ⟨by simp, by omega, by omega, by simp⟩, Int.toNat_natCast]
          congr 2
          clear h5 h6 hb bd h4
          induction rs.length with
          | zero => rfl
          | succ n ih => rw [List.replicate_succ, List.flatten_cons, ih, List.replicate_succ]; rfl
        simp only [m_begun, b_begun, ev_var, ev_c, ev_un, ev_bin, ev_anil, ev_acons, ev_fn, ev_tof, ev_tob, ev_tand, ev_tor, ev_tnot, ev_and, ev_or, ev_not, ev_if, ev_chain, ev_true, ev_slice, ev_onone, ev_osome, ev_iseq, ev_irng, ev_ienum, ev_ibin, ev_lc, ev_skip, ev_never, ev_seq, ev_ret, ev_sif, ev_set, ev_expr, ev_asg, ev_par, ev_for, ev_fld, ev_gn, ev_gsnil, ev_gscons, ev_gt, ev_mkfn, ev_bok, ev_berr, ev_bfail, ev_tok, ev_hok, ev_ert, ev_enx, ev_wn, ev_wc, ev_e0, ev_sseq, ev_senum, ev_szip, ev_sltup, ev_ltI, ev_leI, ev_gtI, ev_geI, ev_subI, ev_addI, ev_lenT, List.map_cons, List.map_nil, List.length_cons, List.length_nil, List.cons_append, List.nil_append, List.append_nil, List.getElem?_cons_zero, List.getElem?_cons_succ, List.set_cons_zero, List.set_cons_succ, List.replicate_succ, List.replicate_zero, Nat.reduceAdd, Nat.reduceSub, Nat.reduceEqDiff, reduceIte, Bool.true_eq_false, Bool.false_eq_true, if_true, if_false, book_wheels hb, book_rules hb, values_of (dk_ints h1) (show (tupsD (.tup vs)).length ≤ most from h3) h2, h4, Bool.not_true, show mkTup [.int 0] st = .ok (.tup [.int 0]) st from rfl, hmul, mkTup2]
      · cases h

def b_own_order : SM := (sRet (eFn fTRg (aCons (eFn fLen (aCons (eUn (dFld "Book" "rules") (eVar 0)) aNil)) aNil)))
def m_own_order : Fm := mkFn 1 1 b_own_order
def s_own_order : Fm := obs 1 fun ds st => match ds with
  | [bk] => match bookD st bk with
    | some (_, rs) => if rs.length ≤ 1000 then some (.tup (ordO rs)) else none
    | none => none
  | _ => none
theorem a_own_order : Arity 1 s_own_order := obs_ar
theorem own_of {st : Sto} {bk : D} {ws rs : List D} (hb : bookD st bk = some (ws, rs)) (h : rs.length ≤ 1000) : s_own_order [bk] st = .ok (.tup (ordO rs)) st := by
  refine obs_ok rfl ?_
  show (match bookD st bk with | some (_, rs) => if rs.length ≤ 1000 then some (D.tup (ordO rs)) else none | none => none) = _
  rw [hb]
  exact if_pos h
theorem t_own_order : Tells m_own_order s_own_order := .obs fun ds st d g b hl h => by
  match ds, hl, h with
  | [bk], _, h =>
    have h' : (match bookD st bk with | some (_, rs) => if rs.length ≤ 1000 then some (D.tup (ordO rs)) else none | none => none) = some d := h
    split at h'
    · rename_i ws rs hb
      split at h'
      · rename_i hn
        cases h'
        refine ⟨by simp only [Bnd]; exact bnds_ints (ord_ints rs), [], ?_⟩
        simp only [m_own_order, b_own_order, ev_var, ev_c, ev_un, ev_bin, ev_anil, ev_acons, ev_fn, ev_tof, ev_tob, ev_tand, ev_tor, ev_tnot, ev_and, ev_or, ev_not, ev_if, ev_chain, ev_true, ev_slice, ev_onone, ev_osome, ev_iseq, ev_irng, ev_ienum, ev_ibin, ev_lc, ev_skip, ev_never, ev_seq, ev_ret, ev_sif, ev_set, ev_expr, ev_asg, ev_par, ev_for, ev_fld, ev_gn, ev_gsnil, ev_gscons, ev_gt, ev_mkfn, ev_bok, ev_berr, ev_bfail, ev_tok, ev_hok, ev_ert, ev_enx, ev_wn, ev_wc, ev_e0, ev_sseq, ev_senum, ev_szip, ev_sltup, ev_ltI, ev_leI, ev_gtI, ev_geI, ev_subI, ev_addI, ev_lenT, List.map_cons, List.map_nil, List.length_cons, List.length_nil, List.cons_append, List.nil_append, List.append_nil, List.getElem?_cons_zero, List.getElem?_cons_succ, List.set_cons_zero, List.set_cons_succ, List.replicate_succ, List.replicate_zero, Nat.reduceAdd, Nat.reduceSub, Nat.reduceEqDiff, reduceIte, Bool.true_eq_false, Bool.false_eq_true, if_true, if_false, book_rules hb, fTRg, if_pos (show ((rs.length : Int) ≤ 16777216 ∧ -16777216 ≤ (rs.length : Int)) by omega), Int.toNat_natCast, ordO]
      · cases h'
    · cases h'

def b_ended : SM := (sRet (eFn mkTup (aCons (eFn fTup (aCons (eVar 0) aNil)) (aCons (eFn fTup (aCons (cLc (iSeq (eVar 1)) [2] (gN 2) tTrue (eFn (fI2 iMax) (aCons (eC (.int 0)) (aCons (eBin dSub (eVar 2) (eC (.int 1))) aNil)))) aNil)) aNil))))
def m_ended : Fm := mkFn 2 3 b_ended
def b_is_so : SM := (sSeq (sSet 3 (eBin dIx (eVar 0) (eC (.int 0))))
    (sSeq (sIf (tOf (eBin (dEq false) (eVar 3) (eC (.str "hushed")))) (sRet (eBin dGt (eBin dIx (eVar 2) (eBin dIx (eVar 0) (eC (.int 1)))) (eC (.int 0)))) sSkip)
    (sSeq (sIf (tOf (eBin (dEq false) (eVar 3) (eC (.str "awake")))) (sRet (eBin (dEq false) (eBin dIx (eVar 2) (eBin dIx (eVar 0) (eC (.int 1)))) (eC (.int 0)))) sSkip)
    (sSeq (sSet 4 (eBin dIx (eVar 1) (eBin dIx (eVar 0) (eC (.int 1)))))
    (sSeq (sSet 5 (eBin dIx (eVar 0) (eC (.int 2))))
    (sSeq (sIf (tOf (eBin (dEq false) (eVar 3) (eC (.str "is")))) (sRet (eBin (dEq false) (eVar 4) (eVar 5))) sSkip)
    (sSeq (sIf (tOf (eBin (dEq false) (eVar 3) (eC (.str "not")))) (sRet (eBin (dEq true) (eVar 4) (eVar 5))) sSkip)
    (sRet (eBin dLt (eVar 4) (eVar 5))))))))))
def m_is_so : Fm := mkFn 3 6 b_is_so
def s_is_so : Fm := obs 3 fun ds st => match ds with
  | [c, v, l] => match seqOf st v, seqOf st l with
    | some vs, some ls => (soO c vs ls).map D.bl
    | _, _ => none
  | _ => none
theorem a_is_so : Arity 3 s_is_so := obs_ar
theorem so_of {c v l : D} {st : Sto} {vs ls : List D} {b : Bool} (hv : seqOf st v = some vs) (hl : seqOf st l = some ls) (h : soO c vs ls = some b) : s_is_so [c, v, l] st = .ok (.bl b) st := by
  refine obs_ok rfl ?_
  show (match seqOf st v, seqOf st l with | some vs, some ls => (soO c vs ls).map D.bl | _, _ => none) = _
  rw [hv, hl]
  show (soO c vs ls).map D.bl = _
  rw [h]
  rfl
theorem t_is_so : Tells m_is_so s_is_so := .obs fun ds st d g b hl h => by
  match ds, hl, h with
  | [c, v, l], _, h =>
    have h' : (match seqOf st v, seqOf st l with | some vs, some ls => (soO c vs ls).map D.bl | _, _ => none) = some d := h
    cases hv : seqOf st v with
    | none => rw [hv] at h'; cases h'
    | some vs =>
      cases hl2 : seqOf st l with
      | none => rw [hv, hl2] at h'; cases h'
      | some ls =>
        rw [hv, hl2] at h'
        obtain ⟨q, hq, rfl⟩ := Option.map_eq_some_iff.mp h'
        refine ⟨by simp only [Bnd], [], ?_⟩
        unfold soO at hq
        split at hq
        · rename_i w r _
          split at hq
          · rename_i i hi
            by_cases h1 : w = "hushed"
            · subst h1
              rw [if_pos rfl] at hq
              cases hq
              simp only [m_is_so, b_is_so, ev_var, ev_c, ev_un, ev_bin, ev_anil, ev_acons, ev_fn, ev_tof, ev_tob, ev_tand, ev_tor, ev_tnot, ev_and, ev_or, ev_not, ev_if, ev_chain, ev_true, ev_slice, ev_onone, ev_osome, ev_iseq, ev_irng, ev_ienum, ev_ibin, ev_lc, ev_skip, ev_never, ev_seq, ev_ret, ev_sif, ev_set, ev_expr, ev_asg, ev_par, ev_for, ev_fld, ev_gn, ev_gsnil, ev_gscons, ev_gt, ev_mkfn, ev_bok, ev_berr, ev_bfail, ev_tok, ev_hok, ev_ert, ev_enx, ev_wn, ev_wc, ev_e0, ev_sseq, ev_senum, ev_szip, ev_sltup, ev_ltI, ev_leI, ev_gtI, ev_geI, ev_subI, ev_addI, ev_lenT, List.map_cons, List.map_nil, List.length_cons, List.length_nil, List.cons_append, List.nil_append, List.append_nil, List.getElem?_cons_zero, List.getElem?_cons_succ, List.set_cons_zero, List.set_cons_succ, List.replicate_succ, List.replicate_zero, Nat.reduceAdd, Nat.reduceSub, Nat.reduceEqDiff, reduceIte, Bool.true_eq_false, Bool.false_eq_true, if_true, if_false, ixS (st := st) (v := .tup [.str "hushed", .int r]) (i := 0) rfl rfl, ixS (st := st) (v := .tup [.str "hushed", .int r]) (i := 1) rfl rfl, ixS hl2 hi, strEq "hushed" "hushed" (by decide +kernel) (by decide +kernel), beq_self_eq_true]
            · rw [if_neg h1] at hq
              by_cases h2 : w = "awake"
              · subst h2
                rw [if_pos rfl] at hq
                cases hq
                simp only [m_is_so, b_is_so, ev_var, ev_c, ev_un, ev_bin, ev_anil, ev_acons, ev_fn, ev_tof, ev_tob, ev_tand, ev_tor, ev_tnot, ev_and, ev_or, ev_not, ev_if, ev_chain, ev_true, ev_slice, ev_onone, ev_osome, ev_iseq, ev_irng, ev_ienum, ev_ibin, ev_lc, ev_skip, ev_never, ev_seq, ev_ret, ev_sif, ev_set, ev_expr, ev_asg, ev_par, ev_for, ev_fld, ev_gn, ev_gsnil, ev_gscons, ev_gt, ev_mkfn, ev_bok, ev_berr, ev_bfail, ev_tok, ev_hok, ev_ert, ev_enx, ev_wn, ev_wc, ev_e0, ev_sseq, ev_senum, ev_szip, ev_sltup, ev_ltI, ev_leI, ev_gtI, ev_geI, ev_subI, ev_addI, ev_lenT, List.map_cons, List.map_nil, List.length_cons, List.length_nil, List.cons_append, List.nil_append, List.append_nil, List.getElem?_cons_zero, List.getElem?_cons_succ, List.set_cons_zero, List.set_cons_succ, List.replicate_succ, List.replicate_zero, Nat.reduceAdd, Nat.reduceSub, Nat.reduceEqDiff, reduceIte, Bool.true_eq_false, Bool.false_eq_true, if_true, if_false, ixS (st := st) (v := .tup [.str "awake", .int r]) (i := 0) rfl rfl, ixS (st := st) (v := .tup [.str "awake", .int r]) (i := 1) rfl rfl, ixS hl2 hi, strEq "awake" "hushed" (by decide +kernel) (by decide +kernel), strEq "awake" "awake" (by decide +kernel) (by decide +kernel), beq_self_eq_true, show (("awake" : Str) == "hushed") = false by decide +kernel, eqI]
              · rw [if_neg h2] at hq; cases hq
          · cases hq
        · rename_i w x p _
          split at hq
          · rename_i i hi
            have key : ∀ u : Str, SeqAt.shaped (.str u) = true → (u == ("hushed" : Str)) = false → (u == ("awake" : Str)) = false → w = u → m_is_so [.tup [.str w, .int x, .int p], v, l] st = (if u = "is" then .ok (.bl (i == p)) st else if u = "not" then .ok (.bl (!(i == p))) st else .ok (.bl (decide (i < p))) st) := by
              intro u hu e1 e2 hw
              subst hw
              have e3 : (w == ("is" : Str)) = decide (w = "is") := by by_cases z : w = "is" <;> simp [z]
              have e4 : (w == ("not" : Str)) = decide (w = "not") := by by_cases z : w = "not" <;> simp [z]
              simp only [m_is_so, b_is_so, ev_var, ev_c, ev_un, ev_bin, ev_anil, ev_acons, ev_fn, ev_tof, ev_tob, ev_tand, ev_tor, ev_tnot, ev_and, ev_or, ev_not, ev_if, ev_chain, ev_true, ev_slice, ev_onone, ev_osome, ev_iseq, ev_irng, ev_ienum, ev_ibin, ev_lc, ev_skip, ev_never, ev_seq, ev_ret, ev_sif, ev_set, ev_expr, ev_asg, ev_par, ev_for, ev_fld, ev_gn, ev_gsnil, ev_gscons, ev_gt, ev_mkfn, ev_bok, ev_berr, ev_bfail, ev_tok, ev_hok, ev_ert, ev_enx, ev_wn, ev_wc, ev_e0, ev_sseq, ev_senum, ev_szip, ev_sltup, ev_ltI, ev_leI, ev_gtI, ev_geI, ev_subI, ev_addI, ev_lenT, List.map_cons, List.map_nil, List.length_cons, List.length_nil, List.cons_append, List.nil_append, List.append_nil, List.getElem?_cons_zero, List.getElem?_cons_succ, List.set_cons_zero, List.set_cons_succ, List.replicate_succ, List.replicate_zero, Nat.reduceAdd, Nat.reduceSub, Nat.reduceEqDiff, reduceIte, Bool.true_eq_false, Bool.false_eq_true, if_true, if_false, ixS (st := st) (v := .tup [.str w, .int x, .int p]) (i := 0) rfl rfl, ixS (st := st) (v := .tup [.str w, .int x, .int p]) (i := 1) rfl rfl, ixS (st := st) (v := .tup [.str w, .int x, .int p]) (i := 2) rfl rfl, ixS hv hi, strEq w "hushed" hu (by decide +kernel), strEq w "awake" hu (by decide +kernel), e1, e2, strEq w "is" hu (by decide +kernel), strEq w "not" hu (by decide +kernel), e3, e4, eqI]
              by_cases z1 : w = "is"
              · simp only [decide_eq_true z1, ev_var, ev_c, ev_un, ev_bin, ev_anil, ev_acons, ev_fn, ev_tof, ev_tob, ev_tand, ev_tor, ev_tnot, ev_and, ev_or, ev_not, ev_if, ev_chain, ev_true, ev_slice, ev_onone, ev_osome, ev_iseq, ev_irng, ev_ienum, ev_ibin, ev_lc, ev_skip, ev_never, ev_seq, ev_ret, ev_sif, ev_set, ev_expr, ev_asg, ev_par, ev_for, ev_fld, ev_gn, ev_gsnil, ev_gscons, ev_gt, ev_mkfn, ev_bok, ev_berr, ev_bfail, ev_tok, ev_hok, ev_ert, ev_enx, ev_wn, ev_wc, ev_e0, ev_sseq, ev_senum, ev_szip, ev_sltup, ev_ltI, ev_leI, ev_gtI, ev_geI, ev_subI, ev_addI, ev_lenT, List.map_cons, List.map_nil, List.length_cons, List.length_nil, List.cons_append, List.nil_append, List.append_nil, List.getElem?_cons_zero, List.getElem?_cons_succ, List.set_cons_zero, List.set_cons_succ, List.replicate_succ, List.replicate_zero, Nat.reduceAdd, Nat.reduceSub, Nat.reduceEqDiff, reduceIte, Bool.true_eq_false, Bool.false_eq_true, if_true, if_false, eqI, if_pos z1]
              · by_cases z2 : w = "not"
                · simp only [decide_eq_false z1, decide_eq_true z2, ev_var, ev_c, ev_un, ev_bin, ev_anil, ev_acons, ev_fn, ev_tof, ev_tob, ev_tand, ev_tor, ev_tnot, ev_and, ev_or, ev_not, ev_if, ev_chain, ev_true, ev_slice, ev_onone, ev_osome, ev_iseq, ev_irng, ev_ienum, ev_ibin, ev_lc, ev_skip, ev_never, ev_seq, ev_ret, ev_sif, ev_set, ev_expr, ev_asg, ev_par, ev_for, ev_fld, ev_gn, ev_gsnil, ev_gscons, ev_gt, ev_mkfn, ev_bok, ev_berr, ev_bfail, ev_tok, ev_hok, ev_ert, ev_enx, ev_wn, ev_wc, ev_e0, ev_sseq, ev_senum, ev_szip, ev_sltup, ev_ltI, ev_leI, ev_gtI, ev_geI, ev_subI, ev_addI, ev_lenT, List.map_cons, List.map_nil, List.length_cons, List.length_nil, List.cons_append, List.nil_append, List.append_nil, List.getElem?_cons_zero, List.getElem?_cons_succ, List.set_cons_zero, List.set_cons_succ, List.replicate_succ, List.replicate_zero, Nat.reduceAdd, Nat.reduceSub, Nat.reduceEqDiff, reduceIte, Bool.true_eq_false, Bool.false_eq_true, if_true, if_false, strEq w "not" hu (by decide +kernel), e4, eqI, if_neg z1, if_pos z2]
                · simp only [decide_eq_false z1, decide_eq_false z2, ev_var, ev_c, ev_un, ev_bin, ev_anil, ev_acons, ev_fn, ev_tof, ev_tob, ev_tand, ev_tor, ev_tnot, ev_and, ev_or, ev_not, ev_if, ev_chain, ev_true, ev_slice, ev_onone, ev_osome, ev_iseq, ev_irng, ev_ienum, ev_ibin, ev_lc, ev_skip, ev_never, ev_seq, ev_ret, ev_sif, ev_set, ev_expr, ev_asg, ev_par, ev_for, ev_fld, ev_gn, ev_gsnil, ev_gscons, ev_gt, ev_mkfn, ev_bok, ev_berr, ev_bfail, ev_tok, ev_hok, ev_ert, ev_enx, ev_wn, ev_wc, ev_e0, ev_sseq, ev_senum, ev_szip, ev_sltup, ev_ltI, ev_leI, ev_gtI, ev_geI, ev_subI, ev_addI, ev_lenT, List.map_cons, List.map_nil, List.length_cons, List.length_nil, List.cons_append, List.nil_append, List.append_nil, List.getElem?_cons_zero, List.getElem?_cons_succ, List.set_cons_zero, List.set_cons_succ, List.replicate_succ, List.replicate_zero, Nat.reduceAdd, Nat.reduceSub, Nat.reduceEqDiff, reduceIte, Bool.true_eq_false, Bool.false_eq_true, if_true, if_false, strEq w "not" hu (by decide +kernel), e4, eqI, if_neg z1, if_neg z2]
            rw [List.append_nil]
            by_cases h1 : w = "is"
            · rw [if_pos h1] at hq; cases hq
              rw [key "is" (by decide +kernel) (by decide +kernel) (by decide +kernel) h1, if_pos rfl]
            · rw [if_neg h1] at hq
              by_cases h2 : w = "not"
              · rw [if_pos h2] at hq; cases hq
                rw [key "not" (by decide +kernel) (by decide +kernel) (by decide +kernel) h2, if_neg (by decide +kernel), if_pos rfl]
              · rw [if_neg h2] at hq
                by_cases h3 : w = "below"
                · rw [if_pos h3] at hq; cases hq
                  rw [key "below" (by decide +kernel) (by decide +kernel) (by decide +kernel) h3, if_neg (by decide +kernel), if_neg (by decide +kernel)]
                · rw [if_neg h3] at hq; cases hq
          · cases hq
        · cases hq

def b_is_ready : SM := (sSeq (sIf (tOf (eBin dGt (eBin dIx (eVar 3) (eVar 1)) (eC (.int 0)))) (sRet (eC (.bl false))) sSkip)
    (sSeq (sFor (iSeq (eBin dIx (eBin dIx (eUn (dFld "Book" "rules") (eVar 0)) (eVar 1)) (eC (.int 0)))) (gN 4) (sIf (tNot (tOf (eFn s_is_so (aCons (eVar 4) (aCons (eVar 2) (aCons (eVar 3) aNil)))))) (sRet (eC (.bl false))) sSkip))
    (sRet (eC (.bl true)))))
def m_is_ready : Fm := mkFn 4 5 b_is_ready
def s_is_ready : Fm := obs 4 fun ds st => match ds with
  | [bk, .int r, v, l] => match bookD st bk, seqOf st v, seqOf st l with
    | some (_, rs), some vs, some ls => (readyO rs r vs ls).map D.bl
    | _, _, _ => none
  | _ => none
theorem a_is_ready : Arity 4 s_is_ready := obs_ar
theorem ready_of {bk v l : D} {st : Sto} {ws rs vs ls : List D} {r : Int} {b : Bool} (hb : bookD st bk = some (ws, rs)) (hv : seqOf st v = some vs) (hl : seqOf st l = some ls) (h : readyO rs r vs ls = some b) : s_is_ready [bk, .int r, v, l] st = .ok (.bl b) st := by
  refine obs_ok rfl ?_
  show (match bookD st bk, seqOf st v, seqOf st l with | some (_, rs), some vs, some ls => (readyO rs r vs ls).map D.bl | _, _, _ => none) = _
  rw [hb, hv, hl]
  show (readyO rs r vs ls).map D.bl = _
  rw [h]
  rfl
theorem t_is_ready : Tells m_is_ready s_is_ready := .obs fun ds st d g b hl h => by
  match ds, hl, h with
  | [bk, .int r, v, l], _, h =>
    have h' : (match bookD st bk, seqOf st v, seqOf st l with | some (_, rs), some vs, some ls => (readyO rs r vs ls).map D.bl | _, _, _ => none) = some d := h
    split at h'
    · rename_i ws rs vs ls hb hv hl2
      obtain ⟨q, hq, rfl⟩ := Option.map_eq_some_iff.mp h'
      refine ⟨by simp only [Bnd], [], ?_⟩
      rw [List.append_nil]
      unfold readyO at hq
      split at hq
      · rename_i i cs c2 c3 c4 hi hr
        simp only [m_is_ready, b_is_ready, ev_var, ev_c, ev_un, ev_bin, ev_anil, ev_acons, ev_fn, ev_tof, ev_tob, ev_tand, ev_tor, ev_tnot, ev_and, ev_or, ev_not, ev_if, ev_chain, ev_true, ev_slice, ev_onone, ev_osome, ev_iseq, ev_irng, ev_ienum, ev_ibin, ev_lc, ev_skip, ev_never, ev_seq, ev_ret, ev_sif, ev_set, ev_expr, ev_asg, ev_par, ev_for, ev_fld, ev_gn, ev_gsnil, ev_gscons, ev_gt, ev_mkfn, ev_bok, ev_berr, ev_bfail, ev_tok, ev_hok, ev_ert, ev_enx, ev_wn, ev_wc, ev_e0, ev_sseq, ev_senum, ev_szip, ev_sltup, ev_ltI, ev_leI, ev_gtI, ev_geI, ev_subI, ev_addI, ev_lenT, List.map_cons, List.map_nil, List.length_cons, List.length_nil, List.cons_append, List.nil_append, List.append_nil, List.getElem?_cons_zero, List.getElem?_cons_succ, List.set_cons_zero, List.set_cons_succ, List.replicate_succ, List.replicate_zero, Nat.reduceAdd, Nat.reduceSub, Nat.reduceEqDiff, reduceIte, Bool.true_eq_false, Bool.false_eq_true, if_true, if_false, ixS hl2 hi]
        by_cases h0 : 0 < i
        · rw [if_pos h0] at hq
          cases hq
          simp only [decide_eq_true h0, ev_var, ev_c, ev_un, ev_bin, ev_anil, ev_acons, ev_fn, ev_tof, ev_tob, ev_tand, ev_tor, ev_tnot, ev_and, ev_or, ev_not, ev_if, ev_chain, ev_true, ev_slice, ev_onone, ev_osome, ev_iseq, ev_irng, ev_ienum, ev_ibin, ev_lc, ev_skip, ev_never, ev_seq, ev_ret, ev_sif, ev_set, ev_expr, ev_asg, ev_par, ev_for, ev_fld, ev_gn, ev_gsnil, ev_gscons, ev_gt, ev_mkfn, ev_bok, ev_berr, ev_bfail, ev_tok, ev_hok, ev_ert, ev_enx, ev_wn, ev_wc, ev_e0, ev_sseq, ev_senum, ev_szip, ev_sltup, ev_ltI, ev_leI, ev_gtI, ev_geI, ev_subI, ev_addI, ev_lenT, List.map_cons, List.map_nil, List.length_cons, List.length_nil, List.cons_append, List.nil_append, List.append_nil, List.getElem?_cons_zero, List.getElem?_cons_succ, List.set_cons_zero, List.set_cons_succ, List.replicate_succ, List.replicate_zero, Nat.reduceAdd, Nat.reduceSub, Nat.reduceEqDiff, reduceIte, Bool.true_eq_false, Bool.false_eq_true, if_true, if_false]
        · rw [if_neg h0] at hq
          split at hq
          · rename_i hall
            cases hq
            simp only [decide_eq_false h0, ev_var, ev_c, ev_un, ev_bin, ev_anil, ev_acons, ev_fn, ev_tof, ev_tob, ev_tand, ev_tor, ev_tnot, ev_and, ev_or, ev_not, ev_if, ev_chain, ev_true, ev_slice, ev_onone, ev_osome, ev_iseq, ev_irng, ev_ienum, ev_ibin, ev_lc, ev_skip, ev_never, ev_seq, ev_ret, ev_sif, ev_set, ev_expr, ev_asg, ev_par, ev_for, ev_fld, ev_gn, ev_gsnil, ev_gscons, ev_gt, ev_mkfn, ev_bok, ev_berr, ev_bfail, ev_tok, ev_hok, ev_ert, ev_enx, ev_wn, ev_wc, ev_e0, ev_sseq, ev_senum, ev_szip, ev_sltup, ev_ltI, ev_leI, ev_gtI, ev_geI, ev_subI, ev_addI, ev_lenT, List.map_cons, List.map_nil, List.length_cons, List.length_nil, List.cons_append, List.nil_append, List.append_nil, List.getElem?_cons_zero, List.getElem?_cons_succ, List.set_cons_zero, List.set_cons_succ, List.replicate_succ, List.replicate_zero, Nat.reduceAdd, Nat.reduceSub, Nat.reduceEqDiff, reduceIte, Bool.true_eq_false, Bool.false_eq_true, if_true, if_false, book_rules hb, ixS (st := st) (v := .tup rs) rfl hr, ixS (st := st) (v := .tup [.tup cs, c2, c3, c4]) (i := 0) rfl rfl]
            have key := startFor_all (s := .fix cs) (g := gN 4) (st := st) (xs := cs) (P := fun c => soO c vs ls == some true) (d := .bl false) (env := [some bk, some (.int r), some v, some l, none])
              (body := sIf (tNot (tOf (eFn s_is_so (aCons (eVar 4) (aCons (eVar 2) (aCons (eVar 3) aNil)))))) (sRet (eC (.bl false))) sSkip) rfl (fun env => ∃ x, env = [some bk, some (.int r), some v, some l, x]) ⟨none, rfl⟩ fun c hc env ⟨x, he⟩ => by
                subst he
                obtain ⟨z, hz⟩ := Option.isSome_iff_exists.mp (List.all_eq_true.mp hall c hc)
                refine ⟨_, rfl, fun hp => ⟨[some bk, some (.int r), some v, some l, some c], ?_, _, rfl⟩, fun hp => ?_⟩
                · have hz2 : z = true := by rw [hz] at hp; simpa using hp
                  subst hz2
                  simp only [ev_var, ev_c, ev_un, ev_bin, ev_anil, ev_acons, ev_fn, ev_tof, ev_tob, ev_tand, ev_tor, ev_tnot, ev_and, ev_or, ev_not, ev_if, ev_chain, ev_true, ev_slice, ev_onone, ev_osome, ev_iseq, ev_irng, ev_ienum, ev_ibin, ev_lc, ev_skip, ev_never, ev_seq, ev_ret, ev_sif, ev_set, ev_expr, ev_asg, ev_par, ev_for, ev_fld, ev_gn, ev_gsnil, ev_gscons, ev_gt, ev_mkfn, ev_bok, ev_berr, ev_bfail, ev_tok, ev_hok, ev_ert, ev_enx, ev_wn, ev_wc, ev_e0, ev_sseq, ev_senum, ev_szip, ev_sltup, ev_ltI, ev_leI, ev_gtI, ev_geI, ev_subI, ev_addI, ev_lenT, List.map_cons, List.map_nil, List.length_cons, List.length_nil, List.cons_append, List.nil_append, List.append_nil, List.getElem?_cons_zero, List.getElem?_cons_succ, List.set_cons_zero, List.set_cons_succ, List.replicate_succ, List.replicate_zero, Nat.reduceAdd, Nat.reduceSub, Nat.reduceEqDiff, reduceIte, Bool.true_eq_false, Bool.false_eq_true, if_true, if_false, so_of hv hl2 hz, Bool.not_true]
                · have hz2 : z = false := by rw [hz] at hp; simpa using hp
                  subst hz2
                  simp only [ev_var, ev_c, ev_un, ev_bin, ev_anil, ev_acons, ev_fn, ev_tof, ev_tob, ev_tand, ev_tor, ev_tnot, ev_and, ev_or, ev_not, ev_if, ev_chain, ev_true, ev_slice, ev_onone, ev_osome, ev_iseq, ev_irng, ev_ienum, ev_ibin, ev_lc, ev_skip, ev_never, ev_seq, ev_ret, ev_sif, ev_set, ev_expr, ev_asg, ev_par, ev_for, ev_fld, ev_gn, ev_gsnil, ev_gscons, ev_gt, ev_mkfn, ev_bok, ev_berr, ev_bfail, ev_tok, ev_hok, ev_ert, ev_enx, ev_wn, ev_wc, ev_e0, ev_sseq, ev_senum, ev_szip, ev_sltup, ev_ltI, ev_leI, ev_gtI, ev_geI, ev_subI, ev_addI, ev_lenT, List.map_cons, List.map_nil, List.length_cons, List.length_nil, List.cons_append, List.nil_append, List.append_nil, List.getElem?_cons_zero, List.getElem?_cons_succ, List.set_cons_zero, List.set_cons_succ, List.replicate_succ, List.replicate_zero, Nat.reduceAdd, Nat.reduceSub, Nat.reduceEqDiff, reduceIte, Bool.true_eq_false, Bool.false_eq_true, if_true, if_false, so_of hv hl2 hz, Bool.not_false]
            cases hA : cs.all fun c => soO c vs ls == some true with
            | true =>
              obtain ⟨env', e1, _⟩ := key.1 hA
              rw [e1]
              simp only [ev_var, ev_c, ev_un, ev_bin, ev_anil, ev_acons, ev_fn, ev_tof, ev_tob, ev_tand, ev_tor, ev_tnot, ev_and, ev_or, ev_not, ev_if, ev_chain, ev_true, ev_slice, ev_onone, ev_osome, ev_iseq, ev_irng, ev_ienum, ev_ibin, ev_lc, ev_skip, ev_never, ev_seq, ev_ret, ev_sif, ev_set, ev_expr, ev_asg, ev_par, ev_for, ev_fld, ev_gn, ev_gsnil, ev_gscons, ev_gt, ev_mkfn, ev_bok, ev_berr, ev_bfail, ev_tok, ev_hok, ev_ert, ev_enx, ev_wn, ev_wc, ev_e0, ev_sseq, ev_senum, ev_szip, ev_sltup, ev_ltI, ev_leI, ev_gtI, ev_geI, ev_subI, ev_addI, ev_lenT, List.map_cons, List.map_nil, List.length_cons, List.length_nil, List.cons_append, List.nil_append, List.append_nil, List.getElem?_cons_zero, List.getElem?_cons_succ, List.set_cons_zero, List.set_cons_succ, List.replicate_succ, List.replicate_zero, Nat.reduceAdd, Nat.reduceSub, Nat.reduceEqDiff, reduceIte, Bool.true_eq_false, Bool.false_eq_true, if_true, if_false]
            | false =>
              rw [key.2 hA]
              simp only [ev_var, ev_c, ev_un, ev_bin, ev_anil, ev_acons, ev_fn, ev_tof, ev_tob, ev_tand, ev_tor, ev_tnot, ev_and, ev_or, ev_not, ev_if, ev_chain, ev_true, ev_slice, ev_onone, ev_osome, ev_iseq, ev_irng, ev_ienum, ev_ibin, ev_lc, ev_skip, ev_never, ev_seq, ev_ret, ev_sif, ev_set, ev_expr, ev_asg, ev_par, ev_for, ev_fld, ev_gn, ev_gsnil, ev_gscons, ev_gt, ev_mkfn, ev_bok, ev_berr, ev_bfail, ev_tok, ev_hok, ev_ert, ev_enx, ev_wn, ev_wc, ev_e0, ev_sseq, ev_senum, ev_szip, ev_sltup, ev_ltI, ev_leI, ev_gtI, ev_geI, ev_subI, ev_addI, ev_lenT, List.map_cons, List.map_nil, List.length_cons, List.length_nil, List.cons_append, List.nil_append, List.append_nil, List.getElem?_cons_zero, List.getElem?_cons_succ, List.set_cons_zero, List.set_cons_succ, List.replicate_succ, List.replicate_zero, Nat.reduceAdd, Nat.reduceSub, Nat.reduceEqDiff, reduceIte, Bool.true_eq_false, Bool.false_eq_true, if_true, if_false]
          · cases hq
      · cases hq
    · cases h'

def b_carry_out : SM := (sSeq (sAsg (eBin dIx (eUn (dFld "Book" "rules") (eVar 0)) (eVar 1)) (gT 4 (gsCons (gN 5) (gsCons (gN 6) (gsCons (gN 7) (gsCons (gN 8) gsNil))))))
    (sSeq (sFor (iSeq (eVar 6)) (gT 3 (gsCons (gN 9) (gsCons (gN 10) (gsCons (gN 11) gsNil)))) (sSeq (sSet 12 (eIf (tOf (eBin (dEq false) (eVar 9) (eC (.str "turn")))) (eBin dIx (eVar 2) (eVar 10)) (eC (.int 0))))
    (sAsg (eBin dMod (eBin dAdd (eVar 12) (eVar 11)) (eBin dIx (eUn (dFld "Book" "wheels") (eVar 0)) (eVar 10))) (gSet (eVar 2) (eVar 10)))))
    (sSeq (sFor (iSeq (eVar 7)) (gT 2 (gsCons (gN 4) (gsCons (gN 13) gsNil))) (sAsg (eFn (fI2 iMax) (aCons (eBin dIx (eVar 3) (eVar 4)) (aCons (eVar 13) aNil))) (gSet (eVar 3) (eVar 4))))
    (sFor (iSeq (eVar 8)) (gN 4) (sAsg (eC (.int 0)) (gSet (eVar 3) (eVar 4)))))))
def m_carry_out : Fm := mkFn 4 14 b_carry_out
theorem carry_run {st : Sto} {bk : D} {ws rs vs ls vs1 ls1 : List D} {o : Ob} {r : Int} (hb : bookD st bk = some (ws, rs)) (h : doO ws rs r vs ls = some (vs1, ls1)) :
    m_carry_out [bk, .int r, .ref st.length, .ref (st.length + 1)] (st ++ [.lst vs, .lst ls, o]) = .ok .non (st ++ [.lst vs1, .lst ls1, o]) := by
  unfold doO at h
  split at h
  · rename_i tt cs hs wk hr
    split at h
    · rename_i vs2 hv
      split at h
      · rename_i ls2 hh
        split at h
        · rename_i ls3 hw
          cases h
          simp only [m_carry_out, b_carry_out, ev_var, ev_c, ev_un, ev_bin, ev_anil, ev_acons, ev_fn, ev_tof, ev_tob, ev_tand, ev_tor, ev_tnot, ev_and, ev_or, ev_not, ev_if, ev_chain, ev_true, ev_slice, ev_onone, ev_osome, ev_iseq, ev_irng, ev_ienum, ev_ibin, ev_lc, ev_skip, ev_never, ev_seq, ev_ret, ev_sif, ev_set, ev_expr, ev_asg, ev_par, ev_for, ev_fld, ev_gn, ev_gsnil, ev_gscons, ev_gt, ev_mkfn, ev_bok, ev_berr, ev_bfail, ev_tok, ev_hok, ev_ert, ev_enx, ev_wn, ev_wc, ev_e0, ev_sseq, ev_senum, ev_szip, ev_sltup, ev_ltI, ev_leI, ev_gtI, ev_geI, ev_subI, ev_addI, ev_lenT, List.map_cons, List.map_nil, List.length_cons, List.length_nil, List.cons_append, List.nil_append, List.append_nil, List.getElem?_cons_zero, List.getElem?_cons_succ, List.set_cons_zero, List.set_cons_succ, List.replicate_succ, List.replicate_zero, Nat.reduceAdd, Nat.reduceSub, Nat.reduceEqDiff, reduceIte, Bool.true_eq_false, Bool.false_eq_true, if_true, if_false, book_rules (bookD_app hb), ixS (st := st ++ [.lst vs, .lst ls, o]) (v := .tup rs) rfl hr]
          obtain ⟨env1, e1, x1, x2, x3, x4, x5, hx1⟩ := for_foldO (F := chgO ws) (fun vs => st ++ [.lst vs, .lst ls, o]) (g := gT 3 (gsCons (gN 9) (gsCons (gN 10) (gsCons (gN 11) gsNil))))
            (body := sSeq (sSet 12 (eIf (tOf (eBin (dEq false) (eVar 9) (eC (.str "turn")))) (eBin dIx (eVar 2) (eVar 10)) (eC (.int 0)))) (sAsg (eBin dMod (eBin dAdd (eVar 12) (eVar 11)) (eBin dIx (eUn (dFld "Book" "wheels") (eVar 0)) (eVar 10))) (gSet (eVar 2) (eVar 10))))
            (fun env => ∃ x1 x2 x3 x4 x5, env = [some bk, some (.int r), some (.ref st.length), some (.ref (st.length + 1)), x5, some tt, some (.tup cs), some (.tup hs), some (.tup wk), x1, x2, x3, x4, none])
            (env := [some bk, some (.int r), some (.ref st.length), some (.ref (st.length + 1)), none, some tt, some (.tup cs), some (.tup hs), some (.tup wk), none, none, none, none, none]) hv ⟨none, none, none, none, none, rfl⟩ fun a x b env hx hF ⟨x1, x2, x3, x4, x5, he⟩ => by
              subst he
              unfold chgO at hF
              split at hF
              · rename_i w xx p
                split at hF
                · rename_i j v n h1 h2 h3
                  split at hF
                  · rename_i h0
                    have hwh : dFld "Book" "wheels" bk (st ++ [.lst a, .lst ls, o]) = .ok (.tup ws) (st ++ [.lst a, .lst ls, o]) := book_wheels (bookD_app hb)
                    have hix : dIx (.tup ws) (.int xx) (st ++ [.lst a, .lst ls, o]) = .ok (.int n) (st ++ [.lst a, .lst ls, o]) := ixS rfl h3
                    have hvx : dIx (.ref st.length) (.int xx) (st ++ [.lst a, .lst ls, o]) = .ok (.int v) (st ++ [.lst a, .lst ls, o]) := ixS seq0 h2
                    by_cases ht : w = "turn"
                    · subst ht
                      rw [if_pos rfl] at hF
                      cases hF
                      refine ⟨_, _, rfl, .inl ?_, some (.str "turn"), some (.int xx), some (.int p), some (.int v), x5, rfl⟩
                      simp only [ev_var, ev_c, ev_un, ev_bin, ev_anil, ev_acons, ev_fn, ev_tof, ev_tob, ev_tand, ev_tor, ev_tnot, ev_and, ev_or, ev_not, ev_if, ev_chain, ev_true, ev_slice, ev_onone, ev_osome, ev_iseq, ev_irng, ev_ienum, ev_ibin, ev_lc, ev_skip, ev_never, ev_seq, ev_ret, ev_sif, ev_set, ev_expr, ev_asg, ev_par, ev_for, ev_fld, ev_gn, ev_gsnil, ev_gscons, ev_gt, ev_mkfn, ev_bok, ev_berr, ev_bfail, ev_tok, ev_hok, ev_ert, ev_enx, ev_wn, ev_wc, ev_e0, ev_sseq, ev_senum, ev_szip, ev_sltup, ev_ltI, ev_leI, ev_gtI, ev_geI, ev_subI, ev_addI, ev_lenT, List.map_cons, List.map_nil, List.length_cons, List.length_nil, List.cons_append, List.nil_append, List.append_nil, List.getElem?_cons_zero, List.getElem?_cons_succ, List.set_cons_zero, List.set_cons_succ, List.replicate_succ, List.replicate_zero, Nat.reduceAdd, Nat.reduceSub, Nat.reduceEqDiff, reduceIte, Bool.true_eq_false, Bool.false_eq_true, if_true, if_false, strEq "turn" "turn" (by decide +kernel) (by decide +kernel), beq_self_eq_true, hvx, hwh, hix, modI h0]
                      rw [gset_at (n := st.length) (i := xx) rfl rfl at_end0 h1, set_end0]
                    · rw [if_neg ht] at hF
                      by_cases hp : w = "put"
                      · subst hp
                        rw [if_pos rfl] at hF
                        cases hF
                        refine ⟨_, _, rfl, .inl ?_, some (.str "put"), some (.int xx), some (.int p), some (.int 0), x5, rfl⟩
                        simp only [ev_var, ev_c, ev_un, ev_bin, ev_anil, ev_acons, ev_fn, ev_tof, ev_tob, ev_tand, ev_tor, ev_tnot, ev_and, ev_or, ev_not, ev_if, ev_chain, ev_true, ev_slice, ev_onone, ev_osome, ev_iseq, ev_irng, ev_ienum, ev_ibin, ev_lc, ev_skip, ev_never, ev_seq, ev_ret, ev_sif, ev_set, ev_expr, ev_asg, ev_par, ev_for, ev_fld, ev_gn, ev_gsnil, ev_gscons, ev_gt, ev_mkfn, ev_bok, ev_berr, ev_bfail, ev_tok, ev_hok, ev_ert, ev_enx, ev_wn, ev_wc, ev_e0, ev_sseq, ev_senum, ev_szip, ev_sltup, ev_ltI, ev_leI, ev_gtI, ev_geI, ev_subI, ev_addI, ev_lenT, List.map_cons, List.map_nil, List.length_cons, List.length_nil, List.cons_append, List.nil_append, List.append_nil, List.getElem?_cons_zero, List.getElem?_cons_succ, List.set_cons_zero, List.set_cons_succ, List.replicate_succ, List.replicate_zero, Nat.reduceAdd, Nat.reduceSub, Nat.reduceEqDiff, reduceIte, Bool.true_eq_false, Bool.false_eq_true, if_true, if_false, strEq "put" "turn" (by decide +kernel) (by decide +kernel), show (("put" : Str) == "turn") = false by decide +kernel, hwh, hix, modI h0]
                        rw [gset_at (n := st.length) (i := xx) rfl rfl at_end0 h1, set_end0]
                      · rw [if_neg hp] at hF; cases hF
                  · cases hF
                · cases hF
              · cases hF
          rw [e1]
          subst hx1
          simp only [ev_var, ev_c, ev_un, ev_bin, ev_anil, ev_acons, ev_fn, ev_tof, ev_tob, ev_tand, ev_tor, ev_tnot, ev_and, ev_or, ev_not, ev_if, ev_chain, ev_true, ev_slice, ev_onone, ev_osome, ev_iseq, ev_irng, ev_ienum, ev_ibin, ev_lc, ev_skip, ev_never, ev_seq, ev_ret, ev_sif, ev_set, ev_expr, ev_asg, ev_par, ev_for, ev_fld, ev_gn, ev_gsnil, ev_gscons, ev_gt, ev_mkfn, ev_bok, ev_berr, ev_bfail, ev_tok, ev_hok, ev_ert, ev_enx, ev_wn, ev_wc, ev_e0, ev_sseq, ev_senum, ev_szip, ev_sltup, ev_ltI, ev_leI, ev_gtI, ev_geI, ev_subI, ev_addI, ev_lenT, List.map_cons, List.map_nil, List.length_cons, List.length_nil, List.cons_append, List.nil_append, List.append_nil, List.getElem?_cons_zero, List.getElem?_cons_succ, List.set_cons_zero, List.set_cons_succ, List.replicate_succ, List.replicate_zero, Nat.reduceAdd, Nat.reduceSub, Nat.reduceEqDiff, reduceIte, Bool.true_eq_false, Bool.false_eq_true, if_true, if_false]
          obtain ⟨env2, e2, y1, y2, hy⟩ := for_foldO (F := hshO) (fun ls => st ++ [.lst vs1, .lst ls, o]) (g := gT 2 (gsCons (gN 4) (gsCons (gN 13) gsNil))) (body := sAsg (eFn (fI2 iMax) (aCons (eBin dIx (eVar 3) (eVar 4)) (aCons (eVar 13) aNil))) (gSet (eVar 3) (eVar 4)))
            (fun env => ∃ y1 y2, env = [some bk, some (.int r), some (.ref st.length), some (.ref (st.length + 1)), y1, some tt, some (.tup cs), some (.tup hs), some (.tup wk), x1, x2, x3, x4, y2])
            (env := [some bk, some (.int r), some (.ref st.length), some (.ref (st.length + 1)), x5, some tt, some (.tup cs), some (.tup hs), some (.tup wk), x1, x2, x3, x4, none]) hh ⟨x5, none, rfl⟩ fun a x b env hx hF ⟨y1, y2, he⟩ => by
              subst he
              unfold hshO at hF
              split at hF
              · rename_i q bb
                split at hF
                · rename_i j l h1 h2
                  cases hF
                  have hlx : dIx (.ref (st.length + 1)) (.int q) (st ++ [.lst vs1, .lst a, o]) = .ok (.int l) (st ++ [.lst vs1, .lst a, o]) := ixS seq1 h2
                  refine ⟨_, _, rfl, .inl ?_, some (.int q), some (.int bb), rfl⟩
                  simp only [ev_var, ev_c, ev_un, ev_bin, ev_anil, ev_acons, ev_fn, ev_tof, ev_tob, ev_tand, ev_tor, ev_tnot, ev_and, ev_or, ev_not, ev_if, ev_chain, ev_true, ev_slice, ev_onone, ev_osome, ev_iseq, ev_irng, ev_ienum, ev_ibin, ev_lc, ev_skip, ev_never, ev_seq, ev_ret, ev_sif, ev_set, ev_expr, ev_asg, ev_par, ev_for, ev_fld, ev_gn, ev_gsnil, ev_gscons, ev_gt, ev_mkfn, ev_bok, ev_berr, ev_bfail, ev_tok, ev_hok, ev_ert, ev_enx, ev_wn, ev_wc, ev_e0, ev_sseq, ev_senum, ev_szip, ev_sltup, ev_ltI, ev_leI, ev_gtI, ev_geI, ev_subI, ev_addI, ev_lenT, List.map_cons, List.map_nil, List.length_cons, List.length_nil, List.cons_append, List.nil_append, List.append_nil, List.getElem?_cons_zero, List.getElem?_cons_succ, List.set_cons_zero, List.set_cons_succ, List.replicate_succ, List.replicate_zero, Nat.reduceAdd, Nat.reduceSub, Nat.reduceEqDiff, reduceIte, Bool.true_eq_false, Bool.false_eq_true, if_true, if_false, hlx, maxI]
                  rw [gset_at (n := st.length + 1) (i := q) rfl rfl at_end1 h1, set_end1]
                · cases hF
              · cases hF
          rw [e2]
          subst hy
          simp only [ev_var, ev_c, ev_un, ev_bin, ev_anil, ev_acons, ev_fn, ev_tof, ev_tob, ev_tand, ev_tor, ev_tnot, ev_and, ev_or, ev_not, ev_if, ev_chain, ev_true, ev_slice, ev_onone, ev_osome, ev_iseq, ev_irng, ev_ienum, ev_ibin, ev_lc, ev_skip, ev_never, ev_seq, ev_ret, ev_sif, ev_set, ev_expr, ev_asg, ev_par, ev_for, ev_fld, ev_gn, ev_gsnil, ev_gscons, ev_gt, ev_mkfn, ev_bok, ev_berr, ev_bfail, ev_tok, ev_hok, ev_ert, ev_enx, ev_wn, ev_wc, ev_e0, ev_sseq, ev_senum, ev_szip, ev_sltup, ev_ltI, ev_leI, ev_gtI, ev_geI, ev_subI, ev_addI, ev_lenT, List.map_cons, List.map_nil, List.length_cons, List.length_nil, List.cons_append, List.nil_append, List.append_nil, List.getElem?_cons_zero, List.getElem?_cons_succ, List.set_cons_zero, List.set_cons_succ, List.replicate_succ, List.replicate_zero, Nat.reduceAdd, Nat.reduceSub, Nat.reduceEqDiff, reduceIte, Bool.true_eq_false, Bool.false_eq_true, if_true, if_false]
          obtain ⟨env3, e3, z1, hz⟩ := for_foldO (F := wakO) (fun ls => st ++ [.lst vs1, .lst ls, o]) (g := gN 4) (body := sAsg (eC (.int 0)) (gSet (eVar 3) (eVar 4)))
            (fun env => ∃ z1, env = [some bk, some (.int r), some (.ref st.length), some (.ref (st.length + 1)), z1, some tt, some (.tup cs), some (.tup hs), some (.tup wk), x1, x2, x3, x4, y2])
            (env := [some bk, some (.int r), some (.ref st.length), some (.ref (st.length + 1)), y1, some tt, some (.tup cs), some (.tup hs), some (.tup wk), x1, x2, x3, x4, y2]) hw ⟨y1, rfl⟩ fun a x b env hx hF ⟨z1, he⟩ => by
              subst he
              unfold wakO at hF
              split at hF
              · rename_i q
                split at hF
                · rename_i j h1
                  cases hF
                  refine ⟨_, _, rfl, .inl ?_, some (.int q), rfl⟩
                  simp only [ev_var, ev_c, ev_un, ev_bin, ev_anil, ev_acons, ev_fn, ev_tof, ev_tob, ev_tand, ev_tor, ev_tnot, ev_and, ev_or, ev_not, ev_if, ev_chain, ev_true, ev_slice, ev_onone, ev_osome, ev_iseq, ev_irng, ev_ienum, ev_ibin, ev_lc, ev_skip, ev_never, ev_seq, ev_ret, ev_sif, ev_set, ev_expr, ev_asg, ev_par, ev_for, ev_fld, ev_gn, ev_gsnil, ev_gscons, ev_gt, ev_mkfn, ev_bok, ev_berr, ev_bfail, ev_tok, ev_hok, ev_ert, ev_enx, ev_wn, ev_wc, ev_e0, ev_sseq, ev_senum, ev_szip, ev_sltup, ev_ltI, ev_leI, ev_gtI, ev_geI, ev_subI, ev_addI, ev_lenT, List.map_cons, List.map_nil, List.length_cons, List.length_nil, List.cons_append, List.nil_append, List.append_nil, List.getElem?_cons_zero, List.getElem?_cons_succ, List.set_cons_zero, List.set_cons_succ, List.replicate_succ, List.replicate_zero, Nat.reduceAdd, Nat.reduceSub, Nat.reduceEqDiff, reduceIte, Bool.true_eq_false, Bool.false_eq_true, if_true, if_false]
                  rw [gset_at (n := st.length + 1) (i := q) rfl rfl at_end1 h1, set_end1]
                · cases hF
              · cases hF
          rw [e3]
          rfl
        · cases h
      · cases h
    · cases h
  · cases h

def b_step : SM := (sSeq (sSet 4 (eFn fList (aCons (eBin dIx (eVar 1) (eC (.int 0))) aNil)))
    (sSeq (sSet 5 (eFn fList (aCons (eBin dIx (eVar 1) (eC (.int 1))) aNil)))
    (sSeq (sSet 6 (eFn mkLst aNil))
    (sSeq (sFor (iSeq (eVar 2)) (gN 7) (sIf (tAnd (tOf (eBin (dIn true) (eVar 7) (eVar 3))) (tOf (eFn s_is_ready (aCons (eVar 0) (aCons (eVar 7) (aCons (eVar 4) (aCons (eVar 5) aNil))))))) (sSeq (sExpr (eFn m_carry_out (aCons (eVar 0) (aCons (eVar 7) (aCons (eVar 4) (aCons (eVar 5) aNil))))))
    (sExpr (eMtL mAppend (eVar 6) (aCons (eVar 7) aNil)))) sSkip))
    (sRet (eFn mkTup (aCons (eFn fTup (aCons (eVar 6) aNil)) (aCons (eFn m_ended (aCons (eVar 4) (aCons (eVar 5) aNil))) aNil))))))))
def m_step : Fm := mkFn 4 8 b_step
def s_step : Fm := obs 4 fun ds st => match ds with
  | [bk, .tup [.tup vs, .tup ls], .tup order, .tup off] => match bookD st bk with
    | some (ws, rs) => stepO ws rs vs ls order off
    | none => none
  | _ => none
theorem a_step : Arity 4 s_step := obs_ar
theorem step_of {st : Sto} {bk d : D} {ws rs vs ls order off : List D} (hb : bookD st bk = some (ws, rs)) (h : stepO ws rs vs ls order off = some d) : s_step [bk, .tup [.tup vs, .tup ls], .tup order, .tup off] st = .ok d st := by
  refine obs_ok rfl ?_
  show (match bookD st bk with | some (ws, rs) => stepO ws rs vs ls order off | none => none) = _
  rw [hb]
  exact h
theorem t_step : Tells m_step s_step := .obs fun ds st d g b hl h => by
  match ds, hl, h with
  | [bk, .tup [.tup vs, .tup ls], .tup order, .tup off], _, h =>
    have h' : (match bookD st bk with | some (ws, rs) => stepO ws rs vs ls order off | none => none) = some d := h
    split at h'
    · rename_i ws rs hb
      unfold stepO at h'
      split at h'
      · rename_i ho
        split at h'
        · rename_i q hq
          split at h'
          · rename_i hk
            cases h'
            refine ⟨by simp only [Bnd, Bnds, and_true]; exact ⟨bnds_ints hk.2.2.1, bnds_ints hk.2.1, bnds_map (fun _ => rfl) _⟩, [.lst q.vs, .lst q.ls, .lst q.dn, .lst (q.ls.map lessD)], ?_⟩
            simp only [m_step, b_step, ev_var, ev_c, ev_un, ev_bin, ev_anil, ev_acons, ev_fn, ev_tof, ev_tob, ev_tand, ev_tor, ev_tnot, ev_and, ev_or, ev_not, ev_if, ev_chain, ev_true, ev_slice, ev_onone, ev_osome, ev_iseq, ev_irng, ev_ienum, ev_ibin, ev_lc, ev_skip, ev_never, ev_seq, ev_ret, ev_sif, ev_set, ev_expr, ev_asg, ev_par, ev_for, ev_fld, ev_gn, ev_gsnil, ev_gscons, ev_gt, ev_mkfn, ev_bok, ev_berr, ev_bfail, ev_tok, ev_hok, ev_ert, ev_enx, ev_wn, ev_wc, ev_e0, ev_sseq, ev_senum, ev_szip, ev_sltup, ev_ltI, ev_leI, ev_gtI, ev_geI, ev_subI, ev_addI, ev_lenT, List.map_cons, List.map_nil, List.length_cons, List.length_nil, List.cons_append, List.nil_append, List.append_nil, List.getElem?_cons_zero, List.getElem?_cons_succ, List.set_cons_zero, List.set_cons_succ, List.replicate_succ, List.replicate_zero, Nat.reduceAdd, Nat.reduceSub, Nat.reduceEqDiff, reduceIte, Bool.true_eq_false, Bool.false_eq_true, if_true, if_false, ixS (st := st) (v := .tup [.tup vs, .tup ls]) (i := 0) rfl rfl, fList_tup]
            simp only [ev_var, ev_c, ev_un, ev_bin, ev_anil, ev_acons, ev_fn, ev_tof, ev_tob, ev_tand, ev_tor, ev_tnot, ev_and, ev_or, ev_not, ev_if, ev_chain, ev_true, ev_slice, ev_onone, ev_osome, ev_iseq, ev_irng, ev_ienum, ev_ibin, ev_lc, ev_skip, ev_never, ev_seq, ev_ret, ev_sif, ev_set, ev_expr, ev_asg, ev_par, ev_for, ev_fld, ev_gn, ev_gsnil, ev_gscons, ev_gt, ev_mkfn, ev_bok, ev_berr, ev_bfail, ev_tok, ev_hok, ev_ert, ev_enx, ev_wn, ev_wc, ev_e0, ev_sseq, ev_senum, ev_szip, ev_sltup, ev_ltI, ev_leI, ev_gtI, ev_geI, ev_subI, ev_addI, ev_lenT, List.map_cons, List.map_nil, List.length_cons, List.length_nil, List.cons_append, List.nil_append, List.append_nil, List.getElem?_cons_zero, List.getElem?_cons_succ, List.set_cons_zero, List.set_cons_succ, List.replicate_succ, List.replicate_zero, Nat.reduceAdd, Nat.reduceSub, Nat.reduceEqDiff, reduceIte, Bool.true_eq_false, Bool.false_eq_true, if_true, if_false, ixS (st := st ++ [.lst vs]) (v := .tup [.tup vs, .tup ls]) (i := 1) rfl rfl, fList_tup, mkLst_nil]
            simp only [List.length_append, List.append_assoc, List.length_cons, List.length_nil, List.cons_append, List.nil_append, Nat.zero_add, Nat.add_assoc, Nat.reduceAdd]
            obtain ⟨env1, e1, x, hx⟩ := for_foldO (F := askO ws rs off) (fun (q : Mid) => st ++ [.lst q.vs, .lst q.ls, .lst q.dn]) (g := gN 7)
              (body := sIf (tAnd (tOf (eBin (dIn true) (eVar 7) (eVar 3))) (tOf (eFn s_is_ready (aCons (eVar 0) (aCons (eVar 7) (aCons (eVar 4) (aCons (eVar 5) aNil))))))) (sSeq (sExpr (eFn m_carry_out (aCons (eVar 0) (aCons (eVar 7) (aCons (eVar 4) (aCons (eVar 5) aNil)))))) (sExpr (eMtL mAppend (eVar 6) (aCons (eVar 7) aNil)))) sSkip)
              (fun env => ∃ x, env = [some bk, some (.tup [.tup vs, .tup ls]), some (.tup order), some (.tup off), some (.ref st.length), some (.ref (st.length + 1)), some (.ref (st.length + 2)), x])
              (env := [some bk, some (.tup [.tup vs, .tup ls]), some (.tup order), some (.tup off), some (.ref st.length), some (.ref (st.length + 1)), some (.ref (st.length + 2)), none]) hq ⟨none, rfl⟩ fun a x b env hx hF ⟨y, he⟩ => by
                subst he
                unfold askO at hF
                split at hF
                · rename_i r
                  split at hF
                  · rename_i rb hr
                    have hrd : s_is_ready [bk, .int r, .ref st.length, .ref (st.length + 1)] (st ++ [.lst a.vs, .lst a.ls, .lst a.dn]) = .ok (.bl rb) (st ++ [.lst a.vs, .lst a.ls, .lst a.dn]) := ready_of (bookD_app hb) seq0 seq1 hr
                    refine ⟨_, _, rfl, .inl ?_, some (.int r), rfl⟩
                    simp only [ev_var, ev_c, ev_un, ev_bin, ev_anil, ev_acons, ev_fn, ev_tof, ev_tob, ev_tand, ev_tor, ev_tnot, ev_and, ev_or, ev_not, ev_if, ev_chain, ev_true, ev_slice, ev_onone, ev_osome, ev_iseq, ev_irng, ev_ienum, ev_ibin, ev_lc, ev_skip, ev_never, ev_seq, ev_ret, ev_sif, ev_set, ev_expr, ev_asg, ev_par, ev_for, ev_fld, ev_gn, ev_gsnil, ev_gscons, ev_gt, ev_mkfn, ev_bok, ev_berr, ev_bfail, ev_tok, ev_hok, ev_ert, ev_enx, ev_wn, ev_wc, ev_e0, ev_sseq, ev_senum, ev_szip, ev_sltup, ev_ltI, ev_leI, ev_gtI, ev_geI, ev_subI, ev_addI, ev_lenT, List.map_cons, List.map_nil, List.length_cons, List.length_nil, List.cons_append, List.nil_append, List.append_nil, List.getElem?_cons_zero, List.getElem?_cons_succ, List.set_cons_zero, List.set_cons_succ, List.replicate_succ, List.replicate_zero, Nat.reduceAdd, Nat.reduceSub, Nat.reduceEqDiff, reduceIte, Bool.true_eq_false, Bool.false_eq_true, if_true, if_false, notin_ints ho.1]
                    by_cases hm : memI (.int r) off = false
                    · rw [hm]
                      simp only [ev_var, ev_c, ev_un, ev_bin, ev_anil, ev_acons, ev_fn, ev_tof, ev_tob, ev_tand, ev_tor, ev_tnot, ev_and, ev_or, ev_not, ev_if, ev_chain, ev_true, ev_slice, ev_onone, ev_osome, ev_iseq, ev_irng, ev_ienum, ev_ibin, ev_lc, ev_skip, ev_never, ev_seq, ev_ret, ev_sif, ev_set, ev_expr, ev_asg, ev_par, ev_for, ev_fld, ev_gn, ev_gsnil, ev_gscons, ev_gt, ev_mkfn, ev_bok, ev_berr, ev_bfail, ev_tok, ev_hok, ev_ert, ev_enx, ev_wn, ev_wc, ev_e0, ev_sseq, ev_senum, ev_szip, ev_sltup, ev_ltI, ev_leI, ev_gtI, ev_geI, ev_subI, ev_addI, ev_lenT, List.map_cons, List.map_nil, List.length_cons, List.length_nil, List.cons_append, List.nil_append, List.append_nil, List.getElem?_cons_zero, List.getElem?_cons_succ, List.set_cons_zero, List.set_cons_succ, List.replicate_succ, List.replicate_zero, Nat.reduceAdd, Nat.reduceSub, Nat.reduceEqDiff, reduceIte, Bool.true_eq_false, Bool.false_eq_true, if_true, if_false, Bool.not_false, hrd]
                      cases rb with
                      | false =>
                        rw [if_neg (by simp)] at hF
                        cases hF
                        simp only [ev_var, ev_c, ev_un, ev_bin, ev_anil, ev_acons, ev_fn, ev_tof, ev_tob, ev_tand, ev_tor, ev_tnot, ev_and, ev_or, ev_not, ev_if, ev_chain, ev_true, ev_slice, ev_onone, ev_osome, ev_iseq, ev_irng, ev_ienum, ev_ibin, ev_lc, ev_skip, ev_never, ev_seq, ev_ret, ev_sif, ev_set, ev_expr, ev_asg, ev_par, ev_for, ev_fld, ev_gn, ev_gsnil, ev_gscons, ev_gt, ev_mkfn, ev_bok, ev_berr, ev_bfail, ev_tok, ev_hok, ev_ert, ev_enx, ev_wn, ev_wc, ev_e0, ev_sseq, ev_senum, ev_szip, ev_sltup, ev_ltI, ev_leI, ev_gtI, ev_geI, ev_subI, ev_addI, ev_lenT, List.map_cons, List.map_nil, List.length_cons, List.length_nil, List.cons_append, List.nil_append, List.append_nil, List.getElem?_cons_zero, List.getElem?_cons_succ, List.set_cons_zero, List.set_cons_succ, List.replicate_succ, List.replicate_zero, Nat.reduceAdd, Nat.reduceSub, Nat.reduceEqDiff, reduceIte, Bool.true_eq_false, Bool.false_eq_true, if_true, if_false]
                      | true =>
                        rw [if_pos ⟨hm, rfl⟩] at hF
                        split at hF
                        · rename_i vs1 ls1 hd
                          split at hF
                          · rename_i hn
                            cases hF
                            simp only [ev_var, ev_c, ev_un, ev_bin, ev_anil, ev_acons, ev_fn, ev_tof, ev_tob, ev_tand, ev_tor, ev_tnot, ev_and, ev_or, ev_not, ev_if, ev_chain, ev_true, ev_slice, ev_onone, ev_osome, ev_iseq, ev_irng, ev_ienum, ev_ibin, ev_lc, ev_skip, ev_never, ev_seq, ev_ret, ev_sif, ev_set, ev_expr, ev_asg, ev_par, ev_for, ev_fld, ev_gn, ev_gsnil, ev_gscons, ev_gt, ev_mkfn, ev_bok, ev_berr, ev_bfail, ev_tok, ev_hok, ev_ert, ev_enx, ev_wn, ev_wc, ev_e0, ev_sseq, ev_senum, ev_szip, ev_sltup, ev_ltI, ev_leI, ev_gtI, ev_geI, ev_subI, ev_addI, ev_lenT, List.map_cons, List.map_nil, List.length_cons, List.length_nil, List.cons_append, List.nil_append, List.append_nil, List.getElem?_cons_zero, List.getElem?_cons_succ, List.set_cons_zero, List.set_cons_succ, List.replicate_succ, List.replicate_zero, Nat.reduceAdd, Nat.reduceSub, Nat.reduceEqDiff, reduceIte, Bool.true_eq_false, Bool.false_eq_true, if_true, if_false, carry_run hb hd, eMtL, isLst, lstOf, at_end2, Option.isSome_some, mAppend]
                            rw [if_pos (Nat.lt_of_lt_of_le hn (by decide)), set_end2]
                            rfl
                          · cases hF
                        · cases hF
                    · rw [if_neg (fun z => hm z.1)] at hF
                      cases hF
                      rw [Bool.not_eq_false] at hm
                      rw [hm]
                      simp only [ev_var, ev_c, ev_un, ev_bin, ev_anil, ev_acons, ev_fn, ev_tof, ev_tob, ev_tand, ev_tor, ev_tnot, ev_and, ev_or, ev_not, ev_if, ev_chain, ev_true, ev_slice, ev_onone, ev_osome, ev_iseq, ev_irng, ev_ienum, ev_ibin, ev_lc, ev_skip, ev_never, ev_seq, ev_ret, ev_sif, ev_set, ev_expr, ev_asg, ev_par, ev_for, ev_fld, ev_gn, ev_gsnil, ev_gscons, ev_gt, ev_mkfn, ev_bok, ev_berr, ev_bfail, ev_tok, ev_hok, ev_ert, ev_enx, ev_wn, ev_wc, ev_e0, ev_sseq, ev_senum, ev_szip, ev_sltup, ev_ltI, ev_leI, ev_gtI, ev_geI, ev_subI, ev_addI, ev_lenT, List.map_cons, List.map_nil, List.length_cons, List.length_nil, List.cons_append, List.nil_append, List.append_nil, List.getElem?_cons_zero, List.getElem?_cons_succ, List.set_cons_zero, List.set_cons_succ, List.replicate_succ, List.replicate_zero, Nat.reduceAdd, Nat.reduceSub, Nat.reduceEqDiff, reduceIte, Bool.true_eq_false, Bool.false_eq_true, if_true, if_false, Bool.not_true]
                  · cases hF
                · cases hF
            rw [e1]
            subst hx
            simp only [ev_var, ev_c, ev_un, ev_bin, ev_anil, ev_acons, ev_fn, ev_tof, ev_tob, ev_tand, ev_tor, ev_tnot, ev_and, ev_or, ev_not, ev_if, ev_chain, ev_true, ev_slice, ev_onone, ev_osome, ev_iseq, ev_irng, ev_ienum, ev_ibin, ev_lc, ev_skip, ev_never, ev_seq, ev_ret, ev_sif, ev_set, ev_expr, ev_asg, ev_par, ev_for, ev_fld, ev_gn, ev_gsnil, ev_gscons, ev_gt, ev_mkfn, ev_bok, ev_berr, ev_bfail, ev_tok, ev_hok, ev_ert, ev_enx, ev_wn, ev_wc, ev_e0, ev_sseq, ev_senum, ev_szip, ev_sltup, ev_ltI, ev_leI, ev_gtI, ev_geI, ev_subI, ev_addI, ev_lenT, List.map_cons, List.map_nil, List.length_cons, List.length_nil, List.cons_append, List.nil_append, List.append_nil, List.getElem?_cons_zero, List.getElem?_cons_succ, List.set_cons_zero, List.set_cons_succ, List.replicate_succ, List.replicate_zero, Nat.reduceAdd, Nat.reduceSub, Nat.reduceEqDiff, reduceIte, Bool.true_eq_false, Bool.false_eq_true, if_true, if_false, m_ended, b_ended, fTup, seq2, seq0]
            rw [show seqSrc (.ref (st.length + 1)) (st ++ [.lst q.vs, .lst q.ls, .lst q.dn]) = .ok (.dyn (st.length + 1)) (st ++ [.lst q.vs, .lst q.ls, .lst q.dn]) by unfold seqSrc lstOf; simp only [at_end1]]
            simp only [ev_var, ev_c, ev_un, ev_bin, ev_anil, ev_acons, ev_fn, ev_tof, ev_tob, ev_tand, ev_tor, ev_tnot, ev_and, ev_or, ev_not, ev_if, ev_chain, ev_true, ev_slice, ev_onone, ev_osome, ev_iseq, ev_irng, ev_ienum, ev_ibin, ev_lc, ev_skip, ev_never, ev_seq, ev_ret, ev_sif, ev_set, ev_expr, ev_asg, ev_par, ev_for, ev_fld, ev_gn, ev_gsnil, ev_gscons, ev_gt, ev_mkfn, ev_bok, ev_berr, ev_bfail, ev_tok, ev_hok, ev_ert, ev_enx, ev_wn, ev_wc, ev_e0, ev_sseq, ev_senum, ev_szip, ev_sltup, ev_ltI, ev_leI, ev_gtI, ev_geI, ev_subI, ev_addI, ev_lenT, List.map_cons, List.map_nil, List.length_cons, List.length_nil, List.cons_append, List.nil_append, List.append_nil, List.getElem?_cons_zero, List.getElem?_cons_succ, List.set_cons_zero, List.set_cons_succ, List.replicate_succ, List.replicate_zero, Nat.reduceAdd, Nat.reduceSub, Nat.reduceEqDiff, reduceIte, Bool.true_eq_false, Bool.false_eq_true, if_true, if_false]
            rw [startLc_map (xs := q.ls) (f := lessD) (by unfold Src.at lstOf; simp only [at_end1]) hk.2.2.2 fun x hx acc => ?_]
            · simp only [ev_var, ev_c, ev_un, ev_bin, ev_anil, ev_acons, ev_fn, ev_tof, ev_tob, ev_tand, ev_tor, ev_tnot, ev_and, ev_or, ev_not, ev_if, ev_chain, ev_true, ev_slice, ev_onone, ev_osome, ev_iseq, ev_irng, ev_ienum, ev_ibin, ev_lc, ev_skip, ev_never, ev_seq, ev_ret, ev_sif, ev_set, ev_expr, ev_asg, ev_par, ev_for, ev_fld, ev_gn, ev_gsnil, ev_gscons, ev_gt, ev_mkfn, ev_bok, ev_berr, ev_bfail, ev_tok, ev_hok, ev_ert, ev_enx, ev_wn, ev_wc, ev_e0, ev_sseq, ev_senum, ev_szip, ev_sltup, ev_ltI, ev_leI, ev_gtI, ev_geI, ev_subI, ev_addI, ev_lenT, List.map_cons, List.map_nil, List.length_cons, List.length_nil, List.cons_append, List.nil_append, List.append_nil, List.getElem?_cons_zero, List.getElem?_cons_succ, List.set_cons_zero, List.set_cons_succ, List.replicate_succ, List.replicate_zero, Nat.reduceAdd, Nat.reduceSub, Nat.reduceEqDiff, reduceIte, Bool.true_eq_false, Bool.false_eq_true, if_true, if_false, fTup_end, mkTup2]
              simp only [List.append_assoc, List.cons_append, List.nil_append]
            · have hi := isI_eq (List.all_eq_true.mp hk.1 x hx)
              refine ⟨_, rfl, ?_⟩
              rw [hi]
              simp only [ev_var, ev_c, ev_un, ev_bin, ev_anil, ev_acons, ev_fn, ev_tof, ev_tob, ev_tand, ev_tor, ev_tnot, ev_and, ev_or, ev_not, ev_if, ev_chain, ev_true, ev_slice, ev_onone, ev_osome, ev_iseq, ev_irng, ev_ienum, ev_ibin, ev_lc, ev_skip, ev_never, ev_seq, ev_ret, ev_sif, ev_set, ev_expr, ev_asg, ev_par, ev_for, ev_fld, ev_gn, ev_gsnil, ev_gscons, ev_gt, ev_mkfn, ev_bok, ev_berr, ev_bfail, ev_tok, ev_hok, ev_ert, ev_enx, ev_wn, ev_wc, ev_e0, ev_sseq, ev_senum, ev_szip, ev_sltup, ev_ltI, ev_leI, ev_gtI, ev_geI, ev_subI, ev_addI, ev_lenT, List.map_cons, List.map_nil, List.length_cons, List.length_nil, List.cons_append, List.nil_append, List.append_nil, List.getElem?_cons_zero, List.getElem?_cons_succ, List.set_cons_zero, List.set_cons_succ, List.replicate_succ, List.replicate_zero, Nat.reduceAdd, Nat.reduceSub, Nat.reduceEqDiff, reduceIte, Bool.true_eq_false, Bool.false_eq_true, if_true, if_false, maxI, lessD, wI]
          · cases h'
        · cases h'
      · cases h'
    · cases h'

def b_ways_from : SM := (sSeq (sSet 3 (eFn s_own_order (aCons (eVar 0) aNil)))
    (sSeq (sSet 4 eDnew)
    (sSeq (sFor (iSeq (eVar 1)) (gN 5) (sSeq (sSet 6 (eVar 5))
    (runWhile (tOf (eBin (dInD true) (eVar 6) (eVar 4))) (sSeq (sDPutM (eVar 4) (eVar 6) (eFn s_step (aCons (eVar 0) (aCons (eVar 6) (aCons (eVar 3) (aCons (eVar 2) aNil))))))
    (sSet 6 (eBin dIx (eBin dGetD (eVar 4) (eVar 6)) (eC (.int 1))))) wfuel)))
    (sRet (eVar 4)))))
def m_ways_from : Fm := mkFn 3 7 b_ways_from
theorem ways_while {st : Sto} {bk start : D} {l : Nat} {ws rs off : List D} (hb : bookD st bk = some (ws, rs)) : ∀ (n fuel : Nat) (kvs kvs1 : List (D × D)) (here : D), n ≤ fuel → waysO (nextO ws rs off) n kvs here = some kvs1 →
    ∃ h1, runWhile (tOf (eBin (dInD true) (eVar 6) (eVar 4))) (sSeq (sDPutM (eVar 4) (eVar 6) (eFn s_step (aCons (eVar 0) (aCons (eVar 6) (aCons (eVar 3) (aCons (eVar 2) aNil)))))) (sSet 6 (eBin dIx (eBin dGetD (eVar 4) (eVar 6)) (eC (.int 1))))) fuel
      [some bk, some (.ref l), some (.tup off), some (.tup (ordO rs)), some (.ref st.length), some start, some here] (st ++ [.dct kvs]) = .nx [some bk, some (.ref l), some (.tup off), some (.tup (ordO rs)), some (.ref st.length), some start, some h1] (st ++ [.dct kvs1])
  | 0, _, _, _, _, _, h => by cases h
  | n + 1, fuel, kvs, kvs1, here, hf, h => by
    obtain ⟨f, rfl⟩ : ∃ f, fuel = f + 1 := ⟨fuel - 1, by omega⟩
    rw [ev_while]
    have hd : dctOf (st ++ [.dct kvs]) (.ref st.length) = some kvs := dctOf_at' at_end0
    simp only [waysO] at h
    split at h
    · cases h
    · rename_i k hk
      split at h
      · rename_i hg
        cases h
        exact ⟨here, by simp only [ev_var, ev_c, ev_un, ev_bin, ev_anil, ev_acons, ev_fn, ev_tof, ev_tob, ev_tand, ev_tor, ev_tnot, ev_and, ev_or, ev_not, ev_if, ev_chain, ev_true, ev_slice, ev_onone, ev_osome, ev_iseq, ev_irng, ev_ienum, ev_ibin, ev_lc, ev_skip, ev_never, ev_seq, ev_ret, ev_sif, ev_set, ev_expr, ev_asg, ev_par, ev_for, ev_fld, ev_gn, ev_gsnil, ev_gscons, ev_gt, ev_mkfn, ev_bok, ev_berr, ev_bfail, ev_tok, ev_hok, ev_ert, ev_enx, ev_wn, ev_wc, ev_e0, ev_sseq, ev_senum, ev_szip, ev_sltup, ev_ltI, ev_leI, ev_gtI, ev_geI, ev_subI, ev_addI, ev_lenT, List.map_cons, List.map_nil, List.length_cons, List.length_nil, List.cons_append, List.nil_append, List.append_nil, List.getElem?_cons_zero, List.getElem?_cons_succ, List.set_cons_zero, List.set_cons_succ, List.replicate_succ, List.replicate_zero, Nat.reduceAdd, Nat.reduceSub, Nat.reduceEqDiff, reduceIte, Bool.true_eq_false, Bool.false_eq_true, if_true, if_false, dInD, hd, hk, hg, Bool.not_true]⟩
      · rename_i hg
        split at h
        · rename_i dn th hs
          split at h
          · rename_i hl
            have hin : dInD true here (.ref st.length) (st ++ [.dct kvs]) = .ok (.bl true) (st ++ [.dct kvs]) := by
              simp only [dInD, hd, hk]
              rw [Bool.not_eq_true] at hg
              simp [hg]
            unfold nextO at hs
            split at hs
            · rename_i vs ls
              have hst : s_step [bk, .tup [.tup vs, .tup ls], .tup (ordO rs), .tup off] (st ++ [.dct kvs]) = .ok (.tup [dn, th]) (st ++ [.dct kvs]) := step_of (bookD_app hb) hs
              have hgd : dGetD (.ref st.length) (.tup [.tup vs, .tup ls]) (st ++ [.dct (kvs ++ [(.tup [.tup vs, .tup ls], .tup [dn, th])])]) = .ok (.tup [dn, th]) (st ++ [.dct (kvs ++ [(.tup [.tup vs, .tup ls], .tup [dn, th])])]) := by
                have hd2 : dctOf (st ++ [.dct (kvs ++ [(.tup [.tup vs, .tup ls], .tup [dn, th])])]) (.ref st.length) = some (kvs ++ [(.tup [.tup vs, .tup ls], .tup [dn, th])]) := dctOf_at' at_end0
                obtain ⟨_, _, hk1, _⟩ := askK_ok hk
                simp only [dGetD, hd2, hk, getK_new hg hk1]
              obtain ⟨h1, e1⟩ := ways_while hb n f (kvs ++ [(.tup [.tup vs, .tup ls], .tup [dn, th])]) kvs1 th (by omega) h
              refine ⟨h1, ?_⟩
              simp only [ev_var, ev_c, ev_un, ev_bin, ev_anil, ev_acons, ev_fn, ev_tof, ev_tob, ev_tand, ev_tor, ev_tnot, ev_and, ev_or, ev_not, ev_if, ev_chain, ev_true, ev_slice, ev_onone, ev_osome, ev_iseq, ev_irng, ev_ienum, ev_ibin, ev_lc, ev_skip, ev_never, ev_seq, ev_ret, ev_sif, ev_set, ev_expr, ev_asg, ev_par, ev_for, ev_fld, ev_gn, ev_gsnil, ev_gscons, ev_gt, ev_mkfn, ev_bok, ev_berr, ev_bfail, ev_tok, ev_hok, ev_ert, ev_enx, ev_wn, ev_wc, ev_e0, ev_sseq, ev_senum, ev_szip, ev_sltup, ev_ltI, ev_leI, ev_gtI, ev_geI, ev_subI, ev_addI, ev_lenT, List.map_cons, List.map_nil, List.length_cons, List.length_nil, List.cons_append, List.nil_append, List.append_nil, List.getElem?_cons_zero, List.getElem?_cons_succ, List.set_cons_zero, List.set_cons_succ, List.replicate_succ, List.replicate_zero, Nat.reduceAdd, Nat.reduceSub, Nat.reduceEqDiff, reduceIte, Bool.true_eq_false, Bool.false_eq_true, if_true, if_false, hin, ev_dput, hst, putSt_ok (v := .tup [dn, th]) at_end0 hk (Nat.lt_of_lt_of_le hl (by decide)) hg, set_end0, hgd, ixS (st := st ++ [.dct (kvs ++ [(.tup [.tup vs, .tup ls], .tup [dn, th])])]) (v := .tup [dn, th]) (i := 1) rfl rfl]
              exact e1
            · cases hs
          · cases h
        · cases h
theorem ways_run {st : Sto} {bk : D} {l : Nat} {ws rs off starts : List D} {kvs : List (D × D)} (hb : bookD st bk = some (ws, rs)) (hl : st[l]? = some (.lst starts)) (hn : rs.length ≤ 1000) (h : waysAll (nextO ws rs off) [] starts = some kvs) :
    m_ways_from [bk, .ref l, .tup off] st = .ok (.ref st.length) (st ++ [.dct kvs]) := by
  have hlt : l < st.length := (List.getElem?_eq_some_iff.mp hl).1
  have hseq : ∀ ex : Sto, lstOf (st ++ ex) l = some starts := fun ex => by unfold lstOf; rw [List.getElem?_append_left hlt, hl]
  simp only [m_ways_from, b_ways_from, ev_var, ev_c, ev_un, ev_bin, ev_anil, ev_acons, ev_fn, ev_tof, ev_tob, ev_tand, ev_tor, ev_tnot, ev_and, ev_or, ev_not, ev_if, ev_chain, ev_true, ev_slice, ev_onone, ev_osome, ev_iseq, ev_irng, ev_ienum, ev_ibin, ev_lc, ev_skip, ev_never, ev_seq, ev_ret, ev_sif, ev_set, ev_expr, ev_asg, ev_par, ev_for, ev_fld, ev_gn, ev_gsnil, ev_gscons, ev_gt, ev_mkfn, ev_bok, ev_berr, ev_bfail, ev_tok, ev_hok, ev_ert, ev_enx, ev_wn, ev_wc, ev_e0, ev_sseq, ev_senum, ev_szip, ev_sltup, ev_ltI, ev_leI, ev_gtI, ev_geI, ev_subI, ev_addI, ev_lenT, List.map_cons, List.map_nil, List.length_cons, List.length_nil, List.cons_append, List.nil_append, List.append_nil, List.getElem?_cons_zero, List.getElem?_cons_succ, List.set_cons_zero, List.set_cons_succ, List.replicate_succ, List.replicate_zero, Nat.reduceAdd, Nat.reduceSub, Nat.reduceEqDiff, reduceIte, Bool.true_eq_false, Bool.false_eq_true, if_true, if_false, own_of hb hn, ev_dnew]
  rw [show seqSrc (.ref l) (st ++ [.dct []]) = .ok (.dyn l) (st ++ [.dct []]) by unfold seqSrc; simp only [hseq]]
  simp only [ev_var, ev_c, ev_un, ev_bin, ev_anil, ev_acons, ev_fn, ev_tof, ev_tob, ev_tand, ev_tor, ev_tnot, ev_and, ev_or, ev_not, ev_if, ev_chain, ev_true, ev_slice, ev_onone, ev_osome, ev_iseq, ev_irng, ev_ienum, ev_ibin, ev_lc, ev_skip, ev_never, ev_seq, ev_ret, ev_sif, ev_set, ev_expr, ev_asg, ev_par, ev_for, ev_fld, ev_gn, ev_gsnil, ev_gscons, ev_gt, ev_mkfn, ev_bok, ev_berr, ev_bfail, ev_tok, ev_hok, ev_ert, ev_enx, ev_wn, ev_wc, ev_e0, ev_sseq, ev_senum, ev_szip, ev_sltup, ev_ltI, ev_leI, ev_gtI, ev_geI, ev_subI, ev_addI, ev_lenT, List.map_cons, List.map_nil, List.length_cons, List.length_nil, List.cons_append, List.nil_append, List.append_nil, List.getElem?_cons_zero, List.getElem?_cons_succ, List.set_cons_zero, List.set_cons_succ, List.replicate_succ, List.replicate_zero, Nat.reduceAdd, Nat.reduceSub, Nat.reduceEqDiff, reduceIte, Bool.true_eq_false, Bool.false_eq_true, if_true, if_false]
  obtain ⟨env1, st1, e1, kv, x, y, h1, h2, h3⟩ := startFor_J (s := .dyn l) (g := gN 5) (xs := starts) (env := [some bk, some (.ref l), some (.tup off), some (.tup (ordO rs)), some (.ref st.length), none, none]) (st := st ++ [.dct []])
    (body := sSeq (sSet 6 (eVar 5)) (runWhile (tOf (eBin (dInD true) (eVar 6) (eVar 4))) (sSeq (sDPutM (eVar 4) (eVar 6) (eFn s_step (aCons (eVar 0) (aCons (eVar 6) (aCons (eVar 3) (aCons (eVar 2) aNil)))))) (sSet 6 (eBin dIx (eBin dGetD (eVar 4) (eVar 6)) (eC (.int 1))))) wfuel))
    (fun i env s' => ∃ kv x y, waysAll (nextO ws rs off) kv (starts.drop i) = some kvs ∧ env = [some bk, some (.ref l), some (.tup off), some (.tup (ordO rs)), some (.ref st.length), x, y] ∧ s' = st ++ [.dct kv])
    (fun i env s' ⟨kv, x, y, h1, h2, h3⟩ => by rw [h3]; exact hseq _) ⟨[], none, none, h, rfl, rfl⟩ fun i x env s' hx ⟨kv, x1, y1, h1, h2, h3⟩ => by
      subst h2 h3
      have hi : i < starts.length := (List.getElem?_eq_some_iff.mp hx).1
      have hxe : starts[i] = x := (List.getElem?_eq_some_iff.mp hx).2
      rw [List.drop_eq_getElem_cons hi, hxe] at h1
      simp only [waysAll] at h1
      split at h1
      · rename_i kv2 hw
        obtain ⟨z, e⟩ := ways_while (start := x) (l := l) hb 16000 wfuel kv kv2 x (by decide) hw
        refine ⟨_, _, _, st ++ [.dct kv2], rfl, ?_, kv2, some x, some z, h1, rfl, rfl⟩
        simp only [ev_var, ev_c, ev_un, ev_bin, ev_anil, ev_acons, ev_fn, ev_tof, ev_tob, ev_tand, ev_tor, ev_tnot, ev_and, ev_or, ev_not, ev_if, ev_chain, ev_true, ev_slice, ev_onone, ev_osome, ev_iseq, ev_irng, ev_ienum, ev_ibin, ev_lc, ev_skip, ev_never, ev_seq, ev_ret, ev_sif, ev_set, ev_expr, ev_asg, ev_par, ev_for, ev_fld, ev_gn, ev_gsnil, ev_gscons, ev_gt, ev_mkfn, ev_bok, ev_berr, ev_bfail, ev_tok, ev_hok, ev_ert, ev_enx, ev_wn, ev_wc, ev_e0, ev_sseq, ev_senum, ev_szip, ev_sltup, ev_ltI, ev_leI, ev_gtI, ev_geI, ev_subI, ev_addI, ev_lenT, List.map_cons, List.map_nil, List.length_cons, List.length_nil, List.cons_append, List.nil_append, List.append_nil, List.getElem?_cons_zero, List.getElem?_cons_succ, List.set_cons_zero, List.set_cons_succ, List.replicate_succ, List.replicate_zero, Nat.reduceAdd, Nat.reduceSub, Nat.reduceEqDiff, reduceIte, Bool.true_eq_false, Bool.false_eq_true, if_true, if_false]
        exact e
      · cases h1
  rw [e1]
  subst h2 h3
  rw [List.drop_eq_nil_of_le (Nat.le_refl _)] at h1
  cases h1
  simp only [ev_var, ev_c, ev_un, ev_bin, ev_anil, ev_acons, ev_fn, ev_tof, ev_tob, ev_tand, ev_tor, ev_tnot, ev_and, ev_or, ev_not, ev_if, ev_chain, ev_true, ev_slice, ev_onone, ev_osome, ev_iseq, ev_irng, ev_ienum, ev_ibin, ev_lc, ev_skip, ev_never, ev_seq, ev_ret, ev_sif, ev_set, ev_expr, ev_asg, ev_par, ev_for, ev_fld, ev_gn, ev_gsnil, ev_gscons, ev_gt, ev_mkfn, ev_bok, ev_berr, ev_bfail, ev_tok, ev_hok, ev_ert, ev_enx, ev_wn, ev_wc, ev_e0, ev_sseq, ev_senum, ev_szip, ev_sltup, ev_ltI, ev_leI, ev_gtI, ev_geI, ev_subI, ev_addI, ev_lenT, List.map_cons, List.map_nil, List.length_cons, List.length_nil, List.cons_append, List.nil_append, List.append_nil, List.getElem?_cons_zero, List.getElem?_cons_succ, List.set_cons_zero, List.set_cons_succ, List.replicate_succ, List.replicate_zero, Nat.reduceAdd, Nat.reduceSub, Nat.reduceEqDiff, reduceIte, Bool.true_eq_false, Bool.false_eq_true, if_true, if_false]

def b_trail_along : SM := (sSeq (sSet 2 eDnew)
    (sSeq (sSet 3 (eFn mkLst aNil))
    (sSeq (sSet 4 (eVar 1))
    (sSeq (runWhile (tOf (eBin (dInD true) (eVar 4) (eVar 2))) (sSeq (sDPutM (eVar 2) (eVar 4) (eFn fLenD (aCons (eVar 2) aNil)))
    (sSeq (sAsg (eBin dGetD (eVar 0) (eVar 4)) (gT 2 (gsCons (gN 5) (gsCons (gN 4) gsNil))))
    (sExpr (eMtL mAppend (eVar 3) (aCons (eVar 5) aNil))))) wfuel)
    (sRet (eFn mkTup (aCons (eFn fListD (aCons (eVar 2) aNil)) (aCons (eVar 3) (aCons (eBin dGetD (eVar 2) (eVar 4)) aNil)))))))))
def m_trail_along : Fm := mkFn 2 6 b_trail_along
theorem along_while {st : Sto} {w : Nat} {state : D} {ways : List (D × D)} (hw : st[w]? = some (.dct ways)) : ∀ (n fuel : Nat) (nums : List (D × D)) (dns : List D) (here : D) (x : Option D) (nums1 : List (D × D)) (dns1 : List D) (here1 : D), n ≤ fuel → trailO ways n nums dns here = some (nums1, dns1, here1) →
    ∃ x1, runWhile (tOf (eBin (dInD true) (eVar 4) (eVar 2))) (sSeq (sDPutM (eVar 2) (eVar 4) (eFn fLenD (aCons (eVar 2) aNil))) (sSeq (sAsg (eBin dGetD (eVar 0) (eVar 4)) (gT 2 (gsCons (gN 5) (gsCons (gN 4) gsNil)))) (sExpr (eMtL mAppend (eVar 3) (aCons (eVar 5) aNil))))) fuel
      [some (.ref w), some state, some (.ref st.length), some (.ref (st.length + 1)), some here, x] (st ++ [.dct nums, .lst dns]) = .nx [some (.ref w), some state, some (.ref st.length), some (.ref (st.length + 1)), some here1, x1] (st ++ [.dct nums1, .lst dns1])
  | 0, _, _, _, _, _, _, _, _, _, h => by cases h
  | n + 1, fuel, nums, dns, here, x, nums1, dns1, here1, hf, h => by
    obtain ⟨f, rfl⟩ : ∃ f, fuel = f + 1 := ⟨fuel - 1, by omega⟩
    rw [ev_while]
    have hwl : w < st.length := (List.getElem?_eq_some_iff.mp hw).1
    have hd : dctOf (st ++ [.dct nums, .lst dns]) (.ref st.length) = some nums := dctOf_at' at_end0
    simp only [trailO] at h
    split at h
    · cases h
    · rename_i k hk
      split at h
      · rename_i hg
        cases h
        exact ⟨x, by simp only [ev_var, ev_c, ev_un, ev_bin, ev_anil, ev_acons, ev_fn, ev_tof, ev_tob, ev_tand, ev_tor, ev_tnot, ev_and, ev_or, ev_not, ev_if, ev_chain, ev_true, ev_slice, ev_onone, ev_osome, ev_iseq, ev_irng, ev_ienum, ev_ibin, ev_lc, ev_skip, ev_never, ev_seq, ev_ret, ev_sif, ev_set, ev_expr, ev_asg, ev_par, ev_for, ev_fld, ev_gn, ev_gsnil, ev_gscons, ev_gt, ev_mkfn, ev_bok, ev_berr, ev_bfail, ev_tok, ev_hok, ev_ert, ev_enx, ev_wn, ev_wc, ev_e0, ev_sseq, ev_senum, ev_szip, ev_sltup, ev_ltI, ev_leI, ev_gtI, ev_geI, ev_subI, ev_addI, ev_lenT, List.map_cons, List.map_nil, List.length_cons, List.length_nil, List.cons_append, List.nil_append, List.append_nil, List.getElem?_cons_zero, List.getElem?_cons_succ, List.set_cons_zero, List.set_cons_succ, List.replicate_succ, List.replicate_zero, Nat.reduceAdd, Nat.reduceSub, Nat.reduceEqDiff, reduceIte, Bool.true_eq_false, Bool.false_eq_true, if_true, if_false, dInD, hd, hk, hg, Bool.not_true]⟩
      · rename_i hg
        split at h
        · rename_i dn th hs
          split at h
          · rename_i hl
            have hin : dInD true here (.ref st.length) (st ++ [.dct nums, .lst dns]) = .ok (.bl true) (st ++ [.dct nums, .lst dns]) := by
              simp only [dInD, hd, hk]
              rw [Bool.not_eq_true] at hg
              simp [hg]
            have hln : fLenD [.ref st.length] (st ++ [.dct nums, .lst dns]) = .ok (.int nums.length) (st ++ [.dct nums, .lst dns]) := by simp only [fLenD, hd]
            have hgd : dGetD (.ref w) here (st ++ [.dct (nums ++ [(here, .int nums.length)]), .lst dns]) = .ok (.tup [dn, th]) (st ++ [.dct (nums ++ [(here, .int nums.length)]), .lst dns]) := by
              have hd2 : dctOf (st ++ [.dct (nums ++ [(here, .int nums.length)]), .lst dns]) (.ref w) = some ways := dctOf_at' (by rw [List.getElem?_append_left hwl]; exact hw)
              simp only [dGetD, hd2, hk, hs]
            obtain ⟨x1, e1⟩ := along_while hw n f (nums ++ [(here, .int nums.length)]) (dns ++ [dn]) th (some dn) nums1 dns1 here1 (by omega) h
            refine ⟨x1, ?_⟩
            simp only [ev_var, ev_c, ev_un, ev_bin, ev_anil, ev_acons, ev_fn, ev_tof, ev_tob, ev_tand, ev_tor, ev_tnot, ev_and, ev_or, ev_not, ev_if, ev_chain, ev_true, ev_slice, ev_onone, ev_osome, ev_iseq, ev_irng, ev_ienum, ev_ibin, ev_lc, ev_skip, ev_never, ev_seq, ev_ret, ev_sif, ev_set, ev_expr, ev_asg, ev_par, ev_for, ev_fld, ev_gn, ev_gsnil, ev_gscons, ev_gt, ev_mkfn, ev_bok, ev_berr, ev_bfail, ev_tok, ev_hok, ev_ert, ev_enx, ev_wn, ev_wc, ev_e0, ev_sseq, ev_senum, ev_szip, ev_sltup, ev_ltI, ev_leI, ev_gtI, ev_geI, ev_subI, ev_addI, ev_lenT, List.map_cons, List.map_nil, List.length_cons, List.length_nil, List.cons_append, List.nil_append, List.append_nil, List.getElem?_cons_zero, List.getElem?_cons_succ, List.set_cons_zero, List.set_cons_succ, List.replicate_succ, List.replicate_zero, Nat.reduceAdd, Nat.reduceSub, Nat.reduceEqDiff, reduceIte, Bool.true_eq_false, Bool.false_eq_true, if_true, if_false, hin, ev_dput, hln, putSt_ok (v := .int nums.length) at_end0 hk (Nat.lt_of_lt_of_le hl.1 (by decide)) hg, set_end0, hgd, eMtL, isLst, lstOf, at_end1, Option.isSome_some, mAppend]
            rw [if_pos (Nat.lt_of_lt_of_le hl.2 (by decide)), set_end1]
            simp only [ev_var, ev_c, ev_un, ev_bin, ev_anil, ev_acons, ev_fn, ev_tof, ev_tob, ev_tand, ev_tor, ev_tnot, ev_and, ev_or, ev_not, ev_if, ev_chain, ev_true, ev_slice, ev_onone, ev_osome, ev_iseq, ev_irng, ev_ienum, ev_ibin, ev_lc, ev_skip, ev_never, ev_seq, ev_ret, ev_sif, ev_set, ev_expr, ev_asg, ev_par, ev_for, ev_fld, ev_gn, ev_gsnil, ev_gscons, ev_gt, ev_mkfn, ev_bok, ev_berr, ev_bfail, ev_tok, ev_hok, ev_ert, ev_enx, ev_wn, ev_wc, ev_e0, ev_sseq, ev_senum, ev_szip, ev_sltup, ev_ltI, ev_leI, ev_gtI, ev_geI, ev_subI, ev_addI, ev_lenT, List.map_cons, List.map_nil, List.length_cons, List.length_nil, List.cons_append, List.nil_append, List.append_nil, List.getElem?_cons_zero, List.getElem?_cons_succ, List.set_cons_zero, List.set_cons_succ, List.replicate_succ, List.replicate_zero, Nat.reduceAdd, Nat.reduceSub, Nat.reduceEqDiff, reduceIte, Bool.true_eq_false, Bool.false_eq_true, if_true, if_false]
            exact e1
          · cases h
        · cases h
theorem along_run {st : Sto} {w : Nat} {state b : D} {ways : List (D × D)} {ss dns : List D} (hw : st[w]? = some (.dct ways)) (h : alongO ways state = some (ss, dns, b)) :
    ∃ nums, m_trail_along [.ref w, state] st = .ok (.tup [.ref (st.length + 2), .ref (st.length + 1), b]) (st ++ [.dct nums, .lst dns, .lst ss]) := by
  unfold alongO at h
  split at h
  · rename_i nums dns1 here ht
    split at h
    · rename_i k hk
      split at h
      · rename_i d hg
        cases h
        refine ⟨nums, ?_⟩
        simp only [m_trail_along, b_trail_along, ev_var, ev_c, ev_un, ev_bin, ev_anil, ev_acons, ev_fn, ev_tof, ev_tob, ev_tand, ev_tor, ev_tnot, ev_and, ev_or, ev_not, ev_if, ev_chain, ev_true, ev_slice, ev_onone, ev_osome, ev_iseq, ev_irng, ev_ienum, ev_ibin, ev_lc, ev_skip, ev_never, ev_seq, ev_ret, ev_sif, ev_set, ev_expr, ev_asg, ev_par, ev_for, ev_fld, ev_gn, ev_gsnil, ev_gscons, ev_gt, ev_mkfn, ev_bok, ev_berr, ev_bfail, ev_tok, ev_hok, ev_ert, ev_enx, ev_wn, ev_wc, ev_e0, ev_sseq, ev_senum, ev_szip, ev_sltup, ev_ltI, ev_leI, ev_gtI, ev_geI, ev_subI, ev_addI, ev_lenT, List.map_cons, List.map_nil, List.length_cons, List.length_nil, List.cons_append, List.nil_append, List.append_nil, List.getElem?_cons_zero, List.getElem?_cons_succ, List.set_cons_zero, List.set_cons_succ, List.replicate_succ, List.replicate_zero, Nat.reduceAdd, Nat.reduceSub, Nat.reduceEqDiff, reduceIte, Bool.true_eq_false, Bool.false_eq_true, if_true, if_false, ev_dnew, mkLst_nil]
        simp only [List.length_append, List.append_assoc, List.length_cons, List.length_nil, List.cons_append, List.nil_append, Nat.zero_add]
        obtain ⟨x1, e1⟩ := along_while (state := state) hw 16000 wfuel [] [] state none nums dns here (by decide) ht
        rw [e1]
        have hd : dctOf (st ++ [.dct nums, .lst dns]) (.ref st.length) = some nums := dctOf_at' at_end0
        have hd2 : dctOf (st ++ [.dct nums, .lst dns, .lst (nums.map (·.1))]) (.ref st.length) = some nums := dctOf_at' at_end0
        have hls : fListD [.ref st.length] (st ++ [.dct nums, .lst dns]) = .ok (.ref (st.length + 2)) (st ++ [.dct nums, .lst dns, .lst (nums.map (·.1))]) := by
          simp only [fListD, hd, List.length_append, List.append_assoc, List.length_cons, List.length_nil, List.cons_append, List.nil_append, Nat.zero_add, Nat.reduceAdd]
        have hgd : dGetD (.ref st.length) here (st ++ [.dct nums, .lst dns, .lst (nums.map (·.1))]) = .ok b (st ++ [.dct nums, .lst dns, .lst (nums.map (·.1))]) := by simp only [dGetD, hd2, hk, hg]
        simp only [ev_var, ev_c, ev_un, ev_bin, ev_anil, ev_acons, ev_fn, ev_tof, ev_tob, ev_tand, ev_tor, ev_tnot, ev_and, ev_or, ev_not, ev_if, ev_chain, ev_true, ev_slice, ev_onone, ev_osome, ev_iseq, ev_irng, ev_ienum, ev_ibin, ev_lc, ev_skip, ev_never, ev_seq, ev_ret, ev_sif, ev_set, ev_expr, ev_asg, ev_par, ev_for, ev_fld, ev_gn, ev_gsnil, ev_gscons, ev_gt, ev_mkfn, ev_bok, ev_berr, ev_bfail, ev_tok, ev_hok, ev_ert, ev_enx, ev_wn, ev_wc, ev_e0, ev_sseq, ev_senum, ev_szip, ev_sltup, ev_ltI, ev_leI, ev_gtI, ev_geI, ev_subI, ev_addI, ev_lenT, List.map_cons, List.map_nil, List.length_cons, List.length_nil, List.cons_append, List.nil_append, List.append_nil, List.getElem?_cons_zero, List.getElem?_cons_succ, List.set_cons_zero, List.set_cons_succ, List.replicate_succ, List.replicate_zero, Nat.reduceAdd, Nat.reduceSub, Nat.reduceEqDiff, reduceIte, Bool.true_eq_false, Bool.false_eq_true, if_true, if_false, hls, hgd, mkTup3]
      · cases h
    · cases h
  · cases h

def b_trail : SM := (sRet (eFn m_trail_along (aCons (eFn m_ways_from (aCons (eVar 0) (aCons (eFn mkLst (aCons (eVar 1) aNil)) (aCons (eVar 2) aNil)))) (aCons (eVar 1) aNil))))
def m_trail : Fm := mkFn 3 3 b_trail
theorem trail_run {st : Sto} {bk s b : D} {ws rs off ss dns : List D} (hb : bookD st bk = some (ws, rs)) (hn : rs.length ≤ 1000) (h : trailP ws rs s off = some (ss, dns, b)) :
    ∃ o1 o2 o3, m_trail [bk, s, .tup off] st = .ok (.tup [.ref (st.length + 4), .ref (st.length + 3), b]) (st ++ [o1, o2, o3, .lst dns, .lst ss]) := by
  unfold trailP at h
  split at h
  · rename_i ways hw
    have hb2 : bookD (st ++ [.lst [s]]) bk = some (ws, rs) := bookD_app hb
    have e1 := ways_run (l := st.length) hb2 at_end0 hn hw
    obtain ⟨nums, e2⟩ := along_run (st := st ++ [.lst [s]] ++ [.dct ways]) (w := (st ++ [Ob.lst [s]]).length) at_end0 h
    refine ⟨.lst [s], .dct ways, .dct nums, ?_⟩
    simp only [m_trail, b_trail, ev_var, ev_c, ev_un, ev_bin, ev_anil, ev_acons, ev_fn, ev_tof, ev_tob, ev_tand, ev_tor, ev_tnot, ev_and, ev_or, ev_not, ev_if, ev_chain, ev_true, ev_slice, ev_onone, ev_osome, ev_iseq, ev_irng, ev_ienum, ev_ibin, ev_lc, ev_skip, ev_never, ev_seq, ev_ret, ev_sif, ev_set, ev_expr, ev_asg, ev_par, ev_for, ev_fld, ev_gn, ev_gsnil, ev_gscons, ev_gt, ev_mkfn, ev_bok, ev_berr, ev_bfail, ev_tok, ev_hok, ev_ert, ev_enx, ev_wn, ev_wc, ev_e0, ev_sseq, ev_senum, ev_szip, ev_sltup, ev_ltI, ev_leI, ev_gtI, ev_geI, ev_subI, ev_addI, ev_lenT, List.map_cons, List.map_nil, List.length_cons, List.length_nil, List.cons_append, List.nil_append, List.append_nil, List.getElem?_cons_zero, List.getElem?_cons_succ, List.set_cons_zero, List.set_cons_succ, List.replicate_succ, List.replicate_zero, Nat.reduceAdd, Nat.reduceSub, Nat.reduceEqDiff, reduceIte, Bool.true_eq_false, Bool.false_eq_true, if_true, if_false, mkLst_ok (xs := [s]) (show (1 : Nat) ≤ most by decide), e1, e2]
    simp only [List.length_append, List.append_assoc, List.length_cons, List.length_nil, List.cons_append, List.nil_append, Nat.zero_add, Nat.add_assoc, Nat.reduceAdd]
  · cases h

def b_number_at : SM := (sRet (eIf (tOf (eBin dLt (eVar 2) (eVar 0))) (eVar 2) (eBin dAdd (eVar 0) (eBin dMod (eBin dSub (eVar 2) (eVar 0)) (eBin dSub (eVar 1) (eVar 0))))))
def m_number_at : Fm := mkFn 3 3 b_number_at
theorem num_run {st : Sto} {b k : Int} {n : Nat} (h : b < n) : m_number_at [.int b, .int n, .int k] st = .ok (.int (nAt b n k)) st := by
  simp only [m_number_at, b_number_at, ev_var, ev_c, ev_un, ev_bin, ev_anil, ev_acons, ev_fn, ev_tof, ev_tob, ev_tand, ev_tor, ev_tnot, ev_and, ev_or, ev_not, ev_if, ev_chain, ev_true, ev_slice, ev_onone, ev_osome, ev_iseq, ev_irng, ev_ienum, ev_ibin, ev_lc, ev_skip, ev_never, ev_seq, ev_ret, ev_sif, ev_set, ev_expr, ev_asg, ev_par, ev_for, ev_fld, ev_gn, ev_gsnil, ev_gscons, ev_gt, ev_mkfn, ev_bok, ev_berr, ev_bfail, ev_tok, ev_hok, ev_ert, ev_enx, ev_wn, ev_wc, ev_e0, ev_sseq, ev_senum, ev_szip, ev_sltup, ev_ltI, ev_leI, ev_gtI, ev_geI, ev_subI, ev_addI, ev_lenT, List.map_cons, List.map_nil, List.length_cons, List.length_nil, List.cons_append, List.nil_append, List.append_nil, List.getElem?_cons_zero, List.getElem?_cons_succ, List.set_cons_zero, List.set_cons_succ, List.replicate_succ, List.replicate_zero, Nat.reduceAdd, Nat.reduceSub, Nat.reduceEqDiff, reduceIte, Bool.true_eq_false, Bool.false_eq_true, if_true, if_false, nAt]
  by_cases hk : k < b
  · simp only [decide_eq_true hk, ev_var, ev_c, ev_un, ev_bin, ev_anil, ev_acons, ev_fn, ev_tof, ev_tob, ev_tand, ev_tor, ev_tnot, ev_and, ev_or, ev_not, ev_if, ev_chain, ev_true, ev_slice, ev_onone, ev_osome, ev_iseq, ev_irng, ev_ienum, ev_ibin, ev_lc, ev_skip, ev_never, ev_seq, ev_ret, ev_sif, ev_set, ev_expr, ev_asg, ev_par, ev_for, ev_fld, ev_gn, ev_gsnil, ev_gscons, ev_gt, ev_mkfn, ev_bok, ev_berr, ev_bfail, ev_tok, ev_hok, ev_ert, ev_enx, ev_wn, ev_wc, ev_e0, ev_sseq, ev_senum, ev_szip, ev_sltup, ev_ltI, ev_leI, ev_gtI, ev_geI, ev_subI, ev_addI, ev_lenT, List.map_cons, List.map_nil, List.length_cons, List.length_nil, List.cons_append, List.nil_append, List.append_nil, List.getElem?_cons_zero, List.getElem?_cons_succ, List.set_cons_zero, List.set_cons_succ, List.replicate_succ, List.replicate_zero, Nat.reduceAdd, Nat.reduceSub, Nat.reduceEqDiff, reduceIte, Bool.true_eq_false, Bool.false_eq_true, if_true, if_false, if_pos hk]
  · simp only [decide_eq_false hk, ev_var, ev_c, ev_un, ev_bin, ev_anil, ev_acons, ev_fn, ev_tof, ev_tob, ev_tand, ev_tor, ev_tnot, ev_and, ev_or, ev_not, ev_if, ev_chain, ev_true, ev_slice, ev_onone, ev_osome, ev_iseq, ev_irng, ev_ienum, ev_ibin, ev_lc, ev_skip, ev_never, ev_seq, ev_ret, ev_sif, ev_set, ev_expr, ev_asg, ev_par, ev_for, ev_fld, ev_gn, ev_gsnil, ev_gscons, ev_gt, ev_mkfn, ev_bok, ev_berr, ev_bfail, ev_tok, ev_hok, ev_ert, ev_enx, ev_wn, ev_wc, ev_e0, ev_sseq, ev_senum, ev_szip, ev_sltup, ev_ltI, ev_leI, ev_gtI, ev_geI, ev_subI, ev_addI, ev_lenT, List.map_cons, List.map_nil, List.length_cons, List.length_nil, List.cons_append, List.nil_append, List.append_nil, List.getElem?_cons_zero, List.getElem?_cons_succ, List.set_cons_zero, List.set_cons_succ, List.replicate_succ, List.replicate_zero, Nat.reduceAdd, Nat.reduceSub, Nat.reduceEqDiff, reduceIte, Bool.true_eq_false, Bool.false_eq_true, if_true, if_false, if_neg hk, modI (show 0 < (n : Int) - b by omega)]

def b_state_at : SM := (sSeq (sExpr (eFn s_want_state (aCons (eVar 0) (aCons (eVar 1) aNil))))
    (sSeq (sExpr (eFn s_want_beats (aCons (eVar 2) (aCons (eC (.int 0)) aNil))))
    (sSeq (sExpr (eFn s_want_off (aCons (eVar 0) (aCons (eVar 3) aNil))))
    (sSeq (sAsg (eFn m_trail (aCons (eVar 0) (aCons (eVar 1) (aCons (eVar 3) aNil)))) (gT 3 (gsCons (gN 4) (gsCons (gN 5) (gsCons (gN 6) gsNil)))))
    (sRet (eBin dIx (eVar 4) (eFn m_number_at (aCons (eVar 6) (aCons (eFn fLen (aCons (eVar 4) aNil)) (aCons (eVar 2) aNil))))))))))
def m_state_at : Fm := mkFn 4 7 b_state_at
def s_state_at : Fm := obs 4 fun ds st => match ds with
  | [bk, s, .int k, off] => match bookD st bk with
    | some (ws, rs) => if withinD 0 999999999999999999999999999999999999999999999999999999999999 (.int k) = true then (match runO ws rs s off with
      | some (ss, _, b) => L2.atI ss (nAt b ss.length k)
      | none => none) else none
    | none => none
  | _ => none
theorem a_state_at : Arity 4 s_state_at := obs_ar
theorem state_at_of {st : Sto} {bk s off d : D} {ws rs ss dns : List D} {k b : Int} (hb : bookD st bk = some (ws, rs)) (hk : withinD 0 999999999999999999999999999999999999999999999999999999999999 (.int k) = true) (hr : runO ws rs s off = some (ss, dns, b)) (h : L2.atI ss (nAt b ss.length k) = some d) : s_state_at [bk, s, .int k, off] st = .ok d st := by
  refine obs_ok rfl ?_
  simp only [hb, hr]
  rw [if_pos hk]
  exact h
theorem t_state_at : Tells m_state_at s_state_at := .obs fun ds st d g b hl h => by
  match ds, hl, h with
  | [bk, s, .int k, off], _, h =>
    cases hb : bookD st bk with
    | none => simp only [hb] at h; cases h
    | some q =>
      obtain ⟨ws, rs⟩ := q
      simp only [hb] at h
      split at h
      · rename_i hk
        split at h
        · rename_i ss dns b hr
          obtain ⟨⟨vs, ls, os, rfl, rfl, h1, h2, h3, h4, h5, h6, h7, h8, h9, h10, ht⟩, c1, c2, c3, c4, c5, c6⟩ := runO_ok hr
          obtain ⟨o1, o2, o3, et⟩ := trail_run hb h8 ht
          refine ⟨bnd_at c6 h, [o1, o2, o3, .lst dns, .lst ss], ?_⟩
          simp only [m_state_at, b_state_at, ev_var, ev_c, ev_un, ev_bin, ev_anil, ev_acons, ev_fn, ev_tof, ev_tob, ev_tand, ev_tor, ev_tnot, ev_and, ev_or, ev_not, ev_if, ev_chain, ev_true, ev_slice, ev_onone, ev_osome, ev_iseq, ev_irng, ev_ienum, ev_ibin, ev_lc, ev_skip, ev_never, ev_seq, ev_ret, ev_sif, ev_set, ev_expr, ev_asg, ev_par, ev_for, ev_fld, ev_gn, ev_gsnil, ev_gscons, ev_gt, ev_mkfn, ev_bok, ev_berr, ev_bfail, ev_tok, ev_hok, ev_ert, ev_enx, ev_wn, ev_wc, ev_e0, ev_sseq, ev_senum, ev_szip, ev_sltup, ev_ltI, ev_leI, ev_gtI, ev_geI, ev_subI, ev_addI, ev_lenT, List.map_cons, List.map_nil, List.length_cons, List.length_nil, List.cons_append, List.nil_append, List.append_nil, List.getElem?_cons_zero, List.getElem?_cons_succ, List.set_cons_zero, List.set_cons_succ, List.replicate_succ, List.replicate_zero, Nat.reduceAdd, Nat.reduceSub, Nat.reduceEqDiff, reduceIte, Bool.true_eq_false, Bool.false_eq_true, if_true, if_false, want_state_of hb (state_dk h2 h3) (state_small h5 h6) h1 h9, want_beats_of (st := st) (show kn st (.int k) = true from rfl) hk, want_off_of hb (dk_ints h4) h7 h10, et, len_end (st := st) (ex := [o1, o2, o3, .lst dns, .lst ss]) (k := 4) rfl, num_run c2, ixS (seq_end (st := st) (ex := [o1, o2, o3, .lst dns, .lst ss]) (k := 4) rfl) h]
        · cases h
      · cases h

section
variable {T : Sto} {bk : Nat} {ws rs off : List D} {s : D}
theorem told_at (R : RunOk ws rs off) (hr : risingD rs.length (.tup off) = true) (hb : bookD T (.ref bk) = some (ws, rs)) (h : SOk ws rs s) {k : Nat} (hk : k < 10 ^ 60) : s_state_at [.ref bk, s, .int (k : Int), .tup off] T = .ok (iter ws rs off k s) T := by
  obtain ⟨m, b, ρ⟩ := rho_ex R h
  exact state_at_of hb (within60 hk) (runO_all R hr h ρ) (at_all ρ k)
end

def b_round_of : SM := (sSeq (sExpr (eFn s_want_state (aCons (eVar 0) (aCons (eVar 1) aNil))))
    (sSeq (sExpr (eFn s_want_off (aCons (eVar 0) (aCons (eVar 2) aNil))))
    (sSeq (sAsg (eFn m_trail (aCons (eVar 0) (aCons (eVar 1) (aCons (eVar 2) aNil)))) (gT 3 (gsCons (gN 3) (gsCons (gN 4) (gsCons (gN 5) gsNil)))))
    (sRet (eFn mkTup (aCons (eVar 5) (aCons (eBin dSub (eFn fLen (aCons (eVar 3) aNil)) (eVar 5)) aNil)))))))
def m_round_of : Fm := mkFn 3 6 b_round_of
def s_round_of : Fm := obs 3 fun ds st => match ds with
  | [bk, s, off] => match bookD st bk with
    | some (ws, rs) => (match runO ws rs s off with
      | some (ss, _, b) => some (.tup [.int b, .int (ss.length - b)])
      | none => none)
    | none => none
  | _ => none
theorem a_round_of : Arity 3 s_round_of := obs_ar
theorem round_of_of {st : Sto} {bk s off : D} {ws rs ss dns : List D} {b : Int} (hb : bookD st bk = some (ws, rs)) (hr : runO ws rs s off = some (ss, dns, b)) : s_round_of [bk, s, off] st = .ok (.tup [.int b, .int (ss.length - b)]) st := by
  refine obs_ok rfl ?_
  simp only [hb, hr]
theorem t_round_of : Tells m_round_of s_round_of := .obs fun ds st d g b hl h => by
  match ds, hl, h with
  | [bk, s, off], _, h =>
    cases hb : bookD st bk with
    | none => simp only [hb] at h; cases h
    | some q =>
      obtain ⟨ws, rs⟩ := q
      simp only [hb] at h
      split at h
      · rename_i ss dns b hr
        cases h
        obtain ⟨⟨vs, ls, os, rfl, rfl, h1, h2, h3, h4, h5, h6, h7, h8, h9, h10, ht⟩, c1, c2, c3, c4, c5, c6⟩ := runO_ok hr
        obtain ⟨o1, o2, o3, et⟩ := trail_run hb h8 ht
        refine ⟨by simp only [Bnd, Bnds, and_true], [o1, o2, o3, .lst dns, .lst ss], ?_⟩
        simp only [m_round_of, b_round_of, ev_var, ev_c, ev_un, ev_bin, ev_anil, ev_acons, ev_fn, ev_tof, ev_tob, ev_tand, ev_tor, ev_tnot, ev_and, ev_or, ev_not, ev_if, ev_chain, ev_true, ev_slice, ev_onone, ev_osome, ev_iseq, ev_irng, ev_ienum, ev_ibin, ev_lc, ev_skip, ev_never, ev_seq, ev_ret, ev_sif, ev_set, ev_expr, ev_asg, ev_par, ev_for, ev_fld, ev_gn, ev_gsnil, ev_gscons, ev_gt, ev_mkfn, ev_bok, ev_berr, ev_bfail, ev_tok, ev_hok, ev_ert, ev_enx, ev_wn, ev_wc, ev_e0, ev_sseq, ev_senum, ev_szip, ev_sltup, ev_ltI, ev_leI, ev_gtI, ev_geI, ev_subI, ev_addI, ev_lenT, List.map_cons, List.map_nil, List.length_cons, List.length_nil, List.cons_append, List.nil_append, List.append_nil, List.getElem?_cons_zero, List.getElem?_cons_succ, List.set_cons_zero, List.set_cons_succ, List.replicate_succ, List.replicate_zero, Nat.reduceAdd, Nat.reduceSub, Nat.reduceEqDiff, reduceIte, Bool.true_eq_false, Bool.false_eq_true, if_true, if_false, want_state_of hb (state_dk h2 h3) (state_small h5 h6) h1 h9, want_off_of hb (dk_ints h4) h7 h10, et, len_end (st := st) (ex := [o1, o2, o3, .lst dns, .lst ss]) (k := 4) rfl, mkTup2]
      · cases h

section
variable {T : Sto} {bk : Nat} {ws rs off : List D} {s : D}
theorem told_round (R : RunOk ws rs off) (hr : risingD rs.length (.tup off) = true) (hb : bookD T (.ref bk) = some (ws, rs)) (h : SOk ws rs s) : ∃ b L : Nat, s_round_of [.ref bk, s, .tup off] T = .ok (.tup [.int (b : Int), .int (L : Int)]) T ∧ 0 < L ∧ b + L ≤ 15552 ∧ iter ws rs off (b + L) s = iter ws rs off b s := by
  obtain ⟨m, b, ρ⟩ := rho_ex R h
  have h1 := ρ.lt
  have h2 := ρ.few
  refine ⟨b, m - b, ?_, by omega, by omega, by rw [show b + (m - b) = m by omega]; exact ρ.rep⟩
  rw [round_of_of hb (runO_all R hr h ρ), List.length_map, List.length_range, show (m : Int) - (b : Int) = ((m - b : Nat) : Int) by omega]
end

def b_quiet_from : SM := (sSeq (sExpr (eFn s_want_state (aCons (eVar 0) (aCons (eVar 1) aNil))))
    (sSeq (sExpr (eFn s_want_off (aCons (eVar 0) (aCons (eVar 2) aNil))))
    (sSeq (sAsg (eFn m_trail (aCons (eVar 0) (aCons (eVar 1) (aCons (eVar 2) aNil)))) (gT 3 (gsCons (gN 4) (gsCons (gN 5) (gsCons (gN 6) gsNil)))))
    (sSeq (sSet 3 (eFn fMaxDef (aCons (cLc (iEnum (eVar 5)) [7, 8] (gT 2 (gsCons (gN 7) (gsCons (gN 8) gsNil))) (tOf (eBin dGt (eFn fLen (aCons (eVar 8) aNil)) (eC (.int 0)))) (eBin dAdd (eVar 7) (eC (.int 1)))) (aCons (eC (.int 0)) aNil))))
    (sRet (eIf (tOf (eBin dGt (eVar 3) (eVar 6))) (eC .non) (eVar 3)))))))
def m_quiet_from : Fm := mkFn 3 9 b_quiet_from
def s_quiet_from : Fm := obs 3 fun ds st => match ds with
  | [bk, s, off] => match bookD st bk with
    | some (ws, rs) => (match runO ws rs s off with
      | some (_, dns, b) => some (if b < lastDid dns then .non else .int (lastDid dns))
      | none => none)
    | none => none
  | _ => none
theorem a_quiet_from : Arity 3 s_quiet_from := obs_ar
theorem quiet_from_of {st : Sto} {bk s off : D} {ws rs ss dns : List D} {b : Int} (hb : bookD st bk = some (ws, rs)) (hr : runO ws rs s off = some (ss, dns, b)) : s_quiet_from [bk, s, off] st = .ok (if b < lastDid dns then .non else .int (lastDid dns)) st := by
  refine obs_ok rfl ?_
  simp only [hb, hr]
theorem t_quiet_from : Tells m_quiet_from s_quiet_from := .obs fun ds st d g bd hl h => by
  match ds, hl, h with
  | [bk, s, off], _, h =>
    cases hb : bookD st bk with
    | none => simp only [hb] at h; cases h
    | some q =>
      obtain ⟨ws, rs⟩ := q
      simp only [hb] at h
      split at h
      · rename_i ss dns b hr
        cases h
        obtain ⟨⟨vs, ls, os, rfl, rfl, h1, h2, h3, h4, h5, h6, h7, h8, h9, h10, ht⟩, c1, c2, c3, c4, c5, c6⟩ := runO_ok hr
        obtain ⟨o1, o2, o3, et⟩ := trail_run hb h8 ht
        refine ⟨by split <;> simp only [Bnd], [o1, o2, o3, .lst dns, .lst ss, .lst (didL dns)], ?_⟩
        simp only [m_quiet_from, b_quiet_from, ev_var, ev_c, ev_un, ev_bin, ev_anil, ev_acons, ev_fn, ev_tof, ev_tob, ev_tand, ev_tor, ev_tnot, ev_and, ev_or, ev_not, ev_if, ev_chain, ev_true, ev_slice, ev_onone, ev_osome, ev_iseq, ev_irng, ev_ienum, ev_ibin, ev_lc, ev_skip, ev_never, ev_seq, ev_ret, ev_sif, ev_set, ev_expr, ev_asg, ev_par, ev_for, ev_fld, ev_gn, ev_gsnil, ev_gscons, ev_gt, ev_mkfn, ev_bok, ev_berr, ev_bfail, ev_tok, ev_hok, ev_ert, ev_enx, ev_wn, ev_wc, ev_e0, ev_sseq, ev_senum, ev_szip, ev_sltup, ev_ltI, ev_leI, ev_gtI, ev_geI, ev_subI, ev_addI, ev_lenT, List.map_cons, List.map_nil, List.length_cons, List.length_nil, List.cons_append, List.nil_append, List.append_nil, List.getElem?_cons_zero, List.getElem?_cons_succ, List.set_cons_zero, List.set_cons_succ, List.replicate_succ, List.replicate_zero, Nat.reduceAdd, Nat.reduceSub, Nat.reduceEqDiff, reduceIte, Bool.true_eq_false, Bool.false_eq_true, if_true, if_false, want_state_of hb (state_dk h2 h3) (state_small h5 h6) h1 h9, want_off_of hb (dk_ints h4) h7 h10, et]
        rw [show enumSrc (.ref (st.length + 3)) (st ++ [o1, o2, o3, .lst dns, .lst ss]) = .ok (.enumL (st.length + 3)) (st ++ [o1, o2, o3, .lst dns, .lst ss]) by unfold enumSrc; simp only [lst_endk (st := st) (ex := [o1, o2, o3, .lst dns, .lst ss]) 3 rfl]]
        simp only [ev_var, ev_c, ev_un, ev_bin, ev_anil, ev_acons, ev_fn, ev_tof, ev_tob, ev_tand, ev_tor, ev_tnot, ev_and, ev_or, ev_not, ev_if, ev_chain, ev_true, ev_slice, ev_onone, ev_osome, ev_iseq, ev_irng, ev_ienum, ev_ibin, ev_lc, ev_skip, ev_never, ev_seq, ev_ret, ev_sif, ev_set, ev_expr, ev_asg, ev_par, ev_for, ev_fld, ev_gn, ev_gsnil, ev_gscons, ev_gt, ev_mkfn, ev_bok, ev_berr, ev_bfail, ev_tok, ev_hok, ev_ert, ev_enx, ev_wn, ev_wc, ev_e0, ev_sseq, ev_senum, ev_szip, ev_sltup, ev_ltI, ev_leI, ev_gtI, ev_geI, ev_subI, ev_addI, ev_lenT, List.map_cons, List.map_nil, List.length_cons, List.length_nil, List.cons_append, List.nil_append, List.append_nil, List.getElem?_cons_zero, List.getElem?_cons_succ, List.set_cons_zero, List.set_cons_succ, List.replicate_succ, List.replicate_zero, Nat.reduceAdd, Nat.reduceSub, Nat.reduceEqDiff, reduceIte, Bool.true_eq_false, Bool.false_eq_true, if_true, if_false]
        rw [startLc_pure (xs := enumFrom 0 dns) (p := fun x => decide (0 < (tupsD (sndD x)).length)) (f := fun x => .int (wI (fstD x) + 1)) (by show (lstOf (st ++ [o1, o2, o3, .lst dns, .lst ss]) (st.length + 3)).map (enumFrom 0) = _; rw [lst_endk (st := st) (ex := [o1, o2, o3, .lst dns, .lst ss]) 3 rfl]; rfl) (by rw [enum_len]; exact Nat.le_trans c4 (by decide)) fun x hx acc => ?_]
        · rw [show ((enumFrom 0 dns).filter fun x => decide (0 < (tupsD (sndD x)).length)).map (fun x => D.int (wI (fstD x) + 1)) = didL dns from rfl]
          simp only [ev_var, ev_c, ev_un, ev_bin, ev_anil, ev_acons, ev_fn, ev_tof, ev_tob, ev_tand, ev_tor, ev_tnot, ev_and, ev_or, ev_not, ev_if, ev_chain, ev_true, ev_slice, ev_onone, ev_osome, ev_iseq, ev_irng, ev_ienum, ev_ibin, ev_lc, ev_skip, ev_never, ev_seq, ev_ret, ev_sif, ev_set, ev_expr, ev_asg, ev_par, ev_for, ev_fld, ev_gn, ev_gsnil, ev_gscons, ev_gt, ev_mkfn, ev_bok, ev_berr, ev_bfail, ev_tok, ev_hok, ev_ert, ev_enx, ev_wn, ev_wc, ev_e0, ev_sseq, ev_senum, ev_szip, ev_sltup, ev_ltI, ev_leI, ev_gtI, ev_geI, ev_subI, ev_addI, ev_lenT, List.map_cons, List.map_nil, List.length_cons, List.length_nil, List.cons_append, List.nil_append, List.append_nil, List.getElem?_cons_zero, List.getElem?_cons_succ, List.set_cons_zero, List.set_cons_succ, List.replicate_succ, List.replicate_zero, Nat.reduceAdd, Nat.reduceSub, Nat.reduceEqDiff, reduceIte, Bool.true_eq_false, Bool.false_eq_true, if_true, if_false]
          rw [show fMaxDef [.ref (st ++ [o1, o2, o3, .lst dns, .lst ss]).length, .int 0] (st ++ [o1, o2, o3, .lst dns, .lst ss] ++ [.lst (didL dns)]) = .ok (.int (lastDid dns)) (st ++ [o1, o2, o3, .lst dns, .lst ss] ++ [.lst (didL dns)]) from maxDef_end rfl (did_ints dns)]
          simp only [ev_var, ev_c, ev_un, ev_bin, ev_anil, ev_acons, ev_fn, ev_tof, ev_tob, ev_tand, ev_tor, ev_tnot, ev_and, ev_or, ev_not, ev_if, ev_chain, ev_true, ev_slice, ev_onone, ev_osome, ev_iseq, ev_irng, ev_ienum, ev_ibin, ev_lc, ev_skip, ev_never, ev_seq, ev_ret, ev_sif, ev_set, ev_expr, ev_asg, ev_par, ev_for, ev_fld, ev_gn, ev_gsnil, ev_gscons, ev_gt, ev_mkfn, ev_bok, ev_berr, ev_bfail, ev_tok, ev_hok, ev_ert, ev_enx, ev_wn, ev_wc, ev_e0, ev_sseq, ev_senum, ev_szip, ev_sltup, ev_ltI, ev_leI, ev_gtI, ev_geI, ev_subI, ev_addI, ev_lenT, List.map_cons, List.map_nil, List.length_cons, List.length_nil, List.cons_append, List.nil_append, List.append_nil, List.getElem?_cons_zero, List.getElem?_cons_succ, List.set_cons_zero, List.set_cons_succ, List.replicate_succ, List.replicate_zero, Nat.reduceAdd, Nat.reduceSub, Nat.reduceEqDiff, reduceIte, Bool.true_eq_false, Bool.false_eq_true, if_true, if_false]
          by_cases hq : b < lastDid dns
          · simp only [decide_eq_true hq, ev_var, ev_c, ev_un, ev_bin, ev_anil, ev_acons, ev_fn, ev_tof, ev_tob, ev_tand, ev_tor, ev_tnot, ev_and, ev_or, ev_not, ev_if, ev_chain, ev_true, ev_slice, ev_onone, ev_osome, ev_iseq, ev_irng, ev_ienum, ev_ibin, ev_lc, ev_skip, ev_never, ev_seq, ev_ret, ev_sif, ev_set, ev_expr, ev_asg, ev_par, ev_for, ev_fld, ev_gn, ev_gsnil, ev_gscons, ev_gt, ev_mkfn, ev_bok, ev_berr, ev_bfail, ev_tok, ev_hok, ev_ert, ev_enx, ev_wn, ev_wc, ev_e0, ev_sseq, ev_senum, ev_szip, ev_sltup, ev_ltI, ev_leI, ev_gtI, ev_geI, ev_subI, ev_addI, ev_lenT, List.map_cons, List.map_nil, List.length_cons, List.length_nil, List.cons_append, List.nil_append, List.append_nil, List.getElem?_cons_zero, List.getElem?_cons_succ, List.set_cons_zero, List.set_cons_succ, List.replicate_succ, List.replicate_zero, Nat.reduceAdd, Nat.reduceSub, Nat.reduceEqDiff, reduceIte, Bool.true_eq_false, Bool.false_eq_true, if_true, if_false, List.append_assoc]
            rw [if_pos hq]
          · simp only [decide_eq_false hq, ev_var, ev_c, ev_un, ev_bin, ev_anil, ev_acons, ev_fn, ev_tof, ev_tob, ev_tand, ev_tor, ev_tnot, ev_and, ev_or, ev_not, ev_if, ev_chain, ev_true, ev_slice, ev_onone, ev_osome, ev_iseq, ev_irng, ev_ienum, ev_ibin, ev_lc, ev_skip, ev_never, ev_seq, ev_ret, ev_sif, ev_set, ev_expr, ev_asg, ev_par, ev_for, ev_fld, ev_gn, ev_gsnil, ev_gscons, ev_gt, ev_mkfn, ev_bok, ev_berr, ev_bfail, ev_tok, ev_hok, ev_ert, ev_enx, ev_wn, ev_wc, ev_e0, ev_sseq, ev_senum, ev_szip, ev_sltup, ev_ltI, ev_leI, ev_gtI, ev_geI, ev_subI, ev_addI, ev_lenT, List.map_cons, List.map_nil, List.length_cons, List.length_nil, List.cons_append, List.nil_append, List.append_nil, List.getElem?_cons_zero, List.getElem?_cons_succ, List.set_cons_zero, List.set_cons_succ, List.replicate_succ, List.replicate_zero, Nat.reduceAdd, Nat.reduceSub, Nat.reduceEqDiff, reduceIte, Bool.true_eq_false, Bool.false_eq_true, if_true, if_false, List.append_assoc]
            rw [if_neg hq]
        · obtain ⟨i, hi⟩ := List.getElem?_of_mem hx
          obtain ⟨y, hy, rfl⟩ := enum_get hi
          have hd := List.all_eq_true.mp c5 y (List.mem_of_getElem? hy)
          simp only [Bool.and_eq_true] at hd
          obtain ⟨ys, rfl⟩ : ∃ ys, y = .tup ys := by
            cases y with
            | tup ys => exact ⟨ys, rfl⟩
            | _ => simp [itemsD] at hd
          refine ⟨_, rfl, ?_, fun _ => ?_⟩
          · simp only [ev_var, ev_c, ev_un, ev_bin, ev_anil, ev_acons, ev_fn, ev_tof, ev_tob, ev_tand, ev_tor, ev_tnot, ev_and, ev_or, ev_not, ev_if, ev_chain, ev_true, ev_slice, ev_onone, ev_osome, ev_iseq, ev_irng, ev_ienum, ev_ibin, ev_lc, ev_skip, ev_never, ev_seq, ev_ret, ev_sif, ev_set, ev_expr, ev_asg, ev_par, ev_for, ev_fld, ev_gn, ev_gsnil, ev_gscons, ev_gt, ev_mkfn, ev_bok, ev_berr, ev_bfail, ev_tok, ev_hok, ev_ert, ev_enx, ev_wn, ev_wc, ev_e0, ev_sseq, ev_senum, ev_szip, ev_sltup, ev_ltI, ev_leI, ev_gtI, ev_geI, ev_subI, ev_addI, ev_lenT, List.map_cons, List.map_nil, List.length_cons, List.length_nil, List.cons_append, List.nil_append, List.append_nil, List.getElem?_cons_zero, List.getElem?_cons_succ, List.set_cons_zero, List.set_cons_succ, List.replicate_succ, List.replicate_zero, Nat.reduceAdd, Nat.reduceSub, Nat.reduceEqDiff, reduceIte, Bool.true_eq_false, Bool.false_eq_true, if_true, if_false, sndD, tupsD]
            congr 1
            exact decide_eq_decide.mpr (by omega)
          · simp only [ev_var, ev_c, ev_un, ev_bin, ev_anil, ev_acons, ev_fn, ev_tof, ev_tob, ev_tand, ev_tor, ev_tnot, ev_and, ev_or, ev_not, ev_if, ev_chain, ev_true, ev_slice, ev_onone, ev_osome, ev_iseq, ev_irng, ev_ienum, ev_ibin, ev_lc, ev_skip, ev_never, ev_seq, ev_ret, ev_sif, ev_set, ev_expr, ev_asg, ev_par, ev_for, ev_fld, ev_gn, ev_gsnil, ev_gscons, ev_gt, ev_mkfn, ev_bok, ev_berr, ev_bfail, ev_tok, ev_hok, ev_ert, ev_enx, ev_wn, ev_wc, ev_e0, ev_sseq, ev_senum, ev_szip, ev_sltup, ev_ltI, ev_leI, ev_gtI, ev_geI, ev_subI, ev_addI, ev_lenT, List.map_cons, List.map_nil, List.length_cons, List.length_nil, List.cons_append, List.nil_append, List.append_nil, List.getElem?_cons_zero, List.getElem?_cons_succ, List.set_cons_zero, List.set_cons_succ, List.replicate_succ, List.replicate_zero, Nat.reduceAdd, Nat.reduceSub, Nat.reduceEqDiff, reduceIte, Bool.true_eq_false, Bool.false_eq_true, if_true, if_false, fstD, wI]
      · cases h

def b_doings : SM := (sSeq (sAsg (eFn m_trail (aCons (eVar 0) (aCons (eVar 1) (aCons (eVar 3) aNil)))) (gT 3 (gsCons (gN 6) (gsCons (gN 7) (gsCons (gN 8) gsNil)))))
    (sSeq (sSet 4 (cLc (iEnum (eVar 7)) [9, 10] (gT 2 (gsCons (gN 9) (gsCons (gN 10) gsNil))) (tOf (eBin (dIn false) (eVar 2) (eVar 10))) (eVar 9)))
    (sSeq (sSet 5 (cLc (iSeq (eVar 4)) [9] (gN 9) (tOf (eBin dLt (eVar 9) (eVar 8))) (eVar 9)))
    (sRet (eFn mkTup (aCons (eVar 5) (aCons (eSlice (eVar 4) (oSome (eFn fLen (aCons (eVar 5) aNil))) oNone) (aCons (eVar 8) (aCons (eBin dSub (eFn fLen (aCons (eVar 6) aNil)) (eVar 8)) aNil)))))))))
def m_doings : Fm := mkFn 4 11 b_doings
theorem doings_run {st : Sto} {bk s : D} {ws rs os ss dns : List D} {r b : Int} (hb : bookD st bk = some (ws, rs)) (hn : rs.length ≤ 1000) (ht : trailP ws rs s os = some (ss, dns, .int b)) (c4 : dns.length ≤ 100000) (c5 : (dns.all fun d => (tupsD d).all isI && (itemsD d).isSome) = true) :
    ∃ o1 o2 o3, m_doings [bk, s, .int r, .tup os] st = .ok (.tup [.ref (st.length + 6), .ref (st.length + 7), .int b, .int (ss.length - b)]) (st ++ [o1, o2, o3, .lst dns, .lst ss, .lst (foundL dns r), .lst (soonL dns r b), .lst (roundL dns r b)]) := by
  obtain ⟨o1, o2, o3, et⟩ := trail_run hb hn ht
  refine ⟨o1, o2, o3, ?_⟩
  have hm : dns.length ≤ most := Nat.le_trans c4 (by decide)
  simp only [m_doings, b_doings, ev_var, ev_c, ev_un, ev_bin, ev_anil, ev_acons, ev_fn, ev_tof, ev_tob, ev_tand, ev_tor, ev_tnot, ev_and, ev_or, ev_not, ev_if, ev_chain, ev_true, ev_slice, ev_onone, ev_osome, ev_iseq, ev_irng, ev_ienum, ev_ibin, ev_lc, ev_skip, ev_never, ev_seq, ev_ret, ev_sif, ev_set, ev_expr, ev_asg, ev_par, ev_for, ev_fld, ev_gn, ev_gsnil, ev_gscons, ev_gt, ev_mkfn, ev_bok, ev_berr, ev_bfail, ev_tok, ev_hok, ev_ert, ev_enx, ev_wn, ev_wc, ev_e0, ev_sseq, ev_senum, ev_szip, ev_sltup, ev_ltI, ev_leI, ev_gtI, ev_geI, ev_subI, ev_addI, ev_lenT, List.map_cons, List.map_nil, List.length_cons, List.length_nil, List.cons_append, List.nil_append, List.append_nil, List.getElem?_cons_zero, List.getElem?_cons_succ, List.set_cons_zero, List.set_cons_succ, List.replicate_succ, List.replicate_zero, Nat.reduceAdd, Nat.reduceSub, Nat.reduceEqDiff, reduceIte, Bool.true_eq_false, Bool.false_eq_true, if_true, if_false, et]
  rw [show enumSrc (.ref (st.length + 3)) (st ++ [o1, o2, o3, .lst dns, .lst ss]) = .ok (.enumL (st.length + 3)) (st ++ [o1, o2, o3, .lst dns, .lst ss]) by unfold enumSrc; simp only [lst_endk (st := st) (ex := [o1, o2, o3, .lst dns, .lst ss]) 3 rfl]]
  simp only [ev_var, ev_c, ev_un, ev_bin, ev_anil, ev_acons, ev_fn, ev_tof, ev_tob, ev_tand, ev_tor, ev_tnot, ev_and, ev_or, ev_not, ev_if, ev_chain, ev_true, ev_slice, ev_onone, ev_osome, ev_iseq, ev_irng, ev_ienum, ev_ibin, ev_lc, ev_skip, ev_never, ev_seq, ev_ret, ev_sif, ev_set, ev_expr, ev_asg, ev_par, ev_for, ev_fld, ev_gn, ev_gsnil, ev_gscons, ev_gt, ev_mkfn, ev_bok, ev_berr, ev_bfail, ev_tok, ev_hok, ev_ert, ev_enx, ev_wn, ev_wc, ev_e0, ev_sseq, ev_senum, ev_szip, ev_sltup, ev_ltI, ev_leI, ev_gtI, ev_geI, ev_subI, ev_addI, ev_lenT, List.map_cons, List.map_nil, List.length_cons, List.length_nil, List.cons_append, List.nil_append, List.append_nil, List.getElem?_cons_zero, List.getElem?_cons_succ, List.set_cons_zero, List.set_cons_succ, List.replicate_succ, List.replicate_zero, Nat.reduceAdd, Nat.reduceSub, Nat.reduceEqDiff, reduceIte, Bool.true_eq_false, Bool.false_eq_true, if_true, if_false]
  rw [startLc_pure (xs := enumFrom 0 dns) (p := fun x => memI (.int r) (tupsD (sndD x))) (f := fstD) (by show (lstOf (st ++ [o1, o2, o3, .lst dns, .lst ss]) (st.length + 3)).map (enumFrom 0) = _; rw [lst_endk (st := st) (ex := [o1, o2, o3, .lst dns, .lst ss]) 3 rfl]; rfl) (by rw [enum_len]; exact hm) fun x hx acc => ?_]
  · rw [show ((enumFrom 0 dns).filter fun x => memI (.int r) (tupsD (sndD x))).map fstD = foundL dns r from rfl]
    simp only [ev_var, ev_c, ev_un, ev_bin, ev_anil, ev_acons, ev_fn, ev_tof, ev_tob, ev_tand, ev_tor, ev_tnot, ev_and, ev_or, ev_not, ev_if, ev_chain, ev_true, ev_slice, ev_onone, ev_osome, ev_iseq, ev_irng, ev_ienum, ev_ibin, ev_lc, ev_skip, ev_never, ev_seq, ev_ret, ev_sif, ev_set, ev_expr, ev_asg, ev_par, ev_for, ev_fld, ev_gn, ev_gsnil, ev_gscons, ev_gt, ev_mkfn, ev_bok, ev_berr, ev_bfail, ev_tok, ev_hok, ev_ert, ev_enx, ev_wn, ev_wc, ev_e0, ev_sseq, ev_senum, ev_szip, ev_sltup, ev_ltI, ev_leI, ev_gtI, ev_geI, ev_subI, ev_addI, ev_lenT, List.map_cons, List.map_nil, List.length_cons, List.length_nil, List.cons_append, List.nil_append, List.append_nil, List.getElem?_cons_zero, List.getElem?_cons_succ, List.set_cons_zero, List.set_cons_succ, List.replicate_succ, List.replicate_zero, Nat.reduceAdd, Nat.reduceSub, Nat.reduceEqDiff, reduceIte, Bool.true_eq_false, Bool.false_eq_true, if_true, if_false, List.length_append, List.append_assoc, Nat.zero_add, Nat.add_assoc]
    rw [show seqSrc (.ref (st.length + 5)) (st ++ [o1, o2, o3, .lst dns, .lst ss, .lst (foundL dns r)]) = .ok (.dyn (st.length + 5)) (st ++ [o1, o2, o3, .lst dns, .lst ss, .lst (foundL dns r)]) by unfold seqSrc; simp only [lst_endk (st := st) (ex := [o1, o2, o3, .lst dns, .lst ss, .lst (foundL dns r)]) 5 rfl]]
    simp only [ev_var, ev_c, ev_un, ev_bin, ev_anil, ev_acons, ev_fn, ev_tof, ev_tob, ev_tand, ev_tor, ev_tnot, ev_and, ev_or, ev_not, ev_if, ev_chain, ev_true, ev_slice, ev_onone, ev_osome, ev_iseq, ev_irng, ev_ienum, ev_ibin, ev_lc, ev_skip, ev_never, ev_seq, ev_ret, ev_sif, ev_set, ev_expr, ev_asg, ev_par, ev_for, ev_fld, ev_gn, ev_gsnil, ev_gscons, ev_gt, ev_mkfn, ev_bok, ev_berr, ev_bfail, ev_tok, ev_hok, ev_ert, ev_enx, ev_wn, ev_wc, ev_e0, ev_sseq, ev_senum, ev_szip, ev_sltup, ev_ltI, ev_leI, ev_gtI, ev_geI, ev_subI, ev_addI, ev_lenT, List.map_cons, List.map_nil, List.length_cons, List.length_nil, List.cons_append, List.nil_append, List.append_nil, List.getElem?_cons_zero, List.getElem?_cons_succ, List.set_cons_zero, List.set_cons_succ, List.replicate_succ, List.replicate_zero, Nat.reduceAdd, Nat.reduceSub, Nat.reduceEqDiff, reduceIte, Bool.true_eq_false, Bool.false_eq_true, if_true, if_false]
    rw [startLc_pure (s := .dyn (st.length + 5)) (xs := foundL dns r) (p := fun x => decide (wI x < b)) (f := fun x => x) (lst_endk (st := st) (ex := [o1, o2, o3, .lst dns, .lst ss, .lst (foundL dns r)]) 5 rfl) (Nat.le_trans (found_len dns r) hm) fun x hx acc => ?_]
    · simp only [List.map_id']
      rw [show ((foundL dns r).filter fun x => decide (wI x < b)) = soonL dns r b from rfl]
      simp only [ev_var, ev_c, ev_un, ev_bin, ev_anil, ev_acons, ev_fn, ev_tof, ev_tob, ev_tand, ev_tor, ev_tnot, ev_and, ev_or, ev_not, ev_if, ev_chain, ev_true, ev_slice, ev_onone, ev_osome, ev_iseq, ev_irng, ev_ienum, ev_ibin, ev_lc, ev_skip, ev_never, ev_seq, ev_ret, ev_sif, ev_set, ev_expr, ev_asg, ev_par, ev_for, ev_fld, ev_gn, ev_gsnil, ev_gscons, ev_gt, ev_mkfn, ev_bok, ev_berr, ev_bfail, ev_tok, ev_hok, ev_ert, ev_enx, ev_wn, ev_wc, ev_e0, ev_sseq, ev_senum, ev_szip, ev_sltup, ev_ltI, ev_leI, ev_gtI, ev_geI, ev_subI, ev_addI, ev_lenT, List.map_cons, List.map_nil, List.length_cons, List.length_nil, List.cons_append, List.nil_append, List.append_nil, List.getElem?_cons_zero, List.getElem?_cons_succ, List.set_cons_zero, List.set_cons_succ, List.replicate_succ, List.replicate_zero, Nat.reduceAdd, Nat.reduceSub, Nat.reduceEqDiff, reduceIte, Bool.true_eq_false, Bool.false_eq_true, if_true, if_false, List.length_append, List.append_assoc, Nat.zero_add, Nat.add_assoc]
      simp only [ev_var, ev_c, ev_un, ev_bin, ev_anil, ev_acons, ev_fn, ev_tof, ev_tob, ev_tand, ev_tor, ev_tnot, ev_and, ev_or, ev_not, ev_if, ev_chain, ev_true, ev_slice, ev_onone, ev_osome, ev_iseq, ev_irng, ev_ienum, ev_ibin, ev_lc, ev_skip, ev_never, ev_seq, ev_ret, ev_sif, ev_set, ev_expr, ev_asg, ev_par, ev_for, ev_fld, ev_gn, ev_gsnil, ev_gscons, ev_gt, ev_mkfn, ev_bok, ev_berr, ev_bfail, ev_tok, ev_hok, ev_ert, ev_enx, ev_wn, ev_wc, ev_e0, ev_sseq, ev_senum, ev_szip, ev_sltup, ev_ltI, ev_leI, ev_gtI, ev_geI, ev_subI, ev_addI, ev_lenT, List.map_cons, List.map_nil, List.length_cons, List.length_nil, List.cons_append, List.nil_append, List.append_nil, List.getElem?_cons_zero, List.getElem?_cons_succ, List.set_cons_zero, List.set_cons_succ, List.replicate_succ, List.replicate_zero, Nat.reduceAdd, Nat.reduceSub, Nat.reduceEqDiff, reduceIte, Bool.true_eq_false, Bool.false_eq_true, if_true, if_false, len_end (st := st) (ex := [o1, o2, o3, .lst dns, .lst ss, .lst (foundL dns r), .lst (soonL dns r b)]) (k := 6) rfl, sliceD, lst_endk (st := st) (ex := [o1, o2, o3, .lst dns, .lst ss, .lst (foundL dns r), .lst (soonL dns r b)]) 5 rfl, cutN]
      rw [show (foundL dns r).drop (soonL dns r b).length = roundL dns r b from rfl]
      simp only [ev_var, ev_c, ev_un, ev_bin, ev_anil, ev_acons, ev_fn, ev_tof, ev_tob, ev_tand, ev_tor, ev_tnot, ev_and, ev_or, ev_not, ev_if, ev_chain, ev_true, ev_slice, ev_onone, ev_osome, ev_iseq, ev_irng, ev_ienum, ev_ibin, ev_lc, ev_skip, ev_never, ev_seq, ev_ret, ev_sif, ev_set, ev_expr, ev_asg, ev_par, ev_for, ev_fld, ev_gn, ev_gsnil, ev_gscons, ev_gt, ev_mkfn, ev_bok, ev_berr, ev_bfail, ev_tok, ev_hok, ev_ert, ev_enx, ev_wn, ev_wc, ev_e0, ev_sseq, ev_senum, ev_szip, ev_sltup, ev_ltI, ev_leI, ev_gtI, ev_geI, ev_subI, ev_addI, ev_lenT, List.map_cons, List.map_nil, List.length_cons, List.length_nil, List.cons_append, List.nil_append, List.append_nil, List.getElem?_cons_zero, List.getElem?_cons_succ, List.set_cons_zero, List.set_cons_succ, List.replicate_succ, List.replicate_zero, Nat.reduceAdd, Nat.reduceSub, Nat.reduceEqDiff, reduceIte, Bool.true_eq_false, Bool.false_eq_true, if_true, if_false, List.length_append, List.append_assoc, Nat.zero_add, Nat.add_assoc, len_end (st := st) (ex := [o1, o2, o3, .lst dns, .lst ss, .lst (foundL dns r), .lst (soonL dns r b), .lst (roundL dns r b)]) (k := 4) rfl]
      rfl
    · obtain ⟨i, rfl⟩ : ∃ i, x = .int i := ⟨_, isI_eq (List.all_eq_true.mp (found_ints dns r) x hx)⟩
      refine ⟨_, rfl, ?_, fun _ => ?_⟩
      · simp only [ev_var, ev_c, ev_un, ev_bin, ev_anil, ev_acons, ev_fn, ev_tof, ev_tob, ev_tand, ev_tor, ev_tnot, ev_and, ev_or, ev_not, ev_if, ev_chain, ev_true, ev_slice, ev_onone, ev_osome, ev_iseq, ev_irng, ev_ienum, ev_ibin, ev_lc, ev_skip, ev_never, ev_seq, ev_ret, ev_sif, ev_set, ev_expr, ev_asg, ev_par, ev_for, ev_fld, ev_gn, ev_gsnil, ev_gscons, ev_gt, ev_mkfn, ev_bok, ev_berr, ev_bfail, ev_tok, ev_hok, ev_ert, ev_enx, ev_wn, ev_wc, ev_e0, ev_sseq, ev_senum, ev_szip, ev_sltup, ev_ltI, ev_leI, ev_gtI, ev_geI, ev_subI, ev_addI, ev_lenT, List.map_cons, List.map_nil, List.length_cons, List.length_nil, List.cons_append, List.nil_append, List.append_nil, List.getElem?_cons_zero, List.getElem?_cons_succ, List.set_cons_zero, List.set_cons_succ, List.replicate_succ, List.replicate_zero, Nat.reduceAdd, Nat.reduceSub, Nat.reduceEqDiff, reduceIte, Bool.true_eq_false, Bool.false_eq_true, if_true, if_false, wI]
        rfl
      · simp only [ev_var, ev_c, ev_un, ev_bin, ev_anil, ev_acons, ev_fn, ev_tof, ev_tob, ev_tand, ev_tor, ev_tnot, ev_and, ev_or, ev_not, ev_if, ev_chain, ev_true, ev_slice, ev_onone, ev_osome, ev_iseq, ev_irng, ev_ienum, ev_ibin, ev_lc, ev_skip, ev_never, ev_seq, ev_ret, ev_sif, ev_set, ev_expr, ev_asg, ev_par, ev_for, ev_fld, ev_gn, ev_gsnil, ev_gscons, ev_gt, ev_mkfn, ev_bok, ev_berr, ev_bfail, ev_tok, ev_hok, ev_ert, ev_enx, ev_wn, ev_wc, ev_e0, ev_sseq, ev_senum, ev_szip, ev_sltup, ev_ltI, ev_leI, ev_gtI, ev_geI, ev_subI, ev_addI, ev_lenT, List.map_cons, List.map_nil, List.length_cons, List.length_nil, List.cons_append, List.nil_append, List.append_nil, List.getElem?_cons_zero, List.getElem?_cons_succ, List.set_cons_zero, List.set_cons_succ, List.replicate_succ, List.replicate_zero, Nat.reduceAdd, Nat.reduceSub, Nat.reduceEqDiff, reduceIte, Bool.true_eq_false, Bool.false_eq_true, if_true, if_false]
  · obtain ⟨i, hi⟩ := List.getElem?_of_mem hx
    obtain ⟨y, hy, rfl⟩ := enum_get hi
    have hd := List.all_eq_true.mp c5 y (List.mem_of_getElem? hy)
    simp only [Bool.and_eq_true] at hd
    obtain ⟨ys, rfl⟩ : ∃ ys, y = .tup ys := by
      cases y with
      | tup ys => exact ⟨ys, rfl⟩
      | _ => simp [itemsD] at hd
    refine ⟨_, rfl, ?_, fun _ => ?_⟩
    · have hdi : ys.all isI = true := hd.1
      simp only [ev_var, ev_c, ev_un, ev_bin, ev_anil, ev_acons, ev_fn, ev_tof, ev_tob, ev_tand, ev_tor, ev_tnot, ev_and, ev_or, ev_not, ev_if, ev_chain, ev_true, ev_slice, ev_onone, ev_osome, ev_iseq, ev_irng, ev_ienum, ev_ibin, ev_lc, ev_skip, ev_never, ev_seq, ev_ret, ev_sif, ev_set, ev_expr, ev_asg, ev_par, ev_for, ev_fld, ev_gn, ev_gsnil, ev_gscons, ev_gt, ev_mkfn, ev_bok, ev_berr, ev_bfail, ev_tok, ev_hok, ev_ert, ev_enx, ev_wn, ev_wc, ev_e0, ev_sseq, ev_senum, ev_szip, ev_sltup, ev_ltI, ev_leI, ev_gtI, ev_geI, ev_subI, ev_addI, ev_lenT, List.map_cons, List.map_nil, List.length_cons, List.length_nil, List.cons_append, List.nil_append, List.append_nil, List.getElem?_cons_zero, List.getElem?_cons_succ, List.set_cons_zero, List.set_cons_succ, List.replicate_succ, List.replicate_zero, Nat.reduceAdd, Nat.reduceSub, Nat.reduceEqDiff, reduceIte, Bool.true_eq_false, Bool.false_eq_true, if_true, if_false, sndD, tupsD, in_ints hdi]
    · simp only [ev_var, ev_c, ev_un, ev_bin, ev_anil, ev_acons, ev_fn, ev_tof, ev_tob, ev_tand, ev_tor, ev_tnot, ev_and, ev_or, ev_not, ev_if, ev_chain, ev_true, ev_slice, ev_onone, ev_osome, ev_iseq, ev_irng, ev_ienum, ev_ibin, ev_lc, ev_skip, ev_never, ev_seq, ev_ret, ev_sif, ev_set, ev_expr, ev_asg, ev_par, ev_for, ev_fld, ev_gn, ev_gsnil, ev_gscons, ev_gt, ev_mkfn, ev_bok, ev_berr, ev_bfail, ev_tok, ev_hok, ev_ert, ev_enx, ev_wn, ev_wc, ev_e0, ev_sseq, ev_senum, ev_szip, ev_sltup, ev_ltI, ev_leI, ev_gtI, ev_geI, ev_subI, ev_addI, ev_lenT, List.map_cons, List.map_nil, List.length_cons, List.length_nil, List.cons_append, List.nil_append, List.append_nil, List.getElem?_cons_zero, List.getElem?_cons_succ, List.set_cons_zero, List.set_cons_succ, List.replicate_succ, List.replicate_zero, Nat.reduceAdd, Nat.reduceSub, Nat.reduceEqDiff, reduceIte, Bool.true_eq_false, Bool.false_eq_true, if_true, if_false, fstD]

def b_count_below : SM := (sRet (eFn fLen (aCons (cLc (iSeq (eVar 0)) [2] (gN 2) (tOf (eBin dLt (eVar 2) (eVar 1))) (eVar 2)) aNil)))
def m_count_below : Fm := mkFn 2 3 b_count_below
theorem count_run {st : Sto} {v : D} {xs : List D} {k : Int} (hv : seqOf st v = some xs) (hi : xs.all isI = true) (hl : xs.length ≤ most) : m_count_below [v, .int k] st = .ok (.int (xs.filter fun x => decide (wI x < k)).length) (st ++ [.lst (xs.filter fun x => decide (wI x < k))]) := by
  obtain ⟨src, h1, h2⟩ : ∃ src, seqSrc v st = .ok src st ∧ src.at st = some xs := by
    cases v with
    | tup ys => cases hv; exact ⟨.fix xs, rfl, rfl⟩
    | ref n =>
      have hn : lstOf st n = some xs := hv
      exact ⟨.dyn n, by unfold seqSrc; simp only [hn], hn⟩
    | _ => cases hv
  simp only [m_count_below, b_count_below, ev_var, ev_c, ev_un, ev_bin, ev_anil, ev_acons, ev_fn, ev_tof, ev_tob, ev_tand, ev_tor, ev_tnot, ev_and, ev_or, ev_not, ev_if, ev_chain, ev_true, ev_slice, ev_onone, ev_osome, ev_iseq, ev_irng, ev_ienum, ev_ibin, ev_lc, ev_skip, ev_never, ev_seq, ev_ret, ev_sif, ev_set, ev_expr, ev_asg, ev_par, ev_for, ev_fld, ev_gn, ev_gsnil, ev_gscons, ev_gt, ev_mkfn, ev_bok, ev_berr, ev_bfail, ev_tok, ev_hok, ev_ert, ev_enx, ev_wn, ev_wc, ev_e0, ev_sseq, ev_senum, ev_szip, ev_sltup, ev_ltI, ev_leI, ev_gtI, ev_geI, ev_subI, ev_addI, ev_lenT, List.map_cons, List.map_nil, List.length_cons, List.length_nil, List.cons_append, List.nil_append, List.append_nil, List.getElem?_cons_zero, List.getElem?_cons_succ, List.set_cons_zero, List.set_cons_succ, List.replicate_succ, List.replicate_zero, Nat.reduceAdd, Nat.reduceSub, Nat.reduceEqDiff, reduceIte, Bool.true_eq_false, Bool.false_eq_true, if_true, if_false, h1]
  rw [startLc_pure (p := fun x => decide (wI x < k)) (f := fun x => x) h2 hl fun x hx acc => ?_]
  · simp only [ev_var, ev_c, ev_un, ev_bin, ev_anil, ev_acons, ev_fn, ev_tof, ev_tob, ev_tand, ev_tor, ev_tnot, ev_and, ev_or, ev_not, ev_if, ev_chain, ev_true, ev_slice, ev_onone, ev_osome, ev_iseq, ev_irng, ev_ienum, ev_ibin, ev_lc, ev_skip, ev_never, ev_seq, ev_ret, ev_sif, ev_set, ev_expr, ev_asg, ev_par, ev_for, ev_fld, ev_gn, ev_gsnil, ev_gscons, ev_gt, ev_mkfn, ev_bok, ev_berr, ev_bfail, ev_tok, ev_hok, ev_ert, ev_enx, ev_wn, ev_wc, ev_e0, ev_sseq, ev_senum, ev_szip, ev_sltup, ev_ltI, ev_leI, ev_gtI, ev_geI, ev_subI, ev_addI, ev_lenT, List.map_cons, List.map_nil, List.length_cons, List.length_nil, List.cons_append, List.nil_append, List.append_nil, List.getElem?_cons_zero, List.getElem?_cons_succ, List.set_cons_zero, List.set_cons_succ, List.replicate_succ, List.replicate_zero, Nat.reduceAdd, Nat.reduceSub, Nat.reduceEqDiff, reduceIte, Bool.true_eq_false, Bool.false_eq_true, if_true, if_false, List.map_id']
    rw [show fLen [.ref st.length] (st ++ [.lst (xs.filter fun x => decide (wI x < k))]) = _ from len_end (ex := [.lst (xs.filter fun x => decide (wI x < k))]) (k := 0) rfl]
    simp only [ev_var, ev_c, ev_un, ev_bin, ev_anil, ev_acons, ev_fn, ev_tof, ev_tob, ev_tand, ev_tor, ev_tnot, ev_and, ev_or, ev_not, ev_if, ev_chain, ev_true, ev_slice, ev_onone, ev_osome, ev_iseq, ev_irng, ev_ienum, ev_ibin, ev_lc, ev_skip, ev_never, ev_seq, ev_ret, ev_sif, ev_set, ev_expr, ev_asg, ev_par, ev_for, ev_fld, ev_gn, ev_gsnil, ev_gscons, ev_gt, ev_mkfn, ev_bok, ev_berr, ev_bfail, ev_tok, ev_hok, ev_ert, ev_enx, ev_wn, ev_wc, ev_e0, ev_sseq, ev_senum, ev_szip, ev_sltup, ev_ltI, ev_leI, ev_gtI, ev_geI, ev_subI, ev_addI, ev_lenT, List.map_cons, List.map_nil, List.length_cons, List.length_nil, List.cons_append, List.nil_append, List.append_nil, List.getElem?_cons_zero, List.getElem?_cons_succ, List.set_cons_zero, List.set_cons_succ, List.replicate_succ, List.replicate_zero, Nat.reduceAdd, Nat.reduceSub, Nat.reduceEqDiff, reduceIte, Bool.true_eq_false, Bool.false_eq_true, if_true, if_false]
  · obtain ⟨i, rfl⟩ : ∃ i, x = .int i := ⟨_, isI_eq (List.all_eq_true.mp hi x hx)⟩
    refine ⟨_, rfl, ?_, fun _ => ?_⟩
    · simp only [ev_var, ev_c, ev_un, ev_bin, ev_anil, ev_acons, ev_fn, ev_tof, ev_tob, ev_tand, ev_tor, ev_tnot, ev_and, ev_or, ev_not, ev_if, ev_chain, ev_true, ev_slice, ev_onone, ev_osome, ev_iseq, ev_irng, ev_ienum, ev_ibin, ev_lc, ev_skip, ev_never, ev_seq, ev_ret, ev_sif, ev_set, ev_expr, ev_asg, ev_par, ev_for, ev_fld, ev_gn, ev_gsnil, ev_gscons, ev_gt, ev_mkfn, ev_bok, ev_berr, ev_bfail, ev_tok, ev_hok, ev_ert, ev_enx, ev_wn, ev_wc, ev_e0, ev_sseq, ev_senum, ev_szip, ev_sltup, ev_ltI, ev_leI, ev_gtI, ev_geI, ev_subI, ev_addI, ev_lenT, List.map_cons, List.map_nil, List.length_cons, List.length_nil, List.cons_append, List.nil_append, List.append_nil, List.getElem?_cons_zero, List.getElem?_cons_succ, List.set_cons_zero, List.set_cons_succ, List.replicate_succ, List.replicate_zero, Nat.reduceAdd, Nat.reduceSub, Nat.reduceEqDiff, reduceIte, Bool.true_eq_false, Bool.false_eq_true, if_true, if_false, wI]
      rfl
    · simp only [ev_var, ev_c, ev_un, ev_bin, ev_anil, ev_acons, ev_fn, ev_tof, ev_tob, ev_tand, ev_tor, ev_tnot, ev_and, ev_or, ev_not, ev_if, ev_chain, ev_true, ev_slice, ev_onone, ev_osome, ev_iseq, ev_irng, ev_ienum, ev_ibin, ev_lc, ev_skip, ev_never, ev_seq, ev_ret, ev_sif, ev_set, ev_expr, ev_asg, ev_par, ev_for, ev_fld, ev_gn, ev_gsnil, ev_gscons, ev_gt, ev_mkfn, ev_bok, ev_berr, ev_bfail, ev_tok, ev_hok, ev_ert, ev_enx, ev_wn, ev_wc, ev_e0, ev_sseq, ev_senum, ev_szip, ev_sltup, ev_ltI, ev_leI, ev_gtI, ev_geI, ev_subI, ev_addI, ev_lenT, List.map_cons, List.map_nil, List.length_cons, List.length_nil, List.cons_append, List.nil_append, List.append_nil, List.getElem?_cons_zero, List.getElem?_cons_succ, List.set_cons_zero, List.set_cons_succ, List.replicate_succ, List.replicate_zero, Nat.reduceAdd, Nat.reduceSub, Nat.reduceEqDiff, reduceIte, Bool.true_eq_false, Bool.false_eq_true, if_true, if_false]

def b_times : SM := (sSeq (sExpr (eFn s_want_state (aCons (eVar 0) (aCons (eVar 1) aNil))))
    (sSeq (sExpr (eFn s_want_rule (aCons (eVar 0) (aCons (eVar 2) aNil))))
    (sSeq (sExpr (eFn s_want_beats (aCons (eVar 3) (aCons (eC (.int 0)) aNil))))
    (sSeq (sExpr (eFn s_want_off (aCons (eVar 0) (aCons (eVar 4) aNil))))
    (sSeq (sAsg (eFn m_doings (aCons (eVar 0) (aCons (eVar 1) (aCons (eVar 2) (aCons (eVar 4) aNil))))) (gT 4 (gsCons (gN 5) (gsCons (gN 6) (gsCons (gN 7) (gsCons (gN 8) gsNil))))))
    (sSeq (sIf (tOf (eBin dLt (eVar 3) (eVar 7))) (sRet (eFn m_count_below (aCons (eVar 5) (aCons (eVar 3) aNil)))) sSkip)
    (sSeq (sAsg (eFn fDivmod (aCons (eBin dSub (eVar 3) (eVar 7)) (aCons (eVar 8) aNil))) (gT 2 (gsCons (gN 9) (gsCons (gN 10) gsNil))))
    (sRet (eBin dAdd (eBin dAdd (eFn fLen (aCons (eVar 5) aNil)) (eBin dMul (eVar 9) (eFn fLen (aCons (eVar 6) aNil)))) (eFn m_count_below (aCons (eVar 6) (aCons (eBin dAdd (eVar 7) (eVar 10)) aNil))))))))))))
def m_times : Fm := mkFn 5 11 b_times
def s_times : Fm := obs 5 fun ds st => match ds with
  | [bk, s, .int r, .int k, off] => match bookD st bk with
    | some (ws, rs) => if withinD 0 (rs.length - 1) (.int r) = true ∧ withinD 0 999999999999999999999999999999999999999999999999999999999999 (.int k) = true then (match runO ws rs s off with
      | some (ss, dns, b) => some (.int (timesO ss dns b r k))
      | none => none) else none
    | none => none
  | _ => none
theorem a_times : Arity 5 s_times := obs_ar
theorem times_of {st : Sto} {bk s off : D} {ws rs ss dns : List D} {r k b : Int} (hb : bookD st bk = some (ws, rs)) (hr0 : withinD 0 (rs.length - 1) (.int r) = true) (hk : withinD 0 999999999999999999999999999999999999999999999999999999999999 (.int k) = true) (hr : runO ws rs s off = some (ss, dns, b)) : s_times [bk, s, .int r, .int k, off] st = .ok (.int (timesO ss dns b r k)) st := by
  refine obs_ok rfl ?_
  simp only [hb, hr]
  rw [if_pos ⟨hr0, hk⟩]
theorem t_times : Tells m_times s_times := .obs fun ds st d g bd hl h => by
  match ds, hl, h with
  | [bk, s, .int r, .int k, off], _, h =>
    cases hb : bookD st bk with
    | none => simp only [hb] at h; cases h
    | some q =>
      obtain ⟨ws, rs⟩ := q
      simp only [hb] at h
      split at h
      · rename_i hk
        split at h
        · rename_i ss dns b hr
          cases h
          obtain ⟨⟨vs, ls, os, rfl, rfl, h1, h2, h3, h4, h5, h6, h7, h8, h9, h10, ht⟩, c1, c2, c3, c4, c5, c6⟩ := runO_ok hr
          obtain ⟨o1, o2, o3, et⟩ := doings_run (r := r) hb h8 ht c4 c5
          refine ⟨by simp only [Bnd], ?_⟩
          have hm : dns.length ≤ most := Nat.le_trans c4 (by decide)
          have q1 : seqOf (st ++ [o1, o2, o3, .lst dns, .lst ss, .lst (foundL dns r), .lst (soonL dns r b), .lst (roundL dns r b)]) (.ref (st.length + 6)) = some (soonL dns r b) := seq_end rfl
          have q2 : seqOf (st ++ [o1, o2, o3, .lst dns, .lst ss, .lst (foundL dns r), .lst (soonL dns r b), .lst (roundL dns r b)]) (.ref (st.length + 7)) = some (roundL dns r b) := seq_end rfl
          have l1 := len_end (st := st) (ex := [o1, o2, o3, .lst dns, .lst ss, .lst (foundL dns r), .lst (soonL dns r b), .lst (roundL dns r b)]) (k := 6) rfl
          have l2 := len_end (st := st) (ex := [o1, o2, o3, .lst dns, .lst ss, .lst (foundL dns r), .lst (soonL dns r b), .lst (roundL dns r b)]) (k := 7) rfl
          simp only [m_times, b_times, ev_var, ev_c, ev_un, ev_bin, ev_anil, ev_acons, ev_fn, ev_tof, ev_tob, ev_tand, ev_tor, ev_tnot, ev_and, ev_or, ev_not, ev_if, ev_chain, ev_true, ev_slice, ev_onone, ev_osome, ev_iseq, ev_irng, ev_ienum, ev_ibin, ev_lc, ev_skip, ev_never, ev_seq, ev_ret, ev_sif, ev_set, ev_expr, ev_asg, ev_par, ev_for, ev_fld, ev_gn, ev_gsnil, ev_gscons, ev_gt, ev_mkfn, ev_bok, ev_berr, ev_bfail, ev_tok, ev_hok, ev_ert, ev_enx, ev_wn, ev_wc, ev_e0, ev_sseq, ev_senum, ev_szip, ev_sltup, ev_ltI, ev_leI, ev_gtI, ev_geI, ev_subI, ev_addI, ev_lenT, List.map_cons, List.map_nil, List.length_cons, List.length_nil, List.cons_append, List.nil_append, List.append_nil, List.getElem?_cons_zero, List.getElem?_cons_succ, List.set_cons_zero, List.set_cons_succ, List.replicate_succ, List.replicate_zero, Nat.reduceAdd, Nat.reduceSub, Nat.reduceEqDiff, reduceIte, Bool.true_eq_false, Bool.false_eq_true, if_true, if_false, want_state_of hb (state_dk h2 h3) (state_small h5 h6) h1 h9, want_rule_of hb (show kn st (.int r) = true from rfl) hk.1, want_beats_of (st := st) (show kn st (.int k) = true from rfl) hk.2, want_off_of hb (dk_ints h4) h7 h10, et]
          by_cases hq : k < b
          · refine ⟨[o1, o2, o3, .lst dns, .lst ss, .lst (foundL dns r), .lst (soonL dns r b), .lst (roundL dns r b), .lst ((soonL dns r b).filter fun x => decide (wI x < k))], ?_⟩
            simp only [decide_eq_true hq, ev_var, ev_c, ev_un, ev_bin, ev_anil, ev_acons, ev_fn, ev_tof, ev_tob, ev_tand, ev_tor, ev_tnot, ev_and, ev_or, ev_not, ev_if, ev_chain, ev_true, ev_slice, ev_onone, ev_osome, ev_iseq, ev_irng, ev_ienum, ev_ibin, ev_lc, ev_skip, ev_never, ev_seq, ev_ret, ev_sif, ev_set, ev_expr, ev_asg, ev_par, ev_for, ev_fld, ev_gn, ev_gsnil, ev_gscons, ev_gt, ev_mkfn, ev_bok, ev_berr, ev_bfail, ev_tok, ev_hok, ev_ert, ev_enx, ev_wn, ev_wc, ev_e0, ev_sseq, ev_senum, ev_szip, ev_sltup, ev_ltI, ev_leI, ev_gtI, ev_geI, ev_subI, ev_addI, ev_lenT, List.map_cons, List.map_nil, List.length_cons, List.length_nil, List.cons_append, List.nil_append, List.append_nil, List.getElem?_cons_zero, List.getElem?_cons_succ, List.set_cons_zero, List.set_cons_succ, List.replicate_succ, List.replicate_zero, Nat.reduceAdd, Nat.reduceSub, Nat.reduceEqDiff, reduceIte, Bool.true_eq_false, Bool.false_eq_true, if_true, if_false, count_run q1 (soon_ints dns r b) (Nat.le_trans (soon_len dns r b) hm), List.append_assoc]
            unfold timesO
            rw [if_pos hq]
            rfl
          · refine ⟨[o1, o2, o3, .lst dns, .lst ss, .lst (foundL dns r), .lst (soonL dns r b), .lst (roundL dns r b), .lst ((roundL dns r b).filter fun x => decide (wI x < b + (k - b) % (ss.length - b)))], ?_⟩
            have hlen : (0 : Int) < ss.length - b ∧ (ss.length : Int) - b < 1073741824 := by omega
            have hmul : ∀ s' : Sto, dMul (.int ((k - b) / (ss.length - b))) (.int (roundL dns r b).length) s' = .ok (.int ((k - b) / (ss.length - b) * (roundL dns r b).length)) s' := fun s' => by
              have := round_len dns r b
              unfold dMul
              simp only
              rw [if_pos (.inr ⟨by omega, by omega⟩)]
            simp only [decide_eq_false hq, ev_var, ev_c, ev_un, ev_bin, ev_anil, ev_acons, ev_fn, ev_tof, ev_tob, ev_tand, ev_tor, ev_tnot, ev_and, ev_or, ev_not, ev_if, ev_chain, ev_true, ev_slice, ev_onone, ev_osome, ev_iseq, ev_irng, ev_ienum, ev_ibin, ev_lc, ev_skip, ev_never, ev_seq, ev_ret, ev_sif, ev_set, ev_expr, ev_asg, ev_par, ev_for, ev_fld, ev_gn, ev_gsnil, ev_gscons, ev_gt, ev_mkfn, ev_bok, ev_berr, ev_bfail, ev_tok, ev_hok, ev_ert, ev_enx, ev_wn, ev_wc, ev_e0, ev_sseq, ev_senum, ev_szip, ev_sltup, ev_ltI, ev_leI, ev_gtI, ev_geI, ev_subI, ev_addI, ev_lenT, List.map_cons, List.map_nil, List.length_cons, List.length_nil, List.cons_append, List.nil_append, List.append_nil, List.getElem?_cons_zero, List.getElem?_cons_succ, List.set_cons_zero, List.set_cons_succ, List.replicate_succ, List.replicate_zero, Nat.reduceAdd, Nat.reduceSub, Nat.reduceEqDiff, reduceIte, Bool.true_eq_false, Bool.false_eq_true, if_true, if_false, fDivmod, if_pos hlen, l1, l2, hmul, count_run q2 (round_ints dns r b) (Nat.le_trans (round_len dns r b) hm), List.append_assoc]
            unfold timesO
            rw [if_neg hq]
            rfl
        · cases h
      · cases h

section
variable {T : Sto} {bk : Nat} {ws rs off : List D} {s : D}
theorem told_times (R : RunOk ws rs off) (hr : risingD rs.length (.tup off) = true) (hb : bookD T (.ref bk) = some (ws, rs)) (h : SOk ws rs s) {k r : Nat} (hk : k < 10 ^ 60) (hrr : r < rs.length) : s_times [.ref bk, s, .int (r : Int), .int (k : Int), .tup off] T = .ok (.int (cnt (didR ws rs off r s) k : Nat)) T := by
  obtain ⟨m, b, ρ⟩ := rho_ex R h
  rw [times_of hb (by simp only [withinD, Bool.and_eq_true, decide_eq_true_eq]; omega) (within60 hk) (runO_all R hr h ρ), times_all ρ k]
end

def b__law_bag : SM := (sSeq (sSet 2 (eC (.int 0)))
    (sSeq (sIf (tOf (eBin dLt (eVar 1) (eFn fLen (aCons (eVar 0) aNil)))) (sSet 2 (eBin dIx (eVar 0) (eVar 1))) sSkip)
    (sSeq (sSet 3 (eC (.int 0)))
    (sSeq (sIf (tOf (eBin dGe (eFn fAbs (aCons (eVar 2) aNil)) (eBin dPow (eC (.int 10)) (eC (.int 18))))) (sSet 3 (eFn fAbs (aCons (eVar 2) aNil))) sSkip)
    (sSeq (sSet 4 (eFn mkLst (aCons (eC (.int 2147483629)) (aCons (eC (.int 2147483587)) (aCons (eC (.int 2147483579)) (aCons (eC (.int 2147483563)) (aCons (eC (.int 2147483549)) (aCons (eC (.int 2147483543)) (aCons (eC (.int 2147483497)) (aCons (eC (.int 2147483489)) aNil))))))))))
    (sRet (eFn mkLst (aCons (eVar 3) (aCons (eBin dMod (eBin dPow (eBin dAdd (eBin dAdd (eBin dMod (eVar 2) (eC (.int 2147483647))) (eBin dMul (eC (.int 104729)) (eVar 1))) (eC (.int 7))) (eC (.int 5))) (eBin dIx (eVar 4) (eBin dMod (eVar 1) (eC (.int 8))))) (aCons (eC (.int 0)) aNil))))))))))
def m__law_bag : Fm := mkFn 2 5 b__law_bag
def s__law_bag : Fm := s_bag
theorem a__law_bag : Arity 2 s__law_bag := nw_ar
theorem t__law_bag : Tells m__law_bag s__law_bag := s_bag_tells rfl

def b__law_take : SM := (sSeq (sIf (tOf (eBin dGt (eBin dIx (eVar 0) (eC (.int 0))) (eC (.int 0)))) (sSeq (sSet 2 (eBin dMod (eBin dIx (eVar 0) (eC (.int 0))) (eVar 1)))
    (sSeq (sAsg (eBin dDiv (eBin dIx (eVar 0) (eC (.int 0))) (eVar 1)) (gSet (eVar 0) (eC (.int 0))))
    (sRet (eVar 2)))) sSkip)
    (sSeq (sAsg (eBin dAdd (eBin dIx (eVar 0) (eC (.int 2))) (eC (.int 1))) (gSet (eVar 0) (eC (.int 2))))
    (sSeq (sAsg (eBin dMod (eBin dAdd (eBin dAdd (eBin dMul (eBin dIx (eVar 0) (eC (.int 1))) (eC (.int 48271))) (eBin dMul (eBin dMul (eC (.int 7919)) (eBin dIx (eVar 0) (eC (.int 2)))) (eBin dIx (eVar 0) (eC (.int 2))))) (eC (.int 11))) (eC (.int 2147483647))) (gSet (eVar 0) (eC (.int 1))))
    (sRet (eBin dMod (eBin dMod (eBin dPow (eBin dDiv (eBin dIx (eVar 0) (eC (.int 1))) (eC (.int 8))) (eC (.int 3))) (eC (.int 2147483629))) (eVar 1))))))
def m__law_take : Fm := mkFn 2 3 b__law_take
def s__law_take : Fm := s_take
theorem a__law_take : Arity 2 s__law_take := wr_ar
theorem t__law_take : Tells m__law_take s__law_take := s_take_tells fun h hc h0 h1 => bag_take b__law_take rfl rfl h hc h0 h1

def b__law_place : SM := (sSeq (sIf (tOf (eBin dLe (eVar 4) (eVar 1))) (sRet (eBin dMod (eBin dSub (eBin dAdd (eVar 2) (eVar 4)) (eVar 1)) (eVar 0))) sSkip)
    (sSeq (sIf (tOf (eBin dLt (eVar 3) (eC (.int 0)))) (sRet (eVar 2)) sSkip)
    (sSeq (sSet 5 (eBin dMod (eBin dSub (eVar 4) (eVar 1)) (eBin dAdd (eVar 0) (eVar 3))))
    (sRet (eIf (tOf (eBin dLe (eVar 5) (eVar 3))) (eVar 2) (eBin dMod (eBin dSub (eBin dAdd (eVar 2) (eVar 5)) (eVar 3)) (eVar 0)))))))
def m__law_place : Fm := mkFn 5 6 b__law_place
def b__law_ten : SM := (sSeq (sSet 1 (eC (.int 1)))
    (sSeq (sFor (iRng (eVar 0)) (gN 2) (sSet 1 (eBin dMul (eVar 1) (eC (.int 10)))))
    (sRet (eVar 1))))
def m__law_ten : Fm := mkFn 1 3 b__law_ten
def b__law_still : SM := (sSeq (sIf (tOf (eVar 2)) (sRet (eIf (tOf (eBin dGt (eVar 1) (eVar 0))) (eVar 0) (eUn dNeg (eC (.int 1))))) sSkip)
    (sSeq (sIf (tOf (eBin (dEq false) (eVar 0) (eC (.int 1)))) (sRet (eC (.int 0))) sSkip)
    (sRet (eIf (tOf (eBin dGe (eVar 1) (eVar 0))) (eBin dSub (eVar 0) (eC (.int 1))) (eUn dNeg (eC (.int 1)))))))
def m__law_still : Fm := mkFn 3 3 b__law_still
def b_law_1 : SM := (sSeq (sSet 22 (eFn m__law_place (aCons (eVar 14) (aCons (eVar 8) (aCons (eVar 17) (aCons (eVar 21) (aCons (eVar 9) aNil)))))))
    (sIf (tOf (eBin (dEq true) (eBin dIx (eFn (via [.at 0, .at 1, .at 2, .df (.tup [])] s_state_at) (aApp (aCons (eVar 7) (aCons (eVar 20) (aCons (eVar 9) aNil))) aNil)) (eC (.int 0))) (eFn mkTup (aCons (eVar 22) aNil)))) (sRet (eC (.bl false))) sSkip))
def b_law_2 : SM := (sSeq (sSet 2 (eFn s__law_bag (aCons (eVar 0) (aCons (eVar 1) aNil))))
    (sSeq (sPar3 14 15 16 (eBin dAdd (eC (.int 2)) (eFn s__law_take (aCons (eVar 2) (aCons (eC (.int 3)) aNil)))) (eBin dAdd (eC (.int 1)) (eFn s__law_take (aCons (eVar 2) (aCons (eC (.int 3)) aNil)))) (eFn s__law_take (aCons (eVar 2) (aCons (eC (.int 4)) aNil))))
    (sSeq (sSet 3 (eBin (dEq false) (eFn s__law_take (aCons (eVar 2) (aCons (eC (.int 2)) aNil))) (eC (.int 0))))
    (sSeq (sPar3 17 18 19 (eFn s__law_take (aCons (eVar 2) (aCons (eVar 14) aNil))) (eFn s__law_take (aCons (eVar 2) (aCons (eVar 14) aNil))) (eFn fInt (aCons (eVar 3) aNil)))
    (sSeq (sSet 4 (eBin dAdd (eFn mkLst (aCons (eFn mkTup (aCons (eVar 19) (aCons (eVar 15) aNil))) aNil)) (eBin dMul2 (eFn mkLst (aCons (eFn mkTup (aCons (eBin dSub (eC (.int 1)) (eVar 19)) (aCons (eVar 16) aNil))) aNil)) (eFn fInt (aCons (eBin dGt (eVar 16) (eC (.int 0))) aNil)))))
    (sSeq (sSet 5 (eFn mkTup (aCons (eFn mkTup (aCons (eFn mkTup (aCons (eC (.str "is")) (aCons (eC (.int 0)) (aCons (eVar 17) aNil)))) aNil)) (aCons (eFn mkTup aNil) (aCons (eFn fTup (aCons (eFn fSortG (aCons (eVar 4) aNil)) aNil)) (aCons (eFn mkTup aNil) aNil))))))
    (sSeq (sSet 6 (eFn mkTup (aCons (eFn mkTup aNil) (aCons (eFn mkTup (aCons (eFn mkTup (aCons (eC (.str "turn")) (aCons (eC (.int 0)) (aCons (eC (.int 1)) aNil)))) aNil)) (aCons (eFn mkTup aNil) (aCons (eFn mkTup aNil) aNil))))))
    (sSeq (sSet 7 (eFn (mkIns "Book" s_Book_init) (aCons (eFn mkTup (aCons (eVar 14) aNil)) (aCons (eIf (tOf (eVar 3)) (eFn mkTup (aCons (eVar 5) (aCons (eVar 6) aNil))) (eFn mkTup (aCons (eVar 6) (aCons (eVar 5) aNil)))) aNil))))
    (sSeq (sPar 20 21 (eFn s_begun (aCons (eVar 7) (aCons (eFn mkTup (aCons (eVar 18) aNil)) aNil))) (eFn m__law_still (aCons (eVar 15) (aCons (eVar 16) (aCons (eVar 3) aNil)))))
    (sSeq (sSet 8 (eBin dMod (eBin dSub (eVar 17) (eVar 18)) (eVar 14)))
    (sSeq (sSet 8 (eBin dAdd (eVar 8) (eBin dMul (eVar 14) (eFn fInt (aCons (eAnd (eBin (dEq false) (eVar 8) (eC (.int 0))) (eNot (eVar 3))) aNil)))))
    (sSeq (sFor (iSeq (eBin dAdd (eFn fLRg (aCons (eC (.int 30)) aNil)) (cLc (iRng (eC (.int 3))) [23] (gN 23) tTrue (eBin dSub (eFn m__law_ten (aCons (eFn s__law_take (aCons (eVar 2) (aCons (eC (.int 60)) aNil))) aNil)) (eC (.int 1)))))) (gN 9) b_law_1)
    (sSeq (sIf (tOf (eBin (dIsN true) (eFn (via [.at 0, .at 1, .df (.tup [])] s_quiet_from) (aApp (aCons (eVar 7) (aCons (eVar 20) aNil)) aNil)) (eC .non))) (sRet (eC (.bl false))) sSkip)
    (sSeq (sSet 10 (eBin dAdd (eVar 14) (eFn (fI2 iMax) (aCons (eC (.int 0)) (aCons (eVar 21) aNil)))))
    (sSeq (sIf (tAnd (tOf (eBin dGe (eVar 21) (eC (.int 0)))) (tOf (eBin (dEq true) (eBin dIx (eFn (via [.at 0, .at 1, .df (.tup [])] s_round_of) (aApp (aCons (eVar 7) (aCons (eVar 20) aNil)) aNil)) (eC (.int 1))) (eBin dAdd (eVar 10) (eBin dMul (eVar 10) (eFn fInt (aCons (eBin dGt (eVar 16) (eVar 10)) aNil))))))) (sRet (eC (.bl false))) sSkip)
    (sSeq (sSet 11 (eBin dMul (eC (.int 1000)) (eVar 10)))
    (sSeq (sSet 12 (eIf (tOf (eBin dGe (eVar 21) (eC (.int 0)))) (eBin dMul (eC (.int 1000)) (eVar 14)) (eC (.int 0))))
    (sSeq (sSet 13 (eFn (via [.at 0, .at 1, .at 2, .at 3, .df (.tup [])] s_times) (aApp (aCons (eVar 7) (aCons (eVar 20) (aCons (eVar 19) (aCons (eC (.int 40)) aNil)))) aNil)))
    (sIf (tOf (eBin (dEq true) (eFn (via [.at 0, .at 1, .at 2, .at 3, .df (.tup [])] s_times) (aApp (aCons (eVar 7) (aCons (eVar 20) (aCons (eVar 19) (aCons (eBin dAdd (eC (.int 40)) (eVar 11)) aNil)))) aNil)) (eBin dAdd (eVar 13) (eVar 12)))) (sRet (eC (.bl false))) sSkip)))))))))))))))))))
def b_law : SM := (sSeq (sFor (iRng (eFn (fI2 iMax) (aCons (eC (.int 4)) (aCons (eFn (fI2 iMin) (aCons (eC (.int 12)) (aCons (eFn fLen (aCons (eVar 0) aNil)) aNil))) aNil)))) (gN 1) b_law_2)
    (sRet (eC (.bl true))))
def m_law : Fm := mkFn 1 24 b_law
end Hd
set_option Elab.async false
set_option linter.all false
set_option maxRecDepth 100000
set_option maxHeartbeats 4000000
namespace Hd
open PySem PySem.Spec PyProof.Rows L2 U
section
variable {P : Program} {w : World} {K : PySem.W.Frag} {mg : Str → Option Value} {base : Heap}
theorem SC_is_whole : FnScope ["thing"] ["thing"] (defScope (top 14)) := ⟨rfl, rfl, rfl, by decide +kernel, rfl, by decide +kernel, by decide +kernel⟩
set_option maxHeartbeats 4000000 in
theorem F_is_whole (T : Txt K mg) : Fn P w K mg base 1 "is_whole" 1 s_is_whole := by
  obtain ⟨fd, F⟩ := T.f_is_whole
  have Z : Fn P w K mg base 1 "is_whole" 1 m_is_whole := ⟨⟨_, fd, ["thing"], fn_F F SC_is_whole (fun cdv A outer s H E hr => by
      have tk := takes_of (X := cxOf (L2.CX P w) P w K mg base ["thing"] "is_whole" (defScope (top 14)) (He.fAd K ("is_whole", none)) cdv A outer s H E) (E := E) rfl rfl rfl rfl
      exact (ss_one (s_ret (e_and (e_isi "int" T.b_isinstance T.b_int (e_var 0)) (e_one (e_not (e_isi "bool" T.b_isinstance T.b_bool (e_var 0)))))))), T.g_is_whole, F.kp, F.bindsN fun _ _ _ _ _ _ us hl => match us, hl with | [_], _ => rfl⟩, mkFn_ar⟩
  exact U.Fn.by Z t_is_whole a_is_whole
theorem SC_is_within : FnScope ["thing", "least", "most"] ["thing", "least", "most"] (defScope (top 15)) := ⟨rfl, rfl, rfl, by decide +kernel, rfl, by decide +kernel, by decide +kernel⟩
set_option maxHeartbeats 4000000 in
theorem F_is_within (T : Txt K mg) : Fn P w K mg base 2 "is_within" 3 s_is_within := by
  obtain ⟨fd, F⟩ := T.f_is_within
  have Z : Fn P w K mg base 2 "is_within" 3 m_is_within := ⟨⟨_, fd, ["thing", "least", "most"], fn_F F SC_is_within (fun cdv A outer s H E hr => by
      have tk := takes_of (X := cxOf (L2.CX P w) P w K mg base ["thing", "least", "most"] "is_within" (defScope (top 15)) (He.fAd K ("is_within", none)) cdv A outer s H E) (E := E) rfl rfl rfl rfl
      exact (ss_one (s_ret (e_and (e_call (F_is_whole T) tk (hr.mono (by decide)) (a_cons (e_var 0) a_nil)) (e_one (e_chain o_le o_le (e_var 1) (e_var 0) (e_var 2))))))), T.g_is_within, F.kp, F.bindsN fun _ _ _ _ _ _ us hl => match us, hl with | [_, _, _], _ => rfl⟩, mkFn_ar⟩
  exact U.Fn.by Z t_is_within a_is_within
theorem SC_is_below : FnScope ["thing", "many"] ["thing", "many"] (defScope (top 16)) := ⟨rfl, rfl, rfl, by decide +kernel, rfl, by decide +kernel, by decide +kernel⟩
set_option maxHeartbeats 4000000 in
theorem F_is_below (T : Txt K mg) : Fn P w K mg base 3 "is_below" 2 s_is_below := by
  obtain ⟨fd, F⟩ := T.f_is_below
  have Z : Fn P w K mg base 3 "is_below" 2 m_is_below := ⟨⟨_, fd, ["thing", "many"], fn_F F SC_is_below (fun cdv A outer s H E hr => by
      have tk := takes_of (X := cxOf (L2.CX P w) P w K mg base ["thing", "many"] "is_below" (defScope (top 16)) (He.fAd K ("is_below", none)) cdv A outer s H E) (E := E) rfl rfl rfl rfl
      exact (ss_one (s_ret (e_call (F_is_within T) tk (hr.mono (by decide)) (a_cons (e_var 0) (a_cons e_int (a_cons (e_op o_sub (e_var 1) e_int) a_nil))))))), T.g_is_below, F.kp, F.bindsN fun _ _ _ _ _ _ us hl => match us, hl with | [_, _], _ => rfl⟩, mkFn_ar⟩
  exact U.Fn.by Z t_is_below a_is_below
theorem SC_is_rising : FnScope ["thing", "many", "one", "other", "number"] ["thing", "many"] (defScope (top 17)) := ⟨rfl, rfl, rfl, by decide +kernel, rfl, by decide +kernel, by decide +kernel⟩
set_option maxHeartbeats 4000000 in
theorem F_is_rising (T : Txt K mg) : Fn P w K mg base 4 "is_rising" 2 s_is_rising := by
  obtain ⟨fd, F⟩ := T.f_is_rising
  have Z : Fn P w K mg base 4 "is_rising" 2 m_is_rising := ⟨⟨_, fd, ["thing", "many"], fn_F F SC_is_rising (fun cdv A outer s H E hr => by
      have tk := takes_of (X := cxOf (L2.CX P w) P w K mg base ["thing", "many", "one", "other", "number"] "is_rising" (defScope (top 17)) (He.fAd K ("is_rising", none)) cdv A outer s H E) (E := E) rfl rfl rfl rfl
      exact (ss_cons (s_if (t_w (w_or (t_not (t_val (e_isi "tuple" T.b_isinstance T.b_tuple (e_var 0)))) (w_or1 (t_not (t_val (e_all rfl T.b_all (e_lc [("number", 4)] rfl SC_is_rising.nd (go_name 4) (i_seq (e_var 0)) (blkOk_by (N := ["thing", "many", "one", "other", "number"]) (sc := defScope (top 17)) (by decide +kernel)) (fun _ _ _ _ _ => (pg_name (i := 4) SC_is_rising.nd rfl (by first | exact Or.inl rfl | exact Or.inr rfl))) (fun _ _ _ _ _ => c_yes) (fun _ _ _ _ _ => (e_call (F_is_below T) takes0 (hr.mono (by decide)) (a_cons (e_var 4) (a_cons (e_var 1) a_nil))))))))))) (ss_one (s_ret e_bl)) ss_nil)
    (ss_one (s_ret (e_all rfl T.b_all (e_lc [("one", 2), ("other", 3)] rfl SC_is_rising.nd (go_tup 2 (gos_cons (go_name 2) (gos_cons (go_name 3) gos_nil))) (i_zip T.b_zip (e_var 0) (e_slice (e_var 0) (p_some e_int) p_none)) (blkOk_by (N := ["thing", "many", "one", "other", "number"]) (sc := defScope (top 17)) (by decide +kernel)) (fun _ _ _ _ _ => (pg_tup rfl (pgs_cons (pg_name (i := 2) SC_is_rising.nd rfl (by first | exact Or.inl rfl | exact Or.inr rfl)) (pgs_cons (pg_name (i := 3) SC_is_rising.nd rfl (by first | exact Or.inl rfl | exact Or.inr rfl)) pgs_nil)))) (fun _ _ _ _ _ => c_yes) (fun _ _ _ _ _ => (e_cmp o_lt (e_var 2) (e_var 3))))))))), T.g_is_rising, F.kp, F.bindsN fun _ _ _ _ _ _ us hl => match us, hl with | [_, _], _ => rfl⟩, mkFn_ar⟩
  exact U.Fn.by Z t_is_rising a_is_rising
theorem SC_is_wheels : FnScope ["thing", "multiplied", "places"] ["thing"] (defScope (top 18)) := ⟨rfl, rfl, rfl, by decide +kernel, rfl, by decide +kernel, by decide +kernel⟩
set_option maxHeartbeats 4000000 in
theorem F_is_wheels (T : Txt K mg) : Fn P w K mg base 3 "is_wheels" 1 s_is_wheels := by
  obtain ⟨fd, F⟩ := T.f_is_wheels
  have Z : Fn P w K mg base 3 "is_wheels" 1 m_is_wheels := ⟨⟨_, fd, ["thing"], fn_F F SC_is_wheels (fun cdv A outer s H E hr => by
      have tk := takes_of (X := cxOf (L2.CX P w) P w K mg base ["thing", "multiplied", "places"] "is_wheels" (defScope (top 18)) (He.fAd K ("is_wheels", none)) cdv A outer s H E) (E := E) rfl rfl rfl rfl
      exact (ss_cons (s_if (t_w (w_or (t_not (t_val (e_isi "tuple" T.b_isinstance T.b_tuple (e_var 0)))) (w_or1 (t_not (t_chain o_le o_le e_int (e_len (x := "len") T.b_len (e_var 0)) (e_gint T.i_MOST_WHEELS)))))) (ss_one (s_ret e_bl)) ss_nil)
    (ss_cons (s_if (t_not (t_val (e_all rfl T.b_all (e_lc [("places", 2)] rfl SC_is_wheels.nd (go_name 2) (i_seq (e_var 0)) (blkOk_by (N := ["thing", "multiplied", "places"]) (sc := defScope (top 18)) (by decide +kernel)) (fun _ _ _ _ _ => (pg_name (i := 2) SC_is_wheels.nd rfl (by first | exact Or.inl rfl | exact Or.inr rfl))) (fun _ _ _ _ _ => c_yes) (fun _ _ _ _ _ => (e_call (F_is_within T) takes0 (hr.mono (by decide)) (a_cons (e_var 2) (a_cons (e_gint T.i_LEAST_PLACES) (a_cons (e_gint T.i_MOST_PLACES) a_nil))))))))) (ss_one (s_ret e_bl)) ss_nil)
    (ss_cons (s_set 1 e_int SC_is_wheels.nd)
    (ss_cons (s_for (passes_of rfl) rfl (i_seq (e_var 0)) (g_name 2 SC_is_wheels.nd) (ss_one (s_set 1 (e_op o_mul (e_var 1) (e_var 2)) SC_is_wheels.nd)))
    (ss_one (s_ret (e_cmp o_le (e_var 1) (e_gint T.i_MOST_VALUES))))))))), T.g_is_wheels, F.kp, F.bindsN fun _ _ _ _ _ _ us hl => match us, hl with | [_], _ => rfl⟩, mkFn_ar⟩
  exact U.Fn.by Z t_is_wheels a_is_wheels
theorem SC_is_values : FnScope ["wheels", "thing", "place", "places"] ["wheels", "thing"] (defScope (top 19)) := ⟨rfl, rfl, rfl, by decide +kernel, rfl, by decide +kernel, by decide +kernel⟩
set_option maxHeartbeats 4000000 in
theorem F_is_values (T : Txt K mg) : Fn P w K mg base 4 "is_values" 2 s_is_values := by
  obtain ⟨fd, F⟩ := T.f_is_values
  have Z : Fn P w K mg base 4 "is_values" 2 m_is_values := ⟨⟨_, fd, ["wheels", "thing"], fn_F F SC_is_values (fun cdv A outer s H E hr => by
      have tk := takes_of (X := cxOf (L2.CX P w) P w K mg base ["wheels", "thing", "place", "places"] "is_values" (defScope (top 19)) (He.fAd K ("is_values", none)) cdv A outer s H E) (E := E) rfl rfl rfl rfl
      exact (ss_cons (s_if (t_w (w_or (t_not (t_val (e_isi "tuple" T.b_isinstance T.b_tuple (e_var 1)))) (w_or1 (t_cmp (o_ne hr) (e_len (x := "len") T.b_len (e_var 1)) (e_len (x := "len") T.b_len (e_var 0)))))) (ss_one (s_ret e_bl)) ss_nil)
    (ss_one (s_ret (e_all rfl T.b_all (e_lc [("place", 2), ("places", 3)] rfl SC_is_values.nd (go_tup 2 (gos_cons (go_name 2) (gos_cons (go_name 3) gos_nil))) (i_zip T.b_zip (e_var 1) (e_var 0)) (blkOk_by (N := ["wheels", "thing", "place", "places"]) (sc := defScope (top 19)) (by decide +kernel)) (fun _ _ _ _ _ => (pg_tup rfl (pgs_cons (pg_name (i := 2) SC_is_values.nd rfl (by first | exact Or.inl rfl | exact Or.inr rfl)) (pgs_cons (pg_name (i := 3) SC_is_values.nd rfl (by first | exact Or.inl rfl | exact Or.inr rfl)) pgs_nil)))) (fun _ _ _ _ _ => c_yes) (fun _ _ _ _ _ => (e_call (F_is_below T) takes0 (hr.mono (by decide)) (a_cons (e_var 2) (a_cons (e_var 3) a_nil)))))))))), T.g_is_values, F.kp, F.bindsN fun _ _ _ _ _ _ us hl => match us, hl with | [_, _], _ => rfl⟩, mkFn_ar⟩
  exact U.Fn.by Z t_is_values a_is_values
theorem SC_is_left : FnScope ["many", "thing", "beats"] ["many", "thing"] (defScope (top 20)) := ⟨rfl, rfl, rfl, by decide +kernel, rfl, by decide +kernel, by decide +kernel⟩
set_option maxHeartbeats 4000000 in
theorem F_is_left (T : Txt K mg) : Fn P w K mg base 3 "is_left" 2 s_is_left := by
  obtain ⟨fd, F⟩ := T.f_is_left
  have Z : Fn P w K mg base 3 "is_left" 2 m_is_left := ⟨⟨_, fd, ["many", "thing"], fn_F F SC_is_left (fun cdv A outer s H E hr => by
      have tk := takes_of (X := cxOf (L2.CX P w) P w K mg base ["many", "thing", "beats"] "is_left" (defScope (top 20)) (He.fAd K ("is_left", none)) cdv A outer s H E) (E := E) rfl rfl rfl rfl
      exact (ss_cons (s_if (t_w (w_or (t_not (t_val (e_isi "tuple" T.b_isinstance T.b_tuple (e_var 1)))) (w_or1 (t_cmp (o_ne hr) (e_len (x := "len") T.b_len (e_var 1)) (e_var 0))))) (ss_one (s_ret e_bl)) ss_nil)
    (ss_one (s_ret (e_all rfl T.b_all (e_lc [("beats", 2)] rfl SC_is_left.nd (go_name 2) (i_seq (e_var 1)) (blkOk_by (N := ["many", "thing", "beats"]) (sc := defScope (top 20)) (by decide +kernel)) (fun _ _ _ _ _ => (pg_name (i := 2) SC_is_left.nd rfl (by first | exact Or.inl rfl | exact Or.inr rfl))) (fun _ _ _ _ _ => c_yes) (fun _ _ _ _ _ => (e_call (F_is_within T) takes0 (hr.mono (by decide)) (a_cons (e_var 2) (a_cons e_int (a_cons (e_gint T.i_LONGEST_LEFT) a_nil))))))))))), T.g_is_left, F.kp, F.bindsN fun _ _ _ _ _ _ us hl => match us, hl with | [_, _], _ => rfl⟩, mkFn_ar⟩
  exact U.Fn.by Z t_is_left a_is_left
theorem SC_is_state_of : FnScope ["book", "thing"] ["book", "thing"] (defScope (top 21)) := ⟨rfl, rfl, rfl, by decide +kernel, rfl, by decide +kernel, by decide +kernel⟩
set_option maxHeartbeats 4000000 in
theorem F_is_state_of (T : Txt K mg) : Fn P w K mg base 5 "is_state_of" 2 s_is_state_of := by
  obtain ⟨fd, F⟩ := T.f_is_state_of
  have Z : Fn P w K mg base 5 "is_state_of" 2 m_is_state_of := ⟨⟨_, fd, ["book", "thing"], fn_F F SC_is_state_of (fun cdv A outer s H E hr => by
      have tk := takes_of (X := cxOf (L2.CX P w) P w K mg base ["book", "thing"] "is_state_of" (defScope (top 21)) (He.fAd K ("is_state_of", none)) cdv A outer s H E) (E := E) rfl rfl rfl rfl
      exact (ss_cons (s_if (t_w (w_or (t_not (t_val (e_isi "tuple" T.b_isinstance T.b_tuple (e_var 1)))) (w_or1 (t_cmp (o_ne hr) (e_len (x := "len") T.b_len (e_var 1)) e_int)))) (ss_one (s_ret e_bl)) ss_nil)
    (ss_one (s_ret (e_and (e_call (F_is_values T) tk (hr.mono (by decide)) (a_cons (e_fld "Book" "wheels" T.c_Book T.n_Book_wheels (e_var 0)) (a_cons (e_ix (e_var 1) e_int) a_nil))) (e_one (e_call (F_is_left T) tk (hr.mono (by decide)) (a_cons (e_len (x := "len") T.b_len (e_fld "Book" "rules" T.c_Book T.n_Book_rules (e_var 0))) (a_cons (e_ix (e_var 1) e_int) a_nil))))))))), T.g_is_state_of, F.kp, F.bindsN fun _ _ _ _ _ _ us hl => match us, hl with | [_, _], _ => rfl⟩, mkFn_ar⟩
  exact U.Fn.by Z t_is_state_of a_is_state_of
theorem SC_is_beats : FnScope ["thing", "least"] ["thing", "least"] (defScope (top 22)) := ⟨rfl, rfl, rfl, by decide +kernel, rfl, by decide +kernel, by decide +kernel⟩
set_option maxHeartbeats 4000000 in
theorem F_is_beats (T : Txt K mg) : Fn P w K mg base 3 "is_beats" 2 s_is_beats := by
  obtain ⟨fd, F⟩ := T.f_is_beats
  have Z : Fn P w K mg base 3 "is_beats" 2 m_is_beats := ⟨⟨_, fd, ["thing", "least"], fn_F F SC_is_beats (fun cdv A outer s H E hr => by
      have tk := takes_of (X := cxOf (L2.CX P w) P w K mg base ["thing", "least"] "is_beats" (defScope (top 22)) (He.fAd K ("is_beats", none)) cdv A outer s H E) (E := E) rfl rfl rfl rfl
      exact (ss_one (s_ret (e_call (F_is_within T) tk (hr.mono (by decide)) (a_cons (e_var 0) (a_cons (e_var 1) (a_cons (e_gint T.i_GREATEST_BEAT) a_nil))))))), T.g_is_beats, F.kp, F.bindsN fun _ _ _ _ _ _ us hl => match us, hl with | [_, _], _ => rfl⟩, mkFn_ar⟩
  exact U.Fn.by Z t_is_beats a_is_beats
theorem SC_want_state : FnScope ["book", "thing"] ["book", "thing"] (defScope (top 23)) := ⟨rfl, rfl, rfl, by decide +kernel, rfl, by decide +kernel, by decide +kernel⟩
set_option maxHeartbeats 4000000 in
theorem F_want_state (T : Txt K mg) : Fn P w K mg base 6 "want_state" 2 s_want_state := by
  obtain ⟨fd, F⟩ := T.f_want_state
  have Z : Fn P w K mg base 6 "want_state" 2 m_want_state := ⟨⟨_, fd, ["book", "thing"], fn_F F SC_want_state (fun cdv A outer s H E hr => by
      have tk := takes_of (X := cxOf (L2.CX P w) P w K mg base ["book", "thing"] "want_state" (defScope (top 23)) (He.fAd K ("want_state", none)) cdv A outer s H E) (E := E) rfl rfl rfl rfl
      exact (ss_one (s_if (t_not (t_val (e_call (F_is_state_of T) tk (hr.mono (by decide)) (a_cons (e_var 0) (a_cons (e_var 1) a_nil))))) (ss_one s_never) ss_nil))), T.g_want_state, F.kp, F.bindsN fun _ _ _ _ _ _ us hl => match us, hl with | [_, _], _ => rfl⟩, mkFn_ar⟩
  exact U.Fn.by Z t_want_state a_want_state
theorem SC_want_rule : FnScope ["book", "thing"] ["book", "thing"] (defScope (top 24)) := ⟨rfl, rfl, rfl, by decide +kernel, rfl, by decide +kernel, by decide +kernel⟩
set_option maxHeartbeats 4000000 in
theorem F_want_rule (T : Txt K mg) : Fn P w K mg base 4 "want_rule" 2 s_want_rule := by
  obtain ⟨fd, F⟩ := T.f_want_rule
  have Z : Fn P w K mg base 4 "want_rule" 2 m_want_rule := ⟨⟨_, fd, ["book", "thing"], fn_F F SC_want_rule (fun cdv A outer s H E hr => by
      have tk := takes_of (X := cxOf (L2.CX P w) P w K mg base ["book", "thing"] "want_rule" (defScope (top 24)) (He.fAd K ("want_rule", none)) cdv A outer s H E) (E := E) rfl rfl rfl rfl
      exact (ss_one (s_if (t_not (t_val (e_call (F_is_below T) tk (hr.mono (by decide)) (a_cons (e_var 1) (a_cons (e_len (x := "len") T.b_len (e_fld "Book" "rules" T.c_Book T.n_Book_rules (e_var 0))) a_nil))))) (ss_one s_never) ss_nil))), T.g_want_rule, F.kp, F.bindsN fun _ _ _ _ _ _ us hl => match us, hl with | [_, _], _ => rfl⟩, mkFn_ar⟩
  exact U.Fn.by Z t_want_rule a_want_rule
theorem SC_want_off : FnScope ["book", "thing"] ["book", "thing"] (defScope (top 25)) := ⟨rfl, rfl, rfl, by decide +kernel, rfl, by decide +kernel, by decide +kernel⟩
set_option maxHeartbeats 4000000 in
theorem F_want_off (T : Txt K mg) : Fn P w K mg base 5 "want_off" 2 s_want_off := by
  obtain ⟨fd, F⟩ := T.f_want_off
  have Z : Fn P w K mg base 5 "want_off" 2 m_want_off := ⟨⟨_, fd, ["book", "thing"], fn_F F SC_want_off (fun cdv A outer s H E hr => by
      have tk := takes_of (X := cxOf (L2.CX P w) P w K mg base ["book", "thing"] "want_off" (defScope (top 25)) (He.fAd K ("want_off", none)) cdv A outer s H E) (E := E) rfl rfl rfl rfl
      exact (ss_one (s_if (t_not (t_val (e_call (F_is_rising T) tk (hr.mono (by decide)) (a_cons (e_var 1) (a_cons (e_len (x := "len") T.b_len (e_fld "Book" "rules" T.c_Book T.n_Book_rules (e_var 0))) a_nil))))) (ss_one s_never) ss_nil))), T.g_want_off, F.kp, F.bindsN fun _ _ _ _ _ _ us hl => match us, hl with | [_, _], _ => rfl⟩, mkFn_ar⟩
  exact U.Fn.by Z t_want_off a_want_off
theorem SC_want_beats : FnScope ["thing", "least"] ["thing", "least"] (defScope (top 26)) := ⟨rfl, rfl, rfl, by decide +kernel, rfl, by decide +kernel, by decide +kernel⟩
set_option maxHeartbeats 4000000 in
theorem F_want_beats (T : Txt K mg) : Fn P w K mg base 4 "want_beats" 2 s_want_beats := by
  obtain ⟨fd, F⟩ := T.f_want_beats
  have Z : Fn P w K mg base 4 "want_beats" 2 m_want_beats := ⟨⟨_, fd, ["thing", "least"], fn_F F SC_want_beats (fun cdv A outer s H E hr => by
      have tk := takes_of (X := cxOf (L2.CX P w) P w K mg base ["thing", "least"] "want_beats" (defScope (top 26)) (He.fAd K ("want_beats", none)) cdv A outer s H E) (E := E) rfl rfl rfl rfl
      exact (ss_one (s_if (t_not (t_val (e_call (F_is_beats T) tk (hr.mono (by decide)) (a_cons (e_var 0) (a_cons (e_var 1) a_nil))))) (ss_one s_never) ss_nil))), T.g_want_beats, F.kp, F.bindsN fun _ _ _ _ _ _ us hl => match us, hl with | [_, _], _ => rfl⟩, mkFn_ar⟩
  exact U.Fn.by Z t_want_beats a_want_beats
theorem SC_is_row : FnScope ["thing", "most"] ["thing", "most"] (defScope (top 36)) := ⟨rfl, rfl, rfl, by decide +kernel, rfl, by decide +kernel, by decide +kernel⟩
set_option maxHeartbeats 4000000 in
theorem F_is_row (T : Txt K mg) : Fn P w K mg base 1 "is_row" 2 s_is_row := by
  obtain ⟨fd, F⟩ := T.f_is_row
  have Z : Fn P w K mg base 1 "is_row" 2 m_is_row := ⟨⟨_, fd, ["thing", "most"], fn_F F SC_is_row (fun cdv A outer s H E hr => by
      have tk := takes_of (X := cxOf (L2.CX P w) P w K mg base ["thing", "most"] "is_row" (defScope (top 36)) (He.fAd K ("is_row", none)) cdv A outer s H E) (E := E) rfl rfl rfl rfl
      exact (ss_one (s_ret (e_and (e_isi "tuple" T.b_isinstance T.b_tuple (e_var 0)) (e_one (e_cmp o_le (e_len (x := "len") T.b_len (e_var 0)) (e_var 1))))))), T.g_is_row, F.kp, F.bindsN fun _ _ _ _ _ _ us hl => match us, hl with | [_, _], _ => rfl⟩, mkFn_ar⟩
  exact U.Fn.by Z t_is_row a_is_row
theorem SC_is_moment : FnScope ["many", "thing"] ["many", "thing"] (defScope (top 39)) := ⟨rfl, rfl, rfl, by decide +kernel, rfl, by decide +kernel, by decide +kernel⟩
set_option maxHeartbeats 4000000 in
theorem F_is_moment (T : Txt K mg) : Fn P w K mg base 4 "is_moment" 2 s_is_moment := by
  obtain ⟨fd, F⟩ := T.f_is_moment
  have Z : Fn P w K mg base 4 "is_moment" 2 m_is_moment := ⟨⟨_, fd, ["many", "thing"], fn_F F SC_is_moment (fun cdv A outer s H E hr => by
      have tk := takes_of (X := cxOf (L2.CX P w) P w K mg base ["many", "thing"] "is_moment" (defScope (top 39)) (He.fAd K ("is_moment", none)) cdv A outer s H E) (E := E) rfl rfl rfl rfl
      exact (ss_cons (s_if (t_w (w_or (t_not (t_val (e_isi "tuple" T.b_isinstance T.b_tuple (e_var 1)))) (w_or1 (t_cmp (o_ne hr) (e_len (x := "len") T.b_len (e_var 1)) e_int)))) (ss_one (s_ret e_bl)) ss_nil)
    (ss_one (s_ret (e_and (e_cmp (o_in hr) (e_ix (e_var 1) e_int) (e_tup (a_cons e_str (a_cons e_str a_nil)))) (e_one (e_call (F_is_below T) tk (hr.mono (by decide)) (a_cons (e_ix (e_var 1) e_int) (a_cons (e_var 0) a_nil))))))))), T.g_is_moment, F.kp, F.bindsN fun _ _ _ _ _ _ us hl => match us, hl with | [_, _], _ => rfl⟩, mkFn_ar⟩
  exact U.Fn.by Z t_is_moment a_is_moment
theorem SC_is_spot : FnScope ["wheels", "thing", "words", "word", "wheel", "place"] ["wheels", "thing", "words"] (defScope (top 41)) := ⟨rfl, rfl, rfl, by decide +kernel, rfl, by decide +kernel, by decide +kernel⟩
set_option maxHeartbeats 4000000 in
theorem F_is_spot (T : Txt K mg) : Fn P w K mg base 4 "is_spot" 3 s_is_spot := by
  obtain ⟨fd, F⟩ := T.f_is_spot
  have Z : Fn P w K mg base 4 "is_spot" 3 m_is_spot := ⟨⟨_, fd, ["wheels", "thing", "words"], fn_F F SC_is_spot (fun cdv A outer s H E hr => by
      have tk := takes_of (X := cxOf (L2.CX P w) P w K mg base ["wheels", "thing", "words", "word", "wheel", "place"] "is_spot" (defScope (top 41)) (He.fAd K ("is_spot", none)) cdv A outer s H E) (E := E) rfl rfl rfl rfl
      exact (ss_cons (s_if (t_w (w_or (t_not (t_val (e_isi "tuple" T.b_isinstance T.b_tuple (e_var 1)))) (w_or1 (t_cmp (o_ne hr) (e_len (x := "len") T.b_len (e_var 1)) e_int)))) (ss_one (s_ret e_bl)) ss_nil)
    (ss_cons (s_asg (e_var 1) (g_tup 3 rfl (gs_cons (g_name 3 SC_is_spot.nd) (gs_cons (g_name 4 SC_is_spot.nd) (gs_cons (g_name 5 SC_is_spot.nd) gs_nil)))))
    (ss_one (s_ret (e_and (e_cmp (o_in hr) (e_var 3) (e_var 2)) (e_and (e_call (F_is_below T) tk (hr.mono (by decide)) (a_cons (e_var 4) (a_cons (e_len (x := "len") T.b_len (e_var 0)) a_nil))) (e_one (e_call (F_is_below T) tk (hr.mono (by decide)) (a_cons (e_var 5) (a_cons (e_ix (e_var 0) (e_var 4)) a_nil))))))))))), T.g_is_spot, F.kp, F.bindsN fun _ _ _ _ _ _ us hl => match us, hl with | [_, _, _], _ => rfl⟩, mkFn_ar⟩
  exact U.Fn.by Z t_is_spot a_is_spot
theorem SC_is_condition : FnScope ["wheels", "many", "thing"] ["wheels", "many", "thing"] (defScope (top 38)) := ⟨rfl, rfl, rfl, by decide +kernel, rfl, by decide +kernel, by decide +kernel⟩
set_option maxHeartbeats 4000000 in
theorem F_is_condition (T : Txt K mg) : Fn P w K mg base 5 "is_condition" 3 s_is_condition := by
  obtain ⟨fd, F⟩ := T.f_is_condition
  have Z : Fn P w K mg base 5 "is_condition" 3 m_is_condition := ⟨⟨_, fd, ["wheels", "many", "thing"], fn_F F SC_is_condition (fun cdv A outer s H E hr => by
      have tk := takes_of (X := cxOf (L2.CX P w) P w K mg base ["wheels", "many", "thing"] "is_condition" (defScope (top 38)) (He.fAd K ("is_condition", none)) cdv A outer s H E) (E := E) rfl rfl rfl rfl
      exact (ss_one (s_ret (e_or (e_call (F_is_spot T) tk (hr.mono (by decide)) (a_cons (e_var 0) (a_cons (e_var 2) (a_cons (e_tup (a_cons e_str (a_cons e_str (a_cons e_str a_nil)))) a_nil)))) (e_one (e_call (F_is_moment T) tk (hr.mono (by decide)) (a_cons (e_var 1) (a_cons (e_var 2) a_nil)))))))), T.g_is_condition, F.kp, F.bindsN fun _ _ _ _ _ _ us hl => match us, hl with | [_, _, _], _ => rfl⟩, mkFn_ar⟩
  exact U.Fn.by Z t_is_condition a_is_condition
theorem SC_is_change : FnScope ["wheels", "thing"] ["wheels", "thing"] (defScope (top 40)) := ⟨rfl, rfl, rfl, by decide +kernel, rfl, by decide +kernel, by decide +kernel⟩
set_option maxHeartbeats 4000000 in
theorem F_is_change (T : Txt K mg) : Fn P w K mg base 5 "is_change" 2 s_is_change := by
  obtain ⟨fd, F⟩ := T.f_is_change
  have Z : Fn P w K mg base 5 "is_change" 2 m_is_change := ⟨⟨_, fd, ["wheels", "thing"], fn_F F SC_is_change (fun cdv A outer s H E hr => by
      have tk := takes_of (X := cxOf (L2.CX P w) P w K mg base ["wheels", "thing"] "is_change" (defScope (top 40)) (He.fAd K ("is_change", none)) cdv A outer s H E) (E := E) rfl rfl rfl rfl
      exact (ss_one (s_ret (e_call (F_is_spot T) tk (hr.mono (by decide)) (a_cons (e_var 0) (a_cons (e_var 1) (a_cons (e_tup (a_cons e_str (a_cons e_str a_nil))) a_nil))))))), T.g_is_change, F.kp, F.bindsN fun _ _ _ _ _ _ us hl => match us, hl with | [_, _], _ => rfl⟩, mkFn_ar⟩
  exact U.Fn.by Z t_is_change a_is_change
theorem SC_is_hush : FnScope ["thing"] ["thing"] (defScope (top 43)) := ⟨rfl, rfl, rfl, by decide +kernel, rfl, by decide +kernel, by decide +kernel⟩
set_option maxHeartbeats 4000000 in
theorem F_is_hush (T : Txt K mg) : Fn P w K mg base 3 "is_hush" 1 s_is_hush := by
  obtain ⟨fd, F⟩ := T.f_is_hush
  have Z : Fn P w K mg base 3 "is_hush" 1 m_is_hush := ⟨⟨_, fd, ["thing"], fn_F F SC_is_hush (fun cdv A outer s H E hr => by
      have tk := takes_of (X := cxOf (L2.CX P w) P w K mg base ["thing"] "is_hush" (defScope (top 43)) (He.fAd K ("is_hush", none)) cdv A outer s H E) (E := E) rfl rfl rfl rfl
      exact (ss_one (s_ret (e_and (e_isi "tuple" T.b_isinstance T.b_tuple (e_var 0)) (e_and (e_cmp (o_eq hr) (e_len (x := "len") T.b_len (e_var 0)) e_int) (e_one (e_call (F_is_within T) tk (hr.mono (by decide)) (a_cons (e_ix (e_var 0) e_int) (a_cons (e_gint T.i_LEAST_HUSH) (a_cons (e_gint T.i_LONGEST_HUSH) a_nil)))))))))), T.g_is_hush, F.kp, F.bindsN fun _ _ _ _ _ _ us hl => match us, hl with | [_], _ => rfl⟩, mkFn_ar⟩
  exact U.Fn.by Z t_is_hush a_is_hush
theorem SC_is_hushes : FnScope ["many", "thing", "pair", "rule", "beats"] ["many", "thing"] (defScope (top 42)) := ⟨rfl, rfl, rfl, by decide +kernel, rfl, by decide +kernel, by decide +kernel⟩
set_option maxHeartbeats 4000000 in
theorem F_is_hushes (T : Txt K mg) : Fn P w K mg base 5 "is_hushes" 2 s_is_hushes := by
  obtain ⟨fd, F⟩ := T.f_is_hushes
  have Z : Fn P w K mg base 5 "is_hushes" 2 m_is_hushes := ⟨⟨_, fd, ["many", "thing"], fn_F F SC_is_hushes (fun cdv A outer s H E hr => by
      have tk := takes_of (X := cxOf (L2.CX P w) P w K mg base ["many", "thing", "pair", "rule", "beats"] "is_hushes" (defScope (top 42)) (He.fAd K ("is_hushes", none)) cdv A outer s H E) (E := E) rfl rfl rfl rfl
      exact (ss_cons (s_if (t_w (w_or (t_not (t_val (e_call (F_is_row T) tk (hr.mono (by decide)) (a_cons (e_var 1) (a_cons (e_gint T.i_MOST_HUSHES) a_nil))))) (w_or1 (t_not (t_val (e_all rfl T.b_all (e_lc [("pair", 2)] rfl SC_is_hushes.nd (go_name 2) (i_seq (e_var 1)) (blkOk_by (N := ["many", "thing", "pair", "rule", "beats"]) (sc := defScope (top 42)) (by decide +kernel)) (fun _ _ _ _ _ => (pg_name (i := 2) SC_is_hushes.nd rfl (by first | exact Or.inl rfl | exact Or.inr rfl))) (fun _ _ _ _ _ => c_yes) (fun _ _ _ _ _ => (e_call (F_is_hush T) takes0 (hr.mono (by decide)) (a_cons (e_var 2) a_nil)))))))))) (ss_one (s_ret e_bl)) ss_nil)
    (ss_one (s_ret (e_call (F_is_rising T) tk (hr.mono (by decide)) (a_cons (e_tuple T.b_tuple (e_lc [("rule", 3), ("beats", 4)] rfl SC_is_hushes.nd (go_tup 2 (gos_cons (go_name 3) (gos_cons (go_name 4) gos_nil))) (i_seq (e_var 1)) (blkOk_by (N := ["many", "thing", "pair", "rule", "beats"]) (sc := defScope (top 42)) (by decide +kernel)) (fun _ _ _ _ _ => (pg_tup rfl (pgs_cons (pg_name (i := 3) SC_is_hushes.nd rfl (by first | exact Or.inl rfl | exact Or.inr rfl)) (pgs_cons (pg_name (i := 4) SC_is_hushes.nd rfl (by first | exact Or.inl rfl | exact Or.inr rfl)) pgs_nil)))) (fun _ _ _ _ _ => c_yes) (fun _ _ _ _ _ => (e_var 3)))) (a_cons (e_var 0) a_nil))))))), T.g_is_hushes, F.kp, F.bindsN fun _ _ _ _ _ _ us hl => match us, hl with | [_, _], _ => rfl⟩, mkFn_ar⟩
  exact U.Fn.by Z t_is_hushes a_is_hushes
theorem SC_is_wakes : FnScope ["many", "thing", "hushes", "rule", "beats"] ["many", "thing", "hushes"] (defScope (top 44)) := ⟨rfl, rfl, rfl, by decide +kernel, rfl, by decide +kernel, by decide +kernel⟩
set_option maxHeartbeats 4000000 in
theorem F_is_wakes (T : Txt K mg) : Fn P w K mg base 5 "is_wakes" 3 s_is_wakes := by
  obtain ⟨fd, F⟩ := T.f_is_wakes
  have Z : Fn P w K mg base 5 "is_wakes" 3 m_is_wakes := ⟨⟨_, fd, ["many", "thing", "hushes"], fn_F F SC_is_wakes (fun cdv A outer s H E hr => by
      have tk := takes_of (X := cxOf (L2.CX P w) P w K mg base ["many", "thing", "hushes", "rule", "beats"] "is_wakes" (defScope (top 44)) (He.fAd K ("is_wakes", none)) cdv A outer s H E) (E := E) rfl rfl rfl rfl
      exact (ss_cons (s_if (t_w (w_or (t_not (t_val (e_call (F_is_row T) tk (hr.mono (by decide)) (a_cons (e_var 1) (a_cons (e_gint T.i_MOST_WAKES) a_nil))))) (w_or1 (t_not (t_val (e_call (F_is_rising T) tk (hr.mono (by decide)) (a_cons (e_var 1) (a_cons (e_var 0) a_nil)))))))) (ss_one (s_ret e_bl)) ss_nil)
    (ss_one (s_ret (e_not (e_any rfl T.b_any (e_lc [("rule", 3), ("beats", 4)] rfl SC_is_wakes.nd (go_tup 2 (gos_cons (go_name 3) (gos_cons (go_name 4) gos_nil))) (i_seq (e_var 2)) (blkOk_by (N := ["many", "thing", "hushes", "rule", "beats"]) (sc := defScope (top 44)) (by decide +kernel)) (fun _ _ _ _ _ => (pg_tup rfl (pgs_cons (pg_name (i := 3) SC_is_wakes.nd rfl (by first | exact Or.inl rfl | exact Or.inr rfl)) (pgs_cons (pg_name (i := 4) SC_is_wakes.nd rfl (by first | exact Or.inl rfl | exact Or.inr rfl)) pgs_nil)))) (fun _ _ _ _ _ => c_yes) (fun _ _ _ _ _ => (e_cmp (o_in hr) (e_var 3) (e_var 1)))))))))), T.g_is_wakes, F.kp, F.bindsN fun _ _ _ _ _ _ us hl => match us, hl with | [_, _, _], _ => rfl⟩, mkFn_ar⟩
  exact U.Fn.by Z t_is_wakes a_is_wakes
theorem SC_is_rule : FnScope ["wheels", "many", "thing", "test", "changes", "hushes", "wakes", "condition", "change"] ["wheels", "many", "thing"] (defScope (top 37)) := ⟨rfl, rfl, rfl, by decide +kernel, rfl, by decide +kernel, by decide +kernel⟩
set_option maxHeartbeats 4000000 in
theorem F_is_rule (T : Txt K mg) : Fn P w K mg base 6 "is_rule" 3 s_is_rule := by
  obtain ⟨fd, F⟩ := T.f_is_rule
  have Z : Fn P w K mg base 6 "is_rule" 3 m_is_rule := ⟨⟨_, fd, ["wheels", "many", "thing"], fn_F F SC_is_rule (fun cdv A outer s H E hr => by
      have tk := takes_of (X := cxOf (L2.CX P w) P w K mg base ["wheels", "many", "thing", "test", "changes", "hushes", "wakes", "condition", "change"] "is_rule" (defScope (top 37)) (He.fAd K ("is_rule", none)) cdv A outer s H E) (E := E) rfl rfl rfl rfl
      exact (ss_cons (s_if (t_w (w_or (t_not (t_val (e_isi "tuple" T.b_isinstance T.b_tuple (e_var 2)))) (w_or1 (t_cmp (o_ne hr) (e_len (x := "len") T.b_len (e_var 2)) e_int)))) (ss_one (s_ret e_bl)) ss_nil)
    (ss_cons (s_asg (e_var 2) (g_tup 4 rfl (gs_cons (g_name 3 SC_is_rule.nd) (gs_cons (g_name 4 SC_is_rule.nd) (gs_cons (g_name 5 SC_is_rule.nd) (gs_cons (g_name 6 SC_is_rule.nd) gs_nil))))))
    (ss_cons (s_if (t_w (w_or (t_not (t_val (e_call (F_is_row T) tk (hr.mono (by decide)) (a_cons (e_var 3) (a_cons (e_gint T.i_MOST_CONDITIONS) a_nil))))) (w_or1 (t_not (t_val (e_call (F_is_row T) tk (hr.mono (by decide)) (a_cons (e_var 4) (a_cons (e_gint T.i_MOST_CHANGES) a_nil)))))))) (ss_one (s_ret e_bl)) ss_nil)
    (ss_cons (s_if (t_not (t_val (e_all rfl T.b_all (e_lc [("condition", 7)] rfl SC_is_rule.nd (go_name 7) (i_seq (e_var 3)) (blkOk_by (N := ["wheels", "many", "thing", "test", "changes", "hushes", "wakes", "condition", "change"]) (sc := defScope (top 37)) (by decide +kernel)) (fun _ _ _ _ _ => (pg_name (i := 7) SC_is_rule.nd rfl (by first | exact Or.inl rfl | exact Or.inr rfl))) (fun _ _ _ _ _ => c_yes) (fun _ _ _ _ _ => (e_call (F_is_condition T) takes0 (hr.mono (by decide)) (a_cons (e_var 0) (a_cons (e_var 1) (a_cons (e_var 7) a_nil))))))))) (ss_one (s_ret e_bl)) ss_nil)
    (ss_cons (s_if (t_not (t_val (e_all rfl T.b_all (e_lc [("change", 8)] rfl SC_is_rule.nd (go_name 8) (i_seq (e_var 4)) (blkOk_by (N := ["wheels", "many", "thing", "test", "changes", "hushes", "wakes", "condition", "change"]) (sc := defScope (top 37)) (by decide +kernel)) (fun _ _ _ _ _ => (pg_name (i := 8) SC_is_rule.nd rfl (by first | exact Or.inl rfl | exact Or.inr rfl))) (fun _ _ _ _ _ => c_yes) (fun _ _ _ _ _ => (e_call (F_is_change T) takes0 (hr.mono (by decide)) (a_cons (e_var 0) (a_cons (e_var 8) a_nil)))))))) (ss_one (s_ret e_bl)) ss_nil)
    (ss_one (s_ret (e_and (e_call (F_is_hushes T) tk (hr.mono (by decide)) (a_cons (e_var 1) (a_cons (e_var 5) a_nil))) (e_one (e_call (F_is_wakes T) tk (hr.mono (by decide)) (a_cons (e_var 1) (a_cons (e_var 6) (a_cons (e_var 5) a_nil)))))))))))))), T.g_is_rule, F.kp, F.bindsN fun _ _ _ _ _ _ us hl => match us, hl with | [_, _, _], _ => rfl⟩, mkFn_ar⟩
  exact U.Fn.by Z t_is_rule a_is_rule
theorem SC_Book_init : FnScope ["self", "wheels", "rules", "number", "rule"] ["self", "wheels", "rules"] (defScope (topM 35 0)) := ⟨rfl, rfl, rfl, by decide +kernel, rfl, by decide +kernel, by decide +kernel⟩
set_option maxHeartbeats 4000000 in
theorem M_Book (T : Txt K mg) : Mkr P w K mg base 7 "Book" 2 s_Book_init := by
  obtain ⟨fd, F⟩ := T.f_Book_init
  have Z : Mkr P w K mg base 7 "Book" 2 m_Book_init := ⟨⟨_, fd, ["self", "wheels", "rules"], fn_F F SC_Book_init (fun cdv A outer s H E hr => by
      have tk := takes_of (X := cxOf (L2.CX P w) P w K mg base ["self", "wheels", "rules", "number", "rule"] "Book.__init__" (defScope (topM 35 0)) (He.fAd K ("Book", some "__init__")) cdv A outer s H E) (E := E) rfl rfl rfl rfl
      exact (ss_cons (s_if (t_w (w_or (t_not (t_val (e_call (F_is_wheels T) tk (hr.mono (by decide)) (a_cons (e_var 1) a_nil)))) (w_or1 (t_not (t_val (e_call (F_is_row T) tk (hr.mono (by decide)) (a_cons (e_var 2) (a_cons (e_gint T.i_MOST_RULES) a_nil)))))))) (ss_one s_never) ss_nil)
    (ss_cons (s_for (passes_of rfl) rfl (i_enum T.b_enumerate (e_var 2)) (g_tup 2 rfl (gs_cons (g_name 3 SC_Book_init.nd) (gs_cons (g_name 4 SC_Book_init.nd) gs_nil))) (ss_one (s_if (t_not (t_val (e_call (F_is_rule T) tk (hr.mono (by decide)) (a_cons (e_var 1) (a_cons (e_len (x := "len") T.b_len (e_var 2)) (a_cons (e_var 4) a_nil)))))) (ss_one s_never) ss_nil)))
    (ss_cons (s_fld "Book" "wheels" T.c_Book T.n_Book_wheels (e_var 0) (e_var 1))
    (ss_one (s_fld "Book" "rules" T.c_Book T.n_Book_rules (e_var 0) (e_var 2))))))), T.g_Book, T.k_Book, binds_all F (n := 3) (by simp [He.DefD.dvs, d_Book_init]) (by rfl) (fun _ _ _ _ _ _ _ us its hl hi => match us, its, hl, hi with | [_, _, _], [_], _, _ => ⟨_, rfl, rfl⟩)⟩, mkFn_ar⟩
  exact U.Mkr.by Z t_Book_init a_Book_init
theorem SC_begun : FnScope ["book", "values"] ["book", "values"] (defScope (top 48)) := ⟨rfl, rfl, rfl, by decide +kernel, rfl, by decide +kernel, by decide +kernel⟩
set_option maxHeartbeats 4000000 in
theorem F_begun (T : Txt K mg) : Fn P w K mg base 5 "begun" 2 s_begun := by
  obtain ⟨fd, F⟩ := T.f_begun
  have Z : Fn P w K mg base 5 "begun" 2 m_begun := ⟨⟨_, fd, ["book", "values"], fn_F F SC_begun (fun cdv A outer s H E hr => by
      have tk := takes_of (X := cxOf (L2.CX P w) P w K mg base ["book", "values"] "begun" (defScope (top 48)) (He.fAd K ("begun", none)) cdv A outer s H E) (E := E) rfl rfl rfl rfl
      exact (ss_cons (s_if (t_not (t_val (e_call (F_is_values T) tk (hr.mono (by decide)) (a_cons (e_fld "Book" "wheels" T.c_Book T.n_Book_wheels (e_var 0)) (a_cons (e_var 1) a_nil))))) (ss_one s_never) ss_nil)
    (ss_one (s_ret (e_tup (a_cons (e_var 1) (a_cons (e_op o_mul (e_tup (a_cons e_int a_nil)) (e_len (x := "len") T.b_len (e_fld "Book" "rules" T.c_Book T.n_Book_rules (e_var 0)))) a_nil))))))), T.g_begun, F.kp, F.bindsN fun _ _ _ _ _ _ us hl => match us, hl with | [_, _], _ => rfl⟩, mkFn_ar⟩
  exact U.Fn.by Z t_begun a_begun
theorem SC_own_order : FnScope ["book"] ["book"] (defScope (top 50)) := ⟨rfl, rfl, rfl, by decide +kernel, rfl, by decide +kernel, by decide +kernel⟩
set_option maxHeartbeats 4000000 in
theorem F_own_order (T : Txt K mg) : Fn P w K mg base 1 "own_order" 1 s_own_order := by
  obtain ⟨fd, F⟩ := T.f_own_order
  have Z : Fn P w K mg base 1 "own_order" 1 m_own_order := ⟨⟨_, fd, ["book"], fn_F F SC_own_order (fun cdv A outer s H E hr => by
      have tk := takes_of (X := cxOf (L2.CX P w) P w K mg base ["book"] "own_order" (defScope (top 50)) (He.fAd K ("own_order", none)) cdv A outer s H E) (E := E) rfl rfl rfl rfl
      exact (ss_one (s_ret (e_tupRg rfl T.b_tuple T.b_range (e_len (x := "len") T.b_len (e_fld "Book" "rules" T.c_Book T.n_Book_rules (e_var 0))))))), T.g_own_order, F.kp, F.bindsN fun _ _ _ _ _ _ us hl => match us, hl with | [_], _ => rfl⟩, mkFn_ar⟩
  exact U.Fn.by Z t_own_order a_own_order
theorem SC_ended : FnScope ["values", "left", "beats"] ["values", "left"] (defScope (top 52)) := ⟨rfl, rfl, rfl, by decide +kernel, rfl, by decide +kernel, by decide +kernel⟩
set_option maxHeartbeats 4000000 in
theorem F_ended (T : Txt K mg) : Fn P w K mg base 1 "ended" 2 m_ended := by
  obtain ⟨fd, F⟩ := T.f_ended
  have Z : Fn P w K mg base 1 "ended" 2 m_ended := ⟨⟨_, fd, ["values", "left"], fn_F F SC_ended (fun cdv A outer s H E hr => by
      have tk := takes_of (X := cxOf (L2.CX P w) P w K mg base ["values", "left", "beats"] "ended" (defScope (top 52)) (He.fAd K ("ended", none)) cdv A outer s H E) (E := E) rfl rfl rfl rfl
      exact (ss_one (s_ret (e_tup (a_cons (e_tuple T.b_tuple (e_var 0)) (a_cons (e_tuple T.b_tuple (e_lc [("beats", 2)] rfl SC_ended.nd (go_name 2) (i_seq (e_var 1)) (blkOk_by (N := ["values", "left", "beats"]) (sc := defScope (top 52)) (by decide +kernel)) (fun _ _ _ _ _ => (pg_name (i := 2) SC_ended.nd rfl (by first | exact Or.inl rfl | exact Or.inr rfl))) (fun _ _ _ _ _ => c_yes) (fun _ _ _ _ _ => (e_max2 rfl T.b_max e_int (e_op o_sub (e_var 2) e_int))))) a_nil)))))), T.g_ended, F.kp, F.bindsN fun _ _ _ _ _ _ us hl => match us, hl with | [_, _], _ => rfl⟩, mkFn_ar⟩
  exact Z
theorem SC_is_so : FnScope ["condition", "values", "left", "word", "stands", "place"] ["condition", "values", "left"] (defScope (top 54)) := ⟨rfl, rfl, rfl, by decide +kernel, rfl, by decide +kernel, by decide +kernel⟩
set_option maxHeartbeats 4000000 in
theorem F_is_so (T : Txt K mg) : Fn P w K mg base 1 "is_so" 3 s_is_so := by
  obtain ⟨fd, F⟩ := T.f_is_so
  have Z : Fn P w K mg base 1 "is_so" 3 m_is_so := ⟨⟨_, fd, ["condition", "values", "left"], fn_F F SC_is_so (fun cdv A outer s H E hr => by
      have tk := takes_of (X := cxOf (L2.CX P w) P w K mg base ["condition", "values", "left", "word", "stands", "place"] "is_so" (defScope (top 54)) (He.fAd K ("is_so", none)) cdv A outer s H E) (E := E) rfl rfl rfl rfl
      exact (ss_cons (s_set 3 (e_ix (e_var 0) e_int) SC_is_so.nd)
    (ss_cons (s_if (t_cmp (o_eq hr) (e_var 3) e_str) (ss_one (s_ret (e_cmp o_gt (e_ix (e_var 2) (e_ix (e_var 0) e_int)) e_int))) ss_nil)
    (ss_cons (s_if (t_cmp (o_eq hr) (e_var 3) e_str) (ss_one (s_ret (e_cmp (o_eq hr) (e_ix (e_var 2) (e_ix (e_var 0) e_int)) e_int))) ss_nil)
    (ss_cons (s_set 4 (e_ix (e_var 1) (e_ix (e_var 0) e_int)) SC_is_so.nd)
    (ss_cons (s_set 5 (e_ix (e_var 0) e_int) SC_is_so.nd)
    (ss_cons (s_if (t_cmp (o_eq hr) (e_var 3) e_str) (ss_one (s_ret (e_cmp (o_eq hr) (e_var 4) (e_var 5)))) ss_nil)
    (ss_cons (s_if (t_cmp (o_eq hr) (e_var 3) e_str) (ss_one (s_ret (e_cmp (o_ne hr) (e_var 4) (e_var 5)))) ss_nil)
    (ss_one (s_ret (e_cmp o_lt (e_var 4) (e_var 5)))))))))))), T.g_is_so, F.kp, F.bindsN fun _ _ _ _ _ _ us hl => match us, hl with | [_, _, _], _ => rfl⟩, mkFn_ar⟩
  exact U.Fn.by Z t_is_so a_is_so
theorem SC_is_ready : FnScope ["book", "rule", "values", "left", "condition"] ["book", "rule", "values", "left"] (defScope (top 53)) := ⟨rfl, rfl, rfl, by decide +kernel, rfl, by decide +kernel, by decide +kernel⟩
set_option maxHeartbeats 4000000 in
theorem F_is_ready (T : Txt K mg) : Fn P w K mg base 2 "is_ready" 4 s_is_ready := by
  obtain ⟨fd, F⟩ := T.f_is_ready
  have Z : Fn P w K mg base 2 "is_ready" 4 m_is_ready := ⟨⟨_, fd, ["book", "rule", "values", "left"], fn_F F SC_is_ready (fun cdv A outer s H E hr => by
      have tk := takes_of (X := cxOf (L2.CX P w) P w K mg base ["book", "rule", "values", "left", "condition"] "is_ready" (defScope (top 53)) (He.fAd K ("is_ready", none)) cdv A outer s H E) (E := E) rfl rfl rfl rfl
      exact (ss_cons (s_if (t_cmp o_gt (e_ix (e_var 3) (e_var 1)) e_int) (ss_one (s_ret e_bl)) ss_nil)
    (ss_cons (s_for (passes_of rfl) rfl (i_seq (e_ix (e_ix (e_fld "Book" "rules" T.c_Book T.n_Book_rules (e_var 0)) (e_var 1)) e_int)) (g_name 4 SC_is_ready.nd) (ss_one (s_if (t_not (t_val (e_call (F_is_so T) tk (hr.mono (by decide)) (a_cons (e_var 4) (a_cons (e_var 2) (a_cons (e_var 3) a_nil)))))) (ss_one (s_ret e_bl)) ss_nil)))
    (ss_one (s_ret e_bl))))), T.g_is_ready, F.kp, F.bindsN fun _ _ _ _ _ _ us hl => match us, hl with | [_, _, _, _], _ => rfl⟩, mkFn_ar⟩
  exact U.Fn.by Z t_is_ready a_is_ready
theorem SC_carry_out : FnScope ["book", "rule", "values", "left", "other", "test", "changes", "hushes", "wakes", "word", "wheel", "place", "start", "beats"] ["book", "rule", "values", "left"] (defScope (top 55)) := ⟨rfl, rfl, rfl, by decide +kernel, rfl, by decide +kernel, by decide +kernel⟩
set_option maxHeartbeats 4000000 in
theorem F_carry_out (T : Txt K mg) : Fn P w K mg base 1 "carry_out" 4 m_carry_out := by
  obtain ⟨fd, F⟩ := T.f_carry_out
  have Z : Fn P w K mg base 1 "carry_out" 4 m_carry_out := ⟨⟨_, fd, ["book", "rule", "values", "left"], fn_F F SC_carry_out (fun cdv A outer s H E hr => by
      have tk := takes_of (X := cxOf (L2.CX P w) P w K mg base ["book", "rule", "values", "left", "other", "test", "changes", "hushes", "wakes", "word", "wheel", "place", "start", "beats"] "carry_out" (defScope (top 55)) (He.fAd K ("carry_out", none)) cdv A outer s H E) (E := E) rfl rfl rfl rfl
      exact (ss_cons (s_asg (e_ix (e_fld "Book" "rules" T.c_Book T.n_Book_rules (e_var 0)) (e_var 1)) (g_tup 4 rfl (gs_cons (g_name 5 SC_carry_out.nd) (gs_cons (g_name 6 SC_carry_out.nd) (gs_cons (g_name 7 SC_carry_out.nd) (gs_cons (g_name 8 SC_carry_out.nd) gs_nil))))))
    (ss_cons (s_for (passes_of rfl) rfl (i_seq (e_var 6)) (g_tup 3 rfl (gs_cons (g_name 9 SC_carry_out.nd) (gs_cons (g_name 10 SC_carry_out.nd) (gs_cons (g_name 11 SC_carry_out.nd) gs_nil)))) (ss_cons (s_set 12 (e_if (t_cmp (o_eq hr) (e_var 9) e_str) (e_ix (e_var 2) (e_var 10)) e_int) SC_carry_out.nd)
    (ss_one (s_asg (e_op o_mod (e_op o_add (e_var 12) (e_var 11)) (e_ix (e_fld "Book" "wheels" T.c_Book T.n_Book_wheels (e_var 0)) (e_var 10))) (g_sub (W := W0) (e_var 2) (e_var 10))))))
    (ss_cons (s_for (passes_of rfl) rfl (i_seq (e_var 7)) (g_tup 2 rfl (gs_cons (g_name 4 SC_carry_out.nd) (gs_cons (g_name 13 SC_carry_out.nd) gs_nil))) (ss_one (s_asg (e_max2 rfl T.b_max (e_ix (e_var 3) (e_var 4)) (e_var 13)) (g_sub (W := W0) (e_var 3) (e_var 4)))))
    (ss_one (s_for (passes_of rfl) rfl (i_seq (e_var 8)) (g_name 4 SC_carry_out.nd) (ss_one (s_asg e_int (g_sub (W := W0) (e_var 3) (e_var 4)))))))))), T.g_carry_out, F.kp, F.bindsN fun _ _ _ _ _ _ us hl => match us, hl with | [_, _, _, _], _ => rfl⟩, mkFn_ar⟩
  exact Z
theorem SC_step : FnScope ["book", "state", "order", "off", "values", "left", "done", "rule"] ["book", "state", "order", "off"] (defScope (top 51)) := ⟨rfl, rfl, rfl, by decide +kernel, rfl, by decide +kernel, by decide +kernel⟩
set_option maxHeartbeats 4000000 in
theorem F_step (T : Txt K mg) : Fn P w K mg base 3 "step" 4 s_step := by
  obtain ⟨fd, F⟩ := T.f_step
  have Z : Fn P w K mg base 3 "step" 4 m_step := ⟨⟨_, fd, ["book", "state", "order", "off"], fn_F F SC_step (fun cdv A outer s H E hr => by
      have tk := takes_of (X := cxOf (L2.CX P w) P w K mg base ["book", "state", "order", "off", "values", "left", "done", "rule"] "step" (defScope (top 51)) (He.fAd K ("step", none)) cdv A outer s H E) (E := E) rfl rfl rfl rfl
      exact (ss_cons (s_set 4 (e_list T.b_list (e_ix (e_var 1) e_int)) SC_step.nd)
    (ss_cons (s_set 5 (e_list T.b_list (e_ix (e_var 1) e_int)) SC_step.nd)
    (ss_cons (s_set 6 (e_lst a_nil) SC_step.nd)
    (ss_cons (s_for (passes_of rfl) rfl (i_seq (e_var 2)) (g_name 7 SC_step.nd) (ss_one (s_if (t_w (w_and (t_cmp (o_notIn hr) (e_var 7) (e_var 3)) (w_and1 (t_val (e_call (F_is_ready T) tk (hr.mono (by decide)) (a_cons (e_var 0) (a_cons (e_var 7) (a_cons (e_var 4) (a_cons (e_var 5) a_nil))))))))) (ss_cons (s_expr (e_call (F_carry_out T) tk (hr.mono (by decide)) (a_cons (e_var 0) (a_cons (e_var 7) (a_cons (e_var 4) (a_cons (e_var 5) a_nil))))))
    (ss_one (s_expr (e_append (e_var 6) (e_var 7))))) ss_nil)))
    (ss_one (s_ret (e_tup (a_cons (e_tuple T.b_tuple (e_var 6)) (a_cons (e_call (F_ended T) tk (hr.mono (by decide)) (a_cons (e_var 4) (a_cons (e_var 5) a_nil))) a_nil)))))))))), T.g_step, F.kp, F.bindsN fun _ _ _ _ _ _ us hl => match us, hl with | [_, _, _, _], _ => rfl⟩, mkFn_ar⟩
  exact U.Fn.by Z t_step a_step
theorem SC_ways_from : FnScope ["book", "starts", "off", "order", "ways", "start", "here"] ["book", "starts", "off"] (defScope (top 62)) := ⟨rfl, rfl, rfl, by decide +kernel, rfl, by decide +kernel, by decide +kernel⟩
set_option maxHeartbeats 4000000 in
theorem F_ways_from (T : Txt K mg) : Fn P w K mg base 4 "ways_from" 3 m_ways_from := by
  obtain ⟨fd, F⟩ := T.f_ways_from
  have Z : Fn P w K mg base 4 "ways_from" 3 m_ways_from := ⟨⟨_, fd, ["book", "starts", "off"], fn_F F SC_ways_from (fun cdv A outer s H E hr => by
      have tk := takes_of (X := cxOf (L2.CX P w) P w K mg base ["book", "starts", "off", "order", "ways", "start", "here"] "ways_from" (defScope (top 62)) (He.fAd K ("ways_from", none)) cdv A outer s H E) (E := E) rfl rfl rfl rfl
      exact (ss_cons (s_set 3 (e_call (F_own_order T) tk (hr.mono (by decide)) (a_cons (e_var 0) a_nil)) SC_ways_from.nd)
    (ss_cons (s_set 4 e_dnew SC_ways_from.nd)
    (ss_cons (s_for (passes_of rfl) rfl (i_seq (e_var 1)) (g_name 5 SC_ways_from.nd) (ss_cons (s_set 6 (e_var 5) SC_ways_from.nd)
    (ss_one (s_while wfuel (passes_of rfl) (t_cmp (o_notInD hr) (e_var 6) (e_var 4)) (ss_cons (s_dput hr (e_var 4) (e_var 6) (e_call (F_step T) tk (hr.mono (by decide)) (a_cons (e_var 0) (a_cons (e_var 6) (a_cons (e_var 3) (a_cons (e_var 2) a_nil))))))
    (ss_one (s_set 6 (e_ix (e_dget hr (e_var 4) (e_var 6)) e_int) SC_ways_from.nd)))))))
    (ss_one (s_ret (e_var 4))))))), T.g_ways_from, F.kp, F.bindsN fun _ _ _ _ _ _ us hl => match us, hl with | [_, _, _], _ => rfl⟩, mkFn_ar⟩
  exact Z
theorem SC_trail_along : FnScope ["ways", "state", "numbers", "dones", "here", "done"] ["ways", "state"] (defScope (top 63)) := ⟨rfl, rfl, rfl, by decide +kernel, rfl, by decide +kernel, by decide +kernel⟩
set_option maxHeartbeats 4000000 in
theorem F_trail_along (T : Txt K mg) : Fn P w K mg base 1 "trail_along" 2 m_trail_along := by
  obtain ⟨fd, F⟩ := T.f_trail_along
  have Z : Fn P w K mg base 1 "trail_along" 2 m_trail_along := ⟨⟨_, fd, ["ways", "state"], fn_F F SC_trail_along (fun cdv A outer s H E hr => by
      have tk := takes_of (X := cxOf (L2.CX P w) P w K mg base ["ways", "state", "numbers", "dones", "here", "done"] "trail_along" (defScope (top 63)) (He.fAd K ("trail_along", none)) cdv A outer s H E) (E := E) rfl rfl rfl rfl
      exact (ss_cons (s_set 2 e_dnew SC_trail_along.nd)
    (ss_cons (s_set 3 (e_lst a_nil) SC_trail_along.nd)
    (ss_cons (s_set 4 (e_var 1) SC_trail_along.nd)
    (ss_cons (s_while wfuel (passes_of rfl) (t_cmp (o_notInD hr) (e_var 4) (e_var 2)) (ss_cons (s_dput hr (e_var 2) (e_var 4) (e_lenD T.b_len (e_var 2)))
    (ss_cons (s_asg (e_dget hr (e_var 0) (e_var 4)) (g_tup 2 rfl (gs_cons (g_name 5 SC_trail_along.nd) (gs_cons (g_name 4 SC_trail_along.nd) gs_nil))))
    (ss_one (s_expr (e_append (e_var 3) (e_var 5)))))))
    (ss_one (s_ret (e_tup (a_cons (e_listD rfl T.b_list (e_var 2)) (a_cons (e_var 3) (a_cons (e_dget hr (e_var 2) (e_var 4)) a_nil))))))))))), T.g_trail_along, F.kp, F.bindsN fun _ _ _ _ _ _ us hl => match us, hl with | [_, _], _ => rfl⟩, mkFn_ar⟩
  exact Z
theorem SC_trail : FnScope ["book", "state", "off"] ["book", "state", "off"] (defScope (top 61)) := ⟨rfl, rfl, rfl, by decide +kernel, rfl, by decide +kernel, by decide +kernel⟩
set_option maxHeartbeats 4000000 in
theorem F_trail (T : Txt K mg) : Fn P w K mg base 5 "trail" 3 m_trail := by
  obtain ⟨fd, F⟩ := T.f_trail
  have Z : Fn P w K mg base 5 "trail" 3 m_trail := ⟨⟨_, fd, ["book", "state", "off"], fn_F F SC_trail (fun cdv A outer s H E hr => by
      have tk := takes_of (X := cxOf (L2.CX P w) P w K mg base ["book", "state", "off"] "trail" (defScope (top 61)) (He.fAd K ("trail", none)) cdv A outer s H E) (E := E) rfl rfl rfl rfl
      exact (ss_one (s_ret (e_call (F_trail_along T) tk (hr.mono (by decide)) (a_cons (e_call (F_ways_from T) tk (hr.mono (by decide)) (a_cons (e_var 0) (a_cons (e_lst (a_cons (e_var 1) a_nil)) (a_cons (e_var 2) a_nil)))) (a_cons (e_var 1) a_nil)))))), T.g_trail, F.kp, F.bindsN fun _ _ _ _ _ _ us hl => match us, hl with | [_, _, _], _ => rfl⟩, mkFn_ar⟩
  exact Z
theorem SC_number_at : FnScope ["begin", "many", "beats"] ["begin", "many", "beats"] (defScope (top 64)) := ⟨rfl, rfl, rfl, by decide +kernel, rfl, by decide +kernel, by decide +kernel⟩
set_option maxHeartbeats 4000000 in
theorem F_number_at (T : Txt K mg) : Fn P w K mg base 1 "number_at" 3 m_number_at := by
  obtain ⟨fd, F⟩ := T.f_number_at
  have Z : Fn P w K mg base 1 "number_at" 3 m_number_at := ⟨⟨_, fd, ["begin", "many", "beats"], fn_F F SC_number_at (fun cdv A outer s H E hr => by
      have tk := takes_of (X := cxOf (L2.CX P w) P w K mg base ["begin", "many", "beats"] "number_at" (defScope (top 64)) (He.fAd K ("number_at", none)) cdv A outer s H E) (E := E) rfl rfl rfl rfl
      exact (ss_one (s_ret (e_if (t_cmp o_lt (e_var 2) (e_var 0)) (e_var 2) (e_op o_add (e_var 0) (e_op o_mod (e_op o_sub (e_var 2) (e_var 0)) (e_op o_sub (e_var 1) (e_var 0)))))))), T.g_number_at, F.kp, F.bindsN fun _ _ _ _ _ _ us hl => match us, hl with | [_, _, _], _ => rfl⟩, mkFn_ar⟩
  exact Z
theorem SC_state_at : FnScope ["book", "state", "beats", "off", "states", "dones", "begin"] ["book", "state", "beats", "off"] (defScope (top 57)) := ⟨rfl, rfl, rfl, by decide +kernel, rfl, by decide +kernel, by decide +kernel⟩
set_option maxHeartbeats 4000000 in
theorem O_state_at (T : Txt K mg) : ∃ fd, FunD K "state_at" "state_at" (defArgs (top 57)) (defBody (top 57)) (defScope (top 57)) (d_state_at.dvs K) (d_state_at.kws K) (He.fAd K ("state_at", none)) fd ∧ FnOk P w K mg base (L2.CX P w) 7 (He.fAd K ("state_at", none)) fd ["book", "state", "beats", "off"] (spF K 4 s_state_at) := by
  obtain ⟨fd, F⟩ := T.f_state_at
  have ok : FnOk P w K mg base (L2.CX P w) 7 (He.fAd K ("state_at", none)) fd ["book", "state", "beats", "off"] (spF K 4 m_state_at) := fn_F F SC_state_at (fun cdv A outer s H E hr => by
      have tk := takes_of (X := cxOf (L2.CX P w) P w K mg base ["book", "state", "beats", "off", "states", "dones", "begin"] "state_at" (defScope (top 57)) (He.fAd K ("state_at", none)) cdv A outer s H E) (E := E) rfl rfl rfl rfl
      exact (ss_cons (s_expr (e_call (F_want_state T) tk (hr.mono (by decide)) (a_cons (e_var 0) (a_cons (e_var 1) a_nil))))
    (ss_cons (s_expr (e_call (F_want_beats T) tk (hr.mono (by decide)) (a_cons (e_var 2) (a_cons e_int a_nil))))
    (ss_cons (s_expr (e_call (F_want_off T) tk (hr.mono (by decide)) (a_cons (e_var 0) (a_cons (e_var 3) a_nil))))
    (ss_cons (s_asg (e_call (F_trail T) tk (hr.mono (by decide)) (a_cons (e_var 0) (a_cons (e_var 1) (a_cons (e_var 3) a_nil)))) (g_tup 3 rfl (gs_cons (g_name 4 SC_state_at.nd) (gs_cons (g_name 5 SC_state_at.nd) (gs_cons (g_name 6 SC_state_at.nd) gs_nil)))))
    (ss_one (s_ret (e_ix (e_var 4) (e_call (F_number_at T) tk (hr.mono (by decide)) (a_cons (e_var 6) (a_cons (e_len (x := "len") T.b_len (e_var 4)) (a_cons (e_var 2) a_nil))))))))))))
  exact ⟨fd, F, ok.imp fun vs H Q E h => spF_tells t_state_at h⟩
theorem S_state_at_3 (T : Txt K mg) : FnS P w K mg base 7 "state_at" 4 s_state_at 3 [] [.at 0, .at 1, .at 2, .df (.tup [])] := by
  obtain ⟨fd, F0, ok⟩ := O_state_at (P := P) (w := w) (base := base) T
  have F : FunD K "state_at" "state_at" (defArgs (top 57)) (defBody (top 57)) (defScope (top 57)) [] [("off", (.ref ((U.kwAt ("state_at", none) "off") K)))] (He.fAd K ("state_at", none)) fd := F0
  obtain ⟨mv, kb⟩ := kbinds0 (ps := ["book", "state", "beats", "off"]) F 3 [] [("off", (.ref ((U.kwAt ("state_at", none) "off") K)))] (fun us mv ws => permL [0, 1, 2, 3] (us ++ mv ++ ws)) (by simp) (by intro q hq; simp only [List.mem_cons, List.not_mem_nil, or_false] at hq; rcases hq with rfl <;> simp)
    (fun r1 r2 r3 => vals_perm _ ((r1.append r2).append r3)) (fun D doc pm an cdv ct us mv ws hu hm hw => match us, mv, ws, hu, hm, hw with | [_, _, _], [_], [], _, _, _ => ⟨_, _, _, _, _, _, rfl, rfl, rfl⟩)
  refine ⟨⟨_, fd, ["book", "state", "beats", "off"], _, _, ok, T.g_state_at, F.kp, kb, fun H m ds es vs zs r1 r2 l1 l2 => ?_⟩, a_state_at⟩
  match vs, zs, l1, l2 with
  | [v0, v1, v2], [], _, _ =>
    obtain ⟨d0, ds, rfl, q0, r1⟩ := r1.inv1
    obtain ⟨d1, ds, rfl, q1, r1⟩ := r1.inv1
    obtain ⟨d2, ds, rfl, q2, r1⟩ := r1.inv1
    obtain rfl := r1.inv0
    obtain rfl := r2.inv0
    exact ⟨[d0, d1, d2, (.tup [])], rfl, (show RVs K H m [d0, d1, d2, (.tup [])] [v0, v1, v2, (.ref ((U.kwAt ("state_at", none) "off") K))] from (.cons q0 (.cons q1 (.cons q2 (.cons (.tup (etup_ok T.x_state_at_off H) .nil) .nil)))))⟩
theorem SC_round_of : FnScope ["book", "state", "off", "states", "dones", "begin"] ["book", "state", "off"] (defScope (top 58)) := ⟨rfl, rfl, rfl, by decide +kernel, rfl, by decide +kernel, by decide +kernel⟩
set_option maxHeartbeats 4000000 in
theorem O_round_of (T : Txt K mg) : ∃ fd, FunD K "round_of" "round_of" (defArgs (top 58)) (defBody (top 58)) (defScope (top 58)) (d_round_of.dvs K) (d_round_of.kws K) (He.fAd K ("round_of", none)) fd ∧ FnOk P w K mg base (L2.CX P w) 7 (He.fAd K ("round_of", none)) fd ["book", "state", "off"] (spF K 3 s_round_of) := by
  obtain ⟨fd, F⟩ := T.f_round_of
  have ok : FnOk P w K mg base (L2.CX P w) 7 (He.fAd K ("round_of", none)) fd ["book", "state", "off"] (spF K 3 m_round_of) := fn_F F SC_round_of (fun cdv A outer s H E hr => by
      have tk := takes_of (X := cxOf (L2.CX P w) P w K mg base ["book", "state", "off", "states", "dones", "begin"] "round_of" (defScope (top 58)) (He.fAd K ("round_of", none)) cdv A outer s H E) (E := E) rfl rfl rfl rfl
      exact (ss_cons (s_expr (e_call (F_want_state T) tk (hr.mono (by decide)) (a_cons (e_var 0) (a_cons (e_var 1) a_nil))))
    (ss_cons (s_expr (e_call (F_want_off T) tk (hr.mono (by decide)) (a_cons (e_var 0) (a_cons (e_var 2) a_nil))))
    (ss_cons (s_asg (e_call (F_trail T) tk (hr.mono (by decide)) (a_cons (e_var 0) (a_cons (e_var 1) (a_cons (e_var 2) a_nil)))) (g_tup 3 rfl (gs_cons (g_name 3 SC_round_of.nd) (gs_cons (g_name 4 SC_round_of.nd) (gs_cons (g_name 5 SC_round_of.nd) gs_nil)))))
    (ss_one (s_ret (e_tup (a_cons (e_var 5) (a_cons (e_op o_sub (e_len (x := "len") T.b_len (e_var 3)) (e_var 5)) a_nil)))))))))
  exact ⟨fd, F, ok.imp fun vs H Q E h => spF_tells t_round_of h⟩
theorem S_round_of_2 (T : Txt K mg) : FnS P w K mg base 7 "round_of" 3 s_round_of 2 [] [.at 0, .at 1, .df (.tup [])] := by
  obtain ⟨fd, F0, ok⟩ := O_round_of (P := P) (w := w) (base := base) T
  have F : FunD K "round_of" "round_of" (defArgs (top 58)) (defBody (top 58)) (defScope (top 58)) [] [("off", (.ref ((U.kwAt ("round_of", none) "off") K)))] (He.fAd K ("round_of", none)) fd := F0
  obtain ⟨mv, kb⟩ := kbinds0 (ps := ["book", "state", "off"]) F 2 [] [("off", (.ref ((U.kwAt ("round_of", none) "off") K)))] (fun us mv ws => permL [0, 1, 2] (us ++ mv ++ ws)) (by simp) (by intro q hq; simp only [List.mem_cons, List.not_mem_nil, or_false] at hq; rcases hq with rfl <;> simp)
    (fun r1 r2 r3 => vals_perm _ ((r1.append r2).append r3)) (fun D doc pm an cdv ct us mv ws hu hm hw => match us, mv, ws, hu, hm, hw with | [_, _], [_], [], _, _, _ => ⟨_, _, _, _, _, _, rfl, rfl, rfl⟩)
  refine ⟨⟨_, fd, ["book", "state", "off"], _, _, ok, T.g_round_of, F.kp, kb, fun H m ds es vs zs r1 r2 l1 l2 => ?_⟩, a_round_of⟩
  match vs, zs, l1, l2 with
  | [v0, v1], [], _, _ =>
    obtain ⟨d0, ds, rfl, q0, r1⟩ := r1.inv1
    obtain ⟨d1, ds, rfl, q1, r1⟩ := r1.inv1
    obtain rfl := r1.inv0
    obtain rfl := r2.inv0
    exact ⟨[d0, d1, (.tup [])], rfl, (show RVs K H m [d0, d1, (.tup [])] [v0, v1, (.ref ((U.kwAt ("round_of", none) "off") K))] from (.cons q0 (.cons q1 (.cons (.tup (etup_ok T.x_round_of_off H) .nil) .nil))))⟩
theorem SC_quiet_from : FnScope ["book", "state", "off", "behind_last", "states", "dones", "begin", "number", "done"] ["book", "state", "off"] (defScope (top 59)) := ⟨rfl, rfl, rfl, by decide +kernel, rfl, by decide +kernel, by decide +kernel⟩
set_option maxHeartbeats 4000000 in
theorem O_quiet_from (T : Txt K mg) : ∃ fd, FunD K "quiet_from" "quiet_from" (defArgs (top 59)) (defBody (top 59)) (defScope (top 59)) (d_quiet_from.dvs K) (d_quiet_from.kws K) (He.fAd K ("quiet_from", none)) fd ∧ FnOk P w K mg base (L2.CX P w) 7 (He.fAd K ("quiet_from", none)) fd ["book", "state", "off"] (spF K 3 s_quiet_from) := by
  obtain ⟨fd, F⟩ := T.f_quiet_from
  have ok : FnOk P w K mg base (L2.CX P w) 7 (He.fAd K ("quiet_from", none)) fd ["book", "state", "off"] (spF K 3 m_quiet_from) := fn_F F SC_quiet_from (fun cdv A outer s H E hr => by
      have tk := takes_of (X := cxOf (L2.CX P w) P w K mg base ["book", "state", "off", "behind_last", "states", "dones", "begin", "number", "done"] "quiet_from" (defScope (top 59)) (He.fAd K ("quiet_from", none)) cdv A outer s H E) (E := E) rfl rfl rfl rfl
      exact (ss_cons (s_expr (e_call (F_want_state T) tk (hr.mono (by decide)) (a_cons (e_var 0) (a_cons (e_var 1) a_nil))))
    (ss_cons (s_expr (e_call (F_want_off T) tk (hr.mono (by decide)) (a_cons (e_var 0) (a_cons (e_var 2) a_nil))))
    (ss_cons (s_asg (e_call (F_trail T) tk (hr.mono (by decide)) (a_cons (e_var 0) (a_cons (e_var 1) (a_cons (e_var 2) a_nil)))) (g_tup 3 rfl (gs_cons (g_name 4 SC_quiet_from.nd) (gs_cons (g_name 5 SC_quiet_from.nd) (gs_cons (g_name 6 SC_quiet_from.nd) gs_nil)))))
    (ss_cons (s_set 3 (e_maxDef rfl hr T.b_max (e_lc [("number", 7), ("done", 8)] rfl SC_quiet_from.nd (go_tup 2 (gos_cons (go_name 7) (gos_cons (go_name 8) gos_nil))) (i_enum T.b_enumerate (e_var 5)) (blkOk_by (N := ["book", "state", "off", "behind_last", "states", "dones", "begin", "number", "done"]) (sc := defScope (top 59)) (by decide +kernel)) (fun _ _ _ _ _ => (pg_tup rfl (pgs_cons (pg_name (i := 7) SC_quiet_from.nd rfl (by first | exact Or.inl rfl | exact Or.inr rfl)) (pgs_cons (pg_name (i := 8) SC_quiet_from.nd rfl (by first | exact Or.inl rfl | exact Or.inr rfl)) pgs_nil)))) (fun _ _ _ _ _ => (c_if (t_cmp o_gt (e_len (x := "len") T.b_len (e_var 8)) e_int))) (fun _ _ _ _ _ => (e_op o_add (e_var 7) e_int))) e_int) SC_quiet_from.nd)
    (ss_one (s_ret (e_if (t_cmp o_gt (e_var 3) (e_var 6)) e_non (e_var 3)))))))))
  exact ⟨fd, F, ok.imp fun vs H Q E h => spF_tells t_quiet_from h⟩
theorem S_quiet_from_2 (T : Txt K mg) : FnS P w K mg base 7 "quiet_from" 3 s_quiet_from 2 [] [.at 0, .at 1, .df (.tup [])] := by
  obtain ⟨fd, F0, ok⟩ := O_quiet_from (P := P) (w := w) (base := base) T
  have F : FunD K "quiet_from" "quiet_from" (defArgs (top 59)) (defBody (top 59)) (defScope (top 59)) [] [("off", (.ref ((U.kwAt ("quiet_from", none) "off") K)))] (He.fAd K ("quiet_from", none)) fd := F0
  obtain ⟨mv, kb⟩ := kbinds0 (ps := ["book", "state", "off"]) F 2 [] [("off", (.ref ((U.kwAt ("quiet_from", none) "off") K)))] (fun us mv ws => permL [0, 1, 2] (us ++ mv ++ ws)) (by simp) (by intro q hq; simp only [List.mem_cons, List.not_mem_nil, or_false] at hq; rcases hq with rfl <;> simp)
    (fun r1 r2 r3 => vals_perm _ ((r1.append r2).append r3)) (fun D doc pm an cdv ct us mv ws hu hm hw => match us, mv, ws, hu, hm, hw with | [_, _], [_], [], _, _, _ => ⟨_, _, _, _, _, _, rfl, rfl, rfl⟩)
  refine ⟨⟨_, fd, ["book", "state", "off"], _, _, ok, T.g_quiet_from, F.kp, kb, fun H m ds es vs zs r1 r2 l1 l2 => ?_⟩, a_quiet_from⟩
  match vs, zs, l1, l2 with
  | [v0, v1], [], _, _ =>
    obtain ⟨d0, ds, rfl, q0, r1⟩ := r1.inv1
    obtain ⟨d1, ds, rfl, q1, r1⟩ := r1.inv1
    obtain rfl := r1.inv0
    obtain rfl := r2.inv0
    exact ⟨[d0, d1, (.tup [])], rfl, (show RVs K H m [d0, d1, (.tup [])] [v0, v1, (.ref ((U.kwAt ("quiet_from", none) "off") K))] from (.cons q0 (.cons q1 (.cons (.tup (etup_ok T.x_quiet_from_off H) .nil) .nil))))⟩
theorem SC_doings : FnScope ["book", "state", "rule", "off", "found", "sooner", "states", "dones", "begin", "number", "done"] ["book", "state", "rule", "off"] (defScope (top 65)) := ⟨rfl, rfl, rfl, by decide +kernel, rfl, by decide +kernel, by decide +kernel⟩
set_option maxHeartbeats 4000000 in
theorem F_doings (T : Txt K mg) : Fn P w K mg base 6 "doings" 4 m_doings := by
  obtain ⟨fd, F⟩ := T.f_doings
  have Z : Fn P w K mg base 6 "doings" 4 m_doings := ⟨⟨_, fd, ["book", "state", "rule", "off"], fn_F F SC_doings (fun cdv A outer s H E hr => by
      have tk := takes_of (X := cxOf (L2.CX P w) P w K mg base ["book", "state", "rule", "off", "found", "sooner", "states", "dones", "begin", "number", "done"] "doings" (defScope (top 65)) (He.fAd K ("doings", none)) cdv A outer s H E) (E := E) rfl rfl rfl rfl
      exact (ss_cons (s_asg (e_call (F_trail T) tk (hr.mono (by decide)) (a_cons (e_var 0) (a_cons (e_var 1) (a_cons (e_var 3) a_nil)))) (g_tup 3 rfl (gs_cons (g_name 6 SC_doings.nd) (gs_cons (g_name 7 SC_doings.nd) (gs_cons (g_name 8 SC_doings.nd) gs_nil)))))
    (ss_cons (by first | exact s_setLc 4 [("number", 9), ("done", 10)] rfl SC_doings.nd (go_tup 2 (gos_cons (go_name 9) (gos_cons (go_name 10) gos_nil))) (i_enum T.b_enumerate (e_var 7)) (blkOk_by (N := ["book", "state", "rule", "off", "found", "sooner", "states", "dones", "begin", "number", "done"]) (sc := defScope (top 65)) (by decide +kernel)) (fun _ _ _ _ _ => (pg_tup rfl (pgs_cons (pg_name (i := 9) SC_doings.nd rfl (by first | exact Or.inl rfl | exact Or.inr rfl)) (pgs_cons (pg_name (i := 10) SC_doings.nd rfl (by first | exact Or.inl rfl | exact Or.inr rfl)) pgs_nil)))) (fun _ _ _ _ _ => (c_if (t_cmp (o_in hr) (e_var 2) (e_var 10)))) (fun _ _ _ _ _ => (e_var 9)) (sw_true rfl rfl rfl (by decide +kernel)) | exact s_set 4 (e_lc [("number", 9), ("done", 10)] rfl SC_doings.nd (go_tup 2 (gos_cons (go_name 9) (gos_cons (go_name 10) gos_nil))) (i_enum T.b_enumerate (e_var 7)) (blkOk_by (N := ["book", "state", "rule", "off", "found", "sooner", "states", "dones", "begin", "number", "done"]) (sc := defScope (top 65)) (by decide +kernel)) (fun _ _ _ _ _ => (pg_tup rfl (pgs_cons (pg_name (i := 9) SC_doings.nd rfl (by first | exact Or.inl rfl | exact Or.inr rfl)) (pgs_cons (pg_name (i := 10) SC_doings.nd rfl (by first | exact Or.inl rfl | exact Or.inr rfl)) pgs_nil)))) (fun _ _ _ _ _ => (c_if (t_cmp (o_in hr) (e_var 2) (e_var 10)))) (fun _ _ _ _ _ => (e_var 9))) SC_doings.nd)
    (ss_cons (by first | exact s_setLc 5 [("number", 9)] rfl SC_doings.nd (go_name 9) (i_seq (e_var 4)) (blkOk_by (N := ["book", "state", "rule", "off", "found", "sooner", "states", "dones", "begin", "number", "done"]) (sc := defScope (top 65)) (by decide +kernel)) (fun _ _ _ _ _ => (pg_name (i := 9) SC_doings.nd rfl (by first | exact Or.inl rfl | exact Or.inr rfl))) (fun _ _ _ _ _ => (c_if (t_cmp o_lt (e_var 9) (e_var 8)))) (fun _ _ _ _ _ => (e_var 9)) (sw_true rfl rfl rfl (by decide +kernel)) | exact s_set 5 (e_lc [("number", 9)] rfl SC_doings.nd (go_name 9) (i_seq (e_var 4)) (blkOk_by (N := ["book", "state", "rule", "off", "found", "sooner", "states", "dones", "begin", "number", "done"]) (sc := defScope (top 65)) (by decide +kernel)) (fun _ _ _ _ _ => (pg_name (i := 9) SC_doings.nd rfl (by first | exact Or.inl rfl | exact Or.inr rfl))) (fun _ _ _ _ _ => (c_if (t_cmp o_lt (e_var 9) (e_var 8)))) (fun _ _ _ _ _ => (e_var 9))) SC_doings.nd)
    (ss_one (s_ret (e_tup (a_cons (e_var 5) (a_cons (e_slice (e_var 4) (p_some (e_len (x := "len") T.b_len (e_var 5))) p_none) (a_cons (e_var 8) (a_cons (e_op o_sub (e_len (x := "len") T.b_len (e_var 6)) (e_var 8)) a_nil))))))))))), T.g_doings, F.kp, F.bindsN fun _ _ _ _ _ _ us hl => match us, hl with | [_, _, _, _], _ => rfl⟩, mkFn_ar⟩
  exact Z
theorem SC_count_below : FnScope ["numbers", "bound", "number"] ["numbers", "bound"] (defScope (top 66)) := ⟨rfl, rfl, rfl, by decide +kernel, rfl, by decide +kernel, by decide +kernel⟩
set_option maxHeartbeats 4000000 in
theorem F_count_below (T : Txt K mg) : Fn P w K mg base 1 "count_below" 2 m_count_below := by
  obtain ⟨fd, F⟩ := T.f_count_below
  have Z : Fn P w K mg base 1 "count_below" 2 m_count_below := ⟨⟨_, fd, ["numbers", "bound"], fn_F F SC_count_below (fun cdv A outer s H E hr => by
      have tk := takes_of (X := cxOf (L2.CX P w) P w K mg base ["numbers", "bound", "number"] "count_below" (defScope (top 66)) (He.fAd K ("count_below", none)) cdv A outer s H E) (E := E) rfl rfl rfl rfl
      exact (ss_one (s_ret (e_len (x := "len") T.b_len (e_lc [("number", 2)] rfl SC_count_below.nd (go_name 2) (i_seq (e_var 0)) (blkOk_by (N := ["numbers", "bound", "number"]) (sc := defScope (top 66)) (by decide +kernel)) (fun _ _ _ _ _ => (pg_name (i := 2) SC_count_below.nd rfl (by first | exact Or.inl rfl | exact Or.inr rfl))) (fun _ _ _ _ _ => (c_if (t_cmp o_lt (e_var 2) (e_var 1)))) (fun _ _ _ _ _ => (e_var 2))))))), T.g_count_below, F.kp, F.bindsN fun _ _ _ _ _ _ us hl => match us, hl with | [_, _], _ => rfl⟩, mkFn_ar⟩
  exact Z
theorem SC_times : FnScope ["book", "state", "rule", "beats", "off", "sooner", "around", "begin", "length", "rounds", "rest"] ["book", "state", "rule", "beats", "off"] (defScope (top 60)) := ⟨rfl, rfl, rfl, by decide +kernel, rfl, by decide +kernel, by decide +kernel⟩
set_option maxHeartbeats 4000000 in
theorem O_times (T : Txt K mg) : ∃ fd, FunD K "times" "times" (defArgs (top 60)) (defBody (top 60)) (defScope (top 60)) (d_times.dvs K) (d_times.kws K) (He.fAd K ("times", none)) fd ∧ FnOk P w K mg base (L2.CX P w) 7 (He.fAd K ("times", none)) fd ["book", "state", "rule", "beats", "off"] (spF K 5 s_times) := by
  obtain ⟨fd, F⟩ := T.f_times
  have ok : FnOk P w K mg base (L2.CX P w) 7 (He.fAd K ("times", none)) fd ["book", "state", "rule", "beats", "off"] (spF K 5 m_times) := fn_F F SC_times (fun cdv A outer s H E hr => by
      have tk := takes_of (X := cxOf (L2.CX P w) P w K mg base ["book", "state", "rule", "beats", "off", "sooner", "around", "begin", "length", "rounds", "rest"] "times" (defScope (top 60)) (He.fAd K ("times", none)) cdv A outer s H E) (E := E) rfl rfl rfl rfl
      exact (ss_cons (s_expr (e_call (F_want_state T) tk (hr.mono (by decide)) (a_cons (e_var 0) (a_cons (e_var 1) a_nil))))
    (ss_cons (s_expr (e_call (F_want_rule T) tk (hr.mono (by decide)) (a_cons (e_var 0) (a_cons (e_var 2) a_nil))))
    (ss_cons (s_expr (e_call (F_want_beats T) tk (hr.mono (by decide)) (a_cons (e_var 3) (a_cons e_int a_nil))))
    (ss_cons (s_expr (e_call (F_want_off T) tk (hr.mono (by decide)) (a_cons (e_var 0) (a_cons (e_var 4) a_nil))))
    (ss_cons (s_asg (e_call (F_doings T) tk (hr.mono (by decide)) (a_cons (e_var 0) (a_cons (e_var 1) (a_cons (e_var 2) (a_cons (e_var 4) a_nil))))) (g_tup 4 rfl (gs_cons (g_name 5 SC_times.nd) (gs_cons (g_name 6 SC_times.nd) (gs_cons (g_name 7 SC_times.nd) (gs_cons (g_name 8 SC_times.nd) gs_nil))))))
    (ss_cons (s_if (t_cmp o_lt (e_var 3) (e_var 7)) (ss_one (s_ret (e_call (F_count_below T) tk (hr.mono (by decide)) (a_cons (e_var 5) (a_cons (e_var 3) a_nil))))) ss_nil)
    (ss_cons (s_asg (e_divmod T.b_divmod (e_op o_sub (e_var 3) (e_var 7)) (e_var 8)) (g_tup 2 rfl (gs_cons (g_name 9 SC_times.nd) (gs_cons (g_name 10 SC_times.nd) gs_nil))))
    (ss_one (s_ret (e_op o_add (e_op o_add (e_len (x := "len") T.b_len (e_var 5)) (e_op o_mul (e_var 9) (e_len (x := "len") T.b_len (e_var 6)))) (e_call (F_count_below T) tk (hr.mono (by decide)) (a_cons (e_var 6) (a_cons (e_op o_add (e_var 7) (e_var 10)) a_nil))))))))))))))
  exact ⟨fd, F, ok.imp fun vs H Q E h => spF_tells t_times h⟩
theorem S_times_4 (T : Txt K mg) : FnS P w K mg base 7 "times" 5 s_times 4 [] [.at 0, .at 1, .at 2, .at 3, .df (.tup [])] := by
  obtain ⟨fd, F0, ok⟩ := O_times (P := P) (w := w) (base := base) T
  have F : FunD K "times" "times" (defArgs (top 60)) (defBody (top 60)) (defScope (top 60)) [] [("off", (.ref ((U.kwAt ("times", none) "off") K)))] (He.fAd K ("times", none)) fd := F0
  obtain ⟨mv, kb⟩ := kbinds0 (ps := ["book", "state", "rule", "beats", "off"]) F 4 [] [("off", (.ref ((U.kwAt ("times", none) "off") K)))] (fun us mv ws => permL [0, 1, 2, 3, 4] (us ++ mv ++ ws)) (by simp) (by intro q hq; simp only [List.mem_cons, List.not_mem_nil, or_false] at hq; rcases hq with rfl <;> simp)
    (fun r1 r2 r3 => vals_perm _ ((r1.append r2).append r3)) (fun D doc pm an cdv ct us mv ws hu hm hw => match us, mv, ws, hu, hm, hw with | [_, _, _, _], [_], [], _, _, _ => ⟨_, _, _, _, _, _, rfl, rfl, rfl⟩)
  refine ⟨⟨_, fd, ["book", "state", "rule", "beats", "off"], _, _, ok, T.g_times, F.kp, kb, fun H m ds es vs zs r1 r2 l1 l2 => ?_⟩, a_times⟩
  match vs, zs, l1, l2 with
  | [v0, v1, v2, v3], [], _, _ =>
    obtain ⟨d0, ds, rfl, q0, r1⟩ := r1.inv1
    obtain ⟨d1, ds, rfl, q1, r1⟩ := r1.inv1
    obtain ⟨d2, ds, rfl, q2, r1⟩ := r1.inv1
    obtain ⟨d3, ds, rfl, q3, r1⟩ := r1.inv1
    obtain rfl := r1.inv0
    obtain rfl := r2.inv0
    exact ⟨[d0, d1, d2, d3, (.tup [])], rfl, (show RVs K H m [d0, d1, d2, d3, (.tup [])] [v0, v1, v2, v3, (.ref ((U.kwAt ("times", none) "off") K))] from (.cons q0 (.cons q1 (.cons q2 (.cons q3 (.cons (.tup (etup_ok T.x_times_off H) .nil) .nil))))))⟩
theorem SC__law_bag : FnScope ["_law_script", "_law_at", "_law_cell", "_law_great", "_law_primes"] ["_law_script", "_law_at"] (defScope (top 68)) := ⟨rfl, rfl, rfl, by decide +kernel, rfl, by decide +kernel, by decide +kernel⟩
set_option maxHeartbeats 4000000 in
theorem F__law_bag (T : Txt K mg) : Fn P w K mg base 1 "_law_bag" 2 s__law_bag := by
  obtain ⟨fd, F⟩ := T.f__law_bag
  have Z : Fn P w K mg base 1 "_law_bag" 2 m__law_bag := ⟨⟨_, fd, ["_law_script", "_law_at"], fn_F F SC__law_bag (fun cdv A outer s H E hr => by
      have tk := takes_of (X := cxOf (L2.CX P w) P w K mg base ["_law_script", "_law_at", "_law_cell", "_law_great", "_law_primes"] "_law_bag" (defScope (top 68)) (He.fAd K ("_law_bag", none)) cdv A outer s H E) (E := E) rfl rfl rfl rfl
      exact (ss_cons (s_set 2 e_int SC__law_bag.nd)
    (ss_cons (s_if (t_cmp o_lt (e_var 1) (e_len (x := "len") T.b_len (e_var 0))) (ss_one (s_set 2 (e_ix (e_var 0) (e_var 1)) SC__law_bag.nd)) ss_nil)
    (ss_cons (s_set 3 e_int SC__law_bag.nd)
    (ss_cons (s_if (t_cmp o_ge (e_abs T.b_abs (e_var 2)) (e_op o_pow e_int e_int)) (ss_one (s_set 3 (e_abs T.b_abs (e_var 2)) SC__law_bag.nd)) ss_nil)
    (ss_cons (s_set 4 (e_lst (a_cons e_int (a_cons e_int (a_cons e_int (a_cons e_int (a_cons e_int (a_cons e_int (a_cons e_int (a_cons e_int a_nil))))))))) SC__law_bag.nd)
    (ss_one (s_ret (e_lst (a_cons (e_var 3) (a_cons (e_op o_mod (e_op o_pow (e_op o_add (e_op o_add (e_op o_mod (e_var 2) e_int) (e_op o_mul e_int (e_var 1))) e_int) e_int) (e_ix (e_var 4) (e_op o_mod (e_var 1) e_int))) (a_cons e_int a_nil)))))))))))), T.g__law_bag, F.kp, F.bindsN fun _ _ _ _ _ _ us hl => match us, hl with | [_, _], _ => rfl⟩, mkFn_ar⟩
  exact U.Fn.by Z t__law_bag a__law_bag
theorem SC__law_take : FnScope ["_law_bag_here", "_law_many", "_law_digit"] ["_law_bag_here", "_law_many"] (defScope (top 69)) := ⟨rfl, rfl, rfl, by decide +kernel, rfl, by decide +kernel, by decide +kernel⟩
set_option maxHeartbeats 4000000 in
theorem F__law_take (T : Txt K mg) : Fn P w K mg base 1 "_law_take" 2 s__law_take := by
  obtain ⟨fd, F⟩ := T.f__law_take
  have Z : Fn P w K mg base 1 "_law_take" 2 m__law_take := ⟨⟨_, fd, ["_law_bag_here", "_law_many"], fn_F F SC__law_take (fun cdv A outer s H E hr => by
      have tk := takes_of (X := cxOf (L2.CX P w) P w K mg base ["_law_bag_here", "_law_many", "_law_digit"] "_law_take" (defScope (top 69)) (He.fAd K ("_law_take", none)) cdv A outer s H E) (E := E) rfl rfl rfl rfl
      exact (ss_cons (s_if (t_cmp o_gt (e_ix (e_var 0) e_int) e_int) (ss_cons (s_set 2 (e_op o_mod (e_ix (e_var 0) e_int) (e_var 1)) SC__law_take.nd)
    (ss_cons (s_asg (e_op o_div (e_ix (e_var 0) e_int) (e_var 1)) (g_sub (W := W0) (e_var 0) e_int))
    (ss_one (s_ret (e_var 2))))) ss_nil)
    (ss_cons (s_asg (e_op o_add (e_ix (e_var 0) e_int) e_int) (g_sub (W := W0) (e_var 0) e_int))
    (ss_cons (s_asg (e_op o_mod (e_op o_add (e_op o_add (e_op o_mul (e_ix (e_var 0) e_int) e_int) (e_op o_mul (e_op o_mul e_int (e_ix (e_var 0) e_int)) (e_ix (e_var 0) e_int))) e_int) e_int) (g_sub (W := W0) (e_var 0) e_int))
    (ss_one (s_ret (e_op o_mod (e_op o_mod (e_op o_pow (e_op o_div (e_ix (e_var 0) e_int) e_int) e_int) e_int) (e_var 1)))))))), T.g__law_take, F.kp, F.bindsN fun _ _ _ _ _ _ us hl => match us, hl with | [_, _], _ => rfl⟩, mkFn_ar⟩
  exact U.Fn.by Z t__law_take a__law_take
theorem SC__law_place : FnScope ["_law_size", "_law_coming", "_law_goal", "_law_still_here", "_law_n", "_law_rest"] ["_law_size", "_law_coming", "_law_goal", "_law_still_here", "_law_n"] (defScope (top 70)) := ⟨rfl, rfl, rfl, by decide +kernel, rfl, by decide +kernel, by decide +kernel⟩
set_option maxHeartbeats 4000000 in
theorem F__law_place (T : Txt K mg) : Fn P w K mg base 1 "_law_place" 5 m__law_place := by
  obtain ⟨fd, F⟩ := T.f__law_place
  have Z : Fn P w K mg base 1 "_law_place" 5 m__law_place := ⟨⟨_, fd, ["_law_size", "_law_coming", "_law_goal", "_law_still_here", "_law_n"], fn_F F SC__law_place (fun cdv A outer s H E hr => by
      have tk := takes_of (X := cxOf (L2.CX P w) P w K mg base ["_law_size", "_law_coming", "_law_goal", "_law_still_here", "_law_n", "_law_rest"] "_law_place" (defScope (top 70)) (He.fAd K ("_law_place", none)) cdv A outer s H E) (E := E) rfl rfl rfl rfl
      exact (ss_cons (s_if (t_cmp o_le (e_var 4) (e_var 1)) (ss_one (s_ret (e_op o_mod (e_op o_sub (e_op o_add (e_var 2) (e_var 4)) (e_var 1)) (e_var 0)))) ss_nil)
    (ss_cons (s_if (t_cmp o_lt (e_var 3) e_int) (ss_one (s_ret (e_var 2))) ss_nil)
    (ss_cons (s_set 5 (e_op o_mod (e_op o_sub (e_var 4) (e_var 1)) (e_op o_add (e_var 0) (e_var 3))) SC__law_place.nd)
    (ss_one (s_ret (e_if (t_cmp o_le (e_var 5) (e_var 3)) (e_var 2) (e_op o_mod (e_op o_sub (e_op o_add (e_var 2) (e_var 5)) (e_var 3)) (e_var 0))))))))), T.g__law_place, F.kp, F.bindsN fun _ _ _ _ _ _ us hl => match us, hl with | [_, _, _, _, _], _ => rfl⟩, mkFn_ar⟩
  exact Z
theorem SC__law_ten : FnScope ["_law_many", "_law_found", "_law_turn"] ["_law_many"] (defScope (top 71)) := ⟨rfl, rfl, rfl, by decide +kernel, rfl, by decide +kernel, by decide +kernel⟩
set_option maxHeartbeats 4000000 in
theorem F__law_ten (T : Txt K mg) : Fn P w K mg base 1 "_law_ten" 1 m__law_ten := by
  obtain ⟨fd, F⟩ := T.f__law_ten
  have Z : Fn P w K mg base 1 "_law_ten" 1 m__law_ten := ⟨⟨_, fd, ["_law_many"], fn_F F SC__law_ten (fun cdv A outer s H E hr => by
      have tk := takes_of (X := cxOf (L2.CX P w) P w K mg base ["_law_many", "_law_found", "_law_turn"] "_law_ten" (defScope (top 71)) (He.fAd K ("_law_ten", none)) cdv A outer s H E) (E := E) rfl rfl rfl rfl
      exact (ss_cons (s_set 1 e_int SC__law_ten.nd)
    (ss_cons (s_for (passes_of rfl) rfl (i_rng1 T.b_range (e_var 0)) (g_name 2 SC__law_ten.nd) (ss_one (s_set 1 (e_op o_mul (e_var 1) e_int) SC__law_ten.nd)))
    (ss_one (s_ret (e_var 1)))))), T.g__law_ten, F.kp, F.bindsN fun _ _ _ _ _ _ us hl => match us, hl with | [_], _ => rfl⟩, mkFn_ar⟩
  exact Z
theorem SC__law_still : FnScope ["_law_hushed", "_law_rests", "_law_is_first"] ["_law_hushed", "_law_rests", "_law_is_first"] (defScope (top 72)) := ⟨rfl, rfl, rfl, by decide +kernel, rfl, by decide +kernel, by decide +kernel⟩
set_option maxHeartbeats 4000000 in
theorem F__law_still (T : Txt K mg) : Fn P w K mg base 1 "_law_still" 3 m__law_still := by
  obtain ⟨fd, F⟩ := T.f__law_still
  have Z : Fn P w K mg base 1 "_law_still" 3 m__law_still := ⟨⟨_, fd, ["_law_hushed", "_law_rests", "_law_is_first"], fn_F F SC__law_still (fun cdv A outer s H E hr => by
      have tk := takes_of (X := cxOf (L2.CX P w) P w K mg base ["_law_hushed", "_law_rests", "_law_is_first"] "_law_still" (defScope (top 72)) (He.fAd K ("_law_still", none)) cdv A outer s H E) (E := E) rfl rfl rfl rfl
      exact (ss_cons (s_if (t_val (e_var 2)) (ss_one (s_ret (e_if (t_cmp o_gt (e_var 1) (e_var 0)) (e_var 0) (e_neg e_int)))) ss_nil)
    (ss_cons (s_if (t_cmp (o_eq hr) (e_var 0) e_int) (ss_one (s_ret e_int)) ss_nil)
    (ss_one (s_ret (e_if (t_cmp o_ge (e_var 1) (e_var 0)) (e_op o_sub (e_var 0) e_int) (e_neg e_int))))))), T.g__law_still, F.kp, F.bindsN fun _ _ _ _ _ _ us hl => match us, hl with | [_, _, _], _ => rfl⟩, mkFn_ar⟩
  exact Z
theorem SC_law : FnScope ["_law_script", "_law_k", "_law_bag_here", "_law_is_first", "_law_pairs", "_law_still_one", "_law_turns", "_law_book", "_law_coming", "_law_n", "_law_once", "_law_far", "_law_turned", "_law_below", "_law_size", "_law_hushed", "_law_rests", "_law_goal", "_law_first", "_law_turner", "_law_state", "_law_still_here", "_law_due", "_law_turn"] ["_law_script"] (defScope (top 73)) := ⟨rfl, rfl, rfl, by decide +kernel, rfl, by decide +kernel, by decide +kernel⟩
set_option maxHeartbeats 4000000 in
theorem E_law (T : Txt K mg) : ∃ fd : FuncData, (∀ (s : Shared) (u : Value), BindsTo s fd ⟨[u], []⟩ [("_law_script", u)]) ∧ ∀ base : Heap, FnOk P w K mg base (L2.CX P w) 9 (He.fAd K ("law", none)) fd ["_law_script"] (spF K 1 m_law) := by
  obtain ⟨fd, F⟩ := T.f_law
  have b := FunD.bindsA (ps := ["_law_script"]) F fun _ _ _ _ _ _ us hl => match us, hl with | [_], _ => rfl
  exact ⟨fd, fun s u => b s [u] rfl, fun base => fn_F F SC_law (fun cdv A outer s H E hr => by
      have tk := takes_of (X := cxOf (L2.CX P w) P w K mg base ["_law_script", "_law_k", "_law_bag_here", "_law_is_first", "_law_pairs", "_law_still_one", "_law_turns", "_law_book", "_law_coming", "_law_n", "_law_once", "_law_far", "_law_turned", "_law_below", "_law_size", "_law_hushed", "_law_rests", "_law_goal", "_law_first", "_law_turner", "_law_state", "_law_still_here", "_law_due", "_law_turn"] "law" (defScope (top 73)) (He.fAd K ("law", none)) cdv A outer s H E) (E := E) rfl rfl rfl rfl
      exact (ss_cons (s_for (passes_of rfl) rfl (i_rng1 T.b_range (e_max2 rfl T.b_max e_int (e_min2 rfl T.b_min e_int (e_len (x := "len") T.b_len (e_var 0))))) (g_name 1 SC_law.nd) (ss_cons (s_set 2 (e_call (F__law_bag T) tk (hr.mono (by decide)) (a_cons (e_var 0) (a_cons (e_var 1) a_nil))) SC_law.nd)
    (ss_cons (s_par3 14 15 16 rfl SC_law.nd (e_op o_add e_int (e_call (F__law_take T) tk (hr.mono (by decide)) (a_cons (e_var 2) (a_cons e_int a_nil)))) (e_op o_add e_int (e_call (F__law_take T) tk (hr.mono (by decide)) (a_cons (e_var 2) (a_cons e_int a_nil)))) (e_call (F__law_take T) tk (hr.mono (by decide)) (a_cons (e_var 2) (a_cons e_int a_nil))))
    (ss_cons (s_set 3 (e_cmp (o_eq hr) (e_call (F__law_take T) tk (hr.mono (by decide)) (a_cons (e_var 2) (a_cons e_int a_nil))) e_int) SC_law.nd)
    (ss_cons (s_par3 17 18 19 rfl SC_law.nd (e_call (F__law_take T) tk (hr.mono (by decide)) (a_cons (e_var 2) (a_cons (e_var 14) a_nil))) (e_call (F__law_take T) tk (hr.mono (by decide)) (a_cons (e_var 2) (a_cons (e_var 14) a_nil))) (e_intc T.b_int (e_var 3)))
    (ss_cons (s_set 4 (e_op o_add (e_lst (a_cons (e_tup (a_cons (e_var 19) (a_cons (e_var 15) a_nil))) a_nil)) (e_op o_mul2 (e_lst (a_cons (e_tup (a_cons (e_op o_sub e_int (e_var 19)) (a_cons (e_var 16) a_nil))) a_nil)) (e_intc T.b_int (e_cmp o_gt (e_var 16) e_int)))) SC_law.nd)
    (ss_cons (s_set 5 (e_tup (a_cons (e_tup (a_cons (e_tup (a_cons e_str (a_cons e_int (a_cons (e_var 17) a_nil)))) a_nil)) (a_cons (e_tup a_nil) (a_cons (e_tuple T.b_tuple (e_sortG hr T.b_sorted (e_var 4))) (a_cons (e_tup a_nil) a_nil))))) SC_law.nd)
    (ss_cons (s_set 6 (e_tup (a_cons (e_tup a_nil) (a_cons (e_tup (a_cons (e_tup (a_cons e_str (a_cons e_int (a_cons e_int a_nil)))) a_nil)) (a_cons (e_tup a_nil) (a_cons (e_tup a_nil) a_nil))))) SC_law.nd)
    (ss_cons (s_set 7 (e_make (M_Book T) tk (hr.mono (by decide)) (a_cons (e_tup (a_cons (e_var 14) a_nil)) (a_cons (e_if (t_val (e_var 3)) (e_tup (a_cons (e_var 5) (a_cons (e_var 6) a_nil))) (e_tup (a_cons (e_var 6) (a_cons (e_var 5) a_nil)))) a_nil))) SC_law.nd)
    (ss_cons (s_par 20 21 rfl SC_law.nd (e_call (F_begun T) tk (hr.mono (by decide)) (a_cons (e_var 7) (a_cons (e_tup (a_cons (e_var 18) a_nil)) a_nil))) (e_call (F__law_still T) tk (hr.mono (by decide)) (a_cons (e_var 15) (a_cons (e_var 16) (a_cons (e_var 3) a_nil)))))
    (ss_cons (s_set 8 (e_op o_mod (e_op o_sub (e_var 17) (e_var 18)) (e_var 14)) SC_law.nd)
    (ss_cons (s_set 8 (e_op o_add (e_var 8) (e_op o_mul (e_var 14) (e_intc T.b_int (e_and (e_cmp (o_eq hr) (e_var 8) e_int) (e_one (e_not (e_var 3))))))) SC_law.nd)
    (ss_cons (s_for (passes_of rfl) rfl (i_seq (e_op o_add (e_listRg rfl T.b_list T.b_range e_int) (e_lc [("_law_turn", 23)] rfl SC_law.nd (go_name 23) (i_rng1 T.b_range e_int) (blkOk_by (N := ["_law_script", "_law_k", "_law_bag_here", "_law_is_first", "_law_pairs", "_law_still_one", "_law_turns", "_law_book", "_law_coming", "_law_n", "_law_once", "_law_far", "_law_turned", "_law_below", "_law_size", "_law_hushed", "_law_rests", "_law_goal", "_law_first", "_law_turner", "_law_state", "_law_still_here", "_law_due", "_law_turn"]) (sc := defScope (top 73)) (by decide +kernel)) (fun _ _ _ _ _ => (pg_name (i := 23) SC_law.nd rfl (by first | exact Or.inl rfl | exact Or.inr rfl))) (fun _ _ _ _ _ => c_yes) (fun _ _ _ _ _ => (e_op o_sub (e_call (F__law_ten T) takes0 (hr.mono (by decide)) (a_cons (e_call (F__law_take T) takes0 (hr.mono (by decide)) (a_cons (e_var 2) (a_cons e_int a_nil))) a_nil)) e_int))))) (g_name 9 SC_law.nd) (ss_cons (s_set 22 (e_call (F__law_place T) tk (hr.mono (by decide)) (a_cons (e_var 14) (a_cons (e_var 8) (a_cons (e_var 17) (a_cons (e_var 21) (a_cons (e_var 9) a_nil)))))) SC_law.nd)
    (ss_one (s_if (t_cmp (o_ne hr) (e_ix (e_callN (S_state_at_3 T) tk (hr.mono (by decide)) (al_cons (al_cons (al_cons al_nil))) al_nil (a_cons (e_var 7) (a_cons (e_var 20) (a_cons (e_var 9) a_nil))) k_nil) e_int) (e_tup (a_cons (e_var 22) a_nil))) (ss_one (s_ret e_bl)) ss_nil))))
    (ss_cons (s_if (t_cmp o_notN (e_callN (S_quiet_from_2 T) tk (hr.mono (by decide)) (al_cons (al_cons al_nil)) al_nil (a_cons (e_var 7) (a_cons (e_var 20) a_nil)) k_nil) e_non) (ss_one (s_ret e_bl)) ss_nil)
    (ss_cons (s_set 10 (e_op o_add (e_var 14) (e_max2 rfl T.b_max e_int (e_var 21))) SC_law.nd)
    (ss_cons (s_if (t_w (w_and (t_cmp o_ge (e_var 21) e_int) (w_and1 (t_cmp (o_ne hr) (e_ix (e_callN (S_round_of_2 T) tk (hr.mono (by decide)) (al_cons (al_cons al_nil)) al_nil (a_cons (e_var 7) (a_cons (e_var 20) a_nil)) k_nil) e_int) (e_op o_add (e_var 10) (e_op o_mul (e_var 10) (e_intc T.b_int (e_cmp o_gt (e_var 16) (e_var 10))))))))) (ss_one (s_ret e_bl)) ss_nil)
    (ss_cons (s_set 11 (e_op o_mul e_int (e_var 10)) SC_law.nd)
    (ss_cons (s_set 12 (e_if (t_cmp o_ge (e_var 21) e_int) (e_op o_mul e_int (e_var 14)) e_int) SC_law.nd)
    (ss_cons (s_set 13 (e_callN (S_times_4 T) tk (hr.mono (by decide)) (al_cons (al_cons (al_cons (al_cons al_nil)))) al_nil (a_cons (e_var 7) (a_cons (e_var 20) (a_cons (e_var 19) (a_cons e_int a_nil)))) k_nil) SC_law.nd)
    (ss_one (s_if (t_cmp (o_ne hr) (e_callN (S_times_4 T) tk (hr.mono (by decide)) (al_cons (al_cons (al_cons (al_cons al_nil)))) al_nil (a_cons (e_var 7) (a_cons (e_var 20) (a_cons (e_var 19) (a_cons (e_op o_add e_int (e_var 11)) a_nil)))) k_nil) (e_op o_add (e_var 13) (e_var 12))) (ss_one (s_ret e_bl)) ss_nil)))))))))))))))))))))
    (ss_one (s_ret e_bl))))⟩
end
end Hd
set_option Elab.async false
set_option linter.all false
set_option maxRecDepth 100000
set_option maxHeartbeats 0
namespace Hd
open PySem U
def stillI (h r : Int) (f : Bool) : Int := if f = true then (if h < r then h else -1) else if h = 1 then 0 else if h ≤ r then h - 1 else -1
def placeI (size coming goal still n : Int) : Int := if n ≤ coming then (goal + n - coming) % size else if still < 0 then goal else
  if (n - coming) % (size + still) ≤ still then goal else (goal + (n - coming) % (size + still) - still) % size
def pairI (i j : Int) : D := .tup [.int i, .int j]
def turnerI (f : Bool) : Int := if f = true then 1 else 0
def hsD (h r : Int) (f : Bool) : List D := if 0 < r then (if f = true then [pairI 0 r, pairI 1 h] else [pairI 0 h, pairI 1 r]) else [pairI (turnerI f) h]
def stillR (h r : Int) (f : Bool) (g : Int) : D := .tup [.tup [.tup [.str "is", .int 0, .int g]], .tup [], .tup (hsD h r f), .tup []]
def turnR : D := .tup [.tup [], .tup [.tup [.str "turn", .int 0, .int 1]], .tup [], .tup []]
def rsD (h r : Int) (f : Bool) (g : Int) : List D := if f = true then [stillR h r f g, turnR] else [turnR, stillR h r f g]
def stD (p : Int) : D := .tup [.tup [.int p], .tup [.int 0, .int 0]]
def comI (size g p : Int) (f : Bool) : Int := (g - p) % size + size * (if (g - p) % size = 0 ∧ f = false then 1 else 0)
def tens : List Int := (List.range 60).map fun e => (10 : Int) ^ e - 1
def nears : List Int := (List.range 30).map fun (e : Nat) => (e : Int)
def atOk (ss : List D) (b size coming g still n : Int) : Bool := match L2.atI ss (nAt b ss.length n) with
  | some (.tup (.tup [.int v] :: _)) => v == placeI size coming g still n
  | _ => false
def chk (size h r : Int) (f : Bool) (g p : Int) : Bool :=
  let still := stillI h r f
  let coming := comI size g p f
  let once := size + iMax 0 still
  wheelsD (.tup [.int size]) && ((rsD h r f g).all fun x => ruleWords x && ruleD [.int size] 2 x) && valuesD [.int size] (.tup [.int p]) && match runO [.int size] (rsD h r f g) (stD p) (.tup []) with
  | some (ss, dns, b) => (nears.all fun n => atOk ss b size coming g still n) && (tens.all fun n => atOk ss b size coming g still n) && decide (b < lastDid dns) && (decide (still < 0) || ((ss.length : Int) - b == once + once * (if once < r then 1 else 0)))
      && (timesO ss dns b (turnerI f) (40 + 1000 * once) == timesO ss dns b (turnerI f) 40 + (if 0 ≤ still then 1000 * size else 0))
  | none => false
def bools2 : List Bool := [true, false]
def chkF (S : Int) (n h : Nat) : Bool := (List.range 4).all fun r => bools2.all fun f => (List.range n).all fun g => (List.range n).all fun p => chk S (1 + (h : Int)) (r : Int) f (g : Int) (p : Int)
theorem c20 : chkF 2 2 0 = true := by decide +kernel
theorem c21 : chkF 2 2 1 = true := by decide +kernel
theorem c22 : chkF 2 2 2 = true := by decide +kernel
theorem c30 : chkF 3 3 0 = true := by decide +kernel
theorem c31 : chkF 3 3 1 = true := by decide +kernel
theorem c32 : chkF 3 3 2 = true := by decide +kernel
theorem c40 : chkF 4 4 0 = true := by decide +kernel
theorem c41 : chkF 4 4 1 = true := by decide +kernel
theorem c42 : chkF 4 4 2 = true := by decide +kernel
theorem chk_all {a h r g p : Nat} {f : Bool} (ha : a < 3) (hh : h < 3) (hr : r < 4) (hg : g < 2 + a) (hp : p < 2 + a) : chk (2 + (a : Int)) (1 + (h : Int)) (r : Int) f (g : Int) (p : Int) = true := by
  have hf : f ∈ bools2 := by cases f <;> simp [bools2]
  have key : ∀ {n : Nat} {S : Int}, chkF S n h = true → g < n → p < n → chk S (1 + (h : Int)) (r : Int) f (g : Int) (p : Int) = true := by
    intro n S hc hg hp
    have h2 := List.all_eq_true.mp hc r (List.mem_range.mpr hr)
    have h3 := List.all_eq_true.mp h2 f hf
    have h4 := List.all_eq_true.mp h3 g (List.mem_range.mpr hg)
    exact List.all_eq_true.mp h4 p (List.mem_range.mpr hp)
  have h1 : a = 0 ∨ a = 1 ∨ a = 2 := by omega
  have h2 : h = 0 ∨ h = 1 ∨ h = 2 := by omega
  rcases h1 with rfl | rfl | rfl <;> rcases h2 with rfl | rfl | rfl
  · exact key c20 (by omega) (by omega)
  · exact key c21 (by omega) (by omega)
  · exact key c22 (by omega) (by omega)
  · exact key c30 (by omega) (by omega)
  · exact key c31 (by omega) (by omega)
  · exact key c32 (by omega) (by omega)
  · exact key c40 (by omega) (by omega)
  · exact key c41 (by omega) (by omega)
  · exact key c42 (by omega) (by omega)
end Hd
set_option Elab.async false
set_option linter.all false
set_option maxRecDepth 100000
set_option maxHeartbeats 1000000
namespace Hd
open PySem U
local macro_rules | `(tactic| walk_at "ex1") => `(tactic| first | (with_reducible refine w_seq ?_) | (with_reducible refine w_set ?_) | (with_reducible refine w_ret ?_) | (with_reducible refine w_sif ?_) | (with_reducible refine w_asg2 ?_) | (with_reducible refine w_asg3 ?_) | (with_reducible refine w_asg4 ?_) | (with_reducible refine w_ex2 ?_) | (with_reducible refine w_ex3 ?_) | (with_reducible refine w_ex4 ?_) | (with_reducible refine w_par ?_) | (with_reducible refine w_par3 ?_) | (with_reducible refine w_expr ?_) | (with_reducible refine w_for ?_) | (with_reducible refine w_skip ?_) | (with_reducible refine w_fn ?_) | (with_reducible refine w_acons ?_) | (with_reducible refine w_anil ?_) | (with_reducible refine w_aapp ?_) | (with_reducible refine w_bin ?_) | (with_reducible refine w_un ?_) | (with_reducible refine w_c ?_) | (with_reducible refine w_tof ?_) | (with_reducible refine w_tob ?_) | (with_reducible refine w_tand ?_) | (with_reducible refine w_tor ?_) | (with_reducible refine w_tnot ?_) | (with_reducible refine w_eand ?_) | (with_reducible refine w_eor ?_) | (with_reducible refine w_enot ?_) | (with_reducible refine w_exb ?_) | (with_reducible refine w_exi ?_) | (with_reducible refine w_if ?_) | (with_reducible refine w_slice ?_) | (with_reducible refine w_onone ?_) | (with_reducible refine w_osome ?_) | (with_reducible refine w_lc ?_) | (with_reducible refine w_mtl ?_) | (with_reducible refine w_iseq ?_) | (with_reducible refine w_irng ?_) | (with_reducible refine w_ienum ?_) | (with_reducible refine w_ibin ?_) | (with_reducible refine w_true ?_) | (with_reducible refine cond_t ?_) | (with_reducible refine cond_f ?_))
local macro_rules | `(tactic| walk_at "ex2") => `(tactic| first | (with_reducible refine w_addI ?_) | (with_reducible refine w_subI ?_) | (with_reducible refine w_ltI ?_) | (with_reducible refine w_leI ?_) | (with_reducible refine w_gtI ?_) | (with_reducible refine w_geI ?_) | (with_reducible refine w_eqI ?_) | (with_reducible refine w_neI ?_) | (with_reducible refine w_negI ?_) | (with_reducible refine w_maxI ?_) | (with_reducible refine w_minI ?_) | (with_reducible refine w_lenT ?_) | (with_reducible refine w_slT ?_) | (with_reducible refine w_sseq ?_) | (with_reducible refine w_senum ?_) | (with_reducible refine w_szip ?_) | (with_reducible refine w_eqB ?_) | (with_reducible refine w_neB ?_))
local macro_rules | `(tactic| walk_at "ex3") => `(tactic| first | ((with_reducible apply w_var); (focus exact rfl)) | ((with_reducible apply wr_by); (focus with_reducible assumption)) | ((with_reducible apply w_via); (focus exact rfl)) | ((with_reducible apply w_mkTup); (focus exact Nat.le_of_ble_eq_true rfl)) | ((with_reducible apply w_mkLst); (focus exact Nat.le_of_ble_eq_true rfl)) | ((with_reducible apply w_ix); (focus exact rfl); (focus exact rfl)) | ((with_reducible apply w_lenL); (focus with_reducible assumption)) | ((with_reducible apply w_lenL); (focus with_reducible exact get_end)) | ((with_reducible apply w_isl); (focus with_reducible assumption)) | ((with_reducible apply w_append); (focus with_reducible assumption); (focus with_reducible assumption)) | ((with_reducible apply w_slL); (focus with_reducible assumption)) | ((with_reducible apply w_enumL); (focus with_reducible assumption)) | ((with_reducible apply w_tupL); (focus with_reducible assumption)) | ((with_reducible apply w_sdyn); (focus with_reducible assumption)) | ((with_reducible apply w_isi); (focus exact rfl)) | ((with_reducible apply w_isi2); (focus exact rfl)) | ((with_reducible apply cond_af); (focus exact rfl)) | ((with_reducible apply cond_at); (focus exact rfl)))
local macro_rules | `(tactic| walk_at "go") => `(tactic| repeat (first | walk_at "ex1" | walk_at "ex2" | walk_at "ex3"))
def Bag (st : Sto) (b : Nat) (c : Int) : Prop := ∃ g x c', st[b]? = some (lst3 g x c') ∧ CtOk x c' ∧ c' ≤ c
theorem take_step {st : Sto} {b : Nat} {c many : Int} (h : Bag st b c) (h0 : 0 < many) (h1 : many < 1073741824) (hc : c + 1 < 1000000) :
    ∃ (v : Nat) (st' : Sto), s__law_take [.ref b, .int many] st = .ok (.int (v : Int)) st' ∧ (v : Int) < many ∧ Bag st' b (c + 1) ∧ (∀ i, i ≠ b → st'[i]? = st[i]?) ∧ st'.length = st.length := by
  obtain ⟨g, x, c', hb, ok, hle⟩ := h
  have hr := take_range (g := g) (x := x) (c := c') h0
  obtain ⟨v, hv⟩ := Int.eq_ofNat_of_zero_le hr.1
  refine ⟨v, _, by rw [← hv]; exact take_of hb ok h0 (by omega), by omega, ?_, fun i hi => List.getElem?_set_ne (Ne.symm hi), by simp⟩
  obtain ⟨g', x', c'', e, ok', hle'⟩ := take_next (g := g) (many := many) ok (by omega)
  exact ⟨g', x', c'', by rw [get_set (List.getElem?_eq_some_iff.mp hb).1, e], ok', by omega⟩
theorem get0 {st ex : Sto} {o : Ob} {i : Nat} (h : st[i]? = some o) : (st ++ ex)[i]? = some o := by rw [List.getElem?_append_left (List.getElem?_eq_some_iff.mp h).1]; exact h
theorem Bag.app {st ex : Sto} {b : Nat} {c : Int} (h : Bag st b c) : Bag (st ++ ex) b c := by
  obtain ⟨g, x, c', hb, r⟩ := h
  exact ⟨g, x, c', get0 hb, r⟩
theorem runLc_J {xs : List D} {g : GM} {e : EM} {env : Ev} {k : Nat} (J : Nat → List D → Sto → Prop) (hk : ∀ i acc st, J i acc st → acc.length < most)
    (h : ∀ i x acc st, xs[i]? = some x → J i acc st → ∃ env1 st1 d st2, g x env st = some (env1, st1) ∧ e env1 st = .ok d st2 ∧ st2[k]? = some (.lst acc) ∧ J (i + 1) (acc ++ [d]) (st2.set k (.lst (acc ++ [d])))) :
    ∀ (n i : Nat) (acc : List D) (st : Sto), xs.length = i + n → J i acc st → ∃ acc' st', runLc (.fix xs) g tTrue e k env (n + 1) i st = .ok (.ref k) st' ∧ J xs.length acc' st'
  | 0, i, acc, st, hn, hJ => by
    have e : i = xs.length := by omega
    subst e
    refine ⟨acc, st, ?_, hJ⟩
    unfold runLc
    simp only [Src.at]
    rw [List.getElem?_eq_none (Nat.le_refl _)]
  | n + 1, i, acc, st, hn, hJ => by
    have hi : i < xs.length := by omega
    obtain ⟨env1, st1, d, st2, h1, h2, h3, h4⟩ := h i xs[i] acc st (List.getElem?_eq_getElem hi) hJ
    obtain ⟨acc', st', h5, h6⟩ := runLc_J J hk h n (i + 1) (acc ++ [d]) _ (by omega) h4
    refine ⟨acc', st', ?_, h6⟩
    unfold runLc
    simp only [Src.at]
    rw [List.getElem?_eq_getElem hi]
    simp only [h1, tTrue, R.bind, if_true, h2, h3]
    rw [if_pos (hk _ _ _ hJ)]
    exact h5
theorem startLc_J {xs : List D} {g : GM} {e : EM} {env : Ev} {st : Sto} (J : Nat → List D → Sto → Prop) (hk : ∀ i acc st, J i acc st → acc.length < most) (h0 : J 0 [] (st ++ [.lst []]))
    (h : ∀ i x acc s', xs[i]? = some x → J i acc s' → ∃ env1 st1 d st2, g x env s' = some (env1, st1) ∧ e env1 s' = .ok d st2 ∧ st2[st.length]? = some (.lst acc) ∧ J (i + 1) (acc ++ [d]) (st2.set st.length (.lst (acc ++ [d])))) :
    ∃ acc' st', startLc g tTrue e env (.fix xs) st = .ok (.ref st.length) st' ∧ J xs.length acc' st' :=
  runLc_J J hk h xs.length 0 [] _ (by omega) h0
theorem seq_to {a b : SM} {env env1 : Ev} {st st1 : Sto} {r : RS} (h1 : a env st = .nx env1 st1) (h2 : b env1 st1 = r) : sSeq a b env st = r := by unfold sSeq; rw [h1]; exact h2
theorem set_to {i : Nat} {g : EM} {b : SM} {env : Ev} {st st1 : Sto} {d : D} {r : RS} (h1 : g env st = .ok d st1) (h2 : b (env.set i (some d)) st1 = r) : sSeq (sSet i g) b env st = r := seq_to (by unfold sSet; rw [h1]; rfl) h2
theorem par_to {i j : Nat} {ga gb : EM} {b : SM} {env : Ev} {st s1 s2 : Sto} {x y : D} {r : RS} (h1 : ga env st = .ok x s1) (h2 : gb env s1 = .ok y s2) (h : b ((env.set i (some x)).set j (some y)) s2 = r) : sSeq (sPar i j ga gb) b env st = r := seq_to (by unfold sPar; rw [h1]; simp only [R.then]; rw [h2]) h
theorem par3_to {i j l : Nat} {ga gb gc : EM} {b : SM} {env : Ev} {st s1 s2 s3 : Sto} {x y z : D} {r : RS} (h1 : ga env st = .ok x s1) (h2 : gb env s1 = .ok y s2) (h3 : gc env s2 = .ok z s3) (h : b (((env.set i (some x)).set j (some y)).set l (some z)) s3 = r) : sSeq (sPar3 i j l ga gb gc) b env st = r := seq_to (by unfold sPar3; rw [h1]; simp only [R.then]; rw [h2]; simp only; rw [h3]) h
theorem if_to {t : TM} {a b : SM} {env : Ev} {st st1 : Sto} {r : RS} (h1 : t env st = .ok false st1) (h2 : b env st1 = r) : sSeq (sIf t a sSkip) b env st = r := seq_to (by unfold sIf; rw [h1]; rfl) h2
theorem still_run {st : Sto} {h r : Int} {f : Bool} : m__law_still [.int h, .int r, .bl f] st = .ok (.int (stillI h r f)) st := by
  unfold stillI
  cases f with
  | true =>
    by_cases h1 : h < r
    · simp only [m__law_still, b__law_still, ev_var, ev_c, ev_un, ev_bin, ev_anil, ev_acons, ev_fn, ev_tof, ev_tob, ev_tand, ev_tor, ev_tnot, ev_and, ev_or, ev_not, ev_if, ev_chain, ev_true, ev_slice, ev_onone, ev_osome, ev_iseq, ev_irng, ev_ienum, ev_ibin, ev_lc, ev_skip, ev_never, ev_seq, ev_ret, ev_sif, ev_set, ev_expr, ev_asg, ev_par, ev_for, ev_fld, ev_gn, ev_gsnil, ev_gscons, ev_gt, ev_mkfn, ev_bok, ev_berr, ev_bfail, ev_tok, ev_hok, ev_ert, ev_enx, ev_wn, ev_wc, ev_e0, ev_sseq, ev_senum, ev_szip, ev_sltup, ev_ltI, ev_leI, ev_gtI, ev_geI, ev_subI, ev_addI, ev_lenT, List.map_cons, List.map_nil, List.length_cons, List.length_nil, List.cons_append, List.nil_append, List.append_nil, List.getElem?_cons_zero, List.getElem?_cons_succ, List.set_cons_zero, List.set_cons_succ, List.replicate_succ, List.replicate_zero, Nat.reduceAdd, Nat.reduceSub, Nat.reduceEqDiff, reduceIte, Bool.true_eq_false, Bool.false_eq_true, if_true, if_false, toB, decide_eq_true h1, if_pos h1]
    · simp only [m__law_still, b__law_still, ev_var, ev_c, ev_un, ev_bin, ev_anil, ev_acons, ev_fn, ev_tof, ev_tob, ev_tand, ev_tor, ev_tnot, ev_and, ev_or, ev_not, ev_if, ev_chain, ev_true, ev_slice, ev_onone, ev_osome, ev_iseq, ev_irng, ev_ienum, ev_ibin, ev_lc, ev_skip, ev_never, ev_seq, ev_ret, ev_sif, ev_set, ev_expr, ev_asg, ev_par, ev_for, ev_fld, ev_gn, ev_gsnil, ev_gscons, ev_gt, ev_mkfn, ev_bok, ev_berr, ev_bfail, ev_tok, ev_hok, ev_ert, ev_enx, ev_wn, ev_wc, ev_e0, ev_sseq, ev_senum, ev_szip, ev_sltup, ev_ltI, ev_leI, ev_gtI, ev_geI, ev_subI, ev_addI, ev_lenT, List.map_cons, List.map_nil, List.length_cons, List.length_nil, List.cons_append, List.nil_append, List.append_nil, List.getElem?_cons_zero, List.getElem?_cons_succ, List.set_cons_zero, List.set_cons_succ, List.replicate_succ, List.replicate_zero, Nat.reduceAdd, Nat.reduceSub, Nat.reduceEqDiff, reduceIte, Bool.true_eq_false, Bool.false_eq_true, if_true, if_false, toB, decide_eq_false h1, if_neg h1, dNeg]
  | false =>
    by_cases h1 : h = 1
    · subst h1
      simp only [m__law_still, b__law_still, ev_var, ev_c, ev_un, ev_bin, ev_anil, ev_acons, ev_fn, ev_tof, ev_tob, ev_tand, ev_tor, ev_tnot, ev_and, ev_or, ev_not, ev_if, ev_chain, ev_true, ev_slice, ev_onone, ev_osome, ev_iseq, ev_irng, ev_ienum, ev_ibin, ev_lc, ev_skip, ev_never, ev_seq, ev_ret, ev_sif, ev_set, ev_expr, ev_asg, ev_par, ev_for, ev_fld, ev_gn, ev_gsnil, ev_gscons, ev_gt, ev_mkfn, ev_bok, ev_berr, ev_bfail, ev_tok, ev_hok, ev_ert, ev_enx, ev_wn, ev_wc, ev_e0, ev_sseq, ev_senum, ev_szip, ev_sltup, ev_ltI, ev_leI, ev_gtI, ev_geI, ev_subI, ev_addI, ev_lenT, List.map_cons, List.map_nil, List.length_cons, List.length_nil, List.cons_append, List.nil_append, List.append_nil, List.getElem?_cons_zero, List.getElem?_cons_succ, List.set_cons_zero, List.set_cons_succ, List.replicate_succ, List.replicate_zero, Nat.reduceAdd, Nat.reduceSub, Nat.reduceEqDiff, reduceIte, Bool.true_eq_false, Bool.false_eq_true, if_true, if_false, toB, eqI, beq_self_eq_true]
    · by_cases h2 : h ≤ r
      · simp only [m__law_still, b__law_still, ev_var, ev_c, ev_un, ev_bin, ev_anil, ev_acons, ev_fn, ev_tof, ev_tob, ev_tand, ev_tor, ev_tnot, ev_and, ev_or, ev_not, ev_if, ev_chain, ev_true, ev_slice, ev_onone, ev_osome, ev_iseq, ev_irng, ev_ienum, ev_ibin, ev_lc, ev_skip, ev_never, ev_seq, ev_ret, ev_sif, ev_set, ev_expr, ev_asg, ev_par, ev_for, ev_fld, ev_gn, ev_gsnil, ev_gscons, ev_gt, ev_mkfn, ev_bok, ev_berr, ev_bfail, ev_tok, ev_hok, ev_ert, ev_enx, ev_wn, ev_wc, ev_e0, ev_sseq, ev_senum, ev_szip, ev_sltup, ev_ltI, ev_leI, ev_gtI, ev_geI, ev_subI, ev_addI, ev_lenT, List.map_cons, List.map_nil, List.length_cons, List.length_nil, List.cons_append, List.nil_append, List.append_nil, List.getElem?_cons_zero, List.getElem?_cons_succ, List.set_cons_zero, List.set_cons_succ, List.replicate_succ, List.replicate_zero, Nat.reduceAdd, Nat.reduceSub, Nat.reduceEqDiff, reduceIte, Bool.true_eq_false, Bool.false_eq_true, if_true, if_false, toB, eqI, beq_eq_false_iff_ne.mpr h1, decide_eq_true h2, if_neg h1, if_pos h2]
      · simp only [m__law_still, b__law_still, ev_var, ev_c, ev_un, ev_bin, ev_anil, ev_acons, ev_fn, ev_tof, ev_tob, ev_tand, ev_tor, ev_tnot, ev_and, ev_or, ev_not, ev_if, ev_chain, ev_true, ev_slice, ev_onone, ev_osome, ev_iseq, ev_irng, ev_ienum, ev_ibin, ev_lc, ev_skip, ev_never, ev_seq, ev_ret, ev_sif, ev_set, ev_expr, ev_asg, ev_par, ev_for, ev_fld, ev_gn, ev_gsnil, ev_gscons, ev_gt, ev_mkfn, ev_bok, ev_berr, ev_bfail, ev_tok, ev_hok, ev_ert, ev_enx, ev_wn, ev_wc, ev_e0, ev_sseq, ev_senum, ev_szip, ev_sltup, ev_ltI, ev_leI, ev_gtI, ev_geI, ev_subI, ev_addI, ev_lenT, List.map_cons, List.map_nil, List.length_cons, List.length_nil, List.cons_append, List.nil_append, List.append_nil, List.getElem?_cons_zero, List.getElem?_cons_succ, List.set_cons_zero, List.set_cons_succ, List.replicate_succ, List.replicate_zero, Nat.reduceAdd, Nat.reduceSub, Nat.reduceEqDiff, reduceIte, Bool.true_eq_false, Bool.false_eq_true, if_true, if_false, toB, eqI, beq_eq_false_iff_ne.mpr h1, decide_eq_false h2, if_neg h1, if_neg h2, dNeg]
theorem place_run {st : Sto} {size coming goal still n : Int} (h0 : 0 < size) : m__law_place [.int size, .int coming, .int goal, .int still, .int n] st = .ok (.int (placeI size coming goal still n)) st := by
  unfold placeI
  by_cases h1 : n ≤ coming
  · simp only [m__law_place, b__law_place, ev_var, ev_c, ev_un, ev_bin, ev_anil, ev_acons, ev_fn, ev_tof, ev_tob, ev_tand, ev_tor, ev_tnot, ev_and, ev_or, ev_not, ev_if, ev_chain, ev_true, ev_slice, ev_onone, ev_osome, ev_iseq, ev_irng, ev_ienum, ev_ibin, ev_lc, ev_skip, ev_never, ev_seq, ev_ret, ev_sif, ev_set, ev_expr, ev_asg, ev_par, ev_for, ev_fld, ev_gn, ev_gsnil, ev_gscons, ev_gt, ev_mkfn, ev_bok, ev_berr, ev_bfail, ev_tok, ev_hok, ev_ert, ev_enx, ev_wn, ev_wc, ev_e0, ev_sseq, ev_senum, ev_szip, ev_sltup, ev_ltI, ev_leI, ev_gtI, ev_geI, ev_subI, ev_addI, ev_lenT, List.map_cons, List.map_nil, List.length_cons, List.length_nil, List.cons_append, List.nil_append, List.append_nil, List.getElem?_cons_zero, List.getElem?_cons_succ, List.set_cons_zero, List.set_cons_succ, List.replicate_succ, List.replicate_zero, Nat.reduceAdd, Nat.reduceSub, Nat.reduceEqDiff, reduceIte, Bool.true_eq_false, Bool.false_eq_true, if_true, if_false, toB, decide_eq_true h1, if_pos h1, modI h0]
  · by_cases h2 : still < 0
    · simp only [m__law_place, b__law_place, ev_var, ev_c, ev_un, ev_bin, ev_anil, ev_acons, ev_fn, ev_tof, ev_tob, ev_tand, ev_tor, ev_tnot, ev_and, ev_or, ev_not, ev_if, ev_chain, ev_true, ev_slice, ev_onone, ev_osome, ev_iseq, ev_irng, ev_ienum, ev_ibin, ev_lc, ev_skip, ev_never, ev_seq, ev_ret, ev_sif, ev_set, ev_expr, ev_asg, ev_par, ev_for, ev_fld, ev_gn, ev_gsnil, ev_gscons, ev_gt, ev_mkfn, ev_bok, ev_berr, ev_bfail, ev_tok, ev_hok, ev_ert, ev_enx, ev_wn, ev_wc, ev_e0, ev_sseq, ev_senum, ev_szip, ev_sltup, ev_ltI, ev_leI, ev_gtI, ev_geI, ev_subI, ev_addI, ev_lenT, List.map_cons, List.map_nil, List.length_cons, List.length_nil, List.cons_append, List.nil_append, List.append_nil, List.getElem?_cons_zero, List.getElem?_cons_succ, List.set_cons_zero, List.set_cons_succ, List.replicate_succ, List.replicate_zero, Nat.reduceAdd, Nat.reduceSub, Nat.reduceEqDiff, reduceIte, Bool.true_eq_false, Bool.false_eq_true, if_true, if_false, toB, decide_eq_false h1, if_neg h1, decide_eq_true h2, if_pos h2]
    · by_cases h3 : (n - coming) % (size + still) ≤ still
      · simp only [m__law_place, b__law_place, ev_var, ev_c, ev_un, ev_bin, ev_anil, ev_acons, ev_fn, ev_tof, ev_tob, ev_tand, ev_tor, ev_tnot, ev_and, ev_or, ev_not, ev_if, ev_chain, ev_true, ev_slice, ev_onone, ev_osome, ev_iseq, ev_irng, ev_ienum, ev_ibin, ev_lc, ev_skip, ev_never, ev_seq, ev_ret, ev_sif, ev_set, ev_expr, ev_asg, ev_par, ev_for, ev_fld, ev_gn, ev_gsnil, ev_gscons, ev_gt, ev_mkfn, ev_bok, ev_berr, ev_bfail, ev_tok, ev_hok, ev_ert, ev_enx, ev_wn, ev_wc, ev_e0, ev_sseq, ev_senum, ev_szip, ev_sltup, ev_ltI, ev_leI, ev_gtI, ev_geI, ev_subI, ev_addI, ev_lenT, List.map_cons, List.map_nil, List.length_cons, List.length_nil, List.cons_append, List.nil_append, List.append_nil, List.getElem?_cons_zero, List.getElem?_cons_succ, List.set_cons_zero, List.set_cons_succ, List.replicate_succ, List.replicate_zero, Nat.reduceAdd, Nat.reduceSub, Nat.reduceEqDiff, reduceIte, Bool.true_eq_false, Bool.false_eq_true, if_true, if_false, toB, decide_eq_false h1, if_neg h1, decide_eq_false h2, if_neg h2, modI (show 0 < size + still by omega), decide_eq_true h3, if_pos h3]
      · simp only [m__law_place, b__law_place, ev_var, ev_c, ev_un, ev_bin, ev_anil, ev_acons, ev_fn, ev_tof, ev_tob, ev_tand, ev_tor, ev_tnot, ev_and, ev_or, ev_not, ev_if, ev_chain, ev_true, ev_slice, ev_onone, ev_osome, ev_iseq, ev_irng, ev_ienum, ev_ibin, ev_lc, ev_skip, ev_never, ev_seq, ev_ret, ev_sif, ev_set, ev_expr, ev_asg, ev_par, ev_for, ev_fld, ev_gn, ev_gsnil, ev_gscons, ev_gt, ev_mkfn, ev_bok, ev_berr, ev_bfail, ev_tok, ev_hok, ev_ert, ev_enx, ev_wn, ev_wc, ev_e0, ev_sseq, ev_senum, ev_szip, ev_sltup, ev_ltI, ev_leI, ev_gtI, ev_geI, ev_subI, ev_addI, ev_lenT, List.map_cons, List.map_nil, List.length_cons, List.length_nil, List.cons_append, List.nil_append, List.append_nil, List.getElem?_cons_zero, List.getElem?_cons_succ, List.set_cons_zero, List.set_cons_succ, List.replicate_succ, List.replicate_zero, Nat.reduceAdd, Nat.reduceSub, Nat.reduceEqDiff, reduceIte, Bool.true_eq_false, Bool.false_eq_true, if_true, if_false, toB, decide_eq_false h1, if_neg h1, decide_eq_false h2, if_neg h2, modI (show 0 < size + still by omega), decide_eq_false h3, if_neg h3, modI h0]
theorem mul10 {st : Sto} {i : Int} : dMul (.int i) (.int 10) st = .ok (.int (i * 10)) st := by
  unfold dMul
  simp only
  rw [if_pos (.inr ⟨by omega, by omega⟩)]
theorem ten_turn {st : Sto} {e : D} {v : Int} {x : D} : sSet 1 (eBin dMul (eVar 1) (eC (.int 10))) [some e, some (.int v), some x] st = .nx [some e, some (.int (v * 10)), some x] st := by
  rw [ev_set, ev_bin, ev_var]
  show ((eC (.int 10) [some e, some (.int v), some x] st).bind fun y s => dMul (.int v) y s).then _ _ = _
  rw [ev_c, ev_bok, mul10]
  rfl
theorem ten_run {st : Sto} {e : Nat} (he : e < 100) : m__law_ten [.int (e : Int)] st = .ok (.int ((10 : Int) ^ e)) st := by
  have hr : iRng (eVar 0) [some (.int (e : Int)), some (.int 1), none] st = .ok (.fix (rngL 0 e)) st := irng_of rfl (Nat.le_trans (Nat.le_of_lt he) (by decide))
  obtain ⟨env', st', e1, e2, v, x, hv, rfl⟩ := startFor_J (s := .fix (rngL 0 e)) (g := gN 2) (body := sSet 1 (eBin dMul (eVar 1) (eC (.int 10)))) (xs := rngL 0 e) (env := [some (.int (e : Int)), some (.int 1), none]) (st := st)
    (fun i env s => s = st ∧ ∃ v x, v = (10 : Int) ^ i ∧ env = [some (.int (e : Int)), some (.int v), x]) (fun _ _ _ _ => rfl) ⟨rfl, 1, none, by rw [Int.pow_zero], rfl⟩ fun i x env s hx ⟨hs, v, y, hv, he⟩ => by
      subst hs he
      exact ⟨_, _, _, _, rfl, ten_turn, rfl, v * 10, some x, by rw [hv, Int.pow_succ], rfl⟩
  rw [e2] at e1
  rw [rngL_length] at hv
  subst hv
  have key : b__law_ten [some (.int (e : Int)), none, none] st = .rt (.int ((10 : Int) ^ e)) st := by
    unfold b__law_ten
    refine set_to (d := .int 1) (st1 := st) rfl (seq_to (env1 := [some (.int (e : Int)), some (.int ((10 : Int) ^ e)), x]) (st1 := st) ?_ rfl)
    rw [ev_for]
    show R.then _ (iRng (eVar 0) [some (.int (e : Int)), some (.int 1), none] st) _ = _
    rw [hr, ev_tok]
    exact e1
  unfold m__law_ten
  rw [ev_mkfn, if_pos (show [D.int (e : Int)].length = 1 from rfl)]
  show endFn (b__law_ten [some (.int (e : Int)), none, none] st) = _
  rw [key]
  rfl
theorem pair_enc {st : Sto} {i j : Int} : toS st (pairI i j) = some (.tuple [.int i, .int j]) := toS_ints (xs := [.int i, .int j]) rfl
theorem sort2 {x y : D} {le : D → D → Bool} : [x, y].mergeSort le = if le x y = true then [x, y] else [y, x] := by
  rw [List.mergeSort]
  simp [List.MergeSort.Internal.splitInTwo, List.merge]
theorem le01 : ∀ h < 3, ∀ r < 4, PySem.W.dataLe false (fun d : PyData => d) (.tuple [.int 1, .int (1 + (h : Nat))]) (.tuple [.int 0, .int (r : Nat)]) = false ∧ PySem.W.dataLe false (fun d : PyData => d) (.tuple [.int 0, .int (1 + (h : Nat))]) (.tuple [.int 1, .int (r : Nat)]) = true := by decide +kernel
theorem able1 : ∀ h < 3, ∀ t < 2, sortable [.tuple [.int (t : Nat), .int (1 + (h : Nat))]] = true := by decide +kernel
theorem able2 : ∀ h < 3, ∀ r < 4, sortable [.tuple [.int 1, .int (1 + (h : Nat))], .tuple [.int 0, .int (r : Nat)]] = true ∧ sortable [.tuple [.int 0, .int (1 + (h : Nat))], .tuple [.int 1, .int (r : Nat)]] = true := by decide +kernel
theorem encS_pair {st : Sto} {i j : Int} : encS st (pairI i j) = .tuple [.int i, .int j] := by unfold encS; rw [pair_enc]; rfl
def restL (r : Int) (f : Bool) : List D := if 0 < r then [pairI (1 - turnerI f) r] else []
theorem sort_run {st : Sto} {l h r : Nat} {f : Bool} (hh : h < 3) (hr : r < 4) (hl : st[l]? = some (.lst (pairI (turnerI f) (1 + (h : Int)) :: restL r f))) : fSortG [.ref l] st = .ok (.ref st.length) (st ++ [.lst (hsD (1 + (h : Int)) r f)]) := by
  have hlo : lstOf st l = some (pairI (turnerI f) (1 + (h : Int)) :: restL r f) := by unfold lstOf; rw [hl]
  unfold fSortG
  simp only [hlo]
  unfold restL hsD
  by_cases h0 : 0 < (r : Int)
  · rw [if_pos h0, if_pos h0]
    have ha : ([pairI (turnerI f) (1 + (h : Int)), pairI (1 - turnerI f) (r : Int)].all fun d => (toS st d).isSome) = true := by simp only [List.all_cons, List.all_nil, pair_enc]; rfl
    have hb : sortable ([pairI (turnerI f) (1 + (h : Int)), pairI (1 - turnerI f) (r : Int)].map (encS st)) = true := by
      simp only [List.map_cons, List.map_nil, encS_pair]
      cases f with
      | true => exact (able2 h hh r hr).1
      | false => exact (able2 h hh r hr).2
    rw [if_pos ⟨ha, hb⟩, sort2]
    cases f with
    | true =>
      have := (le01 h hh r hr).1
      have hle : PySem.W.dataLe false (encS st) (pairI (turnerI true) (1 + (h : Int))) (pairI (1 - turnerI true) (r : Int)) = false := by
        rw [show PySem.W.dataLe false (encS st) (pairI (turnerI true) (1 + (h : Int))) (pairI (1 - turnerI true) (r : Int)) = PySem.W.dataLe false (fun d : PyData => d) (encS st (pairI 1 (1 + (h : Int)))) (encS st (pairI 0 (r : Int))) from rfl, encS_pair, encS_pair, this]
      rw [hle, if_neg (by decide)]
      rfl
    | false =>
      have := (le01 h hh r hr).2
      have hle : PySem.W.dataLe false (encS st) (pairI (turnerI false) (1 + (h : Int))) (pairI (1 - turnerI false) (r : Int)) = true := by
        rw [show PySem.W.dataLe false (encS st) (pairI (turnerI false) (1 + (h : Int))) (pairI (1 - turnerI false) (r : Int)) = PySem.W.dataLe false (fun d : PyData => d) (encS st (pairI 0 (1 + (h : Int)))) (encS st (pairI 1 (r : Int))) from rfl, encS_pair, encS_pair, this]
      rw [hle, if_pos rfl]
      rfl
  · rw [if_neg h0, if_neg h0]
    have ha : ([pairI (turnerI f) (1 + (h : Int))].all fun d => (toS st d).isSome) = true := by simp only [List.all_cons, List.all_nil, pair_enc]; rfl
    have hb : sortable ([pairI (turnerI f) (1 + (h : Int))].map (encS st)) = true := by
      simp only [List.map_cons, List.map_nil, encS_pair]
      cases f with
      | true => exact able1 h hh 1 (by decide)
      | false => exact able1 h hh 0 (by decide)
    rw [if_pos ⟨ha, hb⟩, List.mergeSort_singleton]
theorem mul2L {st : Sto} {l : Nat} {x : D} {b : Bool} (h : st[l]? = some (.lst [x])) : dMul2 (.ref l) (.int (if b = true then 1 else 0)) st = .ok (.ref st.length) (st ++ [.lst (if b = true then [x] else [])]) := by
  unfold dMul2
  simp only [h]
  cases b with
  | true => rw [if_pos ⟨by decide, by decide, by show 1 * 1 ≤ most; decide⟩]; rfl
  | false => rw [if_pos ⟨by decide, by decide, by show 1 * 0 ≤ most; decide⟩]; rfl
theorem addL {st : Sto} {i j : Nat} {xs ys : List D} (h1 : st[i]? = some (.lst xs)) (h2 : st[j]? = some (.lst ys)) (hl : (xs ++ ys).length ≤ most) : dAdd (.ref i) (.ref j) st = .ok (.ref st.length) (st ++ [.lst (xs ++ ys)]) := by
  unfold dAdd
  simp only [h1, h2]
  exact if_pos hl

theorem eq1T {st : Sto} {i j : Int} (h : i = j) : dEq true (.tup [.int i]) (.tup [.int j]) st = .ok (.bl false) st := by
  subst h
  unfold dEq
  rw [toS_ints (xs := [.int i]) rfl]
  simp [PyData.eqv, PyData.eqvAll, wI]
theorem neI {st : Sto} {i j : Int} (h : i = j) : dEq true (.int i) (.int j) st = .ok (.bl false) st := by
  rw [eqI, h]
  simp
theorem mkTup_0 {st : Sto} : mkTup [] st = .ok (.tup []) st := rfl
theorem mkTup_1 {st : Sto} {a : D} : mkTup [a] st = .ok (.tup [a]) st := rfl
theorem mkTup_4 {st : Sto} {a b c d : D} : mkTup [a, b, c, d] st = .ok (.tup [a, b, c, d]) st := rfl
theorem mulSmall {st : Sto} {i j : Int} (h0 : 0 ≤ i) (h1 : i < 100000) : dMul (.int i) (.int j) st = .ok (.int (i * j)) st := mulI h0 (by omega)
theorem fInt_b {st : Sto} {b : Bool} : fInt [.bl b] st = .ok (.int (if b = true then 1 else 0)) st := rfl
theorem fLRg30 {st : Sto} : fLRg [.int 30] st = .ok (.ref st.length) (st ++ [.lst (rngL 0 30)]) := rfl
theorem via4 {f : Fm} {st : Sto} {a b c : D} : via [.at 0, .at 1, .at 2, .df (.tup [])] f [a, b, c] st = f [a, b, c, .tup []] st := rfl
theorem via3 {f : Fm} {st : Sto} {a b : D} : via [.at 0, .at 1, .df (.tup [])] f [a, b] st = f [a, b, .tup []] st := rfl
theorem via5 {f : Fm} {st : Sto} {a b c d : D} : via [.at 0, .at 1, .at 2, .at 3, .df (.tup [])] f [a, b, c, d] st = f [a, b, c, d, .tup []] st := rfl
structure Chk (size h r : Int) (f : Bool) (g p : Int) : Prop where
  wh : wheelsD (.tup [.int size]) = true
  ru : ((rsD h r f g).all fun x => ruleWords x && ruleD [.int size] 2 x) = true
  va : valuesD [.int size] (.tup [.int p]) = true
  ex : ∃ ss dns b, runO [.int size] (rsD h r f g) (stD p) (.tup []) = some (ss, dns, b) ∧ (∀ n ∈ nears, atOk ss b size (comI size g p f) g (stillI h r f) n = true) ∧ (∀ n ∈ tens, atOk ss b size (comI size g p f) g (stillI h r f) n = true) ∧ b < lastDid dns ∧
    (0 ≤ stillI h r f → (ss.length : Int) - b = (size + iMax 0 (stillI h r f)) + (size + iMax 0 (stillI h r f)) * (if size + iMax 0 (stillI h r f) < r then 1 else 0)) ∧
    timesO ss dns b (turnerI f) (40 + 1000 * (size + iMax 0 (stillI h r f))) = timesO ss dns b (turnerI f) 40 + (if 0 ≤ stillI h r f then 1000 * size else 0)
theorem chk_ok {size h r : Int} {f : Bool} {g p : Int} (hc : chk size h r f g p = true) : Chk size h r f g p := by
  unfold chk at hc
  simp only [Bool.and_eq_true] at hc
  obtain ⟨⟨⟨h1, h2⟩, h3⟩, h4⟩ := hc
  refine ⟨h1, h2, h3, ?_⟩
  split at h4
  · rename_i ss dns b hr
    simp only [Bool.and_eq_true, Bool.or_eq_true, decide_eq_true_eq, beq_iff_eq] at h4
    obtain ⟨⟨⟨⟨k1, k2⟩, k3⟩, k4⟩, k5⟩ := h4
    exact ⟨ss, dns, b, hr, List.all_eq_true.mp k1, List.all_eq_true.mp k2, k3, fun hs => k4.resolve_left (by omega), k5⟩
  · cases h4
theorem near_mem {n : Nat} (h : n < 30) : ((n : Nat) : Int) ∈ nears := List.mem_map.mpr ⟨n, List.mem_range.mpr h, rfl⟩
theorem tens_mem {e : Nat} (h : e < 60) : (10 : Int) ^ e - 1 ∈ tens := List.mem_map.mpr ⟨e, List.mem_range.mpr h, rfl⟩
theorem big60 : ∀ n ∈ tens, withinD 0 999999999999999999999999999999999999999999999999999999999999 (.int n) = true := by decide +kernel
theorem big30 : ∀ n ∈ nears, withinD 0 999999999999999999999999999999999999999999999999999999999999 (.int n) = true := by decide +kernel

end Hd
set_option Elab.async false
set_option linter.all false
set_option maxRecDepth 100000
set_option maxHeartbeats 1000000
namespace Hd
open PySem U
local macro_rules | `(tactic| walk_at "ex1") => `(tactic| first | (with_reducible refine w_seq ?_) | (with_reducible refine w_set ?_) | (with_reducible refine w_ret ?_) | (with_reducible refine w_sif ?_) | (with_reducible refine w_asg2 ?_) | (with_reducible refine w_asg3 ?_) | (with_reducible refine w_asg4 ?_) | (with_reducible refine w_ex2 ?_) | (with_reducible refine w_ex3 ?_) | (with_reducible refine w_ex4 ?_) | (with_reducible refine w_par ?_) | (with_reducible refine w_par3 ?_) | (with_reducible refine w_expr ?_) | (with_reducible refine w_for ?_) | (with_reducible refine w_skip ?_) | (with_reducible refine w_fn ?_) | (with_reducible refine w_acons ?_) | (with_reducible refine w_anil ?_) | (with_reducible refine w_aapp ?_) | (with_reducible refine w_bin ?_) | (with_reducible refine w_un ?_) | (with_reducible refine w_c ?_) | (with_reducible refine w_tof ?_) | (with_reducible refine w_tob ?_) | (with_reducible refine w_tand ?_) | (with_reducible refine w_tor ?_) | (with_reducible refine w_tnot ?_) | (with_reducible refine w_eand ?_) | (with_reducible refine w_eor ?_) | (with_reducible refine w_enot ?_) | (with_reducible refine w_exb ?_) | (with_reducible refine w_exi ?_) | (with_reducible refine w_if ?_) | (with_reducible refine w_slice ?_) | (with_reducible refine w_onone ?_) | (with_reducible refine w_osome ?_) | (with_reducible refine w_lc ?_) | (with_reducible refine w_mtl ?_) | (with_reducible refine w_iseq ?_) | (with_reducible refine w_irng ?_) | (with_reducible refine w_ienum ?_) | (with_reducible refine w_ibin ?_) | (with_reducible refine w_true ?_) | (with_reducible refine cond_t ?_) | (with_reducible refine cond_f ?_))
local macro_rules | `(tactic| walk_at "ex2") => `(tactic| first | (with_reducible refine w_addI ?_) | (with_reducible refine w_subI ?_) | (with_reducible refine w_ltI ?_) | (with_reducible refine w_leI ?_) | (with_reducible refine w_gtI ?_) | (with_reducible refine w_geI ?_) | (with_reducible refine w_eqI ?_) | (with_reducible refine w_neI ?_) | (with_reducible refine w_negI ?_) | (with_reducible refine w_maxI ?_) | (with_reducible refine w_minI ?_) | (with_reducible refine w_lenT ?_) | (with_reducible refine w_slT ?_) | (with_reducible refine w_sseq ?_) | (with_reducible refine w_senum ?_) | (with_reducible refine w_szip ?_) | (with_reducible refine w_eqB ?_) | (with_reducible refine w_neB ?_))
local macro_rules | `(tactic| walk_at "ex3") => `(tactic| first | ((with_reducible apply w_var); (focus exact rfl)) | ((with_reducible apply wr_by); (focus with_reducible assumption)) | ((with_reducible apply w_via); (focus exact rfl)) | ((with_reducible apply w_mkTup); (focus exact Nat.le_of_ble_eq_true rfl)) | ((with_reducible apply w_mkLst); (focus exact Nat.le_of_ble_eq_true rfl)) | ((with_reducible apply w_ix); (focus exact rfl); (focus exact rfl)) | ((with_reducible apply w_lenL); (focus with_reducible assumption)) | ((with_reducible apply w_lenL); (focus with_reducible exact get_end)) | ((with_reducible apply w_isl); (focus with_reducible assumption)) | ((with_reducible apply w_append); (focus with_reducible assumption); (focus with_reducible assumption)) | ((with_reducible apply w_slL); (focus with_reducible assumption)) | ((with_reducible apply w_enumL); (focus with_reducible assumption)) | ((with_reducible apply w_tupL); (focus with_reducible assumption)) | ((with_reducible apply w_sdyn); (focus with_reducible assumption)) | ((with_reducible apply w_isi); (focus exact rfl)) | ((with_reducible apply w_isi2); (focus exact rfl)) | ((with_reducible apply cond_af); (focus exact rfl)) | ((with_reducible apply cond_at); (focus exact rfl)))
local macro_rules | `(tactic| walk_at "go") => `(tactic| repeat (first | walk_at "ex1" | walk_at "ex2" | walk_at "ex3"))
section
variable {a h r g p : Nat} {f : Bool}
theorem wh_i {size h r : Int} {f : Bool} {g p : Int} (C : Chk size h r f g p) : 0 < size ∧ size ≤ 4 := by
  have := C.wh
  simp only [wheelsD, List.all_cons, List.all_nil, withinD, Bool.and_eq_true, Bool.and_true, decide_eq_true_eq] at this
  omega
theorem rs_len {h r : Int} {f : Bool} {g : Int} : (rsD h r f g).length = 2 := by unfold rsD; split <;> rfl
theorem l1 {size h r : Int} {f : Bool} {g p n : Int} {st : Sto} {bk : Nat} {ss dns : List D} {b : Int} {env : Ev} (C : Chk size h r f g p) (hb : bookD st (.ref bk) = some ([.int size], rsD h r f g)) (hr : runO [.int size] (rsD h r f g) (stD p) (.tup []) = some (ss, dns, b))
    (hn : withinD 0 999999999999999999999999999999999999999999999999999999999999 (.int n) = true) (ho : atOk ss b size (comI size g p f) g (stillI h r f) n = true)
    (e7 : env[7]? = some (some (.ref bk))) (e8 : env[8]? = some (some (.int (comI size g p f)))) (e9 : env[9]? = some (some (.int n))) (e14 : env[14]? = some (some (.int size))) (e17 : env[17]? = some (some (.int g))) (e20 : env[20]? = some (some (stD p))) (e21 : env[21]? = some (some (.int (stillI h r f)))) (hl : env.length = 24) :
    b_law_1 env st = .nx (env.set 22 (some (.int (placeI size (comI size g p f) g (stillI h r f) n)))) st := by
  unfold atOk at ho
  split at ho
  · rename_i v rest hv
    have hv' := (beq_iff_eq).mp ho
    have q1 : s_state_at [.ref bk, stD p, .int n, .tup []] st = .ok (.tup (.tup [.int v] :: rest)) st := state_at_of hb hn hr hv
    unfold b_law_1
    have ev : ∀ (i : Nat) (d : D), env[i]? = some (some d) → eVar i env st = .ok d st := fun i d hd => by unfold eVar; rw [hd]
    refine set_to (d := .int (placeI size (comI size g p f) g (stillI h r f) n)) (st1 := st) ?_ ?_
    · rw [ev_fn, ev_acons, ev _ _ e14, ev_bok, ev_acons, ev _ _ e8, ev_bok, ev_acons, ev _ _ e17, ev_bok, ev_acons, ev _ _ e21, ev_bok, ev_acons, ev _ _ e9, ev_bok, ev_anil]
      exact place_run (wh_i C).1
    · obtain ⟨E, hE⟩ : ∃ E, E = env.set 22 (some (.int (placeI size (comI size g p f) g (stillI h r f) n))) := ⟨_, rfl⟩
      rw [← hE]
      have ne : ∀ (i : Nat) (d : D), i ≠ 22 → env[i]? = some (some d) → E[i]? = some (some d) := fun i d hi hd => by rw [hE, List.getElem?_set_ne (Ne.symm hi), hd]
      have e22 : E[22]? = some (some (.int (placeI size (comI size g p f) g (stillI h r f) n))) := by rw [hE, List.getElem?_set_self (by omega)]
      rw [ev_sif]
      have ht : tOf (eBin (dEq true) (eBin dIx (eFn (via [.at 0, .at 1, .at 2, .df (.tup [])] s_state_at) (aApp (aCons (eVar 7) (aCons (eVar 20) (aCons (eVar 9) aNil))) aNil)) (eC (.int 0))) (eFn mkTup (aCons (eVar 22) aNil))) E st = .ok false st := by
        simp only [ev_var, ev_c, ev_un, ev_bin, ev_anil, ev_acons, ev_fn, ev_tof, ev_tob, ev_tand, ev_tor, ev_tnot, ev_and, ev_or, ev_not, ev_if, ev_chain, ev_true, ev_slice, ev_onone, ev_osome, ev_iseq, ev_irng, ev_ienum, ev_ibin, ev_lc, ev_skip, ev_never, ev_seq, ev_ret, ev_sif, ev_set, ev_expr, ev_asg, ev_par, ev_for, ev_fld, ev_gn, ev_gsnil, ev_gscons, ev_gt, ev_mkfn, ev_bok, ev_berr, ev_bfail, ev_tok, ev_hok, ev_ert, ev_enx, ev_wn, ev_wc, ev_e0, ev_sseq, ev_senum, ev_szip, ev_sltup, ev_ltI, ev_leI, ev_gtI, ev_geI, ev_subI, ev_addI, ev_lenT, List.map_cons, List.map_nil, List.length_cons, List.length_nil, List.cons_append, List.nil_append, List.append_nil, List.getElem?_cons_zero, List.getElem?_cons_succ, List.set_cons_zero, List.set_cons_succ, List.replicate_succ, List.replicate_zero, Nat.reduceAdd, Nat.reduceSub, Nat.reduceEqDiff, reduceIte, Bool.true_eq_false, Bool.false_eq_true, if_true, if_false, aApp, ne 7 _ (by decide) e7, ne 20 _ (by decide) e20, ne 9 _ (by decide) e9, e22, via4, q1, ixS (st := st) (v := .tup (.tup [.int v] :: rest)) (i := 0) (d := .tup [.int v]) rfl (by unfold L2.atI L2.ixN; simp), mkTup_1, eq1T hv', toB]
      rw [ht, ev_tok]
      rfl
  · cases ho
theorem to24 {env : Ev} (h : env.length = 24) : ∃ e0 e1 e2 e3 e4 e5 e6 e7 e8 e9 e10 e11 e12 e13 e14 e15 e16 e17 e18 e19 e20 e21 e22 e23, env = [e0, e1, e2, e3, e4, e5, e6, e7, e8, e9, e10, e11, e12, e13, e14, e15, e16, e17, e18, e19, e20, e21, e22, e23] :=
  match env, h with
  | [e0, e1, e2, e3, e4, e5, e6, e7, e8, e9, e10, e11, e12, e13, e14, e15, e16, e17, e18, e19, e20, e21, e22, e23], _ => ⟨_, _, _, _, _, _, _, _, _, _, _, _, _, _, _, _, _, _, _, _, _, _, _, _, rfl⟩
theorem l1all {size h r : Int} {f : Bool} {g p : Int} {st : Sto} {bk l : Nat} {ss dns xs : List D} {b : Int} {env : Ev} (C : Chk size h r f g p) (hb : bookD st (.ref bk) = some ([.int size], rsD h r f g)) (hr : runO [.int size] (rsD h r f g) (stD p) (.tup []) = some (ss, dns, b))
    (hx : ∀ x ∈ xs, ∃ n, x = .int n ∧ withinD 0 999999999999999999999999999999999999999999999999999999999999 (.int n) = true ∧ atOk ss b size (comI size g p f) g (stillI h r f) n = true) (hs : lstOf st l = some xs)
    (e7 : env[7]? = some (some (.ref bk))) (e8 : env[8]? = some (some (.int (comI size g p f)))) (e14 : env[14]? = some (some (.int size))) (e17 : env[17]? = some (some (.int g))) (e20 : env[20]? = some (some (stD p))) (e21 : env[21]? = some (some (.int (stillI h r f)))) (hl : env.length = 24) :
    ∃ env', startFor (gN 9) b_law_1 env (.dyn l) st = .nx env' st ∧ env'.length = 24 ∧ ∀ i, i ≠ 9 → i ≠ 22 → env'[i]? = env[i]? := by
  refine startFor_inv (s := .dyn l) (xs := xs) hs (fun env' => env'.length = 24 ∧ ∀ i, i ≠ 9 → i ≠ 22 → env'[i]? = env[i]?) ⟨hl, fun _ _ _ => rfl⟩ fun x hxm E ⟨h1, h2⟩ => ?_
  obtain ⟨n, rfl, hn, ho⟩ := hx x hxm
  have g9 : ∀ (i : Nat) (d : D), i ≠ 9 → i ≠ 22 → env[i]? = some (some d) → (E.set 9 (some (.int n)))[i]? = some (some d) := fun i d hi hj hd => by rw [List.getElem?_set_ne (Ne.symm hi), h2 i hi hj, hd]
  refine ⟨E.set 9 (some (.int n)), _, rfl, l1 C hb hr hn ho (g9 7 _ (by decide) (by decide) e7) (g9 8 _ (by decide) (by decide) e8) (by rw [List.getElem?_set_self (by omega)]) (g9 14 _ (by decide) (by decide) e14) (g9 17 _ (by decide) (by decide) e17) (g9 20 _ (by decide) (by decide) e20) (g9 21 _ (by decide) (by decide) e21) (by simp [h1]), by simp [h1], fun i hi hj => ?_⟩
  rw [List.getElem?_set_ne (Ne.symm hj), List.getElem?_set_ne (Ne.symm hi), h2 i hi hj]
end

end Hd
set_option Elab.async false
set_option linter.all false
set_option maxRecDepth 100000
set_option maxHeartbeats 1000000
namespace Hd
open PySem U
local macro_rules | `(tactic| walk_at "ex1") => `(tactic| first | (with_reducible refine w_seq ?_) | (with_reducible refine w_set ?_) | (with_reducible refine w_ret ?_) | (with_reducible refine w_sif ?_) | (with_reducible refine w_asg2 ?_) | (with_reducible refine w_asg3 ?_) | (with_reducible refine w_asg4 ?_) | (with_reducible refine w_ex2 ?_) | (with_reducible refine w_ex3 ?_) | (with_reducible refine w_ex4 ?_) | (with_reducible refine w_par ?_) | (with_reducible refine w_par3 ?_) | (with_reducible refine w_expr ?_) | (with_reducible refine w_for ?_) | (with_reducible refine w_skip ?_) | (with_reducible refine w_fn ?_) | (with_reducible refine w_acons ?_) | (with_reducible refine w_anil ?_) | (with_reducible refine w_aapp ?_) | (with_reducible refine w_bin ?_) | (with_reducible refine w_un ?_) | (with_reducible refine w_c ?_) | (with_reducible refine w_tof ?_) | (with_reducible refine w_tob ?_) | (with_reducible refine w_tand ?_) | (with_reducible refine w_tor ?_) | (with_reducible refine w_tnot ?_) | (with_reducible refine w_eand ?_) | (with_reducible refine w_eor ?_) | (with_reducible refine w_enot ?_) | (with_reducible refine w_exb ?_) | (with_reducible refine w_exi ?_) | (with_reducible refine w_if ?_) | (with_reducible refine w_slice ?_) | (with_reducible refine w_onone ?_) | (with_reducible refine w_osome ?_) | (with_reducible refine w_lc ?_) | (with_reducible refine w_mtl ?_) | (with_reducible refine w_iseq ?_) | (with_reducible refine w_irng ?_) | (with_reducible refine w_ienum ?_) | (with_reducible refine w_ibin ?_) | (with_reducible refine w_true ?_) | (with_reducible refine cond_t ?_) | (with_reducible refine cond_f ?_))
local macro_rules | `(tactic| walk_at "ex2") => `(tactic| first | (with_reducible refine w_addI ?_) | (with_reducible refine w_subI ?_) | (with_reducible refine w_ltI ?_) | (with_reducible refine w_leI ?_) | (with_reducible refine w_gtI ?_) | (with_reducible refine w_geI ?_) | (with_reducible refine w_eqI ?_) | (with_reducible refine w_neI ?_) | (with_reducible refine w_negI ?_) | (with_reducible refine w_maxI ?_) | (with_reducible refine w_minI ?_) | (with_reducible refine w_lenT ?_) | (with_reducible refine w_slT ?_) | (with_reducible refine w_sseq ?_) | (with_reducible refine w_senum ?_) | (with_reducible refine w_szip ?_) | (with_reducible refine w_eqB ?_) | (with_reducible refine w_neB ?_))
local macro_rules | `(tactic| walk_at "ex3") => `(tactic| first | ((with_reducible apply w_var); (focus exact rfl)) | ((with_reducible apply wr_by); (focus with_reducible assumption)) | ((with_reducible apply w_via); (focus exact rfl)) | ((with_reducible apply w_mkTup); (focus exact Nat.le_of_ble_eq_true rfl)) | ((with_reducible apply w_mkLst); (focus exact Nat.le_of_ble_eq_true rfl)) | ((with_reducible apply w_ix); (focus exact rfl); (focus exact rfl)) | ((with_reducible apply w_lenL); (focus with_reducible assumption)) | ((with_reducible apply w_lenL); (focus with_reducible exact get_end)) | ((with_reducible apply w_isl); (focus with_reducible assumption)) | ((with_reducible apply w_append); (focus with_reducible assumption); (focus with_reducible assumption)) | ((with_reducible apply w_slL); (focus with_reducible assumption)) | ((with_reducible apply w_enumL); (focus with_reducible assumption)) | ((with_reducible apply w_tupL); (focus with_reducible assumption)) | ((with_reducible apply w_sdyn); (focus with_reducible assumption)) | ((with_reducible apply w_isi); (focus exact rfl)) | ((with_reducible apply w_isi2); (focus exact rfl)) | ((with_reducible apply cond_af); (focus exact rfl)) | ((with_reducible apply cond_at); (focus exact rfl)))
local macro_rules | `(tactic| walk_at "go") => `(tactic| repeat (first | walk_at "ex1" | walk_at "ex2" | walk_at "ex3"))
def Out (r : RS) (P : Ev → Sto → Prop) : Prop := ∃ env' st', r = .nx env' st' ∧ P env' st'
section
variable {P : Ev → Sto → Prop} {b : SM} {env env1 : Ev} {st st1 : Sto}
theorem out_seq {a : SM} (h1 : a env st = .nx env1 st1) (h2 : Out (b env1 st1) P) : Out (sSeq a b env st) P := by rw [seq_to h1 rfl]; exact h2
theorem out_set {i : Nat} {g : EM} {d : D} (h1 : g env st = .ok d st1) (h2 : Out (b (env.set i (some d)) st1) P) : Out (sSeq (sSet i g) b env st) P := by rw [set_to h1 rfl]; exact h2
theorem out_par {i j : Nat} {ga gb : EM} {s1 s2 : Sto} {x y : D} (h1 : ga env st = .ok x s1) (h2 : gb env s1 = .ok y s2) (h : Out (b ((env.set i (some x)).set j (some y)) s2) P) : Out (sSeq (sPar i j ga gb) b env st) P := by rw [par_to h1 h2 rfl]; exact h
theorem out_par3 {i j l : Nat} {ga gb gc : EM} {s1 s2 s3 : Sto} {x y z : D} (h1 : ga env st = .ok x s1) (h2 : gb env s1 = .ok y s2) (h3 : gc env s2 = .ok z s3) (h : Out (b (((env.set i (some x)).set j (some y)).set l (some z)) s3) P) : Out (sSeq (sPar3 i j l ga gb gc) b env st) P := by rw [par3_to h1 h2 h3 rfl]; exact h
theorem out_if {t : TM} {a : SM} (h1 : t env st = .ok false st1) (h2 : Out (b env st1) P) : Out (sSeq (sIf t a sSkip) b env st) P := by rw [if_to h1 rfl]; exact h2
end
def X5 (h r : Int) (f : Bool) : List Ob := [.lst [pairI (turnerI f) h], .lst [pairI (1 - turnerI f) r], .lst (restL r f), .lst (pairI (turnerI f) h :: restL r f)]
theorem rest_ite {r : Int} {f : Bool} : (if decide (0 < r) = true then [pairI (1 - turnerI f) r] else []) = restL r f := by
  unfold restL
  by_cases h : 0 < r
  · rw [if_pos h, if_pos (decide_eq_true h)]
  · rw [if_neg h, if_neg (by simp [h])]
theorem mkLst_1 {st : Sto} {x : D} : mkLst [x] st = .ok (.ref st.length) (st ++ [.lst [x]]) := rfl
theorem pairs_run {S : Sto} {h r : Int} {f : Bool} : ((mkLst [pairI (turnerI f) h] S).bind fun x st => ((mkLst [pairI (1 - turnerI f) r] st).bind fun y st => ((fInt [.bl (decide (0 < r))] st).bind fun z st => dMul2 y z st)).bind fun y st => dAdd x y st) = .ok (.ref (S.length + 3)) (S ++ X5 h r f) := by
  rw [mkLst_1, ev_bok, mkLst_1, ev_bok, fInt_b, ev_bok, mul2L get_end, ev_bok]
  have hr : (restL r f).length ≤ 1 := by unfold restL; split <;> simp
  rw [rest_ite]
  have h1 : (S ++ [Ob.lst [pairI (turnerI f) h]] ++ [Ob.lst [pairI (1 - turnerI f) r]] ++ [Ob.lst (restL r f)])[S.length]? = some (.lst [pairI (turnerI f) h]) := by simp
  rw [addL h1 get_end (by simp; exact Nat.le_trans (Nat.add_le_add_right hr 1) (by decide))]
  simp only [X5, List.append_assoc, List.length_append, List.cons_append, List.nil_append, List.length_cons, List.length_nil, Nat.add_assoc, Nat.reduceAdd]
theorem x5_at {S : Sto} {h r : Int} {f : Bool} : (S ++ X5 h r f)[S.length + 3]? = some (.lst (pairI (turnerI f) h :: restL r f)) := by rw [at_endk]; rfl
theorem x5_len {S : Sto} {h r : Int} {f : Bool} : (S ++ X5 h r f).length = S.length + 4 := by simp [X5]
section
variable {ob : Ob} {ns : List Int} {k : Nat} {e2 e3 e4 e5 e6 e7 e8 e9 e10 e11 e12 e13 e14 e15 e16 e17 e18 e19 e20 e21 e22 e23 : Option D} {st : Sto}
theorem tens_run {S : Sto} {B c : Nat} {env : Ev} {ob : Ob} (hB : Bag S B c) (hc : c < 1000) (h0 : S[0]? = some ob) (hB0 : B ≠ 0) (e2 : env[2]? = some (some (.ref B))) (hl : env.length = 24) :
    ∃ acc S', startLc (gN 23) tTrue (eBin dSub (eFn m__law_ten (aCons (eFn s__law_take (aCons (eVar 2) (aCons (eC (.int 60)) aNil))) aNil)) (eC (.int 1))) env (.fix (rngL 0 3)) S = .ok (.ref S.length) S' ∧ S'.length = S.length + 1 ∧ S'[S.length]? = some (.lst acc) ∧ (∀ i, i ≠ B → i < S.length → S'[i]? = S[i]?) ∧ acc.length = 3 ∧ ∀ x ∈ acc, ∃ e, e < 60 ∧ x = .int ((10 : Int) ^ e - 1) := by
  have hBl : B < S.length := by obtain ⟨_, _, _, h, _⟩ := hB; exact (List.getElem?_eq_some_iff.mp h).1
  obtain ⟨acc, S', h1, h2, h3, h4, h5, h6, h7⟩ := startLc_J (xs := rngL 0 3) (g := gN 23) (e := eBin dSub (eFn m__law_ten (aCons (eFn s__law_take (aCons (eVar 2) (aCons (eC (.int 60)) aNil))) aNil)) (eC (.int 1))) (env := env) (st := S)
    (fun i acc s => Bag s B (c + i) ∧ s.length = S.length + 1 ∧ s[S.length]? = some (.lst acc) ∧ (∀ j, j ≠ B → j < S.length → s[j]? = S[j]?) ∧ (acc.length = i ∧ i ≤ 3) ∧ ∀ x ∈ acc, ∃ e, e < 60 ∧ x = .int ((10 : Int) ^ e - 1))
    (fun i acc s h => Nat.lt_of_le_of_lt (by have := h.2.2.2.2.1; omega : acc.length ≤ 3) (by decide)) ⟨by simpa using hB.app, by simp, get_end, fun j _ hj => List.getElem?_append_left hj, ⟨rfl, by omega⟩, fun _ h => by simp at h⟩ fun i x acc s hx ⟨g1, g2, g3, g4, g5, g6⟩ => by
      obtain ⟨hi, rfl⟩ := rngL_get hx
      obtain ⟨e, s', t1, he, B1, k1, kl⟩ := take_step (many := 60) g1 (by omega) (by omega) (by omega)
      have he' : e < 60 := by omega
      have v2 : (env.set 23 (some (.int (i : Int))))[2]? = some (some (.ref B)) := by rw [List.getElem?_set_ne (by decide)]; exact e2
      refine ⟨env.set 23 (some (.int (i : Int))), s, .int ((10 : Int) ^ e - 1), s', rfl, ?_, by rw [k1 _ (by omega)]; exact g3, ?_⟩
      · rw [ev_bin, ev_fn, ev_acons, ev_fn, ev_acons, ev_var, v2]
        show (((((R.ok (D.ref B) s).bind _).bind _).bind _).bind _).bind _ = _
        rw [ev_bok, ev_acons, ev_c, ev_bok, ev_anil, ev_bok, ev_bok, ev_bok, t1, ev_bok, ev_anil, ev_bok, ev_bok, ten_run (e := e) (by omega), ev_bok, ev_c, ev_bok, ev_subI]
      · refine ⟨?_, by simp [kl, g2], by rw [List.getElem?_set_self (by omega)], fun j hj hj2 => ?_, ⟨by simp [g5.1], by omega⟩, fun x hx => ?_⟩
        · obtain ⟨g, x, c', hb, r⟩ := B1
          exact ⟨g, x, c', by rw [List.getElem?_set_ne (by omega)]; exact hb, r.1, by omega⟩
        · rw [List.getElem?_set_ne (by omega), k1 j hj, g4 j hj hj2]
        · rcases List.mem_append.mp hx with hx | hx
          · exact g6 x hx
          · simp only [List.mem_singleton] at hx
            exact ⟨e, he', hx⟩
  exact ⟨acc, S', h1, h3, h4, h5, h6.1, h7⟩
end

end Hd
set_option Elab.async false
set_option linter.all false
set_option maxRecDepth 100000
set_option maxHeartbeats 1000000
namespace Hd
open PySem U
local macro_rules | `(tactic| walk_at "ex1") => `(tactic| first | (with_reducible refine w_seq ?_) | (with_reducible refine w_set ?_) | (with_reducible refine w_ret ?_) | (with_reducible refine w_sif ?_) | (with_reducible refine w_asg2 ?_) | (with_reducible refine w_asg3 ?_) | (with_reducible refine w_asg4 ?_) | (with_reducible refine w_ex2 ?_) | (with_reducible refine w_ex3 ?_) | (with_reducible refine w_ex4 ?_) | (with_reducible refine w_par ?_) | (with_reducible refine w_par3 ?_) | (with_reducible refine w_expr ?_) | (with_reducible refine w_for ?_) | (with_reducible refine w_skip ?_) | (with_reducible refine w_fn ?_) | (with_reducible refine w_acons ?_) | (with_reducible refine w_anil ?_) | (with_reducible refine w_aapp ?_) | (with_reducible refine w_bin ?_) | (with_reducible refine w_un ?_) | (with_reducible refine w_c ?_) | (with_reducible refine w_tof ?_) | (with_reducible refine w_tob ?_) | (with_reducible refine w_tand ?_) | (with_reducible refine w_tor ?_) | (with_reducible refine w_tnot ?_) | (with_reducible refine w_eand ?_) | (with_reducible refine w_eor ?_) | (with_reducible refine w_enot ?_) | (with_reducible refine w_exb ?_) | (with_reducible refine w_exi ?_) | (with_reducible refine w_if ?_) | (with_reducible refine w_slice ?_) | (with_reducible refine w_onone ?_) | (with_reducible refine w_osome ?_) | (with_reducible refine w_lc ?_) | (with_reducible refine w_mtl ?_) | (with_reducible refine w_iseq ?_) | (with_reducible refine w_irng ?_) | (with_reducible refine w_ienum ?_) | (with_reducible refine w_ibin ?_) | (with_reducible refine w_true ?_) | (with_reducible refine cond_t ?_) | (with_reducible refine cond_f ?_))
local macro_rules | `(tactic| walk_at "ex2") => `(tactic| first | (with_reducible refine w_addI ?_) | (with_reducible refine w_subI ?_) | (with_reducible refine w_ltI ?_) | (with_reducible refine w_leI ?_) | (with_reducible refine w_gtI ?_) | (with_reducible refine w_geI ?_) | (with_reducible refine w_eqI ?_) | (with_reducible refine w_neI ?_) | (with_reducible refine w_negI ?_) | (with_reducible refine w_maxI ?_) | (with_reducible refine w_minI ?_) | (with_reducible refine w_lenT ?_) | (with_reducible refine w_slT ?_) | (with_reducible refine w_sseq ?_) | (with_reducible refine w_senum ?_) | (with_reducible refine w_szip ?_) | (with_reducible refine w_eqB ?_) | (with_reducible refine w_neB ?_))
local macro_rules | `(tactic| walk_at "ex3") => `(tactic| first | ((with_reducible apply w_var); (focus exact rfl)) | ((with_reducible apply wr_by); (focus with_reducible assumption)) | ((with_reducible apply w_via); (focus exact rfl)) | ((with_reducible apply w_mkTup); (focus exact Nat.le_of_ble_eq_true rfl)) | ((with_reducible apply w_mkLst); (focus exact Nat.le_of_ble_eq_true rfl)) | ((with_reducible apply w_ix); (focus exact rfl); (focus exact rfl)) | ((with_reducible apply w_lenL); (focus with_reducible assumption)) | ((with_reducible apply w_lenL); (focus with_reducible exact get_end)) | ((with_reducible apply w_isl); (focus with_reducible assumption)) | ((with_reducible apply w_append); (focus with_reducible assumption); (focus with_reducible assumption)) | ((with_reducible apply w_slL); (focus with_reducible assumption)) | ((with_reducible apply w_enumL); (focus with_reducible assumption)) | ((with_reducible apply w_tupL); (focus with_reducible assumption)) | ((with_reducible apply w_sdyn); (focus with_reducible assumption)) | ((with_reducible apply w_isi); (focus exact rfl)) | ((with_reducible apply w_isi2); (focus exact rfl)) | ((with_reducible apply cond_af); (focus exact rfl)) | ((with_reducible apply cond_at); (focus exact rfl)))
local macro_rules | `(tactic| walk_at "go") => `(tactic| repeat (first | walk_at "ex1" | walk_at "ex2" | walk_at "ex3"))
section
variable {ob : Ob} {ns : List Int} {k : Nat} {e2 e3 e4 e5 e6 e7 e8 e9 e10 e11 e12 e13 e14 e15 e16 e17 e18 e19 e20 e21 e22 e23 : Option D} {st : Sto}
theorem com_eq {size g p : Int} {f : Bool} : (g - p) % size + size * (if ((g - p) % size == 0 && !f) = true then 1 else 0) = comI size g p f := by
  unfold comI
  congr 2
  by_cases h : (g - p) % size = 0 <;> cases f <;> simp [h]
theorem rs_dk {S : Sto} {h r g : Int} {f : Bool} : dk S (.tup (rsD h r f g)) = true := by
  unfold rsD stillR turnR hsD pairI
  cases f <;> by_cases h0 : 0 < r <;> simp [dk, dks, h0]
theorem l2 (hob : ∀ s : Sto, s[0]? = some ob → lstOf s 0 = some (ns.map D.int)) (hn : ns.length ≤ 63) (hk : k < 12) (h0 : st[0]? = some ob) :
    Out (b_law_2 [some (.ref 0), some (.int (k : Int)), e2, e3, e4, e5, e6, e7, e8, e9, e10, e11, e12, e13, e14, e15, e16, e17, e18, e19, e20, e21, e22, e23] st) fun env' st' => st'[0]? = some ob ∧ env'.length = 24 ∧ env'[0]? = some (some (.ref 0)) := by
  have hpos : 0 < st.length := (List.getElem?_eq_some_iff.mp h0).1
  have q1 : s__law_bag [.ref 0, .int (k : Int)] st = _ := bag_of (hob st h0) (by omega) (by omega)
  obtain ⟨S0, hS0⟩ : ∃ S, S = st ++ [lst3 (bagG (cellI ns k)) (bagX (cellI ns k) k) 0] := ⟨_, rfl⟩
  rw [← hS0] at q1
  have z0 : S0[0]? = some ob := by rw [hS0]; exact get0 h0
  have B0 : Bag S0 st.length 0 := ⟨_, _, _, by rw [hS0]; exact get_end, ⟨(bagX_range _ _).1, (bagX_range _ _).2, by omega, by omega⟩, Int.le_refl _⟩
  obtain ⟨a, S1, t1, ha, B1, k1, _⟩ := take_step (many := 3) B0 (by omega) (by omega) (by omega)
  obtain ⟨h, S2, t2, hh, B2, k2, _⟩ := take_step (many := 3) B1 (by omega) (by omega) (by omega)
  obtain ⟨r, S3, t3, hr, B3, k3, _⟩ := take_step (many := 4) B2 (by omega) (by omega) (by omega)
  obtain ⟨ff, S4, t4, hff, B4, k4, _⟩ := take_step (many := 2) B3 (by omega) (by omega) (by omega)
  obtain ⟨g, S5, t5, hg, B5, k5, _⟩ := take_step (many := 2 + (a : Int)) B4 (by omega) (by omega) (by omega)
  obtain ⟨p, S6, t6, hp, B6, k6, _⟩ := take_step (many := 2 + (a : Int)) B5 (by omega) (by omega) (by omega)
  have z6 : S6[0]? = some ob := by rw [k6 0 (by omega), k5 0 (by omega), k4 0 (by omega), k3 0 (by omega), k2 0 (by omega), k1 0 (by omega)]; exact z0
  obtain ⟨f, hf⟩ : ∃ f : Bool, f = ((ff : Int) == 0) := ⟨_, rfl⟩
  obtain ⟨sz, hsz⟩ : ∃ z : Int, z = 2 + (a : Int) := ⟨_, rfl⟩
  obtain ⟨hu, hhu⟩ : ∃ z : Int, z = 1 + (h : Int) := ⟨_, rfl⟩
  have C : Chk sz hu (r : Int) f (g : Int) (p : Int) := by rw [hsz, hhu]; exact chk_ok (chk_all (by omega) (by omega) (by omega) (by omega) (by omega))
  obtain ⟨ss, dns, b, hrun, c1, c2, c3, c4, c5⟩ := C.ex
  have w4 := wh_i C
  rw [← hsz] at t5 t6
  unfold b_law_2
  refine out_set (d := .ref st.length) (st1 := S0) (by simp only [ev_var, ev_c, ev_un, ev_bin, ev_anil, ev_acons, ev_fn, ev_tof, ev_tob, ev_tand, ev_tor, ev_tnot, ev_and, ev_or, ev_not, ev_if, ev_chain, ev_true, ev_slice, ev_onone, ev_osome, ev_iseq, ev_ienum, ev_ibin, ev_lc, ev_skip, ev_never, ev_seq, ev_ret, ev_sif, ev_set, ev_expr, ev_asg, ev_par, ev_for, ev_fld, ev_gn, ev_gsnil, ev_gscons, ev_gt, ev_mkfn, ev_bok, ev_berr, ev_bfail, ev_tok, ev_hok, ev_ert, ev_enx, ev_wn, ev_wc, ev_e0, ev_sseq, ev_senum, ev_szip, ev_sltup, ev_ltI, ev_leI, ev_gtI, ev_geI, ev_subI, ev_addI, ev_lenT, List.map_cons, List.map_nil, List.length_cons, List.length_nil, List.cons_append, List.nil_append, List.append_nil, List.getElem?_cons_zero, List.getElem?_cons_succ, List.set_cons_zero, List.set_cons_succ, List.replicate_succ, List.replicate_zero, Nat.reduceAdd, Nat.reduceSub, Nat.reduceEqDiff, reduceIte, Bool.true_eq_false, Bool.false_eq_true, if_true, if_false, q1]) ?_
  refine out_par3 (x := .int sz) (s1 := S1) (y := .int hu) (s2 := S2) (z := .int (r : Int)) (s3 := S3) (by simp only [ev_var, ev_c, ev_un, ev_bin, ev_anil, ev_acons, ev_fn, ev_tof, ev_tob, ev_tand, ev_tor, ev_tnot, ev_and, ev_or, ev_not, ev_if, ev_chain, ev_true, ev_slice, ev_onone, ev_osome, ev_iseq, ev_ienum, ev_ibin, ev_lc, ev_skip, ev_never, ev_seq, ev_ret, ev_sif, ev_set, ev_expr, ev_asg, ev_par, ev_for, ev_fld, ev_gn, ev_gsnil, ev_gscons, ev_gt, ev_mkfn, ev_bok, ev_berr, ev_bfail, ev_tok, ev_hok, ev_ert, ev_enx, ev_wn, ev_wc, ev_e0, ev_sseq, ev_senum, ev_szip, ev_sltup, ev_ltI, ev_leI, ev_gtI, ev_geI, ev_subI, ev_addI, ev_lenT, List.map_cons, List.map_nil, List.length_cons, List.length_nil, List.cons_append, List.nil_append, List.append_nil, List.getElem?_cons_zero, List.getElem?_cons_succ, List.set_cons_zero, List.set_cons_succ, List.replicate_succ, List.replicate_zero, Nat.reduceAdd, Nat.reduceSub, Nat.reduceEqDiff, reduceIte, Bool.true_eq_false, Bool.false_eq_true, if_true, if_false, t1, hsz]) (by simp only [ev_var, ev_c, ev_un, ev_bin, ev_anil, ev_acons, ev_fn, ev_tof, ev_tob, ev_tand, ev_tor, ev_tnot, ev_and, ev_or, ev_not, ev_if, ev_chain, ev_true, ev_slice, ev_onone, ev_osome, ev_iseq, ev_ienum, ev_ibin, ev_lc, ev_skip, ev_never, ev_seq, ev_ret, ev_sif, ev_set, ev_expr, ev_asg, ev_par, ev_for, ev_fld, ev_gn, ev_gsnil, ev_gscons, ev_gt, ev_mkfn, ev_bok, ev_berr, ev_bfail, ev_tok, ev_hok, ev_ert, ev_enx, ev_wn, ev_wc, ev_e0, ev_sseq, ev_senum, ev_szip, ev_sltup, ev_ltI, ev_leI, ev_gtI, ev_geI, ev_subI, ev_addI, ev_lenT, List.map_cons, List.map_nil, List.length_cons, List.length_nil, List.cons_append, List.nil_append, List.append_nil, List.getElem?_cons_zero, List.getElem?_cons_succ, List.set_cons_zero, List.set_cons_succ, List.replicate_succ, List.replicate_zero, Nat.reduceAdd, Nat.reduceSub, Nat.reduceEqDiff, reduceIte, Bool.true_eq_false, Bool.false_eq_true, if_true, if_false, t2, hhu]) (by simp only [ev_var, ev_c, ev_un, ev_bin, ev_anil, ev_acons, ev_fn, ev_tof, ev_tob, ev_tand, ev_tor, ev_tnot, ev_and, ev_or, ev_not, ev_if, ev_chain, ev_true, ev_slice, ev_onone, ev_osome, ev_iseq, ev_ienum, ev_ibin, ev_lc, ev_skip, ev_never, ev_seq, ev_ret, ev_sif, ev_set, ev_expr, ev_asg, ev_par, ev_for, ev_fld, ev_gn, ev_gsnil, ev_gscons, ev_gt, ev_mkfn, ev_bok, ev_berr, ev_bfail, ev_tok, ev_hok, ev_ert, ev_enx, ev_wn, ev_wc, ev_e0, ev_sseq, ev_senum, ev_szip, ev_sltup, ev_ltI, ev_leI, ev_gtI, ev_geI, ev_subI, ev_addI, ev_lenT, List.map_cons, List.map_nil, List.length_cons, List.length_nil, List.cons_append, List.nil_append, List.append_nil, List.getElem?_cons_zero, List.getElem?_cons_succ, List.set_cons_zero, List.set_cons_succ, List.replicate_succ, List.replicate_zero, Nat.reduceAdd, Nat.reduceSub, Nat.reduceEqDiff, reduceIte, Bool.true_eq_false, Bool.false_eq_true, if_true, if_false, t3]) ?_
  refine out_set (d := .bl f) (st1 := S4) (by simp only [ev_var, ev_c, ev_un, ev_bin, ev_anil, ev_acons, ev_fn, ev_tof, ev_tob, ev_tand, ev_tor, ev_tnot, ev_and, ev_or, ev_not, ev_if, ev_chain, ev_true, ev_slice, ev_onone, ev_osome, ev_iseq, ev_ienum, ev_ibin, ev_lc, ev_skip, ev_never, ev_seq, ev_ret, ev_sif, ev_set, ev_expr, ev_asg, ev_par, ev_for, ev_fld, ev_gn, ev_gsnil, ev_gscons, ev_gt, ev_mkfn, ev_bok, ev_berr, ev_bfail, ev_tok, ev_hok, ev_ert, ev_enx, ev_wn, ev_wc, ev_e0, ev_sseq, ev_senum, ev_szip, ev_sltup, ev_ltI, ev_leI, ev_gtI, ev_geI, ev_subI, ev_addI, ev_lenT, List.map_cons, List.map_nil, List.length_cons, List.length_nil, List.cons_append, List.nil_append, List.append_nil, List.getElem?_cons_zero, List.getElem?_cons_succ, List.set_cons_zero, List.set_cons_succ, List.replicate_succ, List.replicate_zero, Nat.reduceAdd, Nat.reduceSub, Nat.reduceEqDiff, reduceIte, Bool.true_eq_false, Bool.false_eq_true, if_true, if_false, t4, eqI, hf]) ?_
  refine out_par3 (x := .int (g : Int)) (s1 := S5) (y := .int (p : Int)) (s2 := S6) (z := .int (turnerI f)) (s3 := S6) (by simp only [ev_var, ev_c, ev_un, ev_bin, ev_anil, ev_acons, ev_fn, ev_tof, ev_tob, ev_tand, ev_tor, ev_tnot, ev_and, ev_or, ev_not, ev_if, ev_chain, ev_true, ev_slice, ev_onone, ev_osome, ev_iseq, ev_ienum, ev_ibin, ev_lc, ev_skip, ev_never, ev_seq, ev_ret, ev_sif, ev_set, ev_expr, ev_asg, ev_par, ev_for, ev_fld, ev_gn, ev_gsnil, ev_gscons, ev_gt, ev_mkfn, ev_bok, ev_berr, ev_bfail, ev_tok, ev_hok, ev_ert, ev_enx, ev_wn, ev_wc, ev_e0, ev_sseq, ev_senum, ev_szip, ev_sltup, ev_ltI, ev_leI, ev_gtI, ev_geI, ev_subI, ev_addI, ev_lenT, List.map_cons, List.map_nil, List.length_cons, List.length_nil, List.cons_append, List.nil_append, List.append_nil, List.getElem?_cons_zero, List.getElem?_cons_succ, List.set_cons_zero, List.set_cons_succ, List.replicate_succ, List.replicate_zero, Nat.reduceAdd, Nat.reduceSub, Nat.reduceEqDiff, reduceIte, Bool.true_eq_false, Bool.false_eq_true, if_true, if_false, t5]) (by simp only [ev_var, ev_c, ev_un, ev_bin, ev_anil, ev_acons, ev_fn, ev_tof, ev_tob, ev_tand, ev_tor, ev_tnot, ev_and, ev_or, ev_not, ev_if, ev_chain, ev_true, ev_slice, ev_onone, ev_osome, ev_iseq, ev_ienum, ev_ibin, ev_lc, ev_skip, ev_never, ev_seq, ev_ret, ev_sif, ev_set, ev_expr, ev_asg, ev_par, ev_for, ev_fld, ev_gn, ev_gsnil, ev_gscons, ev_gt, ev_mkfn, ev_bok, ev_berr, ev_bfail, ev_tok, ev_hok, ev_ert, ev_enx, ev_wn, ev_wc, ev_e0, ev_sseq, ev_senum, ev_szip, ev_sltup, ev_ltI, ev_leI, ev_gtI, ev_geI, ev_subI, ev_addI, ev_lenT, List.map_cons, List.map_nil, List.length_cons, List.length_nil, List.cons_append, List.nil_append, List.append_nil, List.getElem?_cons_zero, List.getElem?_cons_succ, List.set_cons_zero, List.set_cons_succ, List.replicate_succ, List.replicate_zero, Nat.reduceAdd, Nat.reduceSub, Nat.reduceEqDiff, reduceIte, Bool.true_eq_false, Bool.false_eq_true, if_true, if_false, t6]) (by simp only [ev_var, ev_c, ev_un, ev_bin, ev_anil, ev_acons, ev_fn, ev_tof, ev_tob, ev_tand, ev_tor, ev_tnot, ev_and, ev_or, ev_not, ev_if, ev_chain, ev_true, ev_slice, ev_onone, ev_osome, ev_iseq, ev_ienum, ev_ibin, ev_lc, ev_skip, ev_never, ev_seq, ev_ret, ev_sif, ev_set, ev_expr, ev_asg, ev_par, ev_for, ev_fld, ev_gn, ev_gsnil, ev_gscons, ev_gt, ev_mkfn, ev_bok, ev_berr, ev_bfail, ev_tok, ev_hok, ev_ert, ev_enx, ev_wn, ev_wc, ev_e0, ev_sseq, ev_senum, ev_szip, ev_sltup, ev_ltI, ev_leI, ev_gtI, ev_geI, ev_subI, ev_addI, ev_lenT, List.map_cons, List.map_nil, List.length_cons, List.length_nil, List.cons_append, List.nil_append, List.append_nil, List.getElem?_cons_zero, List.getElem?_cons_succ, List.set_cons_zero, List.set_cons_succ, List.replicate_succ, List.replicate_zero, Nat.reduceAdd, Nat.reduceSub, Nat.reduceEqDiff, reduceIte, Bool.true_eq_false, Bool.false_eq_true, if_true, if_false, fInt_b]; rfl) ?_
  refine out_set (d := .ref (S6.length + 3)) (st1 := S6 ++ X5 hu r f) (by simp only [ev_var, ev_c, ev_un, ev_bin, ev_anil, ev_acons, ev_fn, ev_tof, ev_tob, ev_tand, ev_tor, ev_tnot, ev_and, ev_or, ev_not, ev_if, ev_chain, ev_true, ev_slice, ev_onone, ev_osome, ev_iseq, ev_ienum, ev_ibin, ev_lc, ev_skip, ev_never, ev_seq, ev_ret, ev_sif, ev_set, ev_expr, ev_asg, ev_par, ev_for, ev_fld, ev_gn, ev_gsnil, ev_gscons, ev_gt, ev_mkfn, ev_bok, ev_berr, ev_bfail, ev_tok, ev_hok, ev_ert, ev_enx, ev_wn, ev_wc, ev_e0, ev_sseq, ev_senum, ev_szip, ev_sltup, ev_ltI, ev_leI, ev_gtI, ev_geI, ev_subI, ev_addI, ev_lenT, List.map_cons, List.map_nil, List.length_cons, List.length_nil, List.cons_append, List.nil_append, List.append_nil, List.getElem?_cons_zero, List.getElem?_cons_succ, List.set_cons_zero, List.set_cons_succ, List.replicate_succ, List.replicate_zero, Nat.reduceAdd, Nat.reduceSub, Nat.reduceEqDiff, reduceIte, Bool.true_eq_false, Bool.false_eq_true, if_true, if_false, mkTup2]; exact pairs_run) ?_
  have qs : fSortG [.ref (S6.length + 3)] (S6 ++ X5 hu r f) = .ok (.ref (S6 ++ X5 hu r f).length) (S6 ++ X5 hu r f ++ [.lst (hsD hu r f)]) := by rw [hhu]; exact sort_run (by omega) (by omega) x5_at
  refine out_set (d := stillR hu r f g) (st1 := S6 ++ X5 hu r f ++ [.lst (hsD hu r f)]) (by simp only [ev_var, ev_c, ev_un, ev_bin, ev_anil, ev_acons, ev_fn, ev_tof, ev_tob, ev_tand, ev_tor, ev_tnot, ev_and, ev_or, ev_not, ev_if, ev_chain, ev_true, ev_slice, ev_onone, ev_osome, ev_iseq, ev_ienum, ev_ibin, ev_lc, ev_skip, ev_never, ev_seq, ev_ret, ev_sif, ev_set, ev_expr, ev_asg, ev_par, ev_for, ev_fld, ev_gn, ev_gsnil, ev_gscons, ev_gt, ev_mkfn, ev_bok, ev_berr, ev_bfail, ev_tok, ev_hok, ev_ert, ev_enx, ev_wn, ev_wc, ev_e0, ev_sseq, ev_senum, ev_szip, ev_sltup, ev_ltI, ev_leI, ev_gtI, ev_geI, ev_subI, ev_addI, ev_lenT, List.map_cons, List.map_nil, List.length_cons, List.length_nil, List.cons_append, List.nil_append, List.append_nil, List.getElem?_cons_zero, List.getElem?_cons_succ, List.set_cons_zero, List.set_cons_succ, List.replicate_succ, List.replicate_zero, Nat.reduceAdd, Nat.reduceSub, Nat.reduceEqDiff, reduceIte, Bool.true_eq_false, Bool.false_eq_true, if_true, if_false, mkTup3, mkTup_1, mkTup_0, qs, fTup_end, mkTup_4]; rfl) ?_
  refine out_set (d := turnR) (st1 := S6 ++ X5 hu r f ++ [.lst (hsD hu r f)]) (by simp only [ev_var, ev_c, ev_un, ev_bin, ev_anil, ev_acons, ev_fn, ev_tof, ev_tob, ev_tand, ev_tor, ev_tnot, ev_and, ev_or, ev_not, ev_if, ev_chain, ev_true, ev_slice, ev_onone, ev_osome, ev_iseq, ev_ienum, ev_ibin, ev_lc, ev_skip, ev_never, ev_seq, ev_ret, ev_sif, ev_set, ev_expr, ev_asg, ev_par, ev_for, ev_fld, ev_gn, ev_gsnil, ev_gscons, ev_gt, ev_mkfn, ev_bok, ev_berr, ev_bfail, ev_tok, ev_hok, ev_ert, ev_enx, ev_wn, ev_wc, ev_e0, ev_sseq, ev_senum, ev_szip, ev_sltup, ev_ltI, ev_leI, ev_gtI, ev_geI, ev_subI, ev_addI, ev_lenT, List.map_cons, List.map_nil, List.length_cons, List.length_nil, List.cons_append, List.nil_append, List.append_nil, List.getElem?_cons_zero, List.getElem?_cons_succ, List.set_cons_zero, List.set_cons_succ, List.replicate_succ, List.replicate_zero, Nat.reduceAdd, Nat.reduceSub, Nat.reduceEqDiff, reduceIte, Bool.true_eq_false, Bool.false_eq_true, if_true, if_false, mkTup3, mkTup_1, mkTup_0, mkTup_4]; rfl) ?_
  obtain ⟨S7, hS7⟩ : ∃ S, S = S6 ++ X5 hu r f ++ [.lst (hsD hu r f)] := ⟨_, rfl⟩
  rw [← hS7]
  have z7 : S7[0]? = some ob := by rw [hS7]; exact get0 (get0 z6)
  have B7 : Bag S7 st.length 6 := by rw [hS7]; exact (B6.app).app
  have dkr : dk S7 (.tup (rsD hu r f g)) = true := rs_dk
  have qb : mkIns "Book" s_Book_init [.tup [.int sz], .tup (rsD hu r f g)] S7 = .ok (.ref S7.length) (S7 ++ [bookO [.int sz] (rsD hu r f g)]) := book_made (dk_ints rfl) dkr C.wh (by rw [rs_len]; decide) (by rw [rs_len]; exact C.ru)
  refine out_set (d := .ref S7.length) (st1 := S7 ++ [bookO [.int sz] (rsD hu r f g)]) ?_ ?_
  · have key : ∀ x y : D, (if f = true then (R.ok (D.tup [x, y]) S7 : R D) else .ok (.tup [y, x]) S7) = .ok (.tup (if f = true then [x, y] else [y, x])) S7 := fun x y => by cases f <;> rfl
    simp only [ev_var, ev_c, ev_un, ev_bin, ev_anil, ev_acons, ev_fn, ev_tof, ev_tob, ev_tand, ev_tor, ev_tnot, ev_and, ev_or, ev_not, ev_if, ev_chain, ev_true, ev_slice, ev_onone, ev_osome, ev_iseq, ev_ienum, ev_ibin, ev_lc, ev_skip, ev_never, ev_seq, ev_ret, ev_sif, ev_set, ev_expr, ev_asg, ev_par, ev_for, ev_fld, ev_gn, ev_gsnil, ev_gscons, ev_gt, ev_mkfn, ev_bok, ev_berr, ev_bfail, ev_tok, ev_hok, ev_ert, ev_enx, ev_wn, ev_wc, ev_e0, ev_sseq, ev_senum, ev_szip, ev_sltup, ev_ltI, ev_leI, ev_gtI, ev_geI, ev_subI, ev_addI, ev_lenT, List.map_cons, List.map_nil, List.length_cons, List.length_nil, List.cons_append, List.nil_append, List.append_nil, List.getElem?_cons_zero, List.getElem?_cons_succ, List.set_cons_zero, List.set_cons_succ, List.replicate_succ, List.replicate_zero, Nat.reduceAdd, Nat.reduceSub, Nat.reduceEqDiff, reduceIte, Bool.true_eq_false, Bool.false_eq_true, if_true, if_false, mkTup_1, mkTup2, toB, key]
    exact qb
  obtain ⟨S8, hS8⟩ : ∃ S, S = S7 ++ [bookO [.int sz] (rsD hu r f g)] := ⟨_, rfl⟩
  rw [← hS8]
  have z8 : S8[0]? = some ob := by rw [hS8]; exact get0 z7
  have B8 : Bag S8 st.length 6 := by rw [hS8]; exact B7.app
  have bk8 : ∀ T : Sto, T[S7.length]? = some (bookO [.int sz] (rsD hu r f g)) → bookD T (.ref S7.length) = some ([.int sz], rsD hu r f g) := fun T h => bookO_at h
  have a8 : S8[S7.length]? = some (bookO [.int sz] (rsD hu r f g)) := by rw [hS8]; exact get_end
  have qg : s_begun [.ref S7.length, .tup [.int (p : Int)]] S8 = .ok (stD p) S8 := by
    have := begun_of (bk8 S8 a8) (vs := [.int (p : Int)]) ⟨rfl, rfl, (show (1 : Nat) ≤ most by decide), C.va, by rw [rs_len]; decide, by rw [rs_len]; decide⟩
    rw [rs_len] at this
    exact this
  refine out_par (x := stD p) (s1 := S8) (y := .int (stillI hu r f)) (s2 := S8) (by simp only [ev_var, ev_c, ev_un, ev_bin, ev_anil, ev_acons, ev_fn, ev_tof, ev_tob, ev_tand, ev_tor, ev_tnot, ev_and, ev_or, ev_not, ev_if, ev_chain, ev_true, ev_slice, ev_onone, ev_osome, ev_iseq, ev_ienum, ev_ibin, ev_lc, ev_skip, ev_never, ev_seq, ev_ret, ev_sif, ev_set, ev_expr, ev_asg, ev_par, ev_for, ev_fld, ev_gn, ev_gsnil, ev_gscons, ev_gt, ev_mkfn, ev_bok, ev_berr, ev_bfail, ev_tok, ev_hok, ev_ert, ev_enx, ev_wn, ev_wc, ev_e0, ev_sseq, ev_senum, ev_szip, ev_sltup, ev_ltI, ev_leI, ev_gtI, ev_geI, ev_subI, ev_addI, ev_lenT, List.map_cons, List.map_nil, List.length_cons, List.length_nil, List.cons_append, List.nil_append, List.append_nil, List.getElem?_cons_zero, List.getElem?_cons_succ, List.set_cons_zero, List.set_cons_succ, List.replicate_succ, List.replicate_zero, Nat.reduceAdd, Nat.reduceSub, Nat.reduceEqDiff, reduceIte, Bool.true_eq_false, Bool.false_eq_true, if_true, if_false, mkTup_1, qg]) (by simp only [ev_var, ev_c, ev_un, ev_bin, ev_anil, ev_acons, ev_fn, ev_tof, ev_tob, ev_tand, ev_tor, ev_tnot, ev_and, ev_or, ev_not, ev_if, ev_chain, ev_true, ev_slice, ev_onone, ev_osome, ev_iseq, ev_ienum, ev_ibin, ev_lc, ev_skip, ev_never, ev_seq, ev_ret, ev_sif, ev_set, ev_expr, ev_asg, ev_par, ev_for, ev_fld, ev_gn, ev_gsnil, ev_gscons, ev_gt, ev_mkfn, ev_bok, ev_berr, ev_bfail, ev_tok, ev_hok, ev_ert, ev_enx, ev_wn, ev_wc, ev_e0, ev_sseq, ev_senum, ev_szip, ev_sltup, ev_ltI, ev_leI, ev_gtI, ev_geI, ev_subI, ev_addI, ev_lenT, List.map_cons, List.map_nil, List.length_cons, List.length_nil, List.cons_append, List.nil_append, List.append_nil, List.getElem?_cons_zero, List.getElem?_cons_succ, List.set_cons_zero, List.set_cons_succ, List.replicate_succ, List.replicate_zero, Nat.reduceAdd, Nat.reduceSub, Nat.reduceEqDiff, reduceIte, Bool.true_eq_false, Bool.false_eq_true, if_true, if_false, still_run]) ?_
  refine out_set (d := .int (((g : Int) - p) % sz)) (st1 := S8) (by simp only [ev_var, ev_c, ev_un, ev_bin, ev_anil, ev_acons, ev_fn, ev_tof, ev_tob, ev_tand, ev_tor, ev_tnot, ev_and, ev_or, ev_not, ev_if, ev_chain, ev_true, ev_slice, ev_onone, ev_osome, ev_iseq, ev_ienum, ev_ibin, ev_lc, ev_skip, ev_never, ev_seq, ev_ret, ev_sif, ev_set, ev_expr, ev_asg, ev_par, ev_for, ev_fld, ev_gn, ev_gsnil, ev_gscons, ev_gt, ev_mkfn, ev_bok, ev_berr, ev_bfail, ev_tok, ev_hok, ev_ert, ev_enx, ev_wn, ev_wc, ev_e0, ev_sseq, ev_senum, ev_szip, ev_sltup, ev_ltI, ev_leI, ev_gtI, ev_geI, ev_subI, ev_addI, ev_lenT, List.map_cons, List.map_nil, List.length_cons, List.length_nil, List.cons_append, List.nil_append, List.append_nil, List.getElem?_cons_zero, List.getElem?_cons_succ, List.set_cons_zero, List.set_cons_succ, List.replicate_succ, List.replicate_zero, Nat.reduceAdd, Nat.reduceSub, Nat.reduceEqDiff, reduceIte, Bool.true_eq_false, Bool.false_eq_true, if_true, if_false, modI w4.1]) ?_
  refine out_set (d := .int (comI sz g p f)) (st1 := S8) ?_ ?_
  · have e1 : eAnd (eBin (dEq false) (eVar 8) (eC (.int 0))) (eNot (eVar 3)) = eAnd (eBin (dEq false) (eVar 8) (eC (.int 0))) (eNot (eVar 3)) := rfl
    have key : ∀ c : Bool, (if c = true then (R.ok (D.bl (!f)) S8 : R D) else .ok (.bl false) S8) = .ok (.bl (c && !f)) S8 := fun c => by cases c <;> rfl
    simp only [ev_var, ev_c, ev_un, ev_bin, ev_anil, ev_acons, ev_fn, ev_tof, ev_tob, ev_tand, ev_tor, ev_tnot, ev_and, ev_or, ev_not, ev_if, ev_chain, ev_true, ev_slice, ev_onone, ev_osome, ev_iseq, ev_ienum, ev_ibin, ev_lc, ev_skip, ev_never, ev_seq, ev_ret, ev_sif, ev_set, ev_expr, ev_asg, ev_par, ev_for, ev_fld, ev_gn, ev_gsnil, ev_gscons, ev_gt, ev_mkfn, ev_bok, ev_berr, ev_bfail, ev_tok, ev_hok, ev_ert, ev_enx, ev_wn, ev_wc, ev_e0, ev_sseq, ev_senum, ev_szip, ev_sltup, ev_ltI, ev_leI, ev_gtI, ev_geI, ev_subI, ev_addI, ev_lenT, List.map_cons, List.map_nil, List.length_cons, List.length_nil, List.cons_append, List.nil_append, List.append_nil, List.getElem?_cons_zero, List.getElem?_cons_succ, List.set_cons_zero, List.set_cons_succ, List.replicate_succ, List.replicate_zero, Nat.reduceAdd, Nat.reduceSub, Nat.reduceEqDiff, reduceIte, Bool.true_eq_false, Bool.false_eq_true, if_true, if_false, eqI, key, fInt_b, mulSmall (i := sz) (by omega) (by omega)]
    rw [com_eq]
  obtain ⟨S9, hS9⟩ : ∃ S, S = S8 ++ [.lst (rngL 0 30)] := ⟨_, rfl⟩
  have B9 : Bag S9 st.length ((6 : Nat) : Int) := by rw [hS9]; exact B8.app
  have z9 : S9[0]? = some ob := by rw [hS9]; exact get0 z8
  have bn8 : st.length ≠ S7.length := fun e => by
    obtain ⟨_, _, _, hb, _⟩ := B7
    have := (List.getElem?_eq_some_iff.mp hb).1
    omega
  have l79 : S7.length < S9.length := by rw [hS9, hS8]; simp
  have l0 : 0 < S9.length := (List.getElem?_eq_some_iff.mp z9).1
  have l8 : S8.length < S9.length := by rw [hS9]; simp
  have b8 : st.length < S8.length := by obtain ⟨_, _, _, hb, _⟩ := B8; exact (List.getElem?_eq_some_iff.mp hb).1
  obtain ⟨E, hE⟩ : ∃ E : Ev, E = [some (.ref 0), some (.int (k : Int)), some (.ref st.length), some (.bl f), some (.ref (S6.length + 3)), some (stillR hu r f g), some turnR, some (.ref S7.length), some (.int (comI sz g p f)), e9, e10, e11, e12, e13, some (.int sz), some (.int hu), some (.int (r : Int)), some (.int (g : Int)), some (.int (p : Int)), some (.int (turnerI f)), some (stD p), some (.int (stillI hu r f)), e22, e23] := ⟨_, rfl⟩
  show Out (sSeq _ _ [some (.ref 0), some (.int (k : Int)), some (.ref st.length), some (.bl f), some (.ref (S6.length + 3)), some (stillR hu r f g), some turnR, some (.ref S7.length), some (.int (comI sz g p f)), e9, e10, e11, e12, e13, some (.int sz), some (.int hu), some (.int (r : Int)), some (.int (g : Int)), some (.int (p : Int)), some (.int (turnerI f)), some (stD p), some (.int (stillI hu r f)), e22, e23] S8) _
  rw [← hE]
  obtain ⟨acc, S10, u1, u2, u3, u4, u5, u6⟩ := tens_run (env := E.set 23 none) B9 (by omega) z9 (by omega) (by rw [hE]; rfl) (by rw [hE]; rfl)
  have a9 : S9[S8.length]? = some (.lst (rngL 0 30)) := by rw [hS9]; exact get_end
  have a10 : S10[S8.length]? = some (.lst (rngL 0 30)) := by rw [u4 _ (by omega) l8, a9]
  obtain ⟨S11, hS11⟩ : ∃ S, S = S10 ++ [.lst (rngL 0 30 ++ acc)] := ⟨_, rfl⟩
  have qa : dAdd (.ref S8.length) (.ref S9.length) S10 = .ok (.ref S10.length) S11 := by
    rw [hS11]
    exact addL a10 u3 (by rw [List.length_append, rngL_length, u5]; decide)
  have z11 : S11[0]? = some ob := by rw [hS11]; exact get0 (by rw [u4 0 (by omega) l0, z9])
  have a11 : S11[S7.length]? = some (bookO [.int sz] (rsD hu r f g)) := by
    rw [hS11]
    refine get0 ?_
    rw [u4 _ (by omega) l79, hS9]
    exact get0 a8
  have hb := bk8 S11 a11
  obtain ⟨E1, f1, f2, f3⟩ := l1all (l := S10.length) (env := E) (xs := rngL 0 30 ++ acc) C hb hrun (fun x hx => by
    rcases List.mem_append.mp hx with hx | hx
    · obtain ⟨i, hi⟩ := List.getElem?_of_mem hx
      obtain ⟨h30, rfl⟩ := rngL_get hi
      exact ⟨_, rfl, big30 _ (near_mem h30), c1 _ (near_mem h30)⟩
    · obtain ⟨e, he, rfl⟩ := u6 x hx
      exact ⟨_, rfl, big60 _ (tens_mem he), c2 _ (tens_mem he)⟩) (by rw [hS11]; exact lstOf_end) (by rw [hE]; rfl) (by rw [hE]; rfl) (by rw [hE]; rfl) (by rw [hE]; rfl) (by rw [hE]; rfl) (by rw [hE]; rfl) (by rw [hE]; rfl)
  refine out_seq (env1 := E1) (st1 := S11) ?_ ?_
  · have hsrc : iSeq (eBin dAdd (eFn fLRg (aCons (eC (.int 30)) aNil)) (cLc (iRng (eC (.int 3))) [23] (gN 23) tTrue (eBin dSub (eFn m__law_ten (aCons (eFn s__law_take (aCons (eVar 2) (aCons (eC (.int 60)) aNil))) aNil)) (eC (.int 1))))) E S8 = .ok (.dyn S10.length) S11 := by
      rw [ev_iseq, ev_bin, ev_fn, ev_acons, ev_c, ev_bok, ev_anil, ev_bok, ev_bok, fLRg30, ev_bok, ← hS9, ev_lc, irng_of (n := 3) (by rw [ev_c]; rfl) (by decide), ev_bok, ev_wc, ev_wn, u1, ev_hok, ev_bok, qa, ev_bok]
      unfold seqSrc
      simp only
      rw [show lstOf S11 S10.length = some (rngL 0 30 ++ acc) by rw [hS11]; exact lstOf_end]
    rw [ev_for, hsrc, ev_tok]
    exact f1
  have v : ∀ (i : Nat) (d : D), i ≠ 9 → i ≠ 22 → E[i]? = some (some d) → E1[i]? = some (some d) := fun i d hi hj hd => by rw [f3 i hi hj, hd]
  have v0 := v 0 (.ref 0) (by decide) (by decide) (by rw [hE]; rfl)
  have v7 := v 7 (.ref S7.length) (by decide) (by decide) (by rw [hE]; rfl)
  have v14 := v 14 (.int sz) (by decide) (by decide) (by rw [hE]; rfl)
  have v16 := v 16 (.int (r : Int)) (by decide) (by decide) (by rw [hE]; rfl)
  have v19 := v 19 (.int (turnerI f)) (by decide) (by decide) (by rw [hE]; rfl)
  have v20 := v 20 (stD p) (by decide) (by decide) (by rw [hE]; rfl)
  have v21 := v 21 (.int (stillI hu r f)) (by decide) (by decide) (by rw [hE]; rfl)
  obtain ⟨d0, d1, d2, d3, d4, d5, d6, d7, d8, d9, d10, d11, d12, d13, d14, d15, d16, d17, d18, d19, d20, d21, d22, d23, rfl⟩ := to24 f2
  simp only [List.getElem?_cons_zero, List.getElem?_cons_succ, Option.some.injEq] at v0 v7 v14 v16 v19 v20 v21
  subst v0 v7 v14 v16 v19 v20 v21
  have qq : s_quiet_from [.ref S7.length, stD p, .tup []] S11 = .ok .non S11 := by
    have := quiet_from_of hb hrun
    rw [if_pos c3] at this
    exact this
  have qr := round_of_of hb hrun
  have tr : withinD 0 ((rsD hu r f g).length - 1) (.int (turnerI f)) = true := by rw [rs_len]; cases f <;> decide
  obtain ⟨once, ho⟩ : ∃ o : Int, o = sz + iMax 0 (stillI hu r f) := ⟨_, rfl⟩
  rw [← ho] at c4 c5
  have ob1 : 0 ≤ once ∧ once < 100 := by
    have : iMax 0 (stillI hu r f) ≤ 10 ∧ 0 ≤ iMax 0 (stillI hu r f) := by
      unfold iMax stillI
      split <;> split <;> (try split) <;> (try split) <;> omega
    omega
  have q40 : s_times [.ref S7.length, stD p, .int (turnerI f), .int 40, .tup []] S11 = .ok (.int (timesO ss dns b (turnerI f) 40)) S11 := times_of hb tr (by decide +kernel) hrun
  have qfar : s_times [.ref S7.length, stD p, .int (turnerI f), .int (40 + 1000 * once), .tup []] S11 = .ok (.int (timesO ss dns b (turnerI f) (40 + 1000 * once))) S11 := times_of hb tr (by simp only [withinD, Bool.and_eq_true, decide_eq_true_eq]; omega) hrun
  refine out_if (st1 := S11) (by simp only [ev_var, ev_c, ev_un, ev_bin, ev_anil, ev_acons, ev_fn, ev_tof, ev_tob, ev_tand, ev_tor, ev_tnot, ev_and, ev_or, ev_not, ev_if, ev_chain, ev_true, ev_slice, ev_onone, ev_osome, ev_iseq, ev_ienum, ev_ibin, ev_lc, ev_skip, ev_never, ev_seq, ev_ret, ev_sif, ev_set, ev_expr, ev_asg, ev_par, ev_for, ev_fld, ev_gn, ev_gsnil, ev_gscons, ev_gt, ev_mkfn, ev_bok, ev_berr, ev_bfail, ev_tok, ev_hok, ev_ert, ev_enx, ev_wn, ev_wc, ev_e0, ev_sseq, ev_senum, ev_szip, ev_sltup, ev_ltI, ev_leI, ev_gtI, ev_geI, ev_subI, ev_addI, ev_lenT, List.map_cons, List.map_nil, List.length_cons, List.length_nil, List.cons_append, List.nil_append, List.append_nil, List.getElem?_cons_zero, List.getElem?_cons_succ, List.set_cons_zero, List.set_cons_succ, List.replicate_succ, List.replicate_zero, Nat.reduceAdd, Nat.reduceSub, Nat.reduceEqDiff, reduceIte, Bool.true_eq_false, Bool.false_eq_true, if_true, if_false, aApp, via3, qq, dIsN, toB, Bool.not_true]) ?_
  refine out_set (d := .int once) (st1 := S11) (by simp only [ev_var, ev_c, ev_un, ev_bin, ev_anil, ev_acons, ev_fn, ev_tof, ev_tob, ev_tand, ev_tor, ev_tnot, ev_and, ev_or, ev_not, ev_if, ev_chain, ev_true, ev_slice, ev_onone, ev_osome, ev_iseq, ev_ienum, ev_ibin, ev_lc, ev_skip, ev_never, ev_seq, ev_ret, ev_sif, ev_set, ev_expr, ev_asg, ev_par, ev_for, ev_fld, ev_gn, ev_gsnil, ev_gscons, ev_gt, ev_mkfn, ev_bok, ev_berr, ev_bfail, ev_tok, ev_hok, ev_ert, ev_enx, ev_wn, ev_wc, ev_e0, ev_sseq, ev_senum, ev_szip, ev_sltup, ev_ltI, ev_leI, ev_gtI, ev_geI, ev_subI, ev_addI, ev_lenT, List.map_cons, List.map_nil, List.length_cons, List.length_nil, List.cons_append, List.nil_append, List.append_nil, List.getElem?_cons_zero, List.getElem?_cons_succ, List.set_cons_zero, List.set_cons_succ, List.replicate_succ, List.replicate_zero, Nat.reduceAdd, Nat.reduceSub, Nat.reduceEqDiff, reduceIte, Bool.true_eq_false, Bool.false_eq_true, if_true, if_false, maxI, ho]) ?_
  refine out_if (st1 := S11) ?_ ?_
  · by_cases hs : 0 ≤ stillI hu r f
    · have ix : dIx (.tup [.int b, .int (ss.length - b)]) (.int 1) S11 = .ok (.int (ss.length - b)) S11 := ixS rfl rfl
      simp only [ev_var, ev_c, ev_un, ev_bin, ev_anil, ev_acons, ev_fn, ev_tof, ev_tob, ev_tand, ev_tor, ev_tnot, ev_and, ev_or, ev_not, ev_if, ev_chain, ev_true, ev_slice, ev_onone, ev_osome, ev_iseq, ev_ienum, ev_ibin, ev_lc, ev_skip, ev_never, ev_seq, ev_ret, ev_sif, ev_set, ev_expr, ev_asg, ev_par, ev_for, ev_fld, ev_gn, ev_gsnil, ev_gscons, ev_gt, ev_mkfn, ev_bok, ev_berr, ev_bfail, ev_tok, ev_hok, ev_ert, ev_enx, ev_wn, ev_wc, ev_e0, ev_sseq, ev_senum, ev_szip, ev_sltup, ev_ltI, ev_leI, ev_gtI, ev_geI, ev_subI, ev_addI, ev_lenT, List.map_cons, List.map_nil, List.length_cons, List.length_nil, List.cons_append, List.nil_append, List.append_nil, List.getElem?_cons_zero, List.getElem?_cons_succ, List.set_cons_zero, List.set_cons_succ, List.replicate_succ, List.replicate_zero, Nat.reduceAdd, Nat.reduceSub, Nat.reduceEqDiff, reduceIte, Bool.true_eq_false, Bool.false_eq_true, if_true, if_false, toB, decide_eq_true hs, aApp, via3, qr, ix, fInt_b, mulSmall (i := once) ob1.1 (by omega)]
      rw [neI (by rw [c4 hs]; congr 2; by_cases hq : once < (r : Int) <;> simp [hq]), ev_bok]
      rfl
    · simp only [ev_var, ev_c, ev_un, ev_bin, ev_anil, ev_acons, ev_fn, ev_tof, ev_tob, ev_tand, ev_tor, ev_tnot, ev_and, ev_or, ev_not, ev_if, ev_chain, ev_true, ev_slice, ev_onone, ev_osome, ev_iseq, ev_ienum, ev_ibin, ev_lc, ev_skip, ev_never, ev_seq, ev_ret, ev_sif, ev_set, ev_expr, ev_asg, ev_par, ev_for, ev_fld, ev_gn, ev_gsnil, ev_gscons, ev_gt, ev_mkfn, ev_bok, ev_berr, ev_bfail, ev_tok, ev_hok, ev_ert, ev_enx, ev_wn, ev_wc, ev_e0, ev_sseq, ev_senum, ev_szip, ev_sltup, ev_ltI, ev_leI, ev_gtI, ev_geI, ev_subI, ev_addI, ev_lenT, List.map_cons, List.map_nil, List.length_cons, List.length_nil, List.cons_append, List.nil_append, List.append_nil, List.getElem?_cons_zero, List.getElem?_cons_succ, List.set_cons_zero, List.set_cons_succ, List.replicate_succ, List.replicate_zero, Nat.reduceAdd, Nat.reduceSub, Nat.reduceEqDiff, reduceIte, Bool.true_eq_false, Bool.false_eq_true, if_true, if_false, toB, decide_eq_false hs]
  refine out_set (d := .int (1000 * once)) (st1 := S11) (by simp only [ev_var, ev_c, ev_un, ev_bin, ev_anil, ev_acons, ev_fn, ev_tof, ev_tob, ev_tand, ev_tor, ev_tnot, ev_and, ev_or, ev_not, ev_if, ev_chain, ev_true, ev_slice, ev_onone, ev_osome, ev_iseq, ev_ienum, ev_ibin, ev_lc, ev_skip, ev_never, ev_seq, ev_ret, ev_sif, ev_set, ev_expr, ev_asg, ev_par, ev_for, ev_fld, ev_gn, ev_gsnil, ev_gscons, ev_gt, ev_mkfn, ev_bok, ev_berr, ev_bfail, ev_tok, ev_hok, ev_ert, ev_enx, ev_wn, ev_wc, ev_e0, ev_sseq, ev_senum, ev_szip, ev_sltup, ev_ltI, ev_leI, ev_gtI, ev_geI, ev_subI, ev_addI, ev_lenT, List.map_cons, List.map_nil, List.length_cons, List.length_nil, List.cons_append, List.nil_append, List.append_nil, List.getElem?_cons_zero, List.getElem?_cons_succ, List.set_cons_zero, List.set_cons_succ, List.replicate_succ, List.replicate_zero, Nat.reduceAdd, Nat.reduceSub, Nat.reduceEqDiff, reduceIte, Bool.true_eq_false, Bool.false_eq_true, if_true, if_false, mulSmall (i := 1000) (by omega) (by omega)]) ?_
  refine out_set (d := .int (if 0 ≤ stillI hu r f then 1000 * sz else 0)) (st1 := S11) ?_ ?_
  · by_cases hs : 0 ≤ stillI hu r f
    · simp only [ev_var, ev_c, ev_un, ev_bin, ev_anil, ev_acons, ev_fn, ev_tof, ev_tob, ev_tand, ev_tor, ev_tnot, ev_and, ev_or, ev_not, ev_if, ev_chain, ev_true, ev_slice, ev_onone, ev_osome, ev_iseq, ev_ienum, ev_ibin, ev_lc, ev_skip, ev_never, ev_seq, ev_ret, ev_sif, ev_set, ev_expr, ev_asg, ev_par, ev_for, ev_fld, ev_gn, ev_gsnil, ev_gscons, ev_gt, ev_mkfn, ev_bok, ev_berr, ev_bfail, ev_tok, ev_hok, ev_ert, ev_enx, ev_wn, ev_wc, ev_e0, ev_sseq, ev_senum, ev_szip, ev_sltup, ev_ltI, ev_leI, ev_gtI, ev_geI, ev_subI, ev_addI, ev_lenT, List.map_cons, List.map_nil, List.length_cons, List.length_nil, List.cons_append, List.nil_append, List.append_nil, List.getElem?_cons_zero, List.getElem?_cons_succ, List.set_cons_zero, List.set_cons_succ, List.replicate_succ, List.replicate_zero, Nat.reduceAdd, Nat.reduceSub, Nat.reduceEqDiff, reduceIte, Bool.true_eq_false, Bool.false_eq_true, if_true, if_false, toB, decide_eq_true hs, mulSmall (i := 1000) (by omega) (by omega), if_pos hs]
    · simp only [ev_var, ev_c, ev_un, ev_bin, ev_anil, ev_acons, ev_fn, ev_tof, ev_tob, ev_tand, ev_tor, ev_tnot, ev_and, ev_or, ev_not, ev_if, ev_chain, ev_true, ev_slice, ev_onone, ev_osome, ev_iseq, ev_ienum, ev_ibin, ev_lc, ev_skip, ev_never, ev_seq, ev_ret, ev_sif, ev_set, ev_expr, ev_asg, ev_par, ev_for, ev_fld, ev_gn, ev_gsnil, ev_gscons, ev_gt, ev_mkfn, ev_bok, ev_berr, ev_bfail, ev_tok, ev_hok, ev_ert, ev_enx, ev_wn, ev_wc, ev_e0, ev_sseq, ev_senum, ev_szip, ev_sltup, ev_ltI, ev_leI, ev_gtI, ev_geI, ev_subI, ev_addI, ev_lenT, List.map_cons, List.map_nil, List.length_cons, List.length_nil, List.cons_append, List.nil_append, List.append_nil, List.getElem?_cons_zero, List.getElem?_cons_succ, List.set_cons_zero, List.set_cons_succ, List.replicate_succ, List.replicate_zero, Nat.reduceAdd, Nat.reduceSub, Nat.reduceEqDiff, reduceIte, Bool.true_eq_false, Bool.false_eq_true, if_true, if_false, toB, decide_eq_false hs, if_neg hs]
  refine out_set (d := .int (timesO ss dns b (turnerI f) 40)) (st1 := S11) (by simp only [ev_var, ev_c, ev_un, ev_bin, ev_anil, ev_acons, ev_fn, ev_tof, ev_tob, ev_tand, ev_tor, ev_tnot, ev_and, ev_or, ev_not, ev_if, ev_chain, ev_true, ev_slice, ev_onone, ev_osome, ev_iseq, ev_ienum, ev_ibin, ev_lc, ev_skip, ev_never, ev_seq, ev_ret, ev_sif, ev_set, ev_expr, ev_asg, ev_par, ev_for, ev_fld, ev_gn, ev_gsnil, ev_gscons, ev_gt, ev_mkfn, ev_bok, ev_berr, ev_bfail, ev_tok, ev_hok, ev_ert, ev_enx, ev_wn, ev_wc, ev_e0, ev_sseq, ev_senum, ev_szip, ev_sltup, ev_ltI, ev_leI, ev_gtI, ev_geI, ev_subI, ev_addI, ev_lenT, List.map_cons, List.map_nil, List.length_cons, List.length_nil, List.cons_append, List.nil_append, List.append_nil, List.getElem?_cons_zero, List.getElem?_cons_succ, List.set_cons_zero, List.set_cons_succ, List.replicate_succ, List.replicate_zero, Nat.reduceAdd, Nat.reduceSub, Nat.reduceEqDiff, reduceIte, Bool.true_eq_false, Bool.false_eq_true, if_true, if_false, aApp, via5, q40]) ?_
  refine ⟨[some (.ref 0), d1, d2, d3, d4, d5, d6, some (.ref S7.length), d8, d9, some (.int once), some (.int (1000 * once)), some (.int (if 0 ≤ stillI hu r f then 1000 * sz else 0)), some (.int (timesO ss dns b (turnerI f) 40)), some (.int sz), d15, some (.int (r : Int)), d17, d18, some (.int (turnerI f)), some (stD p), some (.int (stillI hu r f)), d22, d23], S11, ?_, z11, rfl, rfl⟩
  have fin : tOf (eBin (dEq true) (eFn (via [.at 0, .at 1, .at 2, .at 3, .df (.tup [])] s_times) (aApp (aCons (eVar 7) (aCons (eVar 20) (aCons (eVar 19) (aCons (eBin dAdd (eC (.int 40)) (eVar 11)) aNil)))) aNil)) (eBin dAdd (eVar 13) (eVar 12)))
      [some (.ref 0), d1, d2, d3, d4, d5, d6, some (.ref S7.length), d8, d9, some (.int once), some (.int (1000 * once)), some (.int (if 0 ≤ stillI hu r f then 1000 * sz else 0)), some (.int (timesO ss dns b (turnerI f) 40)), some (.int sz), d15, some (.int (r : Int)), d17, d18, some (.int (turnerI f)), some (stD p), some (.int (stillI hu r f)), d22, d23] S11 = .ok false S11 := by
    simp only [ev_var, ev_c, ev_un, ev_bin, ev_anil, ev_acons, ev_fn, ev_tof, ev_tob, ev_tand, ev_tor, ev_tnot, ev_and, ev_or, ev_not, ev_if, ev_chain, ev_true, ev_slice, ev_onone, ev_osome, ev_iseq, ev_ienum, ev_ibin, ev_lc, ev_skip, ev_never, ev_seq, ev_ret, ev_sif, ev_set, ev_expr, ev_asg, ev_par, ev_for, ev_fld, ev_gn, ev_gsnil, ev_gscons, ev_gt, ev_mkfn, ev_bok, ev_berr, ev_bfail, ev_tok, ev_hok, ev_ert, ev_enx, ev_wn, ev_wc, ev_e0, ev_sseq, ev_senum, ev_szip, ev_sltup, ev_ltI, ev_leI, ev_gtI, ev_geI, ev_subI, ev_addI, ev_lenT, List.map_cons, List.map_nil, List.length_cons, List.length_nil, List.cons_append, List.nil_append, List.append_nil, List.getElem?_cons_zero, List.getElem?_cons_succ, List.set_cons_zero, List.set_cons_succ, List.replicate_succ, List.replicate_zero, Nat.reduceAdd, Nat.reduceSub, Nat.reduceEqDiff, reduceIte, Bool.true_eq_false, Bool.false_eq_true, if_true, if_false, aApp, via5, qfar]
    rw [neI c5]
    rfl
  show sIf _ _ _ [some (.ref 0), d1, d2, d3, d4, d5, d6, some (.ref S7.length), d8, d9, some (.int once), some (.int (1000 * once)), some (.int (if 0 ≤ stillI hu r f then 1000 * sz else 0)), some (.int (timesO ss dns b (turnerI f) 40)), some (.int sz), d15, some (.int (r : Int)), d17, d18, some (.int (turnerI f)), some (stD p), some (.int (stillI hu r f)), d22, d23] S11 = _
  rw [ev_sif, fin, ev_tok]
  rfl
end
theorem law_true {ob : Ob} {ns : List Int} (hob : ∀ s : Sto, s[0]? = some ob → lstOf s 0 = some (ns.map D.int)) (hn : ns.length ≤ 63) : ∃ st', m_law [.ref 0] [ob] = .ok (.bl true) st' := by
  have hl : fLen [.ref 0] [ob] = .ok (.int ((ns.length : Nat) : Int)) [ob] := by
    unfold fLen seqOf
    simp only [hob [ob] rfl, List.length_map]
  obtain ⟨N, hN, hN8⟩ : ∃ N : Nat, iMax 4 (iMin 12 ((ns.length : Nat) : Int)) = (N : Int) ∧ N ≤ 12 := by
    unfold iMax iMin
    refine ⟨max 4 (min 12 ns.length), ?_, by omega⟩
    split <;> split <;> omega
  have hr : iRng (eFn (fI2 iMax) (aCons (eC (.int 4)) (aCons (eFn (fI2 iMin) (aCons (eC (.int 12)) (aCons (eFn fLen (aCons (eVar 0) aNil)) aNil))) aNil))) (some (.ref 0) :: List.replicate 23 none) [ob] = .ok (.fix (rngL 0 N)) [ob] := irng_of (by
    simp only [ev_var, ev_c, ev_un, ev_bin, ev_anil, ev_acons, ev_fn, ev_tof, ev_tob, ev_tand, ev_tor, ev_tnot, ev_and, ev_or, ev_not, ev_if, ev_chain, ev_true, ev_slice, ev_onone, ev_osome, ev_iseq, ev_ienum, ev_ibin, ev_lc, ev_skip, ev_never, ev_seq, ev_ret, ev_sif, ev_set, ev_expr, ev_asg, ev_par, ev_for, ev_fld, ev_gn, ev_gsnil, ev_gscons, ev_gt, ev_mkfn, ev_bok, ev_berr, ev_bfail, ev_tok, ev_hok, ev_ert, ev_enx, ev_wn, ev_wc, ev_e0, ev_sseq, ev_senum, ev_szip, ev_sltup, ev_ltI, ev_leI, ev_gtI, ev_geI, ev_subI, ev_addI, ev_lenT, List.map_cons, List.map_nil, List.length_cons, List.length_nil, List.cons_append, List.nil_append, List.append_nil, List.getElem?_cons_zero, List.getElem?_cons_succ, List.set_cons_zero, List.set_cons_succ, List.replicate_succ, List.replicate_zero, Nat.reduceAdd, Nat.reduceSub, Nat.reduceEqDiff, reduceIte, Bool.true_eq_false, Bool.false_eq_true, if_true, if_false, hl]
    show R.ok (D.int (iMax 4 (iMin 12 ((ns.length : Nat) : Int)))) [ob] = _
    rw [hN]) (Nat.le_trans hN8 (by decide))
  obtain ⟨env', st', f1, _⟩ := startFor_J (s := .fix (rngL 0 N)) (g := gN 1) (body := b_law_2) (xs := rngL 0 N) (env := some (.ref 0) :: List.replicate 23 none) (st := [ob]) (fun _ env s => s[0]? = some ob ∧ env.length = 24 ∧ env[0]? = some (some (.ref 0))) (fun _ _ _ _ => rfl) ⟨rfl, rfl, rfl⟩ fun i x env s hx ⟨z, h24, h0⟩ => by
    obtain ⟨hi, rfl⟩ := rngL_get hx
    obtain ⟨c0, c1, c2, c3, c4, c5, c6, c7, c8, c9, c10, c11, c12, c13, c14, c15, c16, c17, c18, c19, c20, c21, c22, c23, rfl⟩ := to24 h24
    simp only [List.getElem?_cons_zero, Option.some.injEq] at h0
    subst h0
    obtain ⟨env', s', g1, g2⟩ := l2 (k := i) (e2 := c2) (e3 := c3) (e4 := c4) (e5 := c5) (e6 := c6) (e7 := c7) (e8 := c8) (e9 := c9) (e10 := c10) (e11 := c11) (e12 := c12) (e13 := c13) (e14 := c14) (e15 := c15) (e16 := c16) (e17 := c17) (e18 := c18) (e19 := c19) (e20 := c20) (e21 := c21) (e22 := c22) (e23 := c23) hob hn (by omega) z
    exact ⟨_, _, _, _, rfl, g1, g2⟩
  refine ⟨st', ?_⟩
  have key : b_law (some (.ref 0) :: List.replicate 23 none) [ob] = .rt (.bl true) st' := by
    unfold b_law
    refine seq_to (env1 := env') (st1 := st') ?_ rfl
    rw [ev_for, hr, ev_tok]
    exact f1
  unfold m_law
  rw [ev_mkfn, if_pos (show [D.ref 0].length = 1 from rfl)]
  show endFn (b_law (some (.ref 0) :: List.replicate 23 none) [ob]) = _
  rw [key]
  rfl

end Hd
set_option Elab.async false
set_option linter.all false
set_option maxRecDepth 100000
set_option maxHeartbeats 0
open PySem PySem.W PySem.Calls PyProof.Rows
abbrev Hd.rw : PySem.W.OpenLaw := PySem.Challenge.rw_hushrules_k16_whole_hushes_counted
theorem PySem.Challenge.cw_hushrules_k16_whole_hushes_counted_holds : PySem.Challenge.rw_hushrules_k16_whole_hushes_counted.Holds := by
  w_on; o_law
  refine HandSHeadRun.head_any (r := Hd.RR) (q := view Hd.RR.prog [73]) (H := Hd.hk) (ob := Hd.ob) (M := 8000) (loose := Hd.loose) (d := HandSHeadRun.topDef Hd.RR.prog 73) (kwd := []) Hd.ob_eq (by kernel_rfl) (fun s => by kernel_rfl) Hd.run (by kernel_rfl) (by kernel_rfl) (by kernel_rfl) (by rfl) (by first | assumption | decide +kernel) (by decide +kernel) ⟨rfl, rfl, rfl, rfl, rfl, by decide +kernel⟩ ?hw ?hc
  case hw => w_witness2
  case hc =>
    refine U.walkW (law := Hd.rw) (n := 63) (k := 9) (x := "_law_script") rfl (by decide) (by kernel_rfl) ⟨rfl, by decide, by decide⟩ ?F
    intro w mg fa h Y G hm0
    obtain ⟨K, KX, c⟩ := Y
    have hm : mg ("law" : PySem.Str) = some (.ref fa) := by
      have e : (HandSHeadRun.topDef Hd.RR.prog 73).name = ("law" : PySem.Str) := by kernel_rfl
      rw [← e]
      exact hm0
    have T := Hd.txt_of KX G c
    obtain ⟨fd, hb, hF⟩ := Hd.E_law (P := Hd.rw.prog) (w := w) T
    have e := hm.symm.trans T.g_law
    cases e
    exact ⟨K, fd, Hd.m_law, KX, hb, fun ob ns hl hs => Hd.law_true (fun s z => hs.at z) hl, hF⟩
