import PyProof.Rows.All
import Wide.All
import OpenK.AllK
import Wide.FinOn
import HandS.ForMost
import HandS.Walk
import HandS.TupAny
import HandS.TupMul
import HandS.Deep
import HandS.Strs
import HandS.IsInst
import HandS.Style
import HandS.ForExc
import HandS.MakeKwOnly
import KE.GoesMore
import KE.GoesEnum
import HandS.Defaults
import HandS.Iter
import HandS.ExcInit
import HandS.ExcField
import HandS.TryMany
import HandS.TryOnly
import HandS.ExcOwn
import HandS.WordsExc
import HandS.ExcIs
import KE.KExcIs
import PySem.Challenge.RW_ledelsewhere_k10_guard_refusals
set_option Elab.async false
set_option linter.all false
set_option maxRecDepth 100000
set_option maxHeartbeats 4000000
namespace DL
open PySem L2

/-! ### data, the store, results -/
inductive D where
  | non | bl (b : Bool) | int (i : Int) | str (s : Str) | tup (ds : List D) | loc (i : Nat)
instance : Inhabited D := ⟨.non⟩
mutual
def D.dec : (a b : D) → Decidable (a = b)
  | .non, .non => .isTrue rfl
  | .bl a, .bl b => if h : a = b then .isTrue (by rw [h]) else .isFalse fun q => h (D.bl.inj q)
  | .int a, .int b => if h : a = b then .isTrue (by rw [h]) else .isFalse fun q => h (D.int.inj q)
  | .str a, .str b => if h : a = b then .isTrue (by rw [h]) else .isFalse fun q => h (D.str.inj q)
  | .tup a, .tup b => match D.decL a b with
    | .isTrue h => .isTrue (by rw [h])
    | .isFalse h => .isFalse fun q => h (D.tup.inj q)
  | .loc a, .loc b => if h : a = b then .isTrue (by rw [h]) else .isFalse fun q => h (D.loc.inj q)
  | .non, .bl _ => .isFalse nofun | .non, .int _ => .isFalse nofun | .non, .str _ => .isFalse nofun | .non, .tup _ => .isFalse nofun | .non, .loc _ => .isFalse nofun
  | .bl _, .non => .isFalse nofun | .bl _, .int _ => .isFalse nofun | .bl _, .str _ => .isFalse nofun | .bl _, .tup _ => .isFalse nofun | .bl _, .loc _ => .isFalse nofun
  | .int _, .non => .isFalse nofun | .int _, .bl _ => .isFalse nofun | .int _, .str _ => .isFalse nofun | .int _, .tup _ => .isFalse nofun | .int _, .loc _ => .isFalse nofun
  | .str _, .non => .isFalse nofun | .str _, .bl _ => .isFalse nofun | .str _, .int _ => .isFalse nofun | .str _, .tup _ => .isFalse nofun | .str _, .loc _ => .isFalse nofun
  | .tup _, .non => .isFalse nofun | .tup _, .bl _ => .isFalse nofun | .tup _, .int _ => .isFalse nofun | .tup _, .str _ => .isFalse nofun | .tup _, .loc _ => .isFalse nofun
  | .loc _, .non => .isFalse nofun | .loc _, .bl _ => .isFalse nofun | .loc _, .int _ => .isFalse nofun | .loc _, .str _ => .isFalse nofun | .loc _, .tup _ => .isFalse nofun
def D.decL : (a b : List D) → Decidable (a = b)
  | [], [] => .isTrue rfl
  | [], _ :: _ => .isFalse nofun
  | _ :: _, [] => .isFalse nofun
  | a :: r, b :: t => match D.dec a b, D.decL r t with
    | .isTrue h, .isTrue q => .isTrue (by rw [h, q])
    | .isFalse h, _ => .isFalse fun z => h (List.cons.inj z).1
    | _, .isFalse q => .isFalse fun z => q (List.cons.inj z).2
end
instance : DecidableEq D := D.dec
inductive SO where
  | lst (ds : List D) | frz (ds : List D) | obj (c : Nat) (fs : List (Str × D))
  deriving DecidableEq
abbrev Sto := List SO
inductive R (α : Type) where
  | ok (a : α) (st : Sto) | raise (c : Nat) (fs : Option (List (Str × D))) (st : Sto) | stuck
def M (α : Type) := Sto → R α
def M.pure {α : Type} (a : α) : M α := fun st => .ok a st
def M.bind {α β : Type} (m : M α) (f : α → M β) : M β := fun st => match m st with
  | .ok a st' => f a st'
  | .raise c fs st' => .raise c fs st'
  | .stuck => .stuck
instance : Monad M where
  pure := M.pure
  bind := M.bind
def stuck {α : Type} : M α := fun _ => .stuck
def guardM (b : Bool) : M Unit := fun st => if b then .ok () st else .stuck
theorem pure_run {α : Type} (a : α) (st : Sto) : (pure a : M α) st = .ok a st := rfl
theorem bind_run {α β : Type} (m : M α) (f : α → M β) (st : Sto) : (m >>= f) st = match m st with
  | .ok a st' => f a st'
  | .raise c fs st' => .raise c fs st'
  | .stuck => .stuck := rfl
theorem bind_ok {α β : Type} {m : M α} {f : α → M β} {st st' : Sto} {a : α} (h : m st = .ok a st') : (m >>= f) st = f a st' := by rw [bind_run, h]

/-! ### what stands for what -/
/-- a tuple whose object has no dict of its own: laid and known, or of the written part -/
def KTup (K : PySem.W.Frag) (a : Addr) (xs : List V) : Prop :=
  ∃ (o : Obj) (its : Array Value) (n : Nat), K.lookup a = some o ∧ o.cls = .type "tuple" ∧ o.dict = none ∧ o.data = .seq its n ∧ its.size ≤ sizeLine ∧ Vals xs its.toList
def TupR (K : PySem.W.Frag) (H : Hp) (a : Addr) (xs : List V) : Prop := (∃ o : Obj, o.dict = none ∧ H a = some (.frz o (.tup xs))) ∨ KTup K a xs
theorem TupR.sq {K : PySem.W.Frag} {H : Hp} {a : Addr} {xs : List V} (h : TupR K H a xs) : SqT K H a xs := by
  rcases h with ⟨o, _, h⟩ | ⟨o, its, n, h1, h2, _, h4, h5, h6⟩
  · exact .inl (.inr ⟨o, h⟩)
  · exact .inr ⟨o, its, n, h1, h2, h4, h5, h6⟩
mutual
def Rep (K : PySem.W.Frag) (μ : List Addr) (H : Hp) : D → V → Prop
  | .non, v => v = .non
  | .bl b, v => v = .bl b
  | .int i, v => v = .int i
  | .str s, v => v = .str s
  | .tup ds, v => ∃ a vs, v = .ref a ∧ TupR K H a vs ∧ RepL K μ H ds vs
  | .loc i, v => ∃ a, μ[i]? = some a ∧ v = .ref a
def RepL (K : PySem.W.Frag) (μ : List Addr) (H : Hp) : List D → List V → Prop
  | [], vs => vs = []
  | d :: ds, vs => ∃ v r, vs = v :: r ∧ Rep K μ H d v ∧ RepL K μ H ds r
end
def RepF (K : PySem.W.Frag) (μ : List Addr) (H : Hp) : List (Str × D) → List (Str × V) → Prop
  | [], fvs => fvs = []
  | (n, d) :: fs, fvs => ∃ v r, fvs = (n, v) :: r ∧ Rep K μ H d v ∧ RepF K μ H fs r
/-- a later world -/
structure Ext (K : PySem.W.Frag) (μ : List Addr) (H : Hp) (μ' : List Addr) (H' : Hp) : Prop where
  pre : ∀ (i : Nat) a, μ[i]? = some a → μ'[i]? = some a
  tup : ∀ a xs, TupR K H a xs → TupR K H' a xs
theorem Ext.refl {K : PySem.W.Frag} {μ : List Addr} {H : Hp} : Ext K μ H μ H := ⟨fun _ _ h => h, fun _ _ h => h⟩
theorem Ext.trans {K : PySem.W.Frag} {μ μ1 μ2 : List Addr} {H H1 H2 : Hp} (a : Ext K μ H μ1 H1) (b : Ext K μ1 H1 μ2 H2) : Ext K μ H μ2 H2 :=
  ⟨fun i x h => b.pre i x (a.pre i x h), fun x xs h => b.tup x xs (a.tup x xs h)⟩
mutual
theorem Rep.mono {K : PySem.W.Frag} {μ μ' : List Addr} {H H' : Hp} (e : Ext K μ H μ' H') : ∀ {d : D} {v : V}, Rep K μ H d v → Rep K μ' H' d v
  | .non, v, h => by unfold Rep at h ⊢; exact h
  | .bl b, v, h => by unfold Rep at h ⊢; exact h
  | .int i, v, h => by unfold Rep at h ⊢; exact h
  | .str s, v, h => by unfold Rep at h ⊢; exact h
  | .tup ds, v, h => by
    unfold Rep at h ⊢
    obtain ⟨a, vs, rfl, h1, h2⟩ := h
    exact ⟨a, vs, rfl, e.tup _ _ h1, RepL.mono e h2⟩
  | .loc i, v, h => by
    unfold Rep at h ⊢
    obtain ⟨a, h1, rfl⟩ := h
    exact ⟨a, e.pre _ _ h1, rfl⟩
theorem RepL.mono {K : PySem.W.Frag} {μ μ' : List Addr} {H H' : Hp} (e : Ext K μ H μ' H') : ∀ {ds : List D} {vs : List V}, RepL K μ H ds vs → RepL K μ' H' ds vs
  | [], vs, h => by unfold RepL at h ⊢; exact h
  | d :: ds, vs, h => by
    unfold RepL at h ⊢
    obtain ⟨v, r, rfl, h1, h2⟩ := h
    exact ⟨v, r, rfl, Rep.mono e h1, RepL.mono e h2⟩
end
theorem RepF.mono {K : PySem.W.Frag} {μ μ' : List Addr} {H H' : Hp} (e : Ext K μ H μ' H') : ∀ {ds : List (Str × D)} {vs : List (Str × V)}, RepF K μ H ds vs → RepF K μ' H' ds vs
  | [], vs, h => h
  | (n, d) :: ds, vs, h => by
    obtain ⟨v, r, rfl, h1, h2⟩ := h
    exact ⟨v, r, rfl, h1.mono e, RepF.mono e h2⟩
section
variable {K : PySem.W.Frag} {μ : List Addr} {H : Hp}
theorem rep_non {v : V} : Rep K μ H .non v ↔ v = .non := by unfold Rep; exact Iff.rfl
theorem rep_bl {b} {v : V} : Rep K μ H (.bl b) v ↔ v = .bl b := by unfold Rep; exact Iff.rfl
theorem rep_int {i} {v : V} : Rep K μ H (.int i) v ↔ v = .int i := by unfold Rep; exact Iff.rfl
theorem rep_str {s} {v : V} : Rep K μ H (.str s) v ↔ v = .str s := by unfold Rep; exact Iff.rfl
theorem rep_tup {ds} {v : V} : Rep K μ H (.tup ds) v ↔ ∃ a vs, v = .ref a ∧ TupR K H a vs ∧ RepL K μ H ds vs := by conv => lhs; unfold Rep
theorem rep_loc {i} {v : V} : Rep K μ H (.loc i) v ↔ ∃ a, μ[i]? = some a ∧ v = .ref a := by conv => lhs; unfold Rep
theorem repL_nil {vs : List V} : RepL K μ H [] vs ↔ vs = [] := by conv => lhs; unfold RepL
theorem repL_cons {d ds} {vs : List V} : RepL K μ H (d :: ds) vs ↔ ∃ v r, vs = v :: r ∧ Rep K μ H d v ∧ RepL K μ H ds r := by conv => lhs; unfold RepL
theorem RepL.length : ∀ {ds : List D} {vs : List V}, RepL K μ H ds vs → vs.length = ds.length
  | [], vs, h => by rw [repL_nil] at h; subst h; rfl
  | d :: ds, vs, h => by rw [repL_cons] at h; obtain ⟨v, r, rfl, _, h2⟩ := h; simp [RepL.length h2]
theorem RepL.get : ∀ {ds : List D} {vs : List V} {i : Nat} {d : D}, RepL K μ H ds vs → ds[i]? = some d → ∃ v, vs[i]? = some v ∧ Rep K μ H d v
  | [], _, _, _, _, e => by simp at e
  | d0 :: ds, vs, 0, d, h, e => by
    rw [repL_cons] at h; obtain ⟨v, r, rfl, h1, h2⟩ := h
    simp at e; subst e; exact ⟨v, by simp, h1⟩
  | d0 :: ds, vs, i + 1, d, h, e => by
    rw [repL_cons] at h; obtain ⟨v, r, rfl, h1, h2⟩ := h
    obtain ⟨w, h3, h4⟩ := RepL.get (i := i) h2 (by simpa using e)
    exact ⟨w, by simpa using h3, h4⟩
theorem RepL.append : ∀ {ds es : List D} {vs ws : List V}, RepL K μ H ds vs → RepL K μ H es ws → RepL K μ H (ds ++ es) (vs ++ ws)
  | [], _, vs, ws, h, q => by rw [repL_nil] at h; subst h; exact q
  | d :: ds, _, vs, ws, h, q => by
    rw [repL_cons] at h; obtain ⟨v, r, rfl, h1, h2⟩ := h
    show RepL K μ H (d :: (ds ++ _)) (v :: (r ++ ws))
    rw [repL_cons]; exact ⟨v, _, rfl, h1, RepL.append h2 q⟩
theorem RepL.take : ∀ (n : Nat) {ds : List D} {vs : List V}, RepL K μ H ds vs → RepL K μ H (ds.take n) (vs.take n)
  | 0, _, _, _ => by simp [repL_nil]
  | n + 1, [], vs, h => by rw [repL_nil] at h; subst h; simp [repL_nil]
  | n + 1, d :: ds, vs, h => by
    rw [repL_cons] at h; obtain ⟨v, r, rfl, h1, h2⟩ := h
    simp only [List.take_succ_cons]; rw [repL_cons]; exact ⟨v, _, rfl, h1, RepL.take n h2⟩
theorem RepL.drop : ∀ (n : Nat) {ds : List D} {vs : List V}, RepL K μ H ds vs → RepL K μ H (ds.drop n) (vs.drop n)
  | 0, _, _, h => by simpa using h
  | n + 1, [], vs, h => by rw [repL_nil] at h; subst h; simp [repL_nil]
  | n + 1, d :: ds, vs, h => by
    rw [repL_cons] at h; obtain ⟨v, r, rfl, h1, h2⟩ := h
    simpa using RepL.drop n h2
theorem RepL.set : ∀ (i : Nat) {d : D} {v : V} {ds : List D} {vs : List V}, RepL K μ H ds vs → Rep K μ H d v → RepL K μ H (ds.set i d) (vs.set i v)
  | _, _, _, [], vs, h, _ => by rw [repL_nil] at h; subst h; simp [repL_nil]
  | 0, d, v, d0 :: ds, vs, h, q => by
    rw [repL_cons] at h; obtain ⟨v0, r, rfl, h1, h2⟩ := h
    simp only [List.set_cons_zero]; rw [repL_cons]; exact ⟨v, r, rfl, q, h2⟩
  | i + 1, d, v, d0 :: ds, vs, h, q => by
    rw [repL_cons] at h; obtain ⟨v0, r, rfl, h1, h2⟩ := h
    simp only [List.set_cons_succ]; rw [repL_cons]; exact ⟨v0, _, rfl, h1, RepL.set i h2 q⟩
theorem RepL.one {d : D} {v : V} (h : Rep K μ H d v) : RepL K μ H [d] [v] := by
  rw [repL_cons]; exact ⟨v, [], rfl, h, repL_nil.mpr rfl⟩
theorem RepL.single {d : D} {vs : List V} (h : RepL K μ H [d] vs) : ∃ v, vs = [v] ∧ Rep K μ H d v := by
  rw [repL_cons] at h; obtain ⟨v, r, rfl, h1, h2⟩ := h
  rw [repL_nil] at h2; subst h2; exact ⟨v, rfl, h1⟩
theorem RepL.pair {d e : D} {vs : List V} (h : RepL K μ H [d, e] vs) : ∃ v w, vs = [v, w] ∧ Rep K μ H d v ∧ Rep K μ H e w := by
  rw [repL_cons] at h; obtain ⟨v, r, rfl, h1, h2⟩ := h
  obtain ⟨w, rfl, h3⟩ := h2.single
  exact ⟨v, w, rfl, h1, h3⟩
end

/-! ### the store in the heap -/
/-- a list of the written part -/
def KLst (K : PySem.W.Frag) (a : Addr) (xs : List V) : Prop :=
  ∃ (o : Obj) (its : Array Value) (n : Nat), K.lookup a = some o ∧ o.cls = .type "list" ∧ o.dict = none ∧ o.data = .seq its n ∧ its.size ≤ sizeLine ∧ Vals xs its.toList
def ObjR (K : PySem.W.Frag) (ca : Nat → Addr) (μ : List Addr) (H : Hp) (a : Addr) : SO → Prop
  | .lst ds => ∃ vs, H a = some (.lst vs) ∧ RepL K μ H ds vs
  | .frz ds => ∃ vs, ((∃ o, H a = some (.frz o (.lst vs))) ∨ KLst K a vs) ∧ RepL K μ H ds vs
  | .obj c fs => ∃ dx fvs, H a = some (.ins (ca c) dx fvs) ∧ RepF K μ H fs fvs
def SO.mut : SO → Bool
  | .frz _ => false
  | _ => true
structure Sim (K : PySem.W.Frag) (ca : Nat → Addr) (μ : List Addr) (st : Sto) (H : Hp) : Prop where
  len : μ.length = st.length
  obj : ∀ (i : Nat) a o, μ[i]? = some a → st[i]? = some o → ObjR K ca μ H a o
  inj : ∀ (i j : Nat) a o u, μ[i]? = some a → μ[j]? = some a → st[i]? = some o → st[j]? = some u → o.mut = true → u.mut = true → i = j
section
variable {K : PySem.W.Frag} {ca : Nat → Addr} {μ : List Addr} {st : Sto} {H : Hp}
theorem TupR.updM {p : Addr} {o : HO} {a : Addr} {xs : List V} (h : H p = none ∨ Mut (H p)) (q : TupR K H a xs) : TupR K (upd H p o) a xs := by
  rcases q with ⟨ob, hd, q⟩ | q
  · refine .inl ⟨ob, hd, ?_⟩
    rw [upd_ne]; exact q
    rintro rfl
    rcases h with h | h <;> rw [q] at h
    · cases h
    · exact h
  · exact .inr q
theorem Ext.updM {p : Addr} {o : HO} (h : H p = none ∨ Mut (H p)) : Ext K μ H μ (upd H p o) := ⟨fun _ _ z => z, fun _ _ z => TupR.updM h z⟩
theorem ObjR.mono {μ' : List Addr} {H' : Hp} {a : Addr} {o : SO} (e : Ext K μ H μ' H') (ha : ∀ u, H a = some u → H' a = some u) (h : ObjR K ca μ H a o) : ObjR K ca μ' H' a o := by
  cases o with
  | lst ds => obtain ⟨vs, h1, h2⟩ := h; exact ⟨vs, ha _ h1, h2.mono e⟩
  | frz ds =>
    obtain ⟨vs, h1, h2⟩ := h
    refine ⟨vs, ?_, h2.mono e⟩
    rcases h1 with ⟨o, h1⟩ | h1
    · exact .inl ⟨o, ha _ h1⟩
    · exact .inr h1
  | obj c fs => obtain ⟨dx, fvs, h1, h2⟩ := h; exact ⟨dx, fvs, ha _ h1, h2.mono e⟩
/-- where all that was tracked stays -/
theorem Sim.same {H' : Hp} (s : Sim K ca μ st H) (e : Ext K μ H μ H') (h : ∀ a u, H a = some u → H' a = some u) : Sim K ca μ st H' :=
  ⟨s.len, fun i a o h1 h2 => (s.obj i a o h1 h2).mono e (h a), s.inj⟩
theorem same_fresh {p : Addr} {o : HO} (hp : H p = none) : ∀ a u, H a = some u → upd H p o a = some u := fun a u h => by rw [upd_ne (ne_of_none h hp)]; exact h
theorem Sim.fresh {p : Addr} {o : HO} (s : Sim K ca μ st H) (hp : H p = none) : Sim K ca μ st (upd H p o) := s.same (.updM (.inl hp)) (same_fresh hp)
theorem get_app_lt {α : Type} {xs : List α} {x a : α} {i : Nat} (h : xs[i]? = some a) : (xs ++ [x])[i]? = some a := by
  have : i < xs.length := (List.getElem?_eq_some_iff.mp h).1
  rw [List.getElem?_append_left this]; exact h
theorem get_app {α : Type} {xs : List α} {x a : α} {i : Nat} (h : (xs ++ [x])[i]? = some a) : xs[i]? = some a ∨ (i = xs.length ∧ a = x) := by
  by_cases hi : i < xs.length
  · left; rw [List.getElem?_append_left hi] at h; exact h
  · right
    rw [List.getElem?_append_right (by omega)] at h
    have : i - xs.length = 0 := by
      cases q : i - xs.length with
      | zero => rfl
      | succ n => rw [q] at h; simp at h
    rw [this] at h; simp at h
    exact ⟨by omega, h.symm⟩
theorem Ext.push {p : Addr} {o : HO} (hp : H p = none) : Ext K μ H (μ ++ [p]) (upd H p o) := ⟨fun _ _ h => get_app_lt h, fun _ _ z => TupR.updM (.inl hp) z⟩
theorem ObjR.there {a : Addr} {o : SO} (h : ObjR K ca μ H a o) (hm : o.mut = true) : ∃ u, H a = some u := by
  cases o with
  | lst ds => obtain ⟨vs, h1, _⟩ := h; exact ⟨_, h1⟩
  | frz ds => cases hm
  | obj c fs => obtain ⟨dx, fvs, h1, h2⟩ := h; exact ⟨_, h1⟩
/-- a new object -/
theorem Sim.push {p : Addr} {o : HO} {so : SO} (s : Sim K ca μ st H) (hp : H p = none) (ho : ObjR K ca (μ ++ [p]) (upd H p o) p so) : Sim K ca (μ ++ [p]) (st ++ [so]) (upd H p o) := by
  refine ⟨by simp [s.len], fun i a u h1 h2 => ?_, fun i j a u w h1 h2 h3 h4 m1 m2 => ?_⟩
  · rcases get_app h1 with h1 | ⟨rfl, rfl⟩
    · have : i < st.length := by rw [← s.len]; exact (List.getElem?_eq_some_iff.mp h1).1
      rw [List.getElem?_append_left this] at h2
      exact (s.obj i a u h1 h2).mono (.push hp) (same_fresh hp a)
    · rw [s.len] at h2
      rw [List.getElem?_append_right (Nat.le_refl _), Nat.sub_self] at h2
      simp at h2; subst h2; exact ho
  · have back : ∀ {i : Nat} {a : Addr} {u : SO}, μ[i]? = some a → (st ++ [so])[i]? = some u → st[i]? = some u := fun {i a u} h1 h2 => by
      have : i < st.length := by rw [← s.len]; exact (List.getElem?_eq_some_iff.mp h1).1
      rw [List.getElem?_append_left this] at h2; exact h2
    rcases get_app h1 with g1 | ⟨e1, e1'⟩
    · rcases get_app h2 with g2 | ⟨e2, e2'⟩
      · exact s.inj i j a u w g1 g2 (back g1 h3) (back g2 h4) m1 m2
      · obtain ⟨z, hz⟩ := (s.obj i _ u g1 (back g1 h3)).there m1
        rw [e2', hp] at hz; cases hz
    · rcases get_app h2 with g2 | ⟨e2, e2'⟩
      · obtain ⟨z, hz⟩ := (s.obj j _ w g2 (back g2 h4)).there m2
        rw [e1', hp] at hz; cases hz
      · rw [e1, e2]
/-- an object changed -/
theorem Sim.set {i : Nat} {a : Addr} {o : HO} {so so' : SO} (s : Sim K ca μ st H) (hi : μ[i]? = some a) (hs : st[i]? = some so) (hm : so.mut = true) (hM : Mut (H a)) (hm' : so'.mut = true) (ho : ObjR K ca μ (upd H a o) a so') : Sim K ca μ (st.set i so') (upd H a o) := by
  have hlt : i < st.length := (List.getElem?_eq_some_iff.mp hs).1
  refine ⟨by simp [s.len], fun j b u h1 h2 => ?_, fun j k b u w h1 h2 h3 h4 m1 m2 => ?_⟩
  · by_cases hj : j = i
    · subst hj
      rw [List.getElem?_set_self hlt] at h2
      cases h2
      rw [hi] at h1; cases h1
      exact ho
    · rw [List.getElem?_set_ne (Ne.symm hj)] at h2
      have q := s.obj j b u h1 h2
      by_cases hb : b = a
      · subst hb
        -- then u is not changeable: it is of the written part
        cases hu : u.mut with
        | true => exact absurd (s.inj j i b u so h1 hi h2 hs hu hm) hj
        | false =>
          cases u with
          | lst ds => cases hu
          | obj c fs => cases hu
          | frz ds =>
            obtain ⟨vs, q1, q2⟩ := q
            refine ⟨vs, ?_, q2.mono (.updM (.inr hM))⟩
            rcases q1 with ⟨ob, q1⟩ | q1
            · rw [q1] at hM; exact hM.elim
            · exact .inr q1
      · exact q.mono (.updM (.inr hM)) fun v hv => by rw [upd_ne hb]; exact hv
  · have bk : ∀ {j : Nat} {u : SO}, (st.set i so')[j]? = some u → u.mut = true → ∃ u', st[j]? = some u' ∧ u'.mut = true := fun {j u} h z => by
      by_cases hj : j = i
      · subst hj; exact ⟨so, hs, hm⟩
      · rw [List.getElem?_set_ne (Ne.symm hj)] at h; exact ⟨u, h, z⟩
    obtain ⟨u', e1, n1⟩ := bk h3 m1
    obtain ⟨w', e2, n2⟩ := bk h4 m2
    exact s.inj j k b u' w' h1 h2 e1 e2 n1 n2
theorem Sim.at (s : Sim K ca μ st H) {i : Nat} {o : SO} (h : st[i]? = some o) : ∃ a, μ[i]? = some a ∧ ObjR K ca μ H a o := by
  have : i < μ.length := by rw [s.len]; exact (List.getElem?_eq_some_iff.mp h).1
  exact ⟨μ[i], by simp [this], s.obj i _ o (by simp [this]) h⟩
end
end DL

set_option Elab.async false
set_option linter.all false
set_option maxRecDepth 100000
set_option maxHeartbeats 4000000
namespace DL
open PySem L2
abbrev En := List (Option D)
section
variable (K : PySem.W.Frag) (ca : Nat → Addr)
def XFs (μ : List Addr) (H : Hp) (od : Option Addr) : Option (List (Str × D)) → Prop
  | none => od = none
  | some fs => ∃ d fvs, od = some d ∧ H d = some (.xd fvs) ∧ RepF K μ H fs fvs
def Post {α : Type} (E : XK) (μ : List Addr) (H : Hp) (r : R α) (k : α → Sto → Prop) : Prop := match r with
  | .ok a st => k a st
  | .raise c fs st => ∀ μ' H' od, Ext K μ H μ' H' → Sim K ca μ' st H' → XFs K μ' H' od fs → E (.ref (ca c)) od H'
  | .stuck => False
def KV (μ : List Addr) (H : Hp) (Q : VK) : D → Sto → Prop := fun d st => ∀ μ' H' v, Ext K μ H μ' H' → Sim K ca μ' st H' → Rep K μ' H' d v → Q v H'
def KB (μ : List Addr) (H : Hp) (Q : Bool → Hp → Prop) : Bool → Sto → Prop := fun b st => ∀ μ' H', Ext K μ H μ' H' → Sim K ca μ' st H' → Q b H'
def KA (μ : List Addr) (H : Hp) (Q : List V → Hp → Prop) : List D → Sto → Prop := fun ds st => ∀ μ' H' vs, Ext K μ H μ' H' → Sim K ca μ' st H' → RepL K μ' H' ds vs → Q vs H'
def KU (μ : List Addr) (H : Hp) (Q : Hp → Prop) : Unit → Sto → Prop := fun _ st => ∀ μ' H', Ext K μ H μ' H' → Sim K ca μ' st H' → Q H'
def EnvR (μ : List Addr) (H : Hp) (ρ : En) (σ : St) : Prop := ρ.length = σ.length ∧ ∀ (i : Nat) d, ρ[i]? = some (some d) → ∃ v, σ[i]? = some (some v) ∧ Rep K μ H d v
def KE (μ : List Addr) (H : Hp) (Q : St → Hp → Prop) : En → Sto → Prop := fun ρ st => ∀ μ' H' σ, Ext K μ H μ' H' → Sim K ca μ' st H' → EnvR K μ' H' ρ σ → Q σ H'
end
inductive Ctl where
  | nx (ρ : En) | rt (d : D) | bk (ρ : En) | ct (ρ : En)
section
variable (K : PySem.W.Frag) (ca : Nat → Addr)
def KC (μ : List Addr) (H : Hp) (D : Ends) : Ctl → Sto → Prop := fun c st => ∀ μ' H', Ext K μ H μ' H' → Sim K ca μ' st H' → match c with
  | .nx ρ => ∀ σ, EnvR K μ' H' ρ σ → D.nx σ H'
  | .rt d => ∀ v, Rep K μ' H' d v → D.rt v H'
  | .bk ρ => ∀ σ, EnvR K μ' H' ρ σ → D.bk σ H'
  | .ct ρ => ∀ σ, EnvR K μ' H' ρ σ → D.ct σ H'
end
section
variable {K : PySem.W.Frag} {ca : Nat → Addr} {E : XK} {μ μ' : List Addr} {H H' : Hp} {α β : Type}
theorem Post.bind {m : M α} {f : α → M β} {st : Sto} {k : β → Sto → Prop} : Post K ca E μ H ((m >>= f) st) k ↔ Post K ca E μ H (m st) fun a st' => Post K ca E μ H (f a st') k := by
  rw [bind_run]
  cases m st <;> exact Iff.rfl
theorem Post.mono {r : R α} {k k' : α → Sto → Prop} (h : Post K ca E μ H r k) (e : Ext K μ H μ' H') (hk : ∀ a st, k a st → k' a st) : Post K ca E μ' H' r k' := by
  cases r with
  | ok a st => exact hk a st h
  | raise c fs st => exact fun μ2 H2 od e2 => h μ2 H2 od (e.trans e2)
  | stuck => exact h
theorem Post.imp {r : R α} {k k' : α → Sto → Prop} (h : Post K ca E μ H r k) (hk : ∀ a st, k a st → k' a st) : Post K ca E μ H r k' := h.mono .refl hk
theorem Post.ok {a : α} {st : Sto} {k : α → Sto → Prop} : Post K ca E μ H (.ok a st) k ↔ k a st := Iff.rfl
theorem Post.pure {a : α} {st : Sto} {k : α → Sto → Prop} : Post K ca E μ H ((Pure.pure a : M α) st) k ↔ k a st := Iff.rfl
theorem Post.stuck {st : Sto} {k : α → Sto → Prop} : Post K ca E μ H ((DL.stuck : M α) st) k ↔ False := Iff.rfl
theorem KV.mono {Q : VK} {d : D} {st : Sto} (h : KV K ca μ H Q d st) (e : Ext K μ H μ' H') : KV K ca μ' H' Q d st := fun μ2 H2 v e2 => h μ2 H2 v (e.trans e2)
theorem KB.mono {Q : Bool → Hp → Prop} {d : Bool} {st : Sto} (h : KB K ca μ H Q d st) (e : Ext K μ H μ' H') : KB K ca μ' H' Q d st := fun μ2 H2 e2 => h μ2 H2 (e.trans e2)
theorem KA.mono {Q : List V → Hp → Prop} {d : List D} {st : Sto} (h : KA K ca μ H Q d st) (e : Ext K μ H μ' H') : KA K ca μ' H' Q d st := fun μ2 H2 v e2 => h μ2 H2 v (e.trans e2)
theorem KE.mono {Q : St → Hp → Prop} {d : En} {st : Sto} (h : KE K ca μ H Q d st) (e : Ext K μ H μ' H') : KE K ca μ' H' Q d st := fun μ2 H2 v e2 => h μ2 H2 v (e.trans e2)
theorem KU.mono {Q : Hp → Prop} {d : Unit} {st : Sto} (h : KU K ca μ H Q d st) (e : Ext K μ H μ' H') : KU K ca μ' H' Q d st := fun μ2 H2 e2 => h μ2 H2 (e.trans e2)
theorem KC.mono {Q : Ends} {d : Ctl} {st : Sto} (h : KC K ca μ H Q d st) (e : Ext K μ H μ' H') : KC K ca μ' H' Q d st := fun μ2 H2 e2 => h μ2 H2 (e.trans e2)
theorem EnvR.mono {ρ : En} {σ : St} (h : EnvR K μ H ρ σ) (e : Ext K μ H μ' H') : EnvR K μ' H' ρ σ := ⟨h.1, fun i d q => let ⟨v, h1, h2⟩ := h.2 i d q; ⟨v, h1, h2.mono e⟩⟩
theorem EnvR.set {ρ : En} {σ : St} {d : D} {v : V} (h : EnvR K μ H ρ σ) (i : Nat) (r : Rep K μ H d v) : EnvR K μ H (ρ.set i (some d)) (σ.set i (some v)) := by
  refine ⟨by simp [h.1], fun j e q => ?_⟩
  by_cases hj : j = i
  · subst hj
    have hl : j < ρ.length := by
      have := (List.getElem?_eq_some_iff.mp q).1
      simpa using this
    rw [List.getElem?_set_self hl] at q
    cases q
    exact ⟨v, by rw [List.getElem?_set_self (by rw [← h.1]; exact hl)], r⟩
  · rw [List.getElem?_set_ne (Ne.symm hj)] at q
    obtain ⟨w, h1, h2⟩ := h.2 j e q
    exact ⟨w, by rw [List.getElem?_set_ne (Ne.symm hj)]; exact h1, h2⟩
end

/-! ### what a reading is worth: the functions below tell it -/
section
variable (K : PySem.W.Frag) (ca : Nat → Addr) (E : XK)
def GE (t : TE) (f : En → M D) : Prop := ∀ σ H Q ρ st μ, EnvR K μ H ρ σ → Sim K ca μ st H → Post K ca E μ H (f ρ st) (KV K ca μ H Q) → t σ H Q
def GT (t : TT) (f : En → M Bool) : Prop := ∀ σ H Q ρ st μ, EnvR K μ H ρ σ → Sim K ca μ st H → Post K ca E μ H (f ρ st) (KB K ca μ H Q) → t σ H Q
def GA (t : TA) (f : En → M (List D)) : Prop := ∀ σ H Q ρ st μ, EnvR K μ H ρ σ → Sim K ca μ st H → Post K ca E μ H (f ρ st) (KA K ca μ H Q) → t σ H Q
def GS (t : TS) (f : En → M Ctl) : Prop := ∀ σ H Q ρ st μ, EnvR K μ H ρ σ → Sim K ca μ st H → Post K ca E μ H (f ρ st) (KC K ca μ H Q) → t Q σ H
def GG (t : TG) (f : D → En → M En) : Prop := ∀ v σ H Q d ρ st μ, Rep K μ H d v → EnvR K μ H ρ σ → Sim K ca μ st H → Post K ca E μ H (f d ρ st) (KE K ca μ H Q) → t v σ H Q
def GGs (t : TGs) (f : List D → En → M En) : Prop := ∀ vs σ H Q ds ρ st μ, RepL K μ H ds vs → EnvR K μ H ρ σ → Sim K ca μ st H → Post K ca E μ H (f ds ρ st) (KE K ca μ H Q) → t vs σ H Q
end
structure DE (ca : Nat → Addr) (E : XK) (X : Cx) (e : Expr) (f : En → M D) : Prop where
  ex : ∃ t, PE X e t ∧ GE X.K ca E t f
structure DT (ca : Nat → Addr) (E : XK) (X : Cx) (e : Expr) (f : En → M Bool) : Prop where
  ex : ∃ t, PT X e t ∧ GT X.K ca E t f
structure DW (ca : Nat → Addr) (E : XK) (X : Cx) (e : Expr) (f : En → M Bool) : Prop where
  ex : ∃ t, PW X e t ∧ GT X.K ca E t f
structure DA (ca : Nat → Addr) (E : XK) (X : Cx) (es : List Expr) (f : En → M (List D)) : Prop where
  ex : ∃ t, PA X es t ∧ GA X.K ca E t f
structure DS (ca : Nat → Addr) (E : XK) (X : Cx) (s : Stmt) (f : En → M Ctl) : Prop where
  ex : ∃ t, PS X s t ∧ GS X.K ca E t f
structure DSs (ca : Nat → Addr) (E : XK) (X : Cx) (s : List Stmt) (f : En → M Ctl) : Prop where
  ex : ∃ t, PSs X s t ∧ GS X.K ca E t f
structure DG (ca : Nat → Addr) (E : XK) (X : Cx) (e : Expr) (f : D → En → M En) : Prop where
  ex : ∃ t, PG X e t ∧ GG X.K ca E t f
structure DGs (ca : Nat → Addr) (E : XK) (X : Cx) (es : List Expr) (f : List D → En → M En) : Prop where
  ex : ∃ t, PGs X es t ∧ GGs X.K ca E t f

/-! ### expressions -/
def eVar (i : Nat) : En → M D := fun ρ st => match ρ[i]? with
  | some (some d) => .ok d st
  | _ => .stuck
def eC (d : D) : En → M D := fun _ => pure d
def eUn (op : D → M D) (f : En → M D) : En → M D := fun ρ => do let x ← f ρ; op x
def eBin (op : D → D → M D) (f g : En → M D) : En → M D := fun ρ => do let x ← f ρ; let y ← g ρ; op x y
def eAnd (f g : En → M D) : En → M D := fun ρ => do
  match ← f ρ with
  | .bl true => g ρ
  | .bl false => pure (.bl false)
  | _ => stuck
def eOr (f g : En → M D) : En → M D := fun ρ => do
  match ← f ρ with
  | .bl true => pure (.bl true)
  | .bl false => g ρ
  | _ => stuck
def eNot (f : En → M D) : En → M D := fun ρ => do
  match ← f ρ with
  | .bl b => pure (.bl (!b))
  | _ => stuck
def eIf (t : En → M Bool) (f g : En → M D) : En → M D := fun ρ => do if ← t ρ then f ρ else g ρ
def toB : D → M Bool
  | .bl b => pure b
  | _ => stuck
def tVal (f : En → M D) : En → M Bool := fun ρ => do toB (← f ρ)
def tAndD (f g : En → M Bool) : En → M Bool := fun ρ => do if ← f ρ then g ρ else pure false
def tOrD (f g : En → M Bool) : En → M Bool := fun ρ => do if ← f ρ then pure true else g ρ
def tNotD (f : En → M Bool) : En → M Bool := fun ρ => do pure (!(← f ρ))
def eChain (op op' : D → D → M D) (f g h : En → M D) : En → M D := fun ρ => do
  let x ← f ρ; let y ← g ρ
  if ← toB (← op x y) then do let z ← h ρ; op' y z else pure (.bl false)
def aNil : En → M (List D) := fun _ => pure []
def aCons (f : En → M D) (g : En → M (List D)) : En → M (List D) := fun ρ => do let x ← f ρ; let xs ← g ρ; pure (x :: xs)
/-- by values -/
def R1Good (K : PySem.W.Frag) (ca : Nat → Addr) (r : V → Hp → VK → Prop) (op : D → M D) : Prop := ∀ E x H Q d st μ, Rep K μ H d x → Sim K ca μ st H → Post K ca E μ H (op d st) (KV K ca μ H Q) → r x H Q
def R2Good (K : PySem.W.Frag) (ca : Nat → Addr) (r : R2) (op : D → D → M D) : Prop := ∀ E x y H Q d e st μ, Rep K μ H d x → Rep K μ H e y → Sim K ca μ st H → Post K ca E μ H (op d e st) (KV K ca μ H Q) → r x y H Q
def RLGood (K : PySem.W.Frag) (ca : Nat → Addr) (r : List V → Hp → VK → Prop) (op : List D → M D) : Prop := ∀ E xs H Q ds st μ, RepL K μ H ds xs → Sim K ca μ st H → Post K ca E μ H (op ds st) (KV K ca μ H Q) → r xs H Q
section
variable {X : Cx} {ca : Nat → Addr} {E : XK} {a b c : Expr} {pos : Pos} {f g h : En → M D} {rest : List Expr} {ft gt : En → M Bool}
theorem GE.bind {K : PySem.W.Frag} {t : TE} (hg : GE K ca E t f) {β : Type} {m : D → M β} {σ : St} {H : Hp} {ρ : En} {st : Sto} {μ : List Addr} {k : β → Sto → Prop} {Q : VK} (r : EnvR K μ H ρ σ) (s : Sim K ca μ st H)
    (h : Post K ca E μ H ((f ρ >>= m) st) k) (hk : ∀ d st' μ' H' v, Ext K μ H μ' H' → Sim K ca μ' st' H' → Rep K μ' H' d v → EnvR K μ' H' ρ σ → Post K ca E μ' H' (m d st') k → Q v H') : t σ H Q := by
  refine hg σ H Q ρ st μ r s ((Post.bind.mp h).imp fun d st' q => ?_)
  exact fun μ' H' v e s' rv => hk d st' μ' H' v e s' rv (r.mono e) (q.mono e fun _ _ z => z)
theorem GT.bind {K : PySem.W.Frag} {t : TT} (hg : GT K ca E t ft) {β : Type} {m : Bool → M β} {σ : St} {H : Hp} {ρ : En} {st : Sto} {μ : List Addr} {k : β → Sto → Prop} {Q : Bool → Hp → Prop} (r : EnvR K μ H ρ σ) (s : Sim K ca μ st H)
    (h : Post K ca E μ H ((ft ρ >>= m) st) k) (hk : ∀ d st' μ' H', Ext K μ H μ' H' → Sim K ca μ' st' H' → EnvR K μ' H' ρ σ → Post K ca E μ' H' (m d st') k → Q d H') : t σ H Q := by
  refine hg σ H Q ρ st μ r s ((Post.bind.mp h).imp fun d st' q => ?_)
  exact fun μ' H' e s' => hk d st' μ' H' e s' (r.mono e) (q.mono e fun _ _ z => z)
theorem GA.bind {K : PySem.W.Frag} {t : TA} {fa : En → M (List D)} (hg : GA K ca E t fa) {β : Type} {m : List D → M β} {σ : St} {H : Hp} {ρ : En} {st : Sto} {μ : List Addr} {k : β → Sto → Prop} {Q : List V → Hp → Prop} (r : EnvR K μ H ρ σ) (s : Sim K ca μ st H)
    (h : Post K ca E μ H ((fa ρ >>= m) st) k) (hk : ∀ d st' μ' H' v, Ext K μ H μ' H' → Sim K ca μ' st' H' → RepL K μ' H' d v → EnvR K μ' H' ρ σ → Post K ca E μ' H' (m d st') k → Q v H') : t σ H Q := by
  refine hg σ H Q ρ st μ r s ((Post.bind.mp h).imp fun d st' q => ?_)
  exact fun μ' H' v e s' rv => hk d st' μ' H' v e s' rv (r.mono e) (q.mono e fun _ _ z => z)
theorem GS.bind {K : PySem.W.Frag} {t : TS} {fs : En → M Ctl} (hg : GS K ca E t fs) {β : Type} {m : Ctl → M β} {σ : St} {H : Hp} {ρ : En} {st : Sto} {μ : List Addr} {k : β → Sto → Prop} {Q : Ends} (r : EnvR K μ H ρ σ) (s : Sim K ca μ st H)
    (h : Post K ca E μ H ((fs ρ >>= m) st) k) (hk : ∀ d st' μ' H', Ext K μ H μ' H' → Sim K ca μ' st' H' → Post K ca E μ' H' (m d st') k → KC K ca μ' H' Q d st') : t Q σ H := by
  refine hg σ H Q ρ st μ r s ((Post.bind.mp h).imp fun d st' q => ?_)
  exact fun μ' H' e s' => hk d st' μ' H' e s' (q.mono e fun _ _ z => z) μ' H' .refl s'
theorem GG.bind {K : PySem.W.Frag} {t : TG} {fg : D → En → M En} (hg : GG K ca E t fg) {β : Type} {m : En → M β} {σ : St} {H : Hp} {ρ : En} {d : D} {v : V} {st : Sto} {μ : List Addr} {k : β → Sto → Prop} {Q : St → Hp → Prop} (rv : Rep K μ H d v) (r : EnvR K μ H ρ σ) (s : Sim K ca μ st H)
    (h : Post K ca E μ H ((fg d ρ >>= m) st) k) (hk : ∀ ρ' st' μ' H' σ', Ext K μ H μ' H' → Sim K ca μ' st' H' → EnvR K μ' H' ρ' σ' → Post K ca E μ' H' (m ρ' st') k → Q σ' H') : t v σ H Q := by
  refine hg v σ H Q d ρ st μ rv r s ((Post.bind.mp h).imp fun d st' q => ?_)
  exact fun μ' H' σ' e s' r' => hk d st' μ' H' σ' e s' r' (q.mono e fun _ _ z => z)

theorem de_var (i : Nat) {x : Str} {pos : Pos} (hN : X.N[i]? = some x := by rfl) (hv : Vis X.env.scope x := by first | exact Or.inl rfl | exact Or.inr (Or.inl rfl) | exact Or.inr (Or.inr rfl)) (hd : (x == ("__debug__" : Str)) = false := by decide)
    (hcd : (x == ("__classdict__" : Str)) = false := by decide) : DE ca E X (.Name x pos) (eVar i) := by
  refine ⟨_, pv i hN hv hd hcd, fun σ H Q ρ st μ r s h => ?_⟩
  unfold eVar at h
  cases hi : ρ[i]? with
  | none => rw [hi] at h; exact h.elim
  | some o =>
    cases o with
    | none => rw [hi] at h; exact h.elim
    | some d =>
      rw [hi] at h
      obtain ⟨v, h1, h2⟩ := r.2 i d hi
      exact ⟨v, h1, h μ H v .refl s h2⟩
theorem de_int {i j pos} : DE ca E X (.Constant (.int i) j pos) (eC (.int i)) := ⟨_, pe_int, fun σ H Q ρ st μ r s h => h μ H _ .refl s (rep_int.mpr rfl)⟩
theorem de_bl {b j pos} : DE ca E X (.Constant (.bool b) j pos) (eC (.bl b)) := ⟨_, pe_bl, fun σ H Q ρ st μ r s h => h μ H _ .refl s (rep_bl.mpr rfl)⟩
theorem de_non {j pos} : DE ca E X (.Constant .none j pos) (eC .non) := ⟨_, pe_non, fun σ H Q ρ st μ r s h => h μ H _ .refl s (rep_non.mpr rfl)⟩
theorem de_str {x j pos} : DE ca E X (.Constant (.str x) j pos) (eC (.str x)) := ⟨_, pe_str, fun σ H Q ρ st μ r s h => h μ H _ .refl s (rep_str.mpr rfl)⟩
/-- a module's constant: its value -/
theorem de_glob {x : Str} {v : V} {u : Value} {d : D} {pos : Pos} (hg : Gl X x) (hm : X.mg x = some u) (r : RelV v u) (hr : ∀ μ H, Rep X.K μ H d v) (hd : (x == ("__debug__" : Str)) = false := by decide) : DE ca E X (.Name x pos) (eC d) :=
  ⟨_, pe_glob hg hm r hd, fun σ H Q ρ st μ re s h => h μ H _ .refl s (hr _ _)⟩
theorem ge_bin {K : PySem.W.Frag} {r : R2} {op : D → D → M D} {ta tb : TE} (hr : R2Good K ca r op) (ga : GE K ca E ta f) (gb : GE K ca E tb g) : GE K ca E (tOp r ta tb) (eBin op f g) := by
  intro σ H Q ρ st μ re s h
  refine ga.bind re s h fun d st1 μ1 H1 x e1 s1 r1 re1 h1 => ?_
  refine gb.bind re1 s1 h1 fun d2 st2 μ2 H2 y e2 s2 r2 re2 h2 => ?_
  exact hr E x y H2 Q d d2 st2 μ2 (r1.mono e2) r2 s2 (h2.imp fun a st z => z.mono (e1.trans e2))
structure DOp (ca : Nat → Addr) (X : Cx) (o : Value → Value → Sem Value) (op : D → D → M D) : Prop where
  ex : ∃ r, OpR X o r ∧ R2Good X.K ca r op
theorem de_op {o : Operator} {op : D → D → M D} (ho : DOp ca X (binaryOp o) op) (ha : DE ca E X a f) (hb : DE ca E X b g) : DE ca E X (.BinOp a o b pos) (eBin op f g) := by
  obtain ⟨r, h1, h2⟩ := ho.ex
  obtain ⟨ta, pa, ga⟩ := ha.ex
  obtain ⟨tb, pb, gb⟩ := hb.ex
  exact ⟨_, pe_op h1 pa pb, ge_bin h2 ga gb⟩
theorem de_cmp {o : CmpOp} {op : D → D → M D} (ho : DOp ca X (compareOp o) op) (ha : DE ca E X a f) (hb : DE ca E X b g) (hm : behindInMarks o b = false) : DE ca E X (.Compare a [o] [b] pos) (eBin op f g) := by
  obtain ⟨r, h1, h2⟩ := ho.ex
  obtain ⟨ta, pa, ga⟩ := ha.ex
  obtain ⟨tb, pb, gb⟩ := hb.ex
  exact ⟨_, pe_cmpR h1 pa pb hm, ge_bin h2 ga gb⟩
theorem gt_val {K : PySem.W.Frag} {t : TE} (gf : GE K ca E t f) : GT K ca E (tTest t) (tVal f) := by
  intro σ H Q ρ st μ re s h
  refine gf.bind re s h fun d st1 μ1 H1 x e1 s1 r1 re1 h1 => ?_
  cases d with
  | bl b => exact ⟨b, rep_bl.mp r1, h1 μ1 H1 e1 s1⟩
  | _ => exact h1.elim
theorem dt_cmp {o : CmpOp} {op : D → D → M D} (ho : DOp ca X (compareOp o) op) (ha : DE ca E X a f) (hb : DE ca E X b g) (hm : behindInMarks o b = false) : DT ca E X (.Compare a [o] [b] pos) (tVal (eBin op f g)) := by
  obtain ⟨r, h1, h2⟩ := ho.ex
  obtain ⟨ta, pa, ga⟩ := ha.ex
  obtain ⟨tb, pb, gb⟩ := hb.ex
  exact ⟨_, pt_cmpR h1 pa pb hm, gt_val (ge_bin h2 ga gb)⟩
theorem dt_val (ha : DE ca E X a f) (he : ∀ whole, isTrue a X.env whole = (do let v ← whole; standAt a.pos; holding [v] (truthy v)) := by intro _; rfl) : DT ca E X a (tVal f) := by
  obtain ⟨ta, pa, ga⟩ := ha.ex
  exact ⟨_, pt_val pa he, gt_val ga⟩
theorem ge_chain {K : PySem.W.Frag} {r r' : R2} {op op' : D → D → M D} {ta tb tc : TE} (hr : R2Good K ca r op) (hr' : R2Good K ca r' op') (ga : GE K ca E ta f) (gb : GE K ca E tb g) (gc : GE K ca E tc h) : GE K ca E (tChain r r' ta tb tc) (eChain op op' f g h) := by
  intro σ H Q ρ st μ re s h
  refine ga.bind re s h fun d st1 μ1 H1 x e1 s1 r1 re1 h1 => ?_
  refine gb.bind re1 s1 h1 fun d2 st2 μ2 H2 y e2 s2 r2 re2 h2 => ?_
  refine hr E x y H2 _ d d2 st2 μ2 (r1.mono e2) r2 s2 ((Post.bind.mp h2).imp fun z st z1 => ?_)
  intro μ3 H3 v e3 s3 r3
  cases z with
  | bl k =>
    refine ⟨k, rep_bl.mp r3, ?_⟩
    cases k with
    | false => exact iteF ((Post.pure.mp z1 : KV K ca μ H Q (.bl false) st) μ3 H3 _ ((e1.trans e2).trans e3) s3 (rep_bl.mpr rfl))
    | true =>
      refine iteT ?_
      have z2 := Post.mono z1 e3 fun _ _ q => q
      refine gc.bind (re2.mono e3) s3 z2 fun d4 st4 μ4 H4 w e4 s4 r4 re4 h4 => ?_
      exact hr' E y w H4 Q d2 d4 st4 μ4 (r2.mono (e3.trans e4)) r4 s4 (h4.imp fun a st z => z.mono (((e1.trans e2).trans e3).trans e4))
  | _ => exact (show False from z1).elim
theorem de_chain {o o' : CmpOp} {op op' : D → D → M D} (ho : DOp ca X (compareOp o) op) (ho' : DOp ca X (compareOp o') op') (ha : DE ca E X a f) (hb : DE ca E X b g) (hc : DE ca E X c h)
    (hm : lastMarks [o, o'] [b, c] = false := by with_unfolding_all rfl) : DE ca E X (.Compare a [o, o'] [b, c] pos) (eChain op op' f g h) := by
  obtain ⟨r, h1, h2⟩ := ho.ex
  obtain ⟨r', h1', h2'⟩ := ho'.ex
  obtain ⟨ta, pa, ga⟩ := ha.ex
  obtain ⟨tb, pb, gb⟩ := hb.ex
  obtain ⟨tc, pc, gc⟩ := hc.ex
  exact ⟨_, pe_chain h1 h1' pa pb pc hm, ge_chain h2 h2' ga gb gc⟩
theorem dt_chain {o o' : CmpOp} {op op' : D → D → M D} (ho : DOp ca X (compareOp o) op) (ho' : DOp ca X (compareOp o') op') (ha : DE ca E X a f) (hb : DE ca E X b g) (hc : DE ca E X c h)
    (hm : lastMarks [o, o'] [b, c] = false := by with_unfolding_all rfl) : DT ca E X (.Compare a [o, o'] [b, c] pos) (tVal (eChain op op' f g h)) := by
  obtain ⟨r, h1, h2⟩ := ho.ex
  obtain ⟨r', h1', h2'⟩ := ho'.ex
  obtain ⟨ta, pa, ga⟩ := ha.ex
  obtain ⟨tb, pb, gb⟩ := hb.ex
  obtain ⟨tc, pc, gc⟩ := hc.ex
  exact ⟨_, pt_chain h1 h1' pa pb pc hm, gt_val (ge_chain h2 h2' ga gb gc)⟩
theorem de_one {o : BoolOp} (ha : DE ca E X a f) : DE ca E X (.BoolOp o [a] pos) f := by
  obtain ⟨ta, pa, ga⟩ := ha.ex
  exact ⟨_, pe_one pa, ga⟩
theorem de_and (ha : DE ca E X a f) (hb : DE ca E X (.BoolOp .And (b :: rest) pos) g) : DE ca E X (.BoolOp .And (a :: b :: rest) pos) (eAnd f g) := by
  obtain ⟨ta, pa, ga⟩ := ha.ex
  obtain ⟨tb, pb, gb⟩ := hb.ex
  refine ⟨_, pe_and pa pb, fun σ H Q ρ st μ re s h => ?_⟩
  refine ga.bind re s h fun d st1 μ1 H1 x e1 s1 r1 re1 h1 => ?_
  cases d with
  | bl k =>
    refine ⟨k, rep_bl.mp r1, ?_⟩
    cases k with
    | false => exact iteF ((Post.pure.mp h1 : KV X.K ca μ H Q (.bl false) st1) μ1 H1 _ e1 s1 (rep_bl.mpr rfl))
    | true => exact iteT (gb σ H1 Q ρ st1 μ1 re1 s1 (Post.imp h1 fun a st z => z.mono e1))
  | _ => exact h1.elim
theorem de_or (ha : DE ca E X a f) (hb : DE ca E X (.BoolOp .Or (b :: rest) pos) g) : DE ca E X (.BoolOp .Or (a :: b :: rest) pos) (eOr f g) := by
  obtain ⟨ta, pa, ga⟩ := ha.ex
  obtain ⟨tb, pb, gb⟩ := hb.ex
  refine ⟨_, pe_or pa pb, fun σ H Q ρ st μ re s h => ?_⟩
  refine ga.bind re s h fun d st1 μ1 H1 x e1 s1 r1 re1 h1 => ?_
  cases d with
  | bl k =>
    refine ⟨k, rep_bl.mp r1, ?_⟩
    cases k with
    | true => exact iteT ((Post.pure.mp h1 : KV X.K ca μ H Q (.bl true) st1) μ1 H1 _ e1 s1 (rep_bl.mpr rfl))
    | false => exact iteF (gb σ H1 Q ρ st1 μ1 re1 s1 (Post.imp h1 fun a st z => z.mono e1))
  | _ => exact h1.elim
theorem de_not (ha : DE ca E X a f) : DE ca E X (.UnaryOp .Not a pos) (eNot f) := by
  obtain ⟨ta, pa, ga⟩ := ha.ex
  refine ⟨_, pe_not pa, fun σ H Q ρ st μ re s h => ?_⟩
  refine ga.bind re s h fun d st1 μ1 H1 x e1 s1 r1 re1 h1 => ?_
  cases d with
  | bl k => exact ⟨k, rep_bl.mp r1, (Post.pure.mp h1 : KV X.K ca μ H Q (.bl (!k)) st1) μ1 H1 _ e1 s1 (rep_bl.mpr rfl)⟩
  | _ => exact h1.elim
structure DUn (ca : Nat → Addr) (X : Cx) (o : Value → Sem Value) (op : D → M D) : Prop where
  ex : ∃ r, UnR X o r ∧ R1Good X.K ca r op
theorem de_un {o : UnaryOp} {op : D → M D} (ho : DUn ca X (unaryOp o) op) (ha : DE ca E X a f) : DE ca E X (.UnaryOp o a pos) (eUn op f) := by
  obtain ⟨r, h1, h2⟩ := ho.ex
  obtain ⟨ta, pa, ga⟩ := ha.ex
  refine ⟨_, pe_un h1 pa, fun σ H Q ρ st μ re s h => ?_⟩
  refine ga.bind re s h fun d st1 μ1 H1 x e1 s1 r1 re1 h1 => ?_
  exact h2 E x H1 Q d st1 μ1 r1 s1 (h1.imp fun a st z => z.mono e1)
theorem de_ifExp (hc : DT ca E X c ft) (ha : DE ca E X a f) (hb : DE ca E X b g) : DE ca E X (.IfExp c a b pos) (eIf ft f g) := by
  obtain ⟨tc, pc, gc⟩ := hc.ex
  obtain ⟨ta, pa, ga⟩ := ha.ex
  obtain ⟨tb, pb, gb⟩ := hb.ex
  refine ⟨_, pe_ifExp pc pa pb, fun σ H Q ρ st μ re s h => ?_⟩
  refine gc.bind re s h fun k st1 μ1 H1 e1 s1 re1 h1 => ?_
  cases k with
  | true => exact iteT (ga σ H1 Q ρ st1 μ1 re1 s1 (Post.imp h1 fun a st z => z.mono e1))
  | false => exact iteF (gb σ H1 Q ρ st1 μ1 re1 s1 (Post.imp h1 fun a st z => z.mono e1))
/-! tests -/
theorem DW.dt (h : DW ca E X a ft) : DT ca E X a ft := let ⟨t, p, q⟩ := h.ex; ⟨t, p.pt, q⟩
theorem dw_and1 (ha : DT ca E X a ft) : DW ca E X (.BoolOp .And [a] pos) ft := let ⟨t, p, q⟩ := ha.ex; ⟨t, pw_and1 p, q⟩
theorem dw_or1 (ha : DT ca E X a ft) : DW ca E X (.BoolOp .Or [a] pos) ft := let ⟨t, p, q⟩ := ha.ex; ⟨t, pw_or1 p, q⟩
theorem dw_and (ha : DT ca E X a ft) (hb : DW ca E X (.BoolOp .And (b :: rest) pos) gt) : DW ca E X (.BoolOp .And (a :: b :: rest) pos) (tAndD ft gt) := by
  obtain ⟨ta, pa, ga⟩ := ha.ex
  obtain ⟨tb, pb, gb⟩ := hb.ex
  refine ⟨_, pw_and pa pb, fun σ H Q ρ st μ re s h => ?_⟩
  refine ga.bind re s h fun k st1 μ1 H1 e1 s1 re1 h1 => ?_
  cases k with
  | true => exact iteT (gb σ H1 Q ρ st1 μ1 re1 s1 (Post.imp h1 fun a st z => z.mono e1))
  | false => exact iteF ((Post.pure.mp h1 : KB X.K ca μ H Q false st1) μ1 H1 e1 s1)
theorem dw_or (ha : DT ca E X a ft) (hb : DW ca E X (.BoolOp .Or (b :: rest) pos) gt) : DW ca E X (.BoolOp .Or (a :: b :: rest) pos) (tOrD ft gt) := by
  obtain ⟨ta, pa, ga⟩ := ha.ex
  obtain ⟨tb, pb, gb⟩ := hb.ex
  refine ⟨_, pw_or pa pb, fun σ H Q ρ st μ re s h => ?_⟩
  refine ga.bind re s h fun k st1 μ1 H1 e1 s1 re1 h1 => ?_
  cases k with
  | false => exact iteF (gb σ H1 Q ρ st1 μ1 re1 s1 (Post.imp h1 fun a st z => z.mono e1))
  | true => exact iteT ((Post.pure.mp h1 : KB X.K ca μ H Q true st1) μ1 H1 e1 s1)
theorem dt_not (ha : DT ca E X a ft) : DT ca E X (.UnaryOp .Not a pos) (tNotD ft) := by
  obtain ⟨ta, pa, ga⟩ := ha.ex
  refine ⟨_, pt_not pa, fun σ H Q ρ st μ re s h => ?_⟩
  refine ga.bind re s h fun k st1 μ1 H1 e1 s1 re1 h1 => ?_
  exact (Post.pure.mp h1 : KB X.K ca μ H Q (!k) st1) μ1 H1 e1 s1
/-! arguments -/
variable {es : List Expr} {fa : En → M (List D)}
theorem da_nil : DA ca E X [] aNil := ⟨_, pa_nil, fun σ H Q ρ st μ re s h => h μ H _ .refl s (repL_nil.mpr rfl)⟩
theorem da_cons (ha : DE ca E X a f) (hr : DA ca E X es fa) (hs : starEach (a :: es) X.env = (false, eval a X.env) :: starEach es X.env := by rfl) : DA ca E X (a :: es) (aCons f fa) := by
  obtain ⟨ta, pa, ga⟩ := ha.ex
  obtain ⟨tb, pb, gb⟩ := hr.ex
  refine ⟨_, pa_cons pa pb hs, fun σ H Q ρ st μ re s h => ?_⟩
  refine ga.bind re s h fun d st1 μ1 H1 x e1 s1 r1 re1 h1 => ?_
  refine gb.bind re1 s1 h1 fun ds st2 μ2 H2 xs e2 s2 r2 re2 h2 => ?_
  exact (Post.pure.mp h2 : KA X.K ca μ H Q (d :: ds) st2) μ2 H2 _ (e1.trans e2) s2 (repL_cons.mpr ⟨x, xs, rfl, r1.mono e2, r2⟩)
end
end DL

set_option Elab.async false
set_option linter.all false
set_option maxRecDepth 100000
set_option maxHeartbeats 4000000
namespace DL
open PySem L2 PySem.Spec PyProof.Rows

/-! ### new objects by values -/
section
variable {K : PySem.W.Frag} {ca : Nat → Addr} {μ : List Addr} {H : Hp} {st : Sto} {Q : VK}
theorem new_tup {ds : List D} {xs : List V} {p : Addr} {o : Obj} (s : Sim K ca μ st H) (r : RepL K μ H ds xs) (k : KV K ca μ H Q (.tup ds) st) (hp : H p = none) (hd : o.dict = none) : Q (.ref p) (upd H p (.frz o (.tup xs))) :=
  k μ _ _ (.updM (.inl hp)) (s.fresh hp) (rep_tup.mpr ⟨p, xs, rfl, .inl ⟨o, hd, upd_same⟩, r.mono (.updM (.inl hp))⟩)
theorem loc_new {p : Addr} (s : Sim K ca μ st H) {H' : Hp} : Rep K (μ ++ [p]) H' (.loc st.length) (.ref p) := by
  rw [rep_loc]
  refine ⟨p, ?_, rfl⟩
  rw [← s.len, List.getElem?_append_right (Nat.le_refl _), Nat.sub_self]; rfl
theorem new_lst {ds : List D} {xs : List V} {p : Addr} (s : Sim K ca μ st H) (r : RepL K μ H ds xs) (k : KV K ca μ H Q (.loc st.length) (st ++ [.lst ds])) (hp : H p = none) : Q (.ref p) (upd H p (.lst xs)) :=
  k (μ ++ [p]) _ _ (.push hp) (s.push hp ⟨xs, upd_same, r.mono (.push hp)⟩) (loc_new s)
end
def newT (ds : List D) : M D := fun st => if ds.length ≤ sizeLine then .ok (.tup ds) st else .stuck
def newL (ds : List D) : M D := fun st => if ds.length ≤ sizeLine then .ok (.loc st.length) (st ++ [.lst ds]) else .stuck
section
variable {X : Cx} {ca : Nat → Addr} {E : XK} {pos : Pos} {es : List Expr} {fa : En → M (List D)}
theorem laid_tup {pins : List (Addr × Obj)} {σ : L2.St} {H : Hp} {s : Shared} {Q : VK} {xs : List V} {its : List Value} (I : Inv X pins σ H s) (hz : xs.length ≤ sizeLine) (r : Vals xs its)
    (q : ∀ (p : Addr) (o : Obj), H p = none → o.dict = none → Q (.ref p) (upd H p (.frz o (.tup xs)))) : EP X pins σ Q (.ref s.heap.objs.size) { s with heap := s.heap.push { cls := .type "tuple", data := .seq its.toArray } } := by
  have hn := I.hok.fresh (Nat.le_refl s.heap.objs.size)
  refine ⟨.ref s.heap.objs.size, upd H s.heap.objs.size (.frz { cls := .type "tuple", data := .seq its.toArray } (.tup xs)), I.laid (t' := s.toks) (fun c w hc => Heap.get?_push_of_some _ hc) (Nat.le_refl _) ?_, rfl, q _ _ hn rfl⟩
  exact ⟨Heap.get?_push_size _ rfl, hz, its, r, IsTup.new _ _⟩
def tTupF (t : TA) : TE := fun σ H Q => t σ H fun xs H1 => xs.length ≤ sizeLine ∧ ∀ (p : Addr) (o : Obj), H1 p = none → o.dict = none → Q (.ref p) (upd H1 p (.frz o (.tup xs)))
theorem pe_tupF {k : Nat} {t : TA} (h : PA X es t) : PE X (.Tuple es k pos) (tTupF t) := by
  refine ⟨fun pins s σ H Q I hq => wpAny_Tuple_spliced (thn (h.run pos pins s σ H _ I hq) ?_)⟩
  rintro us s1 ⟨xs, H1, I1, r, z, q⟩
  exact ⟨by rw [← r.length]; exact z, laid_tup I1 z r q⟩
def eTup (f : En → M (List D)) : En → M D := fun ρ => do newT (← f ρ)
def eLst (f : En → M (List D)) : En → M D := fun ρ => do newL (← f ρ)
theorem de_tup {k : Nat} (h : DA ca E X es fa) : DE ca E X (.Tuple es k pos) (eTup fa) := by
  obtain ⟨t, p, g⟩ := h.ex
  refine ⟨_, pe_tupF p, fun σ H Q ρ st μ re s hh => ?_⟩
  refine g.bind re s hh fun ds st1 μ1 H1 xs e1 s1 r1 re1 h1 => ?_
  unfold newT at h1
  split at h1
  · rename_i hz
    exact ⟨by rw [r1.length]; exact hz, fun p o hp hd => new_tup s1 r1 (KV.mono h1 e1) hp hd⟩
  · exact h1.elim
theorem de_lst (h : DA ca E X es fa) : DE ca E X (.List es pos) (eLst fa) := by
  obtain ⟨t, p, g⟩ := h.ex
  refine ⟨_, pe_lst p, fun σ H Q ρ st μ re s hh => ?_⟩
  refine g.bind re s hh fun ds st1 μ1 H1 xs e1 s1 r1 re1 h1 => ?_
  unfold newL at h1
  split at h1
  · rename_i hz
    exact ⟨by rw [r1.length]; exact hz, fun p hp => new_lst s1 r1 (KV.mono h1 e1) hp⟩
  · exact h1.elim
end

/-! ### lists and tuples read -/
section
variable {K : PySem.W.Frag} {ca : Nat → Addr} {μ : List Addr} {H : Hp} {st : Sto}
def seqAt (st : Sto) (i : Nat) : Option (List D) := match st[i]? with
  | some (.lst ds) => some ds
  | some (.frz ds) => some ds
  | _ => none
theorem sq_of {i : Nat} {ds : List D} {v : V} (s : Sim K ca μ st H) (h : seqAt st i = some ds) (r : Rep K μ H (.loc i) v) : ∃ a vs, v = .ref a ∧ SqL K H a vs ∧ RepL K μ H ds vs := by
  obtain ⟨a, ha, rfl⟩ := rep_loc.mp r
  unfold seqAt at h
  cases hi : st[i]? with
  | none => rw [hi] at h; cases h
  | some o =>
    rw [hi] at h
    have q := s.obj i a o ha hi
    cases o with
    | lst es => cases h; obtain ⟨vs, h1, h2⟩ := q; exact ⟨a, vs, rfl, .inl (.inl h1), h2⟩
    | frz es =>
      cases h; obtain ⟨vs, h1, h2⟩ := q
      refine ⟨a, vs, rfl, ?_, h2⟩
      rcases h1 with ⟨o, h1⟩ | h1
      · exact .inl (.inr ⟨o, h1⟩)
      · exact .inr h1
    | obj c fs => cases h
def lstAt (st : Sto) (i : Nat) : Option (List D) := match st[i]? with
  | some (.lst ds) => some ds
  | _ => none
theorem lst_of {i : Nat} {ds : List D} {v : V} (s : Sim K ca μ st H) (h : lstAt st i = some ds) (r : Rep K μ H (.loc i) v) : ∃ a vs, v = .ref a ∧ μ[i]? = some a ∧ st[i]? = some (.lst ds) ∧ H a = some (.lst vs) ∧ RepL K μ H ds vs := by
  obtain ⟨a, ha, rfl⟩ := rep_loc.mp r
  unfold lstAt at h
  cases hi : st[i]? with
  | none => rw [hi] at h; cases h
  | some o =>
    rw [hi] at h
    have q := s.obj i a o ha hi
    cases o with
    | lst es => cases h; obtain ⟨vs, h1, h2⟩ := q; exact ⟨a, vs, rfl, ha, rfl, h1, h2⟩
    | frz es => cases h
    | obj c fs => cases h
theorem set_lst {i : Nat} {a : Addr} {ds es : List D} {vs ws : List V} (s : Sim K ca μ st H) (ha : μ[i]? = some a) (hi : st[i]? = some (.lst ds)) (hH : H a = some (.lst vs)) (r : RepL K μ H es ws) :
    Sim K ca μ (st.set i (.lst es)) (upd H a (.lst ws)) ∧ Ext K μ H μ (upd H a (.lst ws)) := by
  have hM : Mut (H a) := by rw [hH]; exact True.intro
  exact ⟨s.set ha hi rfl hM rfl ⟨ws, upd_same, r.mono (.updM (.inr hM))⟩, .updM (.inr hM)⟩
theorem atI_rep {ds : List D} {vs : List V} {i : Int} {d : D} (r : RepL K μ H ds vs) (h : atI ds i = some d) : ∃ v, atI vs i = some v ∧ Rep K μ H d v := by
  unfold atI at h ⊢
  rw [r.length]
  cases q : ixN ds.length i with
  | none => rw [q] at h; cases h
  | some j => rw [q] at h; exact r.get h
theorem cut_rep {ds : List D} {vs : List V} (r : RepL K μ H ds vs) (lo hi : Option Int) : RepL K μ H ((ds.drop (HT.sIx ds.length 0 lo)).take (HT.sIx ds.length ds.length hi - HT.sIx ds.length 0 lo)) (cutV vs lo hi) := by
  unfold cutV
  rw [r.length]
  exact (r.drop _).take _
end
def cutD (ds : List D) (lo hi : Option Int) : List D := (ds.drop (HT.sIx ds.length 0 lo)).take (HT.sIx ds.length ds.length hi - HT.sIx ds.length 0 lo)

/-! ### operators -/
def opAdd (x y : D) : M D := fun st => match x, y with
  | .int i, .int j => .ok (.int (i + j)) st
  | .str a, .str b => if a.length + b.length ≤ sizeLine then .ok (.str (a ++ b)) st else .stuck
  | .tup a, .tup b => if a.length + b.length ≤ sizeLine then .ok (.tup (a ++ b)) st else .stuck
  | .loc i, .loc j => match lstAt st i, lstAt st j with
    | some a, some b => if a.length + b.length ≤ sizeLine then .ok (.loc st.length) (st ++ [.lst (a ++ b)]) else .stuck
    | _, _ => .stuck
  | _, _ => .stuck
def opSub (x y : D) : M D := fun st => match x, y with
  | .int i, .int j => .ok (.int (i - j)) st
  | _, _ => .stuck
def opMul (x y : D) : M D := fun st => match x, y with
  | .int i, .int j => if i.natAbs < 2 ^ 63 ∨ j.natAbs < 2 ^ 63 then .ok (.int (i * j)) st else .stuck
  | .loc i, .int k => match lstAt st i with
    | some a => if 0 ≤ k ∧ k ≤ 100000 ∧ a.length * k.toNat ≤ 100000 then .ok (.loc st.length) (st ++ [.lst (List.replicate k.toNat a).flatten]) else .stuck
    | none => .stuck
  | _, _ => .stuck
def opDiv (x y : D) : M D := fun st => match x, y with
  | .int i, .int j => if 0 < j ∧ j < 1073741824 then .ok (.int (i / j)) st else .stuck
  | _, _ => .stuck
def opMod (x y : D) : M D := fun st => match x, y with
  | .int i, .int j => if 0 < j then .ok (.int (i % j)) st else .stuck
  | _, _ => .stuck
def opPow (x y : D) : M D := fun st => match x, y with
  | .int i, .int j => if 0 ≤ j ∧ j ≤ 1000 ∧ i.natAbs < 2 ^ 64 then .ok (.int (i ^ j.toNat)) st else .stuck
  | _, _ => .stuck
def opI (p : Int → Int → Bool) (x y : D) : M D := fun st => match x, y with
  | .int i, .int j => .ok (.bl (p i j)) st
  | _, _ => .stuck
abbrev opLt := opI fun i j => decide (i < j)
abbrev opLe := opI fun i j => decide (i ≤ j)
abbrev opGt := opI fun i j => decide (j < i)
abbrev opGe := opI fun i j => decide (j ≤ i)
def D.isNon : D → Bool
  | .non => true
  | _ => false
def opIsN (x y : D) : M D := fun st => match y with
  | .non => .ok (.bl x.isNon) st
  | _ => .stuck
def opNotN (x y : D) : M D := fun st => match y with
  | .non => .ok (.bl (!x.isNon)) st
  | _ => .stuck
section
variable {X : Cx} {ca : Nat → Addr}
theorem elimP {α : Type} {K : PySem.W.Frag} {E : XK} {μ : List Addr} {H : Hp} {k : α → Sto → Prop} {P : Prop} (h : Post K ca E μ H (.stuck : R α) k) : P := h.elim
theorem dop_add : DOp ca X (binaryOp .Add) opAdd := by
  have cat : OpR X (binaryOp .Add) (fun x y H Q => ∃ a b xs ys, x = V.ref a ∧ y = V.ref b ∧ TupR X.K H a xs ∧ TupR X.K H b ys ∧ xs.length + ys.length ≤ sizeLine ∧
      (xs = [] → Q (.ref b) H) ∧ (ys = [] → Q (.ref a) H) ∧ ∀ (p : Addr) (o : Obj), H p = none → o.dict = none → Q (.ref p) (upd H p (.frz o (.tup (xs ++ ys))))) := by
    intro pins s σ H x y v u Q I rx ry h
    obtain ⟨a, b, xs, ys, rfl, rfl, ha, hb, hz, q0, q1, q2⟩ := h
    cases rx; cases ry
    obtain ⟨its, r1, p1, _⟩ := I.tuple ha.sq
    obtain ⟨its2, r2, p2, _⟩ := I.tuple hb.sq
    have l1 := r1.length
    have l2 := r2.length
    cases its with
    | nil => cases r1; exact cat_tup0 p1 p2 ⟨.ref b, H, I, rfl, q0 rfl⟩
    | cons i0 ir =>
      refine HT.cat_tup p1 p2 (by simp) (fun e => ?_) (fun _ => ?_) (by rw [← l1, ← l2]; exact hz)
      · subst e; cases r2; exact ⟨.ref a, H, I, rfl, q1 rfl⟩
      · exact laid_tup I (by rw [List.length_append]; exact hz) (r1.append r2) q2
  refine ⟨_, ((op_add.or op_add_str).or cat).or op_cat, fun E x y H Q d e st μ rx ry s h => ?_⟩
  cases d <;> cases e <;> first
    | exact elimP h
    | skip
  case int.int i j => rw [rep_int] at rx ry; exact .inl (.inl (.inl ⟨i, j, rx, ry, h μ H _ .refl s (rep_int.mpr rfl)⟩))
  case str.str a b =>
    rw [rep_str] at rx ry
    unfold opAdd at h
    simp only at h
    split at h
    · rename_i hz; exact .inl (.inl (.inr ⟨a, b, rx, ry, hz, h μ H _ .refl s (rep_str.mpr rfl)⟩))
    · exact elimP h
  case tup.tup a b =>
    have rx0 := rx
    have ry0 := ry
    obtain ⟨p, xs, rfl, h1, h2⟩ := rep_tup.mp rx
    obtain ⟨q, ys, rfl, h3, h4⟩ := rep_tup.mp ry
    unfold opAdd at h
    simp only at h
    split at h
    · rename_i hz
      refine .inl (.inr ⟨p, q, xs, ys, rfl, rfl, h1, h3, by rw [h2.length, h4.length]; exact hz, fun e => ?_, fun e => ?_, fun p o hp hd => new_tup s (h2.append h4) h hp hd⟩)
      · subst e
        have : a = [] := List.eq_nil_of_length_eq_zero h2.length.symm
        subst this; exact h μ H _ .refl s ry0
      · subst e
        have : b = [] := List.eq_nil_of_length_eq_zero h4.length.symm
        subst this; rw [List.append_nil] at h; exact h μ H _ .refl s rx0
    · exact elimP h
  case loc.loc i j =>
    unfold opAdd at h
    simp only at h
    split at h
    · rename_i a b hi hj
      split at h
      · rename_i hz
        obtain ⟨p, xs, rfl, _, _, h1, h2⟩ := lst_of s hi rx
        obtain ⟨q, ys, rfl, _, _, h3, h4⟩ := lst_of s hj ry
        exact .inr ⟨p, q, xs, ys, rfl, rfl, h1, h3, by rw [h2.length, h4.length]; exact hz, fun p hp => new_lst s (h2.append h4) h hp⟩
      · exact elimP h
    · exact elimP h
theorem RepL.rep {K : PySem.W.Frag} {μ : List Addr} {H : Hp} {ds : List D} {vs : List V} (r : RepL K μ H ds vs) : ∀ n : Nat, RepL K μ H (List.replicate n ds).flatten (List.replicate n vs).flatten
  | 0 => repL_nil.mpr rfl
  | n + 1 => by
    rw [List.replicate_succ, List.replicate_succ, List.flatten_cons, List.flatten_cons]
    exact r.append (RepL.rep r n)
theorem dop_mul : DOp ca X (binaryOp .Mult) opMul := by
  refine ⟨_, op_mul.or op_rep, fun E x y H Q d e st μ rx ry s h => ?_⟩
  cases d <;> cases e <;> first | exact elimP h | skip
  case int.int i j =>
    rw [rep_int] at rx ry
    unfold opMul at h
    simp only at h
    split at h
    · rename_i c
      refine .inl ⟨i, j, rx, ry, ?_, h μ H _ .refl s (rep_int.mpr rfl)⟩
      rcases c with c | c
      · left; omega
      · right; omega
    · exact elimP h
  case loc.int i k =>
    rw [rep_int] at ry
    unfold opMul at h
    simp only at h
    split at h
    · rename_i a hi
      split at h
      · rename_i c
        obtain ⟨p, xs, rfl, _, _, h1, h2⟩ := lst_of s hi rx
        refine .inr ⟨p, k, xs, rfl, ry, h1, by omega, by omega, ?_, fun p hp => new_lst s (h2.rep k.toNat) h hp⟩
        rw [h2.length, sizeLine_eq]
        omega
      · exact elimP h
    · exact elimP h
theorem dop_ints {o : Value → Value → Sem Value} {C : Int → Int → Prop} {g : Int → Int → V} {op : D → D → M D} (ho : OpR X o (rI C g)) (hI : ∀ K E μ H (Q : VK) i j st, Sim K ca μ st H → Post K ca E μ H (op (.int i) (.int j) st) (KV K ca μ H Q) → C i j ∧ Q (g i j) H)
    (h0 : ∀ d e st, (∀ i j, ¬ (d = .int i ∧ e = .int j)) → op d e st = .stuck) : DOp ca X o op := by
  refine ⟨_, ho, fun E x y H Q d e st μ rx ry s h => ?_⟩
  by_cases hd : ∃ i j, d = .int i ∧ e = .int j
  · obtain ⟨i, j, rfl, rfl⟩ := hd
    rw [rep_int] at rx ry
    obtain ⟨c, q⟩ := hI _ E μ H Q i j st s h
    exact ⟨i, j, rx, ry, c, q⟩
  · rw [h0 d e st fun i j z => hd ⟨i, j, z⟩] at h; exact elimP h
theorem OpR.c0 {o : Value → Value → Sem Value} {g : Int → Int → V} (h : OpR X o (rI0 g)) : OpR X o (rI (fun _ _ => True) g) := by
  intro pins s σ H x y v u Q I rx ry q
  obtain ⟨i, j, e1, e2, _, q⟩ := q
  exact h pins s σ H x y v u Q I rx ry ⟨i, j, e1, e2, q⟩
theorem dop_sub : DOp ca X (binaryOp .Sub) opSub := by
  refine dop_ints (OpR.c0 op_sub) (fun K E μ H Q i j st s h => ⟨True.intro, h μ H _ .refl s (rep_int.mpr rfl)⟩) fun d e st h => ?_
  cases d <;> cases e <;> first | rfl | exact absurd ⟨rfl, rfl⟩ (h _ _)
theorem dop_div : DOp ca X (binaryOp .FloorDiv) opDiv := by
  refine dop_ints op_fdiv (fun K E μ H Q i j st s h => ?_) fun d e st h => ?_
  · unfold opDiv at h; simp only at h
    split at h
    · rename_i c; exact ⟨c, h μ H _ .refl s (rep_int.mpr rfl)⟩
    · exact elimP h
  · cases d <;> cases e <;> first | rfl | exact absurd ⟨rfl, rfl⟩ (h _ _)
theorem dop_mod : DOp ca X (binaryOp .Mod) opMod := by
  refine dop_ints op_mod (fun K E μ H Q i j st s h => ?_) fun d e st h => ?_
  · unfold opMod at h; simp only at h
    split at h
    · rename_i c; exact ⟨c, h μ H _ .refl s (rep_int.mpr rfl)⟩
    · exact elimP h
  · cases d <;> cases e <;> first | rfl | exact absurd ⟨rfl, rfl⟩ (h _ _)
theorem dop_pow : DOp ca X (binaryOp .Pow) opPow := by
  refine dop_ints op_pow (fun K E μ H Q i j st s h => ?_) fun d e st h => ?_
  · unfold opPow at h; simp only at h
    split at h
    · rename_i c; exact ⟨⟨c.1, by omega, c.2.2⟩, h μ H _ .refl s (rep_int.mpr rfl)⟩
    · exact elimP h
  · cases d <;> cases e <;> first | rfl | exact absurd ⟨rfl, rfl⟩ (h _ _)
theorem dop_cmpI {o : CmpOp} {p : Int → Int → Bool} (ho : OpR X (compareOp o) (rI0 fun i j => .bl (p i j))) : DOp ca X (compareOp o) (opI p) := by
  refine dop_ints (OpR.c0 ho) (fun K E μ H Q i j st s h => ⟨True.intro, h μ H _ .refl s (rep_bl.mpr rfl)⟩) fun d e st h => ?_
  cases d <;> cases e <;> first | rfl | exact absurd ⟨rfl, rfl⟩ (h _ _)
theorem dop_lt : DOp ca X (compareOp .Lt) opLt := dop_cmpI op_lt
theorem dop_le : DOp ca X (compareOp .LtE) opLe := dop_cmpI op_le
theorem dop_gt : DOp ca X (compareOp .Gt) opGt := dop_cmpI op_gt
theorem dop_ge : DOp ca X (compareOp .GtE) opGe := dop_cmpI op_ge
theorem rep_isN {K : PySem.W.Frag} {μ : List Addr} {H : Hp} {d : D} {v : V} (r : Rep K μ H d v) : decide (v = .non) = d.isNon := by
  cases d with
  | non => rw [rep_non] at r; subst r; rfl
  | bl b => rw [rep_bl] at r; subst r; rfl
  | int b => rw [rep_int] at r; subst r; rfl
  | str b => rw [rep_str] at r; subst r; rfl
  | tup b => obtain ⟨a, xs, rfl, _⟩ := rep_tup.mp r; rfl
  | loc b => obtain ⟨a, _, rfl⟩ := rep_loc.mp r; rfl
theorem dop_isN : DOp ca X (compareOp .Is) opIsN := by
  refine ⟨_, op_isN, fun E x y H Q d e st μ rx ry s h => ?_⟩
  cases e <;> first | exact elimP h | skip
  rw [rep_non] at ry
  refine ⟨ry, ?_⟩
  rw [rep_isN rx]
  exact h μ H _ .refl s (rep_bl.mpr rfl)
theorem dop_notN : DOp ca X (compareOp .IsNot) opNotN := by
  refine ⟨_, op_notN, fun E x y H Q d e st μ rx ry s h => ?_⟩
  cases e <;> first | exact elimP h | skip
  rw [rep_non] at ry
  refine ⟨ry, ?_⟩
  rw [rep_isN rx]
  exact h μ H _ .refl s (rep_bl.mpr rfl)
end
end DL

set_option Elab.async false
set_option linter.all false
set_option maxRecDepth 100000
set_option maxHeartbeats 4000000
namespace DL
open PySem L2 PySem.Spec PyProof.Rows

/-! ### data compared -/
def allO {α : Type} : List (Option α) → Option (List α)
  | [] => some []
  | o :: r => match o, allO r with
    | some a, some l => some (a :: l)
    | _, _ => none
def toPD (st : Sto) : Nat → D → Option PyData
  | 0, _ => none
  | n + 1, d => match d with
    | .non => some .none
    | .bl b => some (.bool b)
    | .int i => some (.int i)
    | .str s => some (.str s)
    | .tup ds => (allO (ds.map (toPD st n))).map PyData.tuple
    | .loc i => match seqAt st i with
      | some ds => (allO (ds.map (toPD st n))).map PyData.list
      | none => none
section
variable {K : PySem.W.Frag} {ca : Nat → Addr} {μ : List Addr} {H : Hp} {st : Sto}
theorem dps_of {f : D → Option PyData} (hf : ∀ d v p, f d = some p → Rep K μ H d v → Dp K H v p) : ∀ {ds : List D} {vs : List V} {ps : List PyData}, allO (ds.map f) = some ps → RepL K μ H ds vs → DpAll K H vs ps
  | [], vs, ps, h, r => by cases h; rw [repL_nil] at r; subst r; exact .nil
  | d :: ds, vs, ps, h, r => by
    obtain ⟨v, w, rfl, h1, h2⟩ := repL_cons.mp r
    rw [List.map_cons] at h
    unfold allO at h
    cases q1 : f d with
    | none => rw [q1] at h; cases h
    | some p =>
      cases q2 : allO (ds.map f) with
      | none => rw [q1, q2] at h; cases h
      | some qs => rw [q1, q2] at h; cases h; exact .cons (hf _ _ _ q1 h1) (dps_of hf q2 h2)
theorem dp_of (s : Sim K ca μ st H) : ∀ (n : Nat) {d : D} {v : V} {p : PyData}, toPD st n d = some p → Rep K μ H d v → Dp K H v p
  | 0, d, v, p, h, r => by cases h
  | n + 1, d, v, p, h, r => by
    unfold toPD at h
    cases d with
    | non => cases h; rw [rep_non] at r; subst r; exact .non
    | bl b => cases h; rw [rep_bl] at r; subst r; exact .bl b
    | int b => cases h; rw [rep_int] at r; subst r; exact .int b
    | str b => cases h; rw [rep_str] at r; subst r; exact .str b
    | tup ds =>
      obtain ⟨a, vs, rfl, h1, h2⟩ := rep_tup.mp r
      simp only at h
      cases q : allO (ds.map (toPD st n)) with
      | none => rw [q] at h; cases h
      | some ps => rw [q] at h; cases h; exact .tup h1.sq (dps_of (fun _ _ _ => dp_of s n) q h2)
    | loc i =>
      simp only at h
      cases z : seqAt st i with
      | none => rw [z] at h; cases h
      | some ds =>
        rw [z] at h
        obtain ⟨a, vs, rfl, h1, h2⟩ := sq_of s z r
        simp only at h
        cases q : allO (ds.map (toPD st n)) with
        | none => rw [q] at h; cases h
        | some ps => rw [q] at h; cases h; exact .lst h1 (dps_of (fun _ _ _ => dp_of s n) q h2)
end
def eqData (st : Sto) (x y : D) : Option Bool := match toPD st 64 x, toPD st 64 y with
  | some p, some q => if SeqAt.shaped p && SeqAt.shaped q then some (PyData.eqv p q) else none
  | _, _ => none
def opEq (x y : D) : M D := fun st => match eqData st x y with
  | some b => .ok (.bl b) st
  | none => .stuck
def opNe (x y : D) : M D := fun st => match eqData st x y with
  | some b => .ok (.bl (!b)) st
  | none => .stuck
def D.flat : D → Bool
  | .non | .bl _ | .int _ | .str _ => true
  | _ => false
def D.eqF : D → D → Bool
  | .non, .non => true
  | .bl a, .bl b => a == b
  | .bl a, .int b => (if a then 1 else 0) == b
  | .int a, .bl b => a == (if b then 1 else 0)
  | .int a, .int b => a == b
  | .str a, .str b => a == b
  | _, _ => false
def D.inF (x : D) (ys : List D) : Bool := ys.any fun y => y.eqF x
def seqOf (st : Sto) : D → Option (List D)
  | .tup ds => some ds
  | .loc i => seqAt st i
  | _ => none
def opIn (x y : D) : M D := fun st => match seqOf st y with
  | some ys => if x.flat && ys.all D.flat then .ok (.bl (x.inF ys)) st else .stuck
  | none => match x, y with
    | .str a, .str z => match a.cps.toList with
      | [c] => .ok (.bl (decide (c ∈ z.cps.toList))) st
      | _ => .stuck
    | _, _ => .stuck
def opNotIn (x y : D) : M D := fun st => match seqOf st y with
  | some ys => if x.flat && ys.all D.flat then .ok (.bl (!x.inF ys)) st else .stuck
  | none => match x, y with
    | .str a, .str z => match a.cps.toList with
      | [c] => .ok (.bl (!decide (c ∈ z.cps.toList))) st
      | _ => .stuck
    | _, _ => .stuck
section
variable {K : PySem.W.Frag} {ca : Nat → Addr} {μ : List Addr} {H : Hp} {st : Sto}
theorem flat_rep {d : D} {v : V} (r : Rep K μ H d v) : flatV v = d.flat ∨ ∃ a, v = .ref a ∧ d.flat = false := by
  cases d with
  | non => rw [rep_non] at r; subst r; exact .inl rfl
  | bl b => rw [rep_bl] at r; subst r; exact .inl rfl
  | int b => rw [rep_int] at r; subst r; exact .inl rfl
  | str b => rw [rep_str] at r; subst r; exact .inl rfl
  | tup b => obtain ⟨a, xs, rfl, _⟩ := rep_tup.mp r; exact .inr ⟨a, rfl, rfl⟩
  | loc b => obtain ⟨a, _, rfl⟩ := rep_loc.mp r; exact .inr ⟨a, rfl, rfl⟩
theorem flat_of {d : D} {v : V} (r : Rep K μ H d v) (h : d.flat = true) : flatV v = true := by
  rcases flat_rep r with e | ⟨a, _, e⟩
  · rw [e]; exact h
  · rw [e] at h; cases h
theorem eqF_of {d e : D} {v w : V} (r : Rep K μ H d v) (q : Rep K μ H e w) (h : d.flat = true) (h' : e.flat = true) : eqV v w = d.eqF e := by
  cases d <;> cases e <;> first | exact absurd h Bool.false_ne_true | exact absurd h' Bool.false_ne_true | skip
  all_goals
    first | rw [rep_non] at r | rw [rep_bl] at r | rw [rep_int] at r | rw [rep_str] at r
    first | rw [rep_non] at q | rw [rep_bl] at q | rw [rep_int] at q | rw [rep_str] at q
    subst r; subst q; rfl
theorem flats_of : ∀ {ds : List D} {vs : List V}, RepL K μ H ds vs → ds.all D.flat = true → vs.all flatV = true
  | [], vs, r, h => by rw [repL_nil] at r; subst r; rfl
  | d :: ds, vs, r, h => by
    obtain ⟨v, w, rfl, h1, h2⟩ := repL_cons.mp r
    rw [List.all_cons, Bool.and_eq_true] at h ⊢
    exact ⟨flat_of h1 h.1, flats_of h2 h.2⟩
theorem inF_of {x : D} {v : V} (rx : Rep K μ H x v) (fx : x.flat = true) : ∀ {ds : List D} {vs : List V}, RepL K μ H ds vs → ds.all D.flat = true → inV v vs = x.inF ds
  | [], vs, r, h => by rw [repL_nil] at r; subst r; rfl
  | d :: ds, vs, r, h => by
    obtain ⟨v', w, rfl, h1, h2⟩ := repL_cons.mp r
    rw [List.all_cons, Bool.and_eq_true] at h
    have ih := inF_of rx fx h2 h.2
    unfold inV D.inF at ih ⊢
    rw [List.any_cons, List.any_cons, ih, eqF_of h1 rx h.1 fx]
theorem seqOf_rep {y : D} {ys : List D} {v : V} (s : Sim K ca μ st H) (h : seqOf st y = some ys) (r : Rep K μ H y v) : ∃ p vs, v = .ref p ∧ (SqL K H p vs ∨ SqT K H p vs) ∧ RepL K μ H ys vs := by
  cases y with
  | tup ds => cases h; obtain ⟨a, vs, rfl, h1, h2⟩ := rep_tup.mp r; exact ⟨a, vs, rfl, .inr h1.sq, h2⟩
  | loc i => obtain ⟨a, vs, rfl, h1, h2⟩ := sq_of s h r; exact ⟨a, vs, rfl, .inl h1, h2⟩
  | _ => cases h
end
section
variable {X : Cx} {ca : Nat → Addr}
theorem dop_eq (hu : X.A.units + 64 < cLine) : DOp ca X (compareOp .Eq) opEq := by
  refine ⟨_, op_eqD hu, fun E x y H Q d e st μ rx ry s h => ?_⟩
  unfold opEq eqData at h
  cases q1 : toPD st 64 d with
  | none => rw [q1] at h; exact elimP h
  | some p =>
    cases q2 : toPD st 64 e with
    | none => rw [q1, q2] at h; exact elimP h
    | some q =>
      rw [q1, q2] at h
      simp only at h
      cases sh : SeqAt.shaped p && SeqAt.shaped q with
      | false => rw [sh] at h; exact elimP h
      | true =>
        rw [sh] at h
        rw [Bool.and_eq_true] at sh
        exact ⟨p, q, dp_of s 64 q1 rx, dp_of s 64 q2 ry, sh.1, sh.2, h μ H _ .refl s (rep_bl.mpr rfl)⟩
theorem dop_ne (hu : X.A.units + 64 < cLine) : DOp ca X (compareOp .NotEq) opNe := by
  refine ⟨_, op_neD hu, fun E x y H Q d e st μ rx ry s h => ?_⟩
  unfold opNe eqData at h
  cases q1 : toPD st 64 d with
  | none => rw [q1] at h; exact elimP h
  | some p =>
    cases q2 : toPD st 64 e with
    | none => rw [q1, q2] at h; exact elimP h
    | some q =>
      rw [q1, q2] at h
      simp only at h
      cases sh : SeqAt.shaped p && SeqAt.shaped q with
      | false => rw [sh] at h; exact elimP h
      | true =>
        rw [sh] at h
        rw [Bool.and_eq_true] at sh
        exact ⟨p, q, dp_of s 64 q1 rx, dp_of s 64 q2 ry, sh.1, sh.2, h μ H _ .refl s (rep_bl.mpr rfl)⟩
theorem dop_in : DOp ca X (compareOp .In) opIn := by
  refine ⟨_, op_in_seq.or op_in_sign, fun E x y H Q d e st μ rx ry s h => ?_⟩
  unfold opIn at h
  cases q : seqOf st e with
  | some ys =>
    rw [q] at h
    simp only at h
    split at h
    · rename_i f
      rw [Bool.and_eq_true] at f
      obtain ⟨p, vs, rfl, h1, h2⟩ := seqOf_rep s q ry
      refine .inl ⟨p, vs, rfl, h1, flat_of rx f.1, flats_of h2 f.2, ?_⟩
      rw [inF_of rx f.1 h2 f.2]
      exact h μ H _ .refl s (rep_bl.mpr rfl)
    · exact elimP h
  | none =>
    rw [q] at h
    simp only at h
    split at h
    · rename_i a z
      rw [rep_str] at rx ry
      split at h
      · rename_i c hc
        refine .inr ⟨c, z, ?_, ry, h μ H _ .refl s (rep_bl.mpr rfl)⟩
        rw [rx, ← hc]
      · exact elimP h
    · exact elimP h
theorem dop_notIn : DOp ca X (compareOp .NotIn) opNotIn := by
  refine ⟨_, op_notIn_seq.or op_notIn_sign, fun E x y H Q d e st μ rx ry s h => ?_⟩
  unfold opNotIn at h
  cases q : seqOf st e with
  | some ys =>
    rw [q] at h
    simp only at h
    split at h
    · rename_i f
      rw [Bool.and_eq_true] at f
      obtain ⟨p, vs, rfl, h1, h2⟩ := seqOf_rep s q ry
      refine .inl ⟨p, vs, rfl, h1, flat_of rx f.1, flats_of h2 f.2, ?_⟩
      rw [inF_of rx f.1 h2 f.2]
      exact h μ H _ .refl s (rep_bl.mpr rfl)
    · exact elimP h
  | none =>
    rw [q] at h
    simp only at h
    split at h
    · rename_i a z
      rw [rep_str] at rx ry
      split at h
      · rename_i c hc
        refine .inr ⟨c, z, ?_, ry, h μ H _ .refl s (rep_bl.mpr rfl)⟩
        rw [rx, ← hc]
      · exact elimP h
    · exact elimP h
end

/-! ### subscripts -/
def opIx (x y : D) : M D := fun st => match y with
  | .int i => match x with
    | .str z => if z.length ≤ sizeLine then (match atI z.cps.toList i with
      | some c => .ok (.str ⟨#[c]⟩) st
      | none => .stuck) else .stuck
    | _ => match seqOf st x with
      | some ds => (match atI ds i with
        | some d => .ok d st
        | none => .stuck)
      | none => .stuck
  | _ => .stuck
def opSl (x : D) (lo hi : Option Int) : M D := fun st => match x with
  | .str z => if z.length ≤ sizeLine then .ok (.str (cutS z lo hi)) st else .stuck
  | .tup ds => .ok (.tup (cutD ds lo hi)) st
  | .loc i => match seqAt st i with
    | some ds => .ok (.loc st.length) (st ++ [.lst (cutD ds lo hi)])
    | none => .stuck
  | _ => .stuck
def toI : D → M Int
  | .int i => pure i
  | _ => stuck
def pNone : En → M (Option Int) := fun _ => pure none
def pSome (f : En → M D) : En → M (Option Int) := fun ρ => do pure (some (← toI (← f ρ)))
def eSl (f : En → M D) (lo hi : En → M (Option Int)) : En → M D := fun ρ => do
  let x ← f ρ; let l ← lo ρ; let h ← hi ρ; opSl x l h
structure DO (ca : Nat → Addr) (E : XK) (X : Cx) (e : Option Expr) (f : En → M (Option Int)) : Prop where
  ex : ∃ t, PO X e t ∧ ∀ σ H Q ρ st μ, EnvR X.K μ H ρ σ → Sim X.K ca μ st H → Post X.K ca E μ H (f ρ st) (fun o st' => ∀ μ' H', Ext X.K μ H μ' H' → Sim X.K ca μ' st' H' → Q o H') → t σ H Q
section
variable {X : Cx} {ca : Nat → Addr} {E : XK} {a b : Expr} {pos p2 : Pos} {f g : En → M D} {lo hi : Option Expr} {fl fh : En → M (Option Int)}
theorem do_none : DO ca E X none pNone := ⟨_, po_none, fun σ H Q ρ st μ re s h => h μ H .refl s⟩
theorem do_some (ha : DE ca E X a f) : DO ca E X (some a) (pSome f) := by
  obtain ⟨ta, pa, ga⟩ := ha.ex
  refine ⟨_, po_some pa, fun σ H Q ρ st μ re s h => ?_⟩
  refine ga.bind re s h fun d st1 μ1 H1 x e1 s1 r1 re1 h1 => ?_
  cases d with
  | int i => exact ⟨i, rep_int.mp r1, h1 μ1 H1 e1 s1⟩
  | _ => exact h1.elim
theorem de_ix (ha : DE ca E X a f) (hb : DE ca E X b g) (hs : PlainIx b := by exact fun _ _ => rfl) : DE ca E X (.Subscript a b pos) (eBin opIx f g) := by
  obtain ⟨ta, pa, ga⟩ := ha.ex
  obtain ⟨tb, pb, gb⟩ := hb.ex
  refine ⟨_, pe_ix (ix_list.or (ix_tup.or ix_str)) pa pb hs, ge_bin (fun E x y H Q d e st μ rx ry s h => ?_) ga gb⟩
  unfold opIx at h
  cases e <;> first | exact elimP h | skip
  rename_i i
  rw [rep_int] at ry
  simp only at h
  split at h
  · rename_i z
    split at h
    · rename_i hz
      split at h
      · rename_i c hc
        exact .inr (.inr ⟨z, i, c, rep_str.mp rx, ry, hz, hc, h μ H _ .refl s (rep_str.mpr rfl)⟩)
      · exact elimP h
    · exact elimP h
  · split at h
    · rename_i ds hds
      split at h
      · rename_i dd hdd
        obtain ⟨p, vs, rfl, h1, h2⟩ := seqOf_rep s hds rx
        obtain ⟨v, h3, h4⟩ := atI_rep h2 hdd
        have fin := h μ H v .refl s h4
        rcases h1 with h1 | h1
        · exact .inl ⟨p, vs, i, v, rfl, ry, h1, h3, fin⟩
        · exact .inr (.inl ⟨p, vs, i, v, rfl, ry, h1, h3, fin⟩)
      · exact elimP h
    · exact elimP h
theorem sl_tupF : SlR X (fun x lo hi H Q => ∃ a xs, x = V.ref a ∧ TupR X.K H a xs ∧ (cutV xs lo hi = xs → Q (.ref a) H) ∧ ∀ (p : Addr) (o : Obj), H p = none → o.dict = none → Q (.ref p) (upd H p (.frz o (.tup (cutV xs lo hi))))) := by
  intro pins s σ H x v vl vu lo hi sl Q I rx hs pl pu h
  obtain ⟨a, xs, rfl, hx, q1, q2⟩ := h
  cases rx
  obtain ⟨its, r, ht, hz⟩ := I.tuple hx.sq
  have hlen : its.toArray.size = xs.length := by rw [List.size_toArray]; exact r.length.symm
  refine ⟨"tuple", _, PyProof.Rows.slot_tuple_getitem.lookup, ht.typeIs, ?_⟩
  by_cases hw : HT.sIx xs.length 0 lo = 0 ∧ HT.sIx xs.length xs.length hi = xs.length
  · have whole : cutV xs lo hi = xs := by unfold cutV; rw [hw.1, hw.2]; simp
    exact getItem_tuple_whole ht hs pl pu (by rw [hlen]; exact hw) ⟨.ref a, H, I, rfl, q1 whole⟩
  · refine HT.getItem_tuple_cut ht hs pl pu (by rw [hlen]; exact hw) ?_ (by rw [hlen]; exact hz)
    rw [hlen]
    exact laid_tup I (Nat.le_trans (cutV_length xs lo hi) hz) ((r.drop (HT.sIx xs.length 0 lo)).take (HT.sIx xs.length xs.length hi - HT.sIx xs.length 0 lo)) q2
theorem de_slice (ha : DE ca E X a f) (hl : DO ca E X lo fl) (hh : DO ca E X hi fh) : DE ca E X (.Subscript a (.Slice lo hi none p2) pos) (eSl f fl fh) := by
  obtain ⟨ta, pa, ga⟩ := ha.ex
  obtain ⟨tl, pl, gl⟩ := hl.ex
  obtain ⟨th, ph, gh⟩ := hh.ex
  refine ⟨_, pe_slice ((sl_str.or sl_tupF).or sl_list) pa pl ph, fun σ H Q ρ st μ re s h => ?_⟩
  refine ga.bind re s h fun d st1 μ1 H1 x e1 s1 r1 re1 h1 => ?_
  refine gl σ H1 _ ρ st1 μ1 re1 s1 ((Post.bind.mp h1).imp fun l st2 q => ?_)
  intro μ2 H2 e2 s2
  have h2 := q.mono e2 fun _ _ z => z
  refine gh σ H2 _ ρ st2 μ2 (re1.mono e2) s2 ((Post.bind.mp h2).imp fun u st3 q3 => ?_)
  intro μ3 H3 e3 s3
  have h3 := q3.mono e3 fun _ _ z => z
  have r3 := r1.mono (e2.trans e3)
  have e03 := (e1.trans e2).trans e3
  unfold opSl at h3
  cases d with
  | str z =>
    simp only at h3
    split at h3
    · rename_i hz; exact .inl (.inl ⟨z, rep_str.mp r3, hz, (h3 : KV X.K ca μ H Q _ _) μ3 H3 _ e03 s3 (rep_str.mpr rfl)⟩)
    · exact elimP h3
  | tup ds =>
    obtain ⟨p, vs, rfl, g1, g2⟩ := rep_tup.mp r3
    have h4 : KV X.K ca μ H Q (.tup (cutD ds l u)) st3 := h3
    refine .inl (.inr ⟨p, vs, rfl, g1, fun w => ?_, fun p' o hp hd => new_tup s3 (cut_rep g2 l u) (h4.mono e03) hp hd⟩)
    refine h4 μ3 H3 _ e03 s3 (rep_tup.mpr ⟨p, vs, rfl, g1, ?_⟩)
    have := cut_rep g2 l u
    rw [w] at this; exact this
  | loc i =>
    simp only at h3
    split at h3
    · rename_i ds hds
      obtain ⟨p, vs, rfl, g1, g2⟩ := sq_of s3 hds r3
      exact .inr ⟨p, vs, rfl, g1, fun p' hp => new_lst s3 (cut_rep g2 l u) (KV.mono h3 e03) hp⟩
    · exact elimP h3
  | _ => exact elimP h3
end
end DL

set_option Elab.async false
set_option linter.all false
set_option maxRecDepth 100000
set_option maxHeartbeats 4000000
namespace DL
open PySem L2 PySem.Spec PyProof.Rows

/-! ### calls of built-ins -/
structure DCall (ca : Nat → Addr) (X : Cx) (f : Value) (op : List D → M D) : Prop where
  ex : ∃ r, CallR X f r ∧ RLGood X.K ca r op
def eCall (op : List D → M D) (fa : En → M (List D)) : En → M D := fun ρ => do op (← fa ρ)
section
variable {X : Cx} {ca : Nat → Addr} {E : XK} {e o : Expr} {es : List Expr} {p pos apos cpos : Pos} {x : Str} {id T : String} {op : List D → M D} {f : En → M D} {fa : En → M (List D)}
theorem de_callB (hc : DCall ca X (.builtin id) op) (hg : Gl X x) (hm : X.mg x = none) (hv : bootBuiltins x = some (.builtin id)) (ha : DA ca E X (e :: es) fa) (hn : x ≠ "__name__" := by decide) (hdb : (x == ("__debug__" : Str)) = false := by decide)
    (he : starEach (e :: es) X.env = (false, eval e X.env) :: starEach es X.env := by rfl) (hpl : (backTo pos (starEach es X.env)).any (·.1) = false := by rfl) : DE ca E X (.Call (.Name x p) (e :: es) [] pos) (eCall op fa) := by
  obtain ⟨r, h1, h2⟩ := hc.ex
  obtain ⟨t, pa, ga⟩ := ha.ex
  refine ⟨_, pe_callB h1 hg hm hv pa hn hdb he hpl, fun σ H Q ρ st μ re s h => ?_⟩
  refine ga.bind re s h fun ds st1 μ1 H1 xs e1 s1 r1 re1 g1 => ?_
  exact h2 E xs H1 Q ds st1 μ1 r1 s1 (g1.imp fun _ _ z => z.mono e1)
theorem de_callTy (hc : DCall ca X (.type T) op) (hg : Gl X x) (hm : X.mg x = none) (hv : bootBuiltins x = some (.type T)) (ha : DA ca E X (e :: es) fa) (hn : x ≠ "__name__" := by decide) (hdb : (x == ("__debug__" : Str)) = false := by decide)
    (he : starEach (e :: es) X.env = (false, eval e X.env) :: starEach es X.env := by rfl) (hpl : (backTo pos (starEach es X.env)).any (·.1) = false := by rfl) : DE ca E X (.Call (.Name x p) (e :: es) [] pos) (eCall op fa) := by
  obtain ⟨r, h1, h2⟩ := hc.ex
  obtain ⟨t, pa, ga⟩ := ha.ex
  refine ⟨_, pe_callTy h1 hg hm hv pa hn hdb he hpl, fun σ H Q ρ st μ re s h => ?_⟩
  refine ga.bind re s h fun ds st1 μ1 H1 xs e1 s1 r1 re1 g1 => ?_
  exact h2 E xs H1 Q ds st1 μ1 r1 s1 (g1.imp fun _ _ z => z.mono e1)
def bLen (xs : List D) : M D := fun st => match xs with
  | [.str z] => if z.length ≤ sizeLine then .ok (.int z.length) st else .stuck
  | [d] => match seqOf st d with
    | some ds => .ok (.int ds.length) st
    | none => .stuck
  | _ => .stuck
theorem dc_len : DCall ca X (.builtin "len") bLen := by
  refine ⟨_, call_len_str.or call_len_seq, fun E xs H Q ds st μ r s h => ?_⟩
  unfold bLen at h
  split at h
  · rename_i z
    obtain ⟨v, rfl, rv⟩ := r.single
    split at h
    · rename_i hz; exact .inl ⟨z, by rw [rep_str.mp rv], hz, h μ H _ .refl s (rep_int.mpr rfl)⟩
    · exact elimP h
  · rename_i d _
    obtain ⟨v, rfl, rv⟩ := r.single
    split at h
    · rename_i ds hd
      obtain ⟨p, vs, rfl, h1, h2⟩ := seqOf_rep s hd rv
      refine .inr ⟨p, vs, rfl, h1, ?_⟩
      rw [h2.length]
      exact h μ H _ .refl s (rep_int.mpr rfl)
    · exact elimP h
  · exact elimP h
def bInt (xs : List D) : M D := fun st => match xs with
  | [.int i] => .ok (.int i) st
  | [.bl b] => .ok (.int (if b then 1 else 0)) st
  | _ => .stuck
theorem dc_int : DCall ca X (.type "int") bInt := by
  refine ⟨_, call_int1, fun E xs H Q ds st μ r s h => ?_⟩
  unfold bInt at h
  split at h
  · obtain ⟨v, rfl, rv⟩ := r.single
    exact .inl ⟨_, by rw [rep_int.mp rv], h μ H _ .refl s (rep_int.mpr rfl)⟩
  · obtain ⟨v, rfl, rv⟩ := r.single
    exact .inr ⟨_, by rw [rep_bl.mp rv], h μ H _ .refl s (rep_int.mpr rfl)⟩
  · exact elimP h
def bTuple (xs : List D) : M D := fun st => match xs with
  | [.tup ds] => .ok (.tup ds) st
  | [.loc i] => match seqAt st i with
    | some ds => .ok (.tup ds) st
    | none => .stuck
  | _ => .stuck
theorem dc_tuple : DCall ca X (.type "tuple") bTuple := by
  have fromL : CallR X (.type "tuple") (fun xs H Q => ∃ p ys, xs = [V.ref p] ∧ SqL X.K H p ys ∧ ∀ (l : Addr) (o : Obj), H l = none → o.dict = none → Q (.ref l) (upd H l (.frz o (.tup ys)))) := by
    intro pins s σ H xs us Q I r h
    obtain ⟨p, ys, rfl, hq, q⟩ := h
    obtain ⟨u, rfl, rx⟩ := vals1 r
    cases rx
    obtain ⟨its, r', pl, hz⟩ := I.list hq
    have hlen := r'.length
    refine call_tuple_list pl.isList (fun h' kp => ?_) (by rw [List.size_toArray, ← hlen]; exact hz)
    exact laid_tup (s := { s with heap := h' }) (I.kept (t' := s.toks) kp) hz r' q
  refine ⟨_, fromL.or call_tupleT, fun E xs H Q ds st μ r s h => ?_⟩
  unfold bTuple at h
  split at h
  · obtain ⟨v, rfl, rv⟩ := r.single
    have rv0 := rv
    obtain ⟨a, vs, rfl, h1, h2⟩ := rep_tup.mp rv
    exact .inr ⟨a, vs, rfl, h1.sq, h μ H _ .refl s rv0⟩
  · obtain ⟨v, rfl, rv⟩ := r.single
    split at h
    · rename_i ds hd
      obtain ⟨p, vs, rfl, h1, h2⟩ := sq_of s hd rv
      exact .inl ⟨p, vs, rfl, h1, fun l o hl ho => new_tup s h2 h hl ho⟩
    · exact elimP h
  · exact elimP h
def bList (xs : List D) : M D := fun st => match xs with
  | [d] => match seqOf st d with
    | some ds => .ok (.loc st.length) (st ++ [.lst ds])
    | none => .stuck
  | _ => .stuck
theorem dc_list : DCall ca X (.type "list") bList := by
  refine ⟨_, call_list_of, fun E xs H Q ds st μ r s h => ?_⟩
  unfold bList at h
  split at h
  · rename_i d
    obtain ⟨v, rfl, rv⟩ := r.single
    split at h
    · rename_i ds hd
      obtain ⟨p, vs, rfl, h1, h2⟩ := seqOf_rep s hd rv
      exact ⟨p, vs, rfl, h1, fun l hl => new_lst s h2 h hl⟩
    · exact elimP h
  · exact elimP h
def blsOf : List D → Option (List Bool)
  | [] => some []
  | .bl b :: r => (blsOf r).map (b :: ·)
  | _ => none
theorem bls_rep {K : PySem.W.Frag} {μ : List Addr} {H : Hp} : ∀ {ds : List D} {vs : List V} {bs : List Bool}, blsOf ds = some bs → RepL K μ H ds vs → vs = bs.map V.bl
  | [], vs, bs, h, r => by cases h; exact repL_nil.mp r
  | d :: ds, vs, bs, h, r => by
    obtain ⟨v, w, rfl, h1, h2⟩ := repL_cons.mp r
    cases d with
    | bl b =>
      unfold blsOf at h
      cases q : blsOf ds with
      | none => rw [q] at h; cases h
      | some cs => rw [q] at h; cases h; rw [rep_bl.mp h1, bls_rep q h2]; rfl
    | _ => cases h
def bAll (xs : List D) : M D := fun st => match xs with
  | [.loc i] => match (seqAt st i).bind blsOf with
    | some bs => .ok (.bl (bs.all _root_.id)) st
    | none => .stuck
  | _ => .stuck
def bAny (xs : List D) : M D := fun st => match xs with
  | [.loc i] => match (seqAt st i).bind blsOf with
    | some bs => .ok (.bl (bs.any _root_.id)) st
    | none => .stuck
  | _ => .stuck
theorem dc_all (hc : X.calm = true) : DCall ca X (.builtin "all") bAll := by
  refine ⟨_, cr_all hc, fun E xs H Q ds st μ r s h => ?_⟩
  unfold bAll at h
  split at h
  · obtain ⟨v, rfl, rv⟩ := r.single
    split at h
    · rename_i bs hb
      obtain ⟨ds, h1, h2⟩ := Option.bind_eq_some_iff.mp hb
      obtain ⟨p, vs, rfl, h3, h4⟩ := sq_of s h1 rv
      have e := bls_rep h2 h4
      subst e
      exact ⟨p, bs, rfl, h3, h μ H _ .refl s (rep_bl.mpr rfl)⟩
    · exact elimP h
  · exact elimP h
theorem dc_any (hc : X.calm = true) : DCall ca X (.builtin "any") bAny := by
  refine ⟨_, cr_any hc, fun E xs H Q ds st μ r s h => ?_⟩
  unfold bAny at h
  split at h
  · obtain ⟨v, rfl, rv⟩ := r.single
    split at h
    · rename_i bs hb
      obtain ⟨ds, h1, h2⟩ := Option.bind_eq_some_iff.mp hb
      obtain ⟨p, vs, rfl, h3, h4⟩ := sq_of s h1 rv
      have e := bls_rep h2 h4
      subst e
      exact ⟨p, bs, rfl, h3, h μ H _ .refl s (rep_bl.mpr rfl)⟩
    · exact elimP h
  · exact elimP h
def bMin2 (xs : List D) : M D := fun st => match xs with
  | [.int i, .int j] => .ok (.int (if j < i then j else i)) st
  | _ => .stuck
theorem dc_min2 (hc : X.calm = true) : DCall ca X (.builtin "min") bMin2 := by
  refine ⟨_, call_min2 hc, fun E xs H Q ds st μ r s h => ?_⟩
  unfold bMin2 at h
  split at h
  · obtain ⟨v, w, rfl, rv, rw'⟩ := r.pair
    exact ⟨_, _, by rw [rep_int.mp rv, rep_int.mp rw'], h μ H _ .refl s (rep_int.mpr rfl)⟩
  · exact elimP h

/-! ### isinstance of a built-in class -/
def D.ty (st : Sto) : D → Option String
  | .non => some "NoneType"
  | .bl _ => some "bool"
  | .int _ => some "int"
  | .str _ => some "str"
  | .tup _ => some "tuple"
  | .loc i => (seqAt st i).map fun _ => "list"
def isiB (T : String) (d : D) : M D := fun st => match d.ty st with
  | some t => match kitB t T with
    | some b => .ok (.bl b) st
    | none => .stuck
  | none => .stuck
theorem ty_of {K : PySem.W.Frag} {ca : Nat → Addr} {μ : List Addr} {H : Hp} {st : Sto} {d : D} {v : V} {t : String} (s : Sim K ca μ st H) (h : d.ty st = some t) (r : Rep K μ H d v) : TyX K H v (.type t) := by
  cases d with
  | non => cases h; rw [rep_non] at r; subst r; exact .base .non
  | bl b => cases h; rw [rep_bl] at r; subst r; exact .base (.bl b)
  | int b => cases h; rw [rep_int] at r; subst r; exact .base (.int b)
  | str b => cases h; rw [rep_str] at r; subst r; exact .base (.str b)
  | tup b =>
    cases h
    obtain ⟨a, vs, rfl, h1, h2⟩ := rep_tup.mp r
    rcases h1 with ⟨o, _, h1⟩ | ⟨o, its, n, h1, h2, _⟩
    · exact .fTuple h1
    · exact .kTuple h1 h2
  | loc i =>
    change Option.map (fun _ => "list") (seqAt st i) = some t at h
    cases q : seqAt st i with
    | none => rw [q] at h; cases h
    | some ds =>
      rw [q] at h; cases h
      obtain ⟨a, vs, rfl, h1, h2⟩ := sq_of s q r
      rcases h1 with (h1 | ⟨o, h1⟩) | ⟨o, its, n, h1, h2, _⟩
      · exact .base (.lst h1)
      · exact .base (.frz h1)
      · exact .kList h1 h2
theorem de_isi {y : Str} {py : Pos} (hg : Gl X "isinstance") (hm : X.mg "isinstance" = none) (hv : bootBuiltins "isinstance" = some (.builtin "isinstance")) (hgy : Gl X y) (hmy : X.mg y = none) (hvy : bootBuiltins y = some (.type T)) (ha : DE ca E X e f)
    (hs : starEach [e, .Name y py] X.env = (false, eval e X.env) :: starEach [.Name y py] X.env := by rfl) (hs2 : starEach [.Name y py] X.env = (false, eval (.Name y py) X.env) :: starEach [] X.env := by rfl)
    (hn : y ≠ "__name__" := by decide) (hdb : (y == ("__debug__" : Str)) = false := by decide) (hpl : (backTo pos (starEach [.Name y py] X.env)).any (·.1) = false := by rfl) : DE ca E X (.Call (.Name "isinstance" p) [e, .Name y py] [] pos) (eUn (isiB T) f) := by
  obtain ⟨t, pa, ga⟩ := ha.ex
  refine ⟨_, pe_callB call_isi hg hm hv (pa_cons pa (pa_cons (pe_bltn (v := .ty T) hgy hmy hvy rfl hn hdb) pa_nil hs2) hs) (by decide) (by decide) hs hpl, fun σ H Q ρ st μ re s h => ?_⟩
  refine ga.bind re s h fun d st1 μ1 H1 x e1 s1 r1 re1 h1 => ?_
  unfold isiB at h1
  split at h1
  · rename_i t ht
    split at h1
    · rename_i b hb
      exact ⟨x, .ty T, .type t, .type T, b, rfl, .ty T, ty_of s1 ht r1, kit_ty hb, (h1 : KV X.K ca μ H Q _ _) μ1 H1 _ e1 s1 (rep_bl.mpr rfl)⟩
    · exact elimP h1
  · exact elimP h1

/-! ### methods of built-in values -/
/-- what a method's road asks of its receiver -/
def TyG (X : Cx) (T : String) (ty : V → Hp → Prop) : Prop := ∀ {pins : List (Addr × Obj)} {σ : L2.St} {H : Hp} {s : Shared} {x : V} {v : Value}, Inv X pins σ H s → RelV x v → ty x H →
  s.TypeIs v T ∧ ∀ a, v = .ref a → ∃ ob, s.heap.get? a = some ob ∧ ob.dict = none
def tMtG (ty : V → Hp → Prop) (r : V → List V → Hp → VK → Prop) (to : TE) (t : TA) : TE := fun σ H Q => to σ H fun x H1 => ty x H1 ∧ t σ H1 fun xs H2 => r x xs H2 Q
theorem pe_mtG {name : Str} {r : V → List V → Hp → VK → Prop} {ty : V → Hp → Prop} {to : TE} {t : TA} (pa : PlainAttrs T) (slot : Slot T name id) (hty : typeOf (.builtin id) = pure (.type "method_descriptor")) (hT : TyG X T ty) (hm : MtR X id r) (ho : PE X o to) (ha : PA X (e :: es) t)
    (hbase : attributeBase o name X.env (eval o X.env) = eval o X.env)
    (hfew : ((backTo cpos (starEach (e :: es) X.env)).all (fun x => !x.1) && (backToKw cpos (keywordEach [] X.env)).all (fun x => x.1.isSome) && decide ((e :: es).length + ([] : List Keyword).length + (if ([] : List Keyword).isEmpty then 0 else 1) < 30)) = true)
    (hline : (apos.endLine == cpos.line) = true) (hs : starEach (e :: es) X.env = (false, eval e X.env) :: starEach es X.env) (hq : (backTo cpos (starEach es X.env)).any (·.1) = false) :
    PE X (.Call (.Attribute o name apos) (e :: es) [] cpos) (tMtG ty r to t) := by
  refine ⟨fun pins s σ H Q I h => wpAny_Call_method_late hbase hfew hline rfl (thn (ho.run pins s σ H _ I h) ?_)⟩
  rintro v s1 ⟨x, H1, I1, r1, ty1, q1⟩
  obtain ⟨g1, g2⟩ := hT I1 r1 ty1
  refine ⟨T, id, pa, slot, hty, g1, g2, ?_⟩
  have hA := ha.run cpos pins s1 σ H1 _ I1 q1
  rw [hs] at hA ⊢
  refine Calls.callWith_builtin ?_ (Calls.evalArgs_plain (thn hA ?_))
  · show (false || (backTo cpos (starEach es X.env)).any (·.1)) = false
    rw [hq]; rfl
  · rintro us s2 ⟨vs, H2, I2, r2, q2⟩
    exact hm pins s2 σ H2 x vs v us Q I2 r1 r2 q2
theorem pe_mtG0 {name : Str} {r : V → List V → Hp → VK → Prop} {ty : V → Hp → Prop} {to : TE} (pa : PlainAttrs T) (slot : Slot T name id) (hty : typeOf (.builtin id) = pure (.type "method_descriptor")) (hT : TyG X T ty) (hm : MtR X id r) (ho : PE X o to)
    (hbase : attributeBase o name X.env (eval o X.env) = eval o X.env) (hline : (apos.endLine == cpos.line) = true) : PE X (.Call (.Attribute o name apos) [] [] cpos) (tMtG ty r to tNil) := by
  refine ⟨fun pins s σ H Q I h => wpAny_Call_method0_late hbase hline (thn (ho.run pins s σ H _ I h) ?_)⟩
  rintro v s1 ⟨x, H1, I1, r1, ty1, q1⟩
  obtain ⟨g1, g2⟩ := hT I1 r1 ty1
  exact ⟨T, id, pa, slot, hty, g1, g2, Calls.callWith_builtin rfl (PySem.evalArgs_none (hm pins s1 σ H1 x [] v [] Q I1 r1 .nil q1))⟩
theorem tyG_list : TyG X "list" (fun x H => ∃ p xs, x = V.ref p ∧ SqL X.K H p xs) := by
  rintro pins σ H s x v I r ⟨p, xs, rfl, hq⟩
  exact tyV_is (T := "list") I r (.inl ⟨rfl, xs, hq⟩)
theorem tyG_tup : TyG X "tuple" (fun x H => ∃ p xs, x = V.ref p ∧ TupR X.K H p xs) := by
  rintro pins σ H s x v I r ⟨p, xs, rfl, hq⟩
  rcases hq with ⟨o, hd, hq⟩ | ⟨o, its, n, h1, h2, h3, _⟩
  · cases r
    obtain ⟨e, _, its, _, o2, e2, c, _⟩ := (show ObjOk X.prog X.w H s.heap p (.frz o (.tup xs)) from I.hok p _ hq)
    rw [e] at e2; cases e2
    refine ⟨⟨o, e, c⟩, fun a z => ?_⟩
    cases z; exact ⟨o, e, hd⟩
  · exact tyV_is (T := "tuple") I r (.inr (.inl ⟨rfl, o, h1, h2, h3⟩))
theorem tyG_str : TyG X "str" (fun x H => ∃ z, x = V.str z) := by
  rintro pins σ H s x v I r ⟨z, rfl⟩
  exact tyV_is (T := "str") I r rfl
def chkL : D → M Unit := fun d st => match d with
  | .loc i => if (seqAt st i).isSome then .ok () st else .stuck
  | _ => .stuck
def chkT : D → M Unit := fun d st => match d with
  | .tup _ => .ok () st
  | _ => .stuck
def eMt (chk : D → M Unit) (op : D → List D → M D) (f : En → M D) (fa : En → M (List D)) : En → M D := fun ρ => do
  let o ← f ρ; chk o; op o (← fa ρ)
def RMGood (K : PySem.W.Frag) (ca : Nat → Addr) (r : V → List V → Hp → VK → Prop) (op : D → List D → M D) : Prop := ∀ E x xs H Q d ds st μ, Rep K μ H d x → RepL K μ H ds xs → Sim K ca μ st H → Post K ca E μ H (op d ds st) (KV K ca μ H Q) → r x xs H Q
structure DMt (ca : Nat → Addr) (X : Cx) (id : String) (op : D → List D → M D) : Prop where
  ex : ∃ r, MtR X id r ∧ RMGood X.K ca r op
theorem ge_mt {ty : V → Hp → Prop} {r : V → List V → Hp → VK → Prop} {to : TE} {t : TA} {chk : D → M Unit} {opm : D → List D → M D} (hr : RMGood X.K ca r opm)
    (hchk : ∀ d v μ H st, Rep X.K μ H d v → Sim X.K ca μ st H → chk d st = .stuck ∨ (chk d st = .ok () st ∧ ty v H)) (go : GE X.K ca E to f) (ga : GA X.K ca E t fa) : GE X.K ca E (tMtG ty r to t) (eMt chk opm f fa) := by
  intro σ H Q ρ st μ re s h
  refine go.bind re s h fun d st1 μ1 H1 x e1 s1 r1 re1 h1 => ?_
  rcases hchk d x μ1 H1 st1 r1 s1 with z | ⟨z, hty⟩
  · rw [bind_run, z] at h1; exact h1.elim
  · rw [bind_run, z] at h1
    refine ⟨hty, ga.bind re1 s1 h1 fun ds st2 μ2 H2 xs e2 s2 r2 re2 h2 => ?_⟩
    exact hr E x xs H2 Q d ds st2 μ2 (r1.mono e2) r2 s2 (h2.imp fun _ _ q => q.mono (e1.trans e2))
theorem de_mtL {name : Str} {opm : D → List D → M D} (pa : PlainAttrs "list") (slot : Slot "list" name id) (hty : typeOf (.builtin id) = pure (.type "method_descriptor")) (hm : DMt ca X id opm) (ho : DE ca E X o f) (ha : DA ca E X (e :: es) fa)
    (hbase : attributeBase o name X.env (eval o X.env) = eval o X.env := by rfl)
    (hfew : ((backTo cpos (starEach (e :: es) X.env)).all (fun x => !x.1) && (backToKw cpos (keywordEach [] X.env)).all (fun x => x.1.isSome) && decide ((e :: es).length + ([] : List Keyword).length + (if ([] : List Keyword).isEmpty then 0 else 1) < 30)) = true := by rfl)
    (hline : (apos.endLine == cpos.line) = true := by rfl) (hs : starEach (e :: es) X.env = (false, eval e X.env) :: starEach es X.env := by rfl) (hq : (backTo cpos (starEach es X.env)).any (·.1) = false := by rfl) :
    DE ca E X (.Call (.Attribute o name apos) (e :: es) [] cpos) (eMt chkL opm f fa) := by
  obtain ⟨r, m1, m2⟩ := hm.ex
  obtain ⟨to, po, go⟩ := ho.ex
  obtain ⟨t, pa', ga⟩ := ha.ex
  refine ⟨_, pe_mtG pa slot hty tyG_list m1 po pa' hbase hfew hline hs hq, ge_mt m2 (fun d v μ H st rv s => ?_) go ga⟩
  unfold chkL
  cases d with
  | loc i =>
    simp only
    cases q : seqAt st i with
    | none => left; rfl
    | some ds => right; obtain ⟨a, vs, e, h1, _⟩ := sq_of s q rv; exact ⟨rfl, a, vs, e, h1⟩
  | _ => left; rfl
theorem de_mtL0 {name : Str} {opm : D → List D → M D} (pa : PlainAttrs "list") (slot : Slot "list" name id) (hty : typeOf (.builtin id) = pure (.type "method_descriptor")) (hm : DMt ca X id opm) (ho : DE ca E X o f)
    (hbase : attributeBase o name X.env (eval o X.env) = eval o X.env := by rfl) (hline : (apos.endLine == cpos.line) = true := by rfl) : DE ca E X (.Call (.Attribute o name apos) [] [] cpos) (eMt chkL opm f aNil) := by
  obtain ⟨r, m1, m2⟩ := hm.ex
  obtain ⟨to, po, go⟩ := ho.ex
  refine ⟨_, pe_mtG0 pa slot hty tyG_list m1 po hbase hline, ge_mt m2 (fun d v μ H st rv s => ?_) go (fun σ H Q ρ st μ re s h => h μ H _ .refl s (repL_nil.mpr rfl))⟩
  unfold chkL
  cases d with
  | loc i =>
    simp only
    cases q : seqAt st i with
    | none => left; rfl
    | some ds => right; obtain ⟨a, vs, e, h1, _⟩ := sq_of s q rv; exact ⟨rfl, a, vs, e, h1⟩
  | _ => left; rfl
theorem de_mtT {name : Str} {opm : D → List D → M D} (pa : PlainAttrs "tuple") (slot : Slot "tuple" name id) (hty : typeOf (.builtin id) = pure (.type "method_descriptor")) (hm : DMt ca X id opm) (ho : DE ca E X o f) (ha : DA ca E X (e :: es) fa)
    (hbase : attributeBase o name X.env (eval o X.env) = eval o X.env := by rfl)
    (hfew : ((backTo cpos (starEach (e :: es) X.env)).all (fun x => !x.1) && (backToKw cpos (keywordEach [] X.env)).all (fun x => x.1.isSome) && decide ((e :: es).length + ([] : List Keyword).length + (if ([] : List Keyword).isEmpty then 0 else 1) < 30)) = true := by rfl)
    (hline : (apos.endLine == cpos.line) = true := by rfl) (hs : starEach (e :: es) X.env = (false, eval e X.env) :: starEach es X.env := by rfl) (hq : (backTo cpos (starEach es X.env)).any (·.1) = false := by rfl) :
    DE ca E X (.Call (.Attribute o name apos) (e :: es) [] cpos) (eMt chkT opm f fa) := by
  obtain ⟨r, m1, m2⟩ := hm.ex
  obtain ⟨to, po, go⟩ := ho.ex
  obtain ⟨t, pa', ga⟩ := ha.ex
  refine ⟨_, pe_mtG pa slot hty tyG_tup m1 po pa' hbase hfew hline hs hq, ge_mt m2 (fun d v μ H st rv s => ?_) go ga⟩
  unfold chkT
  cases d with
  | tup ds => right; obtain ⟨a, vs, e, h1, _⟩ := rep_tup.mp rv; exact ⟨rfl, a, vs, e, h1⟩
  | _ => left; rfl
def mAppend (o : D) (xs : List D) : M D := fun st => match o, xs with
  | .loc i, [d] => match lstAt st i with
    | some ds => if ds.length < sizeLine then .ok .non (st.set i (.lst (ds ++ [d]))) else .stuck
    | none => .stuck
  | _, _ => .stuck
theorem dm_append : DMt ca X "list.append" mAppend := by
  refine ⟨_, mt_append, fun E x xs H Q d ds st μ rx rs s h => ?_⟩
  unfold mAppend at h
  split at h
  · rename_i i d
    split at h
    · rename_i es he
      split at h
      · rename_i hz
        obtain ⟨v, rfl, rv⟩ := rs.single
        obtain ⟨a, vs, rfl, h1, h2, h3, h4⟩ := lst_of s he rx
        refine ⟨a, vs, v, rfl, rfl, h3, by rw [h4.length]; exact hz, ?_⟩
        obtain ⟨s', e'⟩ := set_lst s h1 h2 h3 (h4.append (RepL.one rv))
        exact h μ _ _ e' s' (rep_non.mpr rfl)
      · exact elimP h
    · exact elimP h
  · exact elimP h
def mExtend (o : D) (xs : List D) : M D := fun st => match o, xs with
  | .loc i, [.loc j] => match lstAt st i, lstAt st j with
    | some ds, some es => if ds.length + es.length ≤ sizeLine then .ok .non (st.set i (.lst (ds ++ es))) else .stuck
    | _, _ => .stuck
  | _, _ => .stuck
theorem dm_extend : DMt ca X "list.extend" mExtend := by
  refine ⟨_, mt_extend, fun E x xs H Q d ds st μ rx rs s h => ?_⟩
  unfold mExtend at h
  split at h
  · rename_i i j
    split at h
    · rename_i es fs he hf
      split at h
      · rename_i hz
        obtain ⟨v, rfl, rv⟩ := rs.single
        obtain ⟨a, vs, rfl, h1, h2, h3, h4⟩ := lst_of s he rx
        obtain ⟨b, ws, rfl, _, _, g3, g4⟩ := lst_of s hf rv
        refine ⟨a, b, vs, ws, rfl, rfl, h3, g3, by rw [h4.length, g4.length]; exact hz, ?_⟩
        obtain ⟨s', e'⟩ := set_lst s h1 h2 h3 (h4.append g4)
        exact h μ _ _ e' s' (rep_non.mpr rfl)
      · exact elimP h
    · exact elimP h
  · exact elimP h
def mClear (o : D) (xs : List D) : M D := fun st => match o, xs with
  | .loc i, [] => match lstAt st i with
    | some _ => .ok .non (st.set i (.lst []))
    | none => .stuck
  | _, _ => .stuck
theorem dm_clear : DMt ca X "list.clear" mClear := by
  refine ⟨_, mt_clear, fun E x xs H Q d ds st μ rx rs s h => ?_⟩
  unfold mClear at h
  split at h
  · rename_i i
    split at h
    · rename_i es he
      have e0 := repL_nil.mp rs
      obtain ⟨a, vs, rfl, h1, h2, h3, h4⟩ := lst_of s he rx
      refine ⟨a, vs, rfl, e0, h3, ?_⟩
      obtain ⟨s', e'⟩ := set_lst s h1 h2 h3 (es := []) (ws := []) (repL_nil.mpr rfl)
      exact h μ _ _ e' s' (rep_non.mpr rfl)
    · exact elimP h
  · exact elimP h
/-- the first place -/
def D.place (x : D) : List D → Option Nat
  | [] => none
  | y :: ys => if y.eqF x then some 0 else (D.place x ys).map (· + 1)
theorem place_some {x : D} : ∀ {ys : List D} {j : Nat}, D.place x ys = some j → (∃ z, ys[j]? = some z ∧ z.eqF x = true) ∧ ∀ m z, m < j → ys[m]? = some z → z.eqF x = false
  | [], j, h => by cases h
  | y :: ys, j, h => by
    unfold D.place at h
    split at h
    · rename_i e; cases h; exact ⟨⟨y, rfl, e⟩, fun m z hm => absurd hm (Nat.not_lt_zero m)⟩
    · rename_i e
      cases q : D.place x ys with
      | none => rw [q] at h; cases h
      | some k =>
        rw [q] at h
        simp only [Option.map_some, Option.some.injEq] at h
        subst h
        obtain ⟨⟨z, h1, h2⟩, h3⟩ := place_some q
        refine ⟨⟨z, by simpa using h1, h2⟩, fun m z' hm hz => ?_⟩
        cases m with
        | zero => simp at hz; subst hz; exact Bool.eq_false_iff.mpr e
        | succ m => exact h3 m z' (by omega) (by simpa using hz)
def mIndexL (o : D) (xs : List D) : M D := fun st => match o, xs with
  | .loc i, [x] => match seqAt st i with
    | some ds => if x.flat && ds.all D.flat then (match D.place x ds with
      | some j => .ok (.int j) st
      | none => .stuck) else .stuck
    | none => .stuck
  | _, _ => .stuck
theorem dm_indexL : DMt ca X "list.index" mIndexL := by
  refine ⟨_, mt_index, fun E x xs H Q d ds st μ rx rs s h => ?_⟩
  unfold mIndexL at h
  split at h
  · rename_i i y
    split at h
    · rename_i es he
      split at h
      · rename_i f
        rw [Bool.and_eq_true] at f
        split at h
        · rename_i j hj
          obtain ⟨v, rfl, rv⟩ := rs.single
          obtain ⟨a, vs, rfl, h1, h2⟩ := sq_of s he rx
          obtain ⟨⟨z, z1, z2⟩, z3⟩ := place_some hj
          obtain ⟨w, w1, w2⟩ := h2.get z1
          have fz : z.flat = true := List.all_eq_true.mp f.2 z (List.mem_of_getElem? z1)
          refine ⟨a, vs, v, j, w, rfl, rfl, h1, flat_of rv f.1, flats_of h2 f.2, w1, by rw [eqF_of w2 rv fz f.1]; exact z2, fun m w' hm hw => ?_, h μ H _ .refl s (rep_int.mpr rfl)⟩
          have hml : m < es.length := by rw [← h2.length]; exact (List.getElem?_eq_some_iff.mp hw).1
          obtain ⟨w2', g1, g2⟩ := h2.get (i := m) (d := es[m]) (by simp [hml])
          rw [hw] at g1; cases g1
          rw [eqF_of g2 rv (List.all_eq_true.mp f.2 _ (List.getElem_mem hml)) f.1]
          exact z3 m es[m] hm (by simp [hml])
        · exact elimP h
      · exact elimP h
    · exact elimP h
  · exact elimP h
def strsOf : List D → Option (List Str)
  | [] => some []
  | .str b :: r => (strsOf r).map (b :: ·)
  | _ => none
theorem strs_rep {K : PySem.W.Frag} {μ : List Addr} {H : Hp} : ∀ {ds : List D} {vs : List V} {bs : List Str}, strsOf ds = some bs → RepL K μ H ds vs → vs = bs.map V.str
  | [], vs, bs, h, r => by cases h; exact repL_nil.mp r
  | d :: ds, vs, bs, h, r => by
    obtain ⟨v, w, rfl, h1, h2⟩ := repL_cons.mp r
    cases d with
    | str b =>
      unfold strsOf at h
      cases q : strsOf ds with
      | none => rw [q] at h; cases h
      | some cs => rw [q] at h; cases h; rw [rep_str.mp h1, strs_rep q h2]; rfl
    | _ => cases h
def placeS (x : Str) : List Str → Option Nat
  | [] => none
  | y :: ys => if y = x then some 0 else (placeS x ys).map (· + 1)
theorem placeS_some {x : Str} : ∀ {ys : List Str} {j : Nat}, placeS x ys = some j → ys[j]? = some x ∧ ∀ m, m < j → ys[m]? ≠ some x
  | [], j, h => by cases h
  | y :: ys, j, h => by
    unfold placeS at h
    split at h
    · rename_i e; cases h; exact ⟨by rw [e]; rfl, fun m hm => absurd hm (Nat.not_lt_zero m)⟩
    · rename_i e
      cases q : placeS x ys with
      | none => rw [q] at h; cases h
      | some k =>
        rw [q] at h
        simp only [Option.map_some, Option.some.injEq] at h
        subst h
        obtain ⟨h1, h3⟩ := placeS_some q
        refine ⟨by simpa using h1, fun m hm hz => ?_⟩
        cases m with
        | zero => simp at hz; exact e hz
        | succ m => exact h3 m (by omega) (by simpa using hz)
def mIndexT (o : D) (xs : List D) : M D := fun st => match o, xs with
  | .tup ds, [.str x] => match strsOf ds with
    | some ys => (match placeS x ys with
      | some j => .ok (.int j) st
      | none => .stuck)
    | none => .stuck
  | _, _ => .stuck
theorem dm_indexT : DMt ca X "tuple.index" mIndexT := by
  refine ⟨_, mt_tup_index, fun E x xs H Q d ds st μ rx rs s h => ?_⟩
  unfold mIndexT at h
  split at h
  · rename_i es z
    split at h
    · rename_i ys hy
      split at h
      · rename_i j hj
        obtain ⟨v, rfl, rv⟩ := rs.single
        obtain ⟨a, vs, rfl, h1, h2⟩ := rep_tup.mp rx
        have e := strs_rep hy h2
        subst e
        obtain ⟨g1, g2⟩ := placeS_some hj
        exact ⟨a, ys, z, j, rfl, by rw [rep_str.mp rv], h1.sq, g1, g2, h μ H _ .refl s (rep_int.mpr rfl)⟩
      · exact elimP h
    · exact elimP h
  · exact elimP h
end
end DL

set_option Elab.async false
set_option linter.all false
set_option maxRecDepth 100000
set_option maxHeartbeats 4000000
namespace DL
open PySem L2 PySem.Spec PyProof.Rows

/-! ### defs -/
def spD (K : PySem.W.Frag) (ca : Nat → Addr) (m : List D → M D) : Sp := fun vs H Q E => ∃ ds st μ, RepL K μ H ds vs ∧ Sim K ca μ st H ∧ Post K ca E μ H (m ds st) (KV K ca μ H Q)
def runB (b : M Ctl) : M D := do
  match ← b with
  | .rt d => pure d
  | .nx _ => pure .non
  | _ => stuck
def fnM (n N : Nat) (body : En → M Ctl) : List D → M D := fun ds => if ds.length = n then runB (body (ds.map some ++ List.replicate (N - n) none)) else stuck
theorem envR_start {K : PySem.W.Frag} {μ : List Addr} {H : Hp} {ds : List D} {vs : List V} (r : RepL K μ H ds vs) (n : Nat) (N : List Str) (hn : N.length - vs.length = n) : EnvR K μ H (ds.map some ++ List.replicate n none) (L2.start N vs) := by
  unfold L2.start
  rw [hn]
  refine ⟨by simp [r.length], fun i d h => ?_⟩
  have hi : i < ds.length := by
    rcases Nat.lt_or_ge i ds.length with z | z
    · exact z
    · rw [List.getElem?_append_right (by simpa using z)] at h
      simp only [List.length_map] at h
      by_cases hk : i - ds.length < n
      · rw [List.getElem?_replicate_of_lt hk] at h; cases h
      · rw [List.getElem?_eq_none (by simpa using hk)] at h; cases h
  rw [List.getElem?_append_left (by simpa using hi), List.getElem?_map] at h
  have e : ds[i]? = some d := by
    cases q : ds[i]? with
    | none => rw [q] at h; cases h
    | some x => rw [q] at h; cases h; rfl
  obtain ⟨v, h1, h2⟩ := r.get e
  exact ⟨v, by rw [List.getElem?_append_left (by rw [List.length_map, r.length]; exact hi), List.getElem?_map, h1]; rfl, h2⟩
section
variable {P : Program} {w : World} {K : PySem.W.Frag} {mg : Str → Option Value} {base : Heap} {ca : Nat → Addr}
theorem fn_okD {x qual : Str} {st : Stmt} {f : Addr} {fd : FuncData} {N ps : List Str} {k : Nat} {body : En → M Ctl} (F : Fun K x qual st f fd) (S : FnScope N ps (defScope st))
    (hb : ∀ (cdv : Value) (A : Around) (outer : List Env) (s : Shared) (H : Hp) (E : XK), Room k (A.deeper (envOfC qual (defScope st) s.heap.objs.size f cdv)) →
      DSs ca E (cxOf (L2.CX P w) P w K mg base N qual (defScope st) f cdv A outer s H E) (defBody st) body) : FnOk P w K mg base (L2.CX P w) (k + 1) f fd ps (spD K ca (fnM ps.length N.length body)) := by
  refine F.okX S (fun vs H Q E h => ?_) fun cdv A outer s H vs Q E hr h => ?_
  · obtain ⟨ds, st', μ, r, s, p⟩ := h
    rw [r.length]
    unfold fnM at p
    split at p
    · rename_i e; exact e
    · exact p.elim
  · obtain ⟨t, ht, g⟩ := (hb cdv A outer s H E hr).ex
    refine ⟨t, ht, ?_⟩
    obtain ⟨ds, st', μ, r, s', p⟩ := h
    unfold fnM at p
    split at p
    · rename_i e
      refine g _ H _ _ st' μ (envR_start r _ N (by rw [r.length, e])) s' ((Post.bind.mp p).imp fun c st1 q => ?_)
      intro μ1 H1 e1 s1
      have q1 := q.mono e1 fun _ _ z => z
      cases c with
      | nx ρ => exact fun σ _ => (q1 : KV K ca μ H Q .non st1) μ1 H1 _ e1 s1 (rep_non.mpr rfl)
      | rt d => exact fun v rv => (q1 : KV K ca μ H Q d st1) μ1 H1 v e1 s1 rv
      | bk ρ => exact q1.elim
      | ct ρ => exact q1.elim
    · exact p.elim
end

/-! ### own calls -/
section
variable {X : Cx} {ca : Nat → Addr} {E : XK} {CX : CXT} {k : Nat} {f : Addr} {fd : FuncData} {ps : List Str} {m : List D → M D} {dvs : List V} {dds : List D} {ds : List Value} {x : Str} {p pos apos : Pos} {e o : Expr} {es : List Expr} {fa : En → M (List D)} {fo : En → M D}
theorem de_call (F : FnOk X.prog X.w X.K X.mg X.base CX k f fd ps (spD X.K ca m)) (hr : Room k X.A) (hg : Gl X x) (hm : X.mg x = some (.ref f)) (hk : PySem.W.keepIn X.K (.ref f) = true) (hb : Binds X.K fd ps ds) (hd : Vals dvs ds) (hdd : ∀ μ H, RepL X.K μ H dds dvs) (hx : Passes CX X E)
    (ha : DA ca E X (e :: es) fa) (hdb : (x == ("__debug__" : Str)) = false := by decide) (he : starEach (e :: es) X.env = (false, eval e X.env) :: starEach es X.env := by rfl) (hpl : (backTo pos (starEach es X.env)).any (·.1) = false := by rfl) :
    DE ca E X (.Call (.Name x p) (e :: es) [] pos) (eCall (fun ds => m (ds ++ dds)) fa) := by
  obtain ⟨t, pa, ga⟩ := ha.ex
  refine ⟨_, pe_call F hr hg hm hk hb hd hx pa hdb he hpl, fun σ H Q ρ st μ re s h => ?_⟩
  refine ga.bind re s h fun ds st1 μ1 H1 xs e1 s1 r1 re1 g1 => ?_
  exact ⟨ds ++ dds, st1, μ1, r1.append (hdd _ _), s1, g1.imp fun _ _ z => z.mono e1⟩
theorem de_call0 (F : FnOk X.prog X.w X.K X.mg X.base CX k f fd ps (spD X.K ca m)) (hr : Room k X.A) (hg : Gl X x) (hm : X.mg x = some (.ref f)) (hk : PySem.W.keepIn X.K (.ref f) = true) (hb : Binds X.K fd ps ds) (hd : Vals dvs ds) (hdd : ∀ μ H, RepL X.K μ H dds dvs) (hx : Passes CX X E)
    (hdb : (x == ("__debug__" : Str)) = false := by decide) : DE ca E X (.Call (.Name x p) [] [] pos) (fun _ => m dds) :=
  ⟨_, pe_call0 F hr hg hm hk hb hd hx hdb, fun σ H Q ρ st μ re s h => ⟨dds, st, μ, hdd _ _, s, h⟩⟩
/-! ### instances -/
def eFld (c : Nat) (n : Str) (f : En → M D) : En → M D := fun ρ => do
  match ← f ρ with
  | .loc i => fun st => match st[i]? with
    | some (.obj c' fs) => if c' = c then (match fs.lookup n with | some d => .ok d st | none => .stuck) else .stuck
    | _ => .stuck
  | _ => stuck
theorem lookF {K : PySem.W.Frag} {μ : List Addr} {H : Hp} {n : Str} : ∀ {fs : List (Str × D)} {gs : List (Str × V)}, RepF K μ H fs gs → (∀ d, fs.lookup n = some d → ∃ v, gs.lookup n = some v ∧ Rep K μ H d v) ∧ (fs.lookup n = none → gs.lookup n = none)
  | [], gs, h => by cases h; exact ⟨(fun d z => nomatch z), fun _ => rfl⟩
  | (m, d) :: fs, gs, h => by
    obtain ⟨v, r, rfl, h1, h2⟩ := h
    have ih := lookF (n := n) h2
    cases q : n == m with
    | true =>
      simp only [List.lookup, q]
      exact ⟨(fun e z => by cases z; exact ⟨v, rfl, h1⟩), (fun z => nomatch z)⟩
    | false =>
      simp only [List.lookup, q]
      exact ih
theorem obj_of {K : PySem.W.Frag} {μ : List Addr} {H : Hp} {st : Sto} {i c : Nat} {fs : List (Str × D)} {v : V} (s : Sim K ca μ st H) (h : st[i]? = some (.obj c fs)) (r : Rep K μ H (.loc i) v) :
    ∃ a dx gs, v = .ref a ∧ μ[i]? = some a ∧ H a = some (.ins (ca c) dx gs) ∧ RepF K μ H fs gs := by
  obtain ⟨a, ha, rfl⟩ := rep_loc.mp r
  obtain ⟨dx, gs, h1, h2⟩ := s.obj i a _ ha h
  exact ⟨a, dx, gs, rfl, ha, h1, h2⟩
theorem de_fld {c : Nat} {n : Str} (hC : Cls X.K (ca c)) (hA : NoAttr X.K (ca c) n) (ho : DE ca E X o fo) (hb : attributeBase o n X.env (eval o X.env) = eval o X.env := by rfl) : DE ca E X (.Attribute o n pos) (eFld c n fo) := by
  obtain ⟨t, po, go⟩ := ho.ex
  refine ⟨_, pe_fld po hb, fun σ H Q ρ st μ re s h => ?_⟩
  refine go.bind re s h fun d st1 μ1 H1 x e1 s1 r1 re1 g1 => ?_
  cases d <;> first | exact elimP g1 | skip
  rename_i i
  simp only at g1
  split at g1
  · rename_i c' fs hi
    split at g1
    · rename_i hc
      subst hc
      split at g1
      · rename_i dd hd
        obtain ⟨a, dx, gs, rfl, ha, h1, h2⟩ := obj_of s1 hi r1
        obtain ⟨v, h3, h4⟩ := (lookF h2).1 dd hd
        exact ⟨a, ca c', dx, gs, v, rfl, h1, hC, hA, h3, (g1 : KV X.K ca μ H Q _ _) μ1 H1 v e1 s1 h4⟩
      · exact elimP g1
    · exact elimP g1
  · exact elimP g1
def putFD (f : Str) (v : D) : List (Str × D) → List (Str × D)
  | [] => [(f, v)]
  | (g, x) :: r => if g = f then (g, v) :: r else (g, x) :: putFD f v r
theorem putF_rep {K : PySem.W.Frag} {μ : List Addr} {H : Hp} {n : Str} {d : D} {v : V} (q : Rep K μ H d v) : ∀ {fs : List (Str × D)} {gs : List (Str × V)}, RepF K μ H fs gs → RepF K μ H (putFD n d fs) (putF n v gs)
  | [], gs, h => by cases h; exact ⟨v, [], rfl, q, rfl⟩
  | (m, x) :: fs, gs, h => by
    obtain ⟨y, r, rfl, h1, h2⟩ := h
    unfold putFD putF
    split
    · exact ⟨v, r, rfl, q, h2⟩
    · exact ⟨y, _, rfl, h1, putF_rep q h2⟩
theorem repF_length {K : PySem.W.Frag} {μ : List Addr} {H : Hp} : ∀ {fs : List (Str × D)} {gs : List (Str × V)}, RepF K μ H fs gs → gs.length = fs.length
  | [], gs, h => by cases h; rfl
  | (m, x) :: fs, gs, h => by obtain ⟨y, r, rfl, _, h2⟩ := h; simp [repF_length h2]
def setFld (c : Nat) (n : Str) (d o : D) : M Unit := fun st => match o with
  | .loc i => match st[i]? with
    | some (.obj c' fs) => if c' = c ∧ fs.length < 1000 then .ok () (st.set i (.obj c (putFD n d fs))) else .stuck
    | _ => .stuck
  | _ => .stuck
def sFld (c : Nat) (n : Str) (fv fo : En → M D) : En → M Ctl := fun ρ => do
  let d ← fv ρ; let o ← fo ρ; setFld c n d o; pure (.nx ρ)
theorem ds_fld {c : Nat} {n : Str} {fv : En → M D} {value : Expr} {pos' : Pos} (hC : Cls X.K (ca c)) (hA : NoAttr X.K (ca c) n) (ho : DE ca E X o fo) (hv : DE ca E X value fv) (hs : swapsWith value (some (.Attribute o n pos')) pos.line X.env = pure false := by rfl) :
    DS ca E X (.Assign [.Attribute o n pos'] value pos) (DL.sFld c n fv fo) := by
  obtain ⟨to, po, go⟩ := ho.ex
  obtain ⟨tv, pv', gv⟩ := hv.ex
  refine ⟨_, ps_fld po pv' hs, fun σ H Q ρ st μ re s h => ?_⟩
  refine gv.bind re s h fun d st1 μ1 H1 y e1 s1 r1 re1 h1 => ?_
  refine go.bind re1 s1 h1 fun o st2 μ2 H2 x e2 s2 r2 re2 h2 => ?_
  rw [Post.bind] at h2
  unfold setFld at h2
  cases o <;> first | exact elimP h2 | skip
  rename_i i
  simp only at h2
  split at h2
  · rename_i c' fs hi
    split at h2
    · rename_i hc
      obtain ⟨rfl, hl⟩ := hc
      obtain ⟨a, dx, gs, rfl, ha, g1, g2⟩ := obj_of s2 hi r2
      have hM : Mut (H2 a) := by rw [g1]; exact True.intro
      refine ⟨a, ca c', dx, gs, rfl, g1, hC, hA, by rw [repF_length g2]; exact hl, ?_⟩
      have ex : Ext X.K μ2 H2 μ2 (upd H2 a (.ins (ca c') dx (putF n y gs))) := .updM (.inr hM)
      exact (h2 : KC X.K ca μ H Q (.nx ρ) _) μ2 _ ((e1.trans e2).trans ex) (s2.set ha hi rfl hM rfl ⟨dx, _, upd_same, (putF_rep (r1.mono e2) g2).mono ex⟩) σ (re2.mono ex)
    · exact elimP h2
  · exact elimP h2
/-- is it an instance of c without such an attribute? -/
def chkO (c : Nat) (n : Str) : D → M Unit := fun d st => match d with
  | .loc i => match st[i]? with
    | some (.obj c' fs) => if c' = c ∧ fs.lookup n = none then .ok () st else .stuck
    | _ => .stuck
  | _ => .stuck
def eMeth (c : Nat) (n : Str) (m : List D → M D) (dds : List D) (fo : En → M D) (fa : En → M (List D)) : En → M D := fun ρ => do
  let o ← fo ρ; chkO c n o; let ds ← fa ρ; m (o :: (ds ++ dds))
theorem ge_meth {c : Nat} {n : Str} {to : TE} {t : TA} (hdd : ∀ μ H, RepL X.K μ H dds dvs) (go : GE X.K ca E to fo) (ga : GA X.K ca E t fa) : GE X.K ca E (tMeth (ca c) n (spD X.K ca m) dvs E to t) (eMeth c n m dds fo fa) := by
  intro σ H Q ρ st μ re s h
  refine go.bind re s h fun d st1 μ1 H1 x e1 s1 r1 re1 h1 => ?_
  rw [Post.bind] at h1
  unfold chkO at h1
  cases d <;> first | exact elimP h1 | skip
  rename_i i
  simp only at h1
  split at h1
  · rename_i c' fs hi
    split at h1
    · rename_i hc
      obtain ⟨rfl, hl⟩ := hc
      obtain ⟨a, dx, gs, rfl, ha, g1, g2⟩ := obj_of s1 hi r1
      refine ⟨a, dx, gs, rfl, g1, (lookF g2).2 hl, ?_⟩
      refine ga.bind re1 s1 h1 fun ds st2 μ2 H2 vs e2 s2 r2 re2 h2 => ?_
      exact ⟨.loc i :: (ds ++ dds), st2, μ2, repL_cons.mpr ⟨.ref a, _, rfl, r1.mono e2, r2.append (hdd _ _)⟩, s2, h2.imp fun _ _ z => z.mono (e1.trans e2)⟩
    · exact elimP h1
  · exact elimP h1
theorem de_meth {c : Nat} {n : Str} {pl : Sem Bool} (ho : DE ca E X o fo) (hC : Cls X.K (ca c)) (hm : Meth X.K (ca c) n f) (F : FnOk X.prog X.w X.K X.mg X.base CX k f fd ps (spD X.K ca m)) (hr : Room k X.A) (hb : Binds X.K fd ps ds) (hd : Vals dvs ds) (hdd : ∀ μ H, RepL X.K μ H dds dvs) (hx : Passes CX X E) (ha : DA ca E X (e :: es) fa)
    (hst : starEach (e :: es) X.env = (false, eval e X.env) :: starEach es X.env := by rfl) (hpl : (backTo pos (starEach es X.env)).any (·.1) = false := by rfl)
    (ht : eval (.Call (.Attribute o n apos) (e :: es) [] pos) X.env = (do
      let ov ← eval o X.env
      standAt apos.atName
      let (g, first) ← holding [ov] (getMethod ov n pl)
      callWith pos g first (backTo pos (starEach (e :: es) X.env)) (backToKw pos (keywordEach [] X.env))) := by rfl) : DE ca E X (.Call (.Attribute o n apos) (e :: es) [] pos) (eMeth c n m dds fo fa) := by
  obtain ⟨to, po, go⟩ := ho.ex
  obtain ⟨t, pa, ga⟩ := ha.ex
  exact ⟨_, pe_meth po hC hm F hr hb hd hx pa hst hpl ht, ge_meth hdd go ga⟩
theorem de_meth0 {c : Nat} {n : Str} {pl : Sem Bool} (ho : DE ca E X o fo) (hC : Cls X.K (ca c)) (hm : Meth X.K (ca c) n f) (F : FnOk X.prog X.w X.K X.mg X.base CX k f fd ps (spD X.K ca m)) (hr : Room k X.A) (hb : Binds X.K fd ps ds) (hd : Vals dvs ds) (hdd : ∀ μ H, RepL X.K μ H dds dvs) (hx : Passes CX X E)
    (ht : eval (.Call (.Attribute o n apos) [] [] pos) X.env = (do
      let ov ← eval o X.env
      standAt apos.atName
      let (g, first) ← holding [ov] (getMethod ov n pl)
      callWith pos g first (backTo pos (starEach [] X.env)) (backToKw pos (keywordEach [] X.env))) := by rfl) : DE ca E X (.Call (.Attribute o n apos) [] [] pos) (eMeth c n m dds fo aNil) := by
  obtain ⟨to, po, go⟩ := ho.ex
  exact ⟨_, pe_meth0 po hC hm F hr hb hd hx ht, ge_meth hdd go (fun σ H Q ρ st μ re s h => h μ H _ .refl s (repL_nil.mpr rfl))⟩
/-- a new instance, then its __init__ -/
def mkM (c : Nat) (m : D → M D) : M D := fun st => match m (.loc st.length) (st ++ [.obj c []]) with
  | .ok .non st' => .ok (.loc st.length) st'
  | .raise c' fs st' => .raise c' fs st'
  | _ => .stuck
theorem made {K : PySem.W.Frag} {c : Nat} {μ : List Addr} {H : Hp} {st : Sto} {Q : VK} {mm : D → M D} {x dx : Addr} (s : Sim K ca μ st H) (h : Post K ca E μ H (mkM c mm st) (KV K ca μ H Q)) (hx : H x = none) (hdx : H dx = none) (ne : dx ≠ x) :
    Sim K ca (μ ++ [x]) (st ++ [.obj c []]) (upd (upd H dx (.own x)) x (.ins (ca c) dx [])) ∧ Ext K μ H (μ ++ [x]) (upd (upd H dx (.own x)) x (.ins (ca c) dx [])) ∧
    Post K ca E (μ ++ [x]) (upd (upd H dx (.own x)) x (.ins (ca c) dx [])) (mm (.loc st.length) (st ++ [.obj c []])) (KV K ca (μ ++ [x]) (upd (upd H dx (.own x)) x (.ins (ca c) dx [])) fun v H2 => v = .non ∧ Q (.ref x) H2) := by
  have s1 : Sim K ca μ st (upd H dx (.own x)) := s.fresh hdx
  have hx1 : upd H dx (.own x) x = none := by rw [upd_ne (Ne.symm ne)]; exact hx
  have e1 : Ext K μ H μ (upd H dx (.own x)) := .updM (.inl hdx)
  have e2 : Ext K μ (upd H dx (.own x)) (μ ++ [x]) (upd (upd H dx (.own x)) x (.ins (ca c) dx [])) := .push hx1
  refine ⟨s1.push hx1 ⟨dx, [], upd_same, rfl⟩, e1.trans e2, ?_⟩
  have hl : (μ ++ [x])[st.length]? = some x := by rw [← s.len, List.getElem?_append_right (Nat.le_refl _), Nat.sub_self]; rfl
  unfold mkM at h
  cases q : mm (.loc st.length) (st ++ [.obj c []]) with
  | ok d st' =>
    rw [q] at h
    cases d with
    | non =>
      intro μ' H' v e' s' rv
      refine ⟨rep_non.mp rv, (h : KV K ca μ H Q _ _) μ' H' _ ((e1.trans e2).trans e') s' ?_⟩
      rw [rep_loc]
      exact ⟨x, e'.pre _ _ hl, rfl⟩
    | _ => exact h.elim
  | raise c' fs st' =>
    rw [q] at h
    exact fun μ' H' od e' => h μ' H' od ((e1.trans e2).trans e')
  | stuck => rw [q] at h; exact h.elim
structure DK (ca : Nat → Addr) (E : XK) (X : Cx) (ks : List Keyword) (f : En → M (List D)) : Prop where
  ex : ∃ t, PK X ks t ∧ GA X.K ca E t f
theorem dk_nil : DK ca E X [] aNil := ⟨_, pk_nil, fun σ H Q ρ st μ re s h => h μ H _ .refl s (repL_nil.mpr rfl)⟩
theorem dk_cons {kws : List Keyword} {nm : Option Str} {kpos : Pos} (ha : DE ca E X e fo) (hr : DK ca E X kws fa) : DK ca E X (⟨nm, e, kpos⟩ :: kws) (aCons fo fa) := by
  obtain ⟨ta, pa, ga⟩ := ha.ex
  obtain ⟨tb, pb, gb⟩ := hr.ex
  refine ⟨_, pk_cons pa pb, fun σ H Q ρ st μ re s h => ?_⟩
  refine ga.bind re s h fun d st1 μ1 H1 x e1 s1 r1 re1 h1 => ?_
  refine gb.bind re1 s1 h1 fun ds st2 μ2 H2 xs e2 s2 r2 re2 h2 => ?_
  exact (Post.pure.mp h2 : KA X.K ca μ H Q (d :: ds) st2) μ2 H2 _ (e1.trans e2) s2 (repL_cons.mpr ⟨x, xs, rfl, r1.mono e2, r2⟩)
/-- C(e, .., k = v, ..) -/
def eMakeK (c n nk : Nat) (g : List D → List D → List D) (m : List D → M D) (fa fk : En → M (List D)) : En → M D := fun ρ => do
  let ds ← fa ρ; let zs ← fk ρ
  if ds.length = n ∧ zs.length = nk then mkM c (fun o => m (g (o :: ds) zs)) else stuck
theorem de_makeK {c n : Nat} {ks : List Str} {g : List Value → List Value → List Value} {gV : List V → List V → List V} {gD : List D → List D → List D} {kws : List Keyword} {fk : En → M (List D)} (M : Mk X.K (ca c) f) (F : FnOk X.prog X.w X.K X.mg X.base CX k f fd ps (spD X.K ca m)) (hr : Room (k + 1) X.A) (hg : Gl X x) (hm : X.mg x = some (.ref (ca c)))
    (hb : KBn X.K fd ps (n + 1) ks g gV) (hgD : ∀ μ H ds zs vs ws, RepL X.K μ H ds vs → RepL X.K μ H zs ws → RepL X.K μ H (gD ds zs) (gV vs ws)) (hx : Passes CX X E) (ha : DA ca E X (e :: es) fa) (hkw : DK ca E X kws fk)
    (hall : (backToKw pos (keywordEach kws X.env)).all (·.1.isSome) = true := by rfl) (hks : (backToKw pos (keywordEach kws X.env)).filterMap (·.1) = ks := by rfl) (hdb : (x == ("__debug__" : Str)) = false := by decide)
    (he : starEach (e :: es) X.env = (false, eval e X.env) :: starEach es X.env := by rfl) (hpl : ((backTo pos (starEach (e :: es) X.env)).any (·.1) || (backToKw pos (keywordEach kws X.env)).any (·.1.isNone)) = false := by rfl) :
    DE ca E X (.Call (.Name x p) (e :: es) kws pos) (eMakeK c n ks.length gD m fa fk) := by
  obtain ⟨t, pa, ga⟩ := ha.ex
  obtain ⟨tk, pk, gk⟩ := hkw.ex
  refine ⟨_, pe_makeK M F hr hg hm hb hx pa pk hall hks hdb he hpl, fun σ H Q ρ st μ re s h => ?_⟩
  refine ga.bind re s h fun ds st1 μ1 H1 vs e1 s1 r1 re1 h1 => ?_
  refine gk.bind re1 s1 h1 fun zs st2 μ2 H2 ws e2 s2 r2 re2 h2 => ?_
  split at h2
  · rename_i hl
    refine ⟨by rw [r1.length]; exact hl.1, by rw [r2.length]; exact hl.2, fun x dx hx' hdx ne => ?_⟩
    obtain ⟨q1, q2, q3⟩ := made s2 (h2.imp fun _ _ z => z.mono (e1.trans e2)) hx' hdx ne
    exact ⟨gD (.loc st2.length :: ds) zs, st2 ++ [.obj c []], μ2 ++ [x], hgD _ _ _ _ _ _ (repL_cons.mpr ⟨.ref x, vs, rfl, loc_new s2, (r1.mono e2).mono q2⟩) (r2.mono q2), q1, q3⟩
  · exact h2.elim
end
end DL

set_option Elab.async false
set_option linter.all false
set_option maxRecDepth 100000
set_option maxHeartbeats 4000000
namespace DL
open PySem L2 PySem.Spec PyProof.Rows

/-! ### targets -/
def gVar (i : Nat) : D → En → M En := fun d ρ => pure (ρ.set i (some d))
def gTupD (n : Nat) (g : List D → En → M En) : D → En → M En := fun d ρ => match d with
  | .tup ds => if ds.length = n then g ds ρ else stuck
  | _ => stuck
def gNilD : List D → En → M En := fun ds ρ => match ds with
  | [] => pure ρ
  | _ => stuck
def gConsD (g : D → En → M En) (h : List D → En → M En) : List D → En → M En := fun ds ρ => match ds with
  | d :: r => do let ρ1 ← g d ρ; h r ρ1
  | [] => stuck
def opSet (o i d : D) : M Unit := fun st => match o, i with
  | .loc l, .int k => match lstAt st l with
    | some ds => match ixN ds.length k with
      | some j => .ok () (st.set l (.lst (ds.set j d)))
      | none => .stuck
    | none => .stuck
  | _, _ => .stuck
def gSubD (fo fi : En → M D) : D → En → M En := fun d ρ => do
  let o ← fo ρ; let i ← fi ρ; opSet o i d; pure ρ
section
variable {X : Cx} {ca : Nat → Addr} {E : XK} {pos : Pos} {e o i : Expr} {es : List Expr}
theorem dg_var {j : Nat} {x : Str} (hN : X.N.Nodup) (hi : X.N[j]? = some x := by rfl) (hx : Loc X.env.scope x := by first | exact .inl rfl | exact .inr rfl) (hf : X.fn x = true ∨ X.env.scope.names.lookup x = some .local := by first | exact .inl rfl | exact .inr rfl) : DG ca E X (.Name x pos) (gVar j) :=
  ⟨_, pg_name hN hi hx hf, fun v σ H Q d ρ st μ rv re s h => h μ H _ .refl s (re.set j rv)⟩
theorem dgs_nil : DGs ca E X [] gNilD := by
  refine ⟨_, pgs_nil, fun vs σ H Q ds ρ st μ rv re s h => ?_⟩
  cases ds with
  | nil => exact ⟨repL_nil.mp rv, h μ H σ .refl s re⟩
  | cons d r => exact elimP h
theorem dgs_cons {g : D → En → M En} {h : List D → En → M En} (h1 : DG ca E X e g) (h2 : DGs ca E X es h)
    (hs : (assignEach (e :: es) X.env).map (·.2) = assign e X.env :: (assignEach es X.env).map (·.2) := by rfl) : DGs ca E X (e :: es) (gConsD g h) := by
  obtain ⟨t, p, gg⟩ := h1.ex
  obtain ⟨u, q, gs⟩ := h2.ex
  refine ⟨_, pgs_cons p q hs, fun vs σ H Q ds ρ st μ rv re s hh => ?_⟩
  cases ds with
  | nil => exact elimP hh
  | cons d r =>
    obtain ⟨v, w, rfl, r1, r2⟩ := repL_cons.mp rv
    refine ⟨v, w, rfl, gg.bind r1 re s hh fun ρ1 st1 μ1 H1 σ1 e1 s1 re1 h1 => ?_⟩
    exact gs w σ1 H1 Q r ρ1 st1 μ1 (r2.mono e1) re1 s1 (h1.imp fun _ _ z => z.mono e1)
theorem dg_tup {k n : Nat} {g : List D → En → M En} (hc : X.calm = true) (h : DGs ca E X es g) (hn : (assignEach es X.env).length = n := by rfl) (hst : (assignEach es X.env).findIdx? (·.1) = none := by rfl) : DG ca E X (.Tuple es k pos) (gTupD n g) := by
  obtain ⟨t, p, gs⟩ := h.ex
  refine ⟨_, pg_tup hc p hn hst, fun v σ H Q d ρ st μ rv re s hh => ?_⟩
  unfold gTupD at hh
  cases d <;> first | exact elimP hh | skip
  rename_i ds
  simp only at hh
  split at hh
  · rename_i hl
    obtain ⟨a, vs, rfl, h1, h2⟩ := rep_tup.mp rv
    exact ⟨a, vs, rfl, h1.sq, by rw [h2.length]; exact hl, gs vs σ H Q ds ρ st μ h2 re s hh⟩
  · exact elimP hh
theorem dg_sub {fo fi : En → M D} (ho : DE ca E X o fo) (hi : DE ca E X i fi)
    (ha : ∀ v, assign (.Subscript o i pos) X.env v = (do
      let ov ← holding [v] (eval o X.env)
      let iv ← holding [v, ov] (eval i X.env)
      standAt pos
      holding [v, ov, iv] (setItem ov iv v)
      release [v, ov, iv] []) := by intro _; rfl) : DG ca E X (.Subscript o i pos) (gSubD fo fi) := by
  obtain ⟨to, po, go⟩ := ho.ex
  obtain ⟨ti, pi', gi⟩ := hi.ex
  refine ⟨_, pg_sub po pi' set_list ha, fun v σ H Q d ρ st μ rv re s h => ?_⟩
  refine go.bind re s h fun o st1 μ1 H1 x e1 s1 r1 re1 h1 => ?_
  refine gi.bind re1 s1 h1 fun j st2 μ2 H2 y e2 s2 r2 re2 h2 => ?_
  rw [Post.bind] at h2
  unfold opSet at h2
  split at h2
  · rename_i l k
    split at h2
    · rename_i ds hd
      split at h2
      · rename_i jj hj
        obtain ⟨a, vs, rfl, g1, g2, g3, g4⟩ := lst_of s2 hd (r1.mono e2)
        refine ⟨a, vs, k, jj, rfl, rep_int.mp r2, g3, by rw [g4.length]; exact hj, ?_⟩
        obtain ⟨s3, e3⟩ := set_lst s2 g1 g2 g3 (g4.set jj (rv.mono (e1.trans e2)))
        exact (h2 : KE X.K ca μ H Q ρ _) μ2 _ σ ((e1.trans e2).trans e3) s3 (re2.mono e3)
      · exact elimP h2
    · exact elimP h2
  · exact elimP h2
end

/-! ### statements -/
def sNx : En → M Ctl := fun ρ => pure (.nx ρ)
def sBk : En → M Ctl := fun ρ => pure (.bk ρ)
def sCt : En → M Ctl := fun ρ => pure (.ct ρ)
def sSeq (f g : En → M Ctl) : En → M Ctl := fun ρ => do
  match ← f ρ with
  | .nx ρ1 => g ρ1
  | c => pure c
def sAsg (f : En → M D) (g : D → En → M En) : En → M Ctl := fun ρ => do let d ← f ρ; let ρ1 ← g d ρ; pure (.nx ρ1)
def sEx (f : En → M D) : En → M Ctl := fun ρ => do let _ ← f ρ; pure (.nx ρ)
def sRet (f : En → M D) : En → M Ctl := fun ρ => do let d ← f ρ; pure (.rt d)
def sRetN : En → M Ctl := fun _ => pure (.rt .non)
def sIf (t : En → M Bool) (f g : En → M Ctl) : En → M Ctl := fun ρ => do if ← t ρ then f ρ else g ρ
def sNever : En → M Ctl := fun _ => stuck
section
variable {X : Cx} {ca : Nat → Addr} {E : XK} {pos : Pos} {e : Expr} {st1 : Stmt} {rest : List Stmt} {f g : En → M Ctl} {fe : En → M D} {ft : En → M Bool}
theorem dss_nil : DSs ca E X [] sNx := ⟨_, pss_nil, fun σ H Q ρ st μ re s h => (h : KC X.K ca μ H Q (.nx ρ) st) μ H .refl s σ re⟩
theorem dss_cons (h1 : DS ca E X st1 f) (h2 : DSs ca E X rest g) : DSs ca E X (st1 :: rest) (sSeq f g) := by
  obtain ⟨t, p, gt⟩ := h1.ex
  obtain ⟨u, q, gu⟩ := h2.ex
  refine ⟨_, pss_cons p q, fun σ H Q ρ st μ re s h => ?_⟩
  refine gt.bind re s h fun c st1 μ1 H1 e1 s1 k1 => ?_
  intro μ2 H2 e2 s2
  have k2 := k1.mono e2 fun _ _ z => z
  cases c with
  | nx ρ1 => exact fun σ1 re1 => gu σ1 H2 Q ρ1 st1 μ2 re1 s2 (Post.imp k2 fun _ _ z => z.mono (e1.trans e2))
  | rt d => exact fun v rv => (k2 : KC X.K ca μ H Q (.rt d) st1) μ2 H2 (e1.trans e2) s2 v rv
  | bk ρ1 => exact fun σ1 re1 => (k2 : KC X.K ca μ H Q (.bk ρ1) st1) μ2 H2 (e1.trans e2) s2 σ1 re1
  | ct ρ1 => exact fun σ1 re1 => (k2 : KC X.K ca μ H Q (.ct ρ1) st1) μ2 H2 (e1.trans e2) s2 σ1 re1
theorem dss_one (h1 : DS ca E X st1 f) : DSs ca E X [st1] f := let ⟨t, p, gt⟩ := h1.ex; ⟨t, pss_one p, gt⟩
theorem ds_pass : DS ca E X (.Pass pos) sNx := ⟨_, ps_pass, fun σ H Q ρ st μ re s h => (h : KC X.K ca μ H Q (.nx ρ) st) μ H .refl s σ re⟩
theorem ds_break : DS ca E X (.Break pos) sBk := ⟨_, ps_break, fun σ H Q ρ st μ re s h => (h : KC X.K ca μ H Q (.bk ρ) st) μ H .refl s σ re⟩
theorem ds_cont : DS ca E X (.Continue pos) sCt := ⟨_, ps_continue, fun σ H Q ρ st μ re s h => (h : KC X.K ca μ H Q (.ct ρ) st) μ H .refl s σ re⟩
theorem ds_doc {x : Str} {j : Nat} {pos' : Pos} : DS ca E X (.Expr (.Constant (.str x) j pos) pos') sNx := ⟨_, ps_doc, fun σ H Q ρ st μ re s h => (h : KC X.K ca μ H Q (.nx ρ) st) μ H .refl s σ re⟩
theorem ds_never : DS ca E X st1 sNever := ⟨_, ps_never, fun σ H Q ρ st μ re s h => h.elim⟩
theorem ds_ret (h : DE ca E X e fe) : DS ca E X (.Return (some e) pos) (sRet fe) := by
  obtain ⟨t, p, ge⟩ := h.ex
  refine ⟨_, ps_ret p, fun σ H Q ρ st μ re s h => ?_⟩
  refine ge.bind re s h fun d st1 μ1 H1 x e1 s1 r1 re1 h1 => ?_
  exact (h1 : KC X.K ca μ H Q (.rt d) st1) μ1 H1 e1 s1 x r1
theorem ds_retN : DS ca E X (.Return none pos) sRetN := ⟨_, ps_retN, fun σ H Q ρ st μ re s h => (h : KC X.K ca μ H Q (.rt .non) st) μ H .refl s _ (rep_non.mpr rfl)⟩
theorem ds_expr (h : DE ca E X e fe) (hs : swapsWith e none pos.line X.env = pure false := by rfl) : DS ca E X (.Expr e pos) (sEx fe) := by
  obtain ⟨t, p, ge⟩ := h.ex
  refine ⟨_, ps_expr p hs, fun σ H Q ρ st μ re s h => ?_⟩
  refine ge.bind re s h fun d st1 μ1 H1 x e1 s1 r1 re1 h1 => ?_
  exact (h1 : KC X.K ca μ H Q (.nx ρ) st1) μ1 H1 e1 s1 σ re1
theorem ds_if {c : Expr} {a b : List Stmt} (hc : DT ca E X c ft) (ha : DSs ca E X a f) (hb : DSs ca E X b g) : DS ca E X (.If c a b pos) (sIf ft f g) := by
  obtain ⟨tc, pc, gc⟩ := hc.ex
  obtain ⟨ta, pa, ga⟩ := ha.ex
  obtain ⟨tb, pb, gb⟩ := hb.ex
  refine ⟨_, ps_if pc pa pb, fun σ H Q ρ st μ re s h => ?_⟩
  refine gc.bind re s h fun k st1 μ1 H1 e1 s1 re1 h1 => ?_
  cases k with
  | true => exact iteT (ga σ H1 Q ρ st1 μ1 re1 s1 (Post.imp h1 fun a st z => z.mono e1))
  | false => exact iteF (gb σ H1 Q ρ st1 μ1 re1 s1 (Post.imp h1 fun a st z => z.mono e1))
theorem ds_asg {tg : Expr} {gd : D → En → M En} (he : DE ca E X e fe) (hg : DG ca E X tg gd) (hs : swapsWithSole [tg] e pos.line X.env = pure false := by rfl) (hw : swappedStores [tg] e X.env = pure none := by rfl)
    (h1 : (assignEach [tg] X.env).map (·.2) = [assign tg X.env] := by rfl) : DS ca E X (.Assign [tg] e pos) (sAsg fe gd) := by
  obtain ⟨t, p, ge⟩ := he.ex
  obtain ⟨u, q, gg⟩ := hg.ex
  refine ⟨_, ps_asg p q hs hw h1, fun σ H Q ρ st μ re s h => ?_⟩
  refine ge.bind re s h fun d st1 μ1 H1 x e1 s1 r1 re1 h1 => ?_
  refine gg.bind r1 re1 s1 h1 fun ρ2 st2 μ2 H2 σ2 e2 s2 re2 h2 => ?_
  exact (h2 : KC X.K ca μ H Q (.nx ρ2) st2) μ2 H2 (e1.trans e2) s2 σ2 re2
theorem ds_set {i : Nat} {x : Str} {pos' : Pos} (hN : X.N.Nodup) (he : DE ca E X e fe) (hi : X.N[i]? = some x := by rfl) (hx : Loc X.env.scope x := by first | exact .inl rfl | exact .inr rfl)
    (hs : swapsWith e (some (.Name x pos')) pos.line X.env = pure false := by rfl) (hf : X.fn x = true ∨ X.env.scope.names.lookup x = some .local := by first | exact .inl rfl | exact .inr rfl) : DS ca E X (.Assign [.Name x pos'] e pos) (sAsg fe (gVar i)) := by
  obtain ⟨t, p, ge⟩ := he.ex
  refine ⟨_, ps_set hN hi hx p hs hf, fun σ H Q ρ st μ re s h => ?_⟩
  refine ge.bind re s h fun d st1 μ1 H1 x e1 s1 r1 re1 h1 => ?_
  exact (h1 : KC X.K ca μ H Q (.nx _) st1) μ1 H1 e1 s1 _ (re1.set i r1)
end

/-! ### walks -/
inductive Item where
  | one (d : D) | two (d e : D)
structure ItD where
  items : List Item
  ok : Sto → Bool := fun _ => true
/-- what an iterator yields stands for the item -/
def Yld (K : PySem.W.Frag) (μ : List Addr) (H : Hp) (x : V) (H' : Hp) : Item → Prop
  | .one d => H' = H ∧ Rep K μ H d x
  | .two d e => ∃ T v w, x = .ref T ∧ H T = none ∧ H' = upd H T (.tup [v, w]) ∧ Rep K μ H d v ∧ Rep K μ H e w
def WalkOK (K : PySem.W.Frag) (ca : Nat → Addr) (J : It) (it : ItD) (μ0 : List Addr) (H0 : Hp) : Prop :=
  ∀ μ H st, Ext K μ0 H0 μ H → Sim K ca μ st H → it.ok st = true → (∀ (i : Nat) d, it.items[i]? = some d → J.go i H ∧ ∀ x H', J.yld i H x H' → Yld K μ H x H' d) ∧ J.stop it.items.length H
theorem WalkOK.mono {K : PySem.W.Frag} {ca : Nat → Addr} {J : It} {it : ItD} {μ μ' : List Addr} {H H' : Hp} (h : WalkOK K ca J it μ H) (e : Ext K μ H μ' H') : WalkOK K ca J it μ' H' := fun μ2 H2 st e2 => h μ2 H2 st (e.trans e2)
structure DI (ca : Nat → Addr) (E : XK) (X : Cx) (tg iter : Expr) (f : En → M ItD) : Prop where
  ex : ∃ wi, PI X tg iter wi ∧ ∀ σ H R ρ st μ, EnvR X.K μ H ρ σ → Sim X.K ca μ st H → Post X.K ca E μ H (f ρ st) (fun it st' => ∀ J μ' H', Ext X.K μ H μ' H' → Sim X.K ca μ' st' H' → WalkOK X.K ca J it μ' H' → R J H') → wi σ H R
/-- a target, by what is yielded; with: the slots beside vs stay -/
structure DGI (ca : Nat → Addr) (E : XK) (vs : List Nat) (X : Cx) (tg : Expr) (g : Item → En → M En) : Prop where
  ex : ∃ t, PG X tg t ∧ ∀ σ H Q it x H1 ρ st μ, Yld X.K μ H x H1 it → EnvR X.K μ H ρ σ → Sim X.K ca μ st H →
    Post X.K ca E μ H (g it ρ st) (fun ρ' st' => ∀ μ' H' σ', Ext X.K μ H μ' H' → Sim X.K ca μ' st' H' → EnvR X.K μ' H' ρ' σ' → wipe σ' vs = wipe σ vs → Q σ' H') → t x σ H1 Q
def itTup (f : En → M D) : En → M ItD := fun ρ => do
  match ← f ρ with
  | .tup ds => pure ⟨ds.map .one, fun _ => true⟩
  | _ => stuck
def itLst (f : En → M D) : En → M ItD := fun ρ => do
  match ← f ρ with
  | .loc i => fun st => match seqAt st i with
    | some ds => .ok ⟨ds.map .one, fun st' => decide (seqAt st' i = some ds)⟩ st
    | none => .stuck
  | _ => stuck
def itStr (f : En → M D) : En → M ItD := fun ρ => do
  match ← f ρ with
  | .str z => pure ⟨z.cps.toList.map fun c => .one (.str ⟨#[c]⟩), fun _ => true⟩
  | _ => stuck
def itRange (f : En → M D) : En → M ItD := fun ρ => do
  match ← f ρ with
  | .int n => if n < 2 ^ 62 ∧ -(2 ^ 62) ≤ n then pure ⟨(List.range n.toNat).map fun (i : Nat) => Item.one (D.int (i : Int)), fun _ => true⟩ else stuck
  | _ => stuck
def gIt (i : Nat) : Item → En → M En := fun it ρ => match it with
  | .one d => pure (ρ.set i (some d))
  | _ => stuck
def gItP (i j : Nat) : Item → En → M En := fun it ρ => match it with
  | .one (.tup [d, e]) => pure ((ρ.set i (some d)).set j (some e))
  | .two d e => pure ((ρ.set i (some d)).set j (some e))
  | _ => stuck
theorem wipe_set {σ : L2.St} {i : Nat} {v : Option V} : ∀ {vs : List Nat}, i ∈ vs → wipe (σ.set i v) vs = wipe σ vs := by
  intro vs
  have comm : ∀ (ws : List Nat) (σ : L2.St) (j : Nat), wipe (σ.set j none) ws = (wipe σ ws).set j none := by
    intro ws
    induction ws with
    | nil => intro σ j; rfl
    | cons w r ih => intro σ j; show (wipe (σ.set j none) r).set w none = ((wipe σ r).set w none).set j none
                     rw [ih]
                     by_cases h : j = w
                     · subst h; rfl
                     · rw [List.set_comm _ _ h]
  have shape : ∀ (ws : List Nat) (σ : L2.St), i ∈ ws → wipe σ ws = wipe (σ.set i none) ws := by
    intro ws
    induction ws with
    | nil => intro σ h; cases h
    | cons w r ih =>
      intro σ h
      show (wipe σ r).set w none = (wipe (σ.set i none) r).set w none
      by_cases hw : i = w
      · subst hw; rw [comm, List.set_set]
      · rw [ih σ (by cases h with | head => exact absurd rfl hw | tail _ h => exact h)]
  intro h
  rw [shape vs (σ.set i v) h, List.set_set, ← shape vs σ h]
section
variable {X : Cx} {ca : Nat → Addr} {E : XK} {pos p : Pos} {e : Expr} {f : En → M D} {tg : Expr} {vs : List Nat}
theorem di_tup (h : DE ca E X e f) : DI ca E X tg e (itTup f) := by
  obtain ⟨t, pe, ge⟩ := h.ex
  refine ⟨_, pi_tup pe, fun σ H R ρ st μ re s h => ?_⟩
  refine ge.bind re s h fun d st1 μ1 H1 x e1 s1 r1 re1 h1 => ?_
  cases d <;> first | exact elimP h1 | skip
  rename_i ds
  obtain ⟨a, xs, rfl, g1, g2⟩ := rep_tup.mp r1
  refine ⟨a, rfl, ⟨xs, g1.sq⟩, (Post.pure.mp h1) (Itt X.K a) μ1 H1 e1 s1 ?_⟩
  intro μ2 H2 st2 e2 s2 _
  have q1 := (e2.tup _ _ g1).sq
  have q2 := g2.mono e2
  refine ⟨fun i it hi => ?_, ⟨xs, q1, by simp [g2.length]⟩⟩
  rw [List.getElem?_map] at hi
  cases hd : ds[i]? with
  | none => rw [hd] at hi; cases hi
  | some d =>
    rw [hd] at hi; cases hi
    obtain ⟨v, k1, k2⟩ := q2.get hd
    refine ⟨⟨xs, v, q1, k1⟩, fun x H3 y => ?_⟩
    have := y.2 xs q1
    rw [k1] at this; cases this
    exact ⟨y.1, k2⟩
theorem di_lst (h : DE ca E X e f) : DI ca E X tg e (itLst f) := by
  obtain ⟨t, pe, ge⟩ := h.ex
  refine ⟨_, pi_list pe, fun σ H R ρ st μ re s h => ?_⟩
  refine ge.bind re s h fun d st1 μ1 H1 x e1 s1 r1 re1 h1 => ?_
  cases d <;> first | exact elimP h1 | skip
  rename_i i
  simp only at h1
  split at h1
  · rename_i ds hd
    obtain ⟨a, xs, rfl, g1, g2⟩ := sq_of s1 hd r1
    refine ⟨a, rfl, ⟨xs, g1⟩, (Post.ok.mp h1) (Itl X.K a) μ1 H1 e1 s1 ?_⟩
    intro μ2 H2 st2 e2 s2 ok2
    obtain ⟨a', ys, ea, q1, q2⟩ := sq_of s2 (of_decide_eq_true ok2) (r1.mono e2)
    cases ea
    refine ⟨fun j it hj => ?_, ⟨ys, q1, by simp [q2.length]⟩⟩
    rw [List.getElem?_map] at hj
    cases hd : ds[j]? with
    | none => rw [hd] at hj; cases hj
    | some d =>
      rw [hd] at hj; cases hj
      obtain ⟨v, k1, k2⟩ := q2.get hd
      refine ⟨⟨ys, v, q1, k1⟩, fun x H3 y => ?_⟩
      have := y.2 ys q1
      rw [k1] at this; cases this
      exact ⟨y.1, k2⟩
  · exact elimP h1
theorem di_range (hg : Gl X "range") (hm : X.mg "range" = none) (h : DE ca E X e f) (hs : starEach [e] X.env = [(false, eval e X.env)] := by rfl) : DI ca E X tg (.Call (.Name "range" p) [e] [] pos) (itRange f) := by
  obtain ⟨t, pe, ge⟩ := h.ex
  refine ⟨_, pi_range1 hg hm (pa_cons pe pa_nil hs) hs, fun σ H R ρ st μ re s h => ?_⟩
  refine ge.bind re s h fun d st1 μ1 H1 x e1 s1 r1 re1 h1 => ?_
  cases d <;> first | exact elimP h1 | skip
  rename_i n
  simp only at h1
  split at h1
  · rename_i hn
    refine ⟨n, by rw [rep_int.mp r1], hn.2, hn.1, (Post.pure.mp h1) (Itr 0 n.toNat) μ1 H1 e1 s1 ?_⟩
    intro μ2 H2 st2 e2 s2 _
    refine ⟨fun j it hj => ?_, by show n.toNat ≤ _; rw [List.length_map, List.length_range]; exact Nat.le_refl _⟩
    rw [List.getElem?_map] at hj
    cases hd : (List.range n.toNat)[j]? with
    | none => rw [hd] at hj; cases hj
    | some d =>
      rw [hd] at hj; cases hj
      obtain ⟨hl, rfl⟩ := List.getElem?_eq_some_iff.mp hd
      have hl' : j < n.toNat := by simpa using hl
      refine ⟨hl', fun x H3 y => ⟨y.1, ?_⟩⟩
      rw [rep_int, y.2]
      simp
  · exact elimP h1
theorem dgi_var {j : Nat} {x : Str} (hv : j ∈ vs) (hN : X.N.Nodup) (hi : X.N[j]? = some x := by rfl) (hx : Loc X.env.scope x := by first | exact .inl rfl | exact .inr rfl) (hf : X.fn x = true ∨ X.env.scope.names.lookup x = some .local := by first | exact .inl rfl | exact .inr rfl) : DGI ca E vs X (.Name x pos) (gIt j) := by
  refine ⟨_, pg_name hN hi hx hf, fun σ H Q it x H1 ρ st μ y re s h => ?_⟩
  cases it with
  | one d =>
    obtain ⟨rfl, rv⟩ := y
    exact h μ _ _ .refl s (re.set j rv) (wipe_set hv)
  | two d e => exact elimP h
theorem dgi_pair {j l k : Nat} {x y : Str} {px py : Pos} (hv : j ∈ vs) (hw : l ∈ vs) (hc : X.calm = true) (hN : X.N.Nodup) (hi : X.N[j]? = some x := by rfl) (hx : Loc X.env.scope x := by first | exact .inl rfl | exact .inr rfl) (hf : X.fn x = true ∨ X.env.scope.names.lookup x = some .local := by first | exact .inl rfl | exact .inr rfl)
    (hj : X.N[l]? = some y := by rfl) (hy : Loc X.env.scope y := by first | exact .inl rfl | exact .inr rfl) (hf' : X.fn y = true ∨ X.env.scope.names.lookup y = some .local := by first | exact .inl rfl | exact .inr rfl)
    (hn : (assignEach [.Name x px, .Name y py] X.env).length = 2 := by rfl) (hst : (assignEach [.Name x px, .Name y py] X.env).findIdx? (·.1) = none := by rfl)
    (hs1 : (assignEach [.Name x px, .Name y py] X.env).map (·.2) = assign (.Name x px) X.env :: (assignEach [.Name y py] X.env).map (·.2) := by rfl) (hs2 : (assignEach [.Name y py] X.env).map (·.2) = assign (.Name y py) X.env :: (assignEach [] X.env).map (·.2) := by rfl) :
    DGI ca E vs X (.Tuple [.Name x px, .Name y py] k pos) (gItP j l) := by
  refine ⟨_, pg_tup hc (pgs_cons (pg_name hN hi hx hf) (pgs_cons (pg_name hN hj hy hf') pgs_nil hs2) hs1) hn hst, fun σ H Q it x H1 ρ st μ y re s h => ?_⟩
  unfold gItP at h
  split at h
  · rename_i d e
    obtain ⟨rfl, rv⟩ := y
    obtain ⟨a, us, rfl, h1, h2⟩ := rep_tup.mp rv
    obtain ⟨v, w, rfl, g1, g2⟩ := h2.pair
    refine ⟨a, [v, w], rfl, h1.sq, rfl, v, [w], rfl, w, [], rfl, rfl, ?_⟩
    exact (Post.pure.mp h) μ _ _ .refl s ((re.set j g1).set l g2) (by rw [wipe_set hw, wipe_set hv])
  · rename_i d e
    obtain ⟨T, v, w, rfl, hT, rfl, g1, g2⟩ := y
    have ex : Ext X.K μ H μ (upd H T (.tup [v, w])) := .updM (.inl hT)
    refine ⟨T, [v, w], rfl, SqT.of upd_same, rfl, v, [w], rfl, w, [], rfl, rfl, ?_⟩
    exact (Post.pure.mp h) μ _ _ ex (s.fresh hT) (((re.mono ex).set j (g1.mono ex)).set l (g2.mono ex)) (by rw [wipe_set hw, wipe_set hv])
  · exact elimP h
end
def guardS (ok : Sto → Bool) : M Unit := fun st => if ok st then .ok () st else .stuck
def forL (ok : Sto → Bool) (g : Item → En → M En) (b : En → M Ctl) : List Item → En → M Ctl
  | [], ρ => do guardS ok; pure (.nx ρ)
  | it :: r, ρ => do
    guardS ok
    let ρ1 ← g it ρ
    match ← b ρ1 with
    | .nx ρ2 => forL ok g b r ρ2
    | .ct ρ2 => forL ok g b r ρ2
    | .bk ρ2 => pure (.nx ρ2)
    | .rt d => pure (.rt d)
def sFor (f : En → M ItD) (g : Item → En → M En) (b : En → M Ctl) : En → M Ctl := fun ρ => do
  let it ← f ρ; forL it.ok g b it.items ρ
theorem guardS_post {K : PySem.W.Frag} {ca : Nat → Addr} {E : XK} {μ : List Addr} {H : Hp} {β : Type} {ok : Sto → Bool} {m : Unit → M β} {st : Sto} {k : β → Sto → Prop} (h : Post K ca E μ H ((guardS ok >>= m) st) k) : ok st = true ∧ Post K ca E μ H (m () st) k := by
  rw [Post.bind] at h
  unfold guardS at h
  split at h
  · rename_i q; exact ⟨q, h⟩
  · exact elimP h
section
variable {X : Cx} {ca : Nat → Addr} {E : XK} {pos : Pos} {tg iter : Expr} {body : List Stmt} {f : En → M ItD} {g : Item → En → M En} {b : En → M Ctl} {vs : List Nat}
theorem ds_for (hp : PassesOwn (model X.prog X.w) X.A X.env X.xe) (hc : X.calm = true) (hi : DI ca E X tg iter f) (hg : DGI ca E vs X tg g) (hb : DSs ca E X body b) (hs : ∀ x, foldedSetIterable iter X.env x = pure x := by intro _; rfl) : DS ca E X (.For tg iter body [] pos) (sFor f g b) := by
  obtain ⟨wi, pi, gi⟩ := hi.ex
  obtain ⟨tgt, pg, gg⟩ := hg.ex
  obtain ⟨tb, pb, gb⟩ := hb.ex
  refine ⟨_, ps_for hp hc pi pg pb hs, fun σ H Q ρ st μ re s h => ?_⟩
  refine gi σ H _ ρ st μ re s ((Post.bind.mp h).imp fun it st1 h1 => ?_)
  intro J μ1 H1 e1 s1 wk
  let Pv : Nat → L2.St → Hp → Prop := fun i σ' H' => i ≤ it.items.length ∧ ∃ ρ' st' μ', EnvR X.K μ' H' ρ' σ' ∧ Sim X.K ca μ' st' H' ∧ Ext X.K μ1 H1 μ' H' ∧ Post X.K ca E μ' H' (forL it.ok g b (it.items.drop i) ρ' st') (KC X.K ca μ H Q)
  refine ⟨fun i m σ' H' => m = it.items.length - i ∧ Pv i σ' H', ⟨_, rfl, Nat.zero_le _, ρ, st1, μ1, re.mono e1, s1, .refl, ?_⟩, ?_⟩
  · rw [List.drop_zero]; exact h1.mono e1 fun _ _ z => z
  rintro i m σ' H' ⟨rfl, hle, ρ', st', μ', re', s', e', h'⟩
  by_cases hlt : i < it.items.length
  · right
    rw [List.drop_eq_getElem_cons hlt] at h'
    unfold forL at h'
    obtain ⟨ok', h2⟩ := guardS_post h'
    obtain ⟨w1, _⟩ := wk μ' H' st' e' s' ok'
    obtain ⟨go, yl⟩ := w1 i it.items[i] (by simp [hlt])
    refine ⟨go, fun σ2 H2 => Pv (i + 1) σ2 H2, fun σ2 H2 p2 => ⟨it.items.length - (i + 1), by omega, rfl, p2⟩, fun x H2 y => ?_⟩
    refine gg σ' H' _ it.items[i] x H2 ρ' st' μ' (yl x H2 y) re' s' ((Post.bind.mp h2).imp fun ρ3 st3 h3 => ?_)
    intro μ3 H3 σ3 e3 s3 re3 _
    have h3' := h3.mono e3 fun _ _ z => z
    refine gb σ3 H3 _ ρ3 st3 μ3 re3 s3 ((Post.bind.mp h3').imp fun c st4 h4 => ?_)
    intro μ4 H4 e4 s4
    have h4' := h4.mono e4 fun _ _ z => z
    have eA : Ext X.K μ H μ4 H4 := (e1.trans e').trans (e3.trans e4)
    cases c with
    | nx ρ4 => exact fun σ4 re4 => ⟨hlt, ρ4, st4, μ4, re4, s4, e'.trans (e3.trans e4), h4'⟩
    | ct ρ4 => exact fun σ4 re4 => ⟨hlt, ρ4, st4, μ4, re4, s4, e'.trans (e3.trans e4), h4'⟩
    | bk ρ4 => exact fun σ4 re4 => (h4' : KC X.K ca μ H Q (.nx ρ4) st4) μ4 H4 eA s4 σ4 re4
    | rt d => exact fun v rv => (h4' : KC X.K ca μ H Q (.rt d) st4) μ4 H4 eA s4 v rv
  · left
    have e0 : it.items.drop i = [] := List.drop_eq_nil_of_le (Nat.le_of_not_lt hlt)
    rw [e0] at h'
    unfold forL at h'
    obtain ⟨ok', h2⟩ := guardS_post h'
    obtain ⟨_, w2⟩ := wk μ' H' st' e' s' ok'
    have ei : i = it.items.length := Nat.le_antisymm hle (Nat.le_of_not_lt hlt)
    rw [ei]
    exact ⟨w2, (h2 : KC X.K ca μ H Q (.nx ρ') st') μ' H' (e1.trans e') s' σ' re'⟩
end
end DL

set_option Elab.async false
set_option linter.all false
set_option maxRecDepth 100000
set_option maxHeartbeats 4000000
namespace DL
open PySem L2 PySem.Spec PyProof.Rows

/-! ### enumerate of a tuple -/
theorem enumMade {v : Value} {o : Obj} {G : Heap → Prop} (B : Begins v o G) : Meets (Builtin.«enumerate.__new__» ⟨[.type "enumerate", v], []⟩)
    (fun _ R s => G s.heap ∧ R (.ok (.ret (.ref (s.heap.push o).objs.size)))
      { s with heap := (s.heap.push o).push { cls := .type "enumerate", data := .fields #[.none, .bool false, .ref s.heap.objs.size, rawInt 0, .none, .none] } }) := by
  refine .of_wp fun prog w A R s hh => ?_
  obtain ⟨hp, ge, dr, tk, os⟩ := s
  obtain ⟨g1, hr⟩ := hh
  have hsub := sub_enumerate
  have go : ∀ {A2 : Around} {E2 : Value → Shared → Prop} {Q2 : Value → Shared → Prop}, Q2 (.ref hp.objs.size) ⟨hp.push o, ge, dr, tk, os⟩ → wpAny (model prog w) A2 (pyIter v) Q2 E2 ⟨hp, ge, dr, tk, os⟩ :=
    fun z => B.iter prog w _ _ ⟨hp, ge, dr, tk, os⟩ _ g1 z
  wp_walk using go
  refine wpAny_stack_any fun stk => wpAny_pure ?_
  split
  · rename_i c0 _ _ _ _ _
    cases hc0 : (c0 == Value.type "enumerate") <;> (wp_walk using go) <;> exact ⟨_, rfl, hr⟩
  · wp_walk using go
    exact ⟨_, rfl, hr⟩
section
variable {prog : Program} {w : World} {A : Around} {E : Value → Shared → Prop} {s : Shared}
theorem enumOf {v : Value} {o : Obj} {G : Heap → Prop} {Q : Value → Shared → Prop} (B : Begins v o G) (g1 : G s.heap)
    (fin : ∀ h2, IsEnum h2 (s.heap.objs.size + 1) s.heap.objs.size 0 .none → h2.get? s.heap.objs.size = some o → (∀ b u, s.heap.get? b = some u → h2.get? b = some u) → Q (.ref (s.heap.objs.size + 1)) { s with heap := h2 }) :
    wpAny (model prog w) A (call (.type "enumerate") [v]) Q E s := by
  refine callType_new PySem.F.called_enumerate (by decide) (PySem.F.typeCall_enumerate_1 _) (PySem.F.newCall_enumerate_1 _) (fun ob => PySem.F.args_object_init_2 ob _) PySem.F.entry_enumerate_new (enumMade B) ⟨g1, ?_⟩
  have sz : (s.heap.push o).objs.size = s.heap.objs.size + 1 := Heap.size_push ..
  show _ ∧ _
  rw [sz]
  have he : IsEnum ((s.heap.push o).push { cls := .type "enumerate", data := .fields #[.none, .bool false, .ref s.heap.objs.size, rawInt 0, .none, .none] }) (s.heap.objs.size + 1) s.heap.objs.size 0 .none := by
    have z := Heap.get?_push_size (s.heap.push o) (o := { cls := .type "enumerate", data := .fields #[.none, .bool false, .ref s.heap.objs.size, rawInt 0, .none, .none] }) rfl
    rw [sz] at z
    exact z
  exact ⟨⟨_, he, rfl⟩, fin _ he (Heap.get?_push_of_some _ (Heap.get?_push_size _ B.free)) fun b u hb => Heap.get?_push_of_some _ (Heap.get?_push_of_some _ hb)⟩
end
def IteT (K : PySem.W.Frag) (a : Addr) : It where
  go := fun i H => ∃ xs x, SqT K H a xs ∧ xs[i]? = some x
  yld := fun i H v H' => ∃ T x, v = .ref T ∧ H T = none ∧ H' = upd H T (.tup [.int (i : Nat), x]) ∧ ∀ xs, SqT K H a xs → xs[i]? = some x
  stop := fun i H => ∃ xs, SqT K H a xs ∧ xs.length = i
theorem turn_enumT {P : Program} {w : World} {K : PySem.W.Frag} {elts : List Expr} {kk : Nat} {tpos : Pos} (a e it : Addr) (hai : a ≠ it) (hea : e ≠ a) (hne : e ≠ it) :
    Turn P w K (.Tuple elts kk tpos) (IteT K a) [e, it] e (fun i h => (∃ old, IsEnum h e it ((i : Nat) : Int) old) ∧ h.IsTupleIter it a i) where
  mem := List.mem_cons_self
  obj := fun i h st b hb => by
    obtain ⟨⟨old, he⟩, ⟨o, ho, hc, hd⟩⟩ := st
    rcases List.mem_cons.mp hb with z | z
    · subst z; exact ⟨_, he, fun v q => nomatch q⟩
    · obtain rfl := List.mem_singleton.mp z
      exact ⟨o, ho, fun v q => by rw [hd] at q; cases q⟩
  keep := fun i h h' st kp => by
    obtain ⟨⟨old, he⟩, hi⟩ := st
    exact ⟨⟨old, kp e List.mem_cons_self _ he⟩, hi.at fun o q => kp it (List.mem_cons_of_mem _ List.mem_cons_self) o q⟩
  item := by
    intro X hP hw hK hc i pins s σ H E I hf st hg
    subst hP hw hK
    obtain ⟨⟨old, he⟩, hit⟩ := st
    obtain ⟨xs, x, hq, hx⟩ := hg
    obtain ⟨its, rv, pl, hz⟩ := I.tuple hq
    obtain ⟨u, hu, ru⟩ := rv.get hx
    have hel : e < s.heap.objs.size := Heap.lt_size he
    have hil : it < s.heap.objs.size := by obtain ⟨_, q, _⟩ := hit; exact Heap.lt_size q
    have hlt : i < its.toArray.size := by simpa using (List.getElem?_eq_some_iff.mp hu).1
    refine wpAny_pyNext_enum_itemD (Draws.tuple (A := X.A.in1) (I.ok.hd hc) it a hai its.toArray) he ⟨hit, pl⟩ hlt hne (by simp [hne, hea]) fun x2 h2 tk px ho hst hT hsz kp => ?_
    have hxu : x2 = u := by
      have q : its.toArray[i]? = some x2 := px
      rw [List.getElem?_toArray, hu] at q
      exact (Option.some.inj q).symm
    subst hxu
    refine ⟨_, rfl, wpAny_letOwnedTupleGo_enum (s := { s with heap := h2, toks := tk + 1 }) ho fun h3 he3 sb => ?_⟩
    have hT3 : h3.get? s.heap.objs.size = some { cls := .type "tuple", data := .seq #[.int i tk, x2] } := (sb.2 _ (Nat.ne_of_gt hel)).trans hT
    have new : ObjOk X.prog X.w (upd H s.heap.objs.size (.tup [.int (i : Nat), x])) h3 s.heap.objs.size (.tup [.int (i : Nat), x]) := by
      refine ⟨by show 2 ≤ sizeLine; decide, [.int i tk, x2], .cons ⟨_, rfl⟩ (.cons ru .nil), ?_⟩
      exact ⟨_, hT3, rfl, _, rfl⟩
    have I1 := I.turnedNew (t' := tk + 1) (h' := h3) (ch := [e, it]) (fun b ob hb q => by
      have n1 : b ≠ e := fun z => hb (by simp [z])
      have n2 : b ≠ it := fun z => hb (by simp [z])
      exact (sb.2 b n1).trans (kp b ob n1 n2 q)) hf (Nat.le_refl _) new
    refine ⟨.ref s.heap.objs.size, _, I1, rfl, ⟨_, x, rfl, I.hok.fresh (Nat.le_refl _), rfl, fun ys hy => by rw [I.tuple_inj hy hq]; exact hx⟩, ⟨⟨x2, ?_⟩, hst.1.at fun o q => (sb.2 it (Ne.symm hne)).trans q⟩, fun b hb => ?_⟩
    · rw [show ((i + 1 : Nat) : Int) = (i : Int) + 1 from rfl]
      exact he3
    · have hb' : b < s.heap.objs.size := by
        rcases List.mem_cons.mp hb with z | z
        · rw [z]; exact hel
        · rw [List.mem_singleton.mp z]; exact hil
      rw [upd_ne (Nat.ne_of_lt hb')]
      exact (hf b hb).1
  done := by
    intro X hP hw hK hc i pins s σ H E I hf st hg
    subst hP hw hK
    obtain ⟨⟨old, he⟩, hit⟩ := st
    obtain ⟨xs, hq, hx⟩ := hg
    obtain ⟨its, rv, pl, hz⟩ := I.tuple hq
    have hl : its.toArray.size = i := by rw [List.size_toArray, ← rv.length]; exact hx
    obtain ⟨f0, f1, f2, f3, f4, f5⟩ := hf it (List.mem_cons_of_mem _ List.mem_cons_self)
    refine wpAny_pyNext_enum_endD (Draws.tuple (A := X.A.in1) (I.ok.hd hc) it a hai its.toArray) he (by rw [hl]; exact ⟨hit, pl⟩) fun h2 eb => ⟨rfl, ?_⟩
    exact I.turned (t' := s.toks) (fun b o hb q => eb b o hb q) f0 f1 f3 f4 f5
  self := fun A i s Q E st hq => by
    obtain ⟨⟨_, he⟩, _⟩ := st
    exact wpAny_pyIter_enum he hq
def iEnumT (K : PySem.W.Frag) (te : TE) : TI := fun σ H R => tCons te tNil σ H fun vs H1 => ∃ a xs, vs = [.ref a] ∧ SqT K H1 a xs ∧ R (IteT K a) H1
theorem pi_enumT {X : Cx} {e : Expr} {te : TE} {p pos tpos : Pos} {elts : List Expr} {kk : Nat} (hg : Gl X "enumerate") (hm : X.mg "enumerate" = none) (he : PE X e te) (hs : starEach [e] X.env = [(false, eval e X.env)]) :
    PI X (.Tuple elts kk tpos) (.Call (.Name "enumerate" p) [e] [] pos) (iEnumT X.K te) := by
  refine ⟨fun pins s σ H R I h => Call_ (ld_blt I hg hm boot_enumerate (PyProof.Rows.callWith_type1 (thn ((pa_cons he pa_nil hs).run pos pins s σ H _ I h) ?_) hs rfl))⟩
  rintro us s1 ⟨vs, H1, I1, r1, a, xs, rfl, hq, q⟩
  cases r1 with
  | cons r rr =>
    cases rr
    cases r
    obtain ⟨its, rv, pl, hz⟩ := I1.tuple hq
    have hal : a < s1.heap.objs.size := by obtain ⟨o, ho, _⟩ := pl; exact Heap.lt_size ho
    refine enumOf (begins_tuple a its.toArray) pl fun h2 he2 hit kp => wpAny_pyIter_enum he2 ?_
    refine ⟨s1.heap.objs.size + 1, [s1.heap.objs.size + 1, s1.heap.objs.size], _, _, H1, rfl, I1.kept (t' := s1.toks) kp, turn_enumT a (s1.heap.objs.size + 1) s1.heap.objs.size (Nat.ne_of_lt hal) (Nat.ne_of_gt (Nat.lt_succ_of_lt hal)) (Nat.succ_ne_self _), ⟨⟨.none, he2⟩, ⟨_, hit, rfl, rfl⟩⟩, fun b hb => ?_, q⟩
    have hle : s1.heap.objs.size ≤ b := by
      rcases List.mem_cons.mp hb with z | z
      · rw [z]; exact Nat.le_succ _
      · rw [List.mem_singleton.mp z]; exact Nat.le_refl _
    exact I1.fpOk hle (I1.hok.fresh hle)
def enumD (n : Nat) : List D → List Item
  | [] => []
  | d :: r => .two (.int (n : Int)) d :: enumD (n + 1) r
theorem enumD_get : ∀ {ds : List D} {n i : Nat} {it : Item}, (enumD n ds)[i]? = some it → ∃ d, ds[i]? = some d ∧ it = .two (.int ((n + i : Nat) : Int)) d
  | [], n, i, it, h => by simp [enumD] at h
  | d :: r, n, 0, it, h => by simp [enumD] at h; exact ⟨d, rfl, by rw [← h]; rfl⟩
  | d :: r, n, i + 1, it, h => by
    simp only [enumD, List.getElem?_cons_succ] at h
    obtain ⟨x, h1, h2⟩ := enumD_get h
    exact ⟨x, by simpa using h1, by rw [h2, show n + 1 + i = n + (i + 1) by omega]⟩
theorem enumD_length : ∀ (ds : List D) (n : Nat), (enumD n ds).length = ds.length
  | [], _ => rfl
  | _ :: r, n => by simp [enumD, enumD_length r]
def itEnumT (f : En → M D) : En → M ItD := fun ρ => do
  match ← f ρ with
  | .tup ds => pure ⟨enumD 0 ds, fun _ => true⟩
  | _ => stuck
section
variable {X : Cx} {ca : Nat → Addr} {E : XK} {pos p tpos : Pos} {e : Expr} {f : En → M D} {elts : List Expr} {kk : Nat} {tg : Expr}
theorem di_enumT (hg : Gl X "enumerate") (hm : X.mg "enumerate" = none) (h : DE ca E X e f) (hs : starEach [e] X.env = [(false, eval e X.env)] := by rfl) : DI ca E X (.Tuple elts kk tpos) (.Call (.Name "enumerate" p) [e] [] pos) (itEnumT f) := by
  obtain ⟨t, pe, ge⟩ := h.ex
  refine ⟨_, pi_enumT hg hm pe hs, fun σ H R ρ st μ re s h => ?_⟩
  refine ge.bind re s h fun d st1 μ1 H1 x e1 s1 r1 re1 h1 => ?_
  cases d <;> first | exact elimP h1 | skip
  rename_i ds
  obtain ⟨a, xs, rfl, g1, g2⟩ := rep_tup.mp r1
  refine ⟨a, xs, rfl, g1.sq, (Post.pure.mp h1) (IteT X.K a) μ1 H1 e1 s1 ?_⟩
  intro μ2 H2 st2 e2 s2 _
  have q1 := (e2.tup _ _ g1).sq
  have q2 := g2.mono e2
  refine ⟨fun i it hi => ?_, ⟨xs, q1, by rw [enumD_length, g2.length]⟩⟩
  obtain ⟨d, hd, rfl⟩ := enumD_get hi
  obtain ⟨v, k1, k2⟩ := q2.get hd
  refine ⟨⟨xs, v, q1, k1⟩, fun x H3 y => ?_⟩
  obtain ⟨T, z, rfl, hT, rfl, hz⟩ := y
  have := hz xs q1
  rw [k1] at this; cases this
  exact ⟨T, _, v, rfl, hT, rfl, by rw [rep_int, Nat.zero_add], k2⟩
theorem di_str (h : DE ca E X e f) : DI ca E X tg e (itStr f) := by
  obtain ⟨t, pe, ge⟩ := h.ex
  refine ⟨_, pi_str pe, fun σ H R ρ st μ re s h => ?_⟩
  refine ge.bind re s h fun d st1 μ1 H1 x e1 s1 r1 re1 h1 => ?_
  cases d <;> first | exact elimP h1 | skip
  rename_i z
  refine ⟨z, rep_str.mp r1, (Post.pure.mp h1) (Its z) μ1 H1 e1 s1 ?_⟩
  intro μ2 H2 st2 e2 s2 _
  refine ⟨fun i it hi => ?_, by show z.cps.size ≤ _; simp⟩
  rw [List.getElem?_map] at hi
  cases hd : z.cps.toList[i]? with
  | none => rw [hd] at hi; cases hi
  | some c =>
    rw [hd] at hi; cases hi
    have hc : z.cps[i]? = some c := by simpa using hd
    refine ⟨(Array.getElem?_eq_some_iff.mp hc).1, fun x H3 y => ?_⟩
    obtain ⟨rfl, c', k1, rfl⟩ := y
    rw [hc] at k1; cases k1
    exact ⟨rfl, rep_str.mpr rfl⟩
end

/-! ### list comprehensions -/
def nr {α : Type} (m : M α) : M α := fun st => match m st with
  | .raise _ _ _ => .stuck
  | r => r
theorem nr_post {K : PySem.W.Frag} {ca : Nat → Addr} {E : XK} {μ : List Addr} {H : Hp} {α : Type} {m : M α} {st : Sto} {k : α → Sto → Prop} (h : Post K ca E μ H (nr m st) k) : Post K ca E0 μ H (m st) k := by
  unfold nr at h
  cases q : m st with
  | ok a st' => rw [q] at h; exact h
  | raise c fs st' => rw [q] at h; exact h.elim
  | stuck => rw [q] at h; exact h.elim
def wipeD (ρ : En) : List Nat → En
  | [] => ρ
  | v :: vs => (wipeD ρ vs).set v none
theorem wipe_env {K : PySem.W.Frag} {μ : List Addr} {H : Hp} {ρ : En} {σ : L2.St} (h : EnvR K μ H ρ σ) : ∀ vs : List Nat, EnvR K μ H (wipeD ρ vs) (wipe σ vs)
  | [] => h
  | v :: vs => by
    have ih := wipe_env h vs
    refine ⟨by show ((wipeD ρ vs).set v none).length = ((wipe σ vs).set v none).length; simp [ih.1], fun i d q => ?_⟩
    have q' : ((wipeD ρ vs).set v none)[i]? = some (some d) := q
    by_cases hi : v = i
    · subst hi
      by_cases hl : v < (wipeD ρ vs).length
      · rw [List.getElem?_set_self hl] at q'; cases q'
      · rw [List.getElem?_eq_none (by simpa using hl)] at q'; cases q'
    · rw [List.getElem?_set_ne hi] at q'
      obtain ⟨w, h1, h2⟩ := ih.2 i d q'
      exact ⟨w, by show ((wipe σ vs).set v none)[i]? = _; rw [List.getElem?_set_ne hi]; exact h1, h2⟩
def putL (L : Nat) (y : D) : M Unit := fun st => match lstAt st L with
  | some ds => if ds.length < sizeLine then .ok () (st.set L (.lst (ds ++ [y]))) else .stuck
  | none => .stuck
def lcL (ok : Sto → Bool) (g : Item → En → M En) (tt : En → M Bool) (te : En → M D) (L : Nat) (ρw : En) : List Item → M Unit
  | [] => guardS ok
  | it :: r => do
    guardS ok
    let ρ1 ← nr (g it ρw)
    let b ← nr (tt ρ1)
    if b then do let y ← nr (te ρ1); putL L y; lcL ok g tt te L ρw r else lcL ok g tt te L ρw r
def eLc (vs : List Nat) (f : En → M ItD) (g : Item → En → M En) (tt : En → M Bool) (te : En → M D) : En → M D := fun ρ => do
  let it ← f ρ
  fun st => (lcL it.ok g tt te st.length (wipeD ρ vs) it.items >>= fun _ => pure (.loc st.length)) (st ++ [.lst []])
structure DTs (ca : Nat → Addr) (E : XK) (X : Cx) (ifs : List Expr) (f : En → M Bool) : Prop where
  ex : ∃ t, PTs X ifs t ∧ GT X.K ca E t f
def tYesD : En → M Bool := fun _ => pure true
section
variable {X : Cx} {ca : Nat → Addr} {E : XK} {pos : Pos} {tg iter elt c : Expr} {ifs : List Expr} {f : En → M ItD} {g : Item → En → M En} {tt : En → M Bool} {te : En → M D} {vs : List Nat}
theorem dts_nil : DTs ca E X [] tYesD := ⟨_, pts_nil, fun σ H Q ρ st μ re s h => h μ H .refl s⟩
theorem dts_one (h : DT ca E X c tt) : DTs ca E X [c] tt := let ⟨t, p, q⟩ := h.ex; ⟨t, pts_one p, q⟩
theorem ge_lc {K : PySem.W.Frag} {wi : TI} {tgt : TG} {ttt : TT} {tte : TE} {σ : L2.St} {H : Hp} {Q : VK} {ρ : En} {st : Sto} {μ : List Addr}
    (gi : ∀ σ H R ρ st μ, EnvR K μ H ρ σ → Sim K ca μ st H → Post K ca E μ H (f ρ st) (fun it st' => ∀ J μ' H', Ext K μ H μ' H' → Sim K ca μ' st' H' → WalkOK K ca J it μ' H' → R J H') → wi σ H R)
    (gg : ∀ σ H Q it x H1 ρ st μ, Yld K μ H x H1 it → EnvR K μ H ρ σ → Sim K ca μ st H → Post K ca E0 μ H (g it ρ st) (fun ρ' st' => ∀ μ' H' σ', Ext K μ H μ' H' → Sim K ca μ' st' H' → EnvR K μ' H' ρ' σ' → wipe σ' vs = wipe σ vs → Q σ' H') → tgt x σ H1 Q)
    (gt : GT K ca E0 ttt tt) (ge : GE K ca E0 tte te) (re : EnvR K μ H ρ σ) (s : Sim K ca μ st H) (h : Post K ca E μ H (eLc vs f g tt te ρ st) (KV K ca μ H Q)) : tLc wi tgt ttt tte vs σ H Q := by
  refine gi σ H _ ρ st μ re s ((Post.bind.mp h).imp fun it st1 h1 => ?_)
  intro J μ1 H1 e1 s1 wk L hL
  have h1' := Post.bind.mp h1
  have hloc : (μ1 ++ [L])[st1.length]? = some L := by rw [← s1.len, List.getElem?_append_right (Nat.le_refl _), Nat.sub_self]; rfl
  have s0 : Sim K ca (μ1 ++ [L]) (st1 ++ [.lst []]) (upd H1 L (.lst [])) := s1.push hL ⟨[], upd_same, repL_nil.mpr rfl⟩
  have e0 : Ext K μ1 H1 (μ1 ++ [L]) (upd H1 L (.lst [])) := .push hL
  let Pv : Nat → Hp → Prop := fun i H' => i ≤ it.items.length ∧ ∃ st' μ', EnvR K μ' H' (wipeD ρ vs) (wipe σ vs) ∧ Sim K ca μ' st' H' ∧ Ext K (μ1 ++ [L]) (upd H1 L (.lst [])) μ' H' ∧
    Post K ca E μ' H' (lcL it.ok g tt te st1.length (wipeD ρ vs) (it.items.drop i) st') (fun _ st2 => KV K ca μ H Q (.loc st1.length) st2)
  refine ⟨fun i m H' => m = it.items.length - i ∧ Pv i H', ⟨_, rfl, Nat.zero_le _, st1 ++ [.lst []], μ1 ++ [L], wipe_env (re.mono (e1.trans e0)) vs, s0, .refl, ?_⟩, ?_⟩
  · rw [List.drop_zero]; exact h1'.mono (e1.trans e0) fun _ _ z => z
  rintro i m H' ⟨rfl, hle, st', μ', re', s', e', h'⟩
  have eB : Ext K μ1 H1 μ' H' := e0.trans e'
  by_cases hlt : i < it.items.length
  · right
    rw [List.drop_eq_getElem_cons hlt] at h'
    unfold lcL at h'
    obtain ⟨ok', h2⟩ := guardS_post h'
    obtain ⟨w1, _⟩ := wk μ' H' st' eB s' ok'
    obtain ⟨go, yl⟩ := w1 i it.items[i] (by simp [hlt])
    refine ⟨go, fun H2 => Pv (i + 1) H2, fun H2 p2 => ⟨it.items.length - (i + 1), by omega, rfl, p2⟩, fun x H2 y => ?_⟩
    refine gg (wipe σ vs) H' _ it.items[i] x H2 (wipeD ρ vs) st' μ' (yl x H2 y) re' s' ((nr_post (Post.bind.mp h2)).imp fun ρ3 st3 h3 => ?_)
    intro μ3 H3 σ3 e3 s3 re3 hw
    have ww : ∀ us : List Nat, wipe (wipe σ us) us = wipe σ us := by
      intro us
      have key : ∀ (us : List Nat) (τ : L2.St), (∀ v ∈ us, τ[v]? = some none ∨ τ[v]? = none) → wipe τ us = τ := by
        intro us
        induction us with
        | nil => intro τ _; rfl
        | cons v r ih =>
          intro τ ht
          show (wipe τ r).set v none = τ
          rw [ih τ fun v' hv' => ht v' (List.mem_cons_of_mem _ hv')]
          rcases ht v List.mem_cons_self with z | z
          · obtain ⟨hl, ev⟩ := List.getElem?_eq_some_iff.mp z
            apply List.ext_getElem?
            intro j
            by_cases hj : v = j
            · subst hj; rw [List.getElem?_set_self hl, z]
            · rw [List.getElem?_set_ne hj]
          · rw [List.set_eq_of_length_le (List.getElem?_eq_none_iff.mp z)]
      refine key us _ fun v hv => ?_
      have gone : ∀ (us : List Nat) (τ : L2.St), v ∈ us → (wipe τ us)[v]? = some none ∨ (wipe τ us)[v]? = none := by
        intro us
        induction us with
        | nil => intro τ hm; cases hm
        | cons u r ih =>
          intro τ hm
          show ((wipe τ r).set u none)[v]? = some none ∨ ((wipe τ r).set u none)[v]? = none
          by_cases hu : u = v
          · subst hu
            by_cases hl : u < (wipe τ r).length
            · left; rw [List.getElem?_set_self hl]
            · right; rw [List.getElem?_eq_none (by simpa using hl)]
          · rw [List.getElem?_set_ne hu]
            exact ih τ (by cases hm with | head => exact absurd rfl hu | tail _ z => exact z)
      exact gone us σ hv
    refine ⟨by rw [hw, ww], ?_⟩
    have h3' := (Post.bind.mp h3).mono e3 fun _ _ z => z
    refine gt σ3 H3 _ ρ3 st3 μ3 re3 s3 ((nr_post h3').imp fun b st4 h4 => ?_)
    intro μ4 H4 e4 s4
    have e14 : Ext K (μ1 ++ [L]) (upd H1 L (.lst [])) μ4 H4 := e'.trans (e3.trans e4)
    cases b with
    | true =>
      refine iteT ?_
      have h4' := (Post.bind.mp h4).mono (e3.trans e4) fun _ _ z => z
      refine ge σ3 H4 _ ρ3 st4 μ4 (re3.mono e4) s4 ((nr_post h4').imp fun yv st5 h5 => ?_)
      intro μ5 H5 v e5 s5 rv
      have h5' := (Post.bind.mp h5).mono ((e3.trans e4).trans e5) fun _ _ z => z
      unfold putL at h5'
      split at h5'
      · rename_i acc hacc
        split at h5'
        · rename_i hz
          have e15 := e14.trans e5
          obtain ⟨a, ws, ea, g1, g2, g3, g4⟩ := lst_of s5 hacc (rep_loc.mpr ⟨L, e15.pre _ _ hloc, rfl⟩)
          cases ea
          refine ⟨ws, g3, by rw [g4.length]; exact hz, hlt, ?_⟩
          obtain ⟨s6, e6⟩ := set_lst s5 g1 g2 g3 (g4.append (RepL.one rv))
          exact ⟨_, μ5, re'.mono (((e3.trans e4).trans e5).trans e6), s6, e15.trans e6, (Post.ok.mp h5').mono (((e3.trans e4).trans e5).trans e6) fun _ _ z => z⟩
        · exact elimP h5'
      · exact elimP h5'
    | false =>
      refine iteF ⟨hlt, st4, μ4, re'.mono (e3.trans e4), s4, e14, h4.mono (e3.trans e4) fun _ _ z => z⟩
  · left
    have e00 : it.items.drop i = [] := List.drop_eq_nil_of_le (Nat.le_of_not_lt hlt)
    rw [e00] at h'
    unfold lcL at h'
    have h'' : Post K ca E μ' H' ((guardS it.ok >>= fun u => pure u) st') (fun _ st2 => KV K ca μ H Q (.loc st1.length) st2) := by
      rw [Post.bind]; exact h'.imp fun _ _ z => z
    obtain ⟨ok', h2⟩ := guardS_post h''
    obtain ⟨_, w2⟩ := wk μ' H' st' eB s' ok'
    have ei : i = it.items.length := Nat.le_antisymm hle (Nat.le_of_not_lt hlt)
    rw [ei]
    exact ⟨w2, (h2 : KV K ca μ H Q _ _) μ' H' _ (e1.trans eB) s' (rep_loc.mpr ⟨L, e'.pre _ _ hloc, rfl⟩)⟩
theorem fam_g {ι : Type} {K : PySem.W.Frag} {Y : ι → Cx} (hK : ∀ i, (Y i).K = K) (h : ∀ i, DGI ca E0 vs (Y i) tg g) : ∃ t, (∀ i, PG (Y i) tg t) ∧ ∀ σ H Q it x H1 ρ st μ, Yld K μ H x H1 it → EnvR K μ H ρ σ → Sim K ca μ st H →
    Post K ca E0 μ H (g it ρ st) (fun ρ' st' => ∀ μ' H' σ', Ext K μ H μ' H' → Sim K ca μ' st' H' → EnvR K μ' H' ρ' σ' → wipe σ' vs = wipe σ vs → Q σ' H') → t x σ H1 Q := by
  have h' : ∀ i, ∃ t, PG (Y i) tg t ∧ ∀ σ H Q it x H1 ρ st μ, Yld K μ H x H1 it → EnvR K μ H ρ σ → Sim K ca μ st H →
    Post K ca E0 μ H (g it ρ st) (fun ρ' st' => ∀ μ' H' σ', Ext K μ H μ' H' → Sim K ca μ' st' H' → EnvR K μ' H' ρ' σ' → wipe σ' vs = wipe σ vs → Q σ' H') → t x σ H1 Q := fun i => by
    obtain ⟨t, p, q⟩ := (h i).ex
    rw [hK i] at q
    exact ⟨t, p, q⟩
  exact ⟨fun v σ H Q => ∀ i, (h' i).choose v σ H Q, fun i => ⟨fun pins s σ H v u Q I r q => ((h' i).choose_spec).1.run pins s σ H v u Q I r (q i)⟩, fun σ H Q it x H1 ρ st μ y re s p i => ((h' i).choose_spec).2 σ H Q it x H1 ρ st μ y re s p⟩
theorem fam_e {ι : Type} {K : PySem.W.Frag} {Y : ι → Cx} (hK : ∀ i, (Y i).K = K) (h : ∀ i, DE ca E0 (Y i) elt te) : ∃ t, (∀ i, PE (Y i) elt t) ∧ GE K ca E0 t te := by
  have h' : ∀ i, ∃ t, PE (Y i) elt t ∧ GE K ca E0 t te := fun i => by
    obtain ⟨t, p, q⟩ := (h i).ex
    rw [hK i] at q
    exact ⟨t, p, q⟩
  exact ⟨fun σ H Q => ∀ i, (h' i).choose σ H Q, fun i => ⟨fun pins s σ H Q I q => ((h' i).choose_spec).1.run pins s σ H Q I (q i)⟩, fun σ H Q ρ st μ re s p i => ((h' i).choose_spec).2 σ H Q ρ st μ re s p⟩
theorem fam_t {ι : Type} {K : PySem.W.Frag} {Y : ι → Cx} (hK : ∀ i, (Y i).K = K) (h : ∀ i, DTs ca E0 (Y i) ifs tt) : ∃ t, (∀ i, PTs (Y i) ifs t) ∧ GT K ca E0 t tt := by
  have h' : ∀ i, ∃ t, PTs (Y i) ifs t ∧ GT K ca E0 t tt := fun i => by
    obtain ⟨t, p, q⟩ := (h i).ex
    rw [hK i] at q
    exact ⟨t, p, q⟩
  exact ⟨fun σ H Q => ∀ i, (h' i).choose σ H Q, fun i => ⟨fun pins s σ H Q I q => ((h' i).choose_spec).1.run pins s σ H Q I (q i)⟩, fun σ H Q ρ st μ re s p i => ((h' i).choose_spec).2 σ H Q ρ st μ re s p⟩
theorem de_lc {scope : Scope} {own : List (Str × Nat)} (hc : X.calm = true) (hN : X.N.Nodup) (hi : DI ca E X tg iter f) (ok : BlkOk X.N X.env.scope scope own)
    (hg : ∀ (s : Shared) (H : Hp) (C : Addr) (cl : List (Str × Addr)) (fp : List Addr), DGI ca E0 (own.map (·.2)) (X.blk s H scope (compEnvC scope cl C X.env) fp) tg g)
    (ht : ∀ (s : Shared) (H : Hp) (C : Addr) (cl : List (Str × Addr)) (fp : List Addr), DTs ca E0 (X.blk s H scope (compEnvC scope cl C X.env) fp) ifs tt)
    (he : ∀ (s : Shared) (H : Hp) (C : Addr) (cl : List (Str × Addr)) (fp : List Addr), DE ca E0 (X.blk s H scope (compEnvC scope cl C X.env) fp) elt te) (hs : ∀ x, foldedSetIterable iter X.env x = pure x := by intro _; rfl) :
    DE ca E X (.ListComp elt [⟨tg, iter, ifs, 0⟩] scope pos) (eLc (own.map (·.2)) f g tt te) := by
  obtain ⟨wi, pi, gi⟩ := hi.ex
  let Y : Shared × Hp × Addr × List (Str × Addr) × List Addr → Cx := fun z => X.blk z.1 z.2.1 scope (compEnvC scope z.2.2.2.1 z.2.2.1 X.env) z.2.2.2.2
  have hK : ∀ z, (Y z).K = X.K := fun _ => rfl
  obtain ⟨t1, p1, g1⟩ := fam_g (Y := Y) hK fun z => hg z.1 z.2.1 z.2.2.1 z.2.2.2.1 z.2.2.2.2
  obtain ⟨t2, p2, g2⟩ := fam_t (Y := Y) hK fun z => ht z.1 z.2.1 z.2.2.1 z.2.2.2.1 z.2.2.2.2
  obtain ⟨t3, p3, g3⟩ := fam_e (Y := Y) hK fun z => he z.1 z.2.1 z.2.2.1 z.2.2.2.1 z.2.2.2.2
  exact ⟨_, pe_lc hc hN pi ok (fun s H C cl fp => p1 (s, H, C, cl, fp)) (fun s H C cl fp => p2 (s, H, C, cl, fp)) (fun s H C cl fp => p3 (s, H, C, cl, fp)) hs, fun σ H Q ρ st μ re s h => ge_lc gi g1 g2 g3 re s h⟩
theorem ds_setLc {i : Nat} {y : Str} {py spos : Pos} {scope : Scope} {own : List (Str × Nat)} (hc : X.calm = true) (hN : X.N.Nodup) (hi : DI ca E X tg iter f) (ok : BlkOk X.N X.env.scope scope own)
    (hg : ∀ (s : Shared) (H : Hp) (C : Addr) (cl : List (Str × Addr)) (fp : List Addr), DGI ca E0 (own.map (·.2)) (X.blk s H scope (compEnvC scope cl C X.env) fp) tg g)
    (ht : ∀ (s : Shared) (H : Hp) (C : Addr) (cl : List (Str × Addr)) (fp : List Addr), DTs ca E0 (X.blk s H scope (compEnvC scope cl C X.env) fp) ifs tt)
    (he : ∀ (s : Shared) (H : Hp) (C : Addr) (cl : List (Str × Addr)) (fp : List Addr), DE ca E0 (X.blk s H scope (compEnvC scope cl C X.env) fp) elt te)
    (hy : X.N[i]? = some y := by rfl) (hyl : X.env.scope.names.lookup y = some .local := by rfl)
    (hsw : swapsWith (.ListComp elt [⟨tg, iter, ifs, 0⟩] scope pos) (some (.Name y py)) spos.line X.env = pure true := by exact sw_true rfl rfl rfl (by decide +kernel)) (hs : ∀ x, foldedSetIterable iter X.env x = pure x := by intro _; rfl) :
    DS ca E X (.Assign [.Name y py] (.ListComp elt [⟨tg, iter, ifs, 0⟩] scope pos) spos) (sAsg (eLc (own.map (·.2)) f g tt te) (gVar i)) := by
  obtain ⟨wi, pi, gi⟩ := hi.ex
  let Y : Shared × Hp × Addr × List (Str × Addr) × List Addr → Cx := fun z => X.blk z.1 z.2.1 scope (compEnvC scope z.2.2.2.1 z.2.2.1 X.env) z.2.2.2.2
  have hK : ∀ z, (Y z).K = X.K := fun _ => rfl
  obtain ⟨t1, p1, g1⟩ := fam_g (Y := Y) hK fun z => hg z.1 z.2.1 z.2.2.1 z.2.2.2.1 z.2.2.2.2
  obtain ⟨t2, p2, g2⟩ := fam_t (Y := Y) hK fun z => ht z.1 z.2.1 z.2.2.1 z.2.2.2.1 z.2.2.2.2
  obtain ⟨t3, p3, g3⟩ := fam_e (Y := Y) hK fun z => he z.1 z.2.1 z.2.2.1 z.2.2.2.1 z.2.2.2.2
  refine ⟨_, ps_setLc hc hN hy hyl hsw pi ok (fun s H C cl fp => p1 (s, H, C, cl, fp)) (fun s H C cl fp => p2 (s, H, C, cl, fp)) (fun s H C cl fp => p3 (s, H, C, cl, fp)) hs, fun σ H Q ρ st μ re s h => ?_⟩
  refine ge_lc gi g1 g2 g3 re s ((Post.bind.mp h).imp fun d st1 h1 => ?_)
  intro μ1 H1 v e1 s1 r1
  exact (h1 : KC X.K ca μ H Q (.nx _) st1) μ1 H1 e1 s1 _ ((re.mono e1).set i r1)
end

/-! ### while -/
def whL (t : En → M Bool) (b : En → M Ctl) : Nat → En → M Ctl
  | 0, _ => stuck
  | n + 1, ρ => do
    if ← t ρ then do
      match ← b ρ with
      | .nx ρ2 => whL t b n ρ2
      | .ct ρ2 => whL t b n ρ2
      | .bk ρ2 => pure (.nx ρ2)
      | .rt d => pure (.rt d)
    else pure (.nx ρ)
section
variable {X : Cx} {ca : Nat → Addr} {E : XK} {pos : Pos} {c : Expr} {body : List Stmt} {t : En → M Bool} {b : En → M Ctl}
theorem ds_while (fuel : Nat) (hp : PassesOwn (model X.prog X.w) X.A X.env X.xe) (hc : DT ca E X c t) (hb : DSs ca E X body b) : DS ca E X (.While c body [] pos) (whL t b fuel) := by
  obtain ⟨tc, pc, gc⟩ := hc.ex
  obtain ⟨tb, pb, gb⟩ := hb.ex
  refine ⟨_, ps_while hp pc pb, fun σ H Q ρ st μ re s h => ?_⟩
  refine ⟨fun m σ' H' => ∃ ρ' st' μ', EnvR X.K μ' H' ρ' σ' ∧ Sim X.K ca μ' st' H' ∧ Ext X.K μ H μ' H' ∧ Post X.K ca E μ' H' (whL t b m ρ' st') (KC X.K ca μ H Q), ⟨fuel, ρ, st, μ, re, s, .refl, h⟩, ?_⟩
  rintro m σ' H' ⟨ρ', st', μ', re', s', e', h'⟩
  cases m with
  | zero => exact h'.elim
  | succ m =>
    unfold whL at h'
    refine gc.bind re' s' h' fun k st1 μ1 H1 e1 s1 re1 h1 => ?_
    cases k with
    | true =>
      refine iteT ⟨_, fun σ2 H2 p2 => ⟨m, Nat.lt_succ_self m, p2⟩, ?_⟩
      refine gb σ' H1 _ ρ' st1 μ1 re1 s1 ((Post.bind.mp h1).imp fun c st4 h4 => ?_)
      intro μ4 H4 e4 s4
      have h4' := h4.mono e4 fun _ _ z => z
      have eA : Ext X.K μ H μ4 H4 := (e'.trans e1).trans e4
      cases c with
      | nx ρ4 => exact fun σ4 re4 => ⟨ρ4, st4, μ4, re4, s4, eA, h4'⟩
      | ct ρ4 => exact fun σ4 re4 => ⟨ρ4, st4, μ4, re4, s4, eA, h4'⟩
      | bk ρ4 => exact fun σ4 re4 => (h4' : KC X.K ca μ H Q (.nx ρ4) st4) μ4 H4 eA s4 σ4 re4
      | rt d => exact fun v rv => (h4' : KC X.K ca μ H Q (.rt d) st4) μ4 H4 eA s4 v rv
    | false => exact iteF ((h1 : KC X.K ca μ H Q (.nx ρ') st1) μ1 H1 (e'.trans e1) s1 σ' re1)
end
end DL

set_option Elab.async false
set_option linter.all false
set_option maxRecDepth 100000
set_option maxHeartbeats 4000000
namespace DL
open PySem L2 PySem.Spec PyProof.Rows
/-- a list, a tuple or a text, whichever it is -/
def itSeq (f : En → M D) : En → M ItD := fun ρ => do
  match ← f ρ with
  | .tup ds => pure ⟨ds.map .one, fun _ => true⟩
  | .str z => pure ⟨z.cps.toList.map fun c => .one (.str ⟨#[c]⟩), fun _ => true⟩
  | .loc i => fun st => match seqAt st i with
    | some ds => .ok ⟨ds.map .one, fun st' => decide (seqAt st' i = some ds)⟩ st
    | none => .stuck
  | _ => stuck
section
variable {X : Cx} {ca : Nat → Addr} {E : XK} {e : Expr} {f : En → M D} {tg : Expr}
theorem di_seq (h : DE ca E X e f) : DI ca E X tg e (itSeq f) := by
  obtain ⟨w1, p1, g1⟩ := (di_tup (tg := tg) h).ex
  obtain ⟨w2, p2, g2⟩ := (di_lst (tg := tg) h).ex
  obtain ⟨w3, p3, g3⟩ := (di_str (tg := tg) h).ex
  refine ⟨fun σ H R => w1 σ H R ∨ w2 σ H R ∨ w3 σ H R, ⟨fun pins s σ H R I hw => ?_⟩, fun σ H R ρ st μ re s hh => ?_⟩
  · rcases hw with hw | hw | hw
    · exact p1.run pins s σ H R I hw
    · exact p2.run pins s σ H R I hw
    · exact p3.run pins s σ H R I hw
  · have hh' := Post.bind.mp hh
    cases q : f ρ st with
    | stuck => rw [q] at hh'; exact hh'.elim
    | raise c fs st' =>
      left
      refine g1 σ H R ρ st μ re s (Post.bind.mpr ?_)
      rw [q] at hh' ⊢
      exact hh'
    | ok d st' =>
      rw [q] at hh'
      cases d with
      | tup ds => exact .inl (g1 σ H R ρ st μ re s (Post.bind.mpr (by rw [q]; exact hh')))
      | loc i => exact .inr (.inl (g2 σ H R ρ st μ re s (Post.bind.mpr (by rw [q]; exact hh'))))
      | str z => exact .inr (.inr (g3 σ H R ρ st μ re s (Post.bind.mpr (by rw [q]; exact hh'))))
      | _ => exact hh'.elim
end
/-- no exception in a block of a comprehension; the body's own wish -/
theorem pass_blk {X : Cx} : Passes (L2.CX X.prog X.w) X E0 := passL
end DL

set_option Elab.async false
set_option linter.all false
set_option maxRecDepth 100000
set_option maxHeartbeats 4000000
namespace DL
open PySem L2 PySem.Spec PyProof.Rows
/-- how many different texts -/
def cntD (pre : List Str) : List Str → Nat
  | [] => 0
  | x :: r => (if x ∈ pre then 0 else 1) + cntD (pre ++ [x]) r
theorem cntD_cons (pre : List Str) (x : Str) (r : List Str) : cntD pre (x :: r) = (if x ∈ pre then 0 else 1) + cntD (pre ++ [x]) r := rfl
theorem cntD_le : ∀ (xs pre : List Str), cntD pre xs ≤ xs.length
  | [], _ => Nat.le_refl _
  | x :: r, pre => by
    have := cntD_le r (pre ++ [x])
    unfold cntD
    split <;> simp only [List.length_cons] <;> omega
section
variable {prog : Program} {w : World} {A : Around} {R : Result → Shared → Prop} {I : Addr} {fp wr : List Addr} {G : Array GenState → Array GenState → Prop} {n : Nat} {P : Nat → Value → Prop} {St : Nat → Shared → Prop}
/-- the texts xs put into the set at Z, one by one -/
theorem fillTexts (W : WalksS prog w A.in1 I fp wr G n P St) (Z : Addr) (hZ : Z ∉ fp) (xs : List Str) (hn : n = xs.length) (hb : xs.length + 1 < scanBound) (hv : ∀ i v, P i v → ∃ z t, xs[i]? = some z ∧ v = .str z t)
    (fin : ∀ s1 s2, Moved (Z :: wr) G s1 s2 → s2.heap.SetOf (strKind prog w) Z (fun k => decide (k ∈ xs)) (cntD [] xs) → Moved (Z :: wr) G s1 s2 → True) :
    ∀ (m i c : Nat) (s : Shared), n - i = m → i ≤ n → St i s → s.heap.SetOf (strKind prog w) Z (fun k => decide (k ∈ xs.take i)) c → c + cntD (xs.take i) (xs.drop i) = cntD [] xs → c ≤ i →
      (∀ s2, Moved (Z :: wr) G s s2 → s2.heap.SetOf (strKind prog w) Z (fun k => decide (k ∈ xs)) (cntD [] xs) → R (.ok (.ret .none)) s2) →
      codeAny (model prog w) A (.builtin "set.update.loop" ⟨[.ref Z, .ref I], []⟩) R s := by
  have zw : Z ∉ wr := fun q => hZ (W.sub _ q)
  have more : ∀ b ∈ wr, b ∈ Z :: wr := fun b q => List.mem_cons_of_mem _ q
  have still : ∀ {h1 h2 : Heap} {S : Str → Bool} {c : Nat}, h1.SetOf (strKind prog w) Z S c → (∀ o, h1.get? Z = some o → h2.get? Z = some o) → h2.SetOf (strKind prog w) Z S c := fun hS hk => by
    obtain ⟨o, es, ep, tb, ho, q⟩ := hS
    exact ⟨o, es, ep, tb, hk o ho, q⟩
  intro m
  induction m with
  | zero =>
    intro i c s hm hi hst hS hc _ out
    obtain rfl : i = n := by omega
    refine codeAny_builtin PyProof.Rows.F.entry_set_update_loop ?_; rw [Around.under_plainId PyProof.Rows.F.plain_set_update_loop _]
    show wpAny _ A.in1 (pyNext (.ref I) >>= fun _ => _) _ _ s
    refine wpAny_bind (W.done s _ _ hst fun s2 mv => ?_); show wpAny _ A.in1 (ret Value.none) _ _ s2
    have et : xs.take i = xs := List.take_of_length_le (by omega)
    have ed : xs.drop i = [] := List.drop_eq_nil_of_le (by omega)
    rw [ed] at hc
    have ec : c = cntD [] xs := by simpa [cntD] using hc
    rw [et, ec] at hS
    exact wpAny_pure (out s2 (mv.mono more) (still hS fun o ho => mv.heap Z o zw ho))
  | succ m ih =>
    intro i c s hm hi hst hS hc hci out
    have hlt : i < n := by omega
    refine codeAny_builtin PyProof.Rows.F.entry_set_update_loop ?_; rw [Around.under_plainId PyProof.Rows.F.plain_set_update_loop _]
    show wpAny _ A.in1 (pyNext (.ref I) >>= fun _ => _) _ _ s
    refine wpAny_bind (W.item i s _ _ hlt hst fun v s2 hP hst2 mv => ?_)
    obtain ⟨z, t, hz, rfl⟩ := hv i v hP
    have hS2 := still hS fun o ho => mv.heap Z o zw ho
    show wpAny _ A.in1 (holding [Value.str z t] (setAdd Z (.str z t)) >>= fun _ => _) _ _ s2
    refine wpAny_bind (wpAny_holding ?_); unfold setAdd
    refine wpAny_holding (wpAny_bind ((strKind prog w).pyHash (k := z) (strKind_is _ _ _ _) ?_))
    refine wpAny_setAddHashed_of (knd := strKind prog w) (s := { s2 with toks := s2.toks + 1 }) (strKind_is _ _ _ _) rfl hS2 (by omega) fun h3 sb hS3 => ?_
    have tk : xs.take (i + 1) = xs.take i ++ [z] := by rw [List.take_add_one, hz]; rfl
    have dr : xs.drop i = z :: xs.drop (i + 1) := by
      have hl : i < xs.length := by omega
      rw [List.drop_eq_getElem_cons hl]
      rw [List.getElem?_eq_getElem hl] at hz
      rw [Option.some.inj hz]
    have hS4 : h3.SetOf (strKind prog w) Z (fun k => decide (k ∈ xs.take (i + 1))) (if decide (z ∈ xs.take i) = true then c else c + 1) := by
      refine SetOf_congr hS3 (fun k => ?_) rfl
      rw [tk]
      by_cases e1 : k ∈ xs.take i <;> by_cases e2 : k = z <;> simp [e1, e2]
    have hc4 : (if decide (z ∈ xs.take i) = true then c else c + 1) + cntD (xs.take (i + 1)) (xs.drop (i + 1)) = cntD [] xs := by
      rw [dr, cntD_cons] at hc
      rw [tk, ← hc]
      by_cases e1 : z ∈ xs.take i <;> simp [e1] <;> omega
    have hc5 : (if decide (z ∈ xs.take i) = true then c else c + 1) ≤ i + 1 := by split <;> omega
    refine wpAny_pure ⟨plainId_quiet PyProof.Rows.F.plain_set_update_loop _, ih (i + 1) _ _ (by omega) hlt (W.frame _ s2 _ _ hst2 (Nat.le_succ _) fun b hb o e => ?_) hS4 hc4 hc5 fun s5 mv5 hS5 => ?_⟩
    · rw [sb.2 b (fun q : b = Z => hZ (by rw [← q]; exact hb))]
      exact e
    · refine out s5 (Moved.trans W.gtrans ((mv.mono more).then_heap (Nat.le_succ _) fun b o hb e => ?_) mv5) hS5
      rw [sb.2 b (fun q : b = Z => hb (by rw [q]; exact List.mem_cons_self))]
      exact e
end
section
variable {prog : Program} {w : World} {A : Around} {E : Value → Shared → Prop} {s : Shared}
set_option maxHeartbeats 8000000 in
theorem setOfTexts {l : Addr} {its : Array Value} {xs : List Str} {Q : Value → Shared → Prop} (calm : A.handled = none) (tup : s.heap.IsTuple l its) (hi : StrsAre its.toList xs) (hb : xs.length + 1 < scanBound)
    (out : ∀ (h2 : Heap) (k2 : Nat), h2.SetOf (strKind prog w) s.heap.objs.size (fun k => decide (k ∈ xs)) (cntD [] xs) → (∀ b o, s.heap.get? b = some o → h2.get? b = some o) → Q (.ref s.heap.objs.size) { s with heap := h2, toks := k2 }) :
    wpAny (model prog w) A (call (.type "set") [.ref l]) Q E s := by
  have isz : its.size = xs.length := by rw [← StrsAre.len_eq hi, Array.length_toList]
  obtain ⟨mc, mt, hmro⟩ := PySem.F.called_set.mro
  have hmade := PySem.F.called_set.made; have hsub := PySem.F.called_set.sub
  refine wpAny_call (codeAny_of_tree ?_); show wpAny _ _ (callAny (.type "set") _) _ _ _
  refine wpAny_pure ⟨Code.quiet_builtin _ (by decide +kernel), codeAny_builtin PySem.F.entry_type_call ?_⟩; rw [Around.under_plain (weight_type_call_type "set" [.ref l] []) rfl]
  have g1 := PySem.F.called_set.notType; have g2 := PySem.F.called_set.canCreate
  have g3 := PySem.F.typeCall_set_1 (.ref l)
  repeat (any_goals (first | assumption | wp_step))
  refine codeAny_mono (code_set_new_1 (.ref l) (E := E) (Q₁ := fun ob s1 => ∃ led : Bool, ob = .ref s.heap.objs.size ∧ s1 = { s with heap := s.heap.push { cls := .type "set", dict := none, data := .set #[] 0 (.fresh 0 0 led) } }) fun led => ⟨led, rfl, rfl⟩) fun res s1 hres => ?_
  cases res with
  | error ex => exact hres
  | ok fl =>
    cases fl with
    | ret ob =>
      obtain ⟨led, rfl, rfl⟩ := hres
      have setAt : (s.heap.push { cls := .type "set", dict := none, data := .set #[] 0 (.fresh 0 0 led) }).get? s.heap.objs.size = some { cls := .type "set", dict := none, data := .set #[] 0 (.fresh 0 0 led) } := Heap.get?_push_size _ rfl
      have isSet : Shared.TypeIs { s with heap := s.heap.push { cls := .type "set", dict := none, data := .set #[] 0 (.fresh 0 0 led) } } (.ref s.heap.objs.size) "set" := ⟨_, setAt, rfl⟩
      have g4 := PySem.F.called_set.init.lookup
      have g5 := PySem.F.called_set.init.bind (.ref s.heap.objs.size)
      repeat (any_goals (first | assumption | wp_step))
      refine codeAny_mono (codeAny_call_builtin (R := wants (fun r s2 => r = .none ∧ ∃ h2 k2, s2 = { s with heap := h2, toks := k2 } ∧ h2.SetOf (strKind prog w) s.heap.objs.size (fun k => decide (k ∈ xs)) (cntD [] xs) ∧ (∀ b o, s.heap.get? b = some o → h2.get? b = some o)) E)
        PySem.F.called_set.init.plain PySem.F.entry_set_init (check_set_init_1 isSet ?_)) fun r2 s2 hr2 => ?_
      · obtain ⟨⟨oc, od, odt, osl⟩, hol, hcl, nl, hdl⟩ := tup
        simp only at hcl hdl
        subst hcl; subst hdl
        have hol2 : (s.heap.push { cls := .type "set", dict := none, data := .set #[] 0 (.fresh 0 0 led) }).get? l = some { cls := .type "tuple", dict := od, data := .seq its nl, slots := osl } := Heap.get?_push_of_some _ hol
        have q1 := PySem.F.sub_tuple_set; have q2 := PySem.F.sub_tuple_frozenset
        have q3 : (Value.type "tuple" == Value.type "dict") = false := by decide
        have tup1 : (s.heap.push { cls := .type "set", dict := none, data := .set #[] 0 (.fresh 0 0 led) }).IsTuple l its := ⟨_, hol2, rfl, nl, rfl⟩
        unfold Builtin.«set.__init__» noKeywords Builtin.Frozenset.updateFrom; generalize hPI : pyIter = PI
        wp_walk
        subst hPI
        refine wpAny_pyIter_tuple tup1 (wpAny_bind (wpAny_runValue ?_))
        have ls : l < s.heap.objs.size := Heap.lt_size hol
        have calm3 : A.in1.in1.in1.handled = none := by simp [calm]
        have sz1 : (s.heap.push { cls := .type "set", dict := none, data := .set #[] 0 (.fresh 0 0 led) }).objs.size = s.heap.objs.size + 1 := Heap.size_push ..
        have apart : l ≠ (s.heap.push { cls := .type "set", dict := none, data := .set #[] 0 (.fresh 0 0 led) }).objs.size := by rw [sz1]; exact Nat.ne_of_lt (Nat.lt_succ_of_lt ls)
        have notIn : s.heap.objs.size ∉ [(s.heap.push { cls := .type "set", dict := none, data := .set #[] 0 (.fresh 0 0 led) }).objs.size, l] := by
          rw [sz1]; simp only [List.mem_cons, List.not_mem_nil, or_false, not_or]
          exact ⟨Nat.ne_of_lt (Nat.lt_succ_self _), Nat.ne_of_gt ls⟩
        have vals : ∀ (i : Nat) (v : Value), its[i]? = some v → ∃ z t, xs[i]? = some z ∧ v = .str z t := fun i v hv => by
          have hl : i < xs.length := by rw [← isz]; exact (Array.getElem?_eq_some_iff.mp hv).1
          obtain ⟨t, e⟩ := SS.strs_at hi i v (by rw [Array.getElem?_toList]; exact hv)
          exact ⟨xs[i], t, List.getElem?_eq_getElem hl, by rw [e, List.getD_eq_getElem?_getD, List.getElem?_eq_getElem hl]; rfl⟩
        have set0 : ((s.heap.push { cls := .type "set", dict := none, data := .set #[] 0 (.fresh 0 0 led) }).push { cls := .type "tuple_iterator", data := .fields #[.ref l, .int 0 0] }).get? s.heap.objs.size = some { cls := .type "set", dict := none, data := .set #[] 0 (.fresh 0 0 led) } := Heap.get?_push_of_some _ setAt
        refine fillTexts ((Walks.tuple calm3 _ l apart its).toS) s.heap.objs.size notIn xs isz hb vals (fun _ _ _ _ _ => True.intro) (its.size - 0) 0 0 _ (by omega) (Nat.zero_le _) ⟨⟨_, Heap.get?_push_size _ rfl, rfl, rfl⟩, tup1.push _⟩
          (SetOf_congr ((setObjOf_fresh (knd := strKind prog w) led).setOf set0 (by unfold scanBound; omega)) (fun _ => by simp) rfl) (by simp) (Nat.le_refl _) fun s5 mv hS5 => ?_
        obtain ⟨h5, gn5, dr5, tk5, os5⟩ := s5
        obtain rfl : gn5 = s.gens := mv.gens
        obtain rfl : dr5 = s.drawn := mv.drawn
        obtain rfl : os5 = s.os := mv.os
        show wpAny _ _ _ _ _ _
        refine wpAny_pure ?_; show wpAny _ _ (ret Value.none) _ _ _
        refine wpAny_pure ⟨rfl, h5, tk5, rfl, hS5, fun b o ho => ?_⟩
        have b0 : b < s.heap.objs.size := Heap.lt_size ho
        refine mv.heap b o ?_ (Heap.get?_push_of_some _ (Heap.get?_push_of_some _ ho))
        rw [sz1]; simp only [List.mem_cons, List.not_mem_nil, or_false, not_or]
        exact ⟨Nat.ne_of_lt b0, Nat.ne_of_lt (Nat.lt_succ_of_lt b0)⟩
      · cases r2 with
        | error ex => exact hr2
        | ok fl2 =>
          cases fl2 with
          | ret r =>
            obtain ⟨rfl, h2, k2, rfl, hS2, hk2⟩ := hr2
            repeat (any_goals (first | assumption | wp_step))
            exact out _ _ hS2 hk2
          | _ => exact hr2.elim
    | _ => exact hres.elim
end
/-- len(set(t)), t a tuple of texts -/
def lenSetD (d : D) : M D := fun st => match d with
  | .tup ds => match strsOf ds with
    | some xs => if xs.length ≤ 20 then .ok (.int (cntD [] xs)) st else .stuck
    | none => .stuck
  | _ => .stuck
theorem de_lenSet {X : Cx} {ca : Nat → Addr} {E : XK} {e : Expr} {f : En → M D} {p p2 q pos : Pos} (hg : Gl X "len") (hg2 : Gl X "set") (hm : X.mg "len" = none) (hc : X.calm = true) (hm2 : X.mg "set" = none) (ha : DE ca E X e f)
    (na : starEach [e] X.env = (false, eval e X.env) :: starEach [] X.env := by rfl) (nb : starEach [.Call (.Name "set" p2) [e] [] q] X.env = (false, eval (.Call (.Name "set" p2) [e] [] q) X.env) :: starEach [] X.env := by rfl) :
    DE ca E X (.Call (.Name "len" p) [.Call (.Name "set" p2) [e] [] q] [] pos) (eUn lenSetD f) := by
  obtain ⟨t, pe, ge⟩ := ha.ex
  have core : PE X (.Call (.Name "len" p) [.Call (.Name "set" p2) [e] [] q] [] pos) (fun σ H Q => t σ H fun x H1 => ∃ l, ∃ xs : List Str, x = .ref l ∧ SqT X.K H1 l (xs.map V.str) ∧ xs.length ≤ 20 ∧ Q (.int (cntD [] xs)) H1) := by
    refine ⟨fun pins s σ H Q I h => Call_ (ld_blt I hg hm PySem.boot_len ?_)⟩
    refine PyProof.Rows.callWith_builtin1 (PyProof.Rows.args_cons ?_ rfl) nb rfl
    refine Call_ (ld_blt I hg2 hm2 boot_set (PyProof.Rows.callWith_type1 (PyProof.Rows.args_cons (thn (pe.run pins s σ H _ I h) ?_) na) na rfl))
    rintro v s1 ⟨x, H1, I1, r1, l, xs, rfl, hq, hl, q1⟩
    refine PyProof.Rows.args_nil ?_
    cases r1
    obtain ⟨its, r, pl, hz⟩ := I1.tuple hq
    refine setOfTexts (I1.ok.hd hc) pl (by simpa using strsAre_of r) (by unfold scanBound; omega) fun h2 k2 hS hk => PyProof.Rows.args_nil ?_
    obtain ⟨o, es, ep, tb, ho, hex, hd, _, _, _, hf, hn⟩ := hS
    have I2 : Inv X pins σ H1 { s1 with heap := h2, toks := k2 } := I1.kept hk
    have := cntD_le xs []
    exact call_len_set ho hex hd hf (by rw [hn]; omega) ⟨.int _, H1, I2.tok _, ⟨_, by rw [hn]⟩, q1⟩
  refine ⟨_, core, fun σ H Q ρ st μ re s h => ?_⟩
  refine ge.bind re s h fun d st1 μ1 H1 x e1 s1 r1 re1 h1 => ?_
  unfold lenSetD at h1
  cases d <;> first | exact elimP h1 | skip
  rename_i ds
  simp only at h1
  split at h1
  · rename_i xs hxs
    split at h1
    · rename_i hl
      obtain ⟨a, vs, rfl, g1, g2⟩ := rep_tup.mp r1
      have e := strs_rep hxs g2
      subst e
      exact ⟨a, xs, rfl, g1.sq, hl, (h1 : KV X.K ca μ H Q _ _) μ1 H1 _ e1 s1 (rep_int.mpr rfl)⟩
    · exact elimP h1
  · exact elimP h1
end DL

set_option Elab.async false
set_option linter.all false
set_option maxRecDepth 100000
set_option maxHeartbeats 4000000
namespace DL
open PySem L2 PySem.Spec PyProof.Rows
theorem boot_isi : bootBuiltins "isinstance" = some (.builtin "isinstance") := by decide +kernel
theorem boot_str : bootBuiltins "str" = some (.type "str") := by decide +kernel
theorem boot_int : bootBuiltins "int" = some (.type "int") := by decide +kernel
theorem boot_bool : bootBuiltins "bool" = some (.type "bool") := by decide +kernel
theorem boot_tuple : bootBuiltins "tuple" = some (.type "tuple") := by decide +kernel
theorem boot_list : bootBuiltins "list" = some (.type "list") := by decide +kernel
theorem boot_all : bootBuiltins "all" = some (.builtin "all") := by decide +kernel
theorem boot_any : bootBuiltins "any" = some (.builtin "any") := by decide +kernel
theorem boot_min : bootBuiltins "min" = some (.builtin "min") := by decide +kernel
theorem boot_len : bootBuiltins "len" = some (.builtin "len") := by decide +kernel
def opIsB (x y : D) : M D := fun st => match x, y with
  | .bl a, .bl b => .ok (.bl (decide (a = b))) st
  | _, _ => .stuck
def opNotB (x y : D) : M D := fun st => match x, y with
  | .bl a, .bl b => .ok (.bl (!decide (a = b))) st
  | _, _ => .stuck
theorem dop_isB {X : Cx} {ca : Nat → Addr} : DOp ca X (compareOp .Is) opIsB := by
  refine ⟨_, op_isBl, fun E x y H Q d e st μ rx ry s h => ?_⟩
  cases d <;> cases e <;> first | exact elimP h | skip
  rw [rep_bl] at rx ry
  exact ⟨_, _, rx, ry, h μ H _ .refl s (rep_bl.mpr rfl)⟩
theorem dop_notB {X : Cx} {ca : Nat → Addr} : DOp ca X (compareOp .IsNot) opNotB := by
  refine ⟨_, op_notBl, fun E x y H Q d e st μ rx ry s h => ?_⟩
  cases d <;> cases e <;> first | exact elimP h | skip
  rw [rep_bl] at rx ry
  exact ⟨_, _, rx, ry, h μ H _ .refl s (rep_bl.mpr rfl)⟩
def opNeg (x : D) : M D := fun st => match x with
  | .int i => .ok (.int (-i)) st
  | _ => .stuck
theorem dun_neg {X : Cx} {ca : Nat → Addr} : DUn ca X (unaryOp .USub) opNeg := by
  refine ⟨_, un_neg, fun E x H Q d st μ rx s h => ?_⟩
  cases d <;> first | exact elimP h | skip
  rw [rep_int] at rx
  exact ⟨_, rx, h μ H _ .refl s (rep_int.mpr rfl)⟩
theorem fn_none {P : Program} {w : World} {K : PySem.W.Frag} {mg : Str → Option Value} {base : Heap} {ca : Nat → Addr} {k : Nat} {f : Addr} {fd : FuncData} {ps : List Str} {m : List D → M D} (h : ∀ ds st, m ds st = .stuck) :
    FnOk P w K mg base (L2.CX P w) k f fd ps (spD K ca m) := by
  have no : ∀ vs H Q E, ¬ spD K ca m vs H Q E := fun vs H Q E ⟨ds, st, μ, _, _, p⟩ => by rw [h] at p; exact p
  exact ⟨fun vs H Q E z => absurd z (no vs H Q E), fun A outer s H args us vs Q E _ _ _ _ z => absurd z (no vs H Q E)⟩
def gSite (ds zs : List D) : List D := ds ++ zs
theorem gSite_rep {K : PySem.W.Frag} : ∀ μ H ds zs vs ws, RepL K μ H ds vs → RepL K μ H zs ws → RepL K μ H (gSite ds zs) (vs ++ ws) := fun _ _ _ _ _ _ h q => h.append q
def gItT (i j l : Nat) : Item → En → M En := fun it ρ => match it with
  | .one (.tup [d, e, f]) => pure (((ρ.set i (some d)).set j (some e)).set l (some f))
  | _ => stuck
theorem RepL.tri {K : PySem.W.Frag} {μ : List Addr} {H : Hp} {d e f : D} {vs : List V} (h : RepL K μ H [d, e, f] vs) : ∃ v w u, vs = [v, w, u] ∧ Rep K μ H d v ∧ Rep K μ H e w ∧ Rep K μ H f u := by
  obtain ⟨v, r, rfl, h1, h2⟩ := repL_cons.mp h
  obtain ⟨w, u, rfl, h3, h4⟩ := h2.pair
  exact ⟨v, w, u, rfl, h1, h3, h4⟩
section
variable {X : Cx} {ca : Nat → Addr} {E : XK} {vs : List Nat} {pos : Pos}
theorem dgi_tri {j l m k : Nat} {x y z : Str} {px py pz : Pos} (hv : j ∈ vs) (hw : l ∈ vs) (hu : m ∈ vs) (hc : X.calm = true) (hN : X.N.Nodup) (hi : X.N[j]? = some x := by rfl) (hx : Loc X.env.scope x := by first | exact .inl rfl | exact .inr rfl) (hf : X.fn x = true ∨ X.env.scope.names.lookup x = some .local := by first | exact .inl rfl | exact .inr rfl)
    (hj : X.N[l]? = some y := by rfl) (hy : Loc X.env.scope y := by first | exact .inl rfl | exact .inr rfl) (hf' : X.fn y = true ∨ X.env.scope.names.lookup y = some .local := by first | exact .inl rfl | exact .inr rfl)
    (hk : X.N[m]? = some z := by rfl) (hz : Loc X.env.scope z := by first | exact .inl rfl | exact .inr rfl) (hf'' : X.fn z = true ∨ X.env.scope.names.lookup z = some .local := by first | exact .inl rfl | exact .inr rfl)
    (hn : (assignEach [.Name x px, .Name y py, .Name z pz] X.env).length = 3 := by rfl) (hst : (assignEach [.Name x px, .Name y py, .Name z pz] X.env).findIdx? (·.1) = none := by rfl)
    (hs1 : (assignEach [.Name x px, .Name y py, .Name z pz] X.env).map (·.2) = assign (.Name x px) X.env :: (assignEach [.Name y py, .Name z pz] X.env).map (·.2) := by rfl) (hs2 : (assignEach [.Name y py, .Name z pz] X.env).map (·.2) = assign (.Name y py) X.env :: (assignEach [.Name z pz] X.env).map (·.2) := by rfl) (hs3 : (assignEach [.Name z pz] X.env).map (·.2) = assign (.Name z pz) X.env :: (assignEach [] X.env).map (·.2) := by rfl) :
    DGI ca E vs X (.Tuple [.Name x px, .Name y py, .Name z pz] k pos) (gItT j l m) := by
  refine ⟨_, pg_tup hc (pgs_cons (pg_name hN hi hx hf) (pgs_cons (pg_name hN hj hy hf') (pgs_cons (pg_name hN hk hz hf'') pgs_nil hs3) hs2) hs1) hn hst, fun σ H Q it x H1 ρ st μ y re s h => ?_⟩
  unfold gItT at h
  split at h
  · rename_i d e f
    obtain ⟨rfl, rv⟩ := y
    obtain ⟨a, us, rfl, h1, h2⟩ := rep_tup.mp rv
    obtain ⟨v, w, u, rfl, g1, g2, g3⟩ := h2.tri
    refine ⟨a, [v, w, u], rfl, h1.sq, rfl, v, [w, u], rfl, w, [u], rfl, u, [], rfl, rfl, ?_⟩
    exact (Post.pure.mp h) μ _ _ .refl s (((re.set j g1).set l g2).set m g3) (by rw [wipe_set hu, wipe_set hw, wipe_set hv])
  · exact elimP h
end
/-! range(i, j, c) -/
def itRange3 (fa : En → M (List D)) : En → M ItD := fun ρ => do
  match ← fa ρ with
  | [.int i, .int j, .int c] => if c ≠ 0 ∧ c.natAbs < 1073741824 ∧ Builtin.Range.small i j c = true ∧ 0 ≤ Builtin.Range.rangeSize i j c then pure ⟨(List.range (Builtin.Range.rangeSize i j c).toNat).map fun (k : Nat) => Item.one (D.int (i + (k : Int) * c)), fun _ => true⟩ else stuck
  | _ => stuck
section
variable {X : Cx} {ca : Nat → Addr} {E : XK} {tg : Expr} {p pos : Pos}
theorem di_range3 {a b c : Expr} {fa : En → M (List D)} (hg : Gl X "range") (hm : X.mg "range" = none) (h : DA ca E X [a, b, c] fa)
    (hs : starEach [a, b, c] X.env = (false, eval a X.env) :: starEach [b, c] X.env := by rfl) (hpl : (backTo pos (starEach [b, c] X.env)).any (·.1) = false := by rfl) : DI ca E X tg (.Call (.Name "range" p) [a, b, c] [] pos) (itRange3 fa) := by
  obtain ⟨t, pe, ge⟩ := h.ex
  refine ⟨_, pi_range3 hg hm pe hs hpl, fun σ H R ρ st μ re s h => ?_⟩
  refine ge.bind re s h fun ds st1 μ1 H1 xs e1 s1 r1 re1 h1 => ?_
  split at h1
  · rename_i i j c
    split at h1
    · rename_i hn
      obtain ⟨v, w, u, rfl, g1, g2, g3⟩ := r1.tri
      refine ⟨i, j, c, (Builtin.Range.rangeSize i j c).toNat, by rw [rep_int.mp g1, rep_int.mp g2, rep_int.mp g3], ⟨hn.1, hn.2.1, hn.2.2.1, (Int.toNat_of_nonneg hn.2.2.2).symm⟩, (Post.pure.mp h1) (Itc i c (Builtin.Range.rangeSize i j c).toNat) μ1 H1 e1 s1 ?_⟩
      intro μ2 H2 st2 e2 s2 _
      refine ⟨fun k it hj => ?_, by show (Builtin.Range.rangeSize i j c).toNat ≤ _; rw [List.length_map, List.length_range]; exact Nat.le_refl _⟩
      rw [List.getElem?_map] at hj
      cases hd : (List.range (Builtin.Range.rangeSize i j c).toNat)[k]? with
      | none => rw [hd] at hj; cases hj
      | some d =>
        rw [hd] at hj; cases hj
        obtain ⟨hl, rfl⟩ := List.getElem?_eq_some_iff.mp hd
        have hl' : k < (Builtin.Range.rangeSize i j c).toNat := by simpa using hl
        refine ⟨hl', fun x H3 y => ⟨y.1, ?_⟩⟩
        rw [rep_int, y.2]
        simp
    · exact elimP h1
  · exact elimP h1
end
/-! defs with defaults -/
def BindsD (K : PySem.W.Frag) (fd : FuncData) (ps : List Str) (dds : List D) : Prop := ∃ (dvs : List V) (ds : List Value), Vals dvs ds ∧ Binds K fd ps ds ∧ ∀ μ H, RepL K μ H dds dvs
theorem de_callD {X : Cx} {ca : Nat → Addr} {E : XK} {CX : CXT} {k : Nat} {f : Addr} {fd : FuncData} {ps : List Str} {m : List D → M D} {dds : List D} {x : Str} {p pos : Pos} {e : Expr} {es : List Expr} {fa : En → M (List D)} (F : FnOk X.prog X.w X.K X.mg X.base CX k f fd ps (spD X.K ca m)) (hr : Room k X.A) (hg : Gl X x) (hm : X.mg x = some (.ref f)) (hk : PySem.W.keepIn X.K (.ref f) = true) (hb : BindsD X.K fd ps dds) (hx : Passes CX X E)
    (ha : DA ca E X (e :: es) fa) (hdb : (x == ("__debug__" : Str)) = false := by decide) (he : starEach (e :: es) X.env = (false, eval e X.env) :: starEach es X.env := by rfl) (hpl : (backTo pos (starEach es X.env)).any (·.1) = false := by rfl) :
    DE ca E X (.Call (.Name x p) (e :: es) [] pos) (eCall (fun ds => m (ds ++ dds)) fa) := by
  obtain ⟨dvs, ds, h1, h2, h3⟩ := hb
  exact de_call F hr hg hm hk h2 h1 h3 hx ha hdb he hpl
theorem fn_okDd {P : Program} {w : World} {K : PySem.W.Frag} {mg : Str → Option Value} {base : Heap} {ca : Nat → Addr} {x qual : Str} {st : Stmt} {f : Addr} {fd : FuncData} {N ps : List Str} {k : Nat} {body : En → M Ctl} {dvs : List V} {kws : List (Str × V)} (F : FunD K x qual (defArgs st) (defBody st) (defScope st) dvs kws f fd) (S : FnScope N ps (defScope st))
    (hb : ∀ (cdv : Value) (A : Around) (outer : List Env) (s : Shared) (H : Hp) (E : XK), Room k (A.deeper (envOfC qual (defScope st) s.heap.objs.size f cdv)) →
      DSs ca E (cxOf (L2.CX P w) P w K mg base N qual (defScope st) f cdv A outer s H E) (defBody st) body) : FnOk P w K mg base (L2.CX P w) (k + 1) f fd ps (spD K ca (fnM ps.length N.length body)) := by
  refine F.ok S (fun vs H Q E h => ?_) fun cdv A outer s H vs Q E hr h => ?_
  · obtain ⟨ds, st', μ, r, s, p⟩ := h
    rw [r.length]
    unfold fnM at p
    split at p
    · rename_i e; exact e
    · exact p.elim
  · obtain ⟨t, ht, g⟩ := (hb cdv A outer s H E hr).ex
    refine ⟨t, ht, ?_⟩
    obtain ⟨ds, st', μ, r, s', p⟩ := h
    unfold fnM at p
    split at p
    · rename_i e
      refine g _ H _ _ st' μ (envR_start r _ N (by rw [r.length, e])) s' ((Post.bind.mp p).imp fun c st1 q => ?_)
      intro μ1 H1 e1 s1
      have q1 := q.mono e1 fun _ _ z => z
      cases c with
      | nx ρ => exact fun σ _ => (q1 : KV K ca μ H Q .non st1) μ1 H1 _ e1 s1 (rep_non.mpr rfl)
      | rt d => exact fun v rv => (q1 : KV K ca μ H Q d st1) μ1 H1 v e1 s1 rv
      | bk ρ => exact q1.elim
      | ct ρ => exact q1.elim
    · exact p.elim
end DL

set_option Elab.async false
set_option linter.all false
set_option maxRecDepth 100000
set_option maxHeartbeats 4000000
namespace DL
open PySem L2 PySem.Spec PyProof.Rows
/-! a walk's target of any number of names -/
def setAll (ρ : En) : List Nat → List D → En
  | i :: is, d :: ds => setAll (ρ.set i (some d)) is ds
  | _, _ => ρ
def gItN (is : List Nat) : Item → En → M En := fun it ρ => match it with
  | .one (.tup ds) => if ds.length = is.length then pure (setAll ρ is ds) else stuck
  | _ => stuck
structure DGN (ca : Nat → Addr) (vs : List Nat) (X : Cx) (es : List Expr) (is : List Nat) : Prop where
  ex : ∃ t, PGs X es t ∧ ∀ σ H Q us ds ρ st μ, RepL X.K μ H ds us → ds.length = is.length → EnvR X.K μ H ρ σ → Sim X.K ca μ st H → (∀ σ', EnvR X.K μ H (setAll ρ is ds) σ' → wipe σ' vs = wipe σ vs → Q σ' H) → t us σ H Q
section
variable {X : Cx} {ca : Nat → Addr} {E : XK} {vs is : List Nat} {pos : Pos} {es : List Expr}
theorem dgn_nil : DGN ca vs X [] [] := by
  refine ⟨_, pgs_nil, fun σ H Q us ds ρ st μ r hl re s h => ?_⟩
  obtain rfl : ds = [] := List.length_eq_zero_iff.mp hl
  exact ⟨repL_nil.mp r, h σ re rfl⟩
theorem dgn_cons {j : Nat} {x : Str} (hv : j ∈ vs) (hN : X.N.Nodup) (hr : DGN ca vs X es is) (hi : X.N[j]? = some x := by rfl) (hx : Loc X.env.scope x := by first | exact .inl rfl | exact .inr rfl) (hf : X.fn x = true ∨ X.env.scope.names.lookup x = some .local := by first | exact .inl rfl | exact .inr rfl)
    (hs : (assignEach (.Name x pos :: es) X.env).map (·.2) = assign (.Name x pos) X.env :: (assignEach es X.env).map (·.2) := by rfl) : DGN ca vs X (.Name x pos :: es) (j :: is) := by
  obtain ⟨t, p, g⟩ := hr.ex
  refine ⟨_, pgs_cons (pg_name hN hi hx hf) p hs, fun σ H Q us ds ρ st μ r hl re s h => ?_⟩
  cases ds with
  | nil => simp at hl
  | cons d ds =>
    obtain ⟨v, w, rfl, r1, r2⟩ := repL_cons.mp r
    refine ⟨v, w, rfl, ?_⟩
    refine g _ H Q w ds _ st μ r2 (by simpa using hl) (re.set j r1) s fun σ' re' hw => ?_
    exact h σ' re' (hw.trans (wipe_set hv))
theorem dgi_tupN {k n : Nat} (hc : X.calm = true) (h : DGN ca vs X es is) (hn : (assignEach es X.env).length = n := by rfl) (hst : (assignEach es X.env).findIdx? (·.1) = none := by rfl) (hl : is.length = n := by rfl) :
    DGI ca E vs X (.Tuple es k pos) (gItN is) := by
  obtain ⟨t, p, g⟩ := h.ex
  refine ⟨_, pg_tup hc p hn hst, fun σ H Q it x H1 ρ st μ y re s hh => ?_⟩
  unfold gItN at hh
  split at hh
  · rename_i ds
    obtain ⟨rfl, rv⟩ := y
    obtain ⟨a, us, rfl, h1, h2⟩ := rep_tup.mp rv
    split at hh
    · rename_i e
      refine ⟨a, us, rfl, h1.sq, by rw [h2.length, e, hl], g σ _ Q us ds ρ st μ h2 e re s fun σ' re' hw => ?_⟩
      exact (Post.pure.mp hh) μ _ _ .refl s re' hw
    · exact elimP hh
  · exact elimP hh
end
end DL

set_option Elab.async false
set_option linter.all false
set_option maxRecDepth 100000
set_option maxHeartbeats 4000000
namespace DL
open PySem L2 PySem.Spec PyProof.Rows

/-! ### an own exception class: its __init__ puts its parameters into its fields -/
/-- the tracked heap behind the __init__ of the exception at a -/
def xFin (H : Hp) (a C dx : Addr) : List (Str × V) → Hp
  | [] => H
  | [p] => upd (upd H dx (exd dx [p])) a (exo a C (some dx))
  | p :: q :: r => upd (xFin H a C dx (q :: r)) dx (exd dx (p :: q :: r))
theorem xFin_dx {H : Hp} {a C dx : Addr} (hne : dx ≠ a) : ∀ {fs : List (Str × V)}, fs ≠ [] → xFin H a C dx fs dx = some (exd dx fs)
  | [], h => absurd rfl h
  | [p], _ => by show upd _ a _ dx = _; rw [upd_ne hne, upd_same]
  | p :: q :: r, _ => upd_same
theorem xFin_a {H : Hp} {a C dx : Addr} (hne : dx ≠ a) : ∀ {fs : List (Str × V)}, fs ≠ [] → xFin H a C dx fs a = some (exo a C (some dx))
  | [], h => absurd rfl h
  | [p], _ => upd_same
  | p :: q :: r, _ => by show upd _ dx _ a = _; rw [upd_ne (Ne.symm hne)]; exact xFin_a hne (by simp)
theorem xFin_ne {H : Hp} {a C dx b : Addr} (h1 : b ≠ a) (h2 : b ≠ dx) : ∀ {fs : List (Str × V)}, xFin H a C dx fs b = H b
  | [] => rfl
  | [p] => by show upd _ a _ b = _; rw [upd_ne h1, upd_ne h2]
  | p :: q :: r => by show upd _ dx _ b = _; rw [upd_ne h2]; exact xFin_ne h1 h2
/-- what such an __init__ keeps -/
def spX (C : Addr) (ns : List Str) : Sp := fun vs H Q _ => ∃ a ys, vs = V.ref a :: ys ∧ ys.length = ns.length ∧ H a = some (exo a C none) ∧ ∀ dx, H dx = none → dx ≠ a → Q .non (xFin H a C dx (ns.zip ys).reverse)
section
variable {P : Program} {w : World} {K : PySem.W.Frag} {mg : Str → Option Value} {base : Heap} {x qual : Str} {st : Stmt} {f C : Addr} {fd : FuncData} {k : Nat} {p0 p1 p2 n1 n2 : Str}
theorem fn_x1 (F : Fun K x qual st f fd) (S : FnScope [p0, p1] [p0, p1] (defScope st)) (T : OexC K C) (h1 : PySem.W.findIn K (.ref C) n1 = some none)
    (hb : ∀ (cdv : Value) (A : Around) (outer : List Env) (s : Shared) (H : Hp) (E : XK), PSs (cxOf (L2.CX P w) P w K mg base [p0, p1] qual (defScope st) f cdv A outer s H E) (defBody st) (tOst K n1 (tVar 0) (tVar 1))) :
    FnOk P w K mg base (L2.CX P w) (k + 1) f fd [p0, p1] (spX C [n1]) := by
  refine F.okX S (fun vs H Q E h => ?_) fun cdv A outer s H vs Q E hr h => ⟨_, hb cdv A outer s H E, ?_⟩
  · obtain ⟨a, ys, rfl, hl, _⟩ := h
    simp only [List.length_cons] at hl ⊢
    rw [hl]
  · obtain ⟨a, ys, rfl, hl, ha, hq⟩ := h
    obtain ⟨y, rfl⟩ : ∃ y, ys = [y] := match ys, hl with | [y], _ => ⟨y, rfl⟩
    exact ⟨y, rfl, .ref a, rfl, a, C, rfl, T, h1, .inl ⟨ha, fun dx e1 e2 => hq dx e1 e2⟩⟩
theorem fn_x2 (F : Fun K x qual st f fd) (S : FnScope [p0, p1, p2] [p0, p1, p2] (defScope st)) (T : OexC K C) (h1 : PySem.W.findIn K (.ref C) n1 = some none) (h2 : PySem.W.findIn K (.ref C) n2 = some none)
    (hb : ∀ (cdv : Value) (A : Around) (outer : List Env) (s : Shared) (H : Hp) (E : XK), PSs (cxOf (L2.CX P w) P w K mg base [p0, p1, p2] qual (defScope st) f cdv A outer s H E) (defBody st) (tSeq (tOst K n1 (tVar 0) (tVar 1)) (tOst K n2 (tVar 0) (tVar 2)))) :
    FnOk P w K mg base (L2.CX P w) (k + 1) f fd [p0, p1, p2] (spX C [n1, n2]) := by
  refine F.okX S (fun vs H Q E h => ?_) fun cdv A outer s H vs Q E hr h => ⟨_, hb cdv A outer s H E, ?_⟩
  · obtain ⟨a, ys, rfl, hl, _⟩ := h
    simp only [List.length_cons] at hl ⊢
    rw [hl]
  · obtain ⟨a, ys, rfl, hl, ha, hq⟩ := h
    obtain ⟨y, z, rfl⟩ : ∃ y z, ys = [y, z] := match ys, hl with | [y, z], _ => ⟨y, z, rfl⟩
    refine ⟨y, rfl, .ref a, rfl, a, C, rfl, T, h1, .inl ⟨ha, fun dx e1 e2 => ?_⟩⟩
    refine ⟨z, rfl, .ref a, rfl, a, C, rfl, T, h2, .inr ⟨dx, [(n1, y)], upd_same, ?_, by simp, hq dx e1 e2⟩⟩
    rw [upd_ne e2, upd_same]
end

/-! ### raise -/
def raiseN (c : Nat) (ns : List Str) (ds : List D) : M Ctl := fun st => if ds.length = ns.length then .raise c (some (ns.zip ds).reverse) st else .stuck
def sRaise (c : Nat) (ns : List Str) (fa : En → M (List D)) : En → M Ctl := fun ρ => do
  let ds ← fa ρ
  raiseN c ns ds
theorem repF_app {K : PySem.W.Frag} {μ : List Addr} {H : Hp} : ∀ {fs gs : List (Str × D)} {us ws : List (Str × V)}, RepF K μ H fs us → RepF K μ H gs ws → RepF K μ H (fs ++ gs) (us ++ ws)
  | [], _, us, ws, h, q => by cases h; exact q
  | (n, d) :: fs, _, us, ws, h, q => by
    obtain ⟨v, r, rfl, h1, h2⟩ := h
    exact ⟨v, _, rfl, h1, repF_app h2 q⟩
theorem repF_rev {K : PySem.W.Frag} {μ : List Addr} {H : Hp} : ∀ {fs : List (Str × D)} {us : List (Str × V)}, RepF K μ H fs us → RepF K μ H fs.reverse us.reverse
  | [], us, h => by cases h; exact rfl
  | (n, d) :: fs, us, h => by
    obtain ⟨v, r, rfl, h1, h2⟩ := h
    rw [List.reverse_cons, List.reverse_cons]
    exact repF_app (repF_rev h2) ⟨v, [], rfl, h1, rfl⟩
theorem repF_zip {K : PySem.W.Frag} {μ : List Addr} {H : Hp} : ∀ (ns : List Str) {ds : List D} {vs : List V}, RepL K μ H ds vs → RepF K μ H (ns.zip ds) (ns.zip vs)
  | [], _, _, _ => rfl
  | n :: ns, [], vs, h => by rw [repL_nil] at h; subst h; exact rfl
  | n :: ns, d :: ds, vs, h => by
    obtain ⟨v, r, rfl, h1, h2⟩ := repL_cons.mp h
    exact ⟨v, _, rfl, h1, repF_zip ns h2⟩
section
variable {X : Cx} {ca : Nat → Addr} {E : XK} {pos p pos' : Pos} {e : Expr} {es : List Expr} {fa : En → M (List D)}
theorem ds_raise {c k : Nat} {ns : List Str} {x : Str} {fI : Addr} {fd : FuncData} {ps : List Str} (hc : X.calm = true) (tk : Takes X (fun cls d _ H => E cls d H)) (T : OexC X.K (ca c)) (iC : PySem.W.findIn X.K (.ref (ca c)) "__init__" = some (some (.ref fI)))
    (tI : PySem.W.typeIn X.K (.ref fI) = some (.type "function")) (F1 : FnOk X.prog X.w X.K X.mg X.base (L2.CX X.prog X.w) k fI fd ps (spX (ca c) ns)) (hr : Room (k + 1) X.A) (hb : Binds X.K fd ps []) (hg : Gl X x) (hm : X.mg x = some (.ref (ca c))) (hne : ns ≠ [] ∧ ns.length ≤ 100) (ha : DA ca E X (e :: es) fa)
    (hdb : (x == ("__debug__" : Str)) = false := by decide) (he : starEach (e :: es) X.env = (false, eval e X.env) :: starEach es X.env := by rfl) (hpl : (backTo pos (starEach es X.env)).any (·.1) = false := by rfl) :
    DS ca E X (.Raise (some (.Call (.Name x p) (e :: es) [] pos)) none pos') (sRaise c ns fa) := by
  obtain ⟨t, pa, ga⟩ := ha.ex
  refine ⟨_, ps_raise hc tk (pmk_oex T iC tI F1 hr hb .nil passL hg hm pa hdb he hpl), fun σ H Q ρ st μ re s h => ?_⟩
  refine ga.bind re s h fun ds st1 μ1 H1 vs e1 s1 r1 re1 h1 => ?_
  unfold raiseN at h1
  split at h1
  · rename_i hl
    have hvl : vs.length = ns.length := by rw [r1.length]; exact hl
    refine ⟨by rw [hvl]; have := hne.2; omega, fun a ha => ⟨a, vs ++ [], rfl, by simpa using hvl, upd_same, fun dx hdx hda => ?_⟩⟩
    rw [List.append_nil]
    have hd1 : H1 dx = none := by rw [upd_ne hda] at hdx; exact hdx
    have hfs : (ns.zip vs).reverse ≠ [] := by
      intro z
      have : ((ns.zip vs).reverse).length = 0 := by rw [z]; rfl
      rw [List.length_reverse, List.length_zip, hvl] at this
      exact hne.1 (List.length_eq_zero_iff.mp (by omega))
    refine ⟨rfl, dx, (ns.zip vs).reverse, xFin_a hda hfs, xFin_dx hda hfs, hd1, ?_⟩
    have eq : upd (del (xFin (upd H1 a (exo a (ca c) none)) a (ca c) dx (ns.zip vs).reverse) a) dx (.xd (ns.zip vs).reverse) = upd H1 dx (.xd (ns.zip vs).reverse) := by
      funext b
      by_cases hb : b = dx
      · rw [hb, upd_same, upd_same]
      · rw [upd_ne hb, upd_ne hb]
        by_cases hba : b = a
        · rw [hba, del_same, ha]
        · rw [del_ne hba, xFin_ne hba hb, upd_ne hba]
    rw [eq]
    have ex : Ext X.K μ1 H1 μ1 (upd H1 dx (.xd (ns.zip vs).reverse)) := .updM (.inl hd1)
    exact h1 μ1 _ (some dx) ex (s1.fresh hd1) ⟨dx, _, rfl, upd_same, (repF_rev (repF_zip ns r1)).mono ex⟩
  · exact h1.elim
end
end DL

set_option Elab.async false
set_option linter.all false
set_option maxRecDepth 100000
set_option maxHeartbeats 4000000
namespace DL
open PySem L2 PySem.Spec PyProof.Rows

/-! ### try: several clauses, each with or without a name -/
abbrev HT' := Addr → Value → Option Addr → TS
def unset (D : Ends) (i : Nat) : Ends :=
  { nx := fun σ' H' => D.nx (σ'.set i none) H', rt := D.rt, bk := fun σ' H' => D.bk (σ'.set i none) H', ct := fun σ' H' => D.ct (σ'.set i none) H' }
def wH (K : PySem.W.Frag) (Wout : WX) (D : Ends) : List (Value × Option Nat × HT') → WX
  | [] => Wout
  | (c, oi, ts) :: r => fun cls d σ H => ∃ b, PySem.W.exmOne K cls c = some b ∧
      (b = true → ∀ a, H a = none → match oi with
        | none => ts a cls d D σ H
        | some i => ts a cls d (unset D i) (σ.set i (some (.ref a))) H) ∧
      (b = false → wH K Wout D r cls d σ H)
abbrev SuiteOk (X : Cx) (ss : List Stmt) (ts : HT') : Prop :=
  ∀ (a : Addr) (oe : Obj) (cls : Value) (d : Option Addr) (pn : List (Addr × Obj)), Zc cls d oe → (∃ vs, oe.data = .fields vs) → PSs (X.suite a ((a, oe) :: pn)) ss (ts a cls d)
inductive HdsA (X : Cx) : List ExceptHandler → List (Value × Option Nat × HT') → Prop
  | nil : HdsA X [] []
  | anon {x : Str} {c : Value} {ts : HT'} {b₀ : Stmt} {ss : List Stmt} {np pos' : Pos} {hds : List ExceptHandler} {l : List (Value × Option Nat × HT')}
      (hc : Names X x c) (hsu : SuiteOk X (b₀ :: ss) ts) (r : HdsA X hds l) : HdsA X (.ExceptHandler (some (.Name x np)) none (b₀ :: ss) pos' :: hds) ((c, none, ts) :: l)
  | named {x n : Str} {i : Nat} {c : Value} {ts : HT'} {b₀ : Stmt} {ss : List Stmt} {np pos' : Pos} {hds : List ExceptHandler} {l : List (Value × Option Nat × HT')}
      (hi : X.N[i]? = some n) (hln : X.env.kindOf n = some .local) (hc : Names X x c) (hsu : SuiteOk X (b₀ :: ss) ts) (r : HdsA X hds l) :
      HdsA X (.ExceptHandler (some (.Name x np)) (some n) (b₀ :: ss) pos' :: hds) ((c, some i, ts) :: l)
section
variable {X : Cx} {body : List Stmt} {h₀ : ExceptHandler} {hds : List ExceptHandler} {l : List (Value × Option Nat × HT')} {pos : Pos} {tb : WX → TS} {Wout : WX}
theorem ps_try_h (hs : X.stack = X.env :: X.outer) (hf : X.env.frame = some X.env.locals) (hN : X.N.Nodup) (tk : Takes X Wout)
    (hb : ∀ (W : WX) (pn : List (Addr × Obj)) (xe : Value → Shared → Prop), Takes (X.tr pn xe) W → PassesOwn (model X.prog X.w) X.A X.env xe → PSs (X.tr pn xe) body (tb W)) (hh : HdsA X (h₀ :: hds) l) :
    PS X (.Try body (h₀ :: hds) [] [] pos) fun D σ H => tb (wH X.K Wout D l) D σ H := by
  refine ⟨fun pins s σ H D I hw => wpAny_Try_except ?_⟩
  have ok := I.ok
  have hfr : X.A.frames = some (X.env :: X.outer) := hs ▸ ok.frames
  let xe0 : Value → Shared → Prop := fun e s1 => wpAny (model X.prog X.w) X.A (noteFrame e X.env) (fun _ s2 => wpAny (model X.prog X.w) X.A (setFlight e none)
      (fun _ s3 => wpAny (model X.prog X.w) X.A (handleBy e X.env (h₀ :: hds)) (SP X pins D) X.xe s3) X.xe s2) X.xe s1
  suffices tk0 : Takes (X.tr (X.pn ++ pins) xe0) (wH X.K Wout D l) by
    refine wpAny_mono ((hb _ (X.pn ++ pins) xe0 tk0 PassesOwn.looking).run [] s σ H D (I.toTry _) hw) (fun fl s1 q => ?_) fun e s1 he => he
    cases fl with
    | next => obtain ⟨σ1, H1, J, q⟩ := q; exact wpAny_execs_nil ⟨σ1, H1, J.ofTry ok, q⟩
    | brk => obtain ⟨σ1, H1, J, q⟩ := q; exact ⟨σ1, H1, J.ofTry ok, q⟩
    | cont => obtain ⟨σ1, H1, J, q⟩ := q; exact ⟨σ1, H1, J.ofTry ok, q⟩
    | ret u => obtain ⟨v, σ1, H1, J, r, q⟩ := q; exact ⟨v, σ1, H1, J.ofTry ok, r, q⟩
  rintro u s' ⟨a, B, sI, p', σ', H', cls, d, rfl, J', nb, up, sky, na, os, ag, hW⟩
  have J := J'.ofTry ok
  rw [show (X.tr (X.pn ++ pins) _).stack = X.env :: X.outer from hs] at sky
  show wpAny (model X.prog X.w) X.A (noteFrame (.ref a) X.env) _ _ _
  refine Sky.land Zc.steady hfr hf sky fun h3 fl3 up3 => ?_
  have J3 : Inv X pins σ' H' { s' with heap := h3 } := J.landed nb fl3.1 (up.trans up3) os ag
  obtain ⟨oe3, vs3, he3, hz3, hd3⟩ := fl3.there
  have notin : a ∉ frs (X.env :: X.outer) := fun hm => by
    obtain ⟨_, o, e, hn⟩ := fl3.2.2.1.mem hm
    rw [he3] at e; cases e; exact hn _ hd3
  have nL : a ≠ X.env.locals := fun z => notin (List.mem_filterMap.mpr ⟨X.env, List.mem_cons_self, z ▸ hf⟩)
  have nF : a ∉ X.fs := fun hm => by
    obtain ⟨e, he, q⟩ := List.mem_filterMap.mp hm
    exact notin (List.mem_filterMap.mpr ⟨e, List.mem_cons_of_mem _ he, q⟩)
  have S3 := J3.suite he3 hd3 na nL nF
  have test : ∀ {x : Str} {c : Value} {np : Pos} {Q : Value → Shared → Prop} {E : Value → Shared → Prop}, Names X x c → Q c { s' with heap := h3 } → wpAny (model X.prog X.w) (X.A.mark (some (.ref a))) (eval (.Name x np) X.env) Q E { s' with heap := h3 } := by
    rintro x c np Q E ⟨hg, hdbg, hm | ⟨hm, hv, hnn⟩⟩ q
    · exact ld_glob (X := X.suite a ((a, oe3) :: (X.pn ++ pins))) S3 hg hm q hdbg
    · exact ld_blt (X := X.suite a ((a, oe3) :: (X.pn ++ pins))) S3 hg hm hv q hnn hdbg
  have LT : PySem.W.Looks (model X.prog X.w) h3 (typeOf (.ref a)) cls := fun A Q E s k q => wpAny_typeOf_ref (k _ _ he3) (hz3.1 ▸ q)
  have go : ∀ {hd : List ExceptHandler} {l' : List (Value × Option Nat × HT')}, HdsA X hd l' → wH X.K Wout D l' cls d σ' H' → wpAny (model X.prog X.w) X.A (handleBy (.ref a) X.env hd) (SP X pins D) X.xe { s' with heap := h3 } := by
    intro hd l' hk
    induction hk with
    | nil =>
      intro w
      refine wpAny_handleBy_nil ?_
      obtain ⟨k1, k2, k3, oe, vs, T, oT, ts', he, hz, hdd, h1, hr⟩ := id fl3
      unfold PySem.passOn
      refine wpAny_bind (wpAny_field he hdd h1 ?_)
      rw [if_neg (by simp : ¬ (Value.ref T == Value.none) = true)]
      have fin : wpAny (model X.prog X.w) X.A (setFlight (.ref a) X.env.frame) (fun _ s4 => wpAny (model X.prog X.w) X.A (throw (.ref a) : Sem Flow) (SP X pins D) X.xe s4) X.xe { s' with heap := h3 } := by
        rw [hf]
        refine HandSPX.setFlight_upZ fl3 fun h4 hh4 up4 => wpAny_throw (tk _ _ ⟨a, B, sI, pins, σ', H', cls, d, rfl, J, nb, (up.trans up3).trans up4, .inr (.inr ?_), na, os, ag, w⟩)
        rw [hs]; exact hh4
      first | exact wpAny_bind (wpAny_pure (wpAny_bind fin)) | exact wpAny_bind fin
    | @anon x c ts b₀ ss np pos' hd2 l2 hc hsu r ih =>
      rintro ⟨b, hb1, hyes, hno⟩
      refine wpAny_handleBy_cons (codeAny_handlers_test (test hc ((PySem.W.exm_one (M := model X.prog X.w) J3.kIn LT hb1).here ?_))) nofun
      cases b with
      | false => exact ih (hno rfl)
      | true =>
        refine codeAny_handlers_suite (HandSPX.lands_againZ fl3 fun h4 fl4 up4 => ?_)
        have J4 : Inv X pins σ' H' { s' with heap := h4 } := J.landed nb fl4.1 ((up.trans up3).trans up4) os ag
        obtain ⟨oe4, vs4, he4, hz4, hd4⟩ := fl4.there
        refine wpAny_mono ((hsu a oe4 cls d (X.pn ++ pins) hz4 ⟨_, hd4⟩).run [] _ _ H' _ (J4.suite he4 hd4 na nL nF) (hyes rfl a na)) (fun fl s6 q => ?_) fun _ _ z => z.elim
        cases fl with
        | next => obtain ⟨σ6, H6, S6, q⟩ := q; exact ⟨σ6, H6, S6.unsuite ok, q⟩
        | brk => obtain ⟨σ6, H6, S6, q⟩ := q; exact ⟨σ6, H6, S6.unsuite ok, q⟩
        | cont => obtain ⟨σ6, H6, S6, q⟩ := q; exact ⟨σ6, H6, S6.unsuite ok, q⟩
        | ret u => obtain ⟨v, σ6, H6, S6, r, q⟩ := q; exact ⟨v, σ6, H6, S6.unsuite ok, r, q⟩
    | @named x n i c ts b₀ ss np pos' hd2 l2 hi hln hc hsu r ih =>
      rintro ⟨b, hb1, hyes, hno⟩
      refine wpAny_handleBy_cons (codeAny_handlers_test (test hc ((PySem.W.exm_one (M := model X.prog X.w) J3.kIn LT hb1).here ?_))) nofun
      cases b with
      | false => exact ih (hno rfl)
      | true =>
        refine codeAny_handlers_suite_as (HandSPX.lands_againZ fl3 fun h4 fl4 up4 => ?_)
        have J4 : Inv X pins σ' H' { s' with heap := h4 } := J.landed nb fl4.1 ((up.trans up3).trans up4) os ag
        obtain ⟨oe4, vs4, he4, hz4, hd4⟩ := fl4.there
        refine store_ok (X := X.suite a ((a, oe4) :: (X.pn ++ pins))) (v := .ref a) (J4.suite he4 hd4 na nL nF) hN hi (.inl hln) rfl (fun s5 S5 => ?_) (.inr hln)
        have away : ∀ {σ6 : L2.St} {H6 : Hp} {s6 : Shared} {Q : Shared → Prop}, Inv (X.suite a ((a, oe4) :: (X.pn ++ pins))) [] σ6 H6 s6 → (∀ s7, Inv X pins (σ6.set i none) H6 s7 → Q s7) →
            wpAny (model X.prog X.w) X.A (do bindName X.env n .none; unbindBehindTheSuite X.env n pos') (fun _ s7 => Q s7) X.xe s6 := fun S6 k => gone_ok (S6.unsuite ok) hN hi hln k
        refine wpAny_mono ((hsu a oe4 cls d (X.pn ++ pins) hz4 ⟨_, hd4⟩).run [] s5 _ H' _ S5 (hyes rfl a na)) (fun fl s6 q => ?_) fun _ _ z => z.elim
        cases fl with
        | next => obtain ⟨σ6, H6, S6, q⟩ := q; exact away S6 fun s7 J7 => ⟨_, _, J7, q⟩
        | brk => obtain ⟨σ6, H6, S6, q⟩ := q; exact away S6 fun s7 J7 => ⟨_, _, J7, q⟩
        | cont => obtain ⟨σ6, H6, S6, q⟩ := q; exact away S6 fun s7 J7 => ⟨_, _, J7, q⟩
        | ret u => obtain ⟨v, σ6, H6, S6, r, q⟩ := q; exact away S6 fun s7 J7 => ⟨_, _, _, J7, r, q⟩
  exact go hh hW
end
end DL

set_option Elab.async false
set_option linter.all false
set_option maxRecDepth 100000
set_option maxHeartbeats 4000000
namespace DL
open PySem L2 PySem.Spec PyProof.Rows

/-! ### what may raise, its wish told at the slots -/
structure DEr (ca : Nat → Addr) (E : L2.St → XK) (X : Cx) (e : Expr) (f : En → M D) : Prop where
  ex : ∃ t, PE X e t ∧ ∀ σ H Q ρ st μ, EnvR X.K μ H ρ σ → Sim X.K ca μ st H → Post X.K ca (E σ) μ H (f ρ st) (KV X.K ca μ H Q) → t σ H Q
structure DAr (ca : Nat → Addr) (E : L2.St → XK) (X : Cx) (es : List Expr) (f : En → M (List D)) : Prop where
  ex : ∃ t, PA X es t ∧ ∀ σ H Q ρ st μ, EnvR X.K μ H ρ σ → Sim X.K ca μ st H → Post X.K ca (E σ) μ H (f ρ st) (KA X.K ca μ H Q) → t σ H Q
structure DSr (ca : Nat → Addr) (E : L2.St → XK) (X : Cx) (s : Stmt) (f : En → M Ctl) : Prop where
  ex : ∃ t, PS X s t ∧ ∀ σ H Q ρ st μ, EnvR X.K μ H ρ σ → Sim X.K ca μ st H → Post X.K ca (E σ) μ H (f ρ st) (KC X.K ca μ H Q) → t Q σ H
structure DSsr (ca : Nat → Addr) (E : L2.St → XK) (X : Cx) (s : List Stmt) (f : En → M Ctl) : Prop where
  ex : ∃ t, PSs X s t ∧ ∀ σ H Q ρ st μ, EnvR X.K μ H ρ σ → Sim X.K ca μ st H → Post X.K ca (E σ) μ H (f ρ st) (KC X.K ca μ H Q) → t Q σ H
section
variable {X : Cx} {ca : Nat → Addr} {E : L2.St → XK} {e a : Expr} {es : List Expr} {pos : Pos} {f g : En → M D} {fa : En → M (List D)}
theorem DE.r (h : DE ca E0 X e f) : DEr ca E X e fun ρ => nr (f ρ) := by
  obtain ⟨t, p, g⟩ := h.ex
  exact ⟨t, p, fun σ H Q ρ st μ re s q => g σ H Q ρ st μ re s (nr_post q)⟩
theorem dar_nil : DAr ca E X [] aNil := ⟨_, pa_nil, fun σ H Q ρ st μ re s h => h μ H _ .refl s (repL_nil.mpr rfl)⟩
theorem dar_cons (ha : DEr ca E X a f) (hr : DAr ca E X es fa) (hs : starEach (a :: es) X.env = (false, eval a X.env) :: starEach es X.env := by rfl) : DAr ca E X (a :: es) (aCons f fa) := by
  obtain ⟨ta, pa, ga⟩ := ha.ex
  obtain ⟨tb, pb, gb⟩ := hr.ex
  refine ⟨_, pa_cons pa pb hs, fun σ H Q ρ st μ re s h => ?_⟩
  refine ga σ H _ ρ st μ re s ((Post.bind.mp h).imp fun d st1 q => ?_)
  intro μ1 H1 x e1 s1 r1
  have h1 := Post.bind.mp (q.mono e1 fun _ _ z => z)
  refine gb σ H1 _ ρ st1 μ1 (re.mono e1) s1 (h1.imp fun ds st2 q2 => ?_)
  intro μ2 H2 xs e2 s2 r2
  have h2 := q2.mono e2 fun _ _ z => z
  exact (Post.pure.mp h2 : KA X.K ca μ H Q (d :: ds) st2) μ2 H2 _ (e1.trans e2) s2 (repL_cons.mpr ⟨x, xs, rfl, r1.mono e2, r2⟩)
theorem der_tup {k : Nat} (h : DAr ca E X es fa) : DEr ca E X (.Tuple es k pos) (eTup fa) := by
  obtain ⟨t, p, g⟩ := h.ex
  refine ⟨_, pe_tupF p, fun σ H Q ρ st μ re s hh => ?_⟩
  refine g σ H _ ρ st μ re s ((Post.bind.mp hh).imp fun ds st1 q => ?_)
  intro μ1 H1 xs e1 s1 r1
  have h1 := q.mono e1 fun _ _ z => z
  unfold newT at h1
  split at h1
  · rename_i hz
    exact ⟨by rw [r1.length]; exact hz, fun p o hp hd => new_tup s1 r1 (KV.mono h1 e1) hp hd⟩
  · exact h1.elim
/-! own calls -/
def eCallR (m : List D → M D) (fa : En → M (List D)) : En → M D := fun ρ => nr (fa ρ) >>= m
def eMethR (c : Nat) (n : Str) (m : List D → M D) (fo : En → M D) (fa : En → M (List D)) : En → M D := fun ρ => nr (fo ρ) >>= fun o => chkO c n o >>= fun _ => nr (fa ρ) >>= fun ds => m (o :: ds)
def eMakeR (c n nk : Nat) (g : List D → List D → List D) (m : List D → M D) (fa fk : En → M (List D)) : En → M D := fun ρ => nr (fa ρ) >>= fun ds => nr (fk ρ) >>= fun zs =>
  if ds.length = n ∧ zs.length = nk then mkM c (fun o => m (g (o :: ds) zs)) else stuck
theorem ga_r {K : PySem.W.Frag} {t : TA} (hg : GA K ca E0 t fa) {E1 : XK} {β : Type} {m : List D → M β} {σ : L2.St} {H : Hp} {ρ : En} {st : Sto} {μ : List Addr} {k : β → Sto → Prop} {Q : List V → Hp → Prop} (r : EnvR K μ H ρ σ) (s : Sim K ca μ st H)
    (h : Post K ca E1 μ H ((nr (fa ρ) >>= m) st) k) (hk : ∀ d st' μ' H' v, Ext K μ H μ' H' → Sim K ca μ' st' H' → RepL K μ' H' d v → EnvR K μ' H' ρ σ → Post K ca E1 μ' H' (m d st') k → Q v H') : t σ H Q :=
  hg σ H Q ρ st μ r s ((nr_post (Post.bind.mp h)).imp fun d st' q μ' H' v e s' rv => hk d st' μ' H' v e s' rv (r.mono e) (q.mono e fun _ _ z => z))
theorem ge_r {K : PySem.W.Frag} {t : TE} (hg : GE K ca E0 t f) {E1 : XK} {β : Type} {m : D → M β} {σ : L2.St} {H : Hp} {ρ : En} {st : Sto} {μ : List Addr} {k : β → Sto → Prop} {Q : VK} (r : EnvR K μ H ρ σ) (s : Sim K ca μ st H)
    (h : Post K ca E1 μ H ((nr (f ρ) >>= m) st) k) (hk : ∀ d st' μ' H' v, Ext K μ H μ' H' → Sim K ca μ' st' H' → Rep K μ' H' d v → EnvR K μ' H' ρ σ → Post K ca E1 μ' H' (m d st') k → Q v H') : t σ H Q :=
  hg σ H Q ρ st μ r s ((nr_post (Post.bind.mp h)).imp fun d st' q μ' H' v e s' rv => hk d st' μ' H' v e s' rv (r.mono e) (q.mono e fun _ _ z => z))
theorem gt_r {K : PySem.W.Frag} {t : TT} {ft : En → M Bool} (hg : GT K ca E0 t ft) {E1 : XK} {β : Type} {m : Bool → M β} {σ : L2.St} {H : Hp} {ρ : En} {st : Sto} {μ : List Addr} {k : β → Sto → Prop} {Q : Bool → Hp → Prop} (r : EnvR K μ H ρ σ) (s : Sim K ca μ st H)
    (h : Post K ca E1 μ H ((nr (ft ρ) >>= m) st) k) (hk : ∀ d st' μ' H', Ext K μ H μ' H' → Sim K ca μ' st' H' → EnvR K μ' H' ρ σ → Post K ca E1 μ' H' (m d st') k → Q d H') : t σ H Q :=
  hg σ H Q ρ st μ r s ((nr_post (Post.bind.mp h)).imp fun d st' q μ' H' e s' => hk d st' μ' H' e s' (r.mono e) (q.mono e fun _ _ z => z))
variable {k : Nat} {fI : Addr} {fd : FuncData} {ps : List Str} {m : List D → M D} {x : Str} {p apos : Pos} {o : Expr} {fo : En → M D}
theorem der_call (F : FnOk X.prog X.w X.K X.mg X.base (L2.CX X.prog X.w) k fI fd ps (spD X.K ca m)) (hr : Room k X.A) (hg : Gl X x) (hm : X.mg x = some (.ref fI)) (hk : PySem.W.keepIn X.K (.ref fI) = true) (hb : Binds X.K fd ps []) (hx : ∀ σ, PassesAt (L2.CX X.prog X.w) X σ (E σ)) (ha : DA ca E0 X (e :: es) fa)
    (hdb : (x == ("__debug__" : Str)) = false := by decide) (he : starEach (e :: es) X.env = (false, eval e X.env) :: starEach es X.env := by rfl) (hpl : (backTo pos (starEach es X.env)).any (·.1) = false := by rfl) :
    DEr ca E X (.Call (.Name x p) (e :: es) [] pos) (eCallR m fa) := by
  obtain ⟨t, pa, ga⟩ := ha.ex
  refine ⟨_, pe_callS F hr hg hm hk hb hx pa hdb he hpl, fun σ H Q ρ st μ re s h => ?_⟩
  refine ga_r ga re s h fun ds st1 μ1 H1 xs e1 s1 r1 re1 g1 => ?_
  exact ⟨ds, st1, μ1, r1, s1, g1.imp fun _ _ z => z.mono e1⟩
def tMethS (C : Addr) (m : Str) (sp : Sp) (E : L2.St → XK) (ta : TE) (t : TA) : TE := fun σ H Q => ta σ H fun x H1 => ∃ a dx fs, x = V.ref a ∧ H1 a = some (.ins C dx fs) ∧ fs.lookup m = none ∧ t σ H1 fun vs H2 => sp (.ref a :: vs) H2 Q (E σ)
theorem pe_methS {pl : Sem Bool} {C : Addr} {n : Str} {sp : Sp} {ta : TE} {t : TA} (he : PE X o ta) (c : Cls X.K C) (hm : Meth X.K C n fI) (F : FnOk X.prog X.w X.K X.mg X.base (L2.CX X.prog X.w) k fI fd ps sp) (hr : Room k X.A) (hb : Binds X.K fd ps []) (hx : ∀ σ, PassesAt (L2.CX X.prog X.w) X σ (E σ)) (ha : PA X (e :: es) t)
    (hst : starEach (e :: es) X.env = (false, eval e X.env) :: starEach es X.env) (hpl : (backTo pos (starEach es X.env)).any (·.1) = false)
    (ht : eval (.Call (.Attribute o n apos) (e :: es) [] pos) X.env = (do
      let ov ← eval o X.env
      standAt apos.atName
      let (g, first) ← holding [ov] (getMethod ov n pl)
      callWith pos g first (backTo pos (starEach (e :: es) X.env)) (backToKw pos (keywordEach [] X.env)))) : PE X (.Call (.Attribute o n apos) (e :: es) [] pos) (tMethS C n sp E ta t) := by
  refine ⟨fun pins s σ H Q I h => PySem.W.methodCall_KW (pl := pl) (thn (he.run pins s σ H _ I h) ?_) ht⟩
  rintro u s1 ⟨x, H1, I1, rx, a, dx, fs, rfl, ea, l, q⟩
  cases rx
  refine getmeth_ok I1 ea c hm l (PySem.W.callWith_K (first := [.ref a]) (h₀ := X.base) I.ok.mod.kin hm.kp (thn (ha.run pos pins s1 σ H1 _ I1 q) ?_) hst hpl)
  rintro us s2 ⟨vs, H2, I2, r, q2⟩
  exact ⟨I2.kIn, run_fnS (us := .ref a :: us) (vs := .ref a :: vs) F hr hb (hx σ) I2 (.cons rfl r) q2⟩
theorem der_meth {c : Nat} {n : Str} {pl : Sem Bool} (ho : DE ca E0 X o fo) (hC : Cls X.K (ca c)) (hm : Meth X.K (ca c) n fI) (F : FnOk X.prog X.w X.K X.mg X.base (L2.CX X.prog X.w) k fI fd ps (spD X.K ca m)) (hr : Room k X.A) (hb : Binds X.K fd ps []) (hx : ∀ σ, PassesAt (L2.CX X.prog X.w) X σ (E σ)) (ha : DA ca E0 X (e :: es) fa)
    (hst : starEach (e :: es) X.env = (false, eval e X.env) :: starEach es X.env := by rfl) (hpl : (backTo pos (starEach es X.env)).any (·.1) = false := by rfl)
    (ht : eval (.Call (.Attribute o n apos) (e :: es) [] pos) X.env = (do
      let ov ← eval o X.env
      standAt apos.atName
      let (g, first) ← holding [ov] (getMethod ov n pl)
      callWith pos g first (backTo pos (starEach (e :: es) X.env)) (backToKw pos (keywordEach [] X.env))) := by rfl) : DEr ca E X (.Call (.Attribute o n apos) (e :: es) [] pos) (eMethR c n m fo fa) := by
  obtain ⟨to, po, go⟩ := ho.ex
  obtain ⟨t, pa, ga⟩ := ha.ex
  refine ⟨_, pe_methS po hC hm F hr hb hx pa hst hpl ht, fun σ H Q ρ st μ re s h => ?_⟩
  refine ge_r go re s h fun d st1 μ1 H1 x e1 s1 r1 re1 h1 => ?_
  rw [Post.bind] at h1
  unfold chkO at h1
  cases d <;> first | exact elimP h1 | skip
  rename_i i
  simp only at h1
  split at h1
  · rename_i c' fs hi
    split at h1
    · rename_i hc
      obtain ⟨rfl, hl⟩ := hc
      obtain ⟨a, dx, gs, rfl, ha', g1, g2⟩ := obj_of s1 hi r1
      refine ⟨a, dx, gs, rfl, g1, (lookF g2).2 hl, ?_⟩
      refine ga_r ga re1 s1 h1 fun ds st2 μ2 H2 vs e2 s2 r2 re2 h2 => ?_
      exact ⟨.loc i :: ds, st2, μ2, repL_cons.mpr ⟨.ref a, _, rfl, r1.mono e2, r2⟩, s2, h2.imp fun _ _ z => z.mono (e1.trans e2)⟩
    · exact elimP h1
  · exact elimP h1
section
variable {n : Nat} {C : Addr} {sp : Sp} {ks : List Str} {kws : List Keyword} {g : List Value → List Value → List Value} {gV : List V → List V → List V}
theorem run_makeKS {E1 : XK} {pins : List (Addr × Obj)} {σ : L2.St} {H : Hp} {s : Shared} {Q : VK} {us ws : List Value} {vs zs : List V} (M : Mk X.K C fI) (F : FnOk X.prog X.w X.K X.mg X.base (L2.CX X.prog X.w) k fI fd ps sp) (hr : Room (k + 1) X.A) (hb : KBn X.K fd ps (n + 1) ks g gV) (hx : PassesAt (L2.CX X.prog X.w) X σ E1)
    (I : Inv X pins σ H s) (r : Vals vs us) (rz : Vals zs ws) (l1 : vs.length = n) (l2 : zs.length = ks.length)
    (h : ∀ x dx, H x = none → H dx = none → dx ≠ x → sp (gV (.ref x :: vs) zs) (upd (upd H dx (.own x)) x (.ins C dx [])) (fun v H2 => v = .non ∧ Q (.ref x) H2) E1) : wpAny (model X.prog X.w) X.A (call (.ref C) us (ks.zip ws)) (EP X pins σ Q) X.xe s := by
  generalize hz : s.heap.objs.size = z
  have hq := h (z + 1) z (I.hok.fresh (by omega)) (I.hok.fresh (by omega)) (Nat.ne_of_lt (Nat.lt_succ_self _))
  have I2 := Inv.made (C := C) I
  rw [hz] at I2
  have r1 : Vals (V.ref (z + 1) :: vs) (Value.ref (z + 1) :: us) := .cons rfl r
  have n1 : (Value.ref (z + 1) :: us).length = n + 1 := by rw [List.length_cons, ← r.length, l1]
  refine wpAny_call (make_map (f := fI) I.kIn M.makes M.init (beq_iff_eq.mp M.fn) ?_)
  rw [hz]
  refine codeAny_mono (F.run _ X.stack _ _ _ _ _ _ E1 (hr.make C us (ks.zip ws)) (I2.env0.make C us (ks.zip ws)) (hb.to _ _ ws I2.kIn n1 (rz.length.symm.trans l2)) (hb.rel r1 rz) hq) fun r s' q => ?_
  cases r with
  | error er => exact hx pins _ _ er s' I2 q
  | ok fl =>
    cases fl with
    | ret u =>
      obtain ⟨v, H', I3, rv, rfl, q3⟩ := I2.after q
      exact ⟨rv, V.ref (z + 1), H', I3, rfl, q3⟩
    | _ => exact q.elim
def tMakeKS (C : Addr) (n m : Nat) (sp : Sp) (gV : List V → List V → List V) (E : L2.St → XK) (t tk : TA) : TE := fun σ H Q => t σ H fun vs H1 => tk σ H1 fun zs H2 => vs.length = n ∧ zs.length = m ∧ ∀ x dx, H2 x = none → H2 dx = none → dx ≠ x →
  sp (gV (.ref x :: vs) zs) (upd (upd H2 dx (.own x)) x (.ins C dx [])) (fun v H3 => v = .non ∧ Q (.ref x) H3) (E σ)
theorem pe_makeKS {t tk : TA} (M : Mk X.K C fI) (F : FnOk X.prog X.w X.K X.mg X.base (L2.CX X.prog X.w) k fI fd ps sp) (hr : Room (k + 1) X.A) (hg : Gl X x) (hm : X.mg x = some (.ref C)) (hb : KBn X.K fd ps (n + 1) ks g gV) (hx : ∀ σ, PassesAt (L2.CX X.prog X.w) X σ (E σ)) (ha : PA X (e :: es) t) (hkw : PK X kws tk)
    (hall : (backToKw pos (keywordEach kws X.env)).all (·.1.isSome) = true) (hks : (backToKw pos (keywordEach kws X.env)).filterMap (·.1) = ks) (hdb : (x == ("__debug__" : Str)) = false)
    (he : starEach (e :: es) X.env = (false, eval e X.env) :: starEach es X.env) (hpl : ((backTo pos (starEach (e :: es) X.env)).any (·.1) || (backToKw pos (keywordEach kws X.env)).any (·.1.isNone)) = false) :
    PE X (.Call (.Name x p) (e :: es) kws pos) (tMakeKS C n ks.length sp gV E t tk) := by
  refine ⟨fun pins s σ H Q I h => wpAny_Call_Name_kw (ld_glob I hg hm ?_ hdb)⟩
  refine PySem.W.callWith_KW (h₀ := X.base) I.ok.mod.kin M.kp hall (thn (ha.run pos pins s σ H _ I h) ?_) hpl he
  rintro us s1 ⟨vs, H1, I1, r, q⟩
  refine thn (hkw.run pos pins s1 σ H1 _ I1 q) ?_
  rintro ws s2 ⟨zs, H2, I2, rz, l1, l2, q2⟩
  rw [hks]
  exact ⟨I2.kIn, run_makeKS M F hr hb (hx σ) I2 r rz l1 l2 q2⟩
end
theorem der_makeK {c n : Nat} {ks : List Str} {g : List Value → List Value → List Value} {gV : List V → List V → List V} {gD : List D → List D → List D} {kws : List Keyword} {fk : En → M (List D)} (M : Mk X.K (ca c) fI) (F : FnOk X.prog X.w X.K X.mg X.base (L2.CX X.prog X.w) k fI fd ps (spD X.K ca m)) (hr : Room (k + 1) X.A) (hg : Gl X x) (hm : X.mg x = some (.ref (ca c)))
    (hb : KBn X.K fd ps (n + 1) ks g gV) (hgD : ∀ μ H ds zs vs ws, RepL X.K μ H ds vs → RepL X.K μ H zs ws → RepL X.K μ H (gD ds zs) (gV vs ws)) (hx : ∀ σ, PassesAt (L2.CX X.prog X.w) X σ (E σ)) (ha : DA ca E0 X (e :: es) fa) (hkw : DK ca E0 X kws fk)
    (hall : (backToKw pos (keywordEach kws X.env)).all (·.1.isSome) = true := by rfl) (hks : (backToKw pos (keywordEach kws X.env)).filterMap (·.1) = ks := by rfl) (hdb : (x == ("__debug__" : Str)) = false := by decide)
    (he : starEach (e :: es) X.env = (false, eval e X.env) :: starEach es X.env := by rfl) (hpl : ((backTo pos (starEach (e :: es) X.env)).any (·.1) || (backToKw pos (keywordEach kws X.env)).any (·.1.isNone)) = false := by rfl) :
    DEr ca E X (.Call (.Name x p) (e :: es) kws pos) (eMakeR c n ks.length gD m fa fk) := by
  obtain ⟨t, pa, ga⟩ := ha.ex
  obtain ⟨tk, pk, gk⟩ := hkw.ex
  refine ⟨_, pe_makeKS M F hr hg hm hb hx pa pk hall hks hdb he hpl, fun σ H Q ρ st μ re s h => ?_⟩
  refine ga_r ga re s h fun ds st1 μ1 H1 vs e1 s1 r1 re1 h1 => ?_
  refine ga_r gk re1 s1 h1 fun zs st2 μ2 H2 ws e2 s2 r2 re2 h2 => ?_
  split at h2
  · rename_i hl
    refine ⟨by rw [r1.length]; exact hl.1, by rw [r2.length]; exact hl.2, fun x dx hx' hdx ne => ?_⟩
    obtain ⟨q1, q2, q3⟩ := made s2 (h2.imp fun _ _ z => z.mono (e1.trans e2)) hx' hdx ne
    exact ⟨gD (.loc st2.length :: ds) zs, st2 ++ [.obj c []], μ2 ++ [x], hgD _ _ _ _ _ _ (repL_cons.mpr ⟨.ref x, vs, rfl, loc_new s2, (r1.mono e2).mono q2⟩) (r2.mono q2), q1, q3⟩
  · exact h2.elim
/-! statements -/
variable {s1 : Stmt} {rest sa sb : List Stmt} {fs gs : En → M Ctl} {ft : En → M Bool} {c : Expr}
def sSetR (f : En → M D) (i : Nat) : En → M Ctl := fun ρ => do let d ← f ρ; pure (.nx (ρ.set i (some d)))
def sIfR (t : En → M Bool) (f g : En → M Ctl) : En → M Ctl := fun ρ => nr (t ρ) >>= fun b => if b then f ρ else g ρ
theorem dsr_expr (h : DEr ca E X e f) (hs : swapsWith e none pos.line X.env = pure false := by rfl) : DSr ca E X (.Expr e pos) (sEx f) := by
  obtain ⟨t, p, ge⟩ := h.ex
  refine ⟨_, ps_expr p hs, fun σ H Q ρ st μ re s h => ?_⟩
  refine ge σ H _ ρ st μ re s ((Post.bind.mp h).imp fun d st1 q => ?_)
  intro μ1 H1 v e1 s1 r1
  exact (Post.pure.mp q : KC X.K ca μ H Q (.nx ρ) st1) μ1 H1 e1 s1 σ (re.mono e1)
theorem dsr_ret (h : DEr ca E X e f) : DSr ca E X (.Return (some e) pos) (sRet f) := by
  obtain ⟨t, p, ge⟩ := h.ex
  refine ⟨_, ps_ret p, fun σ H Q ρ st μ re s h => ?_⟩
  refine ge σ H _ ρ st μ re s ((Post.bind.mp h).imp fun d st1 q => ?_)
  intro μ1 H1 v e1 s1 r1
  exact (Post.pure.mp q : KC X.K ca μ H Q (.rt d) st1) μ1 H1 e1 s1 v r1
theorem dsr_set {i : Nat} {y : Str} {py : Pos} (hN : X.N.Nodup) (he : DEr ca E X e f) (hi : X.N[i]? = some y := by rfl) (hx : Loc X.env.scope y := by first | exact .inl rfl | exact .inr rfl)
    (hs : swapsWith e (some (.Name y py)) pos.line X.env = pure false := by rfl) (hf : X.fn y = true ∨ X.env.scope.names.lookup y = some .local := by first | exact .inl rfl | exact .inr rfl) : DSr ca E X (.Assign [.Name y py] e pos) (sSetR f i) := by
  obtain ⟨t, p, ge⟩ := he.ex
  refine ⟨_, ps_set hN hi hx p hs hf, fun σ H Q ρ st μ re s h => ?_⟩
  refine ge σ H _ ρ st μ re s ((Post.bind.mp h).imp fun d st1 q => ?_)
  intro μ1 H1 v e1 s1 r1
  exact (Post.pure.mp q : KC X.K ca μ H Q (.nx _) st1) μ1 H1 e1 s1 _ ((re.mono e1).set i r1)
theorem dsr_if (hc : DT ca E0 X c ft) (ha : DSsr ca E X sa fs) (hb : DSsr ca E X sb gs) : DSr ca E X (.If c sa sb pos) (sIfR ft fs gs) := by
  obtain ⟨tc, pc, gc⟩ := hc.ex
  obtain ⟨ta, pa, ga⟩ := ha.ex
  obtain ⟨tb, pb, gb⟩ := hb.ex
  refine ⟨_, ps_if pc pa pb, fun σ H Q ρ st μ re s h => ?_⟩
  refine gt_r gc re s h fun k st1 μ1 H1 e1 s1 re1 h1 => ?_
  cases k with
  | true => exact iteT (ga σ H1 Q ρ st1 μ1 re1 s1 (Post.imp h1 fun a st z => z.mono e1))
  | false => exact iteF (gb σ H1 Q ρ st1 μ1 re1 s1 (Post.imp h1 fun a st z => z.mono e1))
theorem dssr_one (h1 : DSr ca E X s1 fs) : DSsr ca E X [s1] fs := let ⟨t, p, gt⟩ := h1.ex; ⟨t, pss_one p, gt⟩
end
end DL

set_option Elab.async false
set_option linter.all false
set_option maxRecDepth 100000
set_option maxHeartbeats 4000000
namespace DL
open PySem L2 PySem.Spec PyProof.Rows

/-! ### the suite of an except clause: by values, no object of the store changes -/
abbrev UE := Nat → Option (List (Str × D)) → En → Option D
abbrev UEs := Nat → Option (List (Str × D)) → En → Option (List D)
abbrev US := Nat → Option (List (Str × D)) → En → Option Ctl
structure InS (K : PySem.W.Frag) (ca : Nat → Addr) (oi : Option Nat) (a : Addr) (cls : Value) (d : Option Addr) (σ : L2.St) (H : Hp) (ρ : En) (st : Sto) (μ : List Addr) (c : Nat) (fs : Option (List (Str × D))) : Prop where
  cls : cls = .ref (ca c)
  xf : XFs K μ H d fs
  nm : ∀ i, oi = some i → σ[i]? = some (some (.ref a))
  env : EnvR K μ H ρ σ
  sim : Sim K ca μ st H
structure DU (ca : Nat → Addr) (oi : Option Nat) (X : Cx) (e : Expr) (g : UE) : Prop where
  ex : ∀ a oe cls d pn, Zc cls d oe → (∃ vs, oe.data = .fields vs) → ∃ t, PE (X.suite a ((a, oe) :: pn)) e t ∧ ∀ σ H Q ρ st μ c fs v, InS X.K ca oi a cls d σ H ρ st μ c fs → g c fs ρ = some v →
    (∀ H' w, Ext X.K μ H μ H' → InS X.K ca oi a cls d σ H' ρ st μ c fs → Rep X.K μ H' v w → Q w H') → t σ H Q
structure DUA (ca : Nat → Addr) (oi : Option Nat) (X : Cx) (es : List Expr) (g : UEs) : Prop where
  ex : ∀ a oe cls d pn, Zc cls d oe → (∃ vs, oe.data = .fields vs) → ∃ t, PA (X.suite a ((a, oe) :: pn)) es t ∧ ∀ σ H Q ρ st μ c fs v, InS X.K ca oi a cls d σ H ρ st μ c fs → g c fs ρ = some v →
    (∀ H' w, Ext X.K μ H μ H' → InS X.K ca oi a cls d σ H' ρ st μ c fs → RepL X.K μ H' v w → Q w H') → t σ H Q
structure DUT (ca : Nat → Addr) (oi : Option Nat) (X : Cx) (e : Expr) (g : UE) : Prop where
  ex : ∀ a oe cls d pn, Zc cls d oe → (∃ vs, oe.data = .fields vs) → ∃ t, PT (X.suite a ((a, oe) :: pn)) e t ∧ ∀ σ H Q ρ st μ c fs b, InS X.K ca oi a cls d σ H ρ st μ c fs → g c fs ρ = some (.bl b) →
    (∀ H', Ext X.K μ H μ H' → InS X.K ca oi a cls d σ H' ρ st μ c fs → Q b H') → t σ H Q
structure DUW (ca : Nat → Addr) (oi : Option Nat) (X : Cx) (e : Expr) (g : UE) : Prop where
  ex : ∀ a oe cls d pn, Zc cls d oe → (∃ vs, oe.data = .fields vs) → ∃ t, PW (X.suite a ((a, oe) :: pn)) e t ∧ ∀ σ H Q ρ st μ c fs b, InS X.K ca oi a cls d σ H ρ st μ c fs → g c fs ρ = some (.bl b) →
    (∀ H', Ext X.K μ H μ H' → InS X.K ca oi a cls d σ H' ρ st μ c fs → Q b H') → t σ H Q
structure DUs (ca : Nat → Addr) (oi : Option Nat) (X : Cx) (ss : List Stmt) (h : US) : Prop where
  ex : ∀ a oe cls d pn, Zc cls d oe → (∃ vs, oe.data = .fields vs) → ∃ t, PSs (X.suite a ((a, oe) :: pn)) ss t ∧ ∀ σ H (Q : Ends) ρ st μ c fs ctl, InS X.K ca oi a cls d σ H ρ st μ c fs → h c fs ρ = some ctl →
    (∀ H', Ext X.K μ H μ H' → Sim X.K ca μ st H' → match ctl with
      | .rt v => ∀ w, Rep X.K μ H' v w → Q.rt w H'
      | .nx ρ' => ∀ σ', EnvR X.K μ H' ρ' σ' → Q.nx σ' H'
      | _ => False) → t Q σ H
theorem InS.fresh {K : PySem.W.Frag} {ca : Nat → Addr} {oi : Option Nat} {a p : Addr} {cls : Value} {d : Option Addr} {σ : L2.St} {H : Hp} {ρ : En} {st : Sto} {μ : List Addr} {c : Nat} {fs : Option (List (Str × D))} {o : HO} (h : InS K ca oi a cls d σ H ρ st μ c fs) (hp : H p = none) :
    InS K ca oi a cls d σ (upd H p o) ρ st μ c fs := by
  have ex : Ext K μ H μ (upd H p o) := .updM (.inl hp)
  refine ⟨h.cls, ?_, h.nm, h.env.mono ex, h.sim.fresh hp⟩
  have := h.xf
  cases fs with
  | none => exact this
  | some fs =>
    obtain ⟨dd, fvs, e, e2, r⟩ := this
    exact ⟨dd, fvs, e, by rw [upd_ne (ne_of_none e2 hp)]; exact e2, r.mono ex⟩
section
variable {X : Cx} {ca : Nat → Addr} {oi : Option Nat} {e f : Expr} {es : List Expr} {pos : Pos} {g h : UE} {ga : UEs}
theorem du_const {d : D} (hp : ∀ a oe pn, ∃ v, PE (X.suite a ((a, oe) :: pn)) e (fun σ H Q => Q v H) ∧ ∀ K μ H, Rep K μ H d v) : DU ca oi X e fun _ _ _ => some d :=
  ⟨fun a oe cls dd pn _ _ => by
    obtain ⟨v, p, r⟩ := hp a oe pn
    refine ⟨_, p, fun σ H Q ρ st μ c fs v' I hg k => ?_⟩
    cases hg
    exact k H v .refl I (r _ _ _)⟩
theorem du_int {i j} : DU ca oi X (.Constant (.int i) j pos) fun _ _ _ => some (.int i) := du_const fun a oe pn => ⟨_, pe_int, fun _ _ _ => rep_int.mpr rfl⟩
theorem du_bl {b j} : DU ca oi X (.Constant (.bool b) j pos) fun _ _ _ => some (.bl b) := du_const fun a oe pn => ⟨_, pe_bl, fun _ _ _ => rep_bl.mpr rfl⟩
theorem du_non {j} : DU ca oi X (.Constant .none j pos) fun _ _ _ => some .non := du_const fun a oe pn => ⟨_, pe_non, fun _ _ _ => rep_non.mpr rfl⟩
theorem du_str {z j} : DU ca oi X (.Constant (.str z) j pos) fun _ _ _ => some (.str z) := du_const fun a oe pn => ⟨_, pe_str, fun _ _ _ => rep_str.mpr rfl⟩
def uVar (i : Nat) : UE := fun _ _ ρ => match ρ[i]? with | some o => o | none => none
theorem du_var (i : Nat) {x : Str} (hN : X.N[i]? = some x := by rfl) (hv : Vis X.env.scope x := by first | exact Or.inl rfl | exact Or.inr (Or.inl rfl) | exact Or.inr (Or.inr rfl)) (hd : (x == ("__debug__" : Str)) = false := by decide)
    (hcd : (x == ("__classdict__" : Str)) = false := by decide) : DU ca oi X (.Name x pos) (uVar i) :=
  ⟨fun a oe cls dd pn _ _ => by
    refine ⟨_, pv (X := X.suite a ((a, oe) :: pn)) i hN hv hd hcd, fun σ H Q ρ st μ c fs v I hg k => ?_⟩
    unfold uVar at hg
    cases hi : ρ[i]? with
    | none => rw [hi] at hg; cases hg
    | some o =>
      rw [hi] at hg
      simp only at hg
      subst hg
      obtain ⟨w, h1, h2⟩ := I.env.2 i v hi
      exact ⟨w, h1, k H w .refl I h2⟩⟩
/-- the error's field -/
def uFld (c0 : Nat) (n : Str) : UE := fun c fs _ => if c = c0 then fs.bind fun l => l.lookup n else none
theorem du_fld {c0 : Nat} {n x : Str} {i : Nat} {p' : Pos} (T : XfC X.K (ca c0)) (hno : PySem.W.findIn X.K (.ref (ca c0)) n = some none) (hoi : oi = some i := by rfl) (hN : X.N[i]? = some x := by rfl)
    (hv : Vis X.env.scope x := by first | exact Or.inl rfl | exact Or.inr (Or.inl rfl) | exact Or.inr (Or.inr rfl)) (hd : (x == ("__debug__" : Str)) = false := by decide) (hcd : (x == ("__classdict__" : Str)) = false := by decide)
    (hb : attributeBase (.Name x p') n X.env (eval (.Name x p') X.env) = eval (.Name x p') X.env := by rfl) : DU ca oi X (.Attribute (.Name x p') n pos) (uFld c0 n) :=
  ⟨fun a oe cls dd pn hz hf => by
    refine ⟨_, pe_xf T hno hz hf (pv (X := X.suite a ((a, oe) :: pn)) i hN hv hd hcd) hb, fun σ H Q ρ st μ c fs v I hg k => ?_⟩
    unfold uFld at hg
    split at hg
    · rename_i hc
      subst hc
      cases fs with
      | none => cases hg
      | some l =>
        have hl : l.lookup n = some v := hg
        obtain ⟨d', fvs, e1, e2, r⟩ := I.xf
        obtain ⟨w, h1, h2⟩ := (lookF r).1 v hl
        exact ⟨.ref a, I.nm i hoi, rfl, I.cls, d', fvs, w, e1, e2, h1, k H w .refl I h2⟩
    · cases hg⟩
/-- isinstance of the error -/
structure ExI (K : PySem.W.Frag) (C : Addr) : Prop where
  ga : PySem.W.findIn K (.ref C) "__getattribute__" = some (some (.builtin "BaseException.__getattribute__"))
  gg : PySem.W.findIn K (.ref C) "__getattr__" = some none
  sb : PySem.W.subIn K (.ref C) (.type "BaseException") = some true
  hd : PySem.W.hasDictIn K C = true
  ty : PySem.W.typeIn K (.ref C) = some (.type "type")
  ac : PySem.W.findIn K (.ref C) "__class__" = some (some (.builtin "object.__class__"))
  sp : PySem.W.specialIn K (.builtin "object.__class__") "__get__" = some (some (.builtin "getset_descriptor.__get__"))
  tk : PySem.W.takesIn K (.builtin "object.__class__") = some true
  ob : PySem.W.mroIn K C (.type "object") = some true
theorem ExI.cl {K : PySem.W.Frag} {C : Addr} (h : ExI K C) : (PySem.W.clsIn K C).isSome = true := by
  obtain ⟨cd, e, _⟩ := PySem.W.any_some h.hd
  rw [e]; rfl
theorem ExI.xf {K : PySem.W.Frag} {C : Addr} (h : ExI K C) : XfC K C := ⟨h.ga, h.gg, h.sb, h.hd⟩
theorem ExI.exm {K : PySem.W.Frag} {C : Addr} {cls : Value} {b : Bool} (h : ExI K C) (s : PySem.W.subIn K cls (.ref C) = some b) : PySem.W.exmOne K cls (.ref C) = some b := PySem.W.exm_ref h.sb h.hd h.ty s
theorem ExI.kit {K : PySem.W.Frag} {C : Addr} {t : Value} {b : Bool} (h : ExI K C) (s : PySem.W.subIn K t (.ref C) = some b) (hn : (t == .ref C) = true → b = true) : PySem.W.kitOne K t (.ref C) = some b := by
  unfold PySem.W.kitOne
  split
  · rename_i e; rw [hn e]
  · unfold PySem.W.kitCls
    simp only
    rw [h.cl, h.ty]
    simpa using s
theorem kit_ty {K : PySem.W.Frag} {T : String} {C : Addr} {b : Bool} (s : PySem.W.subIn K (.ref C) (.type T) = some b) (hm : PySem.W.kitMeta T = true) : PySem.W.kitOne K (.ref C) (.type T) = some b := by
  unfold PySem.W.kitOne PySem.W.kitCls
  rw [if_neg (by intro z; have := beq_iff_eq.mp z; cases this)]
  simp only
  rw [if_pos hm]
  exact s
def rIsX (K : PySem.W.Frag) (C a : Addr) (d : Option Addr) : List V → Hp → VK → Prop := fun xs H Q => ∃ (c : V) (cv : Value) (b : Bool), xs = [.ref a, c] ∧ (∀ u, RelV c u → u = cv) ∧ PySem.W.kitOne K (.ref C) cv = some b ∧ (∀ dd, d = some dd → ∃ fs, H dd = some (.xd fs)) ∧ Q (.bl b) H
theorem inst_at {a C : Addr} {oe : Obj} {d : Option Addr} {pn : List (Addr × Obj)} {pins : List (Addr × Obj)} {σ : L2.St} {H : Hp} {s : Shared} (hz : Zc (.ref C) d oe) (hf : ∃ vs, oe.data = .fields vs) (I : Inv (X.suite a ((a, oe) :: pn)) pins σ H s)
    (hx : ∀ dd, d = some dd → ∃ fs, H dd = some (.xd fs)) : ∃ od, PySem.W.InstAt s.heap a oe C od := by
  obtain ⟨hget, _⟩ := I.pin (a, oe) (List.mem_append.mpr (.inl List.mem_cons_self))
  obtain ⟨vs, hv⟩ := hf
  have hn : PySem.W.notCls oe := by unfold PySem.W.notCls; rw [hv] <;> rfl
  cases d with
  | none => exact ⟨none, hget, hz.1, hn, by rw [hz.2]; exact trivial⟩
  | some dd =>
    obtain ⟨fs, ea⟩ := hx dd rfl
    have ho : ObjOk X.prog X.w H s.heap dd (.xd fs) := I.hok dd _ ea
    obtain ⟨mA, hns, hr⟩ := ho
    obtain ⟨od, e, hl⟩ := lookIn_ns hns
    exact ⟨some od, hget, hz.1, hn, by rw [hz.2]; exact e⟩
theorem call_isX {a C : Addr} {oe : Obj} {d : Option Addr} {pn : List (Addr × Obj)} (T : ExI X.K C) (hz : Zc (.ref C) d oe) (hf : ∃ vs, oe.data = .fields vs) : CallR (X.suite a ((a, oe) :: pn)) (.builtin "isinstance") (rIsX X.K C a d) := by
  rintro pins s σ H xs us Q I r ⟨c, cv, b, rfl, hcv, e, hx, q⟩
  obtain ⟨u1, u2, rfl, r1, r2⟩ := vals2 r
  cases r1
  obtain rfl := hcv _ r2
  obtain ⟨od, J⟩ := inst_at hz hf I hx
  exact PySem.W.kia_one (PySem.W.kitx_exc T.cl T.ga T.gg T.sb T.ac T.sp T.tk T.ob) I.kIn J e nofun fun tk => ⟨.bl b, H, I.tok tk, rfl, q⟩
def uIs (c0 : Nat) (b : Bool) : UE := fun c _ _ => if c = c0 then some (.bl b) else none
theorem XFs.has {K : PySem.W.Frag} {μ : List Addr} {H : Hp} {d : Option Addr} {fs : Option (List (Str × D))} (h : XFs K μ H d fs) : ∀ dd, d = some dd → ∃ gs, H dd = some (.xd gs) := by
  rintro dd rfl
  cases fs with
  | none => cases (show some dd = none from h)
  | some fs => obtain ⟨d', fvs, e, e2, _⟩ := h; cases e; exact ⟨fvs, e2⟩
/-- isinstance(error, a class of the program) -/
theorem du_isi {c0 k : Nat} {b : Bool} {x y : Str} {i : Nat} {p p' py : Pos} (T : ExI X.K (ca c0)) (hk : PySem.W.kitOne X.K (.ref (ca c0)) (.ref (ca k)) = some b) (hg : Gl X "isinstance") (hm : X.mg "isinstance" = none) (hv0 : bootBuiltins "isinstance" = some (.builtin "isinstance"))
    (hgy : Gl X y) (hmy : X.mg y = some (.ref (ca k))) (hoi : oi = some i := by rfl) (hN : X.N[i]? = some x := by rfl) (hv : Vis X.env.scope x := by first | exact Or.inl rfl | exact Or.inr (Or.inl rfl) | exact Or.inr (Or.inr rfl)) (hd : (x == ("__debug__" : Str)) = false := by decide)
    (hcd : (x == ("__classdict__" : Str)) = false := by decide) (hdy : (y == ("__debug__" : Str)) = false := by decide)
    (hs : starEach [.Name x p', .Name y py] X.env = (false, eval (.Name x p') X.env) :: starEach [.Name y py] X.env := by rfl) (hs2 : starEach [.Name y py] X.env = (false, eval (.Name y py) X.env) :: starEach [] X.env := by rfl)
    (hpl : (backTo pos (starEach [.Name y py] X.env)).any (·.1) = false := by rfl) : DU ca oi X (.Call (.Name "isinstance" p) [.Name x p', .Name y py] [] pos) (uIs c0 b) :=
  ⟨fun a oe cls dd pn hz hf => by
    by_cases hcl : cls = .ref (ca c0)
    · subst hcl
      have pe := pe_callB (p := p) (X := X.suite a ((a, oe) :: pn)) (call_isX T hz hf) hg hm hv0 (pa_cons (pv (X := X.suite a ((a, oe) :: pn)) i hN hv hd hcd) (pa_cons (pe_glob (v := .ref (ca k)) hgy hmy rfl hdy) pa_nil hs2) hs) (by decide) (by decide) hs hpl
      refine ⟨_, pe, fun σ H Q ρ st μ c fs v I hg k' => ?_⟩
      unfold uIs at hg
      split at hg
      · cases hg
        exact ⟨.ref a, I.nm i hoi, .ref (ca k), .ref (ca k), b, rfl, fun u hu => hu, hk, I.xf.has, k' H _ .refl I (rep_bl.mpr rfl)⟩
      · cases hg
    · refine ⟨fun _ _ _ => False, ⟨fun _ _ _ _ _ _ z => z.elim⟩, fun σ H Q ρ st μ c fs v I hg k' => ?_⟩
      unfold uIs at hg
      split at hg
      · rename_i hc; subst hc; exact hcl I.cls
      · cases hg⟩
/-- .. and a built-in class -/
theorem du_isb {c0 : Nat} {b : Bool} {x y : Str} {T' : String} {i : Nat} {p p' py : Pos} (T : ExI X.K (ca c0)) (hk : PySem.W.kitOne X.K (.ref (ca c0)) (.type T') = some b) (hg : Gl X "isinstance") (hm : X.mg "isinstance" = none) (hv0 : bootBuiltins "isinstance" = some (.builtin "isinstance"))
    (hgy : Gl X y) (hmy : X.mg y = none) (hvy : bootBuiltins y = some (.type T')) (hn : y ≠ "__name__" := by decide) (hoi : oi = some i := by rfl) (hN : X.N[i]? = some x := by rfl) (hv : Vis X.env.scope x := by first | exact Or.inl rfl | exact Or.inr (Or.inl rfl) | exact Or.inr (Or.inr rfl)) (hd : (x == ("__debug__" : Str)) = false := by decide)
    (hcd : (x == ("__classdict__" : Str)) = false := by decide) (hdy : (y == ("__debug__" : Str)) = false := by decide)
    (hs : starEach [.Name x p', .Name y py] X.env = (false, eval (.Name x p') X.env) :: starEach [.Name y py] X.env := by rfl) (hs2 : starEach [.Name y py] X.env = (false, eval (.Name y py) X.env) :: starEach [] X.env := by rfl)
    (hpl : (backTo pos (starEach [.Name y py] X.env)).any (·.1) = false := by rfl) : DU ca oi X (.Call (.Name "isinstance" p) [.Name x p', .Name y py] [] pos) (uIs c0 b) :=
  ⟨fun a oe cls dd pn hz hf => by
    by_cases hcl : cls = .ref (ca c0)
    · subst hcl
      have pe := pe_callB (p := p) (X := X.suite a ((a, oe) :: pn)) (call_isX T hz hf) hg hm hv0 (pa_cons (pv (X := X.suite a ((a, oe) :: pn)) i hN hv hd hcd) (pa_cons (pe_bltn (v := .ty T') hgy hmy hvy rfl hn hdy) pa_nil hs2) hs) (by decide) (by decide) hs hpl
      refine ⟨_, pe, fun σ H Q ρ st μ c fs v I hg k' => ?_⟩
      unfold uIs at hg
      split at hg
      · cases hg
        exact ⟨.ref a, I.nm i hoi, .ty T', .type T', b, rfl, fun u hu => hu, hk, I.xf.has, k' H _ .refl I (rep_bl.mpr rfl)⟩
      · cases hg
    · refine ⟨fun _ _ _ => False, ⟨fun _ _ _ _ _ _ z => z.elim⟩, fun σ H Q ρ st μ c fs v I hg k' => ?_⟩
      unfold uIs at hg
      split at hg
      · rename_i hc; subst hc; exact hcl I.cls
      · cases hg⟩
end
end DL

set_option Elab.async false
set_option linter.all false
set_option maxRecDepth 100000
set_option maxHeartbeats 4000000
namespace DL
open PySem L2 PySem.Spec PyProof.Rows
def uNot (g : UE) : UE := fun c fs ρ => match g c fs ρ with
  | some (.bl b) => some (.bl (!b))
  | _ => none
def uNil : UEs := fun _ _ _ => some []
def uCons (g : UE) (h : UEs) : UEs := fun c fs ρ => (g c fs ρ).bind fun x => (h c fs ρ).map fun xs => x :: xs
def uTup (h : UEs) : UE := fun c fs ρ => (h c fs ρ).bind fun xs => if xs.length ≤ sizeLine then some (.tup xs) else none
def uOr (g h : UE) : UE := fun c fs ρ => match g c fs ρ with
  | some (.bl true) => some (.bl true)
  | some (.bl false) => h c fs ρ
  | _ => none
section
variable {X : Cx} {ca : Nat → Addr} {oi : Option Nat} {e f c0 : Expr} {es rest : List Expr} {pos : Pos} {g h : UE} {ga : UEs}
theorem du_not (hg : DU ca oi X e g) : DU ca oi X (.UnaryOp .Not e pos) (uNot g) :=
  ⟨fun a oe cls dd pn hz hf => by
    obtain ⟨t, p, q⟩ := hg.ex a oe cls dd pn hz hf
    refine ⟨_, pe_not p, fun σ H Q ρ st μ c fs v I hv k => ?_⟩
    unfold uNot at hv
    split at hv
    · rename_i b hb
      cases hv
      refine q σ H _ ρ st μ c fs _ I hb fun H' w e' I' r => ?_
      exact ⟨b, rep_bl.mp r, k H' _ e' I' (rep_bl.mpr rfl)⟩
    · cases hv⟩
theorem dua_nil : DUA ca oi X [] uNil := ⟨fun a oe cls dd pn _ _ => ⟨_, pa_nil, fun σ H Q ρ st μ c fs v I hv k => by cases hv; exact k H _ .refl I (repL_nil.mpr rfl)⟩⟩
theorem dua_cons (h1 : DU ca oi X e g) (h2 : DUA ca oi X es ga) (hs : starEach (e :: es) X.env = (false, eval e X.env) :: starEach es X.env := by rfl) : DUA ca oi X (e :: es) (uCons g ga) :=
  ⟨fun a oe cls dd pn hz hf => by
    obtain ⟨t, p, q⟩ := h1.ex a oe cls dd pn hz hf
    obtain ⟨u, p2, q2⟩ := h2.ex a oe cls dd pn hz hf
    refine ⟨_, pa_cons p p2 hs, fun σ H Q ρ st μ c fs v I hv k => ?_⟩
    unfold uCons at hv
    obtain ⟨x, hx, hv⟩ := Option.bind_eq_some_iff.mp hv
    obtain ⟨xs, hxs, rfl⟩ := Option.map_eq_some_iff.mp hv
    refine q σ H _ ρ st μ c fs _ I hx fun H1 w e1 I1 r1 => ?_
    refine q2 σ H1 _ ρ st μ c fs _ I1 hxs fun H2 ws e2 I2 r2 => ?_
    exact k H2 _ (e1.trans e2) I2 (repL_cons.mpr ⟨w, ws, rfl, r1.mono e2, r2⟩)⟩
theorem du_tup {kk : Nat} (h1 : DUA ca oi X es ga) : DU ca oi X (.Tuple es kk pos) (uTup ga) :=
  ⟨fun a oe cls dd pn hz hf => by
    obtain ⟨t, p, q⟩ := h1.ex a oe cls dd pn hz hf
    refine ⟨_, pe_tupF p, fun σ H Q ρ st μ c fs v I hv k => ?_⟩
    unfold uTup at hv
    obtain ⟨xs, hxs, hv⟩ := Option.bind_eq_some_iff.mp hv
    split at hv
    · rename_i hz
      cases hv
      refine q σ H _ ρ st μ c fs _ I hxs fun H1 ws e1 I1 r1 => ⟨by rw [r1.length]; exact hz, fun p o hp hd => ?_⟩
      have e2 : Ext X.K μ H1 μ (upd H1 p (.frz o (.tup ws))) := .updM (.inl hp)
      exact k _ _ (e1.trans e2) (I1.fresh hp) (rep_tup.mpr ⟨p, ws, rfl, .inl ⟨o, hd, upd_same⟩, r1.mono e2⟩)
    · cases hv⟩
theorem dut_val (hg : DU ca oi X e g) (he : ∀ (a : Addr) (pn : List (Addr × Obj)) whole, isTrue e X.env whole = (do let v ← whole; standAt e.pos; holding [v] (truthy v)) := by intro _ _ _; rfl) : DUT ca oi X e g :=
  ⟨fun a oe cls dd pn hz hf => by
    obtain ⟨t, p, q⟩ := hg.ex a oe cls dd pn hz hf
    refine ⟨_, pt_val p (he a pn), fun σ H Q ρ st μ c fs b I hv k => ?_⟩
    exact q σ H _ ρ st μ c fs _ I hv fun H' w e' I' r => ⟨b, rep_bl.mp r, k H' e' I'⟩⟩
theorem dut_not (hg : DUT ca oi X e g) : DUT ca oi X (.UnaryOp .Not e pos) (uNot g) :=
  ⟨fun a oe cls dd pn hz hf => by
    obtain ⟨t, p, q⟩ := hg.ex a oe cls dd pn hz hf
    refine ⟨_, pt_not p, fun σ H Q ρ st μ c fs b I hv k => ?_⟩
    unfold uNot at hv
    split at hv
    · rename_i b' hb
      cases hv
      exact q σ H _ ρ st μ c fs _ I hb fun H' e' I' => k H' e' I'
    · cases hv⟩
theorem duw_or1 (hg : DUT ca oi X e g) : DUW ca oi X (.BoolOp .Or [e] pos) g :=
  ⟨fun a oe cls dd pn hz hf => let ⟨t, p, q⟩ := hg.ex a oe cls dd pn hz hf; ⟨t, pw_or1 p, q⟩⟩
theorem duw_or (h1 : DUT ca oi X e g) (h2 : DUW ca oi X (.BoolOp .Or (f :: rest) pos) h) : DUW ca oi X (.BoolOp .Or (e :: f :: rest) pos) (uOr g h) :=
  ⟨fun a oe cls dd pn hz hf => by
    obtain ⟨t, p, q⟩ := h1.ex a oe cls dd pn hz hf
    obtain ⟨u, p2, q2⟩ := h2.ex a oe cls dd pn hz hf
    refine ⟨_, pw_or p p2, fun σ H Q ρ st μ c fs b I hv k => ?_⟩
    unfold uOr at hv
    split at hv
    · rename_i hb
      cases hv
      exact q σ H _ ρ st μ c fs _ I hb fun H' e' I' => iteT (k H' e' I')
    · rename_i hb
      refine q σ H _ ρ st μ c fs _ I hb fun H1 e1 I1 => iteF ?_
      exact q2 σ H1 _ ρ st μ c fs _ I1 hv fun H2 e2 I2 => k H2 (e1.trans e2) I2
    · cases hv⟩
theorem DUW.dt (h : DUW ca oi X e g) : DUT ca oi X e g := ⟨fun a oe cls dd pn hz hf => let ⟨t, p, q⟩ := h.ex a oe cls dd pn hz hf; ⟨t, p.pt, q⟩⟩
/-! statements -/
def uRet (g : UE) : US := fun c fs ρ => (g c fs ρ).map .rt
def uSet (i : Nat) (g : UE) : US := fun c fs ρ => (g c fs ρ).map fun v => .nx (ρ.set i (some v))
def uIfRet (t g : UE) (r : US) : US := fun c fs ρ => match t c fs ρ with
  | some (.bl true) => (g c fs ρ).map .rt
  | some (.bl false) => r c fs ρ
  | _ => none
theorem dus_ret (hg : DU ca oi X e g) : DUs ca oi X [.Return (some e) pos] (uRet g) :=
  ⟨fun a oe cls dd pn hz hf => by
    obtain ⟨t, p, q⟩ := hg.ex a oe cls dd pn hz hf
    refine ⟨_, pss_one (ps_ret p), fun σ H Q ρ st μ c fs ctl I hv k => ?_⟩
    obtain ⟨v, hv', rfl⟩ := Option.map_eq_some_iff.mp hv
    exact q σ H _ ρ st μ c fs _ I hv' fun H' w e' I' r => k H' e' I'.sim w r⟩
theorem dus_set {i : Nat} {y : Str} {py : Pos} (hN : X.N.Nodup) (hg : DU ca oi X e g) (hi : X.N[i]? = some y := by rfl) (hx : Loc X.env.scope y := by first | exact .inl rfl | exact .inr rfl)
    (hs : swapsWith e (some (.Name y py)) pos.line X.env = pure false := by rfl) (hf' : X.fn y = true ∨ X.env.scope.names.lookup y = some .local := by first | exact .inl rfl | exact .inr rfl) : DUs ca oi X [.Assign [.Name y py] e pos] (uSet i g) :=
  ⟨fun a oe cls dd pn hz hf => by
    obtain ⟨t, p, q⟩ := hg.ex a oe cls dd pn hz hf
    refine ⟨_, pss_one (ps_set (X := X.suite a ((a, oe) :: pn)) hN hi hx p hs hf'), fun σ H Q ρ st μ c fs ctl I hv k => ?_⟩
    obtain ⟨v, hv', rfl⟩ := Option.map_eq_some_iff.mp hv
    exact q σ H _ ρ st μ c fs _ I hv' fun H' w e' I' r => k H' e' I'.sim _ (I'.env.set i r)⟩
theorem dus_ifret {tt : UE} {r : US} {p1 : Pos} {ss : List Stmt} (ht : DUT ca oi X c0 tt) (hg : DU ca oi X e g) (hr : DUs ca oi X ss r) : DUs ca oi X (.If c0 [.Return (some e) p1] [] pos :: ss) (uIfRet tt g r) :=
  ⟨fun a oe cls dd pn hz hf => by
    obtain ⟨t1, p1', q1⟩ := ht.ex a oe cls dd pn hz hf
    obtain ⟨t, p, q⟩ := hg.ex a oe cls dd pn hz hf
    obtain ⟨u, p2, q2⟩ := hr.ex a oe cls dd pn hz hf
    refine ⟨_, pss_cons (ps_if p1' (pss_one (ps_ret p)) pss_nil) p2, fun σ H Q ρ st μ c fs ctl I hv k => ?_⟩
    unfold uIfRet at hv
    split at hv
    · rename_i hb
      obtain ⟨v, hv', rfl⟩ := Option.map_eq_some_iff.mp hv
      refine q1 σ H _ ρ st μ c fs _ I hb fun H1 e1 I1 => iteT ?_
      exact q σ H1 _ ρ st μ c fs _ I1 hv' fun H' w e' I' r => k H' (e1.trans e') I'.sim w r
    · rename_i hb
      refine q1 σ H _ ρ st μ c fs _ I hb fun H1 e1 I1 => iteF ?_
      exact q2 σ H1 Q ρ st μ c fs _ I1 hv fun H' e' s' => k H' (e1.trans e') s'
    · cases hv⟩
end

/-! ### try -/
structure HdE where
  k : Nat
  oi : Option Nat
  h : US
def runH (h : HdE) (c : Nat) (fs : Option (List (Str × D))) (ρ : En) : Option Ctl := match h.oi with
  | none => h.h c fs ρ
  | some i => if i < ρ.length then (match h.h c fs (ρ.set i none) with
    | some (.nx ρ') => some (.nx (ρ'.set i none))
    | r => r) else none
def tryH (ex : Nat → Nat → Option Bool) : List HdE → Nat → Option (List (Str × D)) → En → M Ctl
  | [], c, fs, _ => fun st => .raise c fs st
  | h :: r, c, fs, ρ => fun st => match ex c h.k with
    | some true => (match runH h c fs ρ with
      | some (.rt v) => .ok (.rt v) st
      | some (.nx ρ') => .ok (.nx ρ') st
      | _ => .stuck)
    | some false => tryH ex r c fs ρ st
    | none => .stuck
def sTry (ex : Nat → Nat → Option Bool) (hs : List HdE) (b : En → M Ctl) : En → M Ctl := fun ρ st => match b ρ st with
  | .raise c fs st' => tryH ex hs c fs ρ st'
  | r => r
section
variable {X : Cx} {ca : Nat → Addr} {E : XK} {pos : Pos} {body : List Stmt} {fb : En → M Ctl} {ex : Nat → Nat → Option Bool}
inductive HdD (ca : Nat → Addr) (ex : Nat → Nat → Option Bool) (X : Cx) : List ExceptHandler → List HdE → Prop
  | nil : HdD ca ex X [] []
  | anon {x : Str} {k : Nat} {h : US} {b₀ : Stmt} {ss : List Stmt} {np pos' : Pos} {hds : List ExceptHandler} {l : List HdE}
      (hc : Names X x (.ref (ca k))) (he : ∀ c b, ex c k = some b → PySem.W.exmOne X.K (.ref (ca c)) (.ref (ca k)) = some b) (hsu : DUs ca none X (b₀ :: ss) h) (r : HdD ca ex X hds l) :
      HdD ca ex X (.ExceptHandler (some (.Name x np)) none (b₀ :: ss) pos' :: hds) (⟨k, none, h⟩ :: l)
  | named {x n : Str} {i k : Nat} {h : US} {b₀ : Stmt} {ss : List Stmt} {np pos' : Pos} {hds : List ExceptHandler} {l : List HdE}
      (hi : X.N[i]? = some n) (hln : X.env.kindOf n = some .local) (hc : Names X x (.ref (ca k))) (he : ∀ c b, ex c k = some b → PySem.W.exmOne X.K (.ref (ca c)) (.ref (ca k)) = some b) (hsu : DUs ca (some i) X (b₀ :: ss) h) (r : HdD ca ex X hds l) :
      HdD ca ex X (.ExceptHandler (some (.Name x np)) (some n) (b₀ :: ss) pos' :: hds) (⟨k, some i, h⟩ :: l)
theorem envR_none {K : PySem.W.Frag} {μ : List Addr} {H : Hp} {ρ : En} {σ : L2.St} (i : Nat) (v : Option V) (h : EnvR K μ H ρ σ) : EnvR K μ H (ρ.set i none) (σ.set i v) := by
  refine ⟨by simp [h.1], fun j d q => ?_⟩
  by_cases hj : i = j
  · subst hj
    by_cases hl : i < ρ.length
    · rw [List.getElem?_set_self hl] at q; cases q
    · rw [List.getElem?_eq_none (by simpa using hl)] at q; cases q
  · rw [List.getElem?_set_ne hj] at q
    obtain ⟨w, h1, h2⟩ := h.2 j d q
    exact ⟨w, by rw [List.getElem?_set_ne hj]; exact h1, h2⟩
abbrev Wo (E : XK) : WX := fun cls d _ H => E cls d H
theorem hd_ok {hds : List ExceptHandler} {l : List HdE} (hh : HdD ca ex X hds l) : ∃ l', HdsA X hds l' ∧ ∀ (Q : Ends) (c : Nat) (fs : Option (List (Str × D))) (ρ : En) (st : Sto) (σ : L2.St) (μ : List Addr) (H : Hp), Post X.K ca E μ H (tryH ex l c fs ρ st) (KC X.K ca μ H Q) → EnvR X.K μ H ρ σ →
    ∀ μ' H' od, Ext X.K μ H μ' H' → Sim X.K ca μ' st H' → XFs X.K μ' H' od fs → wH X.K (Wo E) Q l' (.ref (ca c)) od σ H' := by
  induction hh with
  | nil => exact ⟨[], .nil, fun Q c fs ρ st σ μ H h re μ' H' od e s x => h μ' H' od e s x⟩
  | @anon x k h b₀ ss np pos' hds l hc he hsu r ih =>
    obtain ⟨l', a1, a2⟩ := ih
    let ts : HT' := fun a cls d D σ H => ∀ oe pn (hz : Zc cls d oe) (hf : ∃ vs, oe.data = .fields vs), (hsu.ex a oe cls d pn hz hf).choose D σ H
    refine ⟨(.ref (ca k), none, ts) :: l', .anon hc (fun a oe cls d pn hz hf => ⟨fun pins s σ H D I q => (hsu.ex a oe cls d pn hz hf).choose_spec.1.run pins s σ H D I (q oe pn hz hf)⟩) a1, fun Q c fs ρ st σ μ H hp re μ' H' od e s xf => ?_⟩
    unfold tryH at hp
    cases q : ex c k with
    | none => simp only [q] at hp; exact hp.elim
    | some b =>
      simp only [q] at hp
      refine ⟨b, he c b q, fun hb a na => ?_, fun hb => ?_⟩
      · subst hb
        simp only at hp
        intro oe pn hz hf
        split at hp
        · rename_i v hctl
          exact (hsu.ex a oe _ od pn hz hf).choose_spec.2 σ H' Q ρ st μ' c fs _ ⟨rfl, xf, nofun, re.mono e, s⟩ hctl fun H2 e2 s2 => (Post.ok.mp hp : KC X.K ca μ H Q (.rt v) st) μ' H2 (e.trans e2) s2
        · rename_i ρ' hctl
          exact (hsu.ex a oe _ od pn hz hf).choose_spec.2 σ H' Q ρ st μ' c fs _ ⟨rfl, xf, nofun, re.mono e, s⟩ hctl fun H2 e2 s2 => (Post.ok.mp hp : KC X.K ca μ H Q (.nx ρ') st) μ' H2 (e.trans e2) s2
        · exact hp.elim
      · subst hb
        exact a2 Q c fs ρ st σ μ H hp re μ' H' od e s xf
  | @named x n i k h b₀ ss np pos' hds l hi hln hc he hsu r ih =>
    obtain ⟨l', a1, a2⟩ := ih
    let ts : HT' := fun a cls d D σ H => ∀ oe pn (hz : Zc cls d oe) (hf : ∃ vs, oe.data = .fields vs), (hsu.ex a oe cls d pn hz hf).choose D σ H
    refine ⟨(.ref (ca k), some i, ts) :: l', .named hi hln hc (fun a oe cls d pn hz hf => ⟨fun pins s σ H D I q => (hsu.ex a oe cls d pn hz hf).choose_spec.1.run pins s σ H D I (q oe pn hz hf)⟩) a1, fun Q c fs ρ st σ μ H hp re μ' H' od e s xf => ?_⟩
    unfold tryH at hp
    cases q : ex c k with
    | none => simp only [q] at hp; exact hp.elim
    | some b =>
      simp only [q] at hp
      refine ⟨b, he c b q, fun hb a na => ?_, fun hb => ?_⟩
      · subst hb
        simp only at hp
        intro oe pn hz hf
        unfold runH at hp
        simp only at hp
        by_cases hl : i < ρ.length
        · simp only [hl, if_true] at hp
          have hl' : i < σ.length := by rw [← re.1]; exact hl
          have ins : InS X.K ca (some i) a (.ref (ca c)) od (σ.set i (some (.ref a))) H' (ρ.set i none) st μ' c fs :=
            ⟨rfl, xf, fun j hj => by cases hj; exact List.getElem?_set_self hl', envR_none i _ (re.mono e), s⟩
          cases hc' : h c fs (ρ.set i none) with
          | none => rw [hc'] at hp; exact hp.elim
          | some ctl =>
            rw [hc'] at hp
            cases ctl with
            | rt v => exact (hsu.ex a oe _ od pn hz hf).choose_spec.2 _ H' (unset Q i) _ st μ' c fs _ ins hc' fun H2 e2 s2 => (Post.ok.mp hp : KC X.K ca μ H Q (.rt v) st) μ' H2 (e.trans e2) s2
            | nx ρ' =>
              refine (hsu.ex a oe _ od pn hz hf).choose_spec.2 _ H' (unset Q i) _ st μ' c fs _ ins hc' fun H2 e2 s2 σ' re' => ?_
              exact (Post.ok.mp hp : KC X.K ca μ H Q (.nx (ρ'.set i none)) st) μ' H2 (e.trans e2) s2 _ (envR_none i none re')
            | bk ρ' => exact hp.elim
            | ct ρ' => exact hp.elim
        · simp only [hl, if_false] at hp
          exact hp.elim
      · subst hb
        exact a2 Q c fs ρ st σ μ H hp re μ' H' od e s xf
theorem ds_try {h₀ : ExceptHandler} {hds : List ExceptHandler} {l : List HdE} (hst : X.stack = X.env :: X.outer) (hf : X.env.frame = some X.env.locals) (hN : X.N.Nodup) (tk : Takes X (Wo E))
    (hb : ∀ (W : WX) (pn : List (Addr × Obj)) (xe : Value → Shared → Prop), Takes (X.tr pn xe) W → PassesOwn (model X.prog X.w) X.A X.env xe → DSsr ca (WE W) (X.tr pn xe) body fb) (hh : HdD ca ex X (h₀ :: hds) l) :
    DS ca E X (.Try body (h₀ :: hds) [] [] pos) (sTry ex l fb) := by
  obtain ⟨l', a1, a2⟩ := hd_ok (E := E) hh
  let tb : WX → TS := fun W D σ H => ∀ pn xe (tk' : Takes (X.tr pn xe) W) (po : PassesOwn (model X.prog X.w) X.A X.env xe), (hb W pn xe tk' po).ex.choose D σ H
  refine ⟨_, ps_try_h (tb := tb) hst hf hN tk (fun W pn xe tk' po => ⟨fun pins s σ H D I q => (hb W pn xe tk' po).ex.choose_spec.1.run pins s σ H D I (q pn xe tk' po)⟩) a1, fun σ H Q ρ st μ re s h => ?_⟩
  intro pn xe tk' po
  refine (hb _ pn xe tk' po).ex.choose_spec.2 σ H Q ρ st μ re s ?_
  unfold sTry at h
  cases q : fb ρ st with
  | ok ctl st' => rw [q] at h; exact h
  | stuck => rw [q] at h; exact h.elim
  | raise c fs st' =>
    rw [q] at h
    exact fun μ' H' od e s' xf => a2 Q c fs ρ st' σ μ H h re μ' H' od e s' xf
end
def nrE (f : En → M D) : En → M D := fun ρ => nr (f ρ)
theorem de_r {X : Cx} {ca : Nat → Addr} {E : L2.St → XK} {e : Expr} {f : En → M D} (h : DE ca E0 X e f) : DEr ca E X e (nrE f) := h.r
theorem BindsD.nil {K : PySem.W.Frag} {fd : FuncData} {ps : List Str} (h : BindsD K fd ps []) : Binds K fd ps [] := by
  obtain ⟨dvs, ds, h1, h2, h3⟩ := h
  have e := repL_nil.mp (h3 [] (fun _ => none))
  subst e
  cases h1
  exact h2
theorem kit_own {K : PySem.W.Frag} {c k : Addr} {b : Bool} (h : ExI K k) (s1 : PySem.W.subIn K (.ref c) (.ref c) = some true) (s2 : PySem.W.subIn K (.ref c) (.ref k) = some b) : PySem.W.kitOne K (.ref c) (.ref k) = some b :=
  h.kit s2 fun z => by
    have e : c = k := Value.ref.inj (beq_iff_eq.mp z)
    subst e
    rw [s1] at s2
    exact (Option.some.inj s2).symm
/-! isinstance(error, (A, B, ..)) -/
inductive KAny (K : PySem.W.Frag) (ca : Nat → Addr) (c0 : Nat) : List Nat → Bool → Prop
  | nil : KAny K ca c0 [] false
  | cons {k : Nat} {ks : List Nat} {b b' : Bool} (h : PySem.W.kitOne K (.ref (ca c0)) (.ref (ca k)) = some b) (r : KAny K ca c0 ks b') : KAny K ca c0 (k :: ks) (b || b')
theorem kitAny_of {K : PySem.W.Frag} {ca : Nat → Addr} {c0 : Nat} {ks : List Nat} {b : Bool} (h : KAny K ca c0 ks b) : PySem.W.kitAny K (.ref (ca c0)) (ks.map fun k => .ref (ca k)) = some b := by
  induction h with
  | nil => rfl
  | @cons k ks b b' h r ih =>
    unfold PySem.W.kitAny
    simp only [List.map_cons, h]
    cases b with
    | true => rfl
    | false => exact ih
inductive GCs (ca : Nat → Addr) (X : Cx) : List Expr → List Nat → Prop
  | nil : GCs ca X [] []
  | cons {y : Str} {py : Pos} {k : Nat} {es : List Expr} {ks : List Nat} (hg : Gl X y) (hm : X.mg y = some (.ref (ca k))) (r : GCs ca X es ks) (hd : (y == ("__debug__" : Str)) = false := by decide)
      (hs : starEach (.Name y py :: es) X.env = (false, eval (.Name y py) X.env) :: starEach es X.env := by rfl) : GCs ca X (.Name y py :: es) (k :: ks)
theorem gcs_nil {ca : Nat → Addr} {X : Cx} : GCs ca X [] [] := .nil
theorem gcs_cons {ca : Nat → Addr} {X : Cx} {y : Str} {py : Pos} {k : Nat} {es : List Expr} {ks : List Nat} (hg : Gl X y) (hm : X.mg y = some (.ref (ca k))) (r : GCs ca X es ks) (hd : (y == ("__debug__" : Str)) = false := by decide)
      (hs : starEach (.Name y py :: es) X.env = (false, eval (.Name y py) X.env) :: starEach es X.env := by rfl) : GCs ca X (.Name y py :: es) (k :: ks) := .cons hg hm r hd hs
theorem GCs.pa {ca : Nat → Addr} {X : Cx} {es : List Expr} {ks : List Nat} (h : GCs ca X es ks) (a : Addr) (pn : List (Addr × Obj)) : ∃ t, PA (X.suite a pn) es t ∧ ∀ σ H (Q : List V → Hp → Prop), Q (ks.map fun k => V.ref (ca k)) H → t σ H Q := by
  induction h with
  | nil => exact ⟨_, pa_nil, fun σ H Q q => q⟩
  | @cons y py k es ks hg hm r hd hs ih =>
    obtain ⟨t, p, q⟩ := ih
    exact ⟨_, pa_cons (pe_glob (X := X.suite a pn) (v := .ref (ca k)) hg hm rfl hd) p hs, fun σ H Q z => q σ H _ z⟩
def rIsT (K : PySem.W.Frag) (C a : Addr) (d : Option Addr) : List V → Hp → VK → Prop := fun xs H Q => ∃ (tp : Addr) (cs : List Addr) (b : Bool), xs = [.ref a, .ref tp] ∧ SqT K H tp (cs.map V.ref) ∧ PySem.W.kitAny K (.ref C) (cs.map Value.ref) = some b ∧ (∀ dd, d = some dd → ∃ fs, H dd = some (.xd fs)) ∧ Q (.bl b) H
theorem vals_refs : ∀ {cs : List Addr} {its : List Value}, Vals (cs.map V.ref) its → its = cs.map Value.ref
  | [], _, h => by cases h; rfl
  | c :: cs, _, h => by
    cases h with
    | cons r rr =>
      cases r
      rw [vals_refs rr]; rfl
section
variable {X : Cx} {ca : Nat → Addr} {oi : Option Nat} {es : List Expr} {pos : Pos}
theorem call_isT {a C : Addr} {oe : Obj} {d : Option Addr} {pn : List (Addr × Obj)} (T : ExI X.K C) (hz : Zc (.ref C) d oe) (hf : ∃ vs, oe.data = .fields vs) : CallR (X.suite a ((a, oe) :: pn)) (.builtin "isinstance") (rIsT X.K C a d) := by
  rintro pins s σ H xs us Q I r ⟨tp, cs, b, rfl, hq, e, hx, q⟩
  obtain ⟨u1, u2, rfl, r1, r2⟩ := vals2 r
  cases r1
  cases r2
  obtain ⟨its, rv, pl, hz'⟩ := I.tuple hq
  have ei := vals_refs rv
  subst ei
  obtain ⟨od, J⟩ := inst_at hz hf I hx
  obtain ⟨⟨oc, od', odt, osl⟩, hol, hcl, nl, hdl⟩ := pl
  simp only at hcl hdl
  subst hcl; subst hdl
  exact PySem.W.kia_tup (PySem.W.kitx_exc T.cl T.ga T.gg T.sb T.ac T.sp T.tk T.ob) I.kIn J hol e nofun fun tk => ⟨.bl b, H, I.tok tk, rfl, q⟩
theorem du_ist {c0 : Nat} {b : Bool} {x : Str} {i kk : Nat} {ks : List Nat} {p p' p2 : Pos} (T : ExI X.K (ca c0)) (hk : PySem.W.kitAny X.K (.ref (ca c0)) (ks.map fun k => .ref (ca k)) = some b) (hg : Gl X "isinstance") (hm : X.mg "isinstance" = none) (hv0 : bootBuiltins "isinstance" = some (.builtin "isinstance"))
    (G : GCs ca X es ks) (hl : ks.length ≤ 100 := by decide) (hoi : oi = some i := by rfl) (hN : X.N[i]? = some x := by rfl) (hv : Vis X.env.scope x := by first | exact Or.inl rfl | exact Or.inr (Or.inl rfl) | exact Or.inr (Or.inr rfl)) (hd : (x == ("__debug__" : Str)) = false := by decide)
    (hcd : (x == ("__classdict__" : Str)) = false := by decide)
    (hs : starEach [.Name x p', .Tuple es kk p2] X.env = (false, eval (.Name x p') X.env) :: starEach [.Tuple es kk p2] X.env := by rfl) (hs2 : starEach [.Tuple es kk p2] X.env = (false, eval (.Tuple es kk p2) X.env) :: starEach [] X.env := by rfl)
    (hpl : (backTo pos (starEach [.Tuple es kk p2] X.env)).any (·.1) = false := by rfl) : DU ca oi X (.Call (.Name "isinstance" p) [.Name x p', .Tuple es kk p2] [] pos) (uIs c0 b) :=
  ⟨fun a oe cls dd pn hz hf => by
    by_cases hcl : cls = .ref (ca c0)
    · subst hcl
      obtain ⟨t, pt, qt⟩ := G.pa a ((a, oe) :: pn)
      have pe := pe_callB (p := p) (X := X.suite a ((a, oe) :: pn)) (call_isT T hz hf) hg hm hv0 (pa_cons (pv (X := X.suite a ((a, oe) :: pn)) i hN hv hd hcd) (pa_cons (pe_tupF pt) pa_nil hs2) hs) (by decide) (by decide) hs hpl
      refine ⟨_, pe, fun σ H Q ρ st μ c fs v I hg k' => ?_⟩
      unfold uIs at hg
      split at hg
      · cases hg
        refine ⟨.ref a, I.nm i hoi, qt σ H _ ⟨by rw [List.length_map]; exact Nat.le_of_lt (Nat.lt_of_le_of_lt hl (by decide)), fun tp o hp ho => ?_⟩⟩
        have I2 := I.fresh (o := .frz o (.tup (ks.map fun k => V.ref (ca k)))) hp
        refine ⟨tp, ks.map ca, b, rfl, ?_, by rw [List.map_map]; exact hk, I2.xf.has, k' _ _ (.updM (.inl hp)) I2 (rep_bl.mpr rfl)⟩
        rw [List.map_map]
        exact .inl (.inr ⟨o, upd_same⟩)
      · cases hg
    · refine ⟨fun _ _ _ => False, ⟨fun _ _ _ _ _ _ z => z.elim⟩, fun σ H Q ρ st μ c fs v I hg k' => ?_⟩
      unfold uIs at hg
      split at hg
      · rename_i hc; subst hc; exact hcl I.cls
      · cases hg⟩
end
end DL

set_option Elab.async false
set_option linter.all false
set_option maxRecDepth 100000
set_option maxHeartbeats 4000000
namespace DL
open PySem L2 PySem.Spec PyProof.Rows
/-! ### in and not in, whatever the items are -/
def memD (st : Sto) (x : D) (ys : List D) : Option Bool := match toPD st 60 x, allO (ys.map (toPD st 60)) with
  | some d, some ds => if SeqAt.shaped d && PyData.canLayAll0 ds && decide (d.depth ≤ 60) then some (ds.any fun z => PyData.eqv z d) else none
  | _, _ => none
def deepIn (neg : Bool) (x y : D) : M D := fun st => match seqOf st y with
  | some ys => (match memD st x ys with
    | some b => .ok (.bl (b != neg)) st
    | none => .stuck)
  | none => .stuck
def orElseM (m n : D → D → M D) (x y : D) : M D := fun st => match m x y st with
  | .stuck => n x y st
  | r => r
abbrev opInX := orElseM opIn (deepIn false)
abbrev opNotInX := orElseM opNotIn (deepIn true)
section
variable {X : Cx} {ca : Nat → Addr}
theorem dop_orElse {o : Value → Value → Sem Value} {m n : D → D → M D} (h1 : DOp ca X o m) (h2 : DOp ca X o n) : DOp ca X o (orElseM m n) := by
  obtain ⟨r, p, g⟩ := h1.ex
  obtain ⟨r', p', g'⟩ := h2.ex
  refine ⟨_, p.or p', fun E x y H Q d e st μ rx ry s h => ?_⟩
  unfold orElseM at h
  split at h
  · exact .inr (g' E x y H Q d e st μ rx ry s h)
  · exact .inl (g E x y H Q d e st μ rx ry s h)
theorem allO_dps {K : PySem.W.Frag} {ca : Nat → Addr} {μ : List Addr} {H : Hp} {st : Sto} {n : Nat} {ys : List D} {vs : List V} {ds : List PyData} (s : Sim K ca μ st H) (h : allO (ys.map (toPD st n)) = some ds) (r : RepL K μ H ys vs) : DpAll K H vs ds := dps_of (fun _ _ _ => dp_of s n) h r
theorem dop_deep (neg : Bool) (hu : X.A.units + 64 < cLine) : DOp ca X (compareOp (if neg then .NotIn else .In)) (deepIn neg) := by
  have rule : OpR X (compareOp (if neg then .NotIn else .In)) (fun x y H Q => ∃ d ds, Dp X.K H x d ∧ (Dp X.K H y (.list ds) ∨ Dp X.K H y (.tuple ds)) ∧ SeqAt.shaped d = true ∧ PyData.canLayAll0 ds = true ∧ d.depth ≤ 60 ∧ Q (.bl ((ds.any fun z => PyData.eqv z d) != neg)) H) := by
    rintro pins s σ H x y v u Q I rx ry ⟨d, ds, hd, he, sd, se, hdd, q⟩
    obtain ⟨as, r1⟩ := Dp.reads I d x v hd rx
    have room : X.A.units + 1 + min (PyData.depthAll ds) d.depth < cLine := by
      have := Nat.min_le_right (PyData.depthAll ds) d.depth
      omega
    rcases he with he | he
    · obtain ⟨bs, r2⟩ := Dp.reads I (.list ds) y u he ry
      cases neg with
      | false => exact SeqAt.in_list_reads r2 r1 se (SeqAt.canLay_of_shaped sd) room ⟨.bl _, H, I, rfl, by simpa using q⟩
      | true => exact SeqAt.notIn_list_reads r2 r1 se (SeqAt.canLay_of_shaped sd) room ⟨.bl _, H, I, rfl, by simpa using q⟩
    · obtain ⟨bs, r2⟩ := Dp.reads I (.tuple ds) y u he ry
      cases neg with
      | false => exact SeqAt.in_tuple_reads r2 r1 se (SeqAt.canLay_of_shaped sd) room ⟨.bl _, H, I, rfl, by simpa using q⟩
      | true => exact SeqAt.notIn_tuple_reads r2 r1 se (SeqAt.canLay_of_shaped sd) room ⟨.bl _, H, I, rfl, by simpa using q⟩
  refine ⟨_, rule, fun E x y H Q d e st μ rx ry s h => ?_⟩
  unfold deepIn memD at h
  split at h
  · rename_i ys hys
    cases q1 : toPD st 60 d with
    | none => rw [q1] at h; exact elimP h
    | some p =>
      cases q2 : allO (ys.map (toPD st 60)) with
      | none => rw [q1, q2] at h; exact elimP h
      | some ds =>
        rw [q1, q2] at h
        simp only at h
        cases sh : SeqAt.shaped p && PyData.canLayAll0 ds && decide (p.depth ≤ 60) with
        | false => rw [sh] at h; exact elimP h
        | true =>
          rw [sh] at h
          rw [Bool.and_eq_true, Bool.and_eq_true] at sh
          refine ⟨p, ds, dp_of s 60 q1 rx, ?_, sh.1.1, sh.1.2, of_decide_eq_true sh.2, h μ H _ .refl s (rep_bl.mpr rfl)⟩
          cases e with
          | tup es =>
            cases hys
            obtain ⟨a, vs, rfl, g1, g2⟩ := rep_tup.mp ry
            exact .inr (.tup g1.sq (allO_dps s q2 g2))
          | loc i =>
            obtain ⟨a, vs, rfl, g1, g2⟩ := sq_of s hys ry
            exact .inl (.lst g1 (allO_dps s q2 g2))
          | _ => cases hys
  · exact elimP h
theorem dop_inX (hu : X.A.units + 64 < cLine) : DOp ca X (compareOp .In) opInX := dop_orElse dop_in (dop_deep false hu)
theorem dop_notInX (hu : X.A.units + 64 < cLine) : DOp ca X (compareOp .NotIn) opNotInX := dop_orElse dop_notIn (dop_deep true hu)
end
end DL

set_option Elab.async false
set_option linter.all false
set_option maxRecDepth 100000
set_option maxHeartbeats 4000000
/-! tuple * int, from 0 on -/
namespace L2
open PySem PySem.Spec PyProof.Rows
theorem tuple_mulW0 (l : Addr) (items : Array Value) (n : Nat) (dd : Option Addr) (sl : Array (Option Value)) (x : Int) (u : Tok) (c0 : (decide (x < -(2 ^ 63)) || decide (x ≥ 2 ^ 63)) = false) (c1 : (items.isEmpty || x == 1) = false) (c2 : (decide (x ≤ 0) || items.isEmpty) = true) :
    Meets (Builtin.«tuple.__mul__» ⟨[.ref l, .int x u], []⟩) (fun _ R s => s.heap.get? l = some { cls := .type "tuple", dict := dd, data := .seq items n, slots := sl } ∧
      R (.ok (.ret (Value.ref s.heap.objs.size))) { s with heap := s.heap.push { cls := Value.type "tuple", data := Data.seq #[] }, toks := s.toks }) :=
  .of_wp fun prog w A R s h => by
    obtain ⟨hp, g, d, tk, os⟩ := s
    obtain ⟨hl, h⟩ := h
    have f1 := AutoSeq1.idx_int
    wp_walk using wpAny_loadPart' hl
    repeat (first
      | (refine wpAny_ite_false (decide_eq_false (by rw [c0]; exact Bool.false_ne_true)) ?_; wp_walk using wpAny_loadPart' hl)
      | (refine wpAny_ite_false (decide_eq_false (by rw [c1]; exact Bool.false_ne_true)) ?_; wp_walk using wpAny_loadPart' hl)
      | (refine wpAny_ite_true (decide_eq_true c2) ?_; wp_walk using wpAny_loadPart' hl))
    exact ⟨_, rfl, h⟩
theorem tuple_mulW1 (l : Addr) (items : Array Value) (n : Nat) (dd : Option Addr) (sl : Array (Option Value)) (x : Int) (u : Tok) (c0 : (decide (x < -(2 ^ 63)) || decide (x ≥ 2 ^ 63)) = false) (c1 : (items.isEmpty || x == 1) = true) :
    Meets (Builtin.«tuple.__mul__» ⟨[.ref l, .int x u], []⟩) (fun _ R s => s.heap.get? l = some { cls := .type "tuple", dict := dd, data := .seq items n, slots := sl } ∧
      R (.ok (.ret (Value.ref l))) s) :=
  .of_wp fun prog w A R s h => by
    obtain ⟨hp, g, d, tk, os⟩ := s
    obtain ⟨hl, h⟩ := h
    have f1 := AutoSeq1.idx_int
    wp_walk using wpAny_loadPart' hl
    repeat (first
      | (refine wpAny_ite_false (decide_eq_false (by rw [c0]; exact Bool.false_ne_true)) ?_; wp_walk using wpAny_loadPart' hl)
      | (refine wpAny_ite_true (decide_eq_true c1) ?_; wp_walk using wpAny_loadPart' hl)
      | (refine wpAny_ite_true (decide_eq_true rfl) ?_; wp_walk using wpAny_loadPart' hl))
    exact ⟨_, rfl, h⟩
end L2
namespace DL
open PySem L2 PySem.Spec PyProof.Rows
section
variable {X : Cx} {ca : Nat → Addr}
theorem op_repT3 : OpR X (binaryOp .Mult) (fun x y H Q => ∃ l k xs, x = V.ref l ∧ y = V.int k ∧ TupR X.K H l xs ∧ xs ≠ [] ∧ 0 ≤ k ∧ k ≤ 1000 ∧ xs.length ≤ 1000 ∧ (k = 1 → Q (.ref l) H) ∧ ∀ (p : Addr) (o : Obj), H p = none → o.dict = none → Q (.ref p) (upd H p (.frz o (.tup (List.replicate k.toNat xs).flatten)))) := by
  intro pins s σ H x y v u Q I rx ry h
  obtain ⟨l, k, xs, rfl, rfl, hT, hne, h1, h2, hz, q1, q⟩ := h
  cases rx
  obtain ⟨t, rfl⟩ := ry
  obtain ⟨its, r, ⟨⟨cls, dd, data, sl⟩, ho, hc, n, hd⟩, hs⟩ := I.tuple hT.sq
  simp only at hc hd
  subst hc hd
  have hle : its.length = xs.length := r.length.symm
  have hn : its ≠ [] := fun e => hne (by
    rw [e] at hle
    exact List.eq_nil_of_length_eq_zero hle.symm)
  have hi : its.toArray.isEmpty = false := by
    cases its with
    | nil => exact absurd rfl hn
    | cons a b => rfl
  have hsz0 : its.toArray.size = xs.length := by rw [List.size_toArray, hle]
  have c0 : (decide (k < -(2 ^ 63)) || decide (k ≥ 2 ^ 63)) = false := by
    rw [decide_eq_false (by omega), decide_eq_false (by omega)] <;> rfl
  by_cases e1 : k = 1
  · have c1 : (its.toArray.isEmpty || k == 1) = true := by rw [e1]; simp
    refine wpAny_binaryOp_repeat_ref (T := "tuple") (U := "int") (by decide) ⟨_, ho, rfl⟩ (fun s' => typeIs_int s' k t) noFill_tuple_mul F.fills_int_mul F.slot_int_rmul repeat_tuple F.slot_int_index.lookup
      (call_meets F.slot_int_rmul (typeIs_int s k t) F.entry_int_rmul (F.args_int_rmul_2 _ _) (int_rmul_tuple k t l its.toArray n dd sl)
        ⟨ho, rfl, ⟨_, ho, rfl⟩, call_meets F.slot_tuple_mul ⟨_, ho, rfl⟩ F.entry_tuple_mul (F.args_tuple_mul_2 _ _) (tuple_mulW1 l its.toArray n dd sl k t c0 c1) ⟨ho, ?_⟩⟩)
    exact ⟨.ref l, H, I, rfl, q1 e1⟩
  have c1 : (its.toArray.isEmpty || k == 1) = false := by
    rw [hi, Bool.false_or]
    exact beq_eq_false_iff_ne.mpr e1
  by_cases e0 : k = 0
  · have c2 : (decide (k ≤ 0) || its.toArray.isEmpty) = true := by rw [e0]; simp
    refine wpAny_binaryOp_repeat_ref (T := "tuple") (U := "int") (by decide) ⟨_, ho, rfl⟩ (fun s' => typeIs_int s' k t) noFill_tuple_mul F.fills_int_mul F.slot_int_rmul repeat_tuple F.slot_int_index.lookup
      (call_meets F.slot_int_rmul (typeIs_int s k t) F.entry_int_rmul (F.args_int_rmul_2 _ _) (int_rmul_tuple k t l its.toArray n dd sl)
        ⟨ho, rfl, ⟨_, ho, rfl⟩, call_meets F.slot_tuple_mul ⟨_, ho, rfl⟩ F.entry_tuple_mul (F.args_tuple_mul_2 _ _) (tuple_mulW0 l its.toArray n dd sl k t c0 c1 c2) ⟨ho, ?_⟩⟩)
    exact laid_tup (its := []) (xs := []) I (by simp) .nil (fun p o hp hd => by have := q p o hp hd; rw [e0] at this; exact this)
  · have hm : ((its.toArray.size : Nat) : Int) * k ≤ 1000000 := by
      rw [hsz0]
      have a1 : ((xs.length : Nat) : Int) * k ≤ 1000 * k := Int.mul_le_mul_of_nonneg_right (by omega) (by omega)
      omega
    have flen : (List.replicate k.toNat its).flatten.length ≤ sizeLine := by
      rw [PyProof.Rows.lm_len_rep_flat, hle, sizeLine_eq]
      have a1 : k.toNat * xs.length ≤ 1000 * 1000 := Nat.mul_le_mul (by omega) hz
      omega
    have flen' : (List.replicate k.toNat xs).flatten.length ≤ sizeLine := by
      rw [PyProof.Rows.lm_len_rep_flat, ← hle, ← PyProof.Rows.lm_len_rep_flat]; exact flen
    have c2 : (decide (k ≤ 0) || its.toArray.isEmpty) = false := by
      rw [hi, Bool.or_false]
      exact decide_eq_false (by omega)
    have c4 : Builtin.Tuple.tupleTooMany (((its.toArray.size : Nat) : Int) * k) = false := by
      unfold Builtin.Tuple.tupleTooMany
      rw [sizeLine_eq]
      exact decide_eq_false (by omega)
    refine wpAny_binaryOp_repeat_ref (T := "tuple") (U := "int") (by decide) ⟨_, ho, rfl⟩ (fun s' => typeIs_int s' k t) noFill_tuple_mul F.fills_int_mul F.slot_int_rmul repeat_tuple F.slot_int_index.lookup
      (call_meets F.slot_int_rmul (typeIs_int s k t) F.entry_int_rmul (F.args_int_rmul_2 _ _) (int_rmul_tuple k t l its.toArray n dd sl)
        ⟨ho, rfl, ⟨_, ho, rfl⟩, call_meets F.slot_tuple_mul ⟨_, ho, rfl⟩ F.entry_tuple_mul (F.args_tuple_mul_2 _ _) (tuple_mulW l its.toArray n dd sl k t c0 c1 c2 (by omega) c4 (by rw [size_rep, List.size_toArray]; exact flen)) ⟨ho, ?_⟩⟩)
    rw [size_rep]
    exact laid_tup I flen' (r.rep k.toNat) q
def opMulT (x y : D) : M D := fun st => match x, y with
  | .tup ds, .int k => if ds ≠ [] ∧ 0 ≤ k ∧ k ≤ 1000 ∧ ds.length ≤ 1000 then .ok (.tup (List.replicate k.toNat ds).flatten) st else .stuck
  | _, _ => .stuck
abbrev opMulX := orElseM opMul opMulT
theorem dop_mulT : DOp ca X (binaryOp .Mult) opMulT := by
  refine ⟨_, op_repT3, fun E x y H Q d e st μ rx ry s h => ?_⟩
  cases d <;> cases e <;> first | exact elimP h | skip
  rename_i ds k
  have rx0 := rx
  rw [rep_int] at ry
  obtain ⟨p, xs, rfl, h1, h2⟩ := rep_tup.mp rx
  unfold opMulT at h
  simp only at h
  split at h
  · rename_i c
    obtain ⟨c1, c2, c3, c4⟩ := c
    refine ⟨p, k, xs, rfl, ry, h1, fun e => c1 (List.eq_nil_of_length_eq_zero (by rw [← h2.length, e]; rfl)), c2, c3, by rw [h2.length]; exact c4, fun e => ?_, fun p o hp hd => new_tup s (h2.rep k.toNat) h hp hd⟩
    subst e
    have : (List.replicate (1 : Int).toNat ds).flatten = ds := by simp
    rw [this] at h
    exact h μ H _ .refl s rx0
  · exact elimP h
theorem dop_mulX : DOp ca X (binaryOp .Mult) opMulX := dop_orElse dop_mul dop_mulT
end
end DL

set_option Elab.async false
set_option linter.all false
set_option maxRecDepth 100000
set_option maxHeartbeats 4000000
namespace DL
open PySem L2 PySem.Spec PyProof.Rows
abbrev topS (i : Nat) : Stmt := PySem.Challenge.pw_ledelsewhere_k10_guard_refusals.main.body.getD i (.Pass ⟨0, 0, 0, 0⟩)
def exT2 (c : Nat) : Option Bool := if c = 1 then some false else if c = 2 then some true else if c = 3 then some false else if c = 4 then some false else if c = 5 then some false else if c = 6 then some false else none
def exT3 (c : Nat) : Option Bool := if c = 1 then some false else if c = 2 then some false else if c = 3 then some true else if c = 4 then some false else if c = 5 then some false else if c = 6 then some false else none
def exT5 (c : Nat) : Option Bool := if c = 1 then some false else if c = 2 then some false else if c = 3 then some false else if c = 4 then some false else if c = 5 then some true else if c = 6 then some false else none
def exT6 (c : Nat) : Option Bool := if c = 1 then some false else if c = 2 then some false else if c = 3 then some false else if c = 4 then some false else if c = 5 then some false else if c = 6 then some true else none
def exT (c k : Nat) : Option Bool := match k with
  | 2 => exT2 c
  | 3 => exT3 c
  | 5 => exT5 c
  | 6 => exT6 c
  | _ => none
/-- what the top leaves, as the derivations take it -/
structure Txt (K : PySem.W.Frag) (mg : Str → Option Value) (a : Nat → Addr) (fd : Nat → FuncData) (ca ka : Nat → Addr) (tk : Nat → Tok) : Prop where
  f__law_same : Fun K "_law_same" "_law_same" (topS 64) (a 0) (fd 0)
  b__law_same : Binds K (fd 0) ["_law_told", "_law_due"] []
  g__law_same : mg "_law_same" = some (.ref (a 0))
  f_into_branch : Fun K "into_branch" "into_branch" (topS 53) (a 1) (fd 1)
  b_into_branch : Binds K (fd 1) ["position", "flag"] []
  g_into_branch : mg "into_branch" = some (.ref (a 1))
  f_behind : Fun K "behind" "behind" (topS 52) (a 2) (fd 2)
  b_behind : Binds K (fd 2) ["position"] []
  g_behind : mg "behind" = some (.ref (a 2))
  f_with_item : Fun K "with_item" "with_item" (topS 39) (a 3) (fd 3)
  b_with_item : Binds K (fd 3) ["items", "at", "item"] []
  g_with_item : mg "with_item" = some (.ref (a 3))
  f_branches : Fun K "branches" "branches" (topS 34) (a 4) (fd 4)
  b_branches : Binds K (fd 4) ["row"] []
  g_branches : mg "branches" = some (.ref (a 4))
  f_row_or_none : Fun K "row_or_none" "row_or_none" (topS 51) (a 5) (fd 5)
  b_row_or_none : Binds K (fd 5) ["rows", "position"] []
  g_row_or_none : mg "row_or_none" = some (.ref (a 5))
  f_go_on : Fun K "go_on" "go_on" (topS 50) (a 6) (fd 6)
  b_go_on : Binds K (fd 6) ["bits", "rows", "flags", "position", "answers"] []
  g_go_on : mg "go_on" = some (.ref (a 6))
  f_are_flags : Fun K "are_flags" "are_flags" (topS 47) (a 7) (fd 7)
  b_are_flags : Binds K (fd 7) ["site", "value"] []
  g_are_flags : mg "are_flags" = some (.ref (a 7))
  f_InvalidFlags___init__ : Fun K "__init__" "InvalidFlags.__init__" (inClass (topS 4) 0) (a 8) (fd 8)
  b_InvalidFlags___init__ : Binds K (fd 8) ["self", "flags"] []
  f_InvalidSide___init__ : Fun K "__init__" "InvalidSide.__init__" (inClass (topS 6) 0) (a 9) (fd 9)
  b_InvalidSide___init__ : Binds K (fd 9) ["self", "side"] []
  f_UnknownPage___init__ : Fun K "__init__" "UnknownPage.__init__" (inClass (topS 8) 0) (a 10) (fd 10)
  b_UnknownPage___init__ : Binds K (fd 10) ["self", "page"] []
  f_find_page : Fun K "find_page" "find_page" (topS 29) (a 11) (fd 11)
  b_find_page : Binds K (fd 11) ["pages", "page"] []
  g_find_page : mg "find_page" = some (.ref (a 11))
  f_Site_guard : Fun K "guard" "Site.guard" (inClass (topS 20) 3) (a 12) (fd 12)
  b_Site_guard : Binds K (fd 12) ["self", "page", "side"] []
  m_Site_guard : Meth K (ca 0) "guard" (a 12)
  f_checked_rows : Fun K "checked_rows" "checked_rows" (topS 48) (a 13) (fd 13)
  b_checked_rows : Binds K (fd 13) ["site", "page", "side", "flags"] []
  g_checked_rows : mg "checked_rows" = some (.ref (a 13))
  f_run_guard : ∃ dvs kws, FunD K "run_guard" "run_guard" (defArgs (topS 42)) (defBody (topS 42)) (defScope (topS 42)) dvs kws (a 14) (fd 14)
  k_run_guard : PySem.W.keepIn K (.ref (a 14)) = true
  b_run_guard_5 : BindsD K (fd 14) ["site", "page", "side", "flags", "answers"] []
  g_run_guard : mg "run_guard" = some (.ref (a 14))
  f_ends_from : Fun K "ends_from" "ends_from" (topS 54) (a 15) (fd 15)
  b_ends_from : Binds K (fd 15) ["bits", "rows", "flags", "position", "given"] []
  g_ends_from : mg "ends_from" = some (.ref (a 15))
  f_all_ends : Fun K "all_ends" "all_ends" (topS 44) (a 16) (fd 16)
  b_all_ends : Binds K (fd 16) ["site", "page", "side", "flags"] []
  g_all_ends : mg "all_ends" = some (.ref (a 16))
  f_letting_answers : Fun K "letting_answers" "letting_answers" (topS 45) (a 17) (fd 17)
  b_letting_answers : Binds K (fd 17) ["site", "page", "side", "flags"] []
  g_letting_answers : mg "letting_answers" = some (.ref (a 17))
  f_lets : Fun K "lets" "lets" (topS 46) (a 18) (fd 18)
  b_lets : Binds K (fd 18) ["site", "page", "side", "flags"] []
  g_lets : mg "lets" = some (.ref (a 18))
  f_rows_with_positions : Fun K "rows_with_positions" "rows_with_positions" (topS 35) (a 19) (fd 19)
  b_rows_with_positions : Binds K (fd 19) ["rows", "before"] []
  g_rows_with_positions : mg "rows_with_positions" = some (.ref (a 19))
  f_is_integer : Fun K "is_integer" "is_integer" (topS 21) (a 20) (fd 20)
  b_is_integer : Binds K (fd 20) ["value"] []
  g_is_integer : mg "is_integer" = some (.ref (a 20))
  f_has_position_form : Fun K "has_position_form" "has_position_form" (topS 38) (a 21) (fd 21)
  b_has_position_form : Binds K (fd 21) ["value"] []
  g_has_position_form : mg "has_position_form" = some (.ref (a 21))
  f_is_ask_position : Fun K "is_ask_position" "is_ask_position" (topS 49) (a 22) (fd 22)
  b_is_ask_position : Binds K (fd 22) ["rows", "value"] []
  g_is_ask_position : mg "is_ask_position" = some (.ref (a 22))
  f_InvalidPosition___init__ : Fun K "__init__" "InvalidPosition.__init__" (inClass (topS 7) 0) (a 23) (fd 23)
  b_InvalidPosition___init__ : Binds K (fd 23) ["self", "position"] []
  f_resume_guard : ∃ dvs kws, FunD K "resume_guard" "resume_guard" (defArgs (topS 43)) (defBody (topS 43)) (defScope (topS 43)) dvs kws (a 24) (fd 24)
  k_resume_guard : PySem.W.keepIn K (.ref (a 24)) = true
  b_resume_guard_6 : BindsD K (fd 24) ["site", "page", "side", "flags", "position", "answers"] []
  g_resume_guard : mg "resume_guard" = some (.ref (a 24))
  f__law_call : Fun K "_law_call" "_law_call" (topS 66) (a 25) (fd 25)
  b__law_call : Binds K (fd 25) ["_law_site", "_law_which", "_law_page", "_law_side", "_law_flags", "_law_spot"] []
  g__law_call : mg "_law_call" = some (.ref (a 25))
  f__law_all_flags : Fun K "_law_all_flags" "_law_all_flags" (topS 68) (a 26) (fd 26)
  b__law_all_flags : Binds K (fd 26) ["_law_flags", "_law_count"] []
  g__law_all_flags : mg "_law_all_flags" = some (.ref (a 26))
  f__law_mix : Fun K "_law_mix" "_law_mix" (topS 56) (a 27) (fd 27)
  b__law_mix : Binds K (fd 27) ["_law_value", "_law_k"] []
  g__law_mix : mg "_law_mix" = some (.ref (a 27))
  f__law_draw : Fun K "_law_draw" "_law_draw" (topS 58) (a 28) (fd 28)
  b__law_draw : Binds K (fd 28) ["_law_box_here", "_law_many"] []
  g__law_draw : mg "_law_draw" = some (.ref (a 28))
  f__law_spots : Fun K "_law_spots" "_law_spots" (topS 67) (a 29) (fd 29)
  b__law_spots : Binds K (fd 29) ["_law_box_here", "_law_asks_here"] []
  g__law_spots : mg "_law_spots" = some (.ref (a 29))
  f__law_asks : Fun K "_law_asks" "_law_asks" (topS 65) (a 30) (fd 30)
  b__law_asks : Binds K (fd 30) ["_law_rows_here", "_law_prefix"] []
  g__law_asks : mg "_law_asks" = some (.ref (a 30))
  f_InvalidSite___init__ : Fun K "__init__" "InvalidSite.__init__" (inClass (topS 3) 0) (a 31) (fd 31)
  b_InvalidSite___init__ : Binds K (fd 31) ["self", "part", "path"] []
  f_may_branch : Fun K "may_branch" "may_branch" (topS 33) (a 32) (fd 32)
  b_may_branch : Binds K (fd 32) ["position", "row"] []
  g_may_branch : mg "may_branch" = some (.ref (a 32))
  f_is_row : Fun K "is_row" "is_row" (topS 32) (a 33) (fd 33)
  b_is_row : Binds K (fd 33) ["bits", "names", "side", "position", "row"] []
  g_is_row : mg "is_row" = some (.ref (a 33))
  f_first_wrong_row : Fun K "first_wrong_row" "first_wrong_row" (topS 31) (a 34) (fd 34)
  b_first_wrong_row : Binds K (fd 34) ["bits", "names", "side", "rows", "before"] []
  g_first_wrong_row : mg "first_wrong_row" = some (.ref (a 34))
  f_check_guard : Fun K "check_guard" "check_guard" (topS 30) (a 35) (fd 35)
  b_check_guard : Binds K (fd 35) ["bits", "names", "page", "side", "rows"] []
  g_check_guard : mg "check_guard" = some (.ref (a 35))
  f_names_of : Fun K "names_of" "names_of" (topS 28) (a 36) (fd 36)
  b_names_of : Binds K (fd 36) ["pages"] []
  g_names_of : mg "names_of" = some (.ref (a 36))
  f_is_named_page : Fun K "is_named_page" "is_named_page" (topS 27) (a 37) (fd 37)
  b_is_named_page : Binds K (fd 37) ["value"] []
  g_is_named_page : mg "is_named_page" = some (.ref (a 37))
  f_is_name : Fun K "is_name" "is_name" (topS 22) (a 38) (fd 38)
  b_is_name : Binds K (fd 38) ["value"] []
  g_is_name : mg "is_name" = some (.ref (a 38))
  f_are_different_names : Fun K "are_different_names" "are_different_names" (topS 23) (a 39) (fd 39)
  b_are_different_names : Binds K (fd 39) ["values"] []
  g_are_different_names : mg "are_different_names" = some (.ref (a 39))
  f_are_pages : Fun K "are_pages" "are_pages" (topS 26) (a 40) (fd 40)
  b_are_pages : Binds K (fd 40) ["value"] []
  g_are_pages : mg "are_pages" = some (.ref (a 40))
  f_are_bits : Fun K "are_bits" "are_bits" (topS 25) (a 41) (fd 41)
  b_are_bits : Binds K (fd 41) ["value"] []
  g_are_bits : mg "are_bits" = some (.ref (a 41))
  f_check_site : Fun K "check_site" "check_site" (topS 24) (a 42) (fd 42)
  b_check_site : Binds K (fd 42) ["bits", "pages", "start", "keep"] []
  g_check_site : mg "check_site" = some (.ref (a 42))
  f_Site___init__ : Fun K "__init__" "Site.__init__" (inClass (topS 20) 0) (a 43) (fd 43)
  f__law_word : Fun K "_law_word" "_law_word" (topS 60) (a 44) (fd 44)
  b__law_word : Binds K (fd 44) ["_law_box_here", "_law_bits", "_law_side", "_law_depth"] []
  g__law_word : mg "_law_word" = some (.ref (a 44))
  f__law_row : Fun K "_law_row" "_law_row" (topS 62) (a 45) (fd 45)
  b__law_row : Binds K (fd 45) ["_law_box_here", "_law_bits", "_law_names_here", "_law_side", "_law_depth", "_law_room"] []
  g__law_row : mg "_law_row" = some (.ref (a 45))
  f__law_rows : Fun K "_law_rows" "_law_rows" (topS 61) (a 46) (fd 46)
  b__law_rows : Binds K (fd 46) ["_law_box_here", "_law_bits", "_law_names_here", "_law_side", "_law_depth", "_law_room"] []
  g__law_rows : mg "_law_rows" = some (.ref (a 46))
  f__law_names : Fun K "_law_names" "_law_names" (topS 59) (a 47) (fd 47)
  b__law_names : Binds K (fd 47) ["_law_box_here", "_law_many"] []
  g__law_names : mg "_law_names" = some (.ref (a 47))
  f__law_parts : Fun K "_law_parts" "_law_parts" (topS 63) (a 48) (fd 48)
  b__law_parts : Binds K (fd 48) ["_law_box_here"] []
  g__law_parts : mg "_law_parts" = some (.ref (a 48))
  f__law_box : Fun K "_law_box" "_law_box" (topS 57) (a 49) (fd 49)
  b__law_box : Binds K (fd 49) ["_law_script"] []
  g__law_box : mg "_law_box" = some (.ref (a 49))
  f_law : Fun K "law" "law" (topS 69) (a 50) (fd 50)
  b_law : Binds K (fd 50) ["_law_script"] []
  g_law : mg "law" = some (.ref (a 50))
  z_all : mg "all" = none
  z_any : mg "any" = none
  z_bool : mg "bool" = none
  z_enumerate : mg "enumerate" = none
  z_int : mg "int" = none
  z_isinstance : mg "isinstance" = none
  z_len : mg "len" = none
  z_list : mg "list" = none
  z_range : mg "range" = none
  z_set : mg "set" = none
  z_str : mg "str" = none
  z_tuple : mg "tuple" = none
  c_DEEPEST_BRANCHING : mg "DEEPEST_BRANCHING" = some (.int 3 (tk 0))
  c_FEWEST_PAGES : mg "FEWEST_PAGES" = some (.int 2 (tk 1))
  c_GREATEST_KEEP : mg "GREATEST_KEEP" = some (.int 4 (tk 2))
  c_LEAST_KEEP : mg "LEAST_KEEP" = some (.int 2 (tk 3))
  c_LETTERS : mg "LETTERS" = some (.str "abcdefghijklmnopqrstuvwxyz" (tk 4))
  c_LONGEST_NAME : mg "LONGEST_NAME" = some (.int 8 (tk 5))
  c_MOST_BITS : mg "MOST_BITS" = some (.int 3 (tk 6))
  c_MOST_PAGES : mg "MOST_PAGES" = some (.int 5 (tk 7))
  c_MOST_ROWS : mg "MOST_ROWS" = some (.int 8 (tk 8))
  c_SIDES : mg "SIDES" = some (.ref (ka 9))
  d_SIDES : ∀ μ H, Rep K μ H (.tup [(.str "enter"), (.str "leave")]) (.ref (ka 9))
  cl_0 : Cls K (ca 0)
  na_0_bits : NoAttr K (ca 0) "bits"
  na_0_pages : NoAttr K (ca 0) "pages"
  na_0_start : NoAttr K (ca 0) "start"
  na_0_keep : NoAttr K (ca 0) "keep"
  mk_0 : Mk K (ca 0) (a 43)
  gc_0 : mg "Site" = some (.ref (ca 0))
  kb_0 : KBn K (fd 43) ["self", "bits", "pages", "start", "keep"] 4 ["keep"] (fun us ws => us ++ ws) (fun vs ws => vs ++ ws)
  ei_InvalidSite : ExI K (ca 1)
  ge_InvalidSite : mg "InvalidSite" = some (.ref (ca 1))
  nf_InvalidSite_part : PySem.W.findIn K (.ref (ca 1)) "part" = some none
  nf_InvalidSite_path : PySem.W.findIn K (.ref (ca 1)) "path" = some none
  em_1_1 : PySem.W.subIn K (.ref (ca 1)) (.ref (ca 1)) = some true
  em_1_2 : PySem.W.subIn K (.ref (ca 1)) (.ref (ca 2)) = some false
  em_1_3 : PySem.W.subIn K (.ref (ca 1)) (.ref (ca 3)) = some false
  em_1_4 : PySem.W.subIn K (.ref (ca 1)) (.ref (ca 4)) = some false
  em_1_5 : PySem.W.subIn K (.ref (ca 1)) (.ref (ca 5)) = some false
  em_1_6 : PySem.W.subIn K (.ref (ca 1)) (.ref (ca 6)) = some false
  em_1_7 : PySem.W.subIn K (.ref (ca 1)) (.ref (ca 7)) = some true
  ei_InvalidFlags : ExI K (ca 2)
  ge_InvalidFlags : mg "InvalidFlags" = some (.ref (ca 2))
  nf_InvalidFlags_flags : PySem.W.findIn K (.ref (ca 2)) "flags" = some none
  em_2_1 : PySem.W.subIn K (.ref (ca 2)) (.ref (ca 1)) = some false
  em_2_2 : PySem.W.subIn K (.ref (ca 2)) (.ref (ca 2)) = some true
  em_2_3 : PySem.W.subIn K (.ref (ca 2)) (.ref (ca 3)) = some false
  em_2_4 : PySem.W.subIn K (.ref (ca 2)) (.ref (ca 4)) = some false
  em_2_5 : PySem.W.subIn K (.ref (ca 2)) (.ref (ca 5)) = some false
  em_2_6 : PySem.W.subIn K (.ref (ca 2)) (.ref (ca 6)) = some false
  em_2_7 : PySem.W.subIn K (.ref (ca 2)) (.ref (ca 7)) = some true
  ei_InvalidPosition : ExI K (ca 3)
  ge_InvalidPosition : mg "InvalidPosition" = some (.ref (ca 3))
  nf_InvalidPosition_position : PySem.W.findIn K (.ref (ca 3)) "position" = some none
  em_3_1 : PySem.W.subIn K (.ref (ca 3)) (.ref (ca 1)) = some false
  em_3_2 : PySem.W.subIn K (.ref (ca 3)) (.ref (ca 2)) = some false
  em_3_3 : PySem.W.subIn K (.ref (ca 3)) (.ref (ca 3)) = some true
  em_3_4 : PySem.W.subIn K (.ref (ca 3)) (.ref (ca 4)) = some false
  em_3_5 : PySem.W.subIn K (.ref (ca 3)) (.ref (ca 5)) = some false
  em_3_6 : PySem.W.subIn K (.ref (ca 3)) (.ref (ca 6)) = some false
  em_3_7 : PySem.W.subIn K (.ref (ca 3)) (.ref (ca 7)) = some true
  ei_InvalidPath : ExI K (ca 4)
  ge_InvalidPath : mg "InvalidPath" = some (.ref (ca 4))
  nf_InvalidPath_path : PySem.W.findIn K (.ref (ca 4)) "path" = some none
  em_4_1 : PySem.W.subIn K (.ref (ca 4)) (.ref (ca 1)) = some false
  em_4_2 : PySem.W.subIn K (.ref (ca 4)) (.ref (ca 2)) = some false
  em_4_3 : PySem.W.subIn K (.ref (ca 4)) (.ref (ca 3)) = some false
  em_4_4 : PySem.W.subIn K (.ref (ca 4)) (.ref (ca 4)) = some true
  em_4_5 : PySem.W.subIn K (.ref (ca 4)) (.ref (ca 5)) = some false
  em_4_6 : PySem.W.subIn K (.ref (ca 4)) (.ref (ca 6)) = some false
  em_4_7 : PySem.W.subIn K (.ref (ca 4)) (.ref (ca 7)) = some true
  ei_InvalidSide : ExI K (ca 5)
  ge_InvalidSide : mg "InvalidSide" = some (.ref (ca 5))
  nf_InvalidSide_side : PySem.W.findIn K (.ref (ca 5)) "side" = some none
  em_5_1 : PySem.W.subIn K (.ref (ca 5)) (.ref (ca 1)) = some false
  em_5_2 : PySem.W.subIn K (.ref (ca 5)) (.ref (ca 2)) = some false
  em_5_3 : PySem.W.subIn K (.ref (ca 5)) (.ref (ca 3)) = some false
  em_5_4 : PySem.W.subIn K (.ref (ca 5)) (.ref (ca 4)) = some false
  em_5_5 : PySem.W.subIn K (.ref (ca 5)) (.ref (ca 5)) = some true
  em_5_6 : PySem.W.subIn K (.ref (ca 5)) (.ref (ca 6)) = some false
  em_5_7 : PySem.W.subIn K (.ref (ca 5)) (.ref (ca 7)) = some true
  ei_UnknownPage : ExI K (ca 6)
  ge_UnknownPage : mg "UnknownPage" = some (.ref (ca 6))
  nf_UnknownPage_page : PySem.W.findIn K (.ref (ca 6)) "page" = some none
  em_6_1 : PySem.W.subIn K (.ref (ca 6)) (.ref (ca 1)) = some false
  em_6_2 : PySem.W.subIn K (.ref (ca 6)) (.ref (ca 2)) = some false
  em_6_3 : PySem.W.subIn K (.ref (ca 6)) (.ref (ca 3)) = some false
  em_6_4 : PySem.W.subIn K (.ref (ca 6)) (.ref (ca 4)) = some false
  em_6_5 : PySem.W.subIn K (.ref (ca 6)) (.ref (ca 5)) = some false
  em_6_6 : PySem.W.subIn K (.ref (ca 6)) (.ref (ca 6)) = some true
  em_6_7 : PySem.W.subIn K (.ref (ca 6)) (.ref (ca 7)) = some true
  ei_LedError : ExI K (ca 7)
  ge_LedError : mg "LedError" = some (.ref (ca 7))
  ox_InvalidFlags : OexC K (ca 2)
  xi_InvalidFlags : PySem.W.findIn K (.ref (ca 2)) "__init__" = some (some (.ref (a 8)))
  ti_InvalidFlags : PySem.W.typeIn K (.ref (a 8)) = some (.type "function")
  ox_InvalidPosition : OexC K (ca 3)
  xi_InvalidPosition : PySem.W.findIn K (.ref (ca 3)) "__init__" = some (some (.ref (a 23)))
  ti_InvalidPosition : PySem.W.typeIn K (.ref (a 23)) = some (.type "function")
  ox_InvalidSide : OexC K (ca 5)
  xi_InvalidSide : PySem.W.findIn K (.ref (ca 5)) "__init__" = some (some (.ref (a 9)))
  ti_InvalidSide : PySem.W.typeIn K (.ref (a 9)) = some (.type "function")
  ox_InvalidSite : OexC K (ca 1)
  xi_InvalidSite : PySem.W.findIn K (.ref (ca 1)) "__init__" = some (some (.ref (a 31)))
  ti_InvalidSite : PySem.W.typeIn K (.ref (a 31)) = some (.type "function")
  ox_UnknownPage : OexC K (ca 6)
  xi_UnknownPage : PySem.W.findIn K (.ref (ca 6)) "__init__" = some (some (.ref (a 10)))
  ti_UnknownPage : PySem.W.typeIn K (.ref (a 10)) = some (.type "function")
namespace Txt
variable {K : PySem.W.Frag} {mg : Str → Option Value} {a : Nat → Addr} {fd : Nat → FuncData} {ca ka : Nat → Addr} {tk : Nat → Tok} (T : Txt K mg a fd ca ka tk)
include T
theorem r_DEEPEST_BRANCHING : RelV (.int 3) (.int 3 (tk 0)) := ⟨_, rfl⟩
theorem d_DEEPEST_BRANCHING : ∀ μ H, Rep K μ H (.int (3)) (.int 3) := fun _ _ => rep_int.mpr rfl
theorem r_FEWEST_PAGES : RelV (.int 2) (.int 2 (tk 1)) := ⟨_, rfl⟩
theorem d_FEWEST_PAGES : ∀ μ H, Rep K μ H (.int (2)) (.int 2) := fun _ _ => rep_int.mpr rfl
theorem r_GREATEST_KEEP : RelV (.int 4) (.int 4 (tk 2)) := ⟨_, rfl⟩
theorem d_GREATEST_KEEP : ∀ μ H, Rep K μ H (.int (4)) (.int 4) := fun _ _ => rep_int.mpr rfl
theorem r_LEAST_KEEP : RelV (.int 2) (.int 2 (tk 3)) := ⟨_, rfl⟩
theorem d_LEAST_KEEP : ∀ μ H, Rep K μ H (.int (2)) (.int 2) := fun _ _ => rep_int.mpr rfl
theorem r_LETTERS : RelV (.str "abcdefghijklmnopqrstuvwxyz") (.str "abcdefghijklmnopqrstuvwxyz" (tk 4)) := ⟨_, rfl⟩
theorem d_LETTERS : ∀ μ H, Rep K μ H (.str "abcdefghijklmnopqrstuvwxyz") (.str "abcdefghijklmnopqrstuvwxyz") := fun _ _ => rep_str.mpr rfl
theorem r_LONGEST_NAME : RelV (.int 8) (.int 8 (tk 5)) := ⟨_, rfl⟩
theorem d_LONGEST_NAME : ∀ μ H, Rep K μ H (.int (8)) (.int 8) := fun _ _ => rep_int.mpr rfl
theorem r_MOST_BITS : RelV (.int 3) (.int 3 (tk 6)) := ⟨_, rfl⟩
theorem d_MOST_BITS : ∀ μ H, Rep K μ H (.int (3)) (.int 3) := fun _ _ => rep_int.mpr rfl
theorem r_MOST_PAGES : RelV (.int 5) (.int 5 (tk 7)) := ⟨_, rfl⟩
theorem d_MOST_PAGES : ∀ μ H, Rep K μ H (.int (5)) (.int 5) := fun _ _ => rep_int.mpr rfl
theorem r_MOST_ROWS : RelV (.int 8) (.int 8 (tk 8)) := ⟨_, rfl⟩
theorem d_MOST_ROWS : ∀ μ H, Rep K μ H (.int (8)) (.int 8) := fun _ _ => rep_int.mpr rfl
theorem r_SIDES : RelV (.ref (ka 9)) (.ref (ka 9)) := rfl
theorem he_2 : ∀ c b, exT c 2 = some b → PySem.W.exmOne K (.ref (ca c)) (.ref (ca 2)) = some b := by
  intro c b h
  replace h : exT2 c = some b := h
  unfold exT2 at h
  by_cases e1 : c = 1
  · subst e1; rw [if_pos rfl] at h; cases h; exact T.ei_InvalidFlags.exm T.em_1_2
  rw [if_neg e1] at h
  by_cases e2 : c = 2
  · subst e2; rw [if_pos rfl] at h; cases h; exact T.ei_InvalidFlags.exm T.em_2_2
  rw [if_neg e2] at h
  by_cases e3 : c = 3
  · subst e3; rw [if_pos rfl] at h; cases h; exact T.ei_InvalidFlags.exm T.em_3_2
  rw [if_neg e3] at h
  by_cases e4 : c = 4
  · subst e4; rw [if_pos rfl] at h; cases h; exact T.ei_InvalidFlags.exm T.em_4_2
  rw [if_neg e4] at h
  by_cases e5 : c = 5
  · subst e5; rw [if_pos rfl] at h; cases h; exact T.ei_InvalidFlags.exm T.em_5_2
  rw [if_neg e5] at h
  by_cases e6 : c = 6
  · subst e6; rw [if_pos rfl] at h; cases h; exact T.ei_InvalidFlags.exm T.em_6_2
  rw [if_neg e6] at h
  cases h
theorem he_3 : ∀ c b, exT c 3 = some b → PySem.W.exmOne K (.ref (ca c)) (.ref (ca 3)) = some b := by
  intro c b h
  replace h : exT3 c = some b := h
  unfold exT3 at h
  by_cases e1 : c = 1
  · subst e1; rw [if_pos rfl] at h; cases h; exact T.ei_InvalidPosition.exm T.em_1_3
  rw [if_neg e1] at h
  by_cases e2 : c = 2
  · subst e2; rw [if_pos rfl] at h; cases h; exact T.ei_InvalidPosition.exm T.em_2_3
  rw [if_neg e2] at h
  by_cases e3 : c = 3
  · subst e3; rw [if_pos rfl] at h; cases h; exact T.ei_InvalidPosition.exm T.em_3_3
  rw [if_neg e3] at h
  by_cases e4 : c = 4
  · subst e4; rw [if_pos rfl] at h; cases h; exact T.ei_InvalidPosition.exm T.em_4_3
  rw [if_neg e4] at h
  by_cases e5 : c = 5
  · subst e5; rw [if_pos rfl] at h; cases h; exact T.ei_InvalidPosition.exm T.em_5_3
  rw [if_neg e5] at h
  by_cases e6 : c = 6
  · subst e6; rw [if_pos rfl] at h; cases h; exact T.ei_InvalidPosition.exm T.em_6_3
  rw [if_neg e6] at h
  cases h
theorem he_5 : ∀ c b, exT c 5 = some b → PySem.W.exmOne K (.ref (ca c)) (.ref (ca 5)) = some b := by
  intro c b h
  replace h : exT5 c = some b := h
  unfold exT5 at h
  by_cases e1 : c = 1
  · subst e1; rw [if_pos rfl] at h; cases h; exact T.ei_InvalidSide.exm T.em_1_5
  rw [if_neg e1] at h
  by_cases e2 : c = 2
  · subst e2; rw [if_pos rfl] at h; cases h; exact T.ei_InvalidSide.exm T.em_2_5
  rw [if_neg e2] at h
  by_cases e3 : c = 3
  · subst e3; rw [if_pos rfl] at h; cases h; exact T.ei_InvalidSide.exm T.em_3_5
  rw [if_neg e3] at h
  by_cases e4 : c = 4
  · subst e4; rw [if_pos rfl] at h; cases h; exact T.ei_InvalidSide.exm T.em_4_5
  rw [if_neg e4] at h
  by_cases e5 : c = 5
  · subst e5; rw [if_pos rfl] at h; cases h; exact T.ei_InvalidSide.exm T.em_5_5
  rw [if_neg e5] at h
  by_cases e6 : c = 6
  · subst e6; rw [if_pos rfl] at h; cases h; exact T.ei_InvalidSide.exm T.em_6_5
  rw [if_neg e6] at h
  cases h
theorem he_6 : ∀ c b, exT c 6 = some b → PySem.W.exmOne K (.ref (ca c)) (.ref (ca 6)) = some b := by
  intro c b h
  replace h : exT6 c = some b := h
  unfold exT6 at h
  by_cases e1 : c = 1
  · subst e1; rw [if_pos rfl] at h; cases h; exact T.ei_UnknownPage.exm T.em_1_6
  rw [if_neg e1] at h
  by_cases e2 : c = 2
  · subst e2; rw [if_pos rfl] at h; cases h; exact T.ei_UnknownPage.exm T.em_2_6
  rw [if_neg e2] at h
  by_cases e3 : c = 3
  · subst e3; rw [if_pos rfl] at h; cases h; exact T.ei_UnknownPage.exm T.em_3_6
  rw [if_neg e3] at h
  by_cases e4 : c = 4
  · subst e4; rw [if_pos rfl] at h; cases h; exact T.ei_UnknownPage.exm T.em_4_6
  rw [if_neg e4] at h
  by_cases e5 : c = 5
  · subst e5; rw [if_pos rfl] at h; cases h; exact T.ei_UnknownPage.exm T.em_5_6
  rw [if_neg e5] at h
  by_cases e6 : c = 6
  · subst e6; rw [if_pos rfl] at h; cases h; exact T.ei_UnknownPage.exm T.em_6_6
  rw [if_neg e6] at h
  cases h
end Txt
theorem sc__law_same : FnScope ["_law_told", "_law_due", "_law_k"] ["_law_told", "_law_due"] (defScope (topS 64)) := ⟨rfl, rfl, rfl, by decide +kernel, rfl, by decide +kernel, by decide +kernel⟩
def m__law_same : Nat → List D → M D
  | 0 => fun _ => stuck
  | n + 1 => fnM 2 3 (sSeq (sIf (tOrD (tVal (eUn (isiB "tuple") (eVar 1))) (tVal (eUn (isiB "list") (eVar 1)))) (sSeq (sIf (tOrD (tVal (eBin opNe (eUn (isiB "tuple") (eVar 1)) (eUn (isiB "tuple") (eVar 0)))) (tVal (eBin opNe (eUn (isiB "list") (eVar 1)) (eUn (isiB "list") (eVar 0))))) (sRet (eC (.bl false))) sNx) (sSeq (sIf (tVal (eBin opNe (eCall bLen (aCons (eVar 0) aNil)) (eCall bLen (aCons (eVar 1) aNil)))) (sRet (eC (.bl false))) sNx) (sRet (eCall bAll (aCons (eLc [2] (itRange (eCall bLen (aCons (eVar 1) aNil))) (gIt 2) tYesD (eCall (fun ds => (m__law_same n) (ds ++ [])) (aCons (eBin opIx (eVar 0) (eVar 2)) (aCons (eBin opIx (eVar 1) (eVar 2)) aNil)))) aNil))))) sNx) (sSeq (sIf (tVal (eBin opIsN (eVar 1) (eC .non))) (sRet (eBin opIsN (eVar 0) (eC .non))) sNx) (sSeq (sIf (tOrD (tVal (eUn (isiB "bool") (eVar 1))) (tVal (eUn (isiB "bool") (eVar 0)))) (sRet (eAnd (eUn (isiB "bool") (eVar 1)) (eAnd (eUn (isiB "bool") (eVar 0)) (eBin opEq (eVar 1) (eVar 0))))) sNx) (sSeq (sIf (tVal (eUn (isiB "int") (eVar 1))) (sRet (eAnd (eUn (isiB "int") (eVar 0)) (eBin opEq (eVar 0) (eVar 1)))) sNx) (sRet (eAnd (eUn (isiB "str") (eVar 0)) (eBin opEq (eVar 0) (eVar 1))))))))
theorem sc_into_branch : FnScope ["position", "flag"] ["position", "flag"] (defScope (topS 53)) := ⟨rfl, rfl, rfl, by decide +kernel, rfl, by decide +kernel, by decide +kernel⟩
def b_into_branch : En → M Ctl := (sSeq (sIf (tVal (eVar 1)) (sRet (eBin opAdd (eVar 0) (eTup (aCons (eC (.int 0)) (aCons (eC (.int 0)) aNil))))) sNx) (sRet (eBin opAdd (eVar 0) (eTup (aCons (eC (.int 1)) (aCons (eC (.int 0)) aNil))))))
def m_into_branch : List D → M D := fnM 2 2 b_into_branch
theorem sc_behind : FnScope ["position"] ["position"] (defScope (topS 52)) := ⟨rfl, rfl, rfl, by decide +kernel, rfl, by decide +kernel, by decide +kernel⟩
def b_behind : En → M Ctl := (sSeq (sIf (tVal (eBin opEq (eVar 0) (eTup aNil))) (sRet (eC .non)) sNx) (sRet (eBin opAdd (eSl (eVar 0) pNone (pSome (eUn opNeg (eC (.int 1))))) (eTup (aCons (eBin opAdd (eBin opIx (eVar 0) (eUn opNeg (eC (.int 1)))) (eC (.int 1))) aNil)))))
def m_behind : List D → M D := fnM 1 1 b_behind
theorem sc_with_item : FnScope ["items", "at", "item"] ["items", "at", "item"] (defScope (topS 39)) := ⟨rfl, rfl, rfl, by decide +kernel, rfl, by decide +kernel, by decide +kernel⟩
def b_with_item : En → M Ctl := (sRet (eBin opAdd (eBin opAdd (eSl (eVar 0) pNone (pSome (eVar 1))) (eTup (aCons (eVar 2) aNil))) (eSl (eVar 0) (pSome (eBin opAdd (eVar 1) (eC (.int 1)))) pNone)))
def m_with_item : List D → M D := fnM 3 3 b_with_item
theorem sc_branches : FnScope ["row"] ["row"] (defScope (topS 34)) := ⟨rfl, rfl, rfl, by decide +kernel, rfl, by decide +kernel, by decide +kernel⟩
def b_branches : En → M Ctl := (sSeq (sIf (tOrD (tVal (eBin opEq (eBin opIx (eVar 0) (eC (.int 0))) (eC (.str "if")))) (tVal (eBin opEq (eBin opIx (eVar 0) (eC (.int 0))) (eC (.str "ask"))))) (sRet (eSl (eVar 0) (pSome (eUn opNeg (eC (.int 2)))) pNone)) sNx) (sRet (eTup aNil)))
def m_branches : List D → M D := fnM 1 1 b_branches
theorem sc_row_or_none : FnScope ["rows", "position", "beside", "at"] ["rows", "position"] (defScope (topS 51)) := ⟨rfl, rfl, rfl, by decide +kernel, rfl, by decide +kernel, by decide +kernel⟩
def b_row_or_none : En → M Ctl := (sSeq (sAsg (eVar 0) (gVar 2)) (sSeq (sFor (itRange3 (aCons (eC (.int 0)) (aCons (eBin opSub (eCall bLen (aCons (eVar 1) aNil)) (eC (.int 1))) (aCons (eC (.int 2)) aNil)))) (gIt 3) (sAsg (eBin opIx (eCall (fun ds => m_branches (ds ++ [])) (aCons (eBin opIx (eVar 2) (eBin opIx (eVar 1) (eVar 3))) aNil)) (eBin opIx (eVar 1) (eBin opAdd (eVar 3) (eC (.int 1))))) (gVar 2))) (sSeq (sIf (tVal (eBin opEq (eBin opIx (eVar 1) (eUn opNeg (eC (.int 1)))) (eCall bLen (aCons (eVar 2) aNil)))) (sRet (eC .non)) sNx) (sRet (eBin opIx (eVar 2) (eBin opIx (eVar 1) (eUn opNeg (eC (.int 1)))))))))
def m_row_or_none : List D → M D := fnM 2 4 b_row_or_none
theorem sc_go_on : FnScope ["bits", "rows", "flags", "position", "answers", "met", "used", "row"] ["bits", "rows", "flags", "position", "answers"] (defScope (topS 50)) := ⟨rfl, rfl, rfl, by decide +kernel, rfl, by decide +kernel, by decide +kernel⟩
def b_go_on : En → M Ctl := (sSeq (sAsg (eLst aNil) (gVar 5)) (sSeq (sAsg (eC (.int 0)) (gVar 6)) (sSeq (whL (tVal (eBin opNotN (eVar 3) (eC .non))) (sSeq (sAsg (eCall (fun ds => m_row_or_none (ds ++ [])) (aCons (eVar 1) (aCons (eVar 3) aNil))) (gVar 7)) (sSeq (sIf (tVal (eBin opIsN (eVar 7) (eC .non))) (sSeq (sAsg (eCall (fun ds => m_behind (ds ++ [])) (aCons (eSl (eVar 3) pNone (pSome (eUn opNeg (eC (.int 2))))) aNil)) (gVar 3)) sCt) sNx) (sSeq (sEx (eMt chkL mAppend (eVar 5) (aCons (eTup (aCons (eVar 3) (aCons (eVar 7) aNil))) aNil))) (sIf (tVal (eBin opEq (eBin opIx (eVar 7) (eC (.int 0))) (eC (.str "if")))) (sAsg (eCall (fun ds => m_into_branch (ds ++ [])) (aCons (eVar 3) (aCons (eBin opIx (eVar 2) (eMt chkT mIndexT (eVar 0) (aCons (eBin opIx (eVar 7) (eC (.int 1))) aNil))) aNil))) (gVar 3)) (sIf (tVal (eBin opEq (eBin opIx (eVar 7) (eC (.int 0))) (eC (.str "ask")))) (sSeq (sIf (tVal (eBin opEq (eVar 6) (eCall bLen (aCons (eVar 4) aNil)))) (sRet (eTup (aCons (eC (.str "wait")) (aCons (eVar 2) (aCons (eVar 3) (aCons (eVar 5) aNil)))))) sNx) (sSeq (sAsg (eCall (fun ds => m_into_branch (ds ++ [])) (aCons (eVar 3) (aCons (eBin opIx (eVar 4) (eVar 6)) aNil))) (gVar 3)) (sAsg (eBin opAdd (eVar 6) (eC (.int 1))) (gVar 6)))) (sIf (tVal (eBin opEq (eBin opIx (eVar 7) (eC (.int 0))) (eC (.str "set")))) (sSeq (sAsg (eCall (fun ds => m_with_item (ds ++ [])) (aCons (eVar 2) (aCons (eMt chkT mIndexT (eVar 0) (aCons (eBin opIx (eVar 7) (eC (.int 1))) aNil)) (aCons (eBin opIx (eVar 7) (eC (.int 2))) aNil)))) (gVar 2)) (sAsg (eCall (fun ds => m_behind (ds ++ [])) (aCons (eVar 3) aNil)) (gVar 3))) (sIf (tVal (eBin opEq (eBin opIx (eVar 7) (eC (.int 0))) (eC (.str "lead")))) (sRet (eTup (aCons (eC (.str "lead")) (aCons (eVar 2) (aCons (eBin opIx (eVar 7) (eC (.int 1))) (aCons (eVar 5) aNil)))))) (sRet (eTup (aCons (eC (.str "refuse")) (aCons (eVar 2) (aCons (eC .non) (aCons (eVar 5) aNil))))))))))))) 1000) (sRet (eTup (aCons (eC (.str "let")) (aCons (eVar 2) (aCons (eC .non) (aCons (eVar 5) aNil)))))))))
def m_go_on : List D → M D := fnM 5 8 b_go_on
theorem sc_are_flags : FnScope ["site", "value", "flag"] ["site", "value"] (defScope (topS 47)) := ⟨rfl, rfl, rfl, by decide +kernel, rfl, by decide +kernel, by decide +kernel⟩
def b_are_flags : En → M Ctl := (sSeq (sIf (tOrD (tNotD (tVal (eUn (isiB "tuple") (eVar 1)))) (tVal (eBin opNe (eCall bLen (aCons (eVar 1) aNil)) (eCall bLen (aCons (eFld 0 "bits" (eVar 0)) aNil))))) (sRet (eC (.bl false))) sNx) (sRet (eCall bAll (aCons (eLc [2] (itSeq (eVar 1)) (gIt 2) tYesD (eUn (isiB "bool") (eVar 2))) aNil))))
def m_are_flags : List D → M D := fnM 2 3 b_are_flags
theorem sc_InvalidFlags___init__ : FnScope ["self", "flags"] ["self", "flags"] (defScope (inClass (topS 4) 0)) := ⟨rfl, rfl, rfl, by decide +kernel, rfl, by decide +kernel, by decide +kernel⟩
theorem sc_InvalidSide___init__ : FnScope ["self", "side"] ["self", "side"] (defScope (inClass (topS 6) 0)) := ⟨rfl, rfl, rfl, by decide +kernel, rfl, by decide +kernel, by decide +kernel⟩
theorem sc_UnknownPage___init__ : FnScope ["self", "page"] ["self", "page"] (defScope (inClass (topS 8) 0)) := ⟨rfl, rfl, rfl, by decide +kernel, rfl, by decide +kernel, by decide +kernel⟩
theorem sc_find_page : FnScope ["pages", "page", "name", "parts"] ["pages", "page"] (defScope (topS 29)) := ⟨rfl, rfl, rfl, by decide +kernel, rfl, by decide +kernel, by decide +kernel⟩
def b_find_page : En → M Ctl := (sSeq (sFor (itSeq (eVar 0)) (gItP 2 3) (sIf (tVal (eBin opEq (eVar 2) (eVar 1))) (sRet (eVar 3)) sNx)) (sRaise 6 ["page"] (aCons (eVar 1) aNil)))
def m_find_page : List D → M D := fnM 2 4 b_find_page
theorem sc_Site_guard : FnScope ["self", "page", "side", "parts", "at", "known"] ["self", "page", "side"] (defScope (inClass (topS 20) 3)) := ⟨rfl, rfl, rfl, by decide +kernel, rfl, by decide +kernel, by decide +kernel⟩
def b_Site_guard : En → M Ctl := (sSeq (sAsg (eCall (fun ds => m_find_page (ds ++ [])) (aCons (eFld 0 "pages" (eVar 0)) (aCons (eVar 1) aNil))) (gVar 3)) (sSeq (sFor (itEnumT (eC (.tup [(.str "enter"), (.str "leave")]))) (gItP 4 5) (sIf (tVal (eBin opEq (eVar 5) (eVar 2))) (sRet (eBin opIx (eVar 3) (eVar 4))) sNx)) (sRaise 5 ["side"] (aCons (eVar 2) aNil))))
def m_Site_guard : List D → M D := fnM 3 6 b_Site_guard
theorem sc_checked_rows : FnScope ["site", "page", "side", "flags", "rows"] ["site", "page", "side", "flags"] (defScope (topS 48)) := ⟨rfl, rfl, rfl, by decide +kernel, rfl, by decide +kernel, by decide +kernel⟩
def b_checked_rows : En → M Ctl := (sSeq (sAsg (eMeth 0 "guard" m_Site_guard [] (eVar 0) (aCons (eVar 1) (aCons (eVar 2) aNil))) (gVar 4)) (sSeq (sIf (tNotD (tVal (eCall (fun ds => m_are_flags (ds ++ [])) (aCons (eVar 0) (aCons (eVar 3) aNil))))) (sRaise 2 ["flags"] (aCons (eVar 3) aNil)) sNx) (sRet (eVar 4))))
def m_checked_rows : List D → M D := fnM 4 5 b_checked_rows
theorem sc_run_guard : FnScope ["site", "page", "side", "flags", "answers", "rows", "outcome", "after", "where", "met"] ["site", "page", "side", "flags", "answers"] (defScope (topS 42)) := ⟨rfl, rfl, rfl, by decide +kernel, rfl, by decide +kernel, by decide +kernel⟩
def b_run_guard : En → M Ctl := (sSeq (sAsg (eCall (fun ds => m_checked_rows (ds ++ [])) (aCons (eVar 0) (aCons (eVar 1) (aCons (eVar 2) (aCons (eVar 3) aNil))))) (gVar 5)) (sSeq (sAsg (eCall (fun ds => m_go_on (ds ++ [])) (aCons (eFld 0 "bits" (eVar 0)) (aCons (eVar 5) (aCons (eVar 3) (aCons (eTup (aCons (eC (.int 0)) aNil)) (aCons (eVar 4) aNil)))))) (gTupD 4 (gConsD (gVar 6) (gConsD (gVar 7) (gConsD (gVar 8) (gConsD (gVar 9) gNilD)))))) (sRet (eTup (aCons (eVar 6) (aCons (eVar 7) (aCons (eVar 8) aNil)))))))
def m_run_guard : List D → M D := fnM 5 10 b_run_guard
theorem sc_ends_from : FnScope ["bits", "rows", "flags", "position", "given", "ends", "answer", "outcome", "after", "where", "met"] ["bits", "rows", "flags", "position", "given"] (defScope (topS 54)) := ⟨rfl, rfl, rfl, by decide +kernel, rfl, by decide +kernel, by decide +kernel⟩
def m_ends_from : Nat → List D → M D
  | 0 => fun _ => stuck
  | n + 1 => fnM 5 11 (sSeq (sAsg (eCall (fun ds => m_go_on (ds ++ [])) (aCons (eVar 0) (aCons (eVar 1) (aCons (eVar 2) (aCons (eVar 3) (aCons (eSl (eVar 4) (pSome (eUn opNeg (eC (.int 1)))) pNone) aNil)))))) (gTupD 4 (gConsD (gVar 7) (gConsD (gVar 8) (gConsD (gVar 9) (gConsD (gVar 10) gNilD)))))) (sSeq (sIf (tVal (eBin opNe (eVar 7) (eC (.str "wait")))) (sRet (eLst (aCons (eTup (aCons (eVar 4) (aCons (eVar 7) (aCons (eVar 8) (aCons (eVar 9) aNil))))) aNil))) sNx) (sSeq (sAsg (eLst aNil) (gVar 5)) (sSeq (sFor (itSeq (eTup (aCons (eC (.bl false)) (aCons (eC (.bl true)) aNil)))) (gIt 6) (sEx (eMt chkL mExtend (eVar 5) (aCons (eCall (fun ds => (m_ends_from n) (ds ++ [])) (aCons (eVar 0) (aCons (eVar 1) (aCons (eVar 8) (aCons (eVar 9) (aCons (eBin opAdd (eVar 4) (eTup (aCons (eVar 6) aNil))) aNil)))))) aNil)))) (sRet (eVar 5))))))
theorem sc_all_ends : FnScope ["site", "page", "side", "flags", "rows"] ["site", "page", "side", "flags"] (defScope (topS 44)) := ⟨rfl, rfl, rfl, by decide +kernel, rfl, by decide +kernel, by decide +kernel⟩
def b_all_ends : En → M Ctl := (sSeq (sAsg (eCall (fun ds => m_checked_rows (ds ++ [])) (aCons (eVar 0) (aCons (eVar 1) (aCons (eVar 2) (aCons (eVar 3) aNil))))) (gVar 4)) (sRet (eCall (fun ds => (m_ends_from 10) (ds ++ [])) (aCons (eFld 0 "bits" (eVar 0)) (aCons (eVar 4) (aCons (eVar 3) (aCons (eTup (aCons (eC (.int 0)) aNil)) (aCons (eTup aNil) aNil))))))))
def m_all_ends : List D → M D := fnM 4 5 b_all_ends
theorem sc_letting_answers : FnScope ["site", "page", "side", "flags", "best", "answers", "outcome", "after", "where"] ["site", "page", "side", "flags"] (defScope (topS 45)) := ⟨rfl, rfl, rfl, by decide +kernel, rfl, by decide +kernel, by decide +kernel⟩
def b_letting_answers : En → M Ctl := (sSeq (sAsg (eC .non) (gVar 4)) (sSeq (sFor (itSeq (eCall (fun ds => m_all_ends (ds ++ [])) (aCons (eVar 0) (aCons (eVar 1) (aCons (eVar 2) (aCons (eVar 3) aNil)))))) (gItN [5, 6, 7, 8]) (sIf (tAndD (tVal (eBin opEq (eVar 6) (eC (.str "let")))) (tOrD (tVal (eBin opIsN (eVar 4) (eC .non))) (tVal (eBin opLt (eCall bLen (aCons (eVar 5) aNil)) (eCall bLen (aCons (eVar 4) aNil)))))) (sAsg (eVar 5) (gVar 4)) sNx)) (sRet (eVar 4))))
def m_letting_answers : List D → M D := fnM 4 9 b_letting_answers
theorem sc_lets : FnScope ["site", "page", "side", "flags"] ["site", "page", "side", "flags"] (defScope (topS 46)) := ⟨rfl, rfl, rfl, by decide +kernel, rfl, by decide +kernel, by decide +kernel⟩
def b_lets : En → M Ctl := (sRet (eBin opNotN (eCall (fun ds => m_letting_answers (ds ++ [])) (aCons (eVar 0) (aCons (eVar 1) (aCons (eVar 2) (aCons (eVar 3) aNil))))) (eC .non)))
def m_lets : List D → M D := fnM 4 4 b_lets
theorem sc_rows_with_positions : FnScope ["rows", "before", "found", "index", "row", "position", "branch", "inner"] ["rows", "before"] (defScope (topS 35)) := ⟨rfl, rfl, rfl, by decide +kernel, rfl, by decide +kernel, by decide +kernel⟩
def m_rows_with_positions : Nat → List D → M D
  | 0 => fun _ => stuck
  | n + 1 => fnM 2 8 (sSeq (sAsg (eLst aNil) (gVar 2)) (sSeq (sFor (itEnumT (eVar 0)) (gItP 3 4) (sSeq (sAsg (eBin opAdd (eVar 1) (eTup (aCons (eVar 3) aNil))) (gVar 5)) (sSeq (sEx (eMt chkL mAppend (eVar 2) (aCons (eTup (aCons (eVar 5) (aCons (eVar 4) aNil))) aNil))) (sFor (itEnumT (eCall (fun ds => m_branches (ds ++ [])) (aCons (eVar 4) aNil))) (gItP 6 7) (sEx (eMt chkL mExtend (eVar 2) (aCons (eCall (fun ds => (m_rows_with_positions n) (ds ++ [])) (aCons (eVar 7) (aCons (eBin opAdd (eVar 5) (eTup (aCons (eVar 6) aNil))) aNil))) aNil))))))) (sRet (eVar 2))))
theorem sc_is_integer : FnScope ["value"] ["value"] (defScope (topS 21)) := ⟨rfl, rfl, rfl, by decide +kernel, rfl, by decide +kernel, by decide +kernel⟩
def b_is_integer : En → M Ctl := (sRet (eAnd (eUn (isiB "int") (eVar 0)) (eNot (eUn (isiB "bool") (eVar 0)))))
def m_is_integer : List D → M D := fnM 1 1 b_is_integer
theorem sc_has_position_form : FnScope ["value", "item"] ["value"] (defScope (topS 38)) := ⟨rfl, rfl, rfl, by decide +kernel, rfl, by decide +kernel, by decide +kernel⟩
def b_has_position_form : En → M Ctl := (sRet (eAnd (eUn (isiB "tuple") (eVar 0)) (eCall bAll (aCons (eLc [1] (itSeq (eVar 0)) (gIt 1) tYesD (eCall (fun ds => m_is_integer (ds ++ [])) (aCons (eVar 1) aNil))) aNil))))
def m_has_position_form : List D → M D := fnM 1 2 b_has_position_form
theorem sc_is_ask_position : FnScope ["rows", "value", "position", "row"] ["rows", "value"] (defScope (topS 49)) := ⟨rfl, rfl, rfl, by decide +kernel, rfl, by decide +kernel, by decide +kernel⟩
def b_is_ask_position : En → M Ctl := (sSeq (sIf (tNotD (tVal (eCall (fun ds => m_has_position_form (ds ++ [])) (aCons (eVar 1) aNil)))) (sRet (eC (.bl false))) sNx) (sRet (eCall bAny (aCons (eLc [2, 3] (itSeq (eCall (fun ds => (m_rows_with_positions 5) (ds ++ [])) (aCons (eVar 0) (aCons (eTup aNil) aNil)))) (gItP 2 3) tYesD (eAnd (eBin opEq (eVar 2) (eVar 1)) (eBin opEq (eBin opIx (eVar 3) (eC (.int 0))) (eC (.str "ask"))))) aNil))))
def m_is_ask_position : List D → M D := fnM 2 4 b_is_ask_position
theorem sc_InvalidPosition___init__ : FnScope ["self", "position"] ["self", "position"] (defScope (inClass (topS 7) 0)) := ⟨rfl, rfl, rfl, by decide +kernel, rfl, by decide +kernel, by decide +kernel⟩
theorem sc_resume_guard : FnScope ["site", "page", "side", "flags", "position", "answers", "rows", "outcome", "after", "where", "met"] ["site", "page", "side", "flags", "position", "answers"] (defScope (topS 43)) := ⟨rfl, rfl, rfl, by decide +kernel, rfl, by decide +kernel, by decide +kernel⟩
def b_resume_guard : En → M Ctl := (sSeq (sAsg (eCall (fun ds => m_checked_rows (ds ++ [])) (aCons (eVar 0) (aCons (eVar 1) (aCons (eVar 2) (aCons (eVar 3) aNil))))) (gVar 6)) (sSeq (sIf (tNotD (tVal (eCall (fun ds => m_is_ask_position (ds ++ [])) (aCons (eVar 6) (aCons (eVar 4) aNil))))) (sRaise 3 ["position"] (aCons (eVar 4) aNil)) sNx) (sSeq (sAsg (eCall (fun ds => m_go_on (ds ++ [])) (aCons (eFld 0 "bits" (eVar 0)) (aCons (eVar 6) (aCons (eVar 3) (aCons (eVar 4) (aCons (eVar 5) aNil)))))) (gTupD 4 (gConsD (gVar 7) (gConsD (gVar 8) (gConsD (gVar 9) (gConsD (gVar 10) gNilD)))))) (sRet (eTup (aCons (eVar 7) (aCons (eVar 8) (aCons (eVar 9) aNil))))))))
def m_resume_guard : List D → M D := fnM 6 11 b_resume_guard
theorem sc__law_call : FnScope ["_law_site", "_law_which", "_law_page", "_law_side", "_law_flags", "_law_spot", "error"] ["_law_site", "_law_which", "_law_page", "_law_side", "_law_flags", "_law_spot"] (defScope (topS 66)) := ⟨rfl, rfl, rfl, by decide +kernel, rfl, by decide +kernel, by decide +kernel⟩
def b__law_call : En → M Ctl := (sSeq (sTry exT [⟨6, some 6, (uRet (uTup (uCons (fun _ _ _ => some (.str "page")) (uCons (uFld 6 "page") (uCons (uIs 6 false) uNil)))))⟩, ⟨5, some 6, (uRet (uTup (uCons (fun _ _ _ => some (.str "side")) (uCons (uFld 5 "side") (uCons (uIs 5 false) uNil)))))⟩, ⟨2, some 6, (uRet (uTup (uCons (fun _ _ _ => some (.str "flags")) (uCons (uFld 2 "flags") (uCons (uIs 2 false) uNil)))))⟩, ⟨3, some 6, (uRet (uTup (uCons (fun _ _ _ => some (.str "spot")) (uCons (uFld 3 "position") (uCons (uNot (uIs 3 true)) uNil)))))⟩] (sIfR (tVal (eBin opEq (eVar 1) (eC (.int 0)))) (sEx (eCallR m_run_guard (aCons (eVar 0) (aCons (eVar 2) (aCons (eVar 3) (aCons (eVar 4) (aCons (eTup (aCons (eC (.bl true)) aNil)) aNil))))))) (sIfR (tVal (eBin opEq (eVar 1) (eC (.int 1)))) (sEx (eCallR m_all_ends (aCons (eVar 0) (aCons (eVar 2) (aCons (eVar 3) (aCons (eVar 4) aNil)))))) (sIfR (tVal (eBin opEq (eVar 1) (eC (.int 2)))) (sEx (eCallR m_letting_answers (aCons (eVar 0) (aCons (eVar 2) (aCons (eVar 3) (aCons (eVar 4) aNil)))))) (sIfR (tVal (eBin opEq (eVar 1) (eC (.int 3)))) (sEx (eCallR m_lets (aCons (eVar 0) (aCons (eVar 2) (aCons (eVar 3) (aCons (eVar 4) aNil)))))) (sEx (eCallR m_resume_guard (aCons (eVar 0) (aCons (eVar 2) (aCons (eVar 3) (aCons (eVar 4) (aCons (eVar 5) (aCons (eLst (aCons (eC (.bl false)) aNil)) aNil))))))))))))) (sRet (eTup (aCons (eC (.str "let")) (aCons (eC .non) (aCons (eC (.bl false)) aNil))))))
def m__law_call : List D → M D := fnM 6 7 b__law_call
theorem sc__law_all_flags : FnScope ["_law_flags", "_law_count", "_law_flag"] ["_law_flags", "_law_count"] (defScope (topS 68)) := ⟨rfl, rfl, rfl, by decide +kernel, rfl, by decide +kernel, by decide +kernel⟩
def b__law_all_flags : En → M Ctl := (sSeq (sIf (tOrD (tNotD (tVal (eUn (isiB "tuple") (eVar 0)))) (tVal (eBin opNe (eCall bLen (aCons (eVar 0) aNil)) (eVar 1)))) (sRet (eC (.bl false))) sNx) (sRet (eCall bAll (aCons (eLc [2] (itSeq (eVar 0)) (gIt 2) tYesD (eUn (isiB "bool") (eVar 2))) aNil))))
def m__law_all_flags : List D → M D := fnM 2 3 b__law_all_flags
theorem sc__law_mix : FnScope ["_law_value", "_law_k", "_law_number"] ["_law_value", "_law_k"] (defScope (topS 56)) := ⟨rfl, rfl, rfl, by decide +kernel, rfl, by decide +kernel, by decide +kernel⟩
def b__law_mix : En → M Ctl := (sSeq (sAsg (eBin opMod (eBin opMul (eBin opAdd (eBin opAdd (eCall bInt (aCons (eVar 0) aNil)) (eBin opMul (eC (.int 7919)) (eVar 1))) (eC (.int 1))) (eC (.int 48271))) (eC (.int 2147483647))) (gVar 2)) (sSeq (sAsg (eBin opMod (eBin opMul (eVar 2) (eBin opAdd (eBin opDiv (eVar 2) (eC (.int 1009))) (eC (.int 69621)))) (eC (.int 2147483647))) (gVar 2)) (sRet (eBin opMod (eBin opMul (eVar 2) (eBin opAdd (eBin opDiv (eVar 2) (eC (.int 2003))) (eC (.int 40692)))) (eC (.int 2147483399))))))
def m__law_mix : List D → M D := fnM 2 3 b__law_mix
theorem sc__law_draw : FnScope ["_law_box_here", "_law_many", "_law_digit", "_law_cell"] ["_law_box_here", "_law_many"] (defScope (topS 58)) := ⟨rfl, rfl, rfl, by decide +kernel, rfl, by decide +kernel, by decide +kernel⟩
def b__law_draw : En → M Ctl := (sSeq (sAsg (eBin opAdd (eBin opIx (eVar 0) (eC (.int 4))) (eC (.int 1))) (gSubD (eVar 0) (eC (.int 4)))) (sSeq (sIf (tAndD (tVal (eBin opEq (eBin opIx (eVar 0) (eC (.int 2))) (eC (.int 0)))) (tVal (eBin opLt (eBin opIx (eVar 0) (eC (.int 1))) (eCall bLen (aCons (eBin opIx (eVar 0) (eC (.int 0))) aNil))))) (sSeq (sAsg (eBin opIx (eBin opIx (eVar 0) (eC (.int 0))) (eBin opIx (eVar 0) (eC (.int 1)))) (gVar 3)) (sSeq (sAsg (eBin opAdd (eBin opIx (eVar 0) (eC (.int 1))) (eC (.int 1))) (gSubD (eVar 0) (eC (.int 1)))) (sSeq (sIf (tVal (eBin opLt (eVar 3) (eBin opPow (eC (.int 10)) (eC (.int 18))))) (sRet (eBin opMod (eCall bInt (aCons (eCall (fun ds => m__law_mix (ds ++ [])) (aCons (eVar 3) (aCons (eBin opIx (eVar 0) (eC (.int 4))) aNil))) aNil)) (eVar 1))) sNx) (sAsg (eVar 3) (gSubD (eVar 0) (eC (.int 2))))))) sNx) (sSeq (sIf (tVal (eBin opEq (eBin opIx (eVar 0) (eC (.int 2))) (eC (.int 0)))) (sRet (eBin opMod (eCall bInt (aCons (eCall (fun ds => m__law_mix (ds ++ [])) (aCons (eBin opIx (eVar 0) (eC (.int 3))) (aCons (eBin opIx (eVar 0) (eC (.int 4))) aNil))) aNil)) (eVar 1))) sNx) (sSeq (sAsg (eBin opMod (eCall bInt (aCons (eBin opIx (eVar 0) (eC (.int 2))) aNil)) (eVar 1)) (gVar 2)) (sSeq (sAsg (eBin opDiv (eCall bInt (aCons (eBin opIx (eVar 0) (eC (.int 2))) aNil)) (eVar 1)) (gSubD (eVar 0) (eC (.int 2)))) (sRet (eVar 2)))))))
def m__law_draw : List D → M D := fnM 2 4 b__law_draw
theorem sc__law_spots : FnScope ["_law_box_here", "_law_asks_here", "_law_spot", "_law_at", "_law_item", "_law_spoiled"] ["_law_box_here", "_law_asks_here"] (defScope (topS 67)) := ⟨rfl, rfl, rfl, by decide +kernel, rfl, by decide +kernel, by decide +kernel⟩
def b__law_spots : En → M Ctl := (sSeq (sAsg (eTup (aCons (eC (.int 0)) aNil)) (gVar 2)) (sSeq (sIf (tVal (eBin opGt (eCall bLen (aCons (eVar 1) aNil)) (eC (.int 0)))) (sAsg (eBin opIx (eVar 1) (eCall (fun ds => m__law_draw (ds ++ [])) (aCons (eVar 0) (aCons (eCall bLen (aCons (eVar 1) aNil)) aNil)))) (gVar 2)) sNx) (sSeq (sAsg (eCall (fun ds => m__law_draw (ds ++ [])) (aCons (eVar 0) (aCons (eCall bLen (aCons (eVar 2) aNil)) aNil))) (gVar 3)) (sSeq (sAsg (eBin opIx (eLst (aCons (eC (.int 0)) (aCons (eC (.int 1)) (aCons (eC (.int 2)) (aCons (eC (.bl true)) (aCons (eC (.bl false)) (aCons (eC .non) (aCons (eC (.str "0")) (aCons (eUn opNeg (eC (.int 1))) (aCons (eBin opPow (eC (.int 10)) (eC (.int 20))) aNil)))))))))) (eCall (fun ds => m__law_draw (ds ++ [])) (aCons (eVar 0) (aCons (eC (.int 9)) aNil)))) (gVar 4)) (sSeq (sAsg (eLst (aCons (eBin opAdd (eBin opAdd (eSl (eVar 2) pNone (pSome (eVar 3))) (eTup (aCons (eVar 4) aNil))) (eSl (eVar 2) (pSome (eBin opAdd (eVar 3) (eC (.int 1)))) pNone)) (aCons (eBin opAdd (eVar 2) (eTup (aCons (eC (.int 0)) aNil))) (aCons (eBin opAdd (eVar 2) (eTup (aCons (eC (.int 0)) (aCons (eC (.int 0)) aNil)))) (aCons (eSl (eVar 2) pNone (pSome (eVar 3))) (aCons (eCall bList (aCons (eVar 2) aNil)) (aCons (eC .non) (aCons (eC (.int 0)) aNil)))))))) (gVar 5)) (sRet (eLst (aCons (eVar 2) (aCons (eVar 2) (aCons (eBin opIx (eVar 5) (eCall (fun ds => m__law_draw (ds ++ [])) (aCons (eVar 0) (aCons (eC (.int 7)) aNil)))) aNil))))))))))
def m__law_spots : List D → M D := fnM 2 6 b__law_spots
theorem sc__law_asks : FnScope ["_law_rows_here", "_law_prefix", "_law_found", "_law_k", "_law_branch"] ["_law_rows_here", "_law_prefix"] (defScope (topS 65)) := ⟨rfl, rfl, rfl, by decide +kernel, rfl, by decide +kernel, by decide +kernel⟩
def m__law_asks : Nat → List D → M D
  | 0 => fun _ => stuck
  | n + 1 => fnM 2 5 (sSeq (sAsg (eLst aNil) (gVar 2)) (sSeq (sFor (itRange (eCall bLen (aCons (eVar 0) aNil))) (gIt 3) (sSeq (sIf (tVal (eBin opEq (eBin opIx (eBin opIx (eVar 0) (eVar 3)) (eC (.int 0))) (eC (.str "ask")))) (sEx (eMt chkL mAppend (eVar 2) (aCons (eBin opAdd (eVar 1) (eTup (aCons (eVar 3) aNil))) aNil))) sNx) (sIf (tVal (eBin opIn (eBin opIx (eBin opIx (eVar 0) (eVar 3)) (eC (.int 0))) (eTup (aCons (eC (.str "if")) (aCons (eC (.str "ask")) aNil))))) (sFor (itRange (eC (.int 2))) (gIt 4) (sEx (eMt chkL mExtend (eVar 2) (aCons (eCall (fun ds => (m__law_asks n) (ds ++ [])) (aCons (eBin opIx (eBin opIx (eVar 0) (eVar 3)) (eBin opAdd (eBin opSub (eCall bLen (aCons (eBin opIx (eVar 0) (eVar 3)) aNil)) (eC (.int 2))) (eVar 4))) (aCons (eBin opAdd (eVar 1) (eTup (aCons (eVar 3) (aCons (eVar 4) aNil)))) aNil))) aNil)))) sNx))) (sRet (eVar 2))))
theorem sc_InvalidSite___init__ : FnScope ["self", "part", "path"] ["self", "part", "path"] (defScope (inClass (topS 3) 0)) := ⟨rfl, rfl, rfl, by decide +kernel, rfl, by decide +kernel, by decide +kernel⟩
theorem sc_may_branch : FnScope ["position", "row", "depth"] ["position", "row"] (defScope (topS 33)) := ⟨rfl, rfl, rfl, by decide +kernel, rfl, by decide +kernel, by decide +kernel⟩
def b_may_branch : En → M Ctl := (sSeq (sAsg (eBin opDiv (eBin opAdd (eCall bLen (aCons (eVar 0) aNil)) (eC (.int 1))) (eC (.int 2))) (gVar 2)) (sRet (eAnd (eBin opLe (eVar 2) (eC (.int (3)))) (eAnd (eUn (isiB "tuple") (eBin opIx (eVar 1) (eUn opNeg (eC (.int 2))))) (eUn (isiB "tuple") (eBin opIx (eVar 1) (eUn opNeg (eC (.int 1)))))))))
def m_may_branch : List D → M D := fnM 2 3 b_may_branch
theorem sc_is_row : FnScope ["bits", "names", "side", "position", "row", "word"] ["bits", "names", "side", "position", "row"] (defScope (topS 32)) := ⟨rfl, rfl, rfl, by decide +kernel, rfl, by decide +kernel, by decide +kernel⟩
def b_is_row : En → M Ctl := (sSeq (sIf (tOrD (tNotD (tVal (eUn (isiB "tuple") (eVar 4)))) (tVal (eBin opEq (eCall bLen (aCons (eVar 4) aNil)) (eC (.int 0))))) (sRet (eC (.bl false))) sNx) (sSeq (sAsg (eBin opIx (eVar 4) (eC (.int 0))) (gVar 5)) (sSeq (sIf (tVal (eBin opEq (eVar 5) (eC (.str "if")))) (sRet (eAnd (eBin opEq (eCall bLen (aCons (eVar 4) aNil)) (eC (.int 4))) (eAnd (eBin opIn (eBin opIx (eVar 4) (eC (.int 1))) (eVar 0)) (eCall (fun ds => m_may_branch (ds ++ [])) (aCons (eVar 3) (aCons (eVar 4) aNil)))))) sNx) (sSeq (sIf (tVal (eBin opEq (eVar 5) (eC (.str "ask")))) (sRet (eAnd (eBin opEq (eCall bLen (aCons (eVar 4) aNil)) (eC (.int 3))) (eCall (fun ds => m_may_branch (ds ++ [])) (aCons (eVar 3) (aCons (eVar 4) aNil))))) sNx) (sSeq (sIf (tVal (eBin opEq (eVar 5) (eC (.str "set")))) (sRet (eAnd (eBin opEq (eCall bLen (aCons (eVar 4) aNil)) (eC (.int 3))) (eAnd (eBin opIn (eBin opIx (eVar 4) (eC (.int 1))) (eVar 0)) (eUn (isiB "bool") (eBin opIx (eVar 4) (eC (.int 2))))))) sNx) (sSeq (sIf (tVal (eBin opEq (eVar 5) (eC (.str "lead")))) (sRet (eAnd (eBin opEq (eCall bLen (aCons (eVar 4) aNil)) (eC (.int 2))) (eAnd (eBin opIn (eBin opIx (eVar 4) (eC (.int 1))) (eVar 1)) (eBin opEq (eVar 2) (eC (.str "enter")))))) sNx) (sRet (eBin opEq (eVar 4) (eTup (aCons (eC (.str "refuse")) aNil))))))))))
def m_is_row : List D → M D := fnM 5 6 b_is_row
theorem sc_first_wrong_row : FnScope ["bits", "names", "side", "rows", "before", "index", "row", "position", "branch", "inner", "wrong"] ["bits", "names", "side", "rows", "before"] (defScope (topS 31)) := ⟨rfl, rfl, rfl, by decide +kernel, rfl, by decide +kernel, by decide +kernel⟩
def m_first_wrong_row : Nat → List D → M D
  | 0 => fun _ => stuck
  | n + 1 => fnM 5 11 (sSeq (sFor (itEnumT (eVar 3)) (gItP 5 6) (sSeq (sAsg (eBin opAdd (eVar 4) (eTup (aCons (eVar 5) aNil))) (gVar 7)) (sSeq (sIf (tNotD (tVal (eCall (fun ds => m_is_row (ds ++ [])) (aCons (eVar 0) (aCons (eVar 1) (aCons (eVar 2) (aCons (eVar 7) (aCons (eVar 6) aNil)))))))) (sRet (eVar 7)) sNx) (sFor (itEnumT (eCall (fun ds => m_branches (ds ++ [])) (aCons (eVar 6) aNil))) (gItP 8 9) (sSeq (sAsg (eCall (fun ds => (m_first_wrong_row n) (ds ++ [])) (aCons (eVar 0) (aCons (eVar 1) (aCons (eVar 2) (aCons (eVar 9) (aCons (eBin opAdd (eVar 7) (eTup (aCons (eVar 8) aNil))) aNil)))))) (gVar 10)) (sIf (tVal (eBin opNotN (eVar 10) (eC .non))) (sRet (eVar 10)) sNx)))))) (sRet (eC .non)))
theorem sc_check_guard : FnScope ["bits", "names", "page", "side", "rows", "wrong"] ["bits", "names", "page", "side", "rows"] (defScope (topS 30)) := ⟨rfl, rfl, rfl, by decide +kernel, rfl, by decide +kernel, by decide +kernel⟩
def b_check_guard : En → M Ctl := (sSeq (sIf (tNotD (tVal (eUn (isiB "tuple") (eVar 4)))) (sRaise 1 ["part", "path"] (aCons (eC (.str "rows")) (aCons (eTup (aCons (eVar 2) (aCons (eVar 3) (aCons (eTup aNil) aNil)))) aNil))) sNx) (sSeq (sAsg (eCall (fun ds => (m_first_wrong_row 5) (ds ++ [])) (aCons (eVar 0) (aCons (eVar 1) (aCons (eVar 3) (aCons (eVar 4) (aCons (eTup aNil) aNil)))))) (gVar 5)) (sSeq (sIf (tVal (eBin opNotN (eVar 5) (eC .non))) (sRaise 1 ["part", "path"] (aCons (eC (.str "rows")) (aCons (eTup (aCons (eVar 2) (aCons (eVar 3) (aCons (eVar 5) aNil)))) aNil))) sNx) (sIf (tVal (eBin opGt (eCall bLen (aCons (eCall (fun ds => (m_rows_with_positions 5) (ds ++ [])) (aCons (eVar 4) (aCons (eTup aNil) aNil))) aNil)) (eC (.int (8))))) (sRaise 1 ["part", "path"] (aCons (eC (.str "many")) (aCons (eTup (aCons (eVar 2) (aCons (eVar 3) (aCons (eTup aNil) aNil)))) aNil))) sNx))))
def m_check_guard : List D → M D := fnM 5 6 b_check_guard
theorem sc_names_of : FnScope ["pages", "pair"] ["pages"] (defScope (topS 28)) := ⟨rfl, rfl, rfl, by decide +kernel, rfl, by decide +kernel, by decide +kernel⟩
def b_names_of : En → M Ctl := (sRet (eCall bTuple (aCons (eLc [1] (itSeq (eVar 0)) (gIt 1) tYesD (eBin opIx (eVar 1) (eC (.int 0)))) aNil)))
def m_names_of : List D → M D := fnM 1 2 b_names_of
theorem sc_is_named_page : FnScope ["value", "page"] ["value"] (defScope (topS 27)) := ⟨rfl, rfl, rfl, by decide +kernel, rfl, by decide +kernel, by decide +kernel⟩
def b_is_named_page : En → M Ctl := (sSeq (sIf (tOrD (tNotD (tVal (eUn (isiB "tuple") (eVar 0)))) (tVal (eBin opNe (eCall bLen (aCons (eVar 0) aNil)) (eC (.int 2))))) (sRet (eC (.bl false))) sNx) (sSeq (sAsg (eBin opIx (eVar 0) (eC (.int 1))) (gVar 1)) (sRet (eAnd (eUn (isiB "tuple") (eVar 1)) (eAnd (eBin opEq (eCall bLen (aCons (eVar 1) aNil)) (eC (.int 3))) (eUn (isiB "bool") (eBin opIx (eVar 1) (eC (.int 2)))))))))
def m_is_named_page : List D → M D := fnM 1 2 b_is_named_page
theorem sc_is_name : FnScope ["value", "letter"] ["value"] (defScope (topS 22)) := ⟨rfl, rfl, rfl, by decide +kernel, rfl, by decide +kernel, by decide +kernel⟩
def b_is_name : En → M Ctl := (sSeq (sIf (tOrD (tNotD (tVal (eUn (isiB "str") (eVar 0)))) (tNotD (tVal (eChain opLe opLe (eC (.int 1)) (eCall bLen (aCons (eVar 0) aNil)) (eC (.int (8))))))) (sRet (eC (.bl false))) sNx) (sRet (eCall bAll (aCons (eLc [1] (itSeq (eVar 0)) (gIt 1) tYesD (eBin opIn (eVar 1) (eC (.str "abcdefghijklmnopqrstuvwxyz")))) aNil))))
def m_is_name : List D → M D := fnM 1 2 b_is_name
theorem sc_are_different_names : FnScope ["values", "value"] ["values"] (defScope (topS 23)) := ⟨rfl, rfl, rfl, by decide +kernel, rfl, by decide +kernel, by decide +kernel⟩
def b_are_different_names : En → M Ctl := (sRet (eAnd (eCall bAll (aCons (eLc [1] (itSeq (eVar 0)) (gIt 1) tYesD (eCall (fun ds => m_is_name (ds ++ [])) (aCons (eVar 1) aNil))) aNil)) (eBin opEq (eUn lenSetD (eVar 0)) (eCall bLen (aCons (eVar 0) aNil)))))
def m_are_different_names : List D → M D := fnM 1 2 b_are_different_names
theorem sc_are_pages : FnScope ["value", "pair"] ["value"] (defScope (topS 26)) := ⟨rfl, rfl, rfl, by decide +kernel, rfl, by decide +kernel, by decide +kernel⟩
def b_are_pages : En → M Ctl := (sSeq (sIf (tOrD (tNotD (tVal (eUn (isiB "tuple") (eVar 0)))) (tNotD (tVal (eChain opLe opLe (eC (.int (2))) (eCall bLen (aCons (eVar 0) aNil)) (eC (.int (5))))))) (sRet (eC (.bl false))) sNx) (sRet (eAnd (eCall bAll (aCons (eLc [1] (itSeq (eVar 0)) (gIt 1) tYesD (eCall (fun ds => m_is_named_page (ds ++ [])) (aCons (eVar 1) aNil))) aNil)) (eCall (fun ds => m_are_different_names (ds ++ [])) (aCons (eCall (fun ds => m_names_of (ds ++ [])) (aCons (eVar 0) aNil)) aNil)))))
def m_are_pages : List D → M D := fnM 1 2 b_are_pages
theorem sc_are_bits : FnScope ["value"] ["value"] (defScope (topS 25)) := ⟨rfl, rfl, rfl, by decide +kernel, rfl, by decide +kernel, by decide +kernel⟩
def b_are_bits : En → M Ctl := (sRet (eAnd (eUn (isiB "tuple") (eVar 0)) (eAnd (eBin opLe (eCall bLen (aCons (eVar 0) aNil)) (eC (.int (3)))) (eCall (fun ds => m_are_different_names (ds ++ [])) (aCons (eVar 0) aNil)))))
def m_are_bits : List D → M D := fnM 1 1 b_are_bits
theorem sc_check_site : FnScope ["bits", "pages", "start", "keep", "names", "name", "parts", "at", "side"] ["bits", "pages", "start", "keep"] (defScope (topS 24)) := ⟨rfl, rfl, rfl, by decide +kernel, rfl, by decide +kernel, by decide +kernel⟩
def b_check_site : En → M Ctl := (sSeq (sIf (tNotD (tVal (eCall (fun ds => m_are_bits (ds ++ [])) (aCons (eVar 0) aNil)))) (sRaise 1 ["part", "path"] (aCons (eC (.str "bits")) (aCons (eTup aNil) aNil))) sNx) (sSeq (sIf (tNotD (tVal (eCall (fun ds => m_are_pages (ds ++ [])) (aCons (eVar 1) aNil)))) (sRaise 1 ["part", "path"] (aCons (eC (.str "pages")) (aCons (eTup aNil) aNil))) sNx) (sSeq (sAsg (eCall (fun ds => m_names_of (ds ++ [])) (aCons (eVar 1) aNil)) (gVar 4)) (sSeq (sFor (itSeq (eVar 1)) (gItP 5 6) (sFor (itEnumT (eC (.tup [(.str "enter"), (.str "leave")]))) (gItP 7 8) (sEx (eCall (fun ds => m_check_guard (ds ++ [])) (aCons (eVar 0) (aCons (eVar 4) (aCons (eVar 5) (aCons (eVar 8) (aCons (eBin opIx (eVar 6) (eVar 7)) aNil))))))))) (sSeq (sIf (tVal (eBin opNotIn (eVar 2) (eVar 4))) (sRaise 1 ["part", "path"] (aCons (eC (.str "start")) (aCons (eTup aNil) aNil))) sNx) (sIf (tOrD (tNotD (tVal (eCall (fun ds => m_is_integer (ds ++ [])) (aCons (eVar 3) aNil)))) (tNotD (tVal (eChain opLe opLe (eC (.int (2))) (eVar 3) (eC (.int (4))))))) (sRaise 1 ["part", "path"] (aCons (eC (.str "keep")) (aCons (eTup aNil) aNil))) sNx))))))
def m_check_site : List D → M D := fnM 4 9 b_check_site
theorem sc_Site___init__ : FnScope ["self", "bits", "pages", "start", "keep"] ["self", "bits", "pages", "start", "keep"] (defScope (inClass (topS 20) 0)) := ⟨rfl, rfl, rfl, by decide +kernel, rfl, by decide +kernel, by decide +kernel⟩
def b_Site___init__ : En → M Ctl := (sSeq (sEx (eCall (fun ds => m_check_site (ds ++ [])) (aCons (eVar 1) (aCons (eVar 2) (aCons (eVar 3) (aCons (eVar 4) aNil)))))) (sSeq (sFld 0 "bits" (eVar 1) (eVar 0)) (sSeq (sFld 0 "pages" (eVar 2) (eVar 0)) (sSeq (sFld 0 "start" (eVar 3) (eVar 0)) (sFld 0 "keep" (eVar 4) (eVar 0))))))
def m_Site___init__ : List D → M D := fnM 5 5 b_Site___init__
theorem sc__law_word : FnScope ["_law_box_here", "_law_bits", "_law_side", "_law_depth", "_law_word_here"] ["_law_box_here", "_law_bits", "_law_side", "_law_depth"] (defScope (topS 60)) := ⟨rfl, rfl, rfl, by decide +kernel, rfl, by decide +kernel, by decide +kernel⟩
def b__law_word : En → M Ctl := (sSeq (sAsg (eBin opIx (eLst (aCons (eC (.str "if")) (aCons (eC (.str "ask")) (aCons (eC (.str "set")) (aCons (eC (.str "lead")) (aCons (eC (.str "refuse")) (aCons (eC (.str "ask")) (aCons (eC (.str "if")) (aCons (eC (.str "set")) aNil))))))))) (eCall (fun ds => m__law_draw (ds ++ [])) (aCons (eVar 0) (aCons (eC (.int 8)) aNil)))) (gVar 4)) (sSeq (sIf (tAndD (tVal (eBin opEq (eVar 4) (eC (.str "lead")))) (tVal (eBin opEq (eVar 2) (eC (.str "leave"))))) (sAsg (eC (.str "ask")) (gVar 4)) sNx) (sSeq (sIf (tAndD (tVal (eBin opIn (eVar 4) (eTup (aCons (eC (.str "if")) (aCons (eC (.str "set")) aNil))))) (tVal (eBin opEq (eCall bLen (aCons (eVar 1) aNil)) (eC (.int 0))))) (sAsg (eC (.str "ask")) (gVar 4)) sNx) (sSeq (sIf (tAndD (tVal (eBin opIn (eVar 4) (eTup (aCons (eC (.str "if")) (aCons (eC (.str "ask")) aNil))))) (tVal (eBin opEq (eVar 3) (eC (.int 4))))) (sAsg (eC (.str "refuse")) (gVar 4)) sNx) (sRet (eVar 4))))))
def m__law_word : List D → M D := fnM 4 5 b__law_word
theorem sc__law_row : FnScope ["_law_box_here", "_law_bits", "_law_names_here", "_law_side", "_law_depth", "_law_room", "_law_word_here", "_law_head", "_law_first", "_law_second"] ["_law_box_here", "_law_bits", "_law_names_here", "_law_side", "_law_depth", "_law_room"] (defScope (topS 62)) := ⟨rfl, rfl, rfl, by decide +kernel, rfl, by decide +kernel, by decide +kernel⟩
theorem sc__law_rows : FnScope ["_law_box_here", "_law_bits", "_law_names_here", "_law_side", "_law_depth", "_law_room", "_law_many", "_law_rows_here", "_law_k"] ["_law_box_here", "_law_bits", "_law_names_here", "_law_side", "_law_depth", "_law_room"] (defScope (topS 61)) := ⟨rfl, rfl, rfl, by decide +kernel, rfl, by decide +kernel, by decide +kernel⟩
mutual
def m__law_row : Nat → List D → M D
  | 0 => fun _ => stuck
  | n + 1 => fnM 6 10 (sSeq (sAsg (eCall (fun ds => m__law_word (ds ++ [])) (aCons (eVar 0) (aCons (eVar 1) (aCons (eVar 3) (aCons (eVar 4) aNil))))) (gVar 6)) (sSeq (sIf (tVal (eBin opEq (eVar 6) (eC (.str "refuse")))) (sRet (eTup (aCons (eC (.str "refuse")) aNil))) sNx) (sSeq (sIf (tVal (eBin opEq (eVar 6) (eC (.str "lead")))) (sRet (eTup (aCons (eC (.str "lead")) (aCons (eBin opIx (eVar 2) (eCall (fun ds => m__law_draw (ds ++ [])) (aCons (eVar 0) (aCons (eCall bLen (aCons (eVar 2) aNil)) aNil)))) aNil)))) sNx) (sSeq (sIf (tVal (eBin opEq (eVar 6) (eC (.str "set")))) (sRet (eTup (aCons (eC (.str "set")) (aCons (eBin opIx (eVar 1) (eCall (fun ds => m__law_draw (ds ++ [])) (aCons (eVar 0) (aCons (eCall bLen (aCons (eVar 1) aNil)) aNil)))) (aCons (eBin opEq (eCall (fun ds => m__law_draw (ds ++ [])) (aCons (eVar 0) (aCons (eC (.int 2)) aNil))) (eC (.int 1))) aNil))))) sNx) (sSeq (sAsg (eTup (aCons (eC (.str "ask")) aNil)) (gVar 7)) (sSeq (sIf (tVal (eBin opEq (eVar 6) (eC (.str "if")))) (sAsg (eTup (aCons (eC (.str "if")) (aCons (eBin opIx (eVar 1) (eCall (fun ds => m__law_draw (ds ++ [])) (aCons (eVar 0) (aCons (eCall bLen (aCons (eVar 1) aNil)) aNil)))) aNil))) (gVar 7)) sNx) (sSeq (sAsg (eCall (fun ds => (m__law_rows n) (ds ++ [])) (aCons (eVar 0) (aCons (eVar 1) (aCons (eVar 2) (aCons (eVar 3) (aCons (eBin opAdd (eVar 4) (eC (.int 1))) (aCons (eVar 5) aNil))))))) (gVar 8)) (sSeq (sAsg (eCall (fun ds => (m__law_rows n) (ds ++ [])) (aCons (eVar 0) (aCons (eVar 1) (aCons (eVar 2) (aCons (eVar 3) (aCons (eBin opAdd (eVar 4) (eC (.int 1))) (aCons (eVar 5) aNil))))))) (gVar 9)) (sRet (eBin opAdd (eVar 7) (eTup (aCons (eVar 8) (aCons (eVar 9) aNil)))))))))))))
def m__law_rows : Nat → List D → M D
  | 0 => fun _ => stuck
  | n + 1 => fnM 6 9 (sSeq (sAsg (eCall (fun ds => m__law_draw (ds ++ [])) (aCons (eVar 0) (aCons (eC (.int 12)) aNil))) (gVar 6)) (sSeq (sIf (tVal (eBin opGt (eVar 6) (eC (.int 8)))) (sAsg (eBin opSub (eVar 6) (eC (.int 8))) (gVar 6)) sNx) (sSeq (sAsg (eLst aNil) (gVar 7)) (sSeq (sFor (itRange (eVar 6)) (gIt 8) (sIf (tVal (eBin opGt (eBin opIx (eVar 5) (eC (.int 0))) (eC (.int 0)))) (sSeq (sAsg (eBin opSub (eBin opIx (eVar 5) (eC (.int 0))) (eC (.int 1))) (gSubD (eVar 5) (eC (.int 0)))) (sEx (eMt chkL mAppend (eVar 7) (aCons (eCall (fun ds => (m__law_row n) (ds ++ [])) (aCons (eVar 0) (aCons (eVar 1) (aCons (eVar 2) (aCons (eVar 3) (aCons (eVar 4) (aCons (eVar 5) aNil))))))) aNil)))) sNx)) (sRet (eCall bTuple (aCons (eVar 7) aNil)))))))
end
theorem sc__law_names : FnScope ["_law_box_here", "_law_many", "_law_names_here", "_law_k", "_law_word_here", "_law_at", "_law_free", "_law_sign"] ["_law_box_here", "_law_many"] (defScope (topS 59)) := ⟨rfl, rfl, rfl, by decide +kernel, rfl, by decide +kernel, by decide +kernel⟩
def b__law_names : En → M Ctl := (sSeq (sAsg (eLst aNil) (gVar 2)) (sSeq (sFor (itRange (eVar 1)) (gIt 3) (sSeq (sAsg (eC (.str "")) (gVar 4)) (sSeq (sFor (itRange (eBin opAdd (eC (.int 1)) (eCall (fun ds => m__law_draw (ds ++ [])) (aCons (eVar 0) (aCons (eC (.int 8)) aNil))))) (gIt 5) (sAsg (eBin opAdd (eVar 4) (eBin opIx (eC (.str "abcdefghijklmnopqrstuvwxyz")) (eCall (fun ds => m__law_draw (ds ++ [])) (aCons (eVar 0) (aCons (eC (.int 26)) aNil))))) (gVar 4))) (sSeq (sIf (tVal (eBin opIn (eVar 4) (eVar 2))) (sSeq (sAsg (eLc [7] (itStr (eC (.str "abcdefghijklmnopqrstuvwxyz"))) (gIt 7) (tVal (eBin opNotIn (eBin opAdd (eSl (eVar 4) pNone (pSome (eC (.int 7)))) (eVar 7)) (eVar 2))) (eBin opAdd (eSl (eVar 4) pNone (pSome (eC (.int 7)))) (eVar 7))) (gVar 6)) (sAsg (eBin opIx (eVar 6) (eC (.int 0))) (gVar 4))) sNx) (sEx (eMt chkL mAppend (eVar 2) (aCons (eVar 4) aNil))))))) (sRet (eVar 2))))
def m__law_names : List D → M D := fnM 2 8 b__law_names
theorem sc__law_parts : FnScope ["_law_box_here", "_law_size", "_law_bits", "_law_names_here", "_law_pages", "_law_name", "_law_first", "_law_heavy", "_law_rooms", "_law_enter", "_law_leave"] ["_law_box_here"] (defScope (topS 63)) := ⟨rfl, rfl, rfl, by decide +kernel, rfl, by decide +kernel, by decide +kernel⟩
def b__law_parts : En → M Ctl := (sSeq (sAsg (eBin opAdd (eC (.int 2)) (eCall (fun ds => m__law_draw (ds ++ [])) (aCons (eVar 0) (aCons (eC (.int 3)) aNil)))) (gVar 1)) (sSeq (sAsg (eCall bTuple (aCons (eCall (fun ds => m__law_names (ds ++ [])) (aCons (eVar 0) (aCons (eCall (fun ds => m__law_draw (ds ++ [])) (aCons (eVar 0) (aCons (eC (.int 4)) aNil))) aNil))) aNil)) (gVar 2)) (sSeq (sAsg (eCall (fun ds => m__law_names (ds ++ [])) (aCons (eVar 0) (aCons (eBin opAdd (eC (.int 2)) (eCall (fun ds => m__law_draw (ds ++ [])) (aCons (eVar 0) (aCons (eC (.int 4)) aNil)))) aNil))) (gVar 3)) (sSeq (sIf (tAndD (tVal (eBin opEq (eCall (fun ds => m__law_draw (ds ++ [])) (aCons (eVar 0) (aCons (eC (.int 4)) aNil))) (eC (.int 0)))) (tAndD (tVal (eBin opGt (eCall bLen (aCons (eVar 2) aNil)) (eC (.int 0)))) (tVal (eBin opNotIn (eBin opIx (eVar 2) (eC (.int 0))) (eVar 3))))) (sAsg (eBin opIx (eVar 2) (eC (.int 0))) (gSubD (eVar 3) (eC (.int 0)))) sNx) (sSeq (sAsg (eLst aNil) (gVar 4)) (sSeq (sFor (itSeq (eVar 3)) (gIt 5) (sSeq (sAsg (eBin opEq (eCall (fun ds => m__law_draw (ds ++ [])) (aCons (eVar 0) (aCons (eC (.int 2)) aNil))) (eC (.int 1))) (gVar 7)) (sSeq (sAsg (eLst (aCons (eC (.int 0)) (aCons (eC (.int 1)) (aCons (eC (.int 2)) (aCons (eC (.int 3)) (aCons (eC (.int 8)) (aCons (eC (.int 0)) (aCons (eC (.int 5)) (aCons (eC (.int 1)) aNil))))))))) (gVar 8)) (sSeq (sAsg (eCall (fun ds => (m__law_rows 8) (ds ++ [])) (aCons (eVar 0) (aCons (eVar 2) (aCons (eVar 3) (aCons (eC (.str "enter")) (aCons (eC (.int 1)) (aCons (eLst (aCons (eBin opIx (eVar 8) (eCall (fun ds => m__law_draw (ds ++ [])) (aCons (eVar 0) (aCons (eC (.int 8)) aNil)))) aNil)) aNil))))))) (gVar 9)) (sSeq (sAsg (eCall (fun ds => (m__law_rows 8) (ds ++ [])) (aCons (eVar 0) (aCons (eVar 2) (aCons (eVar 3) (aCons (eC (.str "leave")) (aCons (eC (.int 1)) (aCons (eLst (aCons (eBin opIx (eVar 8) (eCall (fun ds => m__law_draw (ds ++ [])) (aCons (eVar 0) (aCons (eC (.int 8)) aNil)))) aNil)) aNil))))))) (gVar 10)) (sEx (eMt chkL mAppend (eVar 4) (aCons (eTup (aCons (eVar 5) (aCons (eTup (aCons (eVar 9) (aCons (eVar 10) (aCons (eVar 7) aNil)))) aNil))) aNil)))))))) (sSeq (sAsg (eBin opIx (eVar 3) (eCall (fun ds => m__law_draw (ds ++ [])) (aCons (eVar 0) (aCons (eCall bLen (aCons (eVar 3) aNil)) aNil)))) (gVar 6)) (sRet (eTup (aCons (eVar 2) (aCons (eCall bTuple (aCons (eVar 4) aNil)) (aCons (eVar 6) (aCons (eVar 1) aNil)))))))))))))
def m__law_parts : List D → M D := fnM 1 11 b__law_parts
theorem sc__law_box : FnScope ["_law_script", "_law_cells", "_law_seed", "_law_cell"] ["_law_script"] (defScope (topS 57)) := ⟨rfl, rfl, rfl, by decide +kernel, rfl, by decide +kernel, by decide +kernel⟩
def b__law_box : En → M Ctl := (sSeq (sAsg (eLc [3] (itSeq (eSl (eVar 0) pNone (pSome (eC (.int 63))))) (gIt 3) tYesD (eCall bInt (aCons (eVar 3) aNil))) (gVar 1)) (sSeq (sAsg (eC (.int 11)) (gVar 2)) (sSeq (sFor (itSeq (eVar 1)) (gIt 3) (sAsg (eCall (fun ds => m__law_mix (ds ++ [])) (aCons (eBin opAdd (eVar 2) (eVar 3)) (aCons (eC (.int 3)) aNil))) (gVar 2))) (sRet (eLst (aCons (eVar 1) (aCons (eC (.int 0)) (aCons (eC (.int 0)) (aCons (eVar 2) (aCons (eC (.int 0)) aNil))))))))))
def m__law_box : List D → M D := fnM 1 4 b__law_box
theorem sc_law : FnScope ["_law_script", "_law_box_here", "_law_kinds", "_law_menus", "_law_parts_here", "_law_site", "_law_at", "_law_half", "_law_side", "_law_asks_here", "_law_spot", "_law_flags", "_law_which", "_law_name", "_law_page", "_law_fewer", "_law_bad", "_law_due", "_law_k", "_law_bit", "_law_ask"] ["_law_script"] (defScope (topS 69)) := ⟨rfl, rfl, rfl, by decide +kernel, rfl, by decide +kernel, by decide +kernel⟩
def b_law : En → M Ctl := (sSeq (sAsg (eCall (fun ds => m__law_box (ds ++ [])) (aCons (eVar 0) aNil)) (gVar 1)) (sSeq (sAsg (eLc [18] (itRange (eC (.int 4))) (gIt 18) tYesD (eCall (fun ds => m__law_draw (ds ++ [])) (aCons (eVar 1) (aCons (eC (.int 3)) aNil)))) (gVar 2)) (sSeq (sAsg (eLc [18] (itRange (eC (.int 3))) (gIt 18) tYesD (eCall (fun ds => m__law_draw (ds ++ [])) (aCons (eVar 1) (aCons (eC (.int 6)) aNil)))) (gVar 3)) (sSeq (sAsg (eCall (fun ds => m__law_parts (ds ++ [])) (aCons (eVar 1) aNil)) (gVar 4)) (sSeq (sAsg (eMakeK 0 3 1 gSite m_Site___init__ (aCons (eBin opIx (eVar 4) (eC (.int 0))) (aCons (eBin opIx (eVar 4) (eC (.int 1))) (aCons (eBin opIx (eVar 4) (eC (.int 2))) aNil))) (aCons (eBin opIx (eVar 4) (eC (.int 3))) aNil)) (gVar 5)) (sSeq (sAsg (eCall (fun ds => m__law_draw (ds ++ [])) (aCons (eVar 1) (aCons (eCall bLen (aCons (eBin opIx (eVar 4) (eC (.int 1))) aNil)) aNil))) (gVar 6)) (sSeq (sAsg (eCall (fun ds => m__law_draw (ds ++ [])) (aCons (eVar 1) (aCons (eC (.int 2)) aNil))) (gVar 7)) (sSeq (sAsg (eBin opIx (eBin opIx (eVar 4) (eC (.int 1))) (eVar 6)) (gTupD 2 (gConsD (gVar 13) (gConsD (gVar 14) gNilD)))) (sSeq (sAsg (eBin opIx (eLst (aCons (eC (.str "enter")) (aCons (eC (.str "leave")) aNil))) (eVar 7)) (gVar 8)) (sSeq (sAsg (eCall (fun ds => (m__law_asks 5) (ds ++ [])) (aCons (eBin opIx (eVar 14) (eVar 7)) (aCons (eTup aNil) aNil))) (gVar 9)) (sSeq (sAsg (eBin opIx (eCall (fun ds => m__law_spots (ds ++ [])) (aCons (eVar 1) (aCons (eVar 9) aNil))) (eBin opIx (eVar 2) (eC (.int 3)))) (gVar 10)) (sSeq (sAsg (eCall bTuple (aCons (eLc [19] (itSeq (eBin opIx (eVar 4) (eC (.int 0)))) (gIt 19) tYesD (eBin opEq (eCall (fun ds => m__law_draw (ds ++ [])) (aCons (eVar 1) (aCons (eC (.int 2)) aNil))) (eC (.int 1)))) aNil)) (gVar 11)) (sSeq (sIf (tVal (eBin opEq (eBin opIx (eVar 2) (eC (.int 2))) (eC (.int 2)))) (sSeq (sAsg (eSl (eVar 11) pNone (pSome (eBin opSub (eCall bLen (aCons (eVar 11) aNil)) (eC (.int 1))))) (gVar 15)) (sSeq (sAsg (eLst (aCons (eBin opAdd (eVar 11) (eTup (aCons (eC (.bl true)) aNil))) (aCons (eCall bList (aCons (eVar 11) aNil)) (aCons (eC .non) (aCons (eVar 15) (aCons (eBin opMulX (eTup (aCons (eC (.int 0)) aNil)) (eCall bLen (aCons (eVar 11) aNil))) (aCons (eBin opAdd (eTup (aCons (eC .non) aNil)) (eSl (eVar 11) (pSome (eC (.int 1))) pNone)) aNil))))))) (gVar 16)) (sAsg (eBin opIx (eVar 16) (eBin opIx (eVar 3) (eC (.int 2)))) (gVar 11)))) sNx) (sSeq (sIf (tVal (eBin opEq (eBin opIx (eVar 2) (eC (.int 0))) (eC (.int 2)))) (sAsg (eBin opIx (eLst (aCons (eBin opAdd (eVar 13) (eC (.str "aaaaaaaa"))) (aCons (eC (.str "")) (aCons (eC .non) (aCons (eC (.int 0)) (aCons (eLst (aCons (eVar 13) aNil)) (aCons (eBin opAdd (eSl (eVar 13) pNone (pSome (eC (.int 1)))) (eC (.str "A"))) aNil))))))) (eBin opIx (eVar 3) (eC (.int 0)))) (gVar 13)) sNx) (sSeq (sIf (tVal (eBin opEq (eBin opIx (eVar 2) (eC (.int 1))) (eC (.int 2)))) (sAsg (eBin opIx (eLst (aCons (eC (.str "")) (aCons (eC (.str "Enter")) (aCons (eC .non) (aCons (eC (.int 0)) (aCons (eLst (aCons (eC (.str "leave")) aNil)) (aCons (eC (.str "loads")) aNil))))))) (eBin opIx (eVar 3) (eC (.int 1)))) (gVar 8)) sNx) (sSeq (sFor (itSeq (eTup (aCons (eC (.int 4)) (aCons (eC (.int 0)) (aCons (eC (.int 1)) (aCons (eC (.int 2)) (aCons (eC (.int 3)) (aCons (eC (.int 4)) aNil)))))))) (gIt 12) (sSeq (sAsg (eTup (aCons (eC (.str "let")) (aCons (eC .non) (aCons (eC (.bl false)) aNil)))) (gVar 17)) (sSeq (sIf (tVal (eBin opEq (eBin opIx (eVar 2) (eC (.int 0))) (eC (.int 2)))) (sAsg (eTup (aCons (eC (.str "page")) (aCons (eVar 13) (aCons (eC (.bl false)) aNil)))) (gVar 17)) (sIf (tVal (eBin opEq (eBin opIx (eVar 2) (eC (.int 1))) (eC (.int 2)))) (sAsg (eTup (aCons (eC (.str "side")) (aCons (eVar 8) (aCons (eC (.bl false)) aNil)))) (gVar 17)) (sIf (tNotD (tVal (eCall (fun ds => m__law_all_flags (ds ++ [])) (aCons (eVar 11) (aCons (eCall bLen (aCons (eBin opIx (eVar 4) (eC (.int 0))) aNil)) aNil))))) (sAsg (eTup (aCons (eC (.str "flags")) (aCons (eVar 11) (aCons (eC (.bl false)) aNil)))) (gVar 17)) (sIf (tAndD (tVal (eBin opEq (eVar 12) (eC (.int 4)))) (tNotD (tVal (eCall bAny (aCons (eLc [20] (itSeq (eVar 9)) (gIt 20) tYesD (eCall (fun ds => (m__law_same 8) (ds ++ [])) (aCons (eVar 10) (aCons (eVar 20) aNil)))) aNil))))) (sAsg (eTup (aCons (eC (.str "spot")) (aCons (eVar 10) (aCons (eC (.bl false)) aNil)))) (gVar 17)) sNx)))) (sIf (tNotD (tVal (eCall (fun ds => (m__law_same 8) (ds ++ [])) (aCons (eCall (fun ds => m__law_call (ds ++ [])) (aCons (eVar 5) (aCons (eVar 12) (aCons (eVar 13) (aCons (eVar 8) (aCons (eVar 11) (aCons (eVar 10) aNil))))))) (aCons (eVar 17) aNil))))) (sRet (eC (.bl false))) sNx)))) (sRet (eC (.bl true)))))))))))))))))))
def m_law : List D → M D := fnM 1 21 b_law
end DL

set_option Elab.async false
set_option linter.all false
set_option maxRecDepth 100000
set_option maxHeartbeats 4000000
namespace DL
open PySem L2 PySem.Spec PyProof.Rows
section
variable {P : Program} {w : World} {K : PySem.W.Frag} {mg : Str → Option Value} {base : Heap} {a : Nat → Addr} {fd : Nat → FuncData} {ca ka : Nat → Addr} {tk : Nat → Tok} (T : Txt K mg a fd ca ka tk)
include T in
theorem ok__law_same  : ∀ n : Nat, FnOk P w K mg base (L2.CX P w) (0 + n) (a 0) (fd 0) ["_law_told", "_law_due"] (spD K ca (m__law_same n)) := by
  intro n
  induction n with
  | zero => exact (fn_none (by intro ds st; rfl))
  | succ n ih =>
    have G__law_same := ih
    refine fn_okD (k := 0 + n) T.f__law_same sc__law_same fun cdv A outer s H E hr => ?_
    have hu := hr.units
    have hpo := passes_of (X := cxOf (L2.CX P w) P w K mg base ["_law_told", "_law_due", "_law_k"] "_law_same" (defScope (topS 64)) (a 0) cdv A outer s H E) rfl
    have hps := passes_call (takes_of (X := cxOf (L2.CX P w) P w K mg base ["_law_told", "_law_due", "_law_k"] "_law_same" (defScope (topS 64)) (a 0) cdv A outer s H E) rfl rfl rfl rfl) (fun _ _ _ _ h => h)
    have htk := takes_of (X := cxOf (L2.CX P w) P w K mg base ["_law_told", "_law_due", "_law_k"] "_law_same" (defScope (topS 64)) (a 0) cdv A outer s H E) rfl rfl rfl rfl
    exact (dss_cons (ds_if (dw_or (dt_val (de_isi (by rfl) T.z_isinstance boot_isi (by rfl) T.z_tuple boot_tuple (de_var 1))) (dw_or1 (dt_val (de_isi (by rfl) T.z_isinstance boot_isi (by rfl) T.z_list boot_list (de_var 1))))).dt (dss_cons (ds_if (dw_or (dt_cmp (dop_ne hu) (de_isi (by rfl) T.z_isinstance boot_isi (by rfl) T.z_tuple boot_tuple (de_var 1)) (de_isi (by rfl) T.z_isinstance boot_isi (by rfl) T.z_tuple boot_tuple (de_var 0)) (nomark _)) (dw_or1 (dt_cmp (dop_ne hu) (de_isi (by rfl) T.z_isinstance boot_isi (by rfl) T.z_list boot_list (de_var 1)) (de_isi (by rfl) T.z_isinstance boot_isi (by rfl) T.z_list boot_list (de_var 0)) (nomark _)))).dt (dss_one (ds_ret de_bl)) dss_nil) (dss_cons (ds_if (dt_cmp (dop_ne hu) (de_callB dc_len (by rfl) T.z_len boot_len (da_cons (de_var 0) da_nil)) (de_callB dc_len (by rfl) T.z_len boot_len (da_cons (de_var 1) da_nil)) (nomark _)) (dss_one (ds_ret de_bl)) dss_nil) (dss_one (ds_ret (de_callB (dc_all (by rfl)) (by rfl) T.z_all boot_all (da_cons (de_lc (own := [("_law_k", 2)]) (by rfl) sc__law_same.nd (di_range (by rfl) T.z_range (de_callB dc_len (by rfl) T.z_len boot_len (da_cons (de_var 1) da_nil))) (blkOk_by (N := ["_law_told", "_law_due", "_law_k"]) (sc := defScope (topS 64)) (own := [("_law_k", 2)]) (by decide +kernel)) (fun _ _ _ _ _ => (dgi_var (vs := [2]) (by decide) sc__law_same.nd)) (fun _ _ _ _ _ => dts_nil) (fun _ _ _ _ _ => (de_call G__law_same (hr.mono (by omega)) (by rfl) T.g__law_same T.f__law_same.kp T.b__law_same .nil (fun _ _ => repL_nil.mpr rfl) pass_blk (da_cons (de_ix (de_var 0) (de_var 2)) (da_cons (de_ix (de_var 1) (de_var 2)) da_nil))))) da_nil)))))) dss_nil) (dss_cons (ds_if (dt_cmp dop_isN (de_var 1) de_non (nomark _)) (dss_one (ds_ret (de_cmp dop_isN (de_var 0) de_non (nomark _)))) dss_nil) (dss_cons (ds_if (dw_or (dt_val (de_isi (by rfl) T.z_isinstance boot_isi (by rfl) T.z_bool boot_bool (de_var 1))) (dw_or1 (dt_val (de_isi (by rfl) T.z_isinstance boot_isi (by rfl) T.z_bool boot_bool (de_var 0))))).dt (dss_one (ds_ret (de_and (de_isi (by rfl) T.z_isinstance boot_isi (by rfl) T.z_bool boot_bool (de_var 1)) (de_and (de_isi (by rfl) T.z_isinstance boot_isi (by rfl) T.z_bool boot_bool (de_var 0)) (de_one (de_cmp (dop_eq hu) (de_var 1) (de_var 0) (nomark _))))))) dss_nil) (dss_cons (ds_if (dt_val (de_isi (by rfl) T.z_isinstance boot_isi (by rfl) T.z_int boot_int (de_var 1))) (dss_one (ds_ret (de_and (de_isi (by rfl) T.z_isinstance boot_isi (by rfl) T.z_int boot_int (de_var 0)) (de_one (de_cmp (dop_eq hu) (de_var 0) (de_var 1) (nomark _)))))) dss_nil) (dss_one (ds_ret (de_and (de_isi (by rfl) T.z_isinstance boot_isi (by rfl) T.z_str boot_str (de_var 0)) (de_one (de_cmp (dop_eq hu) (de_var 0) (de_var 1) (nomark _))))))))))
end
section
variable {P : Program} {w : World} {K : PySem.W.Frag} {mg : Str → Option Value} {base : Heap} {a : Nat → Addr} {fd : Nat → FuncData} {ca ka : Nat → Addr} {tk : Nat → Tok} (T : Txt K mg a fd ca ka tk)
include T in
theorem ok_into_branch  : FnOk P w K mg base (L2.CX P w) 1 (a 1) (fd 1) ["position", "flag"] (spD K ca m_into_branch) := by
  refine fn_okD T.f_into_branch sc_into_branch fun cdv A outer s H E hr => ?_
  have hu := hr.units
  have hpo := passes_of (X := cxOf (L2.CX P w) P w K mg base ["position", "flag"] "into_branch" (defScope (topS 53)) (a 1) cdv A outer s H E) rfl
  have hps := passes_call (takes_of (X := cxOf (L2.CX P w) P w K mg base ["position", "flag"] "into_branch" (defScope (topS 53)) (a 1) cdv A outer s H E) rfl rfl rfl rfl) (fun _ _ _ _ h => h)
  have htk := takes_of (X := cxOf (L2.CX P w) P w K mg base ["position", "flag"] "into_branch" (defScope (topS 53)) (a 1) cdv A outer s H E) rfl rfl rfl rfl
  exact (dss_cons (ds_if (dt_val (de_var 1)) (dss_one (ds_ret (de_op dop_add (de_var 0) (de_tup (da_cons de_int (da_cons de_int da_nil)))))) dss_nil) (dss_one (ds_ret (de_op dop_add (de_var 0) (de_tup (da_cons de_int (da_cons de_int da_nil)))))))
end
section
variable {P : Program} {w : World} {K : PySem.W.Frag} {mg : Str → Option Value} {base : Heap} {a : Nat → Addr} {fd : Nat → FuncData} {ca ka : Nat → Addr} {tk : Nat → Tok} (T : Txt K mg a fd ca ka tk)
include T in
theorem ok_behind  : FnOk P w K mg base (L2.CX P w) 1 (a 2) (fd 2) ["position"] (spD K ca m_behind) := by
  refine fn_okD T.f_behind sc_behind fun cdv A outer s H E hr => ?_
  have hu := hr.units
  have hpo := passes_of (X := cxOf (L2.CX P w) P w K mg base ["position"] "behind" (defScope (topS 52)) (a 2) cdv A outer s H E) rfl
  have hps := passes_call (takes_of (X := cxOf (L2.CX P w) P w K mg base ["position"] "behind" (defScope (topS 52)) (a 2) cdv A outer s H E) rfl rfl rfl rfl) (fun _ _ _ _ h => h)
  have htk := takes_of (X := cxOf (L2.CX P w) P w K mg base ["position"] "behind" (defScope (topS 52)) (a 2) cdv A outer s H E) rfl rfl rfl rfl
  exact (dss_cons (ds_if (dt_cmp (dop_eq hu) (de_var 0) (de_tup da_nil) (nomark _)) (dss_one (ds_ret de_non)) dss_nil) (dss_one (ds_ret (de_op dop_add (de_slice (de_var 0) do_none (do_some (de_un dun_neg de_int))) (de_tup (da_cons (de_op dop_add (de_ix (de_var 0) (de_un dun_neg de_int)) de_int) da_nil))))))
end
section
variable {P : Program} {w : World} {K : PySem.W.Frag} {mg : Str → Option Value} {base : Heap} {a : Nat → Addr} {fd : Nat → FuncData} {ca ka : Nat → Addr} {tk : Nat → Tok} (T : Txt K mg a fd ca ka tk)
include T in
theorem ok_with_item  : FnOk P w K mg base (L2.CX P w) 1 (a 3) (fd 3) ["items", "at", "item"] (spD K ca m_with_item) := by
  refine fn_okD T.f_with_item sc_with_item fun cdv A outer s H E hr => ?_
  have hu := hr.units
  have hpo := passes_of (X := cxOf (L2.CX P w) P w K mg base ["items", "at", "item"] "with_item" (defScope (topS 39)) (a 3) cdv A outer s H E) rfl
  have hps := passes_call (takes_of (X := cxOf (L2.CX P w) P w K mg base ["items", "at", "item"] "with_item" (defScope (topS 39)) (a 3) cdv A outer s H E) rfl rfl rfl rfl) (fun _ _ _ _ h => h)
  have htk := takes_of (X := cxOf (L2.CX P w) P w K mg base ["items", "at", "item"] "with_item" (defScope (topS 39)) (a 3) cdv A outer s H E) rfl rfl rfl rfl
  exact (dss_one (ds_ret (de_op dop_add (de_op dop_add (de_slice (de_var 0) do_none (do_some (de_var 1))) (de_tup (da_cons (de_var 2) da_nil))) (de_slice (de_var 0) (do_some (de_op dop_add (de_var 1) de_int)) do_none))))
end
section
variable {P : Program} {w : World} {K : PySem.W.Frag} {mg : Str → Option Value} {base : Heap} {a : Nat → Addr} {fd : Nat → FuncData} {ca ka : Nat → Addr} {tk : Nat → Tok} (T : Txt K mg a fd ca ka tk)
include T in
theorem ok_branches  : FnOk P w K mg base (L2.CX P w) 1 (a 4) (fd 4) ["row"] (spD K ca m_branches) := by
  refine fn_okD T.f_branches sc_branches fun cdv A outer s H E hr => ?_
  have hu := hr.units
  have hpo := passes_of (X := cxOf (L2.CX P w) P w K mg base ["row"] "branches" (defScope (topS 34)) (a 4) cdv A outer s H E) rfl
  have hps := passes_call (takes_of (X := cxOf (L2.CX P w) P w K mg base ["row"] "branches" (defScope (topS 34)) (a 4) cdv A outer s H E) rfl rfl rfl rfl) (fun _ _ _ _ h => h)
  have htk := takes_of (X := cxOf (L2.CX P w) P w K mg base ["row"] "branches" (defScope (topS 34)) (a 4) cdv A outer s H E) rfl rfl rfl rfl
  exact (dss_cons (ds_if (dw_or (dt_cmp (dop_eq hu) (de_ix (de_var 0) de_int) de_str (nomark _)) (dw_or1 (dt_cmp (dop_eq hu) (de_ix (de_var 0) de_int) de_str (nomark _)))).dt (dss_one (ds_ret (de_slice (de_var 0) (do_some (de_un dun_neg de_int)) do_none))) dss_nil) (dss_one (ds_ret (de_tup da_nil))))
end
section
variable {P : Program} {w : World} {K : PySem.W.Frag} {mg : Str → Option Value} {base : Heap} {a : Nat → Addr} {fd : Nat → FuncData} {ca ka : Nat → Addr} {tk : Nat → Tok} (T : Txt K mg a fd ca ka tk)
include T in
theorem ok_row_or_none (G_branches : FnOk P w K mg base (L2.CX P w) 1 (a 4) (fd 4) ["row"] (spD K ca m_branches)) : FnOk P w K mg base (L2.CX P w) 2 (a 5) (fd 5) ["rows", "position"] (spD K ca m_row_or_none) := by
  refine fn_okD T.f_row_or_none sc_row_or_none fun cdv A outer s H E hr => ?_
  have hu := hr.units
  have hpo := passes_of (X := cxOf (L2.CX P w) P w K mg base ["rows", "position", "beside", "at"] "row_or_none" (defScope (topS 51)) (a 5) cdv A outer s H E) rfl
  have hps := passes_call (takes_of (X := cxOf (L2.CX P w) P w K mg base ["rows", "position", "beside", "at"] "row_or_none" (defScope (topS 51)) (a 5) cdv A outer s H E) rfl rfl rfl rfl) (fun _ _ _ _ h => h)
  have htk := takes_of (X := cxOf (L2.CX P w) P w K mg base ["rows", "position", "beside", "at"] "row_or_none" (defScope (topS 51)) (a 5) cdv A outer s H E) rfl rfl rfl rfl
  exact (dss_cons (ds_set (i := 2) sc_row_or_none.nd (de_var 0)) (dss_cons (ds_for hpo (by rfl) (di_range3 (by rfl) T.z_range (da_cons de_int (da_cons (de_op dop_sub (de_callB dc_len (by rfl) T.z_len boot_len (da_cons (de_var 1) da_nil)) de_int) (da_cons de_int da_nil)))) (dgi_var (vs := [3]) (by decide) sc_row_or_none.nd) (dss_one (ds_set (i := 2) sc_row_or_none.nd (de_ix (de_call G_branches (hr.mono (by decide)) (by rfl) T.g_branches T.f_branches.kp T.b_branches .nil (fun _ _ => repL_nil.mpr rfl) hps (da_cons (de_ix (de_var 2) (de_ix (de_var 1) (de_var 3))) da_nil)) (de_ix (de_var 1) (de_op dop_add (de_var 3) de_int)))))) (dss_cons (ds_if (dt_cmp (dop_eq hu) (de_ix (de_var 1) (de_un dun_neg de_int)) (de_callB dc_len (by rfl) T.z_len boot_len (da_cons (de_var 2) da_nil)) (nomark _)) (dss_one (ds_ret de_non)) dss_nil) (dss_one (ds_ret (de_ix (de_var 2) (de_ix (de_var 1) (de_un dun_neg de_int))))))))
end
section
variable {P : Program} {w : World} {K : PySem.W.Frag} {mg : Str → Option Value} {base : Heap} {a : Nat → Addr} {fd : Nat → FuncData} {ca ka : Nat → Addr} {tk : Nat → Tok} (T : Txt K mg a fd ca ka tk)
include T in
theorem ok_go_on (G_into_branch : FnOk P w K mg base (L2.CX P w) 1 (a 1) (fd 1) ["position", "flag"] (spD K ca m_into_branch)) (G_behind : FnOk P w K mg base (L2.CX P w) 1 (a 2) (fd 2) ["position"] (spD K ca m_behind)) (G_with_item : FnOk P w K mg base (L2.CX P w) 1 (a 3) (fd 3) ["items", "at", "item"] (spD K ca m_with_item)) (G_row_or_none : FnOk P w K mg base (L2.CX P w) 2 (a 5) (fd 5) ["rows", "position"] (spD K ca m_row_or_none)) : FnOk P w K mg base (L2.CX P w) 3 (a 6) (fd 6) ["bits", "rows", "flags", "position", "answers"] (spD K ca m_go_on) := by
  refine fn_okD T.f_go_on sc_go_on fun cdv A outer s H E hr => ?_
  have hu := hr.units
  have hpo := passes_of (X := cxOf (L2.CX P w) P w K mg base ["bits", "rows", "flags", "position", "answers", "met", "used", "row"] "go_on" (defScope (topS 50)) (a 6) cdv A outer s H E) rfl
  have hps := passes_call (takes_of (X := cxOf (L2.CX P w) P w K mg base ["bits", "rows", "flags", "position", "answers", "met", "used", "row"] "go_on" (defScope (topS 50)) (a 6) cdv A outer s H E) rfl rfl rfl rfl) (fun _ _ _ _ h => h)
  have htk := takes_of (X := cxOf (L2.CX P w) P w K mg base ["bits", "rows", "flags", "position", "answers", "met", "used", "row"] "go_on" (defScope (topS 50)) (a 6) cdv A outer s H E) rfl rfl rfl rfl
  exact (dss_cons (ds_set (i := 5) sc_go_on.nd (de_lst da_nil)) (dss_cons (ds_set (i := 6) sc_go_on.nd de_int) (dss_cons (ds_while 1000 hpo (dt_cmp dop_notN (de_var 3) de_non (nomark _)) (dss_cons (ds_set (i := 7) sc_go_on.nd (de_call G_row_or_none (hr.mono (by decide)) (by rfl) T.g_row_or_none T.f_row_or_none.kp T.b_row_or_none .nil (fun _ _ => repL_nil.mpr rfl) hps (da_cons (de_var 1) (da_cons (de_var 3) da_nil)))) (dss_cons (ds_if (dt_cmp dop_isN (de_var 7) de_non (nomark _)) (dss_cons (ds_set (i := 3) sc_go_on.nd (de_call G_behind (hr.mono (by decide)) (by rfl) T.g_behind T.f_behind.kp T.b_behind .nil (fun _ _ => repL_nil.mpr rfl) hps (da_cons (de_slice (de_var 3) do_none (do_some (de_un dun_neg de_int))) da_nil))) (dss_one ds_cont)) dss_nil) (dss_cons (ds_expr (de_mtL PySem.F.plainAttrs_list PySem.F.slot_list_append PySem.F.type_list_append dm_append (de_var 5) (da_cons (de_tup (da_cons (de_var 3) (da_cons (de_var 7) da_nil))) da_nil))) (dss_one (ds_if (dt_cmp (dop_eq hu) (de_ix (de_var 7) de_int) de_str (nomark _)) (dss_one (ds_set (i := 3) sc_go_on.nd (de_call G_into_branch (hr.mono (by decide)) (by rfl) T.g_into_branch T.f_into_branch.kp T.b_into_branch .nil (fun _ _ => repL_nil.mpr rfl) hps (da_cons (de_var 3) (da_cons (de_ix (de_var 2) (de_mtT PySem.F.plainAttrs_tuple PySem.F.slot_tuple_index PySem.F.type_tuple_index dm_indexT (de_var 0) (da_cons (de_ix (de_var 7) de_int) da_nil))) da_nil))))) (dss_one (ds_if (dt_cmp (dop_eq hu) (de_ix (de_var 7) de_int) de_str (nomark _)) (dss_cons (ds_if (dt_cmp (dop_eq hu) (de_var 6) (de_callB dc_len (by rfl) T.z_len boot_len (da_cons (de_var 4) da_nil)) (nomark _)) (dss_one (ds_ret (de_tup (da_cons de_str (da_cons (de_var 2) (da_cons (de_var 3) (da_cons (de_var 5) da_nil))))))) dss_nil) (dss_cons (ds_set (i := 3) sc_go_on.nd (de_call G_into_branch (hr.mono (by decide)) (by rfl) T.g_into_branch T.f_into_branch.kp T.b_into_branch .nil (fun _ _ => repL_nil.mpr rfl) hps (da_cons (de_var 3) (da_cons (de_ix (de_var 4) (de_var 6)) da_nil)))) (dss_one (ds_set (i := 6) sc_go_on.nd (de_op dop_add (de_var 6) de_int))))) (dss_one (ds_if (dt_cmp (dop_eq hu) (de_ix (de_var 7) de_int) de_str (nomark _)) (dss_cons (ds_set (i := 2) sc_go_on.nd (de_call G_with_item (hr.mono (by decide)) (by rfl) T.g_with_item T.f_with_item.kp T.b_with_item .nil (fun _ _ => repL_nil.mpr rfl) hps (da_cons (de_var 2) (da_cons (de_mtT PySem.F.plainAttrs_tuple PySem.F.slot_tuple_index PySem.F.type_tuple_index dm_indexT (de_var 0) (da_cons (de_ix (de_var 7) de_int) da_nil)) (da_cons (de_ix (de_var 7) de_int) da_nil))))) (dss_one (ds_set (i := 3) sc_go_on.nd (de_call G_behind (hr.mono (by decide)) (by rfl) T.g_behind T.f_behind.kp T.b_behind .nil (fun _ _ => repL_nil.mpr rfl) hps (da_cons (de_var 3) da_nil))))) (dss_one (ds_if (dt_cmp (dop_eq hu) (de_ix (de_var 7) de_int) de_str (nomark _)) (dss_one (ds_ret (de_tup (da_cons de_str (da_cons (de_var 2) (da_cons (de_ix (de_var 7) de_int) (da_cons (de_var 5) da_nil))))))) (dss_one (ds_ret (de_tup (da_cons de_str (da_cons (de_var 2) (da_cons de_non (da_cons (de_var 5) da_nil))))))))))))))))))) (dss_one (ds_ret (de_tup (da_cons de_str (da_cons (de_var 2) (da_cons de_non (da_cons (de_var 5) da_nil))))))))))
end
section
variable {P : Program} {w : World} {K : PySem.W.Frag} {mg : Str → Option Value} {base : Heap} {a : Nat → Addr} {fd : Nat → FuncData} {ca ka : Nat → Addr} {tk : Nat → Tok} (T : Txt K mg a fd ca ka tk)
include T in
theorem ok_are_flags  : FnOk P w K mg base (L2.CX P w) 1 (a 7) (fd 7) ["site", "value"] (spD K ca m_are_flags) := by
  refine fn_okD T.f_are_flags sc_are_flags fun cdv A outer s H E hr => ?_
  have hu := hr.units
  have hpo := passes_of (X := cxOf (L2.CX P w) P w K mg base ["site", "value", "flag"] "are_flags" (defScope (topS 47)) (a 7) cdv A outer s H E) rfl
  have hps := passes_call (takes_of (X := cxOf (L2.CX P w) P w K mg base ["site", "value", "flag"] "are_flags" (defScope (topS 47)) (a 7) cdv A outer s H E) rfl rfl rfl rfl) (fun _ _ _ _ h => h)
  have htk := takes_of (X := cxOf (L2.CX P w) P w K mg base ["site", "value", "flag"] "are_flags" (defScope (topS 47)) (a 7) cdv A outer s H E) rfl rfl rfl rfl
  exact (dss_cons (ds_if (dw_or (dt_not (dt_val (de_isi (by rfl) T.z_isinstance boot_isi (by rfl) T.z_tuple boot_tuple (de_var 1)))) (dw_or1 (dt_cmp (dop_ne hu) (de_callB dc_len (by rfl) T.z_len boot_len (da_cons (de_var 1) da_nil)) (de_callB dc_len (by rfl) T.z_len boot_len (da_cons (de_fld T.cl_0 T.na_0_bits (de_var 0)) da_nil)) (nomark _)))).dt (dss_one (ds_ret de_bl)) dss_nil) (dss_one (ds_ret (de_callB (dc_all (by rfl)) (by rfl) T.z_all boot_all (da_cons (de_lc (own := [("flag", 2)]) (by rfl) sc_are_flags.nd (di_seq (de_var 1)) (blkOk_by (N := ["site", "value", "flag"]) (sc := defScope (topS 47)) (own := [("flag", 2)]) (by decide +kernel)) (fun _ _ _ _ _ => (dgi_var (vs := [2]) (by decide) sc_are_flags.nd)) (fun _ _ _ _ _ => dts_nil) (fun _ _ _ _ _ => (de_isi (by rfl) T.z_isinstance boot_isi (by rfl) T.z_bool boot_bool (de_var 2)))) da_nil)))))
end
section
variable {P : Program} {w : World} {K : PySem.W.Frag} {mg : Str → Option Value} {base : Heap} {a : Nat → Addr} {fd : Nat → FuncData} {ca ka : Nat → Addr} {tk : Nat → Tok} (T : Txt K mg a fd ca ka tk)
include T in
theorem ok_InvalidFlags___init__ : FnOk P w K mg base (L2.CX P w) 1 (a 8) (fd 8) ["self", "flags"] (spX (ca 2) ["flags"]) := fn_x1 (k := 0) T.f_InvalidFlags___init__ sc_InvalidFlags___init__ T.ox_InvalidFlags T.nf_InvalidFlags_flags fun cdv A outer s H E => pss_one (ps_ost (pv 0) (pv 1))
end
section
variable {P : Program} {w : World} {K : PySem.W.Frag} {mg : Str → Option Value} {base : Heap} {a : Nat → Addr} {fd : Nat → FuncData} {ca ka : Nat → Addr} {tk : Nat → Tok} (T : Txt K mg a fd ca ka tk)
include T in
theorem ok_InvalidSide___init__ : FnOk P w K mg base (L2.CX P w) 1 (a 9) (fd 9) ["self", "side"] (spX (ca 5) ["side"]) := fn_x1 (k := 0) T.f_InvalidSide___init__ sc_InvalidSide___init__ T.ox_InvalidSide T.nf_InvalidSide_side fun cdv A outer s H E => pss_one (ps_ost (pv 0) (pv 1))
end
section
variable {P : Program} {w : World} {K : PySem.W.Frag} {mg : Str → Option Value} {base : Heap} {a : Nat → Addr} {fd : Nat → FuncData} {ca ka : Nat → Addr} {tk : Nat → Tok} (T : Txt K mg a fd ca ka tk)
include T in
theorem ok_UnknownPage___init__ : FnOk P w K mg base (L2.CX P w) 1 (a 10) (fd 10) ["self", "page"] (spX (ca 6) ["page"]) := fn_x1 (k := 0) T.f_UnknownPage___init__ sc_UnknownPage___init__ T.ox_UnknownPage T.nf_UnknownPage_page fun cdv A outer s H E => pss_one (ps_ost (pv 0) (pv 1))
end
section
variable {P : Program} {w : World} {K : PySem.W.Frag} {mg : Str → Option Value} {base : Heap} {a : Nat → Addr} {fd : Nat → FuncData} {ca ka : Nat → Addr} {tk : Nat → Tok} (T : Txt K mg a fd ca ka tk)
include T in
theorem ok_find_page (G_UnknownPage___init__ : FnOk P w K mg base (L2.CX P w) 1 (a 10) (fd 10) ["self", "page"] (spX (ca 6) ["page"])) : FnOk P w K mg base (L2.CX P w) 3 (a 11) (fd 11) ["pages", "page"] (spD K ca m_find_page) := by
  refine fn_okD T.f_find_page sc_find_page fun cdv A outer s H E hr => ?_
  have hu := hr.units
  have hpo := passes_of (X := cxOf (L2.CX P w) P w K mg base ["pages", "page", "name", "parts"] "find_page" (defScope (topS 29)) (a 11) cdv A outer s H E) rfl
  have hps := passes_call (takes_of (X := cxOf (L2.CX P w) P w K mg base ["pages", "page", "name", "parts"] "find_page" (defScope (topS 29)) (a 11) cdv A outer s H E) rfl rfl rfl rfl) (fun _ _ _ _ h => h)
  have htk := takes_of (X := cxOf (L2.CX P w) P w K mg base ["pages", "page", "name", "parts"] "find_page" (defScope (topS 29)) (a 11) cdv A outer s H E) rfl rfl rfl rfl
  exact (dss_cons (ds_for hpo (by rfl) (di_seq (de_var 0)) (dgi_pair (vs := [2, 3]) (by decide) (by decide) (by rfl) sc_find_page.nd) (dss_one (ds_if (dt_cmp (dop_eq hu) (de_var 2) (de_var 1) (nomark _)) (dss_one (ds_ret (de_var 3))) dss_nil))) (dss_one (ds_raise (by rfl) htk T.ox_UnknownPage T.xi_UnknownPage T.ti_UnknownPage G_UnknownPage___init__ (hr.mono (by decide)) T.b_UnknownPage___init__ (by rfl) T.ge_UnknownPage ⟨by simp, by simp⟩ (da_cons (de_var 1) da_nil))))
end
section
variable {P : Program} {w : World} {K : PySem.W.Frag} {mg : Str → Option Value} {base : Heap} {a : Nat → Addr} {fd : Nat → FuncData} {ca ka : Nat → Addr} {tk : Nat → Tok} (T : Txt K mg a fd ca ka tk)
include T in
theorem ok_Site_guard (G_InvalidSide___init__ : FnOk P w K mg base (L2.CX P w) 1 (a 9) (fd 9) ["self", "side"] (spX (ca 5) ["side"])) (G_find_page : FnOk P w K mg base (L2.CX P w) 3 (a 11) (fd 11) ["pages", "page"] (spD K ca m_find_page)) : FnOk P w K mg base (L2.CX P w) 4 (a 12) (fd 12) ["self", "page", "side"] (spD K ca m_Site_guard) := by
  refine fn_okD T.f_Site_guard sc_Site_guard fun cdv A outer s H E hr => ?_
  have hu := hr.units
  have hpo := passes_of (X := cxOf (L2.CX P w) P w K mg base ["self", "page", "side", "parts", "at", "known"] "Site.guard" (defScope (inClass (topS 20) 3)) (a 12) cdv A outer s H E) rfl
  have hps := passes_call (takes_of (X := cxOf (L2.CX P w) P w K mg base ["self", "page", "side", "parts", "at", "known"] "Site.guard" (defScope (inClass (topS 20) 3)) (a 12) cdv A outer s H E) rfl rfl rfl rfl) (fun _ _ _ _ h => h)
  have htk := takes_of (X := cxOf (L2.CX P w) P w K mg base ["self", "page", "side", "parts", "at", "known"] "Site.guard" (defScope (inClass (topS 20) 3)) (a 12) cdv A outer s H E) rfl rfl rfl rfl
  exact (dss_cons (ds_set (i := 3) sc_Site_guard.nd (de_call G_find_page (hr.mono (by decide)) (by rfl) T.g_find_page T.f_find_page.kp T.b_find_page .nil (fun _ _ => repL_nil.mpr rfl) hps (da_cons (de_fld T.cl_0 T.na_0_pages (de_var 0)) (da_cons (de_var 1) da_nil)))) (dss_cons (ds_for hpo (by rfl) (di_enumT (by rfl) T.z_enumerate (de_glob (by rfl) T.c_SIDES T.r_SIDES T.d_SIDES)) (dgi_pair (vs := [4, 5]) (by decide) (by decide) (by rfl) sc_Site_guard.nd) (dss_one (ds_if (dt_cmp (dop_eq hu) (de_var 5) (de_var 2) (nomark _)) (dss_one (ds_ret (de_ix (de_var 3) (de_var 4)))) dss_nil))) (dss_one (ds_raise (by rfl) htk T.ox_InvalidSide T.xi_InvalidSide T.ti_InvalidSide G_InvalidSide___init__ (hr.mono (by decide)) T.b_InvalidSide___init__ (by rfl) T.ge_InvalidSide ⟨by simp, by simp⟩ (da_cons (de_var 2) da_nil)))))
end
section
variable {P : Program} {w : World} {K : PySem.W.Frag} {mg : Str → Option Value} {base : Heap} {a : Nat → Addr} {fd : Nat → FuncData} {ca ka : Nat → Addr} {tk : Nat → Tok} (T : Txt K mg a fd ca ka tk)
include T in
theorem ok_checked_rows (G_are_flags : FnOk P w K mg base (L2.CX P w) 1 (a 7) (fd 7) ["site", "value"] (spD K ca m_are_flags)) (G_InvalidFlags___init__ : FnOk P w K mg base (L2.CX P w) 1 (a 8) (fd 8) ["self", "flags"] (spX (ca 2) ["flags"])) (G_Site_guard : FnOk P w K mg base (L2.CX P w) 4 (a 12) (fd 12) ["self", "page", "side"] (spD K ca m_Site_guard)) : FnOk P w K mg base (L2.CX P w) 5 (a 13) (fd 13) ["site", "page", "side", "flags"] (spD K ca m_checked_rows) := by
  refine fn_okD T.f_checked_rows sc_checked_rows fun cdv A outer s H E hr => ?_
  have hu := hr.units
  have hpo := passes_of (X := cxOf (L2.CX P w) P w K mg base ["site", "page", "side", "flags", "rows"] "checked_rows" (defScope (topS 48)) (a 13) cdv A outer s H E) rfl
  have hps := passes_call (takes_of (X := cxOf (L2.CX P w) P w K mg base ["site", "page", "side", "flags", "rows"] "checked_rows" (defScope (topS 48)) (a 13) cdv A outer s H E) rfl rfl rfl rfl) (fun _ _ _ _ h => h)
  have htk := takes_of (X := cxOf (L2.CX P w) P w K mg base ["site", "page", "side", "flags", "rows"] "checked_rows" (defScope (topS 48)) (a 13) cdv A outer s H E) rfl rfl rfl rfl
  exact (dss_cons (ds_set (i := 4) sc_checked_rows.nd (de_meth (de_var 0) T.cl_0 T.m_Site_guard G_Site_guard (hr.mono (by decide)) T.b_Site_guard .nil (fun _ _ => repL_nil.mpr rfl) hps (da_cons (de_var 1) (da_cons (de_var 2) da_nil)))) (dss_cons (ds_if (dt_not (dt_val (de_call G_are_flags (hr.mono (by decide)) (by rfl) T.g_are_flags T.f_are_flags.kp T.b_are_flags .nil (fun _ _ => repL_nil.mpr rfl) hps (da_cons (de_var 0) (da_cons (de_var 3) da_nil))))) (dss_one (ds_raise (by rfl) htk T.ox_InvalidFlags T.xi_InvalidFlags T.ti_InvalidFlags G_InvalidFlags___init__ (hr.mono (by decide)) T.b_InvalidFlags___init__ (by rfl) T.ge_InvalidFlags ⟨by simp, by simp⟩ (da_cons (de_var 3) da_nil))) dss_nil) (dss_one (ds_ret (de_var 4)))))
end
section
variable {P : Program} {w : World} {K : PySem.W.Frag} {mg : Str → Option Value} {base : Heap} {a : Nat → Addr} {fd : Nat → FuncData} {ca ka : Nat → Addr} {tk : Nat → Tok} (T : Txt K mg a fd ca ka tk)
include T in
theorem ok_run_guard (G_go_on : FnOk P w K mg base (L2.CX P w) 3 (a 6) (fd 6) ["bits", "rows", "flags", "position", "answers"] (spD K ca m_go_on)) (G_checked_rows : FnOk P w K mg base (L2.CX P w) 5 (a 13) (fd 13) ["site", "page", "side", "flags"] (spD K ca m_checked_rows)) : FnOk P w K mg base (L2.CX P w) 6 (a 14) (fd 14) ["site", "page", "side", "flags", "answers"] (spD K ca m_run_guard) := by
  obtain ⟨dvs, kws, FF⟩ := T.f_run_guard
  refine fn_okDd FF sc_run_guard fun cdv A outer s H E hr => ?_
  have hu := hr.units
  have hpo := passes_of (X := cxOf (L2.CX P w) P w K mg base ["site", "page", "side", "flags", "answers", "rows", "outcome", "after", "where", "met"] "run_guard" (defScope (topS 42)) (a 14) cdv A outer s H E) rfl
  have hps := passes_call (takes_of (X := cxOf (L2.CX P w) P w K mg base ["site", "page", "side", "flags", "answers", "rows", "outcome", "after", "where", "met"] "run_guard" (defScope (topS 42)) (a 14) cdv A outer s H E) rfl rfl rfl rfl) (fun _ _ _ _ h => h)
  have htk := takes_of (X := cxOf (L2.CX P w) P w K mg base ["site", "page", "side", "flags", "answers", "rows", "outcome", "after", "where", "met"] "run_guard" (defScope (topS 42)) (a 14) cdv A outer s H E) rfl rfl rfl rfl
  exact (dss_cons (ds_set (i := 5) sc_run_guard.nd (de_call G_checked_rows (hr.mono (by decide)) (by rfl) T.g_checked_rows T.f_checked_rows.kp T.b_checked_rows .nil (fun _ _ => repL_nil.mpr rfl) hps (da_cons (de_var 0) (da_cons (de_var 1) (da_cons (de_var 2) (da_cons (de_var 3) da_nil)))))) (dss_cons (ds_asg (de_call G_go_on (hr.mono (by decide)) (by rfl) T.g_go_on T.f_go_on.kp T.b_go_on .nil (fun _ _ => repL_nil.mpr rfl) hps (da_cons (de_fld T.cl_0 T.na_0_bits (de_var 0)) (da_cons (de_var 5) (da_cons (de_var 3) (da_cons (de_tup (da_cons de_int da_nil)) (da_cons (de_var 4) da_nil)))))) (dg_tup (by rfl) (dgs_cons (dg_var (j := 6) sc_run_guard.nd) (dgs_cons (dg_var (j := 7) sc_run_guard.nd) (dgs_cons (dg_var (j := 8) sc_run_guard.nd) (dgs_cons (dg_var (j := 9) sc_run_guard.nd) dgs_nil)))))) (dss_one (ds_ret (de_tup (da_cons (de_var 6) (da_cons (de_var 7) (da_cons (de_var 8) da_nil))))))))
end
section
variable {P : Program} {w : World} {K : PySem.W.Frag} {mg : Str → Option Value} {base : Heap} {a : Nat → Addr} {fd : Nat → FuncData} {ca ka : Nat → Addr} {tk : Nat → Tok} (T : Txt K mg a fd ca ka tk)
include T in
theorem ok_ends_from (G_go_on : FnOk P w K mg base (L2.CX P w) 3 (a 6) (fd 6) ["bits", "rows", "flags", "position", "answers"] (spD K ca m_go_on)) : ∀ n : Nat, FnOk P w K mg base (L2.CX P w) (3 + n) (a 15) (fd 15) ["bits", "rows", "flags", "position", "given"] (spD K ca (m_ends_from n)) := by
  intro n
  induction n with
  | zero => exact (fn_none (by intro ds st; rfl))
  | succ n ih =>
    have G_ends_from := ih
    refine fn_okD (k := 3 + n) T.f_ends_from sc_ends_from fun cdv A outer s H E hr => ?_
    have hu := hr.units
    have hpo := passes_of (X := cxOf (L2.CX P w) P w K mg base ["bits", "rows", "flags", "position", "given", "ends", "answer", "outcome", "after", "where", "met"] "ends_from" (defScope (topS 54)) (a 15) cdv A outer s H E) rfl
    have hps := passes_call (takes_of (X := cxOf (L2.CX P w) P w K mg base ["bits", "rows", "flags", "position", "given", "ends", "answer", "outcome", "after", "where", "met"] "ends_from" (defScope (topS 54)) (a 15) cdv A outer s H E) rfl rfl rfl rfl) (fun _ _ _ _ h => h)
    have htk := takes_of (X := cxOf (L2.CX P w) P w K mg base ["bits", "rows", "flags", "position", "given", "ends", "answer", "outcome", "after", "where", "met"] "ends_from" (defScope (topS 54)) (a 15) cdv A outer s H E) rfl rfl rfl rfl
    exact (dss_cons (ds_asg (de_call G_go_on (hr.mono (by omega)) (by rfl) T.g_go_on T.f_go_on.kp T.b_go_on .nil (fun _ _ => repL_nil.mpr rfl) hps (da_cons (de_var 0) (da_cons (de_var 1) (da_cons (de_var 2) (da_cons (de_var 3) (da_cons (de_slice (de_var 4) (do_some (de_un dun_neg de_int)) do_none) da_nil)))))) (dg_tup (by rfl) (dgs_cons (dg_var (j := 7) sc_ends_from.nd) (dgs_cons (dg_var (j := 8) sc_ends_from.nd) (dgs_cons (dg_var (j := 9) sc_ends_from.nd) (dgs_cons (dg_var (j := 10) sc_ends_from.nd) dgs_nil)))))) (dss_cons (ds_if (dt_cmp (dop_ne hu) (de_var 7) de_str (nomark _)) (dss_one (ds_ret (de_lst (da_cons (de_tup (da_cons (de_var 4) (da_cons (de_var 7) (da_cons (de_var 8) (da_cons (de_var 9) da_nil))))) da_nil)))) dss_nil) (dss_cons (ds_set (i := 5) sc_ends_from.nd (de_lst da_nil)) (dss_cons (ds_for hpo (by rfl) (di_seq (de_tup (da_cons de_bl (da_cons de_bl da_nil)))) (dgi_var (vs := [6]) (by decide) sc_ends_from.nd) (dss_one (ds_expr (de_mtL PySem.F.plainAttrs_list PySem.F.slot_list_extend PySem.F.type_list_extend dm_extend (de_var 5) (da_cons (de_call G_ends_from (hr.mono (by omega)) (by rfl) T.g_ends_from T.f_ends_from.kp T.b_ends_from .nil (fun _ _ => repL_nil.mpr rfl) hps (da_cons (de_var 0) (da_cons (de_var 1) (da_cons (de_var 8) (da_cons (de_var 9) (da_cons (de_op dop_add (de_var 4) (de_tup (da_cons (de_var 6) da_nil))) da_nil)))))) da_nil))))) (dss_one (ds_ret (de_var 5)))))))
end
section
variable {P : Program} {w : World} {K : PySem.W.Frag} {mg : Str → Option Value} {base : Heap} {a : Nat → Addr} {fd : Nat → FuncData} {ca ka : Nat → Addr} {tk : Nat → Tok} (T : Txt K mg a fd ca ka tk)
include T in
theorem ok_all_ends (G_ends_from : FnOk P w K mg base (L2.CX P w) 13 (a 15) (fd 15) ["bits", "rows", "flags", "position", "given"] (spD K ca (m_ends_from 10))) (G_checked_rows : FnOk P w K mg base (L2.CX P w) 5 (a 13) (fd 13) ["site", "page", "side", "flags"] (spD K ca m_checked_rows)) : FnOk P w K mg base (L2.CX P w) 15 (a 16) (fd 16) ["site", "page", "side", "flags"] (spD K ca m_all_ends) := by
  refine fn_okD T.f_all_ends sc_all_ends fun cdv A outer s H E hr => ?_
  have hu := hr.units
  have hpo := passes_of (X := cxOf (L2.CX P w) P w K mg base ["site", "page", "side", "flags", "rows"] "all_ends" (defScope (topS 44)) (a 16) cdv A outer s H E) rfl
  have hps := passes_call (takes_of (X := cxOf (L2.CX P w) P w K mg base ["site", "page", "side", "flags", "rows"] "all_ends" (defScope (topS 44)) (a 16) cdv A outer s H E) rfl rfl rfl rfl) (fun _ _ _ _ h => h)
  have htk := takes_of (X := cxOf (L2.CX P w) P w K mg base ["site", "page", "side", "flags", "rows"] "all_ends" (defScope (topS 44)) (a 16) cdv A outer s H E) rfl rfl rfl rfl
  exact (dss_cons (ds_set (i := 4) sc_all_ends.nd (de_call G_checked_rows (hr.mono (by decide)) (by rfl) T.g_checked_rows T.f_checked_rows.kp T.b_checked_rows .nil (fun _ _ => repL_nil.mpr rfl) hps (da_cons (de_var 0) (da_cons (de_var 1) (da_cons (de_var 2) (da_cons (de_var 3) da_nil)))))) (dss_one (ds_ret (de_call G_ends_from (hr.mono (by decide)) (by rfl) T.g_ends_from T.f_ends_from.kp T.b_ends_from .nil (fun _ _ => repL_nil.mpr rfl) hps (da_cons (de_fld T.cl_0 T.na_0_bits (de_var 0)) (da_cons (de_var 4) (da_cons (de_var 3) (da_cons (de_tup (da_cons de_int da_nil)) (da_cons (de_tup da_nil) da_nil)))))))))
end
section
variable {P : Program} {w : World} {K : PySem.W.Frag} {mg : Str → Option Value} {base : Heap} {a : Nat → Addr} {fd : Nat → FuncData} {ca ka : Nat → Addr} {tk : Nat → Tok} (T : Txt K mg a fd ca ka tk)
include T in
theorem ok_letting_answers (G_all_ends : FnOk P w K mg base (L2.CX P w) 15 (a 16) (fd 16) ["site", "page", "side", "flags"] (spD K ca m_all_ends)) : FnOk P w K mg base (L2.CX P w) 16 (a 17) (fd 17) ["site", "page", "side", "flags"] (spD K ca m_letting_answers) := by
  refine fn_okD T.f_letting_answers sc_letting_answers fun cdv A outer s H E hr => ?_
  have hu := hr.units
  have hpo := passes_of (X := cxOf (L2.CX P w) P w K mg base ["site", "page", "side", "flags", "best", "answers", "outcome", "after", "where"] "letting_answers" (defScope (topS 45)) (a 17) cdv A outer s H E) rfl
  have hps := passes_call (takes_of (X := cxOf (L2.CX P w) P w K mg base ["site", "page", "side", "flags", "best", "answers", "outcome", "after", "where"] "letting_answers" (defScope (topS 45)) (a 17) cdv A outer s H E) rfl rfl rfl rfl) (fun _ _ _ _ h => h)
  have htk := takes_of (X := cxOf (L2.CX P w) P w K mg base ["site", "page", "side", "flags", "best", "answers", "outcome", "after", "where"] "letting_answers" (defScope (topS 45)) (a 17) cdv A outer s H E) rfl rfl rfl rfl
  exact (dss_cons (ds_set (i := 4) sc_letting_answers.nd de_non) (dss_cons (ds_for hpo (by rfl) (di_seq (de_call G_all_ends (hr.mono (by decide)) (by rfl) T.g_all_ends T.f_all_ends.kp T.b_all_ends .nil (fun _ _ => repL_nil.mpr rfl) hps (da_cons (de_var 0) (da_cons (de_var 1) (da_cons (de_var 2) (da_cons (de_var 3) da_nil)))))) (dgi_tupN (vs := [5, 6, 7, 8]) (by rfl) (dgn_cons (by decide) sc_letting_answers.nd (dgn_cons (by decide) sc_letting_answers.nd (dgn_cons (by decide) sc_letting_answers.nd (dgn_cons (by decide) sc_letting_answers.nd dgn_nil))))) (dss_one (ds_if (dw_and (dt_cmp (dop_eq hu) (de_var 6) de_str (nomark _)) (dw_and1 (dw_or (dt_cmp dop_isN (de_var 4) de_non (nomark _)) (dw_or1 (dt_cmp dop_lt (de_callB dc_len (by rfl) T.z_len boot_len (da_cons (de_var 5) da_nil)) (de_callB dc_len (by rfl) T.z_len boot_len (da_cons (de_var 4) da_nil)) (nomark _)))).dt)).dt (dss_one (ds_set (i := 4) sc_letting_answers.nd (de_var 5))) dss_nil))) (dss_one (ds_ret (de_var 4)))))
end
section
variable {P : Program} {w : World} {K : PySem.W.Frag} {mg : Str → Option Value} {base : Heap} {a : Nat → Addr} {fd : Nat → FuncData} {ca ka : Nat → Addr} {tk : Nat → Tok} (T : Txt K mg a fd ca ka tk)
include T in
theorem ok_lets (G_letting_answers : FnOk P w K mg base (L2.CX P w) 16 (a 17) (fd 17) ["site", "page", "side", "flags"] (spD K ca m_letting_answers)) : FnOk P w K mg base (L2.CX P w) 17 (a 18) (fd 18) ["site", "page", "side", "flags"] (spD K ca m_lets) := by
  refine fn_okD T.f_lets sc_lets fun cdv A outer s H E hr => ?_
  have hu := hr.units
  have hpo := passes_of (X := cxOf (L2.CX P w) P w K mg base ["site", "page", "side", "flags"] "lets" (defScope (topS 46)) (a 18) cdv A outer s H E) rfl
  have hps := passes_call (takes_of (X := cxOf (L2.CX P w) P w K mg base ["site", "page", "side", "flags"] "lets" (defScope (topS 46)) (a 18) cdv A outer s H E) rfl rfl rfl rfl) (fun _ _ _ _ h => h)
  have htk := takes_of (X := cxOf (L2.CX P w) P w K mg base ["site", "page", "side", "flags"] "lets" (defScope (topS 46)) (a 18) cdv A outer s H E) rfl rfl rfl rfl
  exact (dss_one (ds_ret (de_cmp dop_notN (de_call G_letting_answers (hr.mono (by decide)) (by rfl) T.g_letting_answers T.f_letting_answers.kp T.b_letting_answers .nil (fun _ _ => repL_nil.mpr rfl) hps (da_cons (de_var 0) (da_cons (de_var 1) (da_cons (de_var 2) (da_cons (de_var 3) da_nil))))) de_non (nomark _))))
end
section
variable {P : Program} {w : World} {K : PySem.W.Frag} {mg : Str → Option Value} {base : Heap} {a : Nat → Addr} {fd : Nat → FuncData} {ca ka : Nat → Addr} {tk : Nat → Tok} (T : Txt K mg a fd ca ka tk)
include T in
theorem ok_rows_with_positions (G_branches : FnOk P w K mg base (L2.CX P w) 1 (a 4) (fd 4) ["row"] (spD K ca m_branches)) : ∀ n : Nat, FnOk P w K mg base (L2.CX P w) (1 + n) (a 19) (fd 19) ["rows", "before"] (spD K ca (m_rows_with_positions n)) := by
  intro n
  induction n with
  | zero => exact (fn_none (by intro ds st; rfl))
  | succ n ih =>
    have G_rows_with_positions := ih
    refine fn_okD (k := 1 + n) T.f_rows_with_positions sc_rows_with_positions fun cdv A outer s H E hr => ?_
    have hu := hr.units
    have hpo := passes_of (X := cxOf (L2.CX P w) P w K mg base ["rows", "before", "found", "index", "row", "position", "branch", "inner"] "rows_with_positions" (defScope (topS 35)) (a 19) cdv A outer s H E) rfl
    have hps := passes_call (takes_of (X := cxOf (L2.CX P w) P w K mg base ["rows", "before", "found", "index", "row", "position", "branch", "inner"] "rows_with_positions" (defScope (topS 35)) (a 19) cdv A outer s H E) rfl rfl rfl rfl) (fun _ _ _ _ h => h)
    have htk := takes_of (X := cxOf (L2.CX P w) P w K mg base ["rows", "before", "found", "index", "row", "position", "branch", "inner"] "rows_with_positions" (defScope (topS 35)) (a 19) cdv A outer s H E) rfl rfl rfl rfl
    exact (dss_cons (ds_set (i := 2) sc_rows_with_positions.nd (de_lst da_nil)) (dss_cons (ds_for hpo (by rfl) (di_enumT (by rfl) T.z_enumerate (de_var 0)) (dgi_pair (vs := [3, 4]) (by decide) (by decide) (by rfl) sc_rows_with_positions.nd) (dss_cons (ds_set (i := 5) sc_rows_with_positions.nd (de_op dop_add (de_var 1) (de_tup (da_cons (de_var 3) da_nil)))) (dss_cons (ds_expr (de_mtL PySem.F.plainAttrs_list PySem.F.slot_list_append PySem.F.type_list_append dm_append (de_var 2) (da_cons (de_tup (da_cons (de_var 5) (da_cons (de_var 4) da_nil))) da_nil))) (dss_one (ds_for hpo (by rfl) (di_enumT (by rfl) T.z_enumerate (de_call G_branches (hr.mono (by omega)) (by rfl) T.g_branches T.f_branches.kp T.b_branches .nil (fun _ _ => repL_nil.mpr rfl) hps (da_cons (de_var 4) da_nil))) (dgi_pair (vs := [6, 7]) (by decide) (by decide) (by rfl) sc_rows_with_positions.nd) (dss_one (ds_expr (de_mtL PySem.F.plainAttrs_list PySem.F.slot_list_extend PySem.F.type_list_extend dm_extend (de_var 2) (da_cons (de_call G_rows_with_positions (hr.mono (by omega)) (by rfl) T.g_rows_with_positions T.f_rows_with_positions.kp T.b_rows_with_positions .nil (fun _ _ => repL_nil.mpr rfl) hps (da_cons (de_var 7) (da_cons (de_op dop_add (de_var 5) (de_tup (da_cons (de_var 6) da_nil))) da_nil))) da_nil))))))))) (dss_one (ds_ret (de_var 2)))))
end
section
variable {P : Program} {w : World} {K : PySem.W.Frag} {mg : Str → Option Value} {base : Heap} {a : Nat → Addr} {fd : Nat → FuncData} {ca ka : Nat → Addr} {tk : Nat → Tok} (T : Txt K mg a fd ca ka tk)
include T in
theorem ok_is_integer  : FnOk P w K mg base (L2.CX P w) 1 (a 20) (fd 20) ["value"] (spD K ca m_is_integer) := by
  refine fn_okD T.f_is_integer sc_is_integer fun cdv A outer s H E hr => ?_
  have hu := hr.units
  have hpo := passes_of (X := cxOf (L2.CX P w) P w K mg base ["value"] "is_integer" (defScope (topS 21)) (a 20) cdv A outer s H E) rfl
  have hps := passes_call (takes_of (X := cxOf (L2.CX P w) P w K mg base ["value"] "is_integer" (defScope (topS 21)) (a 20) cdv A outer s H E) rfl rfl rfl rfl) (fun _ _ _ _ h => h)
  have htk := takes_of (X := cxOf (L2.CX P w) P w K mg base ["value"] "is_integer" (defScope (topS 21)) (a 20) cdv A outer s H E) rfl rfl rfl rfl
  exact (dss_one (ds_ret (de_and (de_isi (by rfl) T.z_isinstance boot_isi (by rfl) T.z_int boot_int (de_var 0)) (de_one (de_not (de_isi (by rfl) T.z_isinstance boot_isi (by rfl) T.z_bool boot_bool (de_var 0)))))))
end
section
variable {P : Program} {w : World} {K : PySem.W.Frag} {mg : Str → Option Value} {base : Heap} {a : Nat → Addr} {fd : Nat → FuncData} {ca ka : Nat → Addr} {tk : Nat → Tok} (T : Txt K mg a fd ca ka tk)
include T in
theorem ok_has_position_form (G_is_integer : FnOk P w K mg base (L2.CX P w) 1 (a 20) (fd 20) ["value"] (spD K ca m_is_integer)) : FnOk P w K mg base (L2.CX P w) 2 (a 21) (fd 21) ["value"] (spD K ca m_has_position_form) := by
  refine fn_okD T.f_has_position_form sc_has_position_form fun cdv A outer s H E hr => ?_
  have hu := hr.units
  have hpo := passes_of (X := cxOf (L2.CX P w) P w K mg base ["value", "item"] "has_position_form" (defScope (topS 38)) (a 21) cdv A outer s H E) rfl
  have hps := passes_call (takes_of (X := cxOf (L2.CX P w) P w K mg base ["value", "item"] "has_position_form" (defScope (topS 38)) (a 21) cdv A outer s H E) rfl rfl rfl rfl) (fun _ _ _ _ h => h)
  have htk := takes_of (X := cxOf (L2.CX P w) P w K mg base ["value", "item"] "has_position_form" (defScope (topS 38)) (a 21) cdv A outer s H E) rfl rfl rfl rfl
  exact (dss_one (ds_ret (de_and (de_isi (by rfl) T.z_isinstance boot_isi (by rfl) T.z_tuple boot_tuple (de_var 0)) (de_one (de_callB (dc_all (by rfl)) (by rfl) T.z_all boot_all (da_cons (de_lc (own := [("item", 1)]) (by rfl) sc_has_position_form.nd (di_seq (de_var 0)) (blkOk_by (N := ["value", "item"]) (sc := defScope (topS 38)) (own := [("item", 1)]) (by decide +kernel)) (fun _ _ _ _ _ => (dgi_var (vs := [1]) (by decide) sc_has_position_form.nd)) (fun _ _ _ _ _ => dts_nil) (fun _ _ _ _ _ => (de_call G_is_integer (hr.mono (by decide)) (by rfl) T.g_is_integer T.f_is_integer.kp T.b_is_integer .nil (fun _ _ => repL_nil.mpr rfl) pass_blk (da_cons (de_var 1) da_nil)))) da_nil))))))
end
section
variable {P : Program} {w : World} {K : PySem.W.Frag} {mg : Str → Option Value} {base : Heap} {a : Nat → Addr} {fd : Nat → FuncData} {ca ka : Nat → Addr} {tk : Nat → Tok} (T : Txt K mg a fd ca ka tk)
include T in
theorem ok_is_ask_position (G_rows_with_positions : FnOk P w K mg base (L2.CX P w) 6 (a 19) (fd 19) ["rows", "before"] (spD K ca (m_rows_with_positions 5))) (G_has_position_form : FnOk P w K mg base (L2.CX P w) 2 (a 21) (fd 21) ["value"] (spD K ca m_has_position_form)) : FnOk P w K mg base (L2.CX P w) 8 (a 22) (fd 22) ["rows", "value"] (spD K ca m_is_ask_position) := by
  refine fn_okD T.f_is_ask_position sc_is_ask_position fun cdv A outer s H E hr => ?_
  have hu := hr.units
  have hpo := passes_of (X := cxOf (L2.CX P w) P w K mg base ["rows", "value", "position", "row"] "is_ask_position" (defScope (topS 49)) (a 22) cdv A outer s H E) rfl
  have hps := passes_call (takes_of (X := cxOf (L2.CX P w) P w K mg base ["rows", "value", "position", "row"] "is_ask_position" (defScope (topS 49)) (a 22) cdv A outer s H E) rfl rfl rfl rfl) (fun _ _ _ _ h => h)
  have htk := takes_of (X := cxOf (L2.CX P w) P w K mg base ["rows", "value", "position", "row"] "is_ask_position" (defScope (topS 49)) (a 22) cdv A outer s H E) rfl rfl rfl rfl
  exact (dss_cons (ds_if (dt_not (dt_val (de_call G_has_position_form (hr.mono (by decide)) (by rfl) T.g_has_position_form T.f_has_position_form.kp T.b_has_position_form .nil (fun _ _ => repL_nil.mpr rfl) hps (da_cons (de_var 1) da_nil)))) (dss_one (ds_ret de_bl)) dss_nil) (dss_one (ds_ret (de_callB (dc_any (by rfl)) (by rfl) T.z_any boot_any (da_cons (de_lc (own := [("position", 2), ("row", 3)]) (by rfl) sc_is_ask_position.nd (di_seq (de_call G_rows_with_positions (hr.mono (by decide)) (by rfl) T.g_rows_with_positions T.f_rows_with_positions.kp T.b_rows_with_positions .nil (fun _ _ => repL_nil.mpr rfl) hps (da_cons (de_var 0) (da_cons (de_tup da_nil) da_nil)))) (blkOk_by (N := ["rows", "value", "position", "row"]) (sc := defScope (topS 49)) (own := [("position", 2), ("row", 3)]) (by decide +kernel)) (fun _ _ _ _ _ => (dgi_pair (vs := [2, 3]) (by decide) (by decide) (by rfl) sc_is_ask_position.nd)) (fun _ _ _ _ _ => dts_nil) (fun _ _ _ _ _ => (de_and (de_cmp (dop_eq hu) (de_var 2) (de_var 1) (nomark _)) (de_one (de_cmp (dop_eq hu) (de_ix (de_var 3) de_int) de_str (nomark _)))))) da_nil)))))
end
section
variable {P : Program} {w : World} {K : PySem.W.Frag} {mg : Str → Option Value} {base : Heap} {a : Nat → Addr} {fd : Nat → FuncData} {ca ka : Nat → Addr} {tk : Nat → Tok} (T : Txt K mg a fd ca ka tk)
include T in
theorem ok_InvalidPosition___init__ : FnOk P w K mg base (L2.CX P w) 1 (a 23) (fd 23) ["self", "position"] (spX (ca 3) ["position"]) := fn_x1 (k := 0) T.f_InvalidPosition___init__ sc_InvalidPosition___init__ T.ox_InvalidPosition T.nf_InvalidPosition_position fun cdv A outer s H E => pss_one (ps_ost (pv 0) (pv 1))
end
section
variable {P : Program} {w : World} {K : PySem.W.Frag} {mg : Str → Option Value} {base : Heap} {a : Nat → Addr} {fd : Nat → FuncData} {ca ka : Nat → Addr} {tk : Nat → Tok} (T : Txt K mg a fd ca ka tk)
include T in
theorem ok_resume_guard (G_go_on : FnOk P w K mg base (L2.CX P w) 3 (a 6) (fd 6) ["bits", "rows", "flags", "position", "answers"] (spD K ca m_go_on)) (G_is_ask_position : FnOk P w K mg base (L2.CX P w) 8 (a 22) (fd 22) ["rows", "value"] (spD K ca m_is_ask_position)) (G_InvalidPosition___init__ : FnOk P w K mg base (L2.CX P w) 1 (a 23) (fd 23) ["self", "position"] (spX (ca 3) ["position"])) (G_checked_rows : FnOk P w K mg base (L2.CX P w) 5 (a 13) (fd 13) ["site", "page", "side", "flags"] (spD K ca m_checked_rows)) : FnOk P w K mg base (L2.CX P w) 9 (a 24) (fd 24) ["site", "page", "side", "flags", "position", "answers"] (spD K ca m_resume_guard) := by
  obtain ⟨dvs, kws, FF⟩ := T.f_resume_guard
  refine fn_okDd FF sc_resume_guard fun cdv A outer s H E hr => ?_
  have hu := hr.units
  have hpo := passes_of (X := cxOf (L2.CX P w) P w K mg base ["site", "page", "side", "flags", "position", "answers", "rows", "outcome", "after", "where", "met"] "resume_guard" (defScope (topS 43)) (a 24) cdv A outer s H E) rfl
  have hps := passes_call (takes_of (X := cxOf (L2.CX P w) P w K mg base ["site", "page", "side", "flags", "position", "answers", "rows", "outcome", "after", "where", "met"] "resume_guard" (defScope (topS 43)) (a 24) cdv A outer s H E) rfl rfl rfl rfl) (fun _ _ _ _ h => h)
  have htk := takes_of (X := cxOf (L2.CX P w) P w K mg base ["site", "page", "side", "flags", "position", "answers", "rows", "outcome", "after", "where", "met"] "resume_guard" (defScope (topS 43)) (a 24) cdv A outer s H E) rfl rfl rfl rfl
  exact (dss_cons (ds_set (i := 6) sc_resume_guard.nd (de_call G_checked_rows (hr.mono (by decide)) (by rfl) T.g_checked_rows T.f_checked_rows.kp T.b_checked_rows .nil (fun _ _ => repL_nil.mpr rfl) hps (da_cons (de_var 0) (da_cons (de_var 1) (da_cons (de_var 2) (da_cons (de_var 3) da_nil)))))) (dss_cons (ds_if (dt_not (dt_val (de_call G_is_ask_position (hr.mono (by decide)) (by rfl) T.g_is_ask_position T.f_is_ask_position.kp T.b_is_ask_position .nil (fun _ _ => repL_nil.mpr rfl) hps (da_cons (de_var 6) (da_cons (de_var 4) da_nil))))) (dss_one (ds_raise (by rfl) htk T.ox_InvalidPosition T.xi_InvalidPosition T.ti_InvalidPosition G_InvalidPosition___init__ (hr.mono (by decide)) T.b_InvalidPosition___init__ (by rfl) T.ge_InvalidPosition ⟨by simp, by simp⟩ (da_cons (de_var 4) da_nil))) dss_nil) (dss_cons (ds_asg (de_call G_go_on (hr.mono (by decide)) (by rfl) T.g_go_on T.f_go_on.kp T.b_go_on .nil (fun _ _ => repL_nil.mpr rfl) hps (da_cons (de_fld T.cl_0 T.na_0_bits (de_var 0)) (da_cons (de_var 6) (da_cons (de_var 3) (da_cons (de_var 4) (da_cons (de_var 5) da_nil)))))) (dg_tup (by rfl) (dgs_cons (dg_var (j := 7) sc_resume_guard.nd) (dgs_cons (dg_var (j := 8) sc_resume_guard.nd) (dgs_cons (dg_var (j := 9) sc_resume_guard.nd) (dgs_cons (dg_var (j := 10) sc_resume_guard.nd) dgs_nil)))))) (dss_one (ds_ret (de_tup (da_cons (de_var 7) (da_cons (de_var 8) (da_cons (de_var 9) da_nil)))))))))
end
section
variable {P : Program} {w : World} {K : PySem.W.Frag} {mg : Str → Option Value} {base : Heap} {a : Nat → Addr} {fd : Nat → FuncData} {ca ka : Nat → Addr} {tk : Nat → Tok} (T : Txt K mg a fd ca ka tk)
include T in
theorem ok__law_call (G_run_guard : FnOk P w K mg base (L2.CX P w) 6 (a 14) (fd 14) ["site", "page", "side", "flags", "answers"] (spD K ca m_run_guard)) (G_all_ends : FnOk P w K mg base (L2.CX P w) 15 (a 16) (fd 16) ["site", "page", "side", "flags"] (spD K ca m_all_ends)) (G_letting_answers : FnOk P w K mg base (L2.CX P w) 16 (a 17) (fd 17) ["site", "page", "side", "flags"] (spD K ca m_letting_answers)) (G_lets : FnOk P w K mg base (L2.CX P w) 17 (a 18) (fd 18) ["site", "page", "side", "flags"] (spD K ca m_lets)) (G_resume_guard : FnOk P w K mg base (L2.CX P w) 9 (a 24) (fd 24) ["site", "page", "side", "flags", "position", "answers"] (spD K ca m_resume_guard)) : FnOk P w K mg base (L2.CX P w) 18 (a 25) (fd 25) ["_law_site", "_law_which", "_law_page", "_law_side", "_law_flags", "_law_spot"] (spD K ca m__law_call) := by
  refine fn_okD T.f__law_call sc__law_call fun cdv A outer s H E hr => ?_
  have hu := hr.units
  have hpo := passes_of (X := cxOf (L2.CX P w) P w K mg base ["_law_site", "_law_which", "_law_page", "_law_side", "_law_flags", "_law_spot", "error"] "_law_call" (defScope (topS 66)) (a 25) cdv A outer s H E) rfl
  have hps := passes_call (takes_of (X := cxOf (L2.CX P w) P w K mg base ["_law_site", "_law_which", "_law_page", "_law_side", "_law_flags", "_law_spot", "error"] "_law_call" (defScope (topS 66)) (a 25) cdv A outer s H E) rfl rfl rfl rfl) (fun _ _ _ _ h => h)
  have htk := takes_of (X := cxOf (L2.CX P w) P w K mg base ["_law_site", "_law_which", "_law_page", "_law_side", "_law_flags", "_law_spot", "error"] "_law_call" (defScope (topS 66)) (a 25) cdv A outer s H E) rfl rfl rfl rfl
  exact (dss_cons (ds_try rfl rfl sc__law_call.nd htk (fun W pn xe tk po => have hpS := fun σ => passAt tk σ; dssr_one (dsr_if (dt_cmp (dop_eq hu) (de_var 1) de_int (nomark _)) (dssr_one (dsr_expr (der_call G_run_guard (hr.mono (by decide)) (by rfl) T.g_run_guard T.k_run_guard T.b_run_guard_5.nil hpS (da_cons (de_var 0) (da_cons (de_var 2) (da_cons (de_var 3) (da_cons (de_var 4) (da_cons (de_tup (da_cons de_bl da_nil)) da_nil)))))))) (dssr_one (dsr_if (dt_cmp (dop_eq hu) (de_var 1) de_int (nomark _)) (dssr_one (dsr_expr (der_call G_all_ends (hr.mono (by decide)) (by rfl) T.g_all_ends T.f_all_ends.kp T.b_all_ends hpS (da_cons (de_var 0) (da_cons (de_var 2) (da_cons (de_var 3) (da_cons (de_var 4) da_nil))))))) (dssr_one (dsr_if (dt_cmp (dop_eq hu) (de_var 1) de_int (nomark _)) (dssr_one (dsr_expr (der_call G_letting_answers (hr.mono (by decide)) (by rfl) T.g_letting_answers T.f_letting_answers.kp T.b_letting_answers hpS (da_cons (de_var 0) (da_cons (de_var 2) (da_cons (de_var 3) (da_cons (de_var 4) da_nil))))))) (dssr_one (dsr_if (dt_cmp (dop_eq hu) (de_var 1) de_int (nomark _)) (dssr_one (dsr_expr (der_call G_lets (hr.mono (by decide)) (by rfl) T.g_lets T.f_lets.kp T.b_lets hpS (da_cons (de_var 0) (da_cons (de_var 2) (da_cons (de_var 3) (da_cons (de_var 4) da_nil))))))) (dssr_one (dsr_expr (der_call G_resume_guard (hr.mono (by decide)) (by rfl) T.g_resume_guard T.k_resume_guard T.b_resume_guard_6.nil hpS (da_cons (de_var 0) (da_cons (de_var 2) (da_cons (de_var 3) (da_cons (de_var 4) (da_cons (de_var 5) (da_cons (de_lst (da_cons de_bl da_nil)) da_nil))))))))))))))))) (HdD.named (i := 6) (by rfl) (by rfl) ⟨by rfl, by decide, .inl T.ge_UnknownPage⟩ T.he_6 (dus_ret (du_tup (dua_cons du_str (dua_cons (du_fld (i := 6) T.ei_UnknownPage.xf T.nf_UnknownPage_page) (dua_cons (du_ist (i := 6) (b := false) T.ei_UnknownPage (kitAny_of (.cons (b := false) (kit_own T.ei_InvalidSide T.em_6_6 T.em_6_5) (.cons (b := false) (kit_own T.ei_InvalidFlags T.em_6_6 T.em_6_2) (.cons (b := false) (kit_own T.ei_InvalidPosition T.em_6_6 T.em_6_3) .nil)))) (by rfl) T.z_isinstance boot_isi (gcs_cons (by rfl) T.ge_InvalidSide (gcs_cons (by rfl) T.ge_InvalidFlags (gcs_cons (by rfl) T.ge_InvalidPosition gcs_nil)))) dua_nil))))) (HdD.named (i := 6) (by rfl) (by rfl) ⟨by rfl, by decide, .inl T.ge_InvalidSide⟩ T.he_5 (dus_ret (du_tup (dua_cons du_str (dua_cons (du_fld (i := 6) T.ei_InvalidSide.xf T.nf_InvalidSide_side) (dua_cons (du_ist (i := 6) (b := false) T.ei_InvalidSide (kitAny_of (.cons (b := false) (kit_own T.ei_InvalidFlags T.em_5_5 T.em_5_2) (.cons (b := false) (kit_own T.ei_InvalidPosition T.em_5_5 T.em_5_3) .nil))) (by rfl) T.z_isinstance boot_isi (gcs_cons (by rfl) T.ge_InvalidFlags (gcs_cons (by rfl) T.ge_InvalidPosition gcs_nil))) dua_nil))))) (HdD.named (i := 6) (by rfl) (by rfl) ⟨by rfl, by decide, .inl T.ge_InvalidFlags⟩ T.he_2 (dus_ret (du_tup (dua_cons du_str (dua_cons (du_fld (i := 6) T.ei_InvalidFlags.xf T.nf_InvalidFlags_flags) (dua_cons (du_isi (i := 6) (b := false) T.ei_InvalidFlags (kit_own T.ei_InvalidPosition T.em_2_2 T.em_2_3) (by rfl) T.z_isinstance boot_isi (by rfl) T.ge_InvalidPosition) dua_nil))))) (HdD.named (i := 6) (by rfl) (by rfl) ⟨by rfl, by decide, .inl T.ge_InvalidPosition⟩ T.he_3 (dus_ret (du_tup (dua_cons du_str (dua_cons (du_fld (i := 6) T.ei_InvalidPosition.xf T.nf_InvalidPosition_position) (dua_cons (du_not (du_isi (i := 6) (b := true) T.ei_InvalidPosition (kit_own T.ei_LedError T.em_3_3 T.em_3_7) (by rfl) T.z_isinstance boot_isi (by rfl) T.ge_LedError)) dua_nil))))) HdD.nil))))) (dss_one (ds_ret (de_tup (da_cons de_str (da_cons de_non (da_cons de_bl da_nil)))))))
end
section
variable {P : Program} {w : World} {K : PySem.W.Frag} {mg : Str → Option Value} {base : Heap} {a : Nat → Addr} {fd : Nat → FuncData} {ca ka : Nat → Addr} {tk : Nat → Tok} (T : Txt K mg a fd ca ka tk)
include T in
theorem ok__law_all_flags  : FnOk P w K mg base (L2.CX P w) 1 (a 26) (fd 26) ["_law_flags", "_law_count"] (spD K ca m__law_all_flags) := by
  refine fn_okD T.f__law_all_flags sc__law_all_flags fun cdv A outer s H E hr => ?_
  have hu := hr.units
  have hpo := passes_of (X := cxOf (L2.CX P w) P w K mg base ["_law_flags", "_law_count", "_law_flag"] "_law_all_flags" (defScope (topS 68)) (a 26) cdv A outer s H E) rfl
  have hps := passes_call (takes_of (X := cxOf (L2.CX P w) P w K mg base ["_law_flags", "_law_count", "_law_flag"] "_law_all_flags" (defScope (topS 68)) (a 26) cdv A outer s H E) rfl rfl rfl rfl) (fun _ _ _ _ h => h)
  have htk := takes_of (X := cxOf (L2.CX P w) P w K mg base ["_law_flags", "_law_count", "_law_flag"] "_law_all_flags" (defScope (topS 68)) (a 26) cdv A outer s H E) rfl rfl rfl rfl
  exact (dss_cons (ds_if (dw_or (dt_not (dt_val (de_isi (by rfl) T.z_isinstance boot_isi (by rfl) T.z_tuple boot_tuple (de_var 0)))) (dw_or1 (dt_cmp (dop_ne hu) (de_callB dc_len (by rfl) T.z_len boot_len (da_cons (de_var 0) da_nil)) (de_var 1) (nomark _)))).dt (dss_one (ds_ret de_bl)) dss_nil) (dss_one (ds_ret (de_callB (dc_all (by rfl)) (by rfl) T.z_all boot_all (da_cons (de_lc (own := [("_law_flag", 2)]) (by rfl) sc__law_all_flags.nd (di_seq (de_var 0)) (blkOk_by (N := ["_law_flags", "_law_count", "_law_flag"]) (sc := defScope (topS 68)) (own := [("_law_flag", 2)]) (by decide +kernel)) (fun _ _ _ _ _ => (dgi_var (vs := [2]) (by decide) sc__law_all_flags.nd)) (fun _ _ _ _ _ => dts_nil) (fun _ _ _ _ _ => (de_isi (by rfl) T.z_isinstance boot_isi (by rfl) T.z_bool boot_bool (de_var 2)))) da_nil)))))
end
section
variable {P : Program} {w : World} {K : PySem.W.Frag} {mg : Str → Option Value} {base : Heap} {a : Nat → Addr} {fd : Nat → FuncData} {ca ka : Nat → Addr} {tk : Nat → Tok} (T : Txt K mg a fd ca ka tk)
include T in
theorem ok__law_mix  : FnOk P w K mg base (L2.CX P w) 1 (a 27) (fd 27) ["_law_value", "_law_k"] (spD K ca m__law_mix) := by
  refine fn_okD T.f__law_mix sc__law_mix fun cdv A outer s H E hr => ?_
  have hu := hr.units
  have hpo := passes_of (X := cxOf (L2.CX P w) P w K mg base ["_law_value", "_law_k", "_law_number"] "_law_mix" (defScope (topS 56)) (a 27) cdv A outer s H E) rfl
  have hps := passes_call (takes_of (X := cxOf (L2.CX P w) P w K mg base ["_law_value", "_law_k", "_law_number"] "_law_mix" (defScope (topS 56)) (a 27) cdv A outer s H E) rfl rfl rfl rfl) (fun _ _ _ _ h => h)
  have htk := takes_of (X := cxOf (L2.CX P w) P w K mg base ["_law_value", "_law_k", "_law_number"] "_law_mix" (defScope (topS 56)) (a 27) cdv A outer s H E) rfl rfl rfl rfl
  exact (dss_cons (ds_set (i := 2) sc__law_mix.nd (de_op dop_mod (de_op dop_mul (de_op dop_add (de_op dop_add (de_callTy dc_int (by rfl) T.z_int boot_int (da_cons (de_var 0) da_nil)) (de_op dop_mul de_int (de_var 1))) de_int) de_int) de_int)) (dss_cons (ds_set (i := 2) sc__law_mix.nd (de_op dop_mod (de_op dop_mul (de_var 2) (de_op dop_add (de_op dop_div (de_var 2) de_int) de_int)) de_int)) (dss_one (ds_ret (de_op dop_mod (de_op dop_mul (de_var 2) (de_op dop_add (de_op dop_div (de_var 2) de_int) de_int)) de_int)))))
end
section
variable {P : Program} {w : World} {K : PySem.W.Frag} {mg : Str → Option Value} {base : Heap} {a : Nat → Addr} {fd : Nat → FuncData} {ca ka : Nat → Addr} {tk : Nat → Tok} (T : Txt K mg a fd ca ka tk)
include T in
theorem ok__law_draw (G__law_mix : FnOk P w K mg base (L2.CX P w) 1 (a 27) (fd 27) ["_law_value", "_law_k"] (spD K ca m__law_mix)) : FnOk P w K mg base (L2.CX P w) 2 (a 28) (fd 28) ["_law_box_here", "_law_many"] (spD K ca m__law_draw) := by
  refine fn_okD T.f__law_draw sc__law_draw fun cdv A outer s H E hr => ?_
  have hu := hr.units
  have hpo := passes_of (X := cxOf (L2.CX P w) P w K mg base ["_law_box_here", "_law_many", "_law_digit", "_law_cell"] "_law_draw" (defScope (topS 58)) (a 28) cdv A outer s H E) rfl
  have hps := passes_call (takes_of (X := cxOf (L2.CX P w) P w K mg base ["_law_box_here", "_law_many", "_law_digit", "_law_cell"] "_law_draw" (defScope (topS 58)) (a 28) cdv A outer s H E) rfl rfl rfl rfl) (fun _ _ _ _ h => h)
  have htk := takes_of (X := cxOf (L2.CX P w) P w K mg base ["_law_box_here", "_law_many", "_law_digit", "_law_cell"] "_law_draw" (defScope (topS 58)) (a 28) cdv A outer s H E) rfl rfl rfl rfl
  exact (dss_cons (ds_asg (de_op dop_add (de_ix (de_var 0) de_int) de_int) (dg_sub (de_var 0) de_int)) (dss_cons (ds_if (dw_and (dt_cmp (dop_eq hu) (de_ix (de_var 0) de_int) de_int (nomark _)) (dw_and1 (dt_cmp dop_lt (de_ix (de_var 0) de_int) (de_callB dc_len (by rfl) T.z_len boot_len (da_cons (de_ix (de_var 0) de_int) da_nil)) (nomark _)))).dt (dss_cons (ds_set (i := 3) sc__law_draw.nd (de_ix (de_ix (de_var 0) de_int) (de_ix (de_var 0) de_int))) (dss_cons (ds_asg (de_op dop_add (de_ix (de_var 0) de_int) de_int) (dg_sub (de_var 0) de_int)) (dss_cons (ds_if (dt_cmp dop_lt (de_var 3) (de_op dop_pow de_int de_int) (nomark _)) (dss_one (ds_ret (de_op dop_mod (de_callTy dc_int (by rfl) T.z_int boot_int (da_cons (de_call G__law_mix (hr.mono (by decide)) (by rfl) T.g__law_mix T.f__law_mix.kp T.b__law_mix .nil (fun _ _ => repL_nil.mpr rfl) hps (da_cons (de_var 3) (da_cons (de_ix (de_var 0) de_int) da_nil))) da_nil)) (de_var 1)))) dss_nil) (dss_one (ds_asg (de_var 3) (dg_sub (de_var 0) de_int)))))) dss_nil) (dss_cons (ds_if (dt_cmp (dop_eq hu) (de_ix (de_var 0) de_int) de_int (nomark _)) (dss_one (ds_ret (de_op dop_mod (de_callTy dc_int (by rfl) T.z_int boot_int (da_cons (de_call G__law_mix (hr.mono (by decide)) (by rfl) T.g__law_mix T.f__law_mix.kp T.b__law_mix .nil (fun _ _ => repL_nil.mpr rfl) hps (da_cons (de_ix (de_var 0) de_int) (da_cons (de_ix (de_var 0) de_int) da_nil))) da_nil)) (de_var 1)))) dss_nil) (dss_cons (ds_set (i := 2) sc__law_draw.nd (de_op dop_mod (de_callTy dc_int (by rfl) T.z_int boot_int (da_cons (de_ix (de_var 0) de_int) da_nil)) (de_var 1))) (dss_cons (ds_asg (de_op dop_div (de_callTy dc_int (by rfl) T.z_int boot_int (da_cons (de_ix (de_var 0) de_int) da_nil)) (de_var 1)) (dg_sub (de_var 0) de_int)) (dss_one (ds_ret (de_var 2))))))))
end
section
variable {P : Program} {w : World} {K : PySem.W.Frag} {mg : Str → Option Value} {base : Heap} {a : Nat → Addr} {fd : Nat → FuncData} {ca ka : Nat → Addr} {tk : Nat → Tok} (T : Txt K mg a fd ca ka tk)
include T in
theorem ok__law_spots (G__law_draw : FnOk P w K mg base (L2.CX P w) 2 (a 28) (fd 28) ["_law_box_here", "_law_many"] (spD K ca m__law_draw)) : FnOk P w K mg base (L2.CX P w) 3 (a 29) (fd 29) ["_law_box_here", "_law_asks_here"] (spD K ca m__law_spots) := by
  refine fn_okD T.f__law_spots sc__law_spots fun cdv A outer s H E hr => ?_
  have hu := hr.units
  have hpo := passes_of (X := cxOf (L2.CX P w) P w K mg base ["_law_box_here", "_law_asks_here", "_law_spot", "_law_at", "_law_item", "_law_spoiled"] "_law_spots" (defScope (topS 67)) (a 29) cdv A outer s H E) rfl
  have hps := passes_call (takes_of (X := cxOf (L2.CX P w) P w K mg base ["_law_box_here", "_law_asks_here", "_law_spot", "_law_at", "_law_item", "_law_spoiled"] "_law_spots" (defScope (topS 67)) (a 29) cdv A outer s H E) rfl rfl rfl rfl) (fun _ _ _ _ h => h)
  have htk := takes_of (X := cxOf (L2.CX P w) P w K mg base ["_law_box_here", "_law_asks_here", "_law_spot", "_law_at", "_law_item", "_law_spoiled"] "_law_spots" (defScope (topS 67)) (a 29) cdv A outer s H E) rfl rfl rfl rfl
  exact (dss_cons (ds_set (i := 2) sc__law_spots.nd (de_tup (da_cons de_int da_nil))) (dss_cons (ds_if (dt_cmp dop_gt (de_callB dc_len (by rfl) T.z_len boot_len (da_cons (de_var 1) da_nil)) de_int (nomark _)) (dss_one (ds_set (i := 2) sc__law_spots.nd (de_ix (de_var 1) (de_call G__law_draw (hr.mono (by decide)) (by rfl) T.g__law_draw T.f__law_draw.kp T.b__law_draw .nil (fun _ _ => repL_nil.mpr rfl) hps (da_cons (de_var 0) (da_cons (de_callB dc_len (by rfl) T.z_len boot_len (da_cons (de_var 1) da_nil)) da_nil)))))) dss_nil) (dss_cons (ds_set (i := 3) sc__law_spots.nd (de_call G__law_draw (hr.mono (by decide)) (by rfl) T.g__law_draw T.f__law_draw.kp T.b__law_draw .nil (fun _ _ => repL_nil.mpr rfl) hps (da_cons (de_var 0) (da_cons (de_callB dc_len (by rfl) T.z_len boot_len (da_cons (de_var 2) da_nil)) da_nil)))) (dss_cons (ds_set (i := 4) sc__law_spots.nd (de_ix (de_lst (da_cons de_int (da_cons de_int (da_cons de_int (da_cons de_bl (da_cons de_bl (da_cons de_non (da_cons de_str (da_cons (de_un dun_neg de_int) (da_cons (de_op dop_pow de_int de_int) da_nil)))))))))) (de_call G__law_draw (hr.mono (by decide)) (by rfl) T.g__law_draw T.f__law_draw.kp T.b__law_draw .nil (fun _ _ => repL_nil.mpr rfl) hps (da_cons (de_var 0) (da_cons de_int da_nil))))) (dss_cons (ds_set (i := 5) sc__law_spots.nd (de_lst (da_cons (de_op dop_add (de_op dop_add (de_slice (de_var 2) do_none (do_some (de_var 3))) (de_tup (da_cons (de_var 4) da_nil))) (de_slice (de_var 2) (do_some (de_op dop_add (de_var 3) de_int)) do_none)) (da_cons (de_op dop_add (de_var 2) (de_tup (da_cons de_int da_nil))) (da_cons (de_op dop_add (de_var 2) (de_tup (da_cons de_int (da_cons de_int da_nil)))) (da_cons (de_slice (de_var 2) do_none (do_some (de_var 3))) (da_cons (de_callTy dc_list (by rfl) T.z_list boot_list (da_cons (de_var 2) da_nil)) (da_cons de_non (da_cons de_int da_nil))))))))) (dss_one (ds_ret (de_lst (da_cons (de_var 2) (da_cons (de_var 2) (da_cons (de_ix (de_var 5) (de_call G__law_draw (hr.mono (by decide)) (by rfl) T.g__law_draw T.f__law_draw.kp T.b__law_draw .nil (fun _ _ => repL_nil.mpr rfl) hps (da_cons (de_var 0) (da_cons de_int da_nil)))) da_nil)))))))))))
end
section
variable {P : Program} {w : World} {K : PySem.W.Frag} {mg : Str → Option Value} {base : Heap} {a : Nat → Addr} {fd : Nat → FuncData} {ca ka : Nat → Addr} {tk : Nat → Tok} (T : Txt K mg a fd ca ka tk)
include T in
theorem ok__law_asks  : ∀ n : Nat, FnOk P w K mg base (L2.CX P w) (0 + n) (a 30) (fd 30) ["_law_rows_here", "_law_prefix"] (spD K ca (m__law_asks n)) := by
  intro n
  induction n with
  | zero => exact (fn_none (by intro ds st; rfl))
  | succ n ih =>
    have G__law_asks := ih
    refine fn_okD (k := 0 + n) T.f__law_asks sc__law_asks fun cdv A outer s H E hr => ?_
    have hu := hr.units
    have hpo := passes_of (X := cxOf (L2.CX P w) P w K mg base ["_law_rows_here", "_law_prefix", "_law_found", "_law_k", "_law_branch"] "_law_asks" (defScope (topS 65)) (a 30) cdv A outer s H E) rfl
    have hps := passes_call (takes_of (X := cxOf (L2.CX P w) P w K mg base ["_law_rows_here", "_law_prefix", "_law_found", "_law_k", "_law_branch"] "_law_asks" (defScope (topS 65)) (a 30) cdv A outer s H E) rfl rfl rfl rfl) (fun _ _ _ _ h => h)
    have htk := takes_of (X := cxOf (L2.CX P w) P w K mg base ["_law_rows_here", "_law_prefix", "_law_found", "_law_k", "_law_branch"] "_law_asks" (defScope (topS 65)) (a 30) cdv A outer s H E) rfl rfl rfl rfl
    exact (dss_cons (ds_set (i := 2) sc__law_asks.nd (de_lst da_nil)) (dss_cons (ds_for hpo (by rfl) (di_range (by rfl) T.z_range (de_callB dc_len (by rfl) T.z_len boot_len (da_cons (de_var 0) da_nil))) (dgi_var (vs := [3]) (by decide) sc__law_asks.nd) (dss_cons (ds_if (dt_cmp (dop_eq hu) (de_ix (de_ix (de_var 0) (de_var 3)) de_int) de_str (nomark _)) (dss_one (ds_expr (de_mtL PySem.F.plainAttrs_list PySem.F.slot_list_append PySem.F.type_list_append dm_append (de_var 2) (da_cons (de_op dop_add (de_var 1) (de_tup (da_cons (de_var 3) da_nil))) da_nil)))) dss_nil) (dss_one (ds_if (dt_cmp dop_in (de_ix (de_ix (de_var 0) (de_var 3)) de_int) (de_tup (da_cons de_str (da_cons de_str da_nil))) rfl) (dss_one (ds_for hpo (by rfl) (di_range (by rfl) T.z_range de_int) (dgi_var (vs := [4]) (by decide) sc__law_asks.nd) (dss_one (ds_expr (de_mtL PySem.F.plainAttrs_list PySem.F.slot_list_extend PySem.F.type_list_extend dm_extend (de_var 2) (da_cons (de_call G__law_asks (hr.mono (by omega)) (by rfl) T.g__law_asks T.f__law_asks.kp T.b__law_asks .nil (fun _ _ => repL_nil.mpr rfl) hps (da_cons (de_ix (de_ix (de_var 0) (de_var 3)) (de_op dop_add (de_op dop_sub (de_callB dc_len (by rfl) T.z_len boot_len (da_cons (de_ix (de_var 0) (de_var 3)) da_nil)) de_int) (de_var 4))) (da_cons (de_op dop_add (de_var 1) (de_tup (da_cons (de_var 3) (da_cons (de_var 4) da_nil)))) da_nil))) da_nil)))))) dss_nil)))) (dss_one (ds_ret (de_var 2)))))
end
section
variable {P : Program} {w : World} {K : PySem.W.Frag} {mg : Str → Option Value} {base : Heap} {a : Nat → Addr} {fd : Nat → FuncData} {ca ka : Nat → Addr} {tk : Nat → Tok} (T : Txt K mg a fd ca ka tk)
include T in
theorem ok_InvalidSite___init__ : FnOk P w K mg base (L2.CX P w) 1 (a 31) (fd 31) ["self", "part", "path"] (spX (ca 1) ["part", "path"]) := fn_x2 (k := 0) T.f_InvalidSite___init__ sc_InvalidSite___init__ T.ox_InvalidSite T.nf_InvalidSite_part T.nf_InvalidSite_path fun cdv A outer s H E => pss_cons (ps_ost (pv 0) (pv 1)) (pss_one (ps_ost (pv 0) (pv 2)))
end
section
variable {P : Program} {w : World} {K : PySem.W.Frag} {mg : Str → Option Value} {base : Heap} {a : Nat → Addr} {fd : Nat → FuncData} {ca ka : Nat → Addr} {tk : Nat → Tok} (T : Txt K mg a fd ca ka tk)
include T in
theorem ok_may_branch  : FnOk P w K mg base (L2.CX P w) 1 (a 32) (fd 32) ["position", "row"] (spD K ca m_may_branch) := by
  refine fn_okD T.f_may_branch sc_may_branch fun cdv A outer s H E hr => ?_
  have hu := hr.units
  have hpo := passes_of (X := cxOf (L2.CX P w) P w K mg base ["position", "row", "depth"] "may_branch" (defScope (topS 33)) (a 32) cdv A outer s H E) rfl
  have hps := passes_call (takes_of (X := cxOf (L2.CX P w) P w K mg base ["position", "row", "depth"] "may_branch" (defScope (topS 33)) (a 32) cdv A outer s H E) rfl rfl rfl rfl) (fun _ _ _ _ h => h)
  have htk := takes_of (X := cxOf (L2.CX P w) P w K mg base ["position", "row", "depth"] "may_branch" (defScope (topS 33)) (a 32) cdv A outer s H E) rfl rfl rfl rfl
  exact (dss_cons (ds_set (i := 2) sc_may_branch.nd (de_op dop_div (de_op dop_add (de_callB dc_len (by rfl) T.z_len boot_len (da_cons (de_var 0) da_nil)) de_int) de_int)) (dss_one (ds_ret (de_and (de_cmp dop_le (de_var 2) (de_glob (by rfl) T.c_DEEPEST_BRANCHING T.r_DEEPEST_BRANCHING T.d_DEEPEST_BRANCHING) (nomark _)) (de_and (de_isi (by rfl) T.z_isinstance boot_isi (by rfl) T.z_tuple boot_tuple (de_ix (de_var 1) (de_un dun_neg de_int))) (de_one (de_isi (by rfl) T.z_isinstance boot_isi (by rfl) T.z_tuple boot_tuple (de_ix (de_var 1) (de_un dun_neg de_int)))))))))
end
section
variable {P : Program} {w : World} {K : PySem.W.Frag} {mg : Str → Option Value} {base : Heap} {a : Nat → Addr} {fd : Nat → FuncData} {ca ka : Nat → Addr} {tk : Nat → Tok} (T : Txt K mg a fd ca ka tk)
include T in
theorem ok_is_row (G_may_branch : FnOk P w K mg base (L2.CX P w) 1 (a 32) (fd 32) ["position", "row"] (spD K ca m_may_branch)) : FnOk P w K mg base (L2.CX P w) 2 (a 33) (fd 33) ["bits", "names", "side", "position", "row"] (spD K ca m_is_row) := by
  refine fn_okD T.f_is_row sc_is_row fun cdv A outer s H E hr => ?_
  have hu := hr.units
  have hpo := passes_of (X := cxOf (L2.CX P w) P w K mg base ["bits", "names", "side", "position", "row", "word"] "is_row" (defScope (topS 32)) (a 33) cdv A outer s H E) rfl
  have hps := passes_call (takes_of (X := cxOf (L2.CX P w) P w K mg base ["bits", "names", "side", "position", "row", "word"] "is_row" (defScope (topS 32)) (a 33) cdv A outer s H E) rfl rfl rfl rfl) (fun _ _ _ _ h => h)
  have htk := takes_of (X := cxOf (L2.CX P w) P w K mg base ["bits", "names", "side", "position", "row", "word"] "is_row" (defScope (topS 32)) (a 33) cdv A outer s H E) rfl rfl rfl rfl
  exact (dss_cons (ds_if (dw_or (dt_not (dt_val (de_isi (by rfl) T.z_isinstance boot_isi (by rfl) T.z_tuple boot_tuple (de_var 4)))) (dw_or1 (dt_cmp (dop_eq hu) (de_callB dc_len (by rfl) T.z_len boot_len (da_cons (de_var 4) da_nil)) de_int (nomark _)))).dt (dss_one (ds_ret de_bl)) dss_nil) (dss_cons (ds_set (i := 5) sc_is_row.nd (de_ix (de_var 4) de_int)) (dss_cons (ds_if (dt_cmp (dop_eq hu) (de_var 5) de_str (nomark _)) (dss_one (ds_ret (de_and (de_cmp (dop_eq hu) (de_callB dc_len (by rfl) T.z_len boot_len (da_cons (de_var 4) da_nil)) de_int (nomark _)) (de_and (de_cmp dop_in (de_ix (de_var 4) de_int) (de_var 0) rfl) (de_one (de_call G_may_branch (hr.mono (by decide)) (by rfl) T.g_may_branch T.f_may_branch.kp T.b_may_branch .nil (fun _ _ => repL_nil.mpr rfl) hps (da_cons (de_var 3) (da_cons (de_var 4) da_nil)))))))) dss_nil) (dss_cons (ds_if (dt_cmp (dop_eq hu) (de_var 5) de_str (nomark _)) (dss_one (ds_ret (de_and (de_cmp (dop_eq hu) (de_callB dc_len (by rfl) T.z_len boot_len (da_cons (de_var 4) da_nil)) de_int (nomark _)) (de_one (de_call G_may_branch (hr.mono (by decide)) (by rfl) T.g_may_branch T.f_may_branch.kp T.b_may_branch .nil (fun _ _ => repL_nil.mpr rfl) hps (da_cons (de_var 3) (da_cons (de_var 4) da_nil))))))) dss_nil) (dss_cons (ds_if (dt_cmp (dop_eq hu) (de_var 5) de_str (nomark _)) (dss_one (ds_ret (de_and (de_cmp (dop_eq hu) (de_callB dc_len (by rfl) T.z_len boot_len (da_cons (de_var 4) da_nil)) de_int (nomark _)) (de_and (de_cmp dop_in (de_ix (de_var 4) de_int) (de_var 0) rfl) (de_one (de_isi (by rfl) T.z_isinstance boot_isi (by rfl) T.z_bool boot_bool (de_ix (de_var 4) de_int))))))) dss_nil) (dss_cons (ds_if (dt_cmp (dop_eq hu) (de_var 5) de_str (nomark _)) (dss_one (ds_ret (de_and (de_cmp (dop_eq hu) (de_callB dc_len (by rfl) T.z_len boot_len (da_cons (de_var 4) da_nil)) de_int (nomark _)) (de_and (de_cmp dop_in (de_ix (de_var 4) de_int) (de_var 1) rfl) (de_one (de_cmp (dop_eq hu) (de_var 2) de_str (nomark _))))))) dss_nil) (dss_one (ds_ret (de_cmp (dop_eq hu) (de_var 4) (de_tup (da_cons de_str da_nil)) (nomark _))))))))))
end
section
variable {P : Program} {w : World} {K : PySem.W.Frag} {mg : Str → Option Value} {base : Heap} {a : Nat → Addr} {fd : Nat → FuncData} {ca ka : Nat → Addr} {tk : Nat → Tok} (T : Txt K mg a fd ca ka tk)
include T in
theorem ok_first_wrong_row (G_branches : FnOk P w K mg base (L2.CX P w) 1 (a 4) (fd 4) ["row"] (spD K ca m_branches)) (G_is_row : FnOk P w K mg base (L2.CX P w) 2 (a 33) (fd 33) ["bits", "names", "side", "position", "row"] (spD K ca m_is_row)) : ∀ n : Nat, FnOk P w K mg base (L2.CX P w) (2 + n) (a 34) (fd 34) ["bits", "names", "side", "rows", "before"] (spD K ca (m_first_wrong_row n)) := by
  intro n
  induction n with
  | zero => exact (fn_none (by intro ds st; rfl))
  | succ n ih =>
    have G_first_wrong_row := ih
    refine fn_okD (k := 2 + n) T.f_first_wrong_row sc_first_wrong_row fun cdv A outer s H E hr => ?_
    have hu := hr.units
    have hpo := passes_of (X := cxOf (L2.CX P w) P w K mg base ["bits", "names", "side", "rows", "before", "index", "row", "position", "branch", "inner", "wrong"] "first_wrong_row" (defScope (topS 31)) (a 34) cdv A outer s H E) rfl
    have hps := passes_call (takes_of (X := cxOf (L2.CX P w) P w K mg base ["bits", "names", "side", "rows", "before", "index", "row", "position", "branch", "inner", "wrong"] "first_wrong_row" (defScope (topS 31)) (a 34) cdv A outer s H E) rfl rfl rfl rfl) (fun _ _ _ _ h => h)
    have htk := takes_of (X := cxOf (L2.CX P w) P w K mg base ["bits", "names", "side", "rows", "before", "index", "row", "position", "branch", "inner", "wrong"] "first_wrong_row" (defScope (topS 31)) (a 34) cdv A outer s H E) rfl rfl rfl rfl
    exact (dss_cons (ds_for hpo (by rfl) (di_enumT (by rfl) T.z_enumerate (de_var 3)) (dgi_pair (vs := [5, 6]) (by decide) (by decide) (by rfl) sc_first_wrong_row.nd) (dss_cons (ds_set (i := 7) sc_first_wrong_row.nd (de_op dop_add (de_var 4) (de_tup (da_cons (de_var 5) da_nil)))) (dss_cons (ds_if (dt_not (dt_val (de_call G_is_row (hr.mono (by omega)) (by rfl) T.g_is_row T.f_is_row.kp T.b_is_row .nil (fun _ _ => repL_nil.mpr rfl) hps (da_cons (de_var 0) (da_cons (de_var 1) (da_cons (de_var 2) (da_cons (de_var 7) (da_cons (de_var 6) da_nil)))))))) (dss_one (ds_ret (de_var 7))) dss_nil) (dss_one (ds_for hpo (by rfl) (di_enumT (by rfl) T.z_enumerate (de_call G_branches (hr.mono (by omega)) (by rfl) T.g_branches T.f_branches.kp T.b_branches .nil (fun _ _ => repL_nil.mpr rfl) hps (da_cons (de_var 6) da_nil))) (dgi_pair (vs := [8, 9]) (by decide) (by decide) (by rfl) sc_first_wrong_row.nd) (dss_cons (ds_set (i := 10) sc_first_wrong_row.nd (de_call G_first_wrong_row (hr.mono (by omega)) (by rfl) T.g_first_wrong_row T.f_first_wrong_row.kp T.b_first_wrong_row .nil (fun _ _ => repL_nil.mpr rfl) hps (da_cons (de_var 0) (da_cons (de_var 1) (da_cons (de_var 2) (da_cons (de_var 9) (da_cons (de_op dop_add (de_var 7) (de_tup (da_cons (de_var 8) da_nil))) da_nil))))))) (dss_one (ds_if (dt_cmp dop_notN (de_var 10) de_non (nomark _)) (dss_one (ds_ret (de_var 10))) dss_nil)))))))) (dss_one (ds_ret de_non)))
end
section
variable {P : Program} {w : World} {K : PySem.W.Frag} {mg : Str → Option Value} {base : Heap} {a : Nat → Addr} {fd : Nat → FuncData} {ca ka : Nat → Addr} {tk : Nat → Tok} (T : Txt K mg a fd ca ka tk)
include T in
theorem ok_check_guard (G_rows_with_positions : FnOk P w K mg base (L2.CX P w) 6 (a 19) (fd 19) ["rows", "before"] (spD K ca (m_rows_with_positions 5))) (G_InvalidSite___init__ : FnOk P w K mg base (L2.CX P w) 1 (a 31) (fd 31) ["self", "part", "path"] (spX (ca 1) ["part", "path"])) (G_first_wrong_row : FnOk P w K mg base (L2.CX P w) 7 (a 34) (fd 34) ["bits", "names", "side", "rows", "before"] (spD K ca (m_first_wrong_row 5))) : FnOk P w K mg base (L2.CX P w) 9 (a 35) (fd 35) ["bits", "names", "page", "side", "rows"] (spD K ca m_check_guard) := by
  refine fn_okD T.f_check_guard sc_check_guard fun cdv A outer s H E hr => ?_
  have hu := hr.units
  have hpo := passes_of (X := cxOf (L2.CX P w) P w K mg base ["bits", "names", "page", "side", "rows", "wrong"] "check_guard" (defScope (topS 30)) (a 35) cdv A outer s H E) rfl
  have hps := passes_call (takes_of (X := cxOf (L2.CX P w) P w K mg base ["bits", "names", "page", "side", "rows", "wrong"] "check_guard" (defScope (topS 30)) (a 35) cdv A outer s H E) rfl rfl rfl rfl) (fun _ _ _ _ h => h)
  have htk := takes_of (X := cxOf (L2.CX P w) P w K mg base ["bits", "names", "page", "side", "rows", "wrong"] "check_guard" (defScope (topS 30)) (a 35) cdv A outer s H E) rfl rfl rfl rfl
  exact (dss_cons (ds_if (dt_not (dt_val (de_isi (by rfl) T.z_isinstance boot_isi (by rfl) T.z_tuple boot_tuple (de_var 4)))) (dss_one (ds_raise (by rfl) htk T.ox_InvalidSite T.xi_InvalidSite T.ti_InvalidSite G_InvalidSite___init__ (hr.mono (by decide)) T.b_InvalidSite___init__ (by rfl) T.ge_InvalidSite ⟨by simp, by simp⟩ (da_cons de_str (da_cons (de_tup (da_cons (de_var 2) (da_cons (de_var 3) (da_cons (de_tup da_nil) da_nil)))) da_nil)))) dss_nil) (dss_cons (ds_set (i := 5) sc_check_guard.nd (de_call G_first_wrong_row (hr.mono (by decide)) (by rfl) T.g_first_wrong_row T.f_first_wrong_row.kp T.b_first_wrong_row .nil (fun _ _ => repL_nil.mpr rfl) hps (da_cons (de_var 0) (da_cons (de_var 1) (da_cons (de_var 3) (da_cons (de_var 4) (da_cons (de_tup da_nil) da_nil))))))) (dss_cons (ds_if (dt_cmp dop_notN (de_var 5) de_non (nomark _)) (dss_one (ds_raise (by rfl) htk T.ox_InvalidSite T.xi_InvalidSite T.ti_InvalidSite G_InvalidSite___init__ (hr.mono (by decide)) T.b_InvalidSite___init__ (by rfl) T.ge_InvalidSite ⟨by simp, by simp⟩ (da_cons de_str (da_cons (de_tup (da_cons (de_var 2) (da_cons (de_var 3) (da_cons (de_var 5) da_nil)))) da_nil)))) dss_nil) (dss_one (ds_if (dt_cmp dop_gt (de_callB dc_len (by rfl) T.z_len boot_len (da_cons (de_call G_rows_with_positions (hr.mono (by decide)) (by rfl) T.g_rows_with_positions T.f_rows_with_positions.kp T.b_rows_with_positions .nil (fun _ _ => repL_nil.mpr rfl) hps (da_cons (de_var 4) (da_cons (de_tup da_nil) da_nil))) da_nil)) (de_glob (by rfl) T.c_MOST_ROWS T.r_MOST_ROWS T.d_MOST_ROWS) (nomark _)) (dss_one (ds_raise (by rfl) htk T.ox_InvalidSite T.xi_InvalidSite T.ti_InvalidSite G_InvalidSite___init__ (hr.mono (by decide)) T.b_InvalidSite___init__ (by rfl) T.ge_InvalidSite ⟨by simp, by simp⟩ (da_cons de_str (da_cons (de_tup (da_cons (de_var 2) (da_cons (de_var 3) (da_cons (de_tup da_nil) da_nil)))) da_nil)))) dss_nil)))))
end
section
variable {P : Program} {w : World} {K : PySem.W.Frag} {mg : Str → Option Value} {base : Heap} {a : Nat → Addr} {fd : Nat → FuncData} {ca ka : Nat → Addr} {tk : Nat → Tok} (T : Txt K mg a fd ca ka tk)
include T in
theorem ok_names_of  : FnOk P w K mg base (L2.CX P w) 1 (a 36) (fd 36) ["pages"] (spD K ca m_names_of) := by
  refine fn_okD T.f_names_of sc_names_of fun cdv A outer s H E hr => ?_
  have hu := hr.units
  have hpo := passes_of (X := cxOf (L2.CX P w) P w K mg base ["pages", "pair"] "names_of" (defScope (topS 28)) (a 36) cdv A outer s H E) rfl
  have hps := passes_call (takes_of (X := cxOf (L2.CX P w) P w K mg base ["pages", "pair"] "names_of" (defScope (topS 28)) (a 36) cdv A outer s H E) rfl rfl rfl rfl) (fun _ _ _ _ h => h)
  have htk := takes_of (X := cxOf (L2.CX P w) P w K mg base ["pages", "pair"] "names_of" (defScope (topS 28)) (a 36) cdv A outer s H E) rfl rfl rfl rfl
  exact (dss_one (ds_ret (de_callTy dc_tuple (by rfl) T.z_tuple boot_tuple (da_cons (de_lc (own := [("pair", 1)]) (by rfl) sc_names_of.nd (di_seq (de_var 0)) (blkOk_by (N := ["pages", "pair"]) (sc := defScope (topS 28)) (own := [("pair", 1)]) (by decide +kernel)) (fun _ _ _ _ _ => (dgi_var (vs := [1]) (by decide) sc_names_of.nd)) (fun _ _ _ _ _ => dts_nil) (fun _ _ _ _ _ => (de_ix (de_var 1) de_int))) da_nil))))
end
section
variable {P : Program} {w : World} {K : PySem.W.Frag} {mg : Str → Option Value} {base : Heap} {a : Nat → Addr} {fd : Nat → FuncData} {ca ka : Nat → Addr} {tk : Nat → Tok} (T : Txt K mg a fd ca ka tk)
include T in
theorem ok_is_named_page  : FnOk P w K mg base (L2.CX P w) 1 (a 37) (fd 37) ["value"] (spD K ca m_is_named_page) := by
  refine fn_okD T.f_is_named_page sc_is_named_page fun cdv A outer s H E hr => ?_
  have hu := hr.units
  have hpo := passes_of (X := cxOf (L2.CX P w) P w K mg base ["value", "page"] "is_named_page" (defScope (topS 27)) (a 37) cdv A outer s H E) rfl
  have hps := passes_call (takes_of (X := cxOf (L2.CX P w) P w K mg base ["value", "page"] "is_named_page" (defScope (topS 27)) (a 37) cdv A outer s H E) rfl rfl rfl rfl) (fun _ _ _ _ h => h)
  have htk := takes_of (X := cxOf (L2.CX P w) P w K mg base ["value", "page"] "is_named_page" (defScope (topS 27)) (a 37) cdv A outer s H E) rfl rfl rfl rfl
  exact (dss_cons (ds_if (dw_or (dt_not (dt_val (de_isi (by rfl) T.z_isinstance boot_isi (by rfl) T.z_tuple boot_tuple (de_var 0)))) (dw_or1 (dt_cmp (dop_ne hu) (de_callB dc_len (by rfl) T.z_len boot_len (da_cons (de_var 0) da_nil)) de_int (nomark _)))).dt (dss_one (ds_ret de_bl)) dss_nil) (dss_cons (ds_set (i := 1) sc_is_named_page.nd (de_ix (de_var 0) de_int)) (dss_one (ds_ret (de_and (de_isi (by rfl) T.z_isinstance boot_isi (by rfl) T.z_tuple boot_tuple (de_var 1)) (de_and (de_cmp (dop_eq hu) (de_callB dc_len (by rfl) T.z_len boot_len (da_cons (de_var 1) da_nil)) de_int (nomark _)) (de_one (de_isi (by rfl) T.z_isinstance boot_isi (by rfl) T.z_bool boot_bool (de_ix (de_var 1) de_int)))))))))
end
section
variable {P : Program} {w : World} {K : PySem.W.Frag} {mg : Str → Option Value} {base : Heap} {a : Nat → Addr} {fd : Nat → FuncData} {ca ka : Nat → Addr} {tk : Nat → Tok} (T : Txt K mg a fd ca ka tk)
include T in
theorem ok_is_name  : FnOk P w K mg base (L2.CX P w) 1 (a 38) (fd 38) ["value"] (spD K ca m_is_name) := by
  refine fn_okD T.f_is_name sc_is_name fun cdv A outer s H E hr => ?_
  have hu := hr.units
  have hpo := passes_of (X := cxOf (L2.CX P w) P w K mg base ["value", "letter"] "is_name" (defScope (topS 22)) (a 38) cdv A outer s H E) rfl
  have hps := passes_call (takes_of (X := cxOf (L2.CX P w) P w K mg base ["value", "letter"] "is_name" (defScope (topS 22)) (a 38) cdv A outer s H E) rfl rfl rfl rfl) (fun _ _ _ _ h => h)
  have htk := takes_of (X := cxOf (L2.CX P w) P w K mg base ["value", "letter"] "is_name" (defScope (topS 22)) (a 38) cdv A outer s H E) rfl rfl rfl rfl
  exact (dss_cons (ds_if (dw_or (dt_not (dt_val (de_isi (by rfl) T.z_isinstance boot_isi (by rfl) T.z_str boot_str (de_var 0)))) (dw_or1 (dt_not (dt_chain dop_le dop_le de_int (de_callB dc_len (by rfl) T.z_len boot_len (da_cons (de_var 0) da_nil)) (de_glob (by rfl) T.c_LONGEST_NAME T.r_LONGEST_NAME T.d_LONGEST_NAME))))).dt (dss_one (ds_ret de_bl)) dss_nil) (dss_one (ds_ret (de_callB (dc_all (by rfl)) (by rfl) T.z_all boot_all (da_cons (de_lc (own := [("letter", 1)]) (by rfl) sc_is_name.nd (di_seq (de_var 0)) (blkOk_by (N := ["value", "letter"]) (sc := defScope (topS 22)) (own := [("letter", 1)]) (by decide +kernel)) (fun _ _ _ _ _ => (dgi_var (vs := [1]) (by decide) sc_is_name.nd)) (fun _ _ _ _ _ => dts_nil) (fun _ _ _ _ _ => (de_cmp dop_in (de_var 1) (de_glob (by rfl) T.c_LETTERS T.r_LETTERS T.d_LETTERS) rfl))) da_nil)))))
end
section
variable {P : Program} {w : World} {K : PySem.W.Frag} {mg : Str → Option Value} {base : Heap} {a : Nat → Addr} {fd : Nat → FuncData} {ca ka : Nat → Addr} {tk : Nat → Tok} (T : Txt K mg a fd ca ka tk)
include T in
theorem ok_are_different_names (G_is_name : FnOk P w K mg base (L2.CX P w) 1 (a 38) (fd 38) ["value"] (spD K ca m_is_name)) : FnOk P w K mg base (L2.CX P w) 2 (a 39) (fd 39) ["values"] (spD K ca m_are_different_names) := by
  refine fn_okD T.f_are_different_names sc_are_different_names fun cdv A outer s H E hr => ?_
  have hu := hr.units
  have hpo := passes_of (X := cxOf (L2.CX P w) P w K mg base ["values", "value"] "are_different_names" (defScope (topS 23)) (a 39) cdv A outer s H E) rfl
  have hps := passes_call (takes_of (X := cxOf (L2.CX P w) P w K mg base ["values", "value"] "are_different_names" (defScope (topS 23)) (a 39) cdv A outer s H E) rfl rfl rfl rfl) (fun _ _ _ _ h => h)
  have htk := takes_of (X := cxOf (L2.CX P w) P w K mg base ["values", "value"] "are_different_names" (defScope (topS 23)) (a 39) cdv A outer s H E) rfl rfl rfl rfl
  exact (dss_one (ds_ret (de_and (de_callB (dc_all (by rfl)) (by rfl) T.z_all boot_all (da_cons (de_lc (own := [("value", 1)]) (by rfl) sc_are_different_names.nd (di_seq (de_var 0)) (blkOk_by (N := ["values", "value"]) (sc := defScope (topS 23)) (own := [("value", 1)]) (by decide +kernel)) (fun _ _ _ _ _ => (dgi_var (vs := [1]) (by decide) sc_are_different_names.nd)) (fun _ _ _ _ _ => dts_nil) (fun _ _ _ _ _ => (de_call G_is_name (hr.mono (by decide)) (by rfl) T.g_is_name T.f_is_name.kp T.b_is_name .nil (fun _ _ => repL_nil.mpr rfl) pass_blk (da_cons (de_var 1) da_nil)))) da_nil)) (de_one (de_cmp (dop_eq hu) (de_lenSet (by rfl) (by rfl) T.z_len (by rfl) T.z_set (de_var 0)) (de_callB dc_len (by rfl) T.z_len boot_len (da_cons (de_var 0) da_nil)) (nomark _))))))
end
section
variable {P : Program} {w : World} {K : PySem.W.Frag} {mg : Str → Option Value} {base : Heap} {a : Nat → Addr} {fd : Nat → FuncData} {ca ka : Nat → Addr} {tk : Nat → Tok} (T : Txt K mg a fd ca ka tk)
include T in
theorem ok_are_pages (G_is_named_page : FnOk P w K mg base (L2.CX P w) 1 (a 37) (fd 37) ["value"] (spD K ca m_is_named_page)) (G_are_different_names : FnOk P w K mg base (L2.CX P w) 2 (a 39) (fd 39) ["values"] (spD K ca m_are_different_names)) (G_names_of : FnOk P w K mg base (L2.CX P w) 1 (a 36) (fd 36) ["pages"] (spD K ca m_names_of)) : FnOk P w K mg base (L2.CX P w) 3 (a 40) (fd 40) ["value"] (spD K ca m_are_pages) := by
  refine fn_okD T.f_are_pages sc_are_pages fun cdv A outer s H E hr => ?_
  have hu := hr.units
  have hpo := passes_of (X := cxOf (L2.CX P w) P w K mg base ["value", "pair"] "are_pages" (defScope (topS 26)) (a 40) cdv A outer s H E) rfl
  have hps := passes_call (takes_of (X := cxOf (L2.CX P w) P w K mg base ["value", "pair"] "are_pages" (defScope (topS 26)) (a 40) cdv A outer s H E) rfl rfl rfl rfl) (fun _ _ _ _ h => h)
  have htk := takes_of (X := cxOf (L2.CX P w) P w K mg base ["value", "pair"] "are_pages" (defScope (topS 26)) (a 40) cdv A outer s H E) rfl rfl rfl rfl
  exact (dss_cons (ds_if (dw_or (dt_not (dt_val (de_isi (by rfl) T.z_isinstance boot_isi (by rfl) T.z_tuple boot_tuple (de_var 0)))) (dw_or1 (dt_not (dt_chain dop_le dop_le (de_glob (by rfl) T.c_FEWEST_PAGES T.r_FEWEST_PAGES T.d_FEWEST_PAGES) (de_callB dc_len (by rfl) T.z_len boot_len (da_cons (de_var 0) da_nil)) (de_glob (by rfl) T.c_MOST_PAGES T.r_MOST_PAGES T.d_MOST_PAGES))))).dt (dss_one (ds_ret de_bl)) dss_nil) (dss_one (ds_ret (de_and (de_callB (dc_all (by rfl)) (by rfl) T.z_all boot_all (da_cons (de_lc (own := [("pair", 1)]) (by rfl) sc_are_pages.nd (di_seq (de_var 0)) (blkOk_by (N := ["value", "pair"]) (sc := defScope (topS 26)) (own := [("pair", 1)]) (by decide +kernel)) (fun _ _ _ _ _ => (dgi_var (vs := [1]) (by decide) sc_are_pages.nd)) (fun _ _ _ _ _ => dts_nil) (fun _ _ _ _ _ => (de_call G_is_named_page (hr.mono (by decide)) (by rfl) T.g_is_named_page T.f_is_named_page.kp T.b_is_named_page .nil (fun _ _ => repL_nil.mpr rfl) pass_blk (da_cons (de_var 1) da_nil)))) da_nil)) (de_one (de_call G_are_different_names (hr.mono (by decide)) (by rfl) T.g_are_different_names T.f_are_different_names.kp T.b_are_different_names .nil (fun _ _ => repL_nil.mpr rfl) hps (da_cons (de_call G_names_of (hr.mono (by decide)) (by rfl) T.g_names_of T.f_names_of.kp T.b_names_of .nil (fun _ _ => repL_nil.mpr rfl) hps (da_cons (de_var 0) da_nil)) da_nil)))))))
end
section
variable {P : Program} {w : World} {K : PySem.W.Frag} {mg : Str → Option Value} {base : Heap} {a : Nat → Addr} {fd : Nat → FuncData} {ca ka : Nat → Addr} {tk : Nat → Tok} (T : Txt K mg a fd ca ka tk)
include T in
theorem ok_are_bits (G_are_different_names : FnOk P w K mg base (L2.CX P w) 2 (a 39) (fd 39) ["values"] (spD K ca m_are_different_names)) : FnOk P w K mg base (L2.CX P w) 3 (a 41) (fd 41) ["value"] (spD K ca m_are_bits) := by
  refine fn_okD T.f_are_bits sc_are_bits fun cdv A outer s H E hr => ?_
  have hu := hr.units
  have hpo := passes_of (X := cxOf (L2.CX P w) P w K mg base ["value"] "are_bits" (defScope (topS 25)) (a 41) cdv A outer s H E) rfl
  have hps := passes_call (takes_of (X := cxOf (L2.CX P w) P w K mg base ["value"] "are_bits" (defScope (topS 25)) (a 41) cdv A outer s H E) rfl rfl rfl rfl) (fun _ _ _ _ h => h)
  have htk := takes_of (X := cxOf (L2.CX P w) P w K mg base ["value"] "are_bits" (defScope (topS 25)) (a 41) cdv A outer s H E) rfl rfl rfl rfl
  exact (dss_one (ds_ret (de_and (de_isi (by rfl) T.z_isinstance boot_isi (by rfl) T.z_tuple boot_tuple (de_var 0)) (de_and (de_cmp dop_le (de_callB dc_len (by rfl) T.z_len boot_len (da_cons (de_var 0) da_nil)) (de_glob (by rfl) T.c_MOST_BITS T.r_MOST_BITS T.d_MOST_BITS) (nomark _)) (de_one (de_call G_are_different_names (hr.mono (by decide)) (by rfl) T.g_are_different_names T.f_are_different_names.kp T.b_are_different_names .nil (fun _ _ => repL_nil.mpr rfl) hps (da_cons (de_var 0) da_nil)))))))
end
section
variable {P : Program} {w : World} {K : PySem.W.Frag} {mg : Str → Option Value} {base : Heap} {a : Nat → Addr} {fd : Nat → FuncData} {ca ka : Nat → Addr} {tk : Nat → Tok} (T : Txt K mg a fd ca ka tk)
include T in
theorem ok_check_site (G_is_integer : FnOk P w K mg base (L2.CX P w) 1 (a 20) (fd 20) ["value"] (spD K ca m_is_integer)) (G_InvalidSite___init__ : FnOk P w K mg base (L2.CX P w) 1 (a 31) (fd 31) ["self", "part", "path"] (spX (ca 1) ["part", "path"])) (G_check_guard : FnOk P w K mg base (L2.CX P w) 9 (a 35) (fd 35) ["bits", "names", "page", "side", "rows"] (spD K ca m_check_guard)) (G_names_of : FnOk P w K mg base (L2.CX P w) 1 (a 36) (fd 36) ["pages"] (spD K ca m_names_of)) (G_are_pages : FnOk P w K mg base (L2.CX P w) 3 (a 40) (fd 40) ["value"] (spD K ca m_are_pages)) (G_are_bits : FnOk P w K mg base (L2.CX P w) 3 (a 41) (fd 41) ["value"] (spD K ca m_are_bits)) : FnOk P w K mg base (L2.CX P w) 10 (a 42) (fd 42) ["bits", "pages", "start", "keep"] (spD K ca m_check_site) := by
  refine fn_okD T.f_check_site sc_check_site fun cdv A outer s H E hr => ?_
  have hu := hr.units
  have hpo := passes_of (X := cxOf (L2.CX P w) P w K mg base ["bits", "pages", "start", "keep", "names", "name", "parts", "at", "side"] "check_site" (defScope (topS 24)) (a 42) cdv A outer s H E) rfl
  have hps := passes_call (takes_of (X := cxOf (L2.CX P w) P w K mg base ["bits", "pages", "start", "keep", "names", "name", "parts", "at", "side"] "check_site" (defScope (topS 24)) (a 42) cdv A outer s H E) rfl rfl rfl rfl) (fun _ _ _ _ h => h)
  have htk := takes_of (X := cxOf (L2.CX P w) P w K mg base ["bits", "pages", "start", "keep", "names", "name", "parts", "at", "side"] "check_site" (defScope (topS 24)) (a 42) cdv A outer s H E) rfl rfl rfl rfl
  exact (dss_cons (ds_if (dt_not (dt_val (de_call G_are_bits (hr.mono (by decide)) (by rfl) T.g_are_bits T.f_are_bits.kp T.b_are_bits .nil (fun _ _ => repL_nil.mpr rfl) hps (da_cons (de_var 0) da_nil)))) (dss_one (ds_raise (by rfl) htk T.ox_InvalidSite T.xi_InvalidSite T.ti_InvalidSite G_InvalidSite___init__ (hr.mono (by decide)) T.b_InvalidSite___init__ (by rfl) T.ge_InvalidSite ⟨by simp, by simp⟩ (da_cons de_str (da_cons (de_tup da_nil) da_nil)))) dss_nil) (dss_cons (ds_if (dt_not (dt_val (de_call G_are_pages (hr.mono (by decide)) (by rfl) T.g_are_pages T.f_are_pages.kp T.b_are_pages .nil (fun _ _ => repL_nil.mpr rfl) hps (da_cons (de_var 1) da_nil)))) (dss_one (ds_raise (by rfl) htk T.ox_InvalidSite T.xi_InvalidSite T.ti_InvalidSite G_InvalidSite___init__ (hr.mono (by decide)) T.b_InvalidSite___init__ (by rfl) T.ge_InvalidSite ⟨by simp, by simp⟩ (da_cons de_str (da_cons (de_tup da_nil) da_nil)))) dss_nil) (dss_cons (ds_set (i := 4) sc_check_site.nd (de_call G_names_of (hr.mono (by decide)) (by rfl) T.g_names_of T.f_names_of.kp T.b_names_of .nil (fun _ _ => repL_nil.mpr rfl) hps (da_cons (de_var 1) da_nil))) (dss_cons (ds_for hpo (by rfl) (di_seq (de_var 1)) (dgi_pair (vs := [5, 6]) (by decide) (by decide) (by rfl) sc_check_site.nd) (dss_one (ds_for hpo (by rfl) (di_enumT (by rfl) T.z_enumerate (de_glob (by rfl) T.c_SIDES T.r_SIDES T.d_SIDES)) (dgi_pair (vs := [7, 8]) (by decide) (by decide) (by rfl) sc_check_site.nd) (dss_one (ds_expr (de_call G_check_guard (hr.mono (by decide)) (by rfl) T.g_check_guard T.f_check_guard.kp T.b_check_guard .nil (fun _ _ => repL_nil.mpr rfl) hps (da_cons (de_var 0) (da_cons (de_var 4) (da_cons (de_var 5) (da_cons (de_var 8) (da_cons (de_ix (de_var 6) (de_var 7)) da_nil))))))))))) (dss_cons (ds_if (dt_cmp dop_notIn (de_var 2) (de_var 4) rfl) (dss_one (ds_raise (by rfl) htk T.ox_InvalidSite T.xi_InvalidSite T.ti_InvalidSite G_InvalidSite___init__ (hr.mono (by decide)) T.b_InvalidSite___init__ (by rfl) T.ge_InvalidSite ⟨by simp, by simp⟩ (da_cons de_str (da_cons (de_tup da_nil) da_nil)))) dss_nil) (dss_one (ds_if (dw_or (dt_not (dt_val (de_call G_is_integer (hr.mono (by decide)) (by rfl) T.g_is_integer T.f_is_integer.kp T.b_is_integer .nil (fun _ _ => repL_nil.mpr rfl) hps (da_cons (de_var 3) da_nil)))) (dw_or1 (dt_not (dt_chain dop_le dop_le (de_glob (by rfl) T.c_LEAST_KEEP T.r_LEAST_KEEP T.d_LEAST_KEEP) (de_var 3) (de_glob (by rfl) T.c_GREATEST_KEEP T.r_GREATEST_KEEP T.d_GREATEST_KEEP))))).dt (dss_one (ds_raise (by rfl) htk T.ox_InvalidSite T.xi_InvalidSite T.ti_InvalidSite G_InvalidSite___init__ (hr.mono (by decide)) T.b_InvalidSite___init__ (by rfl) T.ge_InvalidSite ⟨by simp, by simp⟩ (da_cons de_str (da_cons (de_tup da_nil) da_nil)))) dss_nil)))))))
end
section
variable {P : Program} {w : World} {K : PySem.W.Frag} {mg : Str → Option Value} {base : Heap} {a : Nat → Addr} {fd : Nat → FuncData} {ca ka : Nat → Addr} {tk : Nat → Tok} (T : Txt K mg a fd ca ka tk)
include T in
theorem ok_Site___init__ (G_check_site : FnOk P w K mg base (L2.CX P w) 10 (a 42) (fd 42) ["bits", "pages", "start", "keep"] (spD K ca m_check_site)) : FnOk P w K mg base (L2.CX P w) 11 (a 43) (fd 43) ["self", "bits", "pages", "start", "keep"] (spD K ca m_Site___init__) := by
  refine fn_okD T.f_Site___init__ sc_Site___init__ fun cdv A outer s H E hr => ?_
  have hu := hr.units
  have hpo := passes_of (X := cxOf (L2.CX P w) P w K mg base ["self", "bits", "pages", "start", "keep"] "Site.__init__" (defScope (inClass (topS 20) 0)) (a 43) cdv A outer s H E) rfl
  have hps := passes_call (takes_of (X := cxOf (L2.CX P w) P w K mg base ["self", "bits", "pages", "start", "keep"] "Site.__init__" (defScope (inClass (topS 20) 0)) (a 43) cdv A outer s H E) rfl rfl rfl rfl) (fun _ _ _ _ h => h)
  have htk := takes_of (X := cxOf (L2.CX P w) P w K mg base ["self", "bits", "pages", "start", "keep"] "Site.__init__" (defScope (inClass (topS 20) 0)) (a 43) cdv A outer s H E) rfl rfl rfl rfl
  exact (dss_cons (ds_expr (de_call G_check_site (hr.mono (by decide)) (by rfl) T.g_check_site T.f_check_site.kp T.b_check_site .nil (fun _ _ => repL_nil.mpr rfl) hps (da_cons (de_var 1) (da_cons (de_var 2) (da_cons (de_var 3) (da_cons (de_var 4) da_nil)))))) (dss_cons (ds_fld T.cl_0 T.na_0_bits (de_var 0) (de_var 1)) (dss_cons (ds_fld T.cl_0 T.na_0_pages (de_var 0) (de_var 2)) (dss_cons (ds_fld T.cl_0 T.na_0_start (de_var 0) (de_var 3)) (dss_one (ds_fld T.cl_0 T.na_0_keep (de_var 0) (de_var 4)))))))
end
section
variable {P : Program} {w : World} {K : PySem.W.Frag} {mg : Str → Option Value} {base : Heap} {a : Nat → Addr} {fd : Nat → FuncData} {ca ka : Nat → Addr} {tk : Nat → Tok} (T : Txt K mg a fd ca ka tk)
include T in
theorem ok__law_word (G__law_draw : FnOk P w K mg base (L2.CX P w) 2 (a 28) (fd 28) ["_law_box_here", "_law_many"] (spD K ca m__law_draw)) : FnOk P w K mg base (L2.CX P w) 3 (a 44) (fd 44) ["_law_box_here", "_law_bits", "_law_side", "_law_depth"] (spD K ca m__law_word) := by
  refine fn_okD T.f__law_word sc__law_word fun cdv A outer s H E hr => ?_
  have hu := hr.units
  have hpo := passes_of (X := cxOf (L2.CX P w) P w K mg base ["_law_box_here", "_law_bits", "_law_side", "_law_depth", "_law_word_here"] "_law_word" (defScope (topS 60)) (a 44) cdv A outer s H E) rfl
  have hps := passes_call (takes_of (X := cxOf (L2.CX P w) P w K mg base ["_law_box_here", "_law_bits", "_law_side", "_law_depth", "_law_word_here"] "_law_word" (defScope (topS 60)) (a 44) cdv A outer s H E) rfl rfl rfl rfl) (fun _ _ _ _ h => h)
  have htk := takes_of (X := cxOf (L2.CX P w) P w K mg base ["_law_box_here", "_law_bits", "_law_side", "_law_depth", "_law_word_here"] "_law_word" (defScope (topS 60)) (a 44) cdv A outer s H E) rfl rfl rfl rfl
  exact (dss_cons (ds_set (i := 4) sc__law_word.nd (de_ix (de_lst (da_cons de_str (da_cons de_str (da_cons de_str (da_cons de_str (da_cons de_str (da_cons de_str (da_cons de_str (da_cons de_str da_nil))))))))) (de_call G__law_draw (hr.mono (by decide)) (by rfl) T.g__law_draw T.f__law_draw.kp T.b__law_draw .nil (fun _ _ => repL_nil.mpr rfl) hps (da_cons (de_var 0) (da_cons de_int da_nil))))) (dss_cons (ds_if (dw_and (dt_cmp (dop_eq hu) (de_var 4) de_str (nomark _)) (dw_and1 (dt_cmp (dop_eq hu) (de_var 2) de_str (nomark _)))).dt (dss_one (ds_set (i := 4) sc__law_word.nd de_str)) dss_nil) (dss_cons (ds_if (dw_and (dt_cmp dop_in (de_var 4) (de_tup (da_cons de_str (da_cons de_str da_nil))) rfl) (dw_and1 (dt_cmp (dop_eq hu) (de_callB dc_len (by rfl) T.z_len boot_len (da_cons (de_var 1) da_nil)) de_int (nomark _)))).dt (dss_one (ds_set (i := 4) sc__law_word.nd de_str)) dss_nil) (dss_cons (ds_if (dw_and (dt_cmp dop_in (de_var 4) (de_tup (da_cons de_str (da_cons de_str da_nil))) rfl) (dw_and1 (dt_cmp (dop_eq hu) (de_var 3) de_int (nomark _)))).dt (dss_one (ds_set (i := 4) sc__law_word.nd de_str)) dss_nil) (dss_one (ds_ret (de_var 4)))))))
end
section
variable {P : Program} {w : World} {K : PySem.W.Frag} {mg : Str → Option Value} {base : Heap} {a : Nat → Addr} {fd : Nat → FuncData} {ca ka : Nat → Addr} {tk : Nat → Tok} (T : Txt K mg a fd ca ka tk)
include T in
theorem ok__law_row (G__law_draw : FnOk P w K mg base (L2.CX P w) 2 (a 28) (fd 28) ["_law_box_here", "_law_many"] (spD K ca m__law_draw)) (G__law_word : FnOk P w K mg base (L2.CX P w) 3 (a 44) (fd 44) ["_law_box_here", "_law_bits", "_law_side", "_law_depth"] (spD K ca m__law_word)) : ∀ n : Nat, FnOk P w K mg base (L2.CX P w) (3 + n) (a 45) (fd 45) ["_law_box_here", "_law_bits", "_law_names_here", "_law_side", "_law_depth", "_law_room"] (spD K ca (m__law_row n)) ∧ FnOk P w K mg base (L2.CX P w) (3 + n) (a 46) (fd 46) ["_law_box_here", "_law_bits", "_law_names_here", "_law_side", "_law_depth", "_law_room"] (spD K ca (m__law_rows n)) := by
  intro n
  induction n with
  | zero => exact ⟨(fn_none (by intro ds st; rfl)), (fn_none (by intro ds st; rfl))⟩
  | succ n ih =>
    obtain ⟨G__law_row, G__law_rows⟩ := ih
    refine ⟨?_, ?_⟩
    · refine fn_okD (k := 3 + n) T.f__law_row sc__law_row fun cdv A outer s H E hr => ?_
      have hu := hr.units
      have hpo := passes_of (X := cxOf (L2.CX P w) P w K mg base ["_law_box_here", "_law_bits", "_law_names_here", "_law_side", "_law_depth", "_law_room", "_law_word_here", "_law_head", "_law_first", "_law_second"] "_law_row" (defScope (topS 62)) (a 45) cdv A outer s H E) rfl
      have hps := passes_call (takes_of (X := cxOf (L2.CX P w) P w K mg base ["_law_box_here", "_law_bits", "_law_names_here", "_law_side", "_law_depth", "_law_room", "_law_word_here", "_law_head", "_law_first", "_law_second"] "_law_row" (defScope (topS 62)) (a 45) cdv A outer s H E) rfl rfl rfl rfl) (fun _ _ _ _ h => h)
      have htk := takes_of (X := cxOf (L2.CX P w) P w K mg base ["_law_box_here", "_law_bits", "_law_names_here", "_law_side", "_law_depth", "_law_room", "_law_word_here", "_law_head", "_law_first", "_law_second"] "_law_row" (defScope (topS 62)) (a 45) cdv A outer s H E) rfl rfl rfl rfl
      exact (dss_cons (ds_set (i := 6) sc__law_row.nd (de_call G__law_word (hr.mono (by omega)) (by rfl) T.g__law_word T.f__law_word.kp T.b__law_word .nil (fun _ _ => repL_nil.mpr rfl) hps (da_cons (de_var 0) (da_cons (de_var 1) (da_cons (de_var 3) (da_cons (de_var 4) da_nil)))))) (dss_cons (ds_if (dt_cmp (dop_eq hu) (de_var 6) de_str (nomark _)) (dss_one (ds_ret (de_tup (da_cons de_str da_nil)))) dss_nil) (dss_cons (ds_if (dt_cmp (dop_eq hu) (de_var 6) de_str (nomark _)) (dss_one (ds_ret (de_tup (da_cons de_str (da_cons (de_ix (de_var 2) (de_call G__law_draw (hr.mono (by omega)) (by rfl) T.g__law_draw T.f__law_draw.kp T.b__law_draw .nil (fun _ _ => repL_nil.mpr rfl) hps (da_cons (de_var 0) (da_cons (de_callB dc_len (by rfl) T.z_len boot_len (da_cons (de_var 2) da_nil)) da_nil)))) da_nil))))) dss_nil) (dss_cons (ds_if (dt_cmp (dop_eq hu) (de_var 6) de_str (nomark _)) (dss_one (ds_ret (de_tup (da_cons de_str (da_cons (de_ix (de_var 1) (de_call G__law_draw (hr.mono (by omega)) (by rfl) T.g__law_draw T.f__law_draw.kp T.b__law_draw .nil (fun _ _ => repL_nil.mpr rfl) hps (da_cons (de_var 0) (da_cons (de_callB dc_len (by rfl) T.z_len boot_len (da_cons (de_var 1) da_nil)) da_nil)))) (da_cons (de_cmp (dop_eq hu) (de_call G__law_draw (hr.mono (by omega)) (by rfl) T.g__law_draw T.f__law_draw.kp T.b__law_draw .nil (fun _ _ => repL_nil.mpr rfl) hps (da_cons (de_var 0) (da_cons de_int da_nil))) de_int (nomark _)) da_nil)))))) dss_nil) (dss_cons (ds_set (i := 7) sc__law_row.nd (de_tup (da_cons de_str da_nil))) (dss_cons (ds_if (dt_cmp (dop_eq hu) (de_var 6) de_str (nomark _)) (dss_one (ds_set (i := 7) sc__law_row.nd (de_tup (da_cons de_str (da_cons (de_ix (de_var 1) (de_call G__law_draw (hr.mono (by omega)) (by rfl) T.g__law_draw T.f__law_draw.kp T.b__law_draw .nil (fun _ _ => repL_nil.mpr rfl) hps (da_cons (de_var 0) (da_cons (de_callB dc_len (by rfl) T.z_len boot_len (da_cons (de_var 1) da_nil)) da_nil)))) da_nil))))) dss_nil) (dss_cons (ds_set (i := 8) sc__law_row.nd (de_call G__law_rows (hr.mono (by omega)) (by rfl) T.g__law_rows T.f__law_rows.kp T.b__law_rows .nil (fun _ _ => repL_nil.mpr rfl) hps (da_cons (de_var 0) (da_cons (de_var 1) (da_cons (de_var 2) (da_cons (de_var 3) (da_cons (de_op dop_add (de_var 4) de_int) (da_cons (de_var 5) da_nil)))))))) (dss_cons (ds_set (i := 9) sc__law_row.nd (de_call G__law_rows (hr.mono (by omega)) (by rfl) T.g__law_rows T.f__law_rows.kp T.b__law_rows .nil (fun _ _ => repL_nil.mpr rfl) hps (da_cons (de_var 0) (da_cons (de_var 1) (da_cons (de_var 2) (da_cons (de_var 3) (da_cons (de_op dop_add (de_var 4) de_int) (da_cons (de_var 5) da_nil)))))))) (dss_one (ds_ret (de_op dop_add (de_var 7) (de_tup (da_cons (de_var 8) (da_cons (de_var 9) da_nil))))))))))))))
    · refine fn_okD (k := 3 + n) T.f__law_rows sc__law_rows fun cdv A outer s H E hr => ?_
      have hu := hr.units
      have hpo := passes_of (X := cxOf (L2.CX P w) P w K mg base ["_law_box_here", "_law_bits", "_law_names_here", "_law_side", "_law_depth", "_law_room", "_law_many", "_law_rows_here", "_law_k"] "_law_rows" (defScope (topS 61)) (a 46) cdv A outer s H E) rfl
      have hps := passes_call (takes_of (X := cxOf (L2.CX P w) P w K mg base ["_law_box_here", "_law_bits", "_law_names_here", "_law_side", "_law_depth", "_law_room", "_law_many", "_law_rows_here", "_law_k"] "_law_rows" (defScope (topS 61)) (a 46) cdv A outer s H E) rfl rfl rfl rfl) (fun _ _ _ _ h => h)
      have htk := takes_of (X := cxOf (L2.CX P w) P w K mg base ["_law_box_here", "_law_bits", "_law_names_here", "_law_side", "_law_depth", "_law_room", "_law_many", "_law_rows_here", "_law_k"] "_law_rows" (defScope (topS 61)) (a 46) cdv A outer s H E) rfl rfl rfl rfl
      exact (dss_cons (ds_set (i := 6) sc__law_rows.nd (de_call G__law_draw (hr.mono (by omega)) (by rfl) T.g__law_draw T.f__law_draw.kp T.b__law_draw .nil (fun _ _ => repL_nil.mpr rfl) hps (da_cons (de_var 0) (da_cons de_int da_nil)))) (dss_cons (ds_if (dt_cmp dop_gt (de_var 6) de_int (nomark _)) (dss_one (ds_set (i := 6) sc__law_rows.nd (de_op dop_sub (de_var 6) de_int))) dss_nil) (dss_cons (ds_set (i := 7) sc__law_rows.nd (de_lst da_nil)) (dss_cons (ds_for hpo (by rfl) (di_range (by rfl) T.z_range (de_var 6)) (dgi_var (vs := [8]) (by decide) sc__law_rows.nd) (dss_one (ds_if (dt_cmp dop_gt (de_ix (de_var 5) de_int) de_int (nomark _)) (dss_cons (ds_asg (de_op dop_sub (de_ix (de_var 5) de_int) de_int) (dg_sub (de_var 5) de_int)) (dss_one (ds_expr (de_mtL PySem.F.plainAttrs_list PySem.F.slot_list_append PySem.F.type_list_append dm_append (de_var 7) (da_cons (de_call G__law_row (hr.mono (by omega)) (by rfl) T.g__law_row T.f__law_row.kp T.b__law_row .nil (fun _ _ => repL_nil.mpr rfl) hps (da_cons (de_var 0) (da_cons (de_var 1) (da_cons (de_var 2) (da_cons (de_var 3) (da_cons (de_var 4) (da_cons (de_var 5) da_nil))))))) da_nil))))) dss_nil))) (dss_one (ds_ret (de_callTy dc_tuple (by rfl) T.z_tuple boot_tuple (da_cons (de_var 7) da_nil))))))))
end
section
variable {P : Program} {w : World} {K : PySem.W.Frag} {mg : Str → Option Value} {base : Heap} {a : Nat → Addr} {fd : Nat → FuncData} {ca ka : Nat → Addr} {tk : Nat → Tok} (T : Txt K mg a fd ca ka tk)
include T in
theorem ok__law_names (G__law_draw : FnOk P w K mg base (L2.CX P w) 2 (a 28) (fd 28) ["_law_box_here", "_law_many"] (spD K ca m__law_draw)) : FnOk P w K mg base (L2.CX P w) 3 (a 47) (fd 47) ["_law_box_here", "_law_many"] (spD K ca m__law_names) := by
  refine fn_okD T.f__law_names sc__law_names fun cdv A outer s H E hr => ?_
  have hu := hr.units
  have hpo := passes_of (X := cxOf (L2.CX P w) P w K mg base ["_law_box_here", "_law_many", "_law_names_here", "_law_k", "_law_word_here", "_law_at", "_law_free", "_law_sign"] "_law_names" (defScope (topS 59)) (a 47) cdv A outer s H E) rfl
  have hps := passes_call (takes_of (X := cxOf (L2.CX P w) P w K mg base ["_law_box_here", "_law_many", "_law_names_here", "_law_k", "_law_word_here", "_law_at", "_law_free", "_law_sign"] "_law_names" (defScope (topS 59)) (a 47) cdv A outer s H E) rfl rfl rfl rfl) (fun _ _ _ _ h => h)
  have htk := takes_of (X := cxOf (L2.CX P w) P w K mg base ["_law_box_here", "_law_many", "_law_names_here", "_law_k", "_law_word_here", "_law_at", "_law_free", "_law_sign"] "_law_names" (defScope (topS 59)) (a 47) cdv A outer s H E) rfl rfl rfl rfl
  exact (dss_cons (ds_set (i := 2) sc__law_names.nd (de_lst da_nil)) (dss_cons (ds_for hpo (by rfl) (di_range (by rfl) T.z_range (de_var 1)) (dgi_var (vs := [3]) (by decide) sc__law_names.nd) (dss_cons (ds_set (i := 4) sc__law_names.nd de_str) (dss_cons (ds_for hpo (by rfl) (di_range (by rfl) T.z_range (de_op dop_add de_int (de_call G__law_draw (hr.mono (by decide)) (by rfl) T.g__law_draw T.f__law_draw.kp T.b__law_draw .nil (fun _ _ => repL_nil.mpr rfl) hps (da_cons (de_var 0) (da_cons de_int da_nil))))) (dgi_var (vs := [5]) (by decide) sc__law_names.nd) (dss_one (ds_set (i := 4) sc__law_names.nd (de_op dop_add (de_var 4) (de_ix de_str (de_call G__law_draw (hr.mono (by decide)) (by rfl) T.g__law_draw T.f__law_draw.kp T.b__law_draw .nil (fun _ _ => repL_nil.mpr rfl) hps (da_cons (de_var 0) (da_cons de_int da_nil)))))))) (dss_cons (ds_if (dt_cmp dop_in (de_var 4) (de_var 2) rfl) (dss_cons (ds_setLc (i := 6) (own := [("_law_sign", 7)]) (by rfl) sc__law_names.nd (di_str de_str) (blkOk_by (N := ["_law_box_here", "_law_many", "_law_names_here", "_law_k", "_law_word_here", "_law_at", "_law_free", "_law_sign"]) (sc := defScope (topS 59)) (own := [("_law_sign", 7)]) (by decide +kernel)) (fun _ _ _ _ _ => (dgi_var (vs := [7]) (by decide) sc__law_names.nd)) (fun _ _ _ _ _ => (dts_one (dt_cmp dop_notIn (de_op dop_add (de_slice (de_var 4) do_none (do_some de_int)) (de_var 7)) (de_var 2) rfl))) (fun _ _ _ _ _ => (de_op dop_add (de_slice (de_var 4) do_none (do_some de_int)) (de_var 7)))) (dss_one (ds_set (i := 4) sc__law_names.nd (de_ix (de_var 6) de_int)))) dss_nil) (dss_one (ds_expr (de_mtL PySem.F.plainAttrs_list PySem.F.slot_list_append PySem.F.type_list_append dm_append (de_var 2) (da_cons (de_var 4) da_nil)))))))) (dss_one (ds_ret (de_var 2)))))
end
section
variable {P : Program} {w : World} {K : PySem.W.Frag} {mg : Str → Option Value} {base : Heap} {a : Nat → Addr} {fd : Nat → FuncData} {ca ka : Nat → Addr} {tk : Nat → Tok} (T : Txt K mg a fd ca ka tk)
include T in
theorem ok__law_parts (G__law_draw : FnOk P w K mg base (L2.CX P w) 2 (a 28) (fd 28) ["_law_box_here", "_law_many"] (spD K ca m__law_draw)) (G__law_rows : FnOk P w K mg base (L2.CX P w) 11 (a 46) (fd 46) ["_law_box_here", "_law_bits", "_law_names_here", "_law_side", "_law_depth", "_law_room"] (spD K ca (m__law_rows 8))) (G__law_names : FnOk P w K mg base (L2.CX P w) 3 (a 47) (fd 47) ["_law_box_here", "_law_many"] (spD K ca m__law_names)) : FnOk P w K mg base (L2.CX P w) 22 (a 48) (fd 48) ["_law_box_here"] (spD K ca m__law_parts) := by
  refine fn_okD T.f__law_parts sc__law_parts fun cdv A outer s H E hr => ?_
  have hu := hr.units
  have hpo := passes_of (X := cxOf (L2.CX P w) P w K mg base ["_law_box_here", "_law_size", "_law_bits", "_law_names_here", "_law_pages", "_law_name", "_law_first", "_law_heavy", "_law_rooms", "_law_enter", "_law_leave"] "_law_parts" (defScope (topS 63)) (a 48) cdv A outer s H E) rfl
  have hps := passes_call (takes_of (X := cxOf (L2.CX P w) P w K mg base ["_law_box_here", "_law_size", "_law_bits", "_law_names_here", "_law_pages", "_law_name", "_law_first", "_law_heavy", "_law_rooms", "_law_enter", "_law_leave"] "_law_parts" (defScope (topS 63)) (a 48) cdv A outer s H E) rfl rfl rfl rfl) (fun _ _ _ _ h => h)
  have htk := takes_of (X := cxOf (L2.CX P w) P w K mg base ["_law_box_here", "_law_size", "_law_bits", "_law_names_here", "_law_pages", "_law_name", "_law_first", "_law_heavy", "_law_rooms", "_law_enter", "_law_leave"] "_law_parts" (defScope (topS 63)) (a 48) cdv A outer s H E) rfl rfl rfl rfl
  exact (dss_cons (ds_set (i := 1) sc__law_parts.nd (de_op dop_add de_int (de_call G__law_draw (hr.mono (by decide)) (by rfl) T.g__law_draw T.f__law_draw.kp T.b__law_draw .nil (fun _ _ => repL_nil.mpr rfl) hps (da_cons (de_var 0) (da_cons de_int da_nil))))) (dss_cons (ds_set (i := 2) sc__law_parts.nd (de_callTy dc_tuple (by rfl) T.z_tuple boot_tuple (da_cons (de_call G__law_names (hr.mono (by decide)) (by rfl) T.g__law_names T.f__law_names.kp T.b__law_names .nil (fun _ _ => repL_nil.mpr rfl) hps (da_cons (de_var 0) (da_cons (de_call G__law_draw (hr.mono (by decide)) (by rfl) T.g__law_draw T.f__law_draw.kp T.b__law_draw .nil (fun _ _ => repL_nil.mpr rfl) hps (da_cons (de_var 0) (da_cons de_int da_nil))) da_nil))) da_nil))) (dss_cons (ds_set (i := 3) sc__law_parts.nd (de_call G__law_names (hr.mono (by decide)) (by rfl) T.g__law_names T.f__law_names.kp T.b__law_names .nil (fun _ _ => repL_nil.mpr rfl) hps (da_cons (de_var 0) (da_cons (de_op dop_add de_int (de_call G__law_draw (hr.mono (by decide)) (by rfl) T.g__law_draw T.f__law_draw.kp T.b__law_draw .nil (fun _ _ => repL_nil.mpr rfl) hps (da_cons (de_var 0) (da_cons de_int da_nil)))) da_nil)))) (dss_cons (ds_if (dw_and (dt_cmp (dop_eq hu) (de_call G__law_draw (hr.mono (by decide)) (by rfl) T.g__law_draw T.f__law_draw.kp T.b__law_draw .nil (fun _ _ => repL_nil.mpr rfl) hps (da_cons (de_var 0) (da_cons de_int da_nil))) de_int (nomark _)) (dw_and (dt_cmp dop_gt (de_callB dc_len (by rfl) T.z_len boot_len (da_cons (de_var 2) da_nil)) de_int (nomark _)) (dw_and1 (dt_cmp dop_notIn (de_ix (de_var 2) de_int) (de_var 3) rfl)))).dt (dss_one (ds_asg (de_ix (de_var 2) de_int) (dg_sub (de_var 3) de_int))) dss_nil) (dss_cons (ds_set (i := 4) sc__law_parts.nd (de_lst da_nil)) (dss_cons (ds_for hpo (by rfl) (di_seq (de_var 3)) (dgi_var (vs := [5]) (by decide) sc__law_parts.nd) (dss_cons (ds_set (i := 7) sc__law_parts.nd (de_cmp (dop_eq hu) (de_call G__law_draw (hr.mono (by decide)) (by rfl) T.g__law_draw T.f__law_draw.kp T.b__law_draw .nil (fun _ _ => repL_nil.mpr rfl) hps (da_cons (de_var 0) (da_cons de_int da_nil))) de_int (nomark _))) (dss_cons (ds_set (i := 8) sc__law_parts.nd (de_lst (da_cons de_int (da_cons de_int (da_cons de_int (da_cons de_int (da_cons de_int (da_cons de_int (da_cons de_int (da_cons de_int da_nil)))))))))) (dss_cons (ds_set (i := 9) sc__law_parts.nd (de_call G__law_rows (hr.mono (by decide)) (by rfl) T.g__law_rows T.f__law_rows.kp T.b__law_rows .nil (fun _ _ => repL_nil.mpr rfl) hps (da_cons (de_var 0) (da_cons (de_var 2) (da_cons (de_var 3) (da_cons de_str (da_cons de_int (da_cons (de_lst (da_cons (de_ix (de_var 8) (de_call G__law_draw (hr.mono (by decide)) (by rfl) T.g__law_draw T.f__law_draw.kp T.b__law_draw .nil (fun _ _ => repL_nil.mpr rfl) hps (da_cons (de_var 0) (da_cons de_int da_nil)))) da_nil)) da_nil)))))))) (dss_cons (ds_set (i := 10) sc__law_parts.nd (de_call G__law_rows (hr.mono (by decide)) (by rfl) T.g__law_rows T.f__law_rows.kp T.b__law_rows .nil (fun _ _ => repL_nil.mpr rfl) hps (da_cons (de_var 0) (da_cons (de_var 2) (da_cons (de_var 3) (da_cons de_str (da_cons de_int (da_cons (de_lst (da_cons (de_ix (de_var 8) (de_call G__law_draw (hr.mono (by decide)) (by rfl) T.g__law_draw T.f__law_draw.kp T.b__law_draw .nil (fun _ _ => repL_nil.mpr rfl) hps (da_cons (de_var 0) (da_cons de_int da_nil)))) da_nil)) da_nil)))))))) (dss_one (ds_expr (de_mtL PySem.F.plainAttrs_list PySem.F.slot_list_append PySem.F.type_list_append dm_append (de_var 4) (da_cons (de_tup (da_cons (de_var 5) (da_cons (de_tup (da_cons (de_var 9) (da_cons (de_var 10) (da_cons (de_var 7) da_nil)))) da_nil))) da_nil))))))))) (dss_cons (ds_set (i := 6) sc__law_parts.nd (de_ix (de_var 3) (de_call G__law_draw (hr.mono (by decide)) (by rfl) T.g__law_draw T.f__law_draw.kp T.b__law_draw .nil (fun _ _ => repL_nil.mpr rfl) hps (da_cons (de_var 0) (da_cons (de_callB dc_len (by rfl) T.z_len boot_len (da_cons (de_var 3) da_nil)) da_nil))))) (dss_one (ds_ret (de_tup (da_cons (de_var 2) (da_cons (de_callTy dc_tuple (by rfl) T.z_tuple boot_tuple (da_cons (de_var 4) da_nil)) (da_cons (de_var 6) (da_cons (de_var 1) da_nil))))))))))))))
end
section
variable {P : Program} {w : World} {K : PySem.W.Frag} {mg : Str → Option Value} {base : Heap} {a : Nat → Addr} {fd : Nat → FuncData} {ca ka : Nat → Addr} {tk : Nat → Tok} (T : Txt K mg a fd ca ka tk)
include T in
theorem ok__law_box (G__law_mix : FnOk P w K mg base (L2.CX P w) 1 (a 27) (fd 27) ["_law_value", "_law_k"] (spD K ca m__law_mix)) : FnOk P w K mg base (L2.CX P w) 2 (a 49) (fd 49) ["_law_script"] (spD K ca m__law_box) := by
  refine fn_okD T.f__law_box sc__law_box fun cdv A outer s H E hr => ?_
  have hu := hr.units
  have hpo := passes_of (X := cxOf (L2.CX P w) P w K mg base ["_law_script", "_law_cells", "_law_seed", "_law_cell"] "_law_box" (defScope (topS 57)) (a 49) cdv A outer s H E) rfl
  have hps := passes_call (takes_of (X := cxOf (L2.CX P w) P w K mg base ["_law_script", "_law_cells", "_law_seed", "_law_cell"] "_law_box" (defScope (topS 57)) (a 49) cdv A outer s H E) rfl rfl rfl rfl) (fun _ _ _ _ h => h)
  have htk := takes_of (X := cxOf (L2.CX P w) P w K mg base ["_law_script", "_law_cells", "_law_seed", "_law_cell"] "_law_box" (defScope (topS 57)) (a 49) cdv A outer s H E) rfl rfl rfl rfl
  exact (dss_cons (ds_setLc (i := 1) (own := [("_law_cell", 3)]) (by rfl) sc__law_box.nd (di_seq (de_slice (de_var 0) do_none (do_some de_int))) (blkOk_by (N := ["_law_script", "_law_cells", "_law_seed", "_law_cell"]) (sc := defScope (topS 57)) (own := [("_law_cell", 3)]) (by decide +kernel)) (fun _ _ _ _ _ => (dgi_var (vs := [3]) (by decide) sc__law_box.nd)) (fun _ _ _ _ _ => dts_nil) (fun _ _ _ _ _ => (de_callTy dc_int (by rfl) T.z_int boot_int (da_cons (de_var 3) da_nil)))) (dss_cons (ds_set (i := 2) sc__law_box.nd de_int) (dss_cons (ds_for hpo (by rfl) (di_seq (de_var 1)) (dgi_var (vs := [3]) (by decide) sc__law_box.nd) (dss_one (ds_set (i := 2) sc__law_box.nd (de_call G__law_mix (hr.mono (by decide)) (by rfl) T.g__law_mix T.f__law_mix.kp T.b__law_mix .nil (fun _ _ => repL_nil.mpr rfl) hps (da_cons (de_op dop_add (de_var 2) (de_var 3)) (da_cons de_int da_nil)))))) (dss_one (ds_ret (de_lst (da_cons (de_var 1) (da_cons de_int (da_cons de_int (da_cons (de_var 2) (da_cons de_int da_nil)))))))))))
end
section
variable {P : Program} {w : World} {K : PySem.W.Frag} {mg : Str → Option Value} {base : Heap} {a : Nat → Addr} {fd : Nat → FuncData} {ca ka : Nat → Addr} {tk : Nat → Tok} (T : Txt K mg a fd ca ka tk)
include T in
theorem ok_law (G__law_same : FnOk P w K mg base (L2.CX P w) 8 (a 0) (fd 0) ["_law_told", "_law_due"] (spD K ca (m__law_same 8))) (G__law_call : FnOk P w K mg base (L2.CX P w) 18 (a 25) (fd 25) ["_law_site", "_law_which", "_law_page", "_law_side", "_law_flags", "_law_spot"] (spD K ca m__law_call)) (G__law_all_flags : FnOk P w K mg base (L2.CX P w) 1 (a 26) (fd 26) ["_law_flags", "_law_count"] (spD K ca m__law_all_flags)) (G__law_draw : FnOk P w K mg base (L2.CX P w) 2 (a 28) (fd 28) ["_law_box_here", "_law_many"] (spD K ca m__law_draw)) (G__law_spots : FnOk P w K mg base (L2.CX P w) 3 (a 29) (fd 29) ["_law_box_here", "_law_asks_here"] (spD K ca m__law_spots)) (G__law_asks : FnOk P w K mg base (L2.CX P w) 5 (a 30) (fd 30) ["_law_rows_here", "_law_prefix"] (spD K ca (m__law_asks 5))) (G_Site___init__ : FnOk P w K mg base (L2.CX P w) 11 (a 43) (fd 43) ["self", "bits", "pages", "start", "keep"] (spD K ca m_Site___init__)) (G__law_parts : FnOk P w K mg base (L2.CX P w) 22 (a 48) (fd 48) ["_law_box_here"] (spD K ca m__law_parts)) (G__law_box : FnOk P w K mg base (L2.CX P w) 2 (a 49) (fd 49) ["_law_script"] (spD K ca m__law_box)) : FnOk P w K mg base (L2.CX P w) 23 (a 50) (fd 50) ["_law_script"] (spD K ca m_law) := by
  refine fn_okD T.f_law sc_law fun cdv A outer s H E hr => ?_
  have hu := hr.units
  have hpo := passes_of (X := cxOf (L2.CX P w) P w K mg base ["_law_script", "_law_box_here", "_law_kinds", "_law_menus", "_law_parts_here", "_law_site", "_law_at", "_law_half", "_law_side", "_law_asks_here", "_law_spot", "_law_flags", "_law_which", "_law_name", "_law_page", "_law_fewer", "_law_bad", "_law_due", "_law_k", "_law_bit", "_law_ask"] "law" (defScope (topS 69)) (a 50) cdv A outer s H E) rfl
  have hps := passes_call (takes_of (X := cxOf (L2.CX P w) P w K mg base ["_law_script", "_law_box_here", "_law_kinds", "_law_menus", "_law_parts_here", "_law_site", "_law_at", "_law_half", "_law_side", "_law_asks_here", "_law_spot", "_law_flags", "_law_which", "_law_name", "_law_page", "_law_fewer", "_law_bad", "_law_due", "_law_k", "_law_bit", "_law_ask"] "law" (defScope (topS 69)) (a 50) cdv A outer s H E) rfl rfl rfl rfl) (fun _ _ _ _ h => h)
  have htk := takes_of (X := cxOf (L2.CX P w) P w K mg base ["_law_script", "_law_box_here", "_law_kinds", "_law_menus", "_law_parts_here", "_law_site", "_law_at", "_law_half", "_law_side", "_law_asks_here", "_law_spot", "_law_flags", "_law_which", "_law_name", "_law_page", "_law_fewer", "_law_bad", "_law_due", "_law_k", "_law_bit", "_law_ask"] "law" (defScope (topS 69)) (a 50) cdv A outer s H E) rfl rfl rfl rfl
  exact (dss_cons (ds_set (i := 1) sc_law.nd (de_call G__law_box (hr.mono (by decide)) (by rfl) T.g__law_box T.f__law_box.kp T.b__law_box .nil (fun _ _ => repL_nil.mpr rfl) hps (da_cons (de_var 0) da_nil))) (dss_cons (ds_setLc (i := 2) (own := [("_law_k", 18)]) (by rfl) sc_law.nd (di_range (by rfl) T.z_range de_int) (blkOk_by (N := ["_law_script", "_law_box_here", "_law_kinds", "_law_menus", "_law_parts_here", "_law_site", "_law_at", "_law_half", "_law_side", "_law_asks_here", "_law_spot", "_law_flags", "_law_which", "_law_name", "_law_page", "_law_fewer", "_law_bad", "_law_due", "_law_k", "_law_bit", "_law_ask"]) (sc := defScope (topS 69)) (own := [("_law_k", 18)]) (by decide +kernel)) (fun _ _ _ _ _ => (dgi_var (vs := [18]) (by decide) sc_law.nd)) (fun _ _ _ _ _ => dts_nil) (fun _ _ _ _ _ => (de_call G__law_draw (hr.mono (by decide)) (by rfl) T.g__law_draw T.f__law_draw.kp T.b__law_draw .nil (fun _ _ => repL_nil.mpr rfl) pass_blk (da_cons (de_var 1) (da_cons de_int da_nil))))) (dss_cons (ds_setLc (i := 3) (own := [("_law_k", 18)]) (by rfl) sc_law.nd (di_range (by rfl) T.z_range de_int) (blkOk_by (N := ["_law_script", "_law_box_here", "_law_kinds", "_law_menus", "_law_parts_here", "_law_site", "_law_at", "_law_half", "_law_side", "_law_asks_here", "_law_spot", "_law_flags", "_law_which", "_law_name", "_law_page", "_law_fewer", "_law_bad", "_law_due", "_law_k", "_law_bit", "_law_ask"]) (sc := defScope (topS 69)) (own := [("_law_k", 18)]) (by decide +kernel)) (fun _ _ _ _ _ => (dgi_var (vs := [18]) (by decide) sc_law.nd)) (fun _ _ _ _ _ => dts_nil) (fun _ _ _ _ _ => (de_call G__law_draw (hr.mono (by decide)) (by rfl) T.g__law_draw T.f__law_draw.kp T.b__law_draw .nil (fun _ _ => repL_nil.mpr rfl) pass_blk (da_cons (de_var 1) (da_cons de_int da_nil))))) (dss_cons (ds_set (i := 4) sc_law.nd (de_call G__law_parts (hr.mono (by decide)) (by rfl) T.g__law_parts T.f__law_parts.kp T.b__law_parts .nil (fun _ _ => repL_nil.mpr rfl) hps (da_cons (de_var 1) da_nil))) (dss_cons (ds_set (i := 5) sc_law.nd (de_makeK T.mk_0 G_Site___init__ (hr.mono (by decide)) (by rfl) T.gc_0 T.kb_0 gSite_rep hps (da_cons (de_ix (de_var 4) de_int) (da_cons (de_ix (de_var 4) de_int) (da_cons (de_ix (de_var 4) de_int) da_nil))) (dk_cons (de_ix (de_var 4) de_int) dk_nil))) (dss_cons (ds_set (i := 6) sc_law.nd (de_call G__law_draw (hr.mono (by decide)) (by rfl) T.g__law_draw T.f__law_draw.kp T.b__law_draw .nil (fun _ _ => repL_nil.mpr rfl) hps (da_cons (de_var 1) (da_cons (de_callB dc_len (by rfl) T.z_len boot_len (da_cons (de_ix (de_var 4) de_int) da_nil)) da_nil)))) (dss_cons (ds_set (i := 7) sc_law.nd (de_call G__law_draw (hr.mono (by decide)) (by rfl) T.g__law_draw T.f__law_draw.kp T.b__law_draw .nil (fun _ _ => repL_nil.mpr rfl) hps (da_cons (de_var 1) (da_cons de_int da_nil)))) (dss_cons (ds_asg (de_ix (de_ix (de_var 4) de_int) (de_var 6)) (dg_tup (by rfl) (dgs_cons (dg_var (j := 13) sc_law.nd) (dgs_cons (dg_var (j := 14) sc_law.nd) dgs_nil)))) (dss_cons (ds_set (i := 8) sc_law.nd (de_ix (de_lst (da_cons de_str (da_cons de_str da_nil))) (de_var 7))) (dss_cons (ds_set (i := 9) sc_law.nd (de_call G__law_asks (hr.mono (by decide)) (by rfl) T.g__law_asks T.f__law_asks.kp T.b__law_asks .nil (fun _ _ => repL_nil.mpr rfl) hps (da_cons (de_ix (de_var 14) (de_var 7)) (da_cons (de_tup da_nil) da_nil)))) (dss_cons (ds_set (i := 10) sc_law.nd (de_ix (de_call G__law_spots (hr.mono (by decide)) (by rfl) T.g__law_spots T.f__law_spots.kp T.b__law_spots .nil (fun _ _ => repL_nil.mpr rfl) hps (da_cons (de_var 1) (da_cons (de_var 9) da_nil))) (de_ix (de_var 2) de_int))) (dss_cons (ds_set (i := 11) sc_law.nd (de_callTy dc_tuple (by rfl) T.z_tuple boot_tuple (da_cons (de_lc (own := [("_law_bit", 19)]) (by rfl) sc_law.nd (di_seq (de_ix (de_var 4) de_int)) (blkOk_by (N := ["_law_script", "_law_box_here", "_law_kinds", "_law_menus", "_law_parts_here", "_law_site", "_law_at", "_law_half", "_law_side", "_law_asks_here", "_law_spot", "_law_flags", "_law_which", "_law_name", "_law_page", "_law_fewer", "_law_bad", "_law_due", "_law_k", "_law_bit", "_law_ask"]) (sc := defScope (topS 69)) (own := [("_law_bit", 19)]) (by decide +kernel)) (fun _ _ _ _ _ => (dgi_var (vs := [19]) (by decide) sc_law.nd)) (fun _ _ _ _ _ => dts_nil) (fun _ _ _ _ _ => (de_cmp (dop_eq hu) (de_call G__law_draw (hr.mono (by decide)) (by rfl) T.g__law_draw T.f__law_draw.kp T.b__law_draw .nil (fun _ _ => repL_nil.mpr rfl) pass_blk (da_cons (de_var 1) (da_cons de_int da_nil))) de_int (nomark _)))) da_nil))) (dss_cons (ds_if (dt_cmp (dop_eq hu) (de_ix (de_var 2) de_int) de_int (nomark _)) (dss_cons (ds_set (i := 15) sc_law.nd (de_slice (de_var 11) do_none (do_some (de_op dop_sub (de_callB dc_len (by rfl) T.z_len boot_len (da_cons (de_var 11) da_nil)) de_int)))) (dss_cons (ds_set (i := 16) sc_law.nd (de_lst (da_cons (de_op dop_add (de_var 11) (de_tup (da_cons de_bl da_nil))) (da_cons (de_callTy dc_list (by rfl) T.z_list boot_list (da_cons (de_var 11) da_nil)) (da_cons de_non (da_cons (de_var 15) (da_cons (de_op dop_mulX (de_tup (da_cons de_int da_nil)) (de_callB dc_len (by rfl) T.z_len boot_len (da_cons (de_var 11) da_nil))) (da_cons (de_op dop_add (de_tup (da_cons de_non da_nil)) (de_slice (de_var 11) (do_some de_int) do_none)) da_nil)))))))) (dss_one (ds_set (i := 11) sc_law.nd (de_ix (de_var 16) (de_ix (de_var 3) de_int)))))) dss_nil) (dss_cons (ds_if (dt_cmp (dop_eq hu) (de_ix (de_var 2) de_int) de_int (nomark _)) (dss_one (ds_set (i := 13) sc_law.nd (de_ix (de_lst (da_cons (de_op dop_add (de_var 13) de_str) (da_cons de_str (da_cons de_non (da_cons de_int (da_cons (de_lst (da_cons (de_var 13) da_nil)) (da_cons (de_op dop_add (de_slice (de_var 13) do_none (do_some de_int)) de_str) da_nil))))))) (de_ix (de_var 3) de_int)))) dss_nil) (dss_cons (ds_if (dt_cmp (dop_eq hu) (de_ix (de_var 2) de_int) de_int (nomark _)) (dss_one (ds_set (i := 8) sc_law.nd (de_ix (de_lst (da_cons de_str (da_cons de_str (da_cons de_non (da_cons de_int (da_cons (de_lst (da_cons de_str da_nil)) (da_cons de_str da_nil))))))) (de_ix (de_var 3) de_int)))) dss_nil) (dss_cons (ds_for hpo (by rfl) (di_seq (de_tup (da_cons de_int (da_cons de_int (da_cons de_int (da_cons de_int (da_cons de_int (da_cons de_int da_nil)))))))) (dgi_var (vs := [12]) (by decide) sc_law.nd) (dss_cons (ds_set (i := 17) sc_law.nd (de_tup (da_cons de_str (da_cons de_non (da_cons de_bl da_nil))))) (dss_cons (ds_if (dt_cmp (dop_eq hu) (de_ix (de_var 2) de_int) de_int (nomark _)) (dss_one (ds_set (i := 17) sc_law.nd (de_tup (da_cons de_str (da_cons (de_var 13) (da_cons de_bl da_nil)))))) (dss_one (ds_if (dt_cmp (dop_eq hu) (de_ix (de_var 2) de_int) de_int (nomark _)) (dss_one (ds_set (i := 17) sc_law.nd (de_tup (da_cons de_str (da_cons (de_var 8) (da_cons de_bl da_nil)))))) (dss_one (ds_if (dt_not (dt_val (de_call G__law_all_flags (hr.mono (by decide)) (by rfl) T.g__law_all_flags T.f__law_all_flags.kp T.b__law_all_flags .nil (fun _ _ => repL_nil.mpr rfl) hps (da_cons (de_var 11) (da_cons (de_callB dc_len (by rfl) T.z_len boot_len (da_cons (de_ix (de_var 4) de_int) da_nil)) da_nil))))) (dss_one (ds_set (i := 17) sc_law.nd (de_tup (da_cons de_str (da_cons (de_var 11) (da_cons de_bl da_nil)))))) (dss_one (ds_if (dw_and (dt_cmp (dop_eq hu) (de_var 12) de_int (nomark _)) (dw_and1 (dt_not (dt_val (de_callB (dc_any (by rfl)) (by rfl) T.z_any boot_any (da_cons (de_lc (own := [("_law_ask", 20)]) (by rfl) sc_law.nd (di_seq (de_var 9)) (blkOk_by (N := ["_law_script", "_law_box_here", "_law_kinds", "_law_menus", "_law_parts_here", "_law_site", "_law_at", "_law_half", "_law_side", "_law_asks_here", "_law_spot", "_law_flags", "_law_which", "_law_name", "_law_page", "_law_fewer", "_law_bad", "_law_due", "_law_k", "_law_bit", "_law_ask"]) (sc := defScope (topS 69)) (own := [("_law_ask", 20)]) (by decide +kernel)) (fun _ _ _ _ _ => (dgi_var (vs := [20]) (by decide) sc_law.nd)) (fun _ _ _ _ _ => dts_nil) (fun _ _ _ _ _ => (de_call G__law_same (hr.mono (by decide)) (by rfl) T.g__law_same T.f__law_same.kp T.b__law_same .nil (fun _ _ => repL_nil.mpr rfl) pass_blk (da_cons (de_var 10) (da_cons (de_var 20) da_nil))))) da_nil)))))).dt (dss_one (ds_set (i := 17) sc_law.nd (de_tup (da_cons de_str (da_cons (de_var 10) (da_cons de_bl da_nil)))))) dss_nil))))))) (dss_one (ds_if (dt_not (dt_val (de_call G__law_same (hr.mono (by decide)) (by rfl) T.g__law_same T.f__law_same.kp T.b__law_same .nil (fun _ _ => repL_nil.mpr rfl) hps (da_cons (de_call G__law_call (hr.mono (by decide)) (by rfl) T.g__law_call T.f__law_call.kp T.b__law_call .nil (fun _ _ => repL_nil.mpr rfl) hps (da_cons (de_var 5) (da_cons (de_var 12) (da_cons (de_var 13) (da_cons (de_var 8) (da_cons (de_var 11) (da_cons (de_var 10) da_nil))))))) (da_cons (de_var 17) da_nil))))) (dss_one (ds_ret de_bl)) dss_nil))))) (dss_one (ds_ret de_bl))))))))))))))))))
end
end DL

set_option Elab.async false
set_option linter.all false
set_option maxRecDepth 100000
set_option maxHeartbeats 4000000
namespace DL
open PySem L2 PySem.Spec PyProof.Rows
@[irreducible] def Runs {α : Type} (m : M α) (st : Sto) (Q : α → Sto → Prop) : Prop := match m st with
  | .ok a st' => Q a st'
  | _ => False
section
variable {α β : Type} {st : Sto} {Q : α → Sto → Prop}
theorem Runs.get {m : M α} (h : Runs m st Q) : ∃ a st', m st = .ok a st' ∧ Q a st' := by
  with_unfolding_all
    unfold Runs at h
    cases q : m st with
    | ok a st' => rw [q] at h; exact ⟨a, st', rfl, h⟩
    | raise c fs st' => rw [q] at h; exact h.elim
    | stuck => rw [q] at h; exact h.elim
theorem Runs.of {m : M α} {a : α} {st' : Sto} (e : m st = .ok a st') (q : Q a st') : Runs m st Q := by with_unfolding_all (unfold Runs; rw [e]; exact q)
theorem Runs.imp {m : M α} {Q' : α → Sto → Prop} (h : Runs m st Q) (k : ∀ a st', Q a st' → Q' a st') : Runs m st Q' := by
  with_unfolding_all
    obtain ⟨a, st', e, q⟩ := h.get
    exact .of e (k a st' q)
theorem runs_bind {m : M β} {f : β → M α} : Runs (m >>= f) st Q ↔ Runs m st fun b st' => Runs (f b) st' Q := by
  with_unfolding_all
    unfold Runs
    rw [bind_run]
    cases m st <;> exact Iff.rfl
theorem runs_pure {a : α} : Runs (pure a : M α) st Q ↔ Q a st := by with_unfolding_all exact Iff.rfl
theorem runs_stuck : Runs (stuck : M α) st Q ↔ False := by with_unfolding_all exact Iff.rfl
theorem runs_ite {c : Prop} [Decidable c] {m n : M α} : Runs (if c then m else n) st Q ↔ if c then Runs m st Q else Runs n st Q := by with_unfolding_all (split <;> exact Iff.rfl)
end
section
variable {st : Sto} {ρ : En} {Q : D → Sto → Prop} {f g h : En → M D} {ft gt : En → M Bool} {QB : Bool → Sto → Prop} {QA : List D → Sto → Prop} {QC : Ctl → Sto → Prop}
theorem r_var {i : Nat} {d : D} (e : ρ[i]? = some (some d)) : Runs (eVar i ρ) st Q ↔ Q d st := by with_unfolding_all (unfold Runs eVar; rw [e])
@[simp] theorem r_c {d : D} : Runs (eC d ρ) st Q ↔ Q d st := by with_unfolding_all exact Iff.rfl
@[simp] theorem r_bin {op : D → D → M D} : Runs (eBin op f g ρ) st Q ↔ Runs (f ρ) st fun x st1 => Runs (g ρ) st1 fun y st2 => Runs (op x y) st2 Q := by with_unfolding_all (unfold eBin; rw [runs_bind]; simp only [runs_bind])
@[simp] theorem r_un {op : D → M D} : Runs (eUn op f ρ) st Q ↔ Runs (f ρ) st fun x st1 => Runs (op x) st1 Q := by with_unfolding_all (unfold eUn; rw [runs_bind])
@[simp] theorem r_tup {fa : En → M (List D)} : Runs (eTup fa ρ) st Q ↔ Runs (fa ρ) st fun ds st1 => Runs (newT ds) st1 Q := by with_unfolding_all (unfold eTup; rw [runs_bind])
@[simp] theorem r_lst {fa : En → M (List D)} : Runs (eLst fa ρ) st Q ↔ Runs (fa ρ) st fun ds st1 => Runs (newL ds) st1 Q := by with_unfolding_all (unfold eLst; rw [runs_bind])
@[simp] theorem r_call {m : List D → M D} {fa : En → M (List D)} : Runs (eCall m fa ρ) st Q ↔ Runs (fa ρ) st fun ds st1 => Runs (m ds) st1 Q := by with_unfolding_all (unfold eCall; rw [runs_bind])
@[simp] theorem r_mt {chk : D → M Unit} {op : D → List D → M D} {fa : En → M (List D)} : Runs (eMt chk op f fa ρ) st Q ↔ Runs (f ρ) st fun o st1 => Runs (chk o) st1 fun _ st2 => Runs (fa ρ) st2 fun ds st3 => Runs (op o ds) st3 Q := by
  with_unfolding_all
    unfold eMt; simp only [runs_bind]
@[simp] theorem r_nil : Runs (aNil ρ) st QA ↔ QA [] st := by with_unfolding_all exact Iff.rfl
@[simp] theorem r_cons {fa : En → M (List D)} : Runs (aCons f fa ρ) st QA ↔ Runs (f ρ) st fun x st1 => Runs (fa ρ) st1 fun xs st2 => QA (x :: xs) st2 := by with_unfolding_all (unfold aCons; simp only [runs_bind, runs_pure])
@[simp] theorem r_and : Runs (eAnd f g ρ) st Q ↔ Runs (f ρ) st fun x st1 => match x with | .bl b => if b = true then Runs (g ρ) st1 Q else Q (.bl false) st1 | _ => False := by
  with_unfolding_all
    unfold eAnd; rw [runs_bind]
    constructor <;> intro z <;> refine z.imp fun x st1 q => ?_ <;> (cases x <;> first | exact q | (rename_i b; cases b <;> simpa [runs_pure] using q))
@[simp] theorem r_or : Runs (eOr f g ρ) st Q ↔ Runs (f ρ) st fun x st1 => match x with | .bl b => if b = true then Q (.bl true) st1 else Runs (g ρ) st1 Q | _ => False := by
  with_unfolding_all
    unfold eOr; rw [runs_bind]
    constructor <;> intro z <;> refine z.imp fun x st1 q => ?_ <;> (cases x <;> first | exact q | (rename_i b; cases b <;> simpa [runs_pure] using q))
@[simp] theorem r_not : Runs (eNot f ρ) st Q ↔ Runs (f ρ) st fun x st1 => match x with | .bl b => Q (.bl (!b)) st1 | _ => False := by
  with_unfolding_all
    unfold eNot; rw [runs_bind]
    constructor <;> intro z <;> refine z.imp fun x st1 q => ?_ <;> (cases x <;> exact q)
@[simp] theorem r_if : Runs (eIf ft f g ρ) st Q ↔ Runs (ft ρ) st fun b st1 => if b = true then Runs (f ρ) st1 Q else Runs (g ρ) st1 Q := by
  with_unfolding_all
    unfold eIf; rw [runs_bind]
    constructor <;> intro z <;> refine z.imp fun b st1 q => ?_ <;> (cases b <;> exact q)
@[simp] theorem r_chain {op op' : D → D → M D} : Runs (eChain op op' f g h ρ) st Q ↔ Runs (f ρ) st fun x st1 => Runs (g ρ) st1 fun y st2 => Runs (op x y) st2 fun z st3 => match z with
    | .bl b => if b = true then (Runs (h ρ) st3 fun w st4 => Runs (op' y w) st4 Q) else Q (.bl false) st3
    | _ => False := by
  with_unfolding_all
    unfold eChain; simp only [runs_bind]
    constructor <;> intro z <;> refine z.imp fun x st1 q => q.imp fun y st2 q => q.imp fun w st3 q => ?_ <;> (cases w <;> first | exact q | (rename_i b; cases b <;> first | exact q | (simpa only [toB, runs_pure, Bool.false_eq_true, if_false, if_true, runs_bind] using q)))
@[simp] theorem r_val : Runs (tVal f ρ) st QB ↔ Runs (f ρ) st fun x st1 => match x with | .bl b => QB b st1 | _ => False := by
  with_unfolding_all
    unfold tVal; rw [runs_bind]
    constructor <;> intro z <;> refine z.imp fun x st1 q => ?_ <;> (cases x <;> exact q)
@[simp] theorem r_tnot : Runs (tNotD ft ρ) st QB ↔ Runs (ft ρ) st fun b st1 => QB (!b) st1 := by with_unfolding_all (unfold tNotD; simp only [runs_bind, runs_pure])
@[simp] theorem r_tand : Runs (tAndD ft gt ρ) st QB ↔ Runs (ft ρ) st fun b st1 => if b = true then Runs (gt ρ) st1 QB else QB false st1 := by
  with_unfolding_all
    unfold tAndD; rw [runs_bind]
    constructor <;> intro z <;> refine z.imp fun b st1 q => ?_ <;> (cases b <;> exact q)
@[simp] theorem r_tor : Runs (tOrD ft gt ρ) st QB ↔ Runs (ft ρ) st fun b st1 => if b = true then QB true st1 else Runs (gt ρ) st1 QB := by
  with_unfolding_all
    unfold tOrD; rw [runs_bind]
    constructor <;> intro z <;> refine z.imp fun b st1 q => ?_ <;> (cases b <;> exact q)
@[simp] theorem r_sl {lo hi : En → M (Option Int)} : Runs (eSl f lo hi ρ) st Q ↔ Runs (f ρ) st fun x st1 => Runs (lo ρ) st1 fun l st2 => Runs (hi ρ) st2 fun u st3 => Runs (opSl x l u) st3 Q := by with_unfolding_all (unfold eSl; simp only [runs_bind])
@[simp] theorem r_pnone {QO : Option Int → Sto → Prop} : Runs (pNone ρ) st QO ↔ QO none st := by with_unfolding_all exact Iff.rfl
@[simp] theorem r_psome {QO : Option Int → Sto → Prop} : Runs (pSome f ρ) st QO ↔ Runs (f ρ) st fun x st1 => match x with | .int i => QO (some i) st1 | _ => False := by
  with_unfolding_all
    unfold pSome; rw [runs_bind]
    constructor <;> intro z <;> refine z.imp fun x st1 q => ?_ <;> (cases x <;> exact q)
/-! statements -/
variable {a b : En → M Ctl}
@[simp] theorem r_nx : Runs (sNx ρ) st QC ↔ QC (.nx ρ) st := by with_unfolding_all exact Iff.rfl
@[simp] theorem r_seq : Runs (sSeq a b ρ) st QC ↔ Runs (a ρ) st fun c st1 => match c with | .nx ρ1 => Runs (b ρ1) st1 QC | c => QC c st1 := by
  with_unfolding_all
    unfold sSeq; rw [runs_bind]
    constructor <;> intro z <;> refine z.imp fun c st1 q => ?_ <;> (cases c <;> exact q)
@[simp] theorem r_asg {gd : D → En → M En} : Runs (sAsg f gd ρ) st QC ↔ Runs (f ρ) st fun d st1 => Runs (gd d ρ) st1 fun ρ1 st2 => QC (.nx ρ1) st2 := by with_unfolding_all (unfold sAsg; simp only [runs_bind, runs_pure])
@[simp] theorem r_ex : Runs (sEx f ρ) st QC ↔ Runs (f ρ) st fun _ st1 => QC (.nx ρ) st1 := by with_unfolding_all (unfold sEx; simp only [runs_bind, runs_pure])
@[simp] theorem r_ret : Runs (sRet f ρ) st QC ↔ Runs (f ρ) st fun d st1 => QC (.rt d) st1 := by with_unfolding_all (unfold sRet; simp only [runs_bind, runs_pure])
@[simp] theorem r_retN : Runs (sRetN ρ) st QC ↔ QC (.rt .non) st := by with_unfolding_all exact Iff.rfl
@[simp] theorem r_sif : Runs (sIf ft a b ρ) st QC ↔ Runs (ft ρ) st fun k st1 => if k = true then Runs (a ρ) st1 QC else Runs (b ρ) st1 QC := by
  with_unfolding_all
    unfold sIf; rw [runs_bind]
    constructor <;> intro z <;> refine z.imp fun b st1 q => ?_ <;> (cases b <;> exact q)
theorem r_never : Runs (sNever ρ) st QC ↔ False := by with_unfolding_all exact Iff.rfl
variable {QE : En → Sto → Prop}
@[simp] theorem r_gvar {i : Nat} {d : D} : Runs (gVar i d ρ) st QE ↔ QE (ρ.set i (some d)) st := by with_unfolding_all exact Iff.rfl
@[simp] theorem r_gtup {n : Nat} {gs : List D → En → M En} {ds : List D} : Runs (gTupD n gs (.tup ds) ρ) st QE ↔ ds.length = n ∧ Runs (gs ds ρ) st QE := by
  with_unfolding_all
    unfold gTupD; simp only
    by_cases e : ds.length = n
    · rw [if_pos e]; simp [e]
    · rw [if_neg e]; simp [e, runs_stuck]
@[simp] theorem r_gnil : Runs (gNilD [] ρ) st QE ↔ QE ρ st := by with_unfolding_all exact Iff.rfl
@[simp] theorem r_gcons {gd : D → En → M En} {gs : List D → En → M En} {d : D} {r : List D} : Runs (gConsD gd gs (d :: r) ρ) st QE ↔ Runs (gd d ρ) st fun ρ1 st1 => Runs (gs r ρ1) st1 QE := by
  with_unfolding_all
    show Runs (gd d ρ >>= fun ρ1 => gs r ρ1) st QE ↔ _
    rw [runs_bind]
@[simp] theorem r_gsub {fo fi : En → M D} {d : D} : Runs (gSubD fo fi d ρ) st QE ↔ Runs (fo ρ) st fun o st1 => Runs (fi ρ) st1 fun i st2 => Runs (opSet o i d) st2 fun _ st3 => QE ρ st3 := by with_unfolding_all (unfold gSubD; simp only [runs_bind, runs_pure])
@[simp] theorem r_git {i : Nat} {d : D} : Runs (gIt i (.one d) ρ) st QE ↔ QE (ρ.set i (some d)) st := by with_unfolding_all exact Iff.rfl
@[simp] theorem r_gitp2 {i j : Nat} {d e : D} : Runs (gItP i j (.two d e) ρ) st QE ↔ QE ((ρ.set i (some d)).set j (some e)) st := by with_unfolding_all exact Iff.rfl
@[simp] theorem r_gitp1 {i j : Nat} {d e : D} : Runs (gItP i j (.one (.tup [d, e])) ρ) st QE ↔ QE ((ρ.set i (some d)).set j (some e)) st := by with_unfolding_all exact Iff.rfl
@[simp] theorem r_for {fi : En → M ItD} {gi : Item → En → M En} : Runs (sFor fi gi b ρ) st QC ↔ Runs (fi ρ) st fun it st1 => Runs (forL it.ok gi b it.items ρ) st1 QC := by with_unfolding_all (unfold sFor; rw [runs_bind])
theorem r_fn {n N : Nat} {body : En → M Ctl} {ds : List D} : Runs (fnM n N body ds) st Q ↔ ds.length = n ∧ Runs (body (ds.map some ++ List.replicate (N - n) none)) st fun c st1 => match c with | .rt d => Q d st1 | .nx _ => Q .non st1 | _ => False := by
  with_unfolding_all
    unfold fnM
    by_cases e : ds.length = n
    · rw [if_pos e]
      unfold runB
      rw [runs_bind]
      constructor
      · intro z
        refine ⟨e, z.imp fun c st1 q => ?_⟩
        cases c <;> exact q
      · intro ⟨_, z⟩
        refine z.imp fun c st1 q => ?_
        cases c <;> exact q
    · rw [if_neg e]; simp [e, runs_stuck]
theorem runs_forL {ok : Sto → Bool} {gi : Item → En → M En} {items : List Item} (Inv : Nat → En → Sto → Prop) (h0 : Inv 0 ρ st)
    (hs : ∀ i it ρ st, items[i]? = some it → Inv i ρ st → ok st = true ∧ Runs (gi it ρ) st fun ρ1 st1 => Runs (b ρ1) st1 fun c st2 => match c with
      | .nx ρ2 => Inv (i + 1) ρ2 st2
      | .ct ρ2 => Inv (i + 1) ρ2 st2
      | .bk ρ2 => QC (.nx ρ2) st2
      | .rt d => QC (.rt d) st2)
    (hd : ∀ ρ st, Inv items.length ρ st → ok st = true ∧ QC (.nx ρ) st) : Runs (forL ok gi b items ρ) st QC := by
  with_unfolding_all
    have go : ∀ (r : List Item) (i : Nat) (ρ : En) (st : Sto), items.drop i = r → i ≤ items.length → Inv i ρ st → Runs (forL ok gi b r ρ) st QC := by
      intro r
      induction r with
      | nil =>
        intro i ρ st e hi h
        have : items.length ≤ i := List.drop_eq_nil_iff.mp e
        obtain rfl : i = items.length := Nat.le_antisymm hi this
        obtain ⟨h1, h2⟩ := hd ρ st h
        unfold forL
        rw [runs_bind]
        exact .of (a := ()) (st' := st) (by unfold guardS; rw [h1]; rfl) h2
      | cons it r ih =>
        intro i ρ st e hi h
        have hlt : i < items.length := by
          rcases Nat.lt_or_ge i items.length with z | z
          · exact z
          · rw [List.drop_eq_nil_of_le z] at e; cases e
        rw [List.drop_eq_getElem_cons hlt] at e
        injection e with e1 e2
        obtain ⟨h1, h2⟩ := hs i it ρ st (by rw [← e1]; simp [hlt]) h
        unfold forL
        rw [runs_bind]
        refine .of (a := ()) (st' := st) (by unfold guardS; rw [h1]; rfl) ?_
        rw [runs_bind]
        refine h2.imp fun ρ1 st1 h3 => ?_
        rw [runs_bind]
        refine h3.imp fun c st2 h4 => ?_
        cases c with
        | nx ρ2 => exact ih (i + 1) ρ2 st2 e2 hlt h4
        | ct ρ2 => exact ih (i + 1) ρ2 st2 e2 hlt h4
        | bk ρ2 => exact h4
        | rt d => exact h4
    exact go items 0 ρ st rfl (Nat.zero_le _) h0
def lcK (vs : List Nat) (gi : Item → En → M En) (tt : En → M Bool) (te : En → M D) (ρ : En) (it : ItD) : M D := fun st => (lcL it.ok gi tt te st.length (wipeD ρ vs) it.items >>= fun _ => (pure (.loc st.length) : M D)) (st ++ [.lst []])
theorem runs_lcK {vs : List Nat} {gi : Item → En → M En} {tt : En → M Bool} {te : En → M D} {it : ItD} : Runs (lcK vs gi tt te ρ it) st Q ↔ Runs (lcL it.ok gi tt te st.length (wipeD ρ vs) it.items) (st ++ [.lst []]) fun _ st2 => Q (.loc st.length) st2 := by with_unfolding_all exact runs_bind (m := lcL it.ok gi tt te st.length (wipeD ρ vs) it.items) (f := fun _ => (pure (D.loc st.length) : M D)) (st := st ++ [SO.lst []])
@[simp] theorem r_lc {vs : List Nat} {fi : En → M ItD} {gi : Item → En → M En} {tt : En → M Bool} {te : En → M D} : Runs (eLc vs fi gi tt te ρ) st Q ↔ Runs (fi ρ) st fun it st1 => Runs (lcL it.ok gi tt te st1.length (wipeD ρ vs) it.items) (st1 ++ [.lst []]) fun _ st2 => Q (.loc st1.length) st2 := by
  with_unfolding_all
    have e : eLc vs fi gi tt te ρ = (fi ρ >>= lcK vs gi tt te ρ) := rfl
    rw [e, runs_bind]
    simp only [runs_lcK]
theorem nr_runs {α : Type} {m : M α} {st : Sto} {Q : α → Sto → Prop} (h : Runs m st Q) : Runs (nr m) st Q := by
  with_unfolding_all
    obtain ⟨a, st', e, q⟩ := h.get
    exact .of (by unfold nr; rw [e]) q
/-- a comprehension by an invariant: what the new list holds at each turn -/
theorem runs_lcL {ok : Sto → Bool} {gi : Item → En → M En} {tt : En → M Bool} {te : En → M D} {L : Nat} {ρw : En} {items : List Item} {QU : Unit → Sto → Prop} (Inv : Nat → Sto → Prop) (h0 : Inv 0 st)
    (hs : ∀ i it st, items[i]? = some it → Inv i st → ok st = true ∧ Runs (gi it ρw) st fun ρ1 st1 => Runs (tt ρ1) st1 fun k st2 => if k = true then
      Runs (te ρ1) st2 fun y st3 => ∃ acc, lstAt st3 L = some acc ∧ acc.length < sizeLine ∧ Inv (i + 1) (st3.set L (.lst (acc ++ [y]))) else Inv (i + 1) st2)
    (hd : ∀ st, Inv items.length st → ok st = true ∧ QU () st) : Runs (lcL ok gi tt te L ρw items) st QU := by
  with_unfolding_all
    have go : ∀ (r : List Item) (i : Nat) (st : Sto), items.drop i = r → i ≤ items.length → Inv i st → Runs (lcL ok gi tt te L ρw r) st QU := by
      intro r
      induction r with
      | nil =>
        intro i st e hi h
        have : items.length ≤ i := List.drop_eq_nil_iff.mp e
        obtain rfl : i = items.length := Nat.le_antisymm hi this
        obtain ⟨h1, h2⟩ := hd st h
        unfold lcL
        exact .of (a := ()) (st' := st) (by unfold guardS; rw [h1]; rfl) h2
      | cons it r ih =>
        intro i st e hi h
        have hlt : i < items.length := by
          rcases Nat.lt_or_ge i items.length with z | z
          · exact z
          · rw [List.drop_eq_nil_of_le z] at e; cases e
        rw [List.drop_eq_getElem_cons hlt] at e
        injection e with e1 e2
        obtain ⟨h1, h2⟩ := hs i it st (by rw [← e1]; simp [hlt]) h
        unfold lcL
        rw [runs_bind]
        refine .of (a := ()) (st' := st) (by unfold guardS; rw [h1]; rfl) ?_
        rw [runs_bind]
        refine (nr_runs h2).imp fun ρ1 st1 h3 => ?_
        rw [runs_bind]
        refine (nr_runs h3).imp fun k st2 h4 => ?_
        cases k with
        | true =>
          have h4' := (if_pos rfl).mp h4
          show Runs (nr (te ρ1) >>= fun y => putL L y >>= fun _ => lcL ok gi tt te L ρw r) st2 QU
          rw [runs_bind]
          refine (nr_runs h4').imp fun y st3 h5 => ?_
          obtain ⟨acc, g1, g2, g3⟩ := h5
          rw [runs_bind]
          refine .of (a := ()) (st' := st3.set L (.lst (acc ++ [y]))) (by unfold putL; rw [g1]; simp only [if_pos g2]) ?_
          exact ih (i + 1) _ e2 hlt g3
        | false => exact ih (i + 1) st2 e2 hlt ((if_neg Bool.false_ne_true).mp h4)
    exact go items 0 st rfl (Nat.zero_le _) h0
end
end DL

set_option Elab.async false
set_option linter.all false
set_option maxRecDepth 100000
set_option maxHeartbeats 4000000
namespace DL
open PySem L2 PySem.Spec PyProof.Rows
/-! ### runs that may raise -/
abbrev QXT := Nat → Option (List (Str × D)) → Sto → Prop
@[irreducible] def RunsX {α : Type} (m : M α) (st : Sto) (Q : α → Sto → Prop) (QX : QXT) : Prop := match m st with
  | .ok a st' => Q a st'
  | .raise c fs st' => QX c fs st'
  | .stuck => False
def NoX {α : Type} (m : M α) : Prop := ∀ st c fs st', m st ≠ .raise c fs st'
section
variable {α β : Type} {st : Sto} {Q : α → Sto → Prop} {QX : QXT}
theorem Runs.x {m : M α} (h : Runs m st Q) : RunsX m st Q QX := by
  obtain ⟨a, st', e, q⟩ := h.get
  with_unfolding_all (unfold RunsX; rw [e]; exact q)
theorem RunsX.imp {m : M α} {Q' : α → Sto → Prop} {QX' : QXT} (h : RunsX m st Q QX) (k : ∀ a st', Q a st' → Q' a st') (kx : ∀ c fs st', QX c fs st' → QX' c fs st') : RunsX m st Q' QX' := by
  with_unfolding_all
    unfold RunsX at h ⊢
    cases q : m st with
    | ok a st' => rw [q] at h; exact k a st' h
    | raise c fs st' => rw [q] at h; exact kx c fs st' h
    | stuck => rw [q] at h; exact h.elim
theorem RunsX.impX {m : M α} {QX' : QXT} (h : RunsX m st (fun _ _ => False) QX) (kx : ∀ c fs st', QX c fs st' → QX' c fs st') : RunsX m st Q QX' := h.imp (fun _ _ z => z.elim) kx
theorem RunsX.runs {m : M α} (h : RunsX m st Q fun _ _ _ => False) : Runs m st Q := by
  with_unfolding_all
    unfold RunsX at h; unfold Runs
    cases q : m st with
    | ok a st' => rw [q] at h; exact h
    | raise c fs st' => rw [q] at h; exact h.elim
    | stuck => rw [q] at h; exact h.elim
theorem runsX_bind {m : M β} {f : β → M α} : RunsX (m >>= f) st Q QX ↔ RunsX m st (fun b st' => RunsX (f b) st' Q QX) QX := by
  with_unfolding_all
    unfold RunsX
    rw [bind_run]
    cases m st <;> exact Iff.rfl
@[simp] theorem runsX_pure {a : α} : RunsX (pure a : M α) st Q QX ↔ Q a st := by with_unfolding_all exact Iff.rfl
theorem runsX_stuck : RunsX (stuck : M α) st Q QX ↔ False := by with_unfolding_all exact Iff.rfl
theorem runsX_nox {m : M α} (h : NoX m) : RunsX m st Q QX ↔ Runs m st Q := by
  with_unfolding_all
    unfold RunsX Runs
    cases q : m st with
    | ok a st' => exact Iff.rfl
    | raise c fs st' => exact absurd q (h st c fs st')
    | stuck => exact Iff.rfl
@[simp] theorem rx_nr {m : M α} : RunsX (nr m) st Q QX ↔ Runs m st Q := by
  with_unfolding_all
    unfold RunsX Runs nr
    cases q : m st <;> exact Iff.rfl
@[simp] theorem r_nr {m : M α} : Runs (nr m) st Q ↔ Runs m st Q := by
  with_unfolding_all
    unfold Runs nr
    cases q : m st <;> exact Iff.rfl
end
section
variable {st : Sto} {ρ : En} {Q : D → Sto → Prop} {QX : QXT} {f g h : En → M D} {ft gt : En → M Bool} {QB : Bool → Sto → Prop} {QA : List D → Sto → Prop} {QC : Ctl → Sto → Prop} {QE : En → Sto → Prop} {fa fk : En → M (List D)} {a b : En → M Ctl}
@[simp] theorem rx_var {i : Nat} : RunsX (eVar i ρ) st Q QX ↔ Runs (eVar i ρ) st Q := runsX_nox fun st c fs st' z => by unfold eVar at z; split at z <;> cases z
@[simp] theorem rx_c {d : D} : RunsX (eC d ρ) st Q QX ↔ Q d st := by with_unfolding_all exact Iff.rfl
@[simp] theorem rx_bin {op : D → D → M D} : RunsX (eBin op f g ρ) st Q QX ↔ RunsX (f ρ) st (fun x st1 => RunsX (g ρ) st1 (fun y st2 => RunsX (op x y) st2 Q QX) QX) QX := by with_unfolding_all (unfold eBin; simp only [runsX_bind])
@[simp] theorem rx_un {op : D → M D} : RunsX (eUn op f ρ) st Q QX ↔ RunsX (f ρ) st (fun x st1 => RunsX (op x) st1 Q QX) QX := by with_unfolding_all (unfold eUn; simp only [runsX_bind])
@[simp] theorem rx_tup : RunsX (eTup fa ρ) st Q QX ↔ RunsX (fa ρ) st (fun ds st1 => Runs (newT ds) st1 Q) QX := by
  have e : ∀ ds, NoX (newT ds) := fun ds st c fs st' z => by unfold newT at z; split at z <;> cases z
  with_unfolding_all (unfold eTup; simp only [runsX_bind, runsX_nox (e _)])
@[simp] theorem rx_lst : RunsX (eLst fa ρ) st Q QX ↔ RunsX (fa ρ) st (fun ds st1 => Runs (newL ds) st1 Q) QX := by
  have e : ∀ ds, NoX (newL ds) := fun ds st c fs st' z => by unfold newL at z; split at z <;> cases z
  with_unfolding_all (unfold eLst; simp only [runsX_bind, runsX_nox (e _)])
@[simp] theorem rx_call {m : List D → M D} : RunsX (eCall m fa ρ) st Q QX ↔ RunsX (fa ρ) st (fun ds st1 => RunsX (m ds) st1 Q QX) QX := by with_unfolding_all (unfold eCall; simp only [runsX_bind])
@[simp] theorem rx_callR {m : List D → M D} : RunsX (eCallR m fa ρ) st Q QX ↔ Runs (fa ρ) st fun ds st1 => RunsX (m ds) st1 Q QX := by with_unfolding_all (unfold eCallR; simp only [runsX_bind, rx_nr])
@[simp] theorem rx_nrE : RunsX (nrE f ρ) st Q QX ↔ Runs (f ρ) st Q := by with_unfolding_all exact rx_nr
theorem nox_chkO {c : Nat} {n : Str} {o : D} : NoX (chkO c n o) := fun st c' fs st' z => by
  unfold chkO at z
  split at z
  · split at z
    · split at z <;> cases z
    · cases z
  · cases z
@[simp] theorem rx_meth {c : Nat} {n : Str} {m : List D → M D} {dds : List D} : RunsX (eMeth c n m dds f fa ρ) st Q QX ↔ RunsX (f ρ) st (fun o st1 => Runs (chkO c n o) st1 fun _ st2 => RunsX (fa ρ) st2 (fun ds st3 => RunsX (m (o :: (ds ++ dds))) st3 Q QX) QX) QX := by
  with_unfolding_all (unfold eMeth; simp only [runsX_bind, runsX_nox nox_chkO])
@[simp] theorem rx_methR {c : Nat} {n : Str} {m : List D → M D} : RunsX (eMethR c n m f fa ρ) st Q QX ↔ Runs (f ρ) st fun o st1 => Runs (chkO c n o) st1 fun _ st2 => Runs (fa ρ) st2 fun ds st3 => RunsX (m (o :: ds)) st3 Q QX := by
  with_unfolding_all (unfold eMethR; simp only [runsX_bind, rx_nr, runsX_nox nox_chkO])
@[simp] theorem rx_nil : RunsX (aNil ρ) st QA QX ↔ QA [] st := by with_unfolding_all exact Iff.rfl
@[simp] theorem rx_cons : RunsX (aCons f fa ρ) st QA QX ↔ RunsX (f ρ) st (fun x st1 => RunsX (fa ρ) st1 (fun xs st2 => QA (x :: xs) st2) QX) QX := by with_unfolding_all (unfold aCons; simp only [runsX_bind, runsX_pure])
theorem nox_toB {d : D} : NoX (toB d) := fun st c fs st' z => by unfold toB at z; split at z <;> cases z
@[simp] theorem rx_val : RunsX (tVal f ρ) st QB QX ↔ RunsX (f ρ) st (fun x st1 => match x with | .bl b => QB b st1 | _ => False) QX := by
  with_unfolding_all
    unfold tVal; rw [runsX_bind]
    constructor <;> intro z <;> refine z.imp (fun x st1 q => ?_) (fun _ _ _ q => q) <;> (cases x <;> exact q)
@[simp] theorem rx_tnot : RunsX (tNotD ft ρ) st QB QX ↔ RunsX (ft ρ) st (fun b st1 => QB (!b) st1) QX := by with_unfolding_all (unfold tNotD; simp only [runsX_bind, runsX_pure])
@[simp] theorem rx_tand : RunsX (tAndD ft gt ρ) st QB QX ↔ RunsX (ft ρ) st (fun b st1 => if b = true then RunsX (gt ρ) st1 QB QX else QB false st1) QX := by
  with_unfolding_all
    unfold tAndD; rw [runsX_bind]
    constructor <;> intro z <;> refine z.imp (fun b st1 q => ?_) (fun _ _ _ q => q) <;> (cases b <;> exact q)
@[simp] theorem rx_tor : RunsX (tOrD ft gt ρ) st QB QX ↔ RunsX (ft ρ) st (fun b st1 => if b = true then QB true st1 else RunsX (gt ρ) st1 QB QX) QX := by
  with_unfolding_all
    unfold tOrD; rw [runsX_bind]
    constructor <;> intro z <;> refine z.imp (fun b st1 q => ?_) (fun _ _ _ q => q) <;> (cases b <;> exact q)
@[simp] theorem rx_nx : RunsX (sNx ρ) st QC QX ↔ QC (.nx ρ) st := by with_unfolding_all exact Iff.rfl
@[simp] theorem rx_ct : RunsX (sCt ρ) st QC QX ↔ QC (.ct ρ) st := by with_unfolding_all exact Iff.rfl
@[simp] theorem rx_seq : RunsX (sSeq a b ρ) st QC QX ↔ RunsX (a ρ) st (fun c st1 => match c with | .nx ρ1 => RunsX (b ρ1) st1 QC QX | c => QC c st1) QX := by
  with_unfolding_all
    unfold sSeq; rw [runsX_bind]
    constructor <;> intro z <;> refine z.imp (fun c st1 q => ?_) (fun _ _ _ q => q) <;> (cases c <;> exact q)
@[simp] theorem rx_asg {gd : D → En → M En} : RunsX (sAsg f gd ρ) st QC QX ↔ RunsX (f ρ) st (fun d st1 => RunsX (gd d ρ) st1 (fun ρ1 st2 => QC (.nx ρ1) st2) QX) QX := by with_unfolding_all (unfold sAsg; simp only [runsX_bind, runsX_pure])
@[simp] theorem rx_setR {i : Nat} : RunsX (sSetR f i ρ) st QC QX ↔ RunsX (f ρ) st (fun d st1 => QC (.nx (ρ.set i (some d))) st1) QX := by with_unfolding_all (unfold sSetR; simp only [runsX_bind, runsX_pure])
@[simp] theorem rx_ex : RunsX (sEx f ρ) st QC QX ↔ RunsX (f ρ) st (fun _ st1 => QC (.nx ρ) st1) QX := by with_unfolding_all (unfold sEx; simp only [runsX_bind, runsX_pure])
@[simp] theorem rx_ret : RunsX (sRet f ρ) st QC QX ↔ RunsX (f ρ) st (fun d st1 => QC (.rt d) st1) QX := by with_unfolding_all (unfold sRet; simp only [runsX_bind, runsX_pure])
@[simp] theorem rx_retN : RunsX (sRetN ρ) st QC QX ↔ QC (.rt .non) st := by with_unfolding_all exact Iff.rfl
@[simp] theorem rx_sif : RunsX (sIf ft a b ρ) st QC QX ↔ RunsX (ft ρ) st (fun k st1 => if k = true then RunsX (a ρ) st1 QC QX else RunsX (b ρ) st1 QC QX) QX := by
  with_unfolding_all
    unfold sIf; rw [runsX_bind]
    constructor <;> intro z <;> refine z.imp (fun b st1 q => ?_) (fun _ _ _ q => q) <;> (cases b <;> exact q)
@[simp] theorem rx_sifR : RunsX (sIfR ft a b ρ) st QC QX ↔ Runs (ft ρ) st fun k st1 => if k = true then RunsX (a ρ) st1 QC QX else RunsX (b ρ) st1 QC QX := by
  with_unfolding_all
    unfold sIfR; rw [runsX_bind, rx_nr]
    constructor <;> intro z <;> refine z.imp fun b st1 q => ?_ <;> (cases b <;> exact q)
@[simp] theorem rx_raise {c : Nat} {ns : List Str} : RunsX (sRaise c ns fa ρ) st QC QX ↔ RunsX (fa ρ) st (fun ds st1 => ds.length = ns.length ∧ QX c (some (ns.zip ds).reverse) st1) QX := by
  with_unfolding_all
    unfold sRaise; rw [runsX_bind]
    constructor <;> intro z <;> refine z.imp (fun ds st1 q => ?_) (fun _ _ _ q => q)
    · unfold RunsX raiseN at q
      by_cases e : ds.length = ns.length
      · rw [if_pos e] at q; exact ⟨e, q⟩
      · rw [if_neg e] at q; exact q.elim
    · unfold RunsX raiseN
      rw [if_pos q.1]; exact q.2
@[simp] theorem rx_gvar {i : Nat} {d : D} : RunsX (gVar i d ρ) st QE QX ↔ QE (ρ.set i (some d)) st := by with_unfolding_all exact Iff.rfl
@[simp] theorem rx_gtup {n : Nat} {gs : List D → En → M En} {ds : List D} : RunsX (gTupD n gs (.tup ds) ρ) st QE QX ↔ ds.length = n ∧ RunsX (gs ds ρ) st QE QX := by
  with_unfolding_all
    unfold gTupD; simp only
    by_cases e : ds.length = n
    · rw [if_pos e]; simp [e]
    · rw [if_neg e]; simp [e, runsX_stuck]
@[simp] theorem rx_gnil : RunsX (gNilD [] ρ) st QE QX ↔ QE ρ st := by with_unfolding_all exact Iff.rfl
@[simp] theorem rx_gcons {gd : D → En → M En} {gs : List D → En → M En} {d : D} {r : List D} : RunsX (gConsD gd gs (d :: r) ρ) st QE QX ↔ RunsX (gd d ρ) st (fun ρ1 st1 => RunsX (gs r ρ1) st1 QE QX) QX := by
  with_unfolding_all
    show RunsX (gd d ρ >>= fun ρ1 => gs r ρ1) st QE QX ↔ _
    rw [runsX_bind]
@[simp] theorem rx_git {i : Nat} {d : D} : RunsX (gIt i (.one d) ρ) st QE QX ↔ QE (ρ.set i (some d)) st := by with_unfolding_all exact Iff.rfl
@[simp] theorem rx_gitp1 {i j : Nat} {d e : D} : RunsX (gItP i j (.one (.tup [d, e])) ρ) st QE QX ↔ QE ((ρ.set i (some d)).set j (some e)) st := by with_unfolding_all exact Iff.rfl
@[simp] theorem rx_gitp2 {i j : Nat} {d e : D} : RunsX (gItP i j (.two d e) ρ) st QE QX ↔ QE ((ρ.set i (some d)).set j (some e)) st := by with_unfolding_all exact Iff.rfl
@[simp] theorem rx_for {fi : En → M ItD} {gi : Item → En → M En} : RunsX (sFor fi gi b ρ) st QC QX ↔ RunsX (fi ρ) st (fun it st1 => RunsX (forL it.ok gi b it.items ρ) st1 QC QX) QX := by with_unfolding_all (unfold sFor; rw [runsX_bind])
theorem rx_fn {n N : Nat} {body : En → M Ctl} {ds : List D} : RunsX (fnM n N body ds) st Q QX ↔ ds.length = n ∧ RunsX (body (ds.map some ++ List.replicate (N - n) none)) st (fun c st1 => match c with | .rt d => Q d st1 | .nx _ => Q .non st1 | _ => False) QX := by
  with_unfolding_all
    unfold fnM
    by_cases e : ds.length = n
    · rw [if_pos e]
      unfold runB
      rw [runsX_bind]
      constructor
      · intro z
        refine ⟨e, z.imp (fun c st1 q => ?_) fun _ _ _ q => q⟩
        cases c <;> exact q
      · intro ⟨_, z⟩
        refine z.imp (fun c st1 q => ?_) fun _ _ _ q => q
        cases c <;> exact q
    · rw [if_neg e]; simp [e, runsX_stuck]
theorem runsX_forL {ok : Sto → Bool} {gi : Item → En → M En} {items : List Item} (Inv : Nat → En → Sto → Prop) (h0 : Inv 0 ρ st)
    (hs : ∀ i it ρ st, items[i]? = some it → Inv i ρ st → ok st = true ∧ RunsX (gi it ρ) st (fun ρ1 st1 => RunsX (b ρ1) st1 (fun c st2 => match c with
      | .nx ρ2 => Inv (i + 1) ρ2 st2
      | .ct ρ2 => Inv (i + 1) ρ2 st2
      | .bk ρ2 => QC (.nx ρ2) st2
      | .rt d => QC (.rt d) st2) QX) QX)
    (hd : ∀ ρ st, Inv items.length ρ st → ok st = true ∧ QC (.nx ρ) st) : RunsX (forL ok gi b items ρ) st QC QX := by
  have go : ∀ (r : List Item) (i : Nat) (ρ : En) (st : Sto), items.drop i = r → i ≤ items.length → Inv i ρ st → RunsX (forL ok gi b r ρ) st QC QX := by
    intro r
    induction r with
    | nil =>
      intro i ρ st e hi h
      have : items.length ≤ i := List.drop_eq_nil_iff.mp e
      obtain rfl : i = items.length := Nat.le_antisymm hi this
      obtain ⟨h1, h2⟩ := hd ρ st h
      have : Runs (forL ok gi b [] ρ) st QC := by
        with_unfolding_all
          unfold forL
          rw [runs_bind]
          exact .of (a := ()) (st' := st) (by unfold guardS; rw [h1]; rfl) h2
      exact this.x
    | cons it r ih =>
      intro i ρ st e hi h
      have hlt : i < items.length := by
        rcases Nat.lt_or_ge i items.length with z | z
        · exact z
        · rw [List.drop_eq_nil_of_le z] at e; cases e
      rw [List.drop_eq_getElem_cons hlt] at e
      injection e with e1 e2
      obtain ⟨h1, h2⟩ := hs i it ρ st (by rw [← e1]; simp [hlt]) h
      with_unfolding_all
        unfold forL
        rw [runsX_bind]
        refine Runs.x (.of (a := ()) (st' := st) (by unfold guardS; rw [h1]; rfl) ?_)
        rw [runsX_bind]
        refine h2.imp (fun ρ1 st1 h3 => ?_) fun _ _ _ q => q
        rw [runsX_bind]
        refine h3.imp (fun c st2 h4 => ?_) fun _ _ _ q => q
        cases c with
        | nx ρ2 => exact ih (i + 1) ρ2 st2 e2 hlt h4
        | ct ρ2 => exact ih (i + 1) ρ2 st2 e2 hlt h4
        | bk ρ2 => exact h4
        | rt d => exact h4
  exact go items 0 ρ st rfl (Nat.zero_le _) h0
/-! try -/
theorem r_try {ex : Nat → Nat → Option Bool} {hs : List HdE} : Runs (sTry ex hs b ρ) st QC ↔ RunsX (b ρ) st QC fun c fs st' => Runs (tryH ex hs c fs ρ) st' QC := by
  with_unfolding_all
    unfold Runs RunsX sTry
    cases q : b ρ st <;> exact Iff.rfl
theorem r_tryH {ex : Nat → Nat → Option Bool} {h : HdE} {r : List HdE} {c : Nat} {fs : Option (List (Str × D))} : Runs (tryH ex (h :: r) c fs ρ) st QC ↔ match ex c h.k with
    | some true => (match runH h c fs ρ with
      | some (.rt v) => QC (.rt v) st
      | some (.nx ρ') => QC (.nx ρ') st
      | _ => False)
    | some false => Runs (tryH ex r c fs ρ) st QC
    | none => False := by
  with_unfolding_all
    unfold Runs
    cases q : ex c h.k with
    | none =>
      have e : tryH ex (h :: r) c fs ρ st = .stuck := by unfold tryH; simp [q]
      rw [e]
    | some b =>
      cases b with
      | false =>
        have e : tryH ex (h :: r) c fs ρ st = tryH ex r c fs ρ st := by conv => lhs; unfold tryH; simp [q]
        rw [e]
      | true =>
        cases k : runH h c fs ρ with
        | none =>
          have e : tryH ex (h :: r) c fs ρ st = .stuck := by unfold tryH; simp [q, k]
          rw [e]
        | some ctl =>
          cases ctl with
          | rt v =>
            have e : tryH ex (h :: r) c fs ρ st = .ok (.rt v) st := by unfold tryH; simp [q, k]
            rw [e]
          | nx v =>
            have e : tryH ex (h :: r) c fs ρ st = .ok (.nx v) st := by unfold tryH; simp [q, k]
            rw [e]
          | bk v =>
            have e : tryH ex (h :: r) c fs ρ st = .stuck := by unfold tryH; simp [q, k]
            rw [e]
          | ct v =>
            have e : tryH ex (h :: r) c fs ρ st = .stuck := by unfold tryH; simp [q, k]
            rw [e]
end
end DL

namespace DL
open PySem L2 PySem.Spec PyProof.Rows
section
section
variable {st : Sto} {ρ : En} {Q : D → Sto → Prop} {QU : Unit → Sto → Prop}
@[simp] theorem x_var {i : Nat} : Runs (eVar i ρ) st Q ↔ match ρ[i]? with | some (some d) => Q d st | _ => False := by
  with_unfolding_all
    unfold Runs eVar
    rcases ρ[i]? with _ | _ | d <;> exact Iff.rfl
@[simp] theorem x_add {i j : Int} : Runs (opAdd (.int i) (.int j)) st Q ↔ Q (.int (i + j)) st := by with_unfolding_all exact Iff.rfl
@[simp] theorem x_adds {a b : Str} : Runs (opAdd (.str a) (.str b)) st Q ↔ a.length + b.length ≤ sizeLine ∧ Q (.str (a ++ b)) st := by
  with_unfolding_all
    show Runs (fun st => if a.length + b.length ≤ sizeLine then .ok (.str (a ++ b)) st else .stuck) st Q ↔ _
    unfold Runs; by_cases h : a.length + b.length ≤ sizeLine <;> simp [h]
@[simp] theorem x_addt {a b : List D} : Runs (opAdd (.tup a) (.tup b)) st Q ↔ a.length + b.length ≤ sizeLine ∧ Q (.tup (a ++ b)) st := by
  with_unfolding_all
    show Runs (fun st => if a.length + b.length ≤ sizeLine then .ok (.tup (a ++ b)) st else .stuck) st Q ↔ _
    unfold Runs; by_cases h : a.length + b.length ≤ sizeLine <;> simp [h]
@[simp] theorem x_addl {i j : Nat} : Runs (opAdd (.loc i) (.loc j)) st Q ↔ ∃ a, lstAt st i = some a ∧ ∃ b, lstAt st j = some b ∧ a.length + b.length ≤ sizeLine ∧ Q (.loc st.length) (st ++ [.lst (a ++ b)]) := by
  with_unfolding_all
    unfold Runs; simp only [opAdd]
    rcases lstAt st i with _ | a <;> rcases lstAt st j with _ | b <;> simp
    by_cases h : a.length + b.length ≤ sizeLine <;> simp [h]
@[simp] theorem x_sub {i j : Int} : Runs (opSub (.int i) (.int j)) st Q ↔ Q (.int (i - j)) st := by with_unfolding_all exact Iff.rfl
@[simp] theorem x_neg {i : Int} : Runs (opNeg (.int i)) st Q ↔ Q (.int (-i)) st := by with_unfolding_all exact Iff.rfl
@[simp] theorem x_mul {i j : Int} : Runs (opMul (.int i) (.int j)) st Q ↔ (i.natAbs < 2 ^ 63 ∨ j.natAbs < 2 ^ 63) ∧ Q (.int (i * j)) st := by
  with_unfolding_all
    show Runs (fun st => if i.natAbs < 2 ^ 63 ∨ j.natAbs < 2 ^ 63 then .ok (.int (i * j)) st else .stuck) st Q ↔ _
    unfold Runs; by_cases h : i.natAbs < 2 ^ 63 ∨ j.natAbs < 2 ^ 63
    · simp only [if_pos h]; exact ⟨fun z => ⟨h, z⟩, fun z => z.2⟩
    · simp only [if_neg h]; exact ⟨False.elim, fun z => h z.1⟩
@[simp] theorem x_div {i j : Int} : Runs (opDiv (.int i) (.int j)) st Q ↔ (0 < j ∧ j < 1073741824) ∧ Q (.int (i / j)) st := by
  with_unfolding_all
    show Runs (fun st => if 0 < j ∧ j < 1073741824 then .ok (.int (i / j)) st else .stuck) st Q ↔ _
    unfold Runs; by_cases h : 0 < j ∧ j < 1073741824 <;> simp [h]
@[simp] theorem x_mod {i j : Int} : Runs (opMod (.int i) (.int j)) st Q ↔ 0 < j ∧ Q (.int (i % j)) st := by
  with_unfolding_all
    show Runs (fun st => if 0 < j then .ok (.int (i % j)) st else .stuck) st Q ↔ _
    unfold Runs; by_cases h : 0 < j <;> simp [h]
@[simp] theorem x_pow {i j : Int} : Runs (opPow (.int i) (.int j)) st Q ↔ (0 ≤ j ∧ j ≤ 1000 ∧ i.natAbs < 2 ^ 64) ∧ Q (.int (i ^ j.toNat)) st := by
  with_unfolding_all
    show Runs (fun st => if 0 ≤ j ∧ j ≤ 1000 ∧ i.natAbs < 2 ^ 64 then .ok (.int (i ^ j.toNat)) st else .stuck) st Q ↔ _
    unfold Runs; by_cases h : 0 ≤ j ∧ j ≤ 1000 ∧ i.natAbs < 2 ^ 64
    · simp only [if_pos h]; exact ⟨fun z => ⟨h, z⟩, fun z => z.2⟩
    · simp only [if_neg h]; exact ⟨False.elim, fun z => h z.1⟩
@[simp] theorem x_i {p : Int → Int → Bool} {i j : Int} : Runs (opI p (.int i) (.int j)) st Q ↔ Q (.bl (p i j)) st := by with_unfolding_all exact Iff.rfl
@[simp] theorem x_isn {x : D} : Runs (opIsN x .non) st Q ↔ Q (.bl x.isNon) st := by with_unfolding_all exact Iff.rfl
@[simp] theorem x_notn {x : D} : Runs (opNotN x .non) st Q ↔ Q (.bl (!x.isNon)) st := by with_unfolding_all exact Iff.rfl
@[simp] theorem x_isb {a b : Bool} : Runs (opIsB (.bl a) (.bl b)) st Q ↔ Q (.bl (decide (a = b))) st := by with_unfolding_all exact Iff.rfl
@[simp] theorem x_newT {ds : List D} : Runs (newT ds) st Q ↔ ds.length ≤ sizeLine ∧ Q (.tup ds) st := by
  with_unfolding_all
    unfold Runs newT; by_cases h : ds.length ≤ sizeLine <;> simp [h]
@[simp] theorem x_newL {ds : List D} : Runs (newL ds) st Q ↔ ds.length ≤ sizeLine ∧ Q (.loc st.length) (st ++ [.lst ds]) := by
  with_unfolding_all
    unfold Runs newL; by_cases h : ds.length ≤ sizeLine <;> simp [h]
@[simp] theorem x_ixt {ds : List D} {i : Int} : Runs (opIx (.tup ds) (.int i)) st Q ↔ ∃ d, atI ds i = some d ∧ Q d st := by
  with_unfolding_all
    unfold Runs; simp only [opIx, seqOf]
    rcases atI ds i with _ | ds <;> simp
@[simp] theorem x_ixl {l : Nat} {i : Int} : Runs (opIx (.loc l) (.int i)) st Q ↔ ∃ ds, seqAt st l = some ds ∧ ∃ d, atI ds i = some d ∧ Q d st := by
  with_unfolding_all
    unfold Runs; simp only [opIx, seqOf]
    rcases seqAt st l with _ | ds
    · simp
    · simp only [Option.some.injEq, exists_eq_left']
      rcases atI ds i with _ | d <;> simp
@[simp] theorem x_ixs {z : Str} {i : Int} : Runs (opIx (.str z) (.int i)) st Q ↔ z.length ≤ sizeLine ∧ ∃ c, atI z.cps.toList i = some c ∧ Q (.str ⟨#[c]⟩) st := by
  with_unfolding_all
    unfold Runs; simp only [opIx]
    by_cases h : z.length ≤ sizeLine
    · simp only [if_pos h, h, true_and]
      rcases atI z.cps.toList i with _ | d <;> simp
    · simp [h]
@[simp] theorem x_set {l : Nat} {k : Int} {d : D} : Runs (opSet (.loc l) (.int k) d) st QU ↔ ∃ ds, lstAt st l = some ds ∧ ∃ j, ixN ds.length k = some j ∧ QU () (st.set l (.lst (ds.set j d))) := by
  with_unfolding_all
    unfold Runs; simp only [opSet, seqOf]
    rcases lstAt st l with _ | ds
    · simp
    · simp only [Option.some.injEq, exists_eq_left']
      rcases ixN ds.length k with _ | d <;> simp
@[simp] theorem x_slt {ds : List D} {lo hi : Option Int} : Runs (opSl (.tup ds) lo hi) st Q ↔ Q (.tup (cutD ds lo hi)) st := by with_unfolding_all exact Iff.rfl
@[simp] theorem x_sll {l : Nat} {lo hi : Option Int} : Runs (opSl (.loc l) lo hi) st Q ↔ ∃ ds, seqAt st l = some ds ∧ Q (.loc st.length) (st ++ [.lst (cutD ds lo hi)]) := by
  with_unfolding_all
    unfold Runs; simp only [opSl, seqOf]
    rcases seqAt st l with _ | ds <;> simp
@[simp] theorem x_sls {z : Str} {lo hi : Option Int} : Runs (opSl (.str z) lo hi) st Q ↔ z.length ≤ sizeLine ∧ Q (.str (cutS z lo hi)) st := by
  with_unfolding_all
    show Runs (fun st => if z.length ≤ sizeLine then .ok (.str (cutS z lo hi)) st else .stuck) st Q ↔ _
    unfold Runs; by_cases h : z.length ≤ sizeLine <;> simp [h]
@[simp] theorem x_lent {ds : List D} : Runs (bLen [.tup ds]) st Q ↔ Q (.int ds.length) st := by with_unfolding_all exact Iff.rfl
@[simp] theorem x_lenl {l : Nat} : Runs (bLen [.loc l]) st Q ↔ ∃ ds, seqAt st l = some ds ∧ Q (.int ds.length) st := by
  with_unfolding_all
    unfold Runs; simp only [bLen, seqOf]
    rcases seqAt st l with _ | ds <;> simp
@[simp] theorem x_lens {z : Str} : Runs (bLen [.str z]) st Q ↔ z.length ≤ sizeLine ∧ Q (.int z.length) st := by
  with_unfolding_all
    show Runs (fun st => if z.length ≤ sizeLine then .ok (.int z.length) st else .stuck) st Q ↔ _
    unfold Runs; by_cases h : z.length ≤ sizeLine <;> simp [h]
@[simp] theorem x_int {i : Int} : Runs (bInt [.int i]) st Q ↔ Q (.int i) st := by with_unfolding_all exact Iff.rfl
@[simp] theorem x_tupl {l : Nat} : Runs (bTuple [.loc l]) st Q ↔ ∃ ds, seqAt st l = some ds ∧ Q (.tup ds) st := by
  with_unfolding_all
    unfold Runs; simp only [bTuple, seqOf]
    rcases seqAt st l with _ | ds <;> simp
@[simp] theorem x_listt {ds : List D} : Runs (bList [.tup ds]) st Q ↔ Q (.loc st.length) (st ++ [.lst ds]) := by with_unfolding_all exact Iff.rfl
@[simp] theorem x_chkl {l : Nat} : Runs (chkL (.loc l)) st QU ↔ (seqAt st l).isSome ∧ QU () st := by
  with_unfolding_all
    show Runs (fun st => if (seqAt st l).isSome then .ok () st else .stuck) st QU ↔ _
    unfold Runs; by_cases h : (seqAt st l).isSome <;> simp [h]
@[simp] theorem x_app {l : Nat} {d : D} : Runs (mAppend (.loc l) [d]) st Q ↔ ∃ ds, lstAt st l = some ds ∧ ds.length < sizeLine ∧ Q .non (st.set l (.lst (ds ++ [d]))) := by
  with_unfolding_all
    unfold Runs; simp only [mAppend]
    rcases lstAt st l with _ | ds
    · simp
    · simp only [Option.some.injEq, exists_eq_left']
      by_cases h : ds.length < sizeLine <;> simp [h]
@[simp] theorem x_ext {l j : Nat} : Runs (mExtend (.loc l) [.loc j]) st Q ↔ ∃ ds, lstAt st l = some ds ∧ ∃ es, lstAt st j = some es ∧ ds.length + es.length ≤ sizeLine ∧ Q .non (st.set l (.lst (ds ++ es))) := by
  with_unfolding_all
    unfold Runs; simp only [mExtend]
    rcases lstAt st l with _ | ds <;> rcases lstAt st j with _ | es <;> simp
    by_cases h : ds.length + es.length ≤ sizeLine <;> simp [h]
@[simp] theorem x_eqi {i j : Int} : Runs (opEq (.int i) (.int j)) st Q ↔ Q (.bl (decide (i = j))) st := by
  with_unfolding_all
    have : eqData st (.int i) (.int j) = some (decide (i = j)) := by
      show some (i == j) = _
      by_cases h : i = j <;> simp [h]
    unfold Runs opEq; rw [this]
@[simp] theorem x_eqs {i j : Str} : Runs (opEq (.str i) (.str j)) st Q ↔ (PyData.strOk i = true ∧ PyData.strOk j = true) ∧ Q (.bl (decide (i = j))) st := by
  with_unfolding_all
    have : eqData st (.str i) (.str j) = if PyData.strOk i = true ∧ PyData.strOk j = true then some (decide (i = j)) else none := by
      show (if (PyData.strOk i && decide (0 ≤ 64)) && (PyData.strOk j && decide (0 ≤ 64)) then some (i == j) else none) = _
      have e : (i == j) = decide (i = j) := rfl
      rw [e]; simp
    unfold Runs; simp only [opEq]; rw [this]
    by_cases h : PyData.strOk i = true ∧ PyData.strOk j = true
    · simp [h]
    · simp only [if_neg h]; exact ⟨False.elim, fun z => h z.1⟩
@[simp] theorem x_eqb {i j : Bool} : Runs (opEq (.bl i) (.bl j)) st Q ↔ Q (.bl (decide (i = j))) st := by
  with_unfolding_all
    have : eqData st (.bl i) (.bl j) = some (decide (i = j)) := by
      show some (PyData.eqv (.bool i) (.bool j)) = _
      cases i <;> cases j <;> rfl
    unfold Runs opEq; rw [this]
@[simp] theorem x_nes {i j : Str} : Runs (opNe (.str i) (.str j)) st Q ↔ (PyData.strOk i = true ∧ PyData.strOk j = true) ∧ Q (.bl (!decide (i = j))) st := by
  with_unfolding_all
    have : eqData st (.str i) (.str j) = if PyData.strOk i = true ∧ PyData.strOk j = true then some (decide (i = j)) else none := by
      show (if (PyData.strOk i && decide (0 ≤ 64)) && (PyData.strOk j && decide (0 ≤ 64)) then some (i == j) else none) = _
      have e : (i == j) = decide (i = j) := rfl
      rw [e]; simp
    unfold Runs; simp only [opNe]; rw [this]
    by_cases h : PyData.strOk i = true ∧ PyData.strOk j = true
    · simp [h]
    · simp only [if_neg h]; exact ⟨False.elim, fun z => h z.1⟩
@[simp] theorem x_int_t {x : D} {ys : List D} : Runs (opIn x (.tup ys)) st Q ↔ (x.flat && ys.all D.flat) = true ∧ Q (.bl (x.inF ys)) st := by
  with_unfolding_all
    show Runs (fun st => if x.flat && ys.all D.flat then .ok (.bl (x.inF ys)) st else .stuck) st Q ↔ _
    unfold Runs; by_cases h : (x.flat && ys.all D.flat) = true
    · simp only [h, if_true, true_and]
    · simp only [h, if_false, Bool.false_eq_true, false_and]
@[simp] theorem x_in_l {x : D} {l : Nat} : Runs (opIn x (.loc l)) st Q ↔ ∃ ys, seqAt st l = some ys ∧ (x.flat && ys.all D.flat) = true ∧ Q (.bl (x.inF ys)) st := by
  with_unfolding_all
    unfold Runs; simp only [opIn, seqOf]
    rcases seqAt st l with _ | ys
    · cases x <;> simp
    · simp only [Option.some.injEq, exists_eq_left']
      by_cases h : (x.flat && ys.all D.flat) = true
      · simp only [h, if_true, true_and]
      · simp only [h, if_false, Bool.false_eq_true, false_and]
@[simp] theorem x_nin_l {x : D} {l : Nat} : Runs (opNotIn x (.loc l)) st Q ↔ ∃ ys, seqAt st l = some ys ∧ (x.flat && ys.all D.flat) = true ∧ Q (.bl (!x.inF ys)) st := by
  with_unfolding_all
    unfold Runs; simp only [opNotIn, seqOf]
    rcases seqAt st l with _ | ys
    · cases x <;> simp
    · simp only [Option.some.injEq, exists_eq_left']
      by_cases h : (x.flat && ys.all D.flat) = true
      · simp only [h, if_true, true_and]
      · simp only [h, if_false, Bool.false_eq_true, false_and]
@[simp] theorem x_nin_t {x : D} {ys : List D} : Runs (opNotIn x (.tup ys)) st Q ↔ (x.flat && ys.all D.flat) = true ∧ Q (.bl (!x.inF ys)) st := by
  with_unfolding_all
    show Runs (fun st => if x.flat && ys.all D.flat then .ok (.bl (!x.inF ys)) st else .stuck) st Q ↔ _
    unfold Runs; by_cases h : (x.flat && ys.all D.flat) = true
    · simp only [h, if_true, true_and]
    · simp only [h, if_false, Bool.false_eq_true, false_and]
theorem rOpNotInX {x : D} {ys : List D} (h : (x.flat && ys.all D.flat) = true) : Runs (opNotInX x (.tup ys)) st Q ↔ Q (.bl (!x.inF ys)) st := by
  with_unfolding_all
    have e : opNotInX x (.tup ys) st = opNotIn x (.tup ys) st := by
      simp only [orElseM, opNotIn, seqOf]
      rw [if_pos h]
    unfold Runs; rw [e]
    simp only [opNotIn, seqOf]
    rw [if_pos h]
@[simp] theorem x_in_s {c : Nat} {z : Str} : Runs (opIn (.str ⟨#[c]⟩) (.str z)) st Q ↔ Q (.bl (decide (c ∈ z.cps.toList))) st := by with_unfolding_all exact Iff.rfl
@[simp] theorem x_all {l : Nat} : Runs (bAll [.loc l]) st Q ↔ ∃ bs, (seqAt st l).bind blsOf = some bs ∧ Q (.bl (bs.all _root_.id)) st := by
  with_unfolding_all
    unfold Runs; simp only [bAll, seqOf]
    rcases (seqAt st l).bind blsOf with _ | ds <;> simp
@[simp] theorem x_any {l : Nat} : Runs (bAny [.loc l]) st Q ↔ ∃ bs, (seqAt st l).bind blsOf = some bs ∧ Q (.bl (bs.any _root_.id)) st := by
  with_unfolding_all
    unfold Runs; simp only [bAny, seqOf]
    rcases (seqAt st l).bind blsOf with _ | ds <;> simp
theorem x_isi {T t : String} {d : D} {b : Bool} (h1 : d.ty st = some t) (h2 : kitB t T = some b) : Runs (isiB T d) st Q ↔ Q (.bl b) st := by with_unfolding_all (unfold Runs isiB; rw [h1]; simp only [h2])
end
section
variable {st : Sto} {ρ : En} {f : En → M D} {QI : ItD → Sto → Prop}
@[simp] theorem x_itRange : Runs (itRange f ρ) st QI ↔ Runs (f ρ) st fun d st' => match d with | .int n => (n < 2 ^ 62 ∧ -(2 ^ 62) ≤ n) ∧ QI ⟨(List.range n.toNat).map fun (i : Nat) => Item.one (D.int (i : Int)), fun _ => true⟩ st' | _ => False := by
  with_unfolding_all
    unfold itRange; rw [runs_bind]
    constructor <;> intro z <;> refine z.imp fun d st1 q => ?_ <;> cases d <;> try exact q
    · rename_i n
      by_cases h : n < 2 ^ 62 ∧ -(2 ^ 62) ≤ n
      · simp only [h, if_true] at q; exact ⟨by simpa using h, q⟩
      · simp only [h, if_false] at q; exact q.elim
    · rename_i n
      have := q.1
      simp only [this, if_true]; exact q.2
@[simp] theorem x_itEnum : Runs (itEnumT f ρ) st QI ↔ Runs (f ρ) st fun d st' => match d with | .tup ds => QI ⟨enumD 0 ds, fun _ => true⟩ st' | _ => False := by
  with_unfolding_all
    unfold itEnumT; rw [runs_bind]
    constructor <;> intro z <;> refine z.imp fun d st1 q => ?_ <;> cases d <;> exact q
@[simp] theorem x_itStr : Runs (itStr f ρ) st QI ↔ Runs (f ρ) st fun d st' => match d with | .str z => QI ⟨z.cps.toList.map fun c => .one (.str ⟨#[c]⟩), fun _ => true⟩ st' | _ => False := by
  with_unfolding_all
    unfold itStr; rw [runs_bind]
    constructor <;> intro z <;> refine z.imp fun d st1 q => ?_ <;> cases d <;> exact q
@[simp] theorem x_itSeq : Runs (itSeq f ρ) st QI ↔ Runs (f ρ) st fun d st' => match d with
    | .tup ds => QI ⟨ds.map .one, fun _ => true⟩ st'
    | .str z => QI ⟨z.cps.toList.map fun c => .one (.str ⟨#[c]⟩), fun _ => true⟩ st'
    | .loc i => ∃ ds, seqAt st' i = some ds ∧ QI ⟨ds.map .one, fun st' => decide (seqAt st' i = some ds)⟩ st'
    | _ => False := by
  with_unfolding_all
    unfold itSeq; rw [runs_bind]
    constructor <;> intro z <;> refine z.imp fun d st1 q => ?_ <;> cases d <;> try exact q
    · rename_i i
      have q' : Runs (fun st => match seqAt st i with | some ds => .ok ⟨ds.map .one, fun st' => decide (seqAt st' i = some ds)⟩ st | none => .stuck) st1 QI := q
      clear q; unfold Runs at q'
      show ∃ ds, _
      rcases h : seqAt st1 i with _ | ds
      · simp only [h] at q'
      · simp only [h] at q'; exact ⟨ds, rfl, q'⟩
    · rename_i i
      obtain ⟨ds, h, q⟩ := q
      show Runs (fun st => match seqAt st i with | some ds => .ok ⟨ds.map .one, fun st' => decide (seqAt st' i = some ds)⟩ st | none => .stuck) st1 QI
      unfold Runs
      simp only [h]; exact q
@[simp] theorem x_tyes {QB : Bool → Sto → Prop} : Runs (tYesD ρ) st QB ↔ QB true st := by with_unfolding_all exact Iff.rfl
end
end
section
/-! stores -/
section
variable {st st' st'' : Sto} {i j b : Nat} {o : SO} {ds : List D} {ex ex' : List Nat}
theorem sq_lst (h : lstAt st i = some ds) : seqAt st i = some ds := by
  unfold lstAt at h; unfold seqAt
  split at h <;> simp_all
theorem lst_lt (h : lstAt st i = some ds) : i < st.length := by
  rcases Nat.lt_or_ge i st.length with z | z
  · exact z
  · unfold lstAt at h; rw [List.getElem?_eq_none z] at h; cases h
theorem lst_set (h : i < st.length) : lstAt (st.set i (.lst ds)) i = some ds := by unfold lstAt; simp [h]
theorem lst_set_ne (h : i ≠ j) : lstAt (st.set i o) j = lstAt st j := by unfold lstAt; rw [List.getElem?_set_ne h]
theorem seq_set_ne (h : i ≠ j) : seqAt (st.set i o) j = seqAt st j := by unfold seqAt; rw [List.getElem?_set_ne h]
theorem lst_new : lstAt (st ++ [.lst ds]) st.length = some ds := by unfold lstAt; simp
theorem lst_old (h : i < st.length) : lstAt (st ++ [o]) i = lstAt st i := by unfold lstAt; rw [List.getElem?_append_left h]
theorem seq_old (h : i < st.length) : seqAt (st ++ [o]) i = seqAt st i := by unfold seqAt; rw [List.getElem?_append_left h]
structure Fr (ex : List Nat) (st st' : Sto) : Prop where
  le : st.length ≤ st'.length
  eq : ∀ i, i < st.length → i ∉ ex → st'[i]? = st[i]?
theorem Fr.refl : Fr ex st st := ⟨Nat.le_refl _, fun _ _ _ => rfl⟩
theorem Fr.trans (h : Fr ex st st') (k : Fr ex st' st'') : Fr ex st st'' := ⟨Nat.le_trans h.le k.le, fun i a e => (k.eq i (Nat.lt_of_lt_of_le a h.le) e).trans (h.eq i a e)⟩
theorem Fr.sub (h : Fr ex st st') (k : ∀ i, i < st.length → i ∈ ex → i ∈ ex') : Fr ex' st st' := ⟨h.le, fun i a e => h.eq i a fun z => e (k i a z)⟩
theorem Fr.lst (h : Fr ex st st') (e : lstAt st i = some ds) (n : i ∉ ex) : lstAt st' i = some ds := by
  have := h.eq i (lst_lt e) n
  unfold lstAt at e ⊢; rw [this]; exact e
theorem seq_lt (h : seqAt st i = some ds) : i < st.length := by
  rcases Nat.lt_or_ge i st.length with z | z
  · exact z
  · unfold seqAt at h; rw [List.getElem?_eq_none z] at h; cases h
theorem Fr.seq (h : Fr ex st st') (e : seqAt st i = some ds) (n : i ∉ ex) : seqAt st' i = some ds := by
  have := h.eq i (seq_lt e) n
  unfold seqAt at e ⊢; rw [this]; exact e
theorem Fr.set (h : i ∈ ex) : Fr ex st (st.set i o) := ⟨by simp, fun j _ n => by rw [List.getElem?_set_ne]; rintro rfl; exact n h⟩
theorem Fr.new : Fr ex st (st ++ [o]) := ⟨by simp, fun j a _ => List.getElem?_append_left a⟩
theorem Fr.setNew (h : Fr ex st st') (k : st.length ≤ i) : Fr ex st (st'.set i o) := ⟨by simpa using h.le, fun j a n => by rw [List.getElem?_set_ne (by omega)]; exact h.eq j a n⟩
end
/-! the box -/
structure BoxAt (st : Sto) (b c : Nat) (ns : List Int) (p q s n : Int) : Prop where
  ne : b ≠ c
  b : lstAt st b = some [.loc c, .int p, .int q, .int s, .int n]
  c : lstAt st c = some (ns.map D.int)
  p : 0 ≤ p
def Box (st : Sto) (b c : Nat) : Prop := ∃ ns p q s n, BoxAt st b c ns p q s n
theorem Box.lt {st : Sto} {b c : Nat} (h : Box st b c) : b < st.length := by
  obtain ⟨ns, p, q, s, n, h⟩ := h
  exact lst_lt h.b
theorem Box.ltc {st : Sto} {b c : Nat} (h : Box st b c) : c < st.length := by
  obtain ⟨ns, p, q, s, n, h⟩ := h
  exact lst_lt h.c
theorem Box.fr {st st' : Sto} {b c : Nat} {ex : List Nat} (h : Box st b c) (f : Fr ex st st') (h1 : b ∉ ex) (h2 : c ∉ ex) : Box st' b c := by
  obtain ⟨ns, p, q, s, n, h⟩ := h
  exact ⟨ns, p, q, s, n, h.ne, f.lst h.b h1, f.lst h.c h2, h.p⟩
theorem Box.app {st : Sto} {b c : Nat} {o : SO} (h : Box st b c) : Box (st ++ [o]) b c := h.fr (ex := []) .new (by simp) (by simp)
theorem Box.set {st : Sto} {b c i : Nat} {o : SO} (h : Box st b c) (h1 : i ≠ b) (h2 : i ≠ c) : Box (st.set i o) b c := h.fr (ex := [i]) (.set (by simp)) (by simp; omega) (by simp; omega)
theorem BoxAt.set {st : Sto} {b c : Nat} {ns : List Int} {p q s n p' q' s' n' : Int} (h : BoxAt st b c ns p q s n) (hp : 0 ≤ p') : BoxAt (st.set b (.lst [.loc c, .int p', .int q', .int s', .int n'])) b c ns p' q' s' n' :=
  ⟨h.ne, lst_set (lst_lt h.b), by rw [lst_set_ne h.ne]; exact h.c, hp⟩
theorem mix_spec {st : Sto} {v k : Int} : Runs (m__law_mix [.int v, .int k]) st fun d st' => st' = st ∧ ∃ r, d = .int r := by
  unfold m__law_mix b__law_mix
  rw [r_fn]
  simp
  have h0 : ∀ x : Int, 0 ≤ x % 2147483647 := fun x => Int.emod_nonneg _ (by omega)
  have h1 : ∀ x : Int, x % 2147483647 < 2147483647 := fun x => Int.emod_lt_of_pos _ (by omega)
  refine ⟨?_, ?_⟩
  · left; have := h0 ((v + 7919 * k + 1) * 48271); have := h1 ((v + 7919 * k + 1) * 48271); omega
  · left
    generalize (v + 7919 * k + 1) * 48271 % 2147483647 * _ = z
    have := h0 z; have := h1 z; omega
end
section
theorem atI_ints {ns : List Int} {p : Int} (h0 : 0 ≤ p) (h1 : p < ns.length) : ∃ v, atI (ns.map D.int) p = some (.int v) := by
  refine ⟨ns[p.toNat]'(by omega), ?_⟩
  unfold atI ixN
  simp only [List.length_map, if_pos h0, if_pos h1, Option.bind_some]
  rw [List.getElem?_map, List.getElem?_eq_getElem (by omega)]; rfl
theorem seq_set {st : Sto} {i : Nat} {ds : List D} (h : i < st.length) : seqAt (st.set i (.lst ds)) i = some ds := sq_lst (lst_set h)
def DrawQ (st : Sto) (b c : Nat) (many : Int) (d : D) (st' : Sto) : Prop := ∃ k, d = .int k ∧ 0 ≤ k ∧ k < many ∧ Fr [b] st st' ∧ Box st' b c
theorem drawQ_mk {st : Sto} {b c : Nat} {ns : List Int} {p q s n p' q' s' n' : Int} (h : BoxAt st b c ns p q s n) (hp : 0 ≤ p') {many k : Int} (h0 : 0 ≤ k) (h1 : k < many) : DrawQ st b c many (.int k) (st.set b (.lst [.loc c, .int p', .int q', .int s', .int n'])) :=
  ⟨k, rfl, h0, h1, .set (by simp), ns, p', q', s', n', h.set hp⟩
section
variable {α : Type} {a0 a1 a2 a3 a4 : α} {r : List α}
@[simp] theorem at0 : atI (a0 :: r) 0 = some a0 := by
  unfold atI ixN; rw [if_pos (by decide), if_pos (by simp only [List.length_cons]; omega)]; rfl
@[simp] theorem at1 : atI (a0 :: a1 :: r) 1 = some a1 := by
  unfold atI ixN; rw [if_pos (by decide), if_pos (by simp only [List.length_cons]; omega)]; rfl
@[simp] theorem at2 : atI (a0 :: a1 :: a2 :: r) 2 = some a2 := by
  unfold atI ixN; rw [if_pos (by decide), if_pos (by simp only [List.length_cons]; omega)]; rfl
@[simp] theorem at3 : atI (a0 :: a1 :: a2 :: a3 :: r) 3 = some a3 := by
  unfold atI ixN; rw [if_pos (by decide), if_pos (by simp only [List.length_cons]; omega)]; rfl
@[simp] theorem at4 : atI (a0 :: a1 :: a2 :: a3 :: a4 :: r) 4 = some a4 := by
  unfold atI ixN; rw [if_pos (by decide), if_pos (by simp only [List.length_cons]; omega)]; rfl
end
theorem draw_spec {st : Sto} {b c : Nat} {many : Int} (hB : Box st b c) (h0 : 0 < many) (h1 : many < 1000) : Runs (m__law_draw [.loc b, .int many]) st (DrawQ st b c many) := by
  obtain ⟨ns, p, q, s, n, h⟩ := hB
  have hb := lst_lt h.b
  have hm : ∀ x : Int, 0 ≤ x % many ∧ x % many < many := fun x => ⟨Int.emod_nonneg _ (by omega), Int.emod_lt_of_pos _ h0⟩
  have hbound : many < 1073741824 := by omega
  unfold m__law_draw b__law_draw
  rw [r_fn]
  refine ⟨rfl, ?_⟩
  have e1 := sq_lst h.b
  have e2 := sq_lst h.c
  have e3 : ∀ o, seqAt (st.set b o) c = some (ns.map D.int) := fun o => by rw [seq_set_ne h.ne]; exact e2
  have fin : ∀ (p' q' s' n' x : Int), 0 ≤ p' → DrawQ st b c many (.int (x % many)) (st.set b (.lst [.loc c, .int p', .int q', .int s', .int n'])) := fun p' q' s' n' x hp => drawQ_mk h hp (hm x).1 (hm x).2
  have e4 := h.p
  have mx : ∀ (v k : Int) (st : Sto) (Q : D → Sto → Prop), (∀ r, Q (.int r) st) → Runs (m__law_mix [.int v, .int k]) st Q := fun v k st Q z => mix_spec.imp fun d st' ⟨e, r, e'⟩ => by subst e; subst e'; exact z r
  by_cases hq : q = 0
  · by_cases hp : p < ns.length
    · obtain ⟨v, hv⟩ := atI_ints h.p hp
      by_cases hl : v < 1000000000000000000
      · simp [e1, e2, e3, h.b, hb, hq, hp, hv, hl, ixN, seq_set, lst_set, List.set_set]
        refine mx _ _ _ _ fun r => ?_
        simp [h0]
        exact fin _ _ _ _ _ (by omega)
      · by_cases hv0 : v = 0
        · omega
        · simp [e1, e2, e3, h.b, hb, hq, hp, hv, hl, hv0, ixN, seq_set, lst_set, List.set_set, h0, hbound]
          exact fin _ _ _ _ _ (by omega)
    · simp [e1, e2, e3, h.b, hb, hq, hp, ixN, seq_set, lst_set, List.set_set]
      refine mx _ _ _ _ fun r => ?_
      simp [h0]
      exact fin _ _ _ _ _ (by omega)
  · simp [e1, e2, e3, h.b, hb, hq, ixN, seq_set, lst_set, List.set_set, h0, hbound]
    exact fin _ _ _ _ _ (by omega)
end
section
theorem cutD_ints {ns : List Int} {lo hi : Option Int} : ∃ ms : List Int, cutD (ns.map D.int) lo hi = ms.map D.int ∧ ms.length ≤ ns.length := by
  refine ⟨(ns.drop (HT.sIx ns.length 0 lo)).take (HT.sIx ns.length ns.length hi - HT.sIx ns.length 0 lo), ?_, ?_⟩
  · unfold cutD; simp only [List.length_map, List.map_take, List.map_drop]
  · simp only [List.length_take, List.length_drop]; omega
theorem map_item {α : Type} {f : α → D} {xs : List α} {i : Nat} {it : Item} (h : ((xs.map f).map Item.one)[i]? = some it) : ∃ (hi : i < xs.length), it = .one (f xs[i]) := by
  rw [List.getElem?_map, List.getElem?_map] at h
  rcases Nat.lt_or_ge i xs.length with z | z
  · rw [List.getElem?_eq_getElem z] at h; exact ⟨z, (Option.some.inj h).symm⟩
  · rw [List.getElem?_eq_none z] at h; cases h
theorem range_item {n i : Nat} {it : Item} (h : ((List.range n).map fun (i : Nat) => Item.one (D.int (i : Int)))[i]? = some it) : i < n ∧ it = .one (.int (i : Int)) := by
  rw [List.getElem?_map] at h
  rcases Nat.lt_or_ge i n with z | z
  · rw [List.getElem?_range z] at h; exact ⟨z, (Option.some.inj h).symm⟩
  · rw [List.getElem?_eq_none (by simpa using z)] at h; cases h
theorem mx {v k : Int} {st : Sto} {Q : D → Sto → Prop} (z : ∀ r, Q (.int r) st) : Runs (m__law_mix [.int v, .int k]) st Q := mix_spec.imp fun d st' ⟨e, r, e'⟩ => by subst e; subst e'; exact z r
theorem sz63 (n : Nat) (h : n ≤ 63) : n < sizeLine := Nat.lt_of_le_of_lt h (by decide)
theorem box_spec {ns : List Int} (h : ns.length ≤ 63) : Runs (m__law_box [.loc 0]) [.frz (ns.map .int)] fun d st' => ∃ b c, d = .loc b ∧ Box st' b c := by
  obtain ⟨ms, e, hms⟩ := cutD_ints (ns := ns) (lo := none) (hi := some 63)
  unfold m__law_box b__law_box
  rw [r_fn]
  refine ⟨rfl, ?_⟩
  simp [seqAt]
  rw [e]
  have h1 : ∀ k, k ≤ ms.length → ((ms.take k).map D.int).length < sizeLine := fun k hk => sz63 _ (by simp; omega)
  refine runs_lcL (fun k st => st = [.frz (ns.map .int), .lst (ms.map .int), .lst ((ms.take k).map .int)]) (by simp) ?_ ?_
  · rintro i it st hi rfl
    obtain ⟨hlt, rfl⟩ := map_item hi
    refine ⟨by simp, ?_⟩
    simp [lstAt, wipeD]
    exact ⟨by have := h1 i (by omega); simpa using this, by rw [← List.map_take, ← List.map_take, ← List.take_append_getElem hlt, List.map_append]; rfl⟩
  · rintro st rfl
    refine ⟨by simp, ?_⟩
    simp
    refine runs_forL (fun k ρ st => (∃ s : Int, ∃ a3, ρ = [some (.loc 0), some (.loc 2), some (.int s), a3]) ∧ st = [.frz (ns.map .int), .lst (ms.map .int), .lst (ms.map .int)]) ⟨⟨11, _, rfl⟩, by simp⟩ ?_ ?_
    · rintro i it ρ st hi ⟨⟨s, a3, rfl⟩, rfl⟩
      obtain ⟨hlt, rfl⟩ := map_item (by rw [List.map_map]; exact hi)
      refine ⟨by simp, ?_⟩
      simp
      refine mx fun r => ?_
      simp
    · rintro ρ st ⟨⟨s, a3, rfl⟩, rfl⟩
      refine ⟨by simp, ?_⟩
      simp
      exact ⟨by decide, 2, ms, 0, 0, s, 0, by decide, rfl, by simp [lstAt], by decide⟩
/-! names -/
def lets : List Nat := (Str.ofString "abcdefghijklmnopqrstuvwxyz").cps.toList
theorem lets_len : lets.length = 26 := by decide +kernel
theorem lets_nodup : lets.Nodup := by decide +kernel
theorem lets_lt : ∀ c ∈ lets, c < 1114112 := by decide +kernel
def Lts (s : Str) : Prop := ∀ c ∈ s.cps.toList, c ∈ lets
def NameOK (s : Str) : Prop := 1 ≤ s.length ∧ s.length ≤ 8 ∧ Lts s
theorem NameOK.ok {s : Str} (h : NameOK s) : PyData.strOk s = true := by
  unfold PyData.strOk
  rw [← Array.all_toList, List.all_eq_true]
  intro c hc
  exact decide_eq_true (lets_lt c (h.2.2 c hc))
def NamesOK (xs : List Str) : Prop := (∀ x ∈ xs, NameOK x) ∧ xs.Nodup
theorem inF_str {x : Str} {xs : List Str} : (D.str x).inF (xs.map D.str) = decide (x ∈ xs) := by
  unfold D.inF
  rw [List.any_map]
  induction xs with
  | nil => simp
  | cons y ys ih =>
    rw [List.any_cons, ih]
    have e : (D.str y).eqF (D.str x) = decide (y = x) := rfl
    simp only [Function.comp, e, List.mem_cons]
    by_cases h : y = x
    · subst h; simp
    · have h' : ¬ x = y := fun z => h z.symm
      simp [h, h']
theorem flat_str {xs : List Str} : (xs.map D.str).all D.flat = true := by
  rw [List.all_map, List.all_eq_true]; intro x _; rfl
theorem nodup_le {α : Type} [DecidableEq α] : ∀ {xs ys : List α}, xs.Nodup → (∀ x ∈ xs, x ∈ ys) → xs.length ≤ ys.length
  | [], _, _, _ => Nat.zero_le _
  | x :: xs, ys, h, k => by
    rw [List.nodup_cons] at h
    have hx := k x (by simp)
    have : xs.length ≤ (ys.erase x).length := nodup_le h.2 fun z hz => by
      have hzx : z ≠ x := by rintro rfl; exact h.1 hz
      exact (List.mem_erase_of_ne hzx).mpr (k z (by simp [hz]))
    rw [List.length_erase_of_mem hx] at this
    have := List.length_pos_of_mem hx
    simp only [List.length_cons]; omega
def sign (c : Nat) : Str := ⟨#[c]⟩
theorem app_len (a b : Str) : (a ++ b).length = a.length + b.length := Array.size_append
theorem app_cps (a b : Str) : (a ++ b).cps.toList = a.cps.toList ++ b.cps.toList := Array.toList_append
def cut7 (w : Str) : Str := cutS w none (some 7)
theorem cut7_cps (w : Str) : (cut7 w).cps.toList = w.cps.toList.take 7 := by
  have : (cut7 w).cps.toList = (w.cps.toList.drop 0).take (min 7 w.length - 0) := by
    unfold cut7 cutS HT.sIx; simp
  rw [this]
  simp only [List.drop_zero, Nat.sub_zero]
  have e : w.length = w.cps.toList.length := rfl
  rw [e, Nat.min_comm, ← List.take_take]
  exact List.take_of_length_le (by rw [List.length_take]; omega)
theorem cut_ok {w : Str} (h : NameOK w) {c : Nat} (hc : c ∈ lets) : NameOK (cut7 w ++ sign c) := by
  have e : (cut7 w ++ sign c).cps.toList = w.cps.toList.take 7 ++ [c] := by rw [app_cps, cut7_cps]; rfl
  have l : (cut7 w ++ sign c).length = (w.cps.toList.take 7 ++ [c]).length := by rw [← e]; rfl
  have l2 : (w.cps.toList.take 7 ++ [c]).length ≤ 8 := by simp; omega
  refine ⟨?_, by omega, ?_⟩
  · rw [l]; simp
  · unfold Lts; rw [e]; intro d hd
    rcases List.mem_append.mp hd with z | z
    · exact h.2.2 d (List.mem_of_mem_take z)
    · simp at z; rw [z]; exact hc
theorem cut_inj {w : Str} {c d : Nat} (h : cut7 w ++ sign c = cut7 w ++ sign d) : c = d := by
  have : (cut7 w ++ sign c).cps.toList = (cut7 w ++ sign d).cps.toList := by rw [h]
  rw [app_cps, app_cps] at this
  have := List.append_cancel_left this
  injection this
theorem free_ne {w : Str} {xs : List Str} (h : xs.length < 26) : lets.filter (fun c => !decide (cut7 w ++ sign c ∈ xs)) ≠ [] := by
  intro e
  have : (lets.map fun c => cut7 w ++ sign c).length ≤ xs.length := nodup_le (by
    rw [List.nodup_iff_pairwise_ne, List.pairwise_map]
    exact lets_nodup.imp fun hne he => hne (cut_inj he)) (fun x hx => by
    obtain ⟨c, hc, rfl⟩ := List.mem_map.mp hx
    have := List.filter_eq_nil_iff.mp e c hc
    simpa using this)
  rw [List.length_map, lets_len] at this
  omega
theorem lets_at {x : Int} (h0 : 0 ≤ x) (h1 : x < 26) : ∃ c, atI (Str.ofString "abcdefghijklmnopqrstuvwxyz").cps.toList x = some c ∧ c ∈ lets := by
  have hl : (Str.ofString "abcdefghijklmnopqrstuvwxyz").cps.toList.length = 26 := lets_len
  refine ⟨lets[x.toNat]'(by rw [lets_len]; omega), ?_, List.getElem_mem _⟩
  unfold atI ixN
  rw [if_pos h0, hl, if_pos (by omega)]
  show lets[x.toNat]? = _
  rw [List.getElem?_eq_getElem]
theorem lets_sz : (Str.ofString "abcdefghijklmnopqrstuvwxyz").length ≤ sizeLine := by
  have : (Str.ofString "abcdefghijklmnopqrstuvwxyz").length = lets.length := rfl
  rw [this, lets_len]; decide
theorem emp_cps : (Str.ofString "").cps.toList = [] := by decide +kernel
theorem emp_len : (Str.ofString "").length = 0 := by decide +kernel
theorem Lts.emp : Lts (Str.ofString "") := by unfold Lts; rw [emp_cps]; simp
theorem Lts.push {w : Str} {c : Nat} (h : Lts w) (hc : c ∈ lets) : Lts (w ++ ⟨#[c]⟩) := by
  intro d hd
  rw [app_cps] at hd
  rcases List.mem_append.mp hd with z | z
  · exact h d z
  · have : d = c := by simpa using z
    rw [this]; exact hc
theorem set_new {st : Sto} {o o' : SO} : (st ++ [o]).set st.length o' = st ++ [o'] := by simp
theorem cut7_len (w : Str) : (cut7 w).length ≤ 7 := by
  have : (cut7 w).length = (cut7 w).cps.toList.length := rfl
  rw [this, cut7_cps, List.length_take]; omega
end
section
structure NamesAt (st : Sto) (b c : Nat) (n : Nat) (L : Nat) (st' : Sto) (xs : List Str) : Prop where
  new : st.length ≤ L
  at_ : lstAt st' L = some (xs.map .str)
  len : xs.length = n
  ok : NamesOK xs
  fr : Fr [b] st st'
  box : Box st' b c
theorem NamesAt.push {st st1 st3 : Sto} {b c k L : Nat} {xs : List Str} {w : Str} (h : NamesAt st b c k L st1 xs) (hb : b < st.length) (hc : c < st.length) (F : Fr [b] st1 st3) (B : Box st3 b c) (hw : NameOK w) (hn : w ∉ xs) : NamesAt st b c (k + 1) L (st3.set L (.lst (xs.map .str ++ [.str w]))) (xs ++ [w]) := by
  have hL := h.new
  have hl : lstAt st3 L = some (xs.map .str) := F.lst h.at_ (by simp; omega)
  refine ⟨h.new, ?_, by simp [h.len], ⟨?_, ?_⟩, ((h.fr.trans F).setNew hL), B.set (by omega) (by omega)⟩
  · rw [lst_set (lst_lt hl), List.map_append]; rfl
  · intro x hx
    rcases List.mem_append.mp hx with z | z
    · exact h.ok.1 x z
    · simp at z; rw [z]; exact hw
  · rw [List.nodup_append]
    refine ⟨h.ok.2, by simp, ?_⟩
    rintro a ha y hy rfl
    simp at hy; subst hy; exact hn ha
theorem names_spec {st : Sto} {b c : Nat} {n : Nat} (hB : Box st b c) (h1 : n ≤ 5) : Runs (m__law_names [.loc b, .int n]) st fun d st' => ∃ L, d = .loc L ∧ ∃ xs, NamesAt st b c n L st' xs := by
  have hb := hB.lt
  have hc := hB.ltc
  have hbs : st.length ≠ b := by omega
  have hbs' : b ≠ st.length := by omega
  have big : ∀ n : Nat, n < 100 → n < sizeLine := fun n h => Nat.lt_trans h (by decide)
  unfold m__law_names b__law_names
  rw [r_fn]
  refine ⟨rfl, ?_⟩
  simp
  refine ⟨by omega, runs_forL (fun k ρ st1 => ∃ xs a3 a4 a5 a6 a7, ρ = [some (.loc b), some (.int n), some (.loc st.length), a3, a4, a5, a6, a7] ∧ NamesAt st b c k st.length st1 xs) ⟨[], _, _, _, _, _, rfl, Nat.le_refl _, lst_new, rfl, ⟨by simp, List.nodup_nil⟩, Fr.new, hB.app⟩ ?_ ?_⟩
  · rintro k it ρ st1 hi ⟨xs, a3, a4, a5, a6, a7, rfl, hN⟩
    obtain ⟨hk, rfl⟩ := range_item hi
    refine ⟨rfl, ?_⟩
    simp
    refine (draw_spec hN.box (by decide) (by decide)).imp ?_
    rintro _ st2 ⟨m, rfl, m0, m1, F2, B2⟩
    simp
    refine ⟨⟨by omega, by omega⟩, runs_forL (fun j ρ st3 => ∃ w a5, ρ = [some (.loc b), some (.int n), some (.loc st.length), some (.int k), some (.str w), a5, a6, a7] ∧ w.length = j ∧ Lts w ∧ Fr [b] st1 st3 ∧ Box st3 b c) ⟨_, _, rfl, emp_len, Lts.emp, F2, B2⟩ ?_ ?_⟩
    · rintro j it ρ st3 hj ⟨w, a5, rfl, wl, wc, F3, B3⟩
      obtain ⟨hj, rfl⟩ := range_item hj
      refine ⟨rfl, ?_⟩
      simp
      refine (draw_spec B3 (by decide) (by decide)).imp ?_
      rintro _ st4 ⟨x, rfl, x0, x1, F4, B4⟩
      simp
      obtain ⟨ch, hch, hcl⟩ := lets_at x0 x1
      refine ⟨lets_sz, ch, hch, ?_, ?_, wc.push hcl, F3.trans F4, B4⟩
      · rw [wl]; show j + 1 ≤ _; have := big (j + 1) (by omega); omega
      · rw [app_len, wl]; rfl
    · rintro ρ st3 ⟨w, a5, rfl, wl, wc, F3, B3⟩
      refine ⟨rfl, ?_⟩
      have hL3 : lstAt st3 st.length = some (xs.map .str) := F3.lst hN.at_ (by simp; omega)
      have hlen : xs.length < sizeLine := big _ (by rw [hN.len]; omega)
      have hw : NameOK w := ⟨by simp at wl; omega, by simp at wl; omega, wc⟩
      by_cases hin : w ∈ xs
      · simp [sq_lst hL3, flat_str, inF_str, hin, D.flat]
        have hL3l := lst_lt hL3
        have hp : ∀ c, (⟨#[c]⟩ : Str) = sign c := fun _ => rfl
        have hwl : w.length ≤ sizeLine := by have := big w.length (by have := hw.2.1; omega); omega
        have hcl : (cutS w none (some 7)).length + 1 ≤ sizeLine := by
          have := cut7_len w; have := big ((cut7 w).length + 1) (by omega); show (cut7 w).length + 1 ≤ _; omega
        refine runs_lcL (fun i st => st = st3 ++ [.lst (((lets.take i).filter fun c => !decide (cut7 w ++ sign c ∈ xs)).map fun c => .str (cut7 w ++ sign c))]) (by simp) ?_ ?_
        · rintro i it st hi rfl
          have hi' : ((lets.map fun c => D.str ⟨#[c]⟩).map Item.one)[i]? = some it := by rw [List.map_map]; exact hi
          obtain ⟨hlt, rfl⟩ := map_item hi'
          have hs : ∀ o, seqAt (st3 ++ [o]) st.length = some (xs.map .str) := fun o => by rw [seq_old hL3l]; exact sq_lst hL3
          refine ⟨rfl, ?_⟩
          simp [wipeD, hwl]
          have h1 : (cutS w none (some 7)).length + (⟨#[lets[i]]⟩ : Str).length ≤ sizeLine := hcl
          have ht : lets.take (i + 1) = lets.take i ++ [lets[i]] := (List.take_append_getElem hlt).symm
          have hF : (D.str (cutS w none (some 7) ++ ⟨#[lets[i]]⟩)).inF (xs.map D.str) = decide (cut7 w ++ sign lets[i] ∈ xs) := inF_str
          have hlets := lets_len
          refine ⟨h1, _, hs _, ⟨rfl, ?_⟩, ?_⟩
          · intro x hx
            obtain ⟨y, _, rfl⟩ := List.mem_map.mp hx
            rfl
          rw [hF, ht, List.filter_append, List.map_append]
          by_cases hz : cut7 w ++ sign lets[i] ∈ xs
          · simp [hz]
          · simp [hz]
            refine ⟨h1, _, lst_new, ?_, ?_⟩
            · rw [List.length_map]
              have h3 := List.length_filter_le (fun c => !decide (cut7 w ++ sign c ∈ xs)) (lets.take i)
              rw [List.length_take] at h3
              exact big _ (by omega)
            · exact ⟨rfl, rfl⟩
        · rintro st rfl
          refine ⟨rfl, ?_⟩
          have hall : lets.take (List.map (fun c => Item.one (D.str { cps := #[c] })) (Str.ofString "abcdefghijklmnopqrstuvwxyz").cps.toList).length = lets := by
            rw [List.length_map]; exact List.take_length
          rw [hall]
          obtain ⟨ch, rest, hf⟩ : ∃ ch rest, lets.filter (fun c => !decide (cut7 w ++ sign c ∈ xs)) = ch :: rest := by
            have := free_ne (w := w) (xs := xs) (by rw [hN.len]; omega)
            cases hq : lets.filter (fun c => !decide (cut7 w ++ sign c ∈ xs)) with
            | nil => exact absurd hq this
            | cons a r => exact ⟨a, r, rfl⟩
          have hm : ch ∈ lets ∧ cut7 w ++ sign ch ∉ xs := by
            have : ch ∈ lets.filter (fun c => !decide (cut7 w ++ sign c ∈ xs)) := by rw [hf]; simp
            have := List.mem_filter.mp this
            exact ⟨this.1, by simpa using this.2⟩
          rw [hf]
          have hs : ∀ o, seqAt (st3 ++ [o]) st.length = some (xs.map .str) := fun o => by rw [seq_old hL3l]; exact sq_lst hL3
          have hs' : ∀ o, lstAt (st3 ++ [o]) st.length = some (xs.map .str) := fun o => by rw [lst_old hL3l]; exact hL3
          refine ⟨_, sq_lst lst_new, _, at0, ?_, _, hs' _, ?_, ?_⟩
          · rw [hs]; rfl
          · rw [List.length_map]; exact hlen
          · exact ⟨_, hN.push hb hc (F3.trans .new) B3.app (cut_ok hw hm.1) hm.2⟩
      · simp [sq_lst hL3, flat_str, inF_str, hin, D.flat, hL3, hlen]
        exact ⟨_, hN.push hb hc F3 B3 hw hin⟩
  · rintro ρ st1 ⟨xs, a3, a4, a5, a6, a7, rfl, hN⟩
    refine ⟨rfl, ?_⟩
    simp
    simp at hN
    exact ⟨_, hN⟩
end
section
inductive Row where
  | refuse | lead (s : Str) | set (b : Str) (v : Bool) | br (h : Option Str) (t e : List Row)
def hdD : Option Str → List D
  | none => [.str "ask"]
  | some b => [.str "if", .str b]
mutual
def Row.d : Row → D
  | .refuse => .tup [.str "refuse"]
  | .lead s => .tup [.str "lead", .str s]
  | .set b v => .tup [.str "set", .str b, .bl v]
  | .br h t e => .tup (hdD h ++ [.tup (rowsD t), .tup (rowsD e)])
def rowsD : List Row → List D
  | [] => []
  | r :: rs => r.d :: rowsD rs
end
theorem rowsD_map : ∀ rs, rowsD rs = rs.map Row.d
  | [] => by rw [rowsD]; rfl
  | r :: rs => by rw [rowsD, rowsD_map rs]; rfl
mutual
def Row.cnt : Row → Nat
  | .br _ t e => 1 + cntL t + cntL e
  | _ => 1
def cntL : List Row → Nat
  | [] => 0
  | r :: rs => r.cnt + cntL rs
end
theorem cntL_app : ∀ xs ys, cntL (xs ++ ys) = cntL xs + cntL ys
  | [], ys => by simp [cntL]
  | x :: xs, ys => by simp only [List.cons_append, cntL, cntL_app xs ys]; omega
def ROk (bits names : List Str) (ent : Bool) : Nat → Row → Prop
  | _, .refuse => True
  | _, .lead s => s ∈ names ∧ ent = true
  | _, .set b _ => b ∈ bits
  | 0, .br _ _ _ => False
  | n + 1, .br h t e => (∀ b, h = some b → b ∈ bits) ∧ (∀ r ∈ t, ROk bits names ent n r) ∧ ∀ r ∈ e, ROk bits names ent n r
def sideS (ent : Bool) : Str := if ent then "enter" else "leave"
def toNats (s : String) : List Nat := (Str.ofString s).cps.toList
@[simp] theorem ok_if : PyData.strOk (Str.ofString "if") = true := by decide +kernel
@[simp] theorem ok_ask : PyData.strOk (Str.ofString "ask") = true := by decide +kernel
@[simp] theorem ok_set : PyData.strOk (Str.ofString "set") = true := by decide +kernel
@[simp] theorem ok_lead : PyData.strOk (Str.ofString "lead") = true := by decide +kernel
@[simp] theorem ok_refuse : PyData.strOk (Str.ofString "refuse") = true := by decide +kernel
@[simp] theorem ok_enter : PyData.strOk (Str.ofString "enter") = true := by decide +kernel
@[simp] theorem ok_leave : PyData.strOk (Str.ofString "leave") = true := by decide +kernel
@[simp] theorem n1 : (Str.ofString "if" = Str.ofString "ask") = False := by simp; decide +kernel
@[simp] theorem n2 : (Str.ofString "if" = Str.ofString "set") = False := by simp; decide +kernel
@[simp] theorem n3 : (Str.ofString "if" = Str.ofString "lead") = False := by simp; decide +kernel
@[simp] theorem n4 : (Str.ofString "if" = Str.ofString "refuse") = False := by simp; decide +kernel
@[simp] theorem n5 : (Str.ofString "ask" = Str.ofString "if") = False := by simp; decide +kernel
@[simp] theorem n6 : (Str.ofString "ask" = Str.ofString "set") = False := by simp; decide +kernel
@[simp] theorem n7 : (Str.ofString "ask" = Str.ofString "lead") = False := by simp; decide +kernel
@[simp] theorem n8 : (Str.ofString "ask" = Str.ofString "refuse") = False := by simp; decide +kernel
@[simp] theorem n9 : (Str.ofString "set" = Str.ofString "if") = False := by simp; decide +kernel
@[simp] theorem n10 : (Str.ofString "set" = Str.ofString "ask") = False := by simp; decide +kernel
@[simp] theorem n11 : (Str.ofString "set" = Str.ofString "lead") = False := by simp; decide +kernel
@[simp] theorem n12 : (Str.ofString "set" = Str.ofString "refuse") = False := by simp; decide +kernel
@[simp] theorem n13 : (Str.ofString "lead" = Str.ofString "if") = False := by simp; decide +kernel
@[simp] theorem n14 : (Str.ofString "lead" = Str.ofString "ask") = False := by simp; decide +kernel
@[simp] theorem n15 : (Str.ofString "lead" = Str.ofString "set") = False := by simp; decide +kernel
@[simp] theorem n16 : (Str.ofString "lead" = Str.ofString "refuse") = False := by simp; decide +kernel
@[simp] theorem n17 : (Str.ofString "refuse" = Str.ofString "if") = False := by simp; decide +kernel
@[simp] theorem n18 : (Str.ofString "refuse" = Str.ofString "ask") = False := by simp; decide +kernel
@[simp] theorem n19 : (Str.ofString "refuse" = Str.ofString "set") = False := by simp; decide +kernel
@[simp] theorem n20 : (Str.ofString "refuse" = Str.ofString "lead") = False := by simp; decide +kernel
@[simp] theorem n21 : (Str.ofString "enter" = Str.ofString "leave") = False := by simp; decide +kernel
@[simp] theorem n22 : (Str.ofString "leave" = Str.ofString "enter") = False := by simp; decide +kernel
theorem inF2 {x a b : Str} : (D.str x).inF [.str a, .str b] = (decide (a = x) || decide (b = x)) := by
  have := inF_str (x := x) (xs := [a, b])
  rw [show [D.str a, D.str b] = [a, b].map D.str from rfl, this]
  by_cases h1 : a = x
  · subst h1; simp
  · by_cases h2 : b = x
    · subst h2; simp
    · have h1' : ¬ x = a := fun z => h1 z.symm
      have h2' : ¬ x = b := fun z => h2 z.symm
      simp [h1, h2, h1', h2']
theorem fl {s : Str} : (D.str s).flat = true := rfl
@[simp] theorem at5 {α : Type} {a0 a1 a2 a3 a4 a5 : α} {r : List α} : atI (a0 :: a1 :: a2 :: a3 :: a4 :: a5 :: r) 5 = some a5 := by
  unfold atI ixN; rw [if_pos (by decide), if_pos (by simp only [List.length_cons]; omega)]; rfl
@[simp] theorem at6 {α : Type} {a0 a1 a2 a3 a4 a5 a6 : α} {r : List α} : atI (a0 :: a1 :: a2 :: a3 :: a4 :: a5 :: a6 :: r) 6 = some a6 := by
  unfold atI ixN; rw [if_pos (by decide), if_pos (by simp only [List.length_cons]; omega)]; rfl
@[simp] theorem at7 {α : Type} {a0 a1 a2 a3 a4 a5 a6 a7 : α} {r : List α} : atI (a0 :: a1 :: a2 :: a3 :: a4 :: a5 :: a6 :: a7 :: r) 7 = some a7 := by
  unfold atI ixN; rw [if_pos (by decide), if_pos (by simp only [List.length_cons]; omega)]; rfl
@[simp] theorem sz8 {n : Nat} (h : n ≤ 1000) : n ≤ sizeLine := Nat.le_trans h (by decide)
structure WordQ (bits : List Str) (ent : Bool) (dep : Int) (w : Str) : Prop where
  one : w = "if" ∨ w = "ask" ∨ w = "set" ∨ w = "lead" ∨ w = "refuse"
  lead : w = "lead" → ent = true
  bits : (w = "if" ∨ w = "set") → bits ≠ []
  dep : (w = "if" ∨ w = "ask") → dep ≠ 4
theorem word_spec {st : Sto} {b c : Nat} {bits : List Str} {ent : Bool} {dep : Int} (hB : Box st b c) : Runs (m__law_word [.loc b, .tup (bits.map .str), .str (sideS ent), .int dep]) st fun d st' => ∃ w, d = .str w ∧ WordQ bits ent dep w ∧ Fr [b] st st' ∧ Box st' b c := by
  unfold m__law_word b__law_word
  rw [r_fn]
  refine ⟨rfl, ?_⟩
  simp [sz8]
  refine (draw_spec hB.app (by decide) (by decide)).imp ?_
  rintro _ st2 ⟨x, rfl, x0, x1, F2, B2⟩
  have hs : seqAt st2 st.length = some [.str "if", .str "ask", .str "set", .str "lead", .str "refuse", .str "ask", .str "if", .str "set"] := F2.seq (sq_lst lst_new) (by have := hB.lt; simp; omega)
  have hF : Fr [b] st st2 := Fr.trans .new F2
  simp [hs]
  have hx : x = 0 ∨ x = 1 ∨ x = 2 ∨ x = 3 ∨ x = 4 ∨ x = 5 ∨ x = 6 ∨ x = 7 := by omega
  clear F2 hB
  by_cases hb : bits = [] <;> by_cases hd : dep = 4 <;> cases ent <;> rcases hx with rfl | rfl | rfl | rfl | rfl | rfl | rfl | rfl <;> simp [hb, hd, sideS, inF2, fl, hF, B2] <;> constructor <;> simp [hb, hd]
end
section
theorem atI_map {α : Type} {f : α → D} {xs : List α} {x : Int} (h0 : 0 ≤ x) (h1 : x < xs.length) : ∃ y ∈ xs, atI (xs.map f) x = some (f y) := by
  refine ⟨xs[x.toNat]'(by omega), List.getElem_mem _, ?_⟩
  unfold atI ixN
  simp only [List.length_map, if_pos h0, if_pos h1, Option.bind_some]
  rw [List.getElem?_map, List.getElem?_eq_getElem (by omega)]; rfl
/-- what stands while rows are drawn -/
structure RCtx (st : Sto) (b c N R : Nat) (names : List Str) (room : Int) : Prop where
  box : Box st b c
  nm : lstAt st N = some (names.map .str)
  rm : lstAt st R = some [.int room]
  pos : 0 ≤ room
  ne : names ≠ []
  nl : names.length ≤ 5
  nb : N ≠ b
  rb : R ≠ b
  rc : R ≠ c
  nr : N ≠ R
theorem RCtx.fr {st st' : Sto} {b c N R : Nat} {names : List Str} {room : Int} (h : RCtx st b c N R names room) (F : Fr [b] st st') (B : Box st' b c) : RCtx st' b c N R names room :=
  { h with box := B, nm := F.lst h.nm (by simpa using h.nb), rm := F.lst h.rm (by simpa using h.rb) }
theorem RCtx.app {st : Sto} {b c N R : Nat} {names : List Str} {room : Int} {o : SO} (h : RCtx st b c N R names room) : RCtx (st ++ [o]) b c N R names room := h.fr .new h.box.app
structure RowsQ (bits names : List Str) (ent : Bool) (n : Nat) (st : Sto) (b c N R : Nat) (room : Int) (st' : Sto) (k : Nat) (room' : Int) : Prop where
  ctx : RCtx st' b c N R names room'
  cnt : (k : Int) + room' = room
  fr : Fr [b, R] st st'
def RowsSpec (bits names : List Str) (ent : Bool) (b c N R : Nat) (n : Nat) : Prop := ∀ st room, RCtx st b c N R names room →
  Runs (m__law_rows (2 * n + 2) [.loc b, .tup (bits.map .str), .loc N, .str (sideS ent), .int (4 - n), .loc R]) st fun d st' => ∃ rs room', d = .tup (rowsD rs) ∧ (∀ r ∈ rs, ROk bits names ent n r) ∧ rs.length ≤ 8 ∧ RowsQ bits names ent n st b c N R room st' (cntL rs) room'
def RowSpec (bits names : List Str) (ent : Bool) (b c N R : Nat) (n : Nat) : Prop := ∀ st room, RCtx st b c N R names room →
  Runs (m__law_row (2 * n + 1) [.loc b, .tup (bits.map .str), .loc N, .str (sideS ent), .int (4 - n), .loc R]) st fun d st' => ∃ r room', d = Row.d r ∧ ROk bits names ent n r ∧ RowsQ bits names ent n st b c N R room st' (r.cnt - 1) room'
theorem Fr.up {b R : Nat} {st st' : Sto} (h : Fr [b] st st') : Fr [b, R] st st' := h.sub (by simp; intros; simp [*])
theorem cnt_pos (r : Row) : 1 ≤ r.cnt := by cases r <;> simp [Row.cnt] <;> omega
theorem rows_of_row {bits names : List Str} {ent : Bool} {b c N R n : Nat} (ih : RowSpec bits names ent b c N R n) : RowsSpec bits names ent b c N R n := by
  intro st room hC
  show Runs (m__law_rows (2 * n + 1 + 1) _) _ _
  rw [m__law_rows, r_fn]
  refine ⟨rfl, ?_⟩
  simp
  refine (draw_spec hC.box (by decide) (by decide)).imp ?_
  rintro _ st1 ⟨x, rfl, x0, x1, F1, B1⟩
  have hC1 := hC.fr F1 B1
  simp
  have hb := hC1.box.lt
  have hRl := lst_lt hC1.rm
  have hNl := lst_lt hC1.nm
  by_cases hx : 8 < x <;> simp [hx] <;> refine ⟨by omega, runs_forL (fun k ρ st2 => ∃ rs room', (∃ y a8, ρ = [some (.loc b), some (.tup (bits.map .str)), some (.loc N), some (.str (sideS ent)), some (.int (4 - n)), some (.loc R), some (.int y), some (.loc st1.length), a8]) ∧ rs.length ≤ k ∧ (∀ r ∈ rs, ROk bits names ent n r) ∧ lstAt st2 st1.length = some (rowsD rs) ∧ RowsQ bits names ent n st b c N R room st2 (cntL rs) room') ⟨[], room, ⟨_, _, rfl⟩, by simp, by simp, by rw [rowsD]; exact lst_new, hC1.app, by simp [cntL], (F1.trans .new).up⟩ ?_ ?_⟩
  all_goals first
    | (rintro k it ρ st2 hi ⟨rs, room', ⟨y, a8, rfl⟩, hl, hok, hL, hQ⟩
       obtain ⟨hk, rfl⟩ := range_item hi
       refine ⟨rfl, ?_⟩
       have hR := hQ.ctx.rm
       have hpos := hQ.ctx.pos
       have hL2 := lst_lt hL
       by_cases hr : 0 < room'
       · have hne : R ≠ st1.length := by omega
         have hne' : st1.length ≠ R := by omega
         have hLs : seqAt (st2.set R (.lst [.int (room' - 1)])) st1.length = some (rowsD rs) := by rw [seq_set_ne hne]; exact sq_lst hL
         simp [sq_lst hR, hR, hr, ixN, hLs]
         have ctx' : RCtx (st2.set R (.lst [.int (room' - 1)])) b c N R names (room' - 1) := { hQ.ctx with
           box := hQ.ctx.box.set hQ.ctx.rb hQ.ctx.rc
           nm := by rw [lst_set_ne (fun z => hQ.ctx.nr z.symm)]; exact hQ.ctx.nm
           rm := lst_set (lst_lt hR)
           pos := by omega }
         refine (ih _ _ ctx').imp ?_
         rintro _ st3 ⟨r, room3, rfl, hr3, hQ3⟩
         have hL3 : lstAt st3 st1.length = some (rowsD rs) := hQ3.fr.lst (by rw [lst_set_ne hne]; exact hL) (by simp; omega)
         have hcp := cnt_pos r
         have hq3 := hQ3.cnt
         have hq := hQ.cnt
         simp [hL3]
         refine ⟨?_, rs ++ [r], by simp; omega, ?_, ?_, room3, ?_, ?_, ?_⟩
         · rw [rowsD_map, List.length_map]; exact Nat.lt_of_le_of_lt (show rs.length ≤ 100 by omega) (by decide)
         · intro z hz
           rcases List.mem_append.mp hz with h | h
           · exact hok z h
           · simp at h; rw [h]; exact hr3
         · rw [lst_set (lst_lt hL3), rowsD_map, rowsD_map, List.map_append]; rfl
         · exact { hQ3.ctx with
             box := hQ3.ctx.box.set (by omega) (by have := hC1.box.ltc; omega)
             nm := by rw [lst_set_ne (by omega)]; exact hQ3.ctx.nm
             rm := by rw [lst_set_ne hne']; exact hQ3.ctx.rm }
         · rw [cntL_app]; simp only [cntL]; omega
         · exact ((hQ.fr.trans (Fr.set (by simp))).trans hQ3.fr).setNew F1.le
       · simp [sq_lst hR, hr]
         exact ⟨rs, by omega, hok, hL, room', hQ⟩)
    | (rintro ρ st2 ⟨rs, room', ⟨y, a8, rfl⟩, hl, hok, hL, hQ⟩
       refine ⟨rfl, ?_⟩
       simp [sq_lst hL]
       exact ⟨rs, rfl, hok, by simp at hl; omega, room', hQ⟩)
end
section
theorem row_of_rows {bits names : List Str} {ent : Bool} {b c N R n : Nat} (hbl : bits.length ≤ 3) (hn : n ≤ 3) (ih : ∀ m, n = m + 1 → RowsSpec bits names ent b c N R m) : RowSpec bits names ent b c N R n := by
  intro st room hC
  rw [m__law_row, r_fn]
  refine ⟨rfl, ?_⟩
  simp
  refine (word_spec hC.box).imp ?_
  rintro _ st1 ⟨w, rfl, hW, F1, B1⟩
  have hC1 := hC.fr F1 B1
  have mk : ∀ {r : Row} {st2 : Sto}, r.cnt = 1 → Fr [b] st1 st2 → Box st2 b c → RowsQ bits names ent n st b c N R room st2 (r.cnt - 1) room := fun e F B => ⟨hC1.fr F B, by rw [e]; simp, (F1.trans F).up⟩
  have two : ∀ (m : Nat), n = m + 1 → ∀ (st2 : Sto), Fr [b] st1 st2 → Box st2 b c → Runs (m__law_rows (2 * m + 2) [.loc b, .tup (bits.map .str), .loc N, .str (sideS ent), .int (4 - m), .loc R]) st2 fun d st3 => Runs (m__law_rows (2 * m + 2) [.loc b, .tup (bits.map .str), .loc N, .str (sideS ent), .int (4 - m), .loc R]) st3 fun d1 st4 =>
      ∃ rs rs' room', d = .tup (rowsD rs) ∧ d1 = .tup (rowsD rs') ∧ (∀ r ∈ rs, ROk bits names ent m r) ∧ (∀ r ∈ rs', ROk bits names ent m r) ∧ RowsQ bits names ent n st b c N R room st4 (cntL rs + cntL rs') room' := by
    intro m hm st2 F B
    have hC2 := hC1.fr F B
    refine (ih m hm _ _ hC2).imp ?_
    rintro _ st3 ⟨rs, room3, rfl, hok, _, hQ⟩
    refine (ih m hm _ _ hQ.ctx).imp ?_
    rintro _ st4 ⟨rs', room4, rfl, hok', _, hQ'⟩
    have := hQ.cnt
    have := hQ'.cnt
    exact ⟨rs, rs', room4, rfl, rfl, hok, hok', hQ'.ctx, by omega, ((F1.trans F).up.trans hQ.fr).trans hQ'.fr⟩
  have e4 : ∀ m : Nat, ((4 : Int) - ((m : Int) + 1) + 1) = 4 - m := fun m => by omega
  rcases hW.one with rfl | rfl | rfl | rfl | rfl
  · -- if
    obtain ⟨m, rfl⟩ : ∃ m, n = m + 1 := by
      rcases n with _ | m
      · exact absurd rfl (hW.dep (.inl rfl))
      · exact ⟨m, rfl⟩
    simp [sz8, e4]
    have hbits := hW.bits (.inl rfl)
    have hbl0 : 0 < bits.length := List.length_pos_iff.mpr hbits
    refine (draw_spec hC1.box (by omega) (by omega)).imp ?_
    rintro _ st2 ⟨x, rfl, x0, x1, F2, B2⟩
    obtain ⟨bt, hbt, hat⟩ := atI_map (f := D.str) x0 x1
    simp [hat, sz8]
    refine (two m rfl st2 F2 B2).imp fun d st3 q => q.imp ?_
    rintro d1 st4 ⟨rs, rs', room', rfl, rfl, h1, h2, hQ⟩
    exact ⟨.br (some bt) rs rs', rfl, ⟨fun z hz => by injection hz with hz; rw [← hz]; exact hbt, h1, h2⟩, room', hQ.ctx, by rw [Row.cnt]; have := hQ.cnt; omega, hQ.fr⟩
  · -- ask
    obtain ⟨m, rfl⟩ : ∃ m, n = m + 1 := by
      rcases n with _ | m
      · exact absurd rfl (hW.dep (.inr rfl))
      · exact ⟨m, rfl⟩
    simp [sz8, e4]
    refine (two m rfl st1 .refl B1).imp fun d st3 q => q.imp ?_
    rintro d1 st4 ⟨rs, rs', room', rfl, rfl, h1, h2, hQ⟩
    exact ⟨.br none rs rs', rfl, ⟨fun z hz => (nomatch hz), h1, h2⟩, room', hQ.ctx, by rw [Row.cnt]; have := hQ.cnt; omega, hQ.fr⟩
  · -- set
    simp
    have hbits := hW.bits (.inr rfl)
    have hbl0 : 0 < bits.length := List.length_pos_iff.mpr hbits
    refine (draw_spec hC1.box (by omega) (by omega)).imp ?_
    rintro _ st2 ⟨x, rfl, x0, x1, F2, B2⟩
    obtain ⟨bt, hbt, hat⟩ := atI_map (f := D.str) x0 x1
    simp [hat]
    refine (draw_spec B2 (by omega) (by omega)).imp ?_
    rintro _ st3 ⟨y, rfl, y0, y1, F3, B3⟩
    simp [sz8]
    exact ⟨.set bt (decide (y = 1)), rfl, by cases n <;> exact hbt, room, mk rfl (F2.trans F3) B3⟩
  · -- lead
    simp [sq_lst hC1.nm]
    have hl := hC1.nl
    have hl0 : 0 < names.length := List.length_pos_iff.mpr hC1.ne
    refine (draw_spec hC1.box (by omega) (by omega)).imp ?_
    rintro _ st2 ⟨x, rfl, x0, x1, F2, B2⟩
    obtain ⟨nm, hnm, hat⟩ := atI_map (f := D.str) x0 x1
    simp [sq_lst (hC1.fr F2 B2).nm, hat, sz8]
    exact ⟨.lead nm, rfl, by cases n <;> exact ⟨hnm, hW.lead rfl⟩, room, mk rfl F2 B2⟩
  · -- refuse
    simp [sz8]
    exact ⟨.refuse, rfl, by cases n <;> trivial, room, mk rfl .refl B1⟩
theorem rows_all {bits names : List Str} {ent : Bool} {b c N R : Nat} (hbl : bits.length ≤ 3) : ∀ n, n ≤ 3 → RowsSpec bits names ent b c N R n
  | 0, h => rows_of_row (row_of_rows hbl h (fun m z => by omega))
  | n + 1, h => rows_of_row (row_of_rows hbl h (fun m z => by
      obtain rfl : n = m := by omega
      exact rows_all hbl n (by omega)))
end
section
structure Pg where
  name : Str
  ent : List Row
  lea : List Row
  heavy : Bool
def Pg.d (p : Pg) : D := .tup [.str p.name, .tup [.tup (rowsD p.ent), .tup (rowsD p.lea), .bl p.heavy]]
structure Pg.OK (bits names : List Str) (p : Pg) : Prop where
  e : ∀ r ∈ p.ent, ROk bits names true 3 r
  l : ∀ r ∈ p.lea, ROk bits names false 3 r
  ec : cntL p.ent ≤ 8
  lc : cntL p.lea ≤ 8
structure PS where
  bits : List Str
  pages : List Pg
  start : Str
  keep : Int
def PS.names (S : PS) : List Str := S.pages.map Pg.name
structure PS.OK (S : PS) : Prop where
  bl : S.bits.length ≤ 3
  bo : NamesOK S.bits
  p2 : 2 ≤ S.pages.length
  p5 : S.pages.length ≤ 5
  no : NamesOK S.names
  pg : ∀ p ∈ S.pages, p.OK S.bits S.names
  st : S.start ∈ S.names
  k2 : 2 ≤ S.keep
  k4 : S.keep ≤ 4
def bitsD (S : PS) : D := .tup (S.bits.map .str)
def pagesD (S : PS) : D := .tup (S.pages.map Pg.d)
def partsRest : En → M Ctl := (sSeq (sAsg (eLst aNil) (gVar 4)) (sSeq (sFor (itSeq (eVar 3)) (gIt 5) (sSeq (sAsg (eBin opEq (eCall (fun ds => m__law_draw (ds ++ [])) (aCons (eVar 0) (aCons (eC (.int 2)) aNil))) (eC (.int 1))) (gVar 7)) (sSeq (sAsg (eLst (aCons (eC (.int 0)) (aCons (eC (.int 1)) (aCons (eC (.int 2)) (aCons (eC (.int 3)) (aCons (eC (.int 8)) (aCons (eC (.int 0)) (aCons (eC (.int 5)) (aCons (eC (.int 1)) aNil))))))))) (gVar 8)) (sSeq (sAsg (eCall (fun ds => (m__law_rows 8) (ds ++ [])) (aCons (eVar 0) (aCons (eVar 2) (aCons (eVar 3) (aCons (eC (.str "enter")) (aCons (eC (.int 1)) (aCons (eLst (aCons (eBin opIx (eVar 8) (eCall (fun ds => m__law_draw (ds ++ [])) (aCons (eVar 0) (aCons (eC (.int 8)) aNil)))) aNil)) aNil))))))) (gVar 9)) (sSeq (sAsg (eCall (fun ds => (m__law_rows 8) (ds ++ [])) (aCons (eVar 0) (aCons (eVar 2) (aCons (eVar 3) (aCons (eC (.str "leave")) (aCons (eC (.int 1)) (aCons (eLst (aCons (eBin opIx (eVar 8) (eCall (fun ds => m__law_draw (ds ++ [])) (aCons (eVar 0) (aCons (eC (.int 8)) aNil)))) aNil)) aNil))))))) (gVar 10)) (sEx (eMt chkL mAppend (eVar 4) (aCons (eTup (aCons (eVar 5) (aCons (eTup (aCons (eVar 9) (aCons (eVar 10) (aCons (eVar 7) aNil)))) aNil))) aNil)))))))) (sSeq (sAsg (eBin opIx (eVar 3) (eCall (fun ds => m__law_draw (ds ++ [])) (aCons (eVar 0) (aCons (eCall bLen (aCons (eVar 3) aNil)) aNil)))) (gVar 6)) (sRet (eTup (aCons (eVar 2) (aCons (eCall bTuple (aCons (eVar 4) aNil)) (aCons (eVar 6) (aCons (eVar 1) aNil)))))))))
theorem Fr.tr {b R : Nat} {st st' st'' : Sto} (h : Fr [b] st st') (k : Fr [b, R] st' st'') (l : st.length ≤ R) : Fr [b] st st'' :=
  ⟨Nat.le_trans h.le k.le, fun i a n => (k.eq i (Nat.lt_of_lt_of_le a h.le) (by simp at n ⊢; omega)).trans (h.eq i a n)⟩
theorem rest_spec {st : Sto} {b c N : Nat} {bits names : List Str} {keep : Int} (hB : Box st b c) (hN : lstAt st N = some (names.map .str)) (hNb : N ≠ b) (hbl : bits.length ≤ 3) (hbo : NamesOK bits) (h2 : 2 ≤ names.length) (h5 : names.length ≤ 5) (hno : NamesOK names) (k2 : 2 ≤ keep) (k4 : keep ≤ 4) :
    Runs (partsRest [some (.loc b), some (.int keep), some (.tup (bits.map .str)), some (.loc N), none, none, none, none, none, none, none]) st fun c0 st' => ∃ S : PS, c0 = .rt (.tup [bitsD S, pagesD S, .str S.start, .int S.keep]) ∧ S.OK ∧ Fr [b] st st' ∧ Box st' b c := by
  have hb := hB.lt
  have hc := hB.ltc
  have hNl := lst_lt hN
  have hne : names ≠ [] := by rintro rfl; simp at h2
  unfold partsRest
  have hs0 : seqAt (st ++ [.lst []]) N = some (names.map .str) := by rw [seq_old hNl]; exact sq_lst hN
  simp [hs0]
  refine runs_forL (fun k ρ st1 => ∃ pgs : List Pg, (∃ a5 a6 a7 a8 a9 a10, ρ = [some (.loc b), some (.int keep), some (.tup (bits.map .str)), some (.loc N), some (.loc st.length), a5, a6, a7, a8, a9, a10]) ∧ pgs.map Pg.name = names.take k ∧ (∀ p ∈ pgs, p.OK bits names) ∧ lstAt st1 st.length = some (pgs.map Pg.d) ∧ Fr [b] st st1 ∧ Box st1 b c) ⟨[], ⟨_, _, _, _, _, _, rfl⟩, by simp, by simp, lst_new, .new, hB.app⟩ ?_ ?_
  · rintro k it ρ st1 hi ⟨pgs, ⟨a5, a6, a7, a8, a9, a10, rfl⟩, hnm, hpo, hP, F1, B1⟩
    obtain ⟨hk, rfl⟩ := map_item (by rw [List.map_map]; exact hi)
    have hN1 := F1.lst hN (by simpa using hNb)
    have hPl := lst_lt hP
    refine ⟨by simp [sq_lst hN1], ?_⟩
    simp [sz8]
    refine (draw_spec B1 (by omega) (by omega)).imp ?_
    rintro _ st2 ⟨x, rfl, x0, x1, F2, B2⟩
    simp [sz8]
    refine (draw_spec B2.app (by omega) (by omega)).imp ?_
    rintro _ st3 ⟨y, rfl, y0, y1, F3, B3⟩
    have hl8 : atI ([0, 1, 2, 3, 8, 0, 5, 1].map D.int) y = atI [D.int 0, .int 1, .int 2, .int 3, .int 8, .int 0, .int 5, .int 1] y := rfl
    obtain ⟨room, hroom, hat⟩ := atI_map (f := D.int) (xs := [0, 1, 2, 3, 8, 0, 5, 1]) y0 (by simpa using y1)
    rw [hl8] at hat
    have hroom' : 0 ≤ room ∧ room ≤ 8 := by simp at hroom; omega
    have hs3 : seqAt st3 st2.length = some [D.int 0, .int 1, .int 2, .int 3, .int 8, .int 0, .int 5, .int 1] := F3.seq (sq_lst lst_new) (by have := B2.lt; simp; omega)
    have F03 : Fr [b] st1 st3 := (F2.trans .new).trans F3
    have hB2l := B2.lt
    have hB2c := B2.ltc
    have hl2 := F2.le
    have hl3 := F3.le
    simp at hl3
    simp [hs3, hat, sz8]
    have c1 : RCtx (st3 ++ [.lst [.int room]]) b c N st3.length names room := ⟨B3.app, Fr.lst (ex := []) .new (F03.lst hN1 (by simpa using hNb)) (by simp), lst_new, hroom'.1, hne, h5, hNb, by have := B3.lt; omega, by have := B3.ltc; omega, by have := lst_lt hN1; omega⟩
    refine (rows_all (bits := bits) (ent := true) hbl 3 (by omega) _ _ c1).imp ?_
    rintro _ st4 ⟨rs, room4, rfl, hok4, _, hQ4⟩
    have F14 : Fr [b] st1 st4 := (F03.trans .new).tr hQ4.fr (by omega)
    have B4 := hQ4.ctx.box
    refine (draw_spec B4 (by omega) (by omega)).imp ?_
    rintro _ st5 ⟨z, rfl, z0, z1, F5, B5⟩
    have hl8' : atI ([0, 1, 2, 3, 8, 0, 5, 1].map D.int) z = atI [D.int 0, .int 1, .int 2, .int 3, .int 8, .int 0, .int 5, .int 1] z := rfl
    obtain ⟨rm2, hrm2, hat2⟩ := atI_map (f := D.int) (xs := [0, 1, 2, 3, 8, 0, 5, 1]) z0 (by simpa using z1)
    rw [hl8'] at hat2
    have hrm2' : 0 ≤ rm2 ∧ rm2 ≤ 8 := by simp at hrm2; omega
    have hs5 : seqAt st5 st2.length = some [D.int 0, .int 1, .int 2, .int 3, .int 8, .int 0, .int 5, .int 1] := F5.seq (hQ4.fr.seq (by rw [seq_old (seq_lt hs3)]; exact hs3) (by simp; omega)) (by simp; omega)
    have F15 := F14.trans F5
    simp [hs5, hat2]
    have hl15 := F15.le
    have c2 : RCtx (st5 ++ [.lst [.int rm2]]) b c N st5.length names rm2 := ⟨B5.app, Fr.lst (ex := []) .new (F15.lst hN1 (by simpa using hNb)) (by simp), lst_new, hrm2'.1, hne, h5, hNb, by have := B5.lt; omega, by have := B5.ltc; omega, by have := lst_lt hN1; omega⟩
    refine (rows_all (bits := bits) (ent := false) hbl 3 (by omega) _ _ c2).imp ?_
    rintro _ st6 ⟨rs', room6, rfl, hok6, _, hQ6⟩
    have F16 : Fr [b] st1 st6 := (F15.trans .new).tr hQ6.fr (by omega)
    have hP6 : lstAt st6 st.length = some (pgs.map Pg.d) := F16.lst hP (by simp; omega)
    have hpl : pgs.length ≤ names.length := by
      have : (pgs.map Pg.name).length = (names.take k).length := by rw [hnm]
      simp at this; omega
    have q4 := hQ4.cnt
    have q4' := hQ4.ctx.pos
    have q6 := hQ6.cnt
    have q6' := hQ6.ctx.pos
    refine ⟨by rw [sq_lst hP6]; rfl, _, hP6, by rw [List.length_map]; exact Nat.lt_of_le_of_lt (show pgs.length ≤ 100 by omega) (by decide), pgs ++ [⟨names[k], rs, rs', decide (x = 1)⟩], ?_, ?_, ?_, ?_, ?_⟩
    · rw [List.map_append, hnm, ← List.take_append_getElem hk]; rfl
    · intro p hp
      rcases List.mem_append.mp hp with h | h
      · exact hpo p h
      · simp at h; rw [h]; exact ⟨hok4, hok6, by show cntL rs ≤ 8; omega, by show cntL rs' ≤ 8; omega⟩
    · rw [lst_set (lst_lt hP6), List.map_append]; rfl
    · exact (F1.trans F16).setNew (Nat.le_refl _)
    · exact hQ6.ctx.box.set (by omega) (by omega)
  · rintro ρ st1 ⟨pgs, ⟨a5, a6, a7, a8, a9, a10, rfl⟩, hnm, hpo, hP, F1, B1⟩
    have hN1 := F1.lst hN (by simpa using hNb)
    refine ⟨by simp [sq_lst hN1], ?_⟩
    simp [sq_lst hN1]
    refine (draw_spec B1 (by omega) (by omega)).imp ?_
    rintro _ st2 ⟨x, rfl, x0, x1, F2, B2⟩
    obtain ⟨nm, hnm2, hat⟩ := atI_map (f := D.str) x0 x1
    have hP2 : lstAt st2 st.length = some (pgs.map Pg.d) := F2.lst hP (by simp; omega)
    have hN2 := F2.lst hN1 (by simpa using hNb)
    simp [sq_lst hN2, hat, sq_lst hP2, sz8]
    simp at hnm
    have hlen : pgs.length = names.length := by rw [← hnm, List.length_map]
    exact ⟨⟨bits, pgs, nm, keep⟩, ⟨rfl, rfl, rfl, rfl⟩, ⟨hbl, hbo, by show 2 ≤ pgs.length; omega, by show pgs.length ≤ 5; omega, by unfold PS.names; rw [hnm]; exact hno, by unfold PS.names; rw [hnm]; exact hpo, by unfold PS.names; rw [hnm]; exact hnm2, k2, k4⟩, F1.trans F2, B2⟩
theorem partsSplit : b__law_parts = (sSeq (sAsg (eBin opAdd (eC (.int 2)) (eCall (fun ds => m__law_draw (ds ++ [])) (aCons (eVar 0) (aCons (eC (.int 3)) aNil)))) (gVar 1)) (sSeq (sAsg (eCall bTuple (aCons (eCall (fun ds => m__law_names (ds ++ [])) (aCons (eVar 0) (aCons (eCall (fun ds => m__law_draw (ds ++ [])) (aCons (eVar 0) (aCons (eC (.int 4)) aNil))) aNil))) aNil)) (gVar 2)) (sSeq (sAsg (eCall (fun ds => m__law_names (ds ++ [])) (aCons (eVar 0) (aCons (eBin opAdd (eC (.int 2)) (eCall (fun ds => m__law_draw (ds ++ [])) (aCons (eVar 0) (aCons (eC (.int 4)) aNil)))) aNil))) (gVar 3)) (sSeq (sIf (tAndD (tVal (eBin opEq (eCall (fun ds => m__law_draw (ds ++ [])) (aCons (eVar 0) (aCons (eC (.int 4)) aNil))) (eC (.int 0)))) (tAndD (tVal (eBin opGt (eCall bLen (aCons (eVar 2) aNil)) (eC (.int 0)))) (tVal (eBin opNotIn (eBin opIx (eVar 2) (eC (.int 0))) (eVar 3))))) (sAsg (eBin opIx (eVar 2) (eC (.int 0))) (gSubD (eVar 3) (eC (.int 0)))) sNx) partsRest)))) := rfl
theorem parts_spec {st : Sto} {b c : Nat} (hB : Box st b c) : Runs (m__law_parts [.loc b]) st fun d st' => ∃ S : PS, d = .tup [bitsD S, pagesD S, .str S.start, .int S.keep] ∧ S.OK ∧ Fr [b] st st' ∧ Box st' b c := by
  have hb := hB.lt
  have hc := hB.ltc
  have ends : ∀ {bits names : List Str} {keep : Int} {N : Nat} {st5 : Sto}, Box st5 b c → Fr [b] st st5 → lstAt st5 N = some (names.map .str) → N ≠ b → bits.length ≤ 3 → NamesOK bits → 2 ≤ names.length → names.length ≤ 5 → NamesOK names → 2 ≤ keep → keep ≤ 4 →
      Runs (partsRest [some (.loc b), some (.int keep), some (.tup (bits.map .str)), some (.loc N), none, none, none, none, none, none, none]) st5 fun c0 st' => match c0 with | .rt d => (∃ S : PS, d = .tup [bitsD S, pagesD S, .str S.start, .int S.keep] ∧ S.OK ∧ Fr [b] st st' ∧ Box st' b c) | .nx _ => False | _ => False := by
    intro bits names keep N st5 B5 F5 h1 h2 h3 h4 h5 h6 h7 h8 h9
    refine (rest_spec B5 h1 h2 h3 h4 h5 h6 h7 h8 h9).imp ?_
    rintro _ st6 ⟨S, rfl, hS, F6, B6⟩
    exact ⟨S, rfl, hS, F5.trans F6, B6⟩
  unfold m__law_parts
  rw [r_fn]
  refine ⟨rfl, ?_⟩
  rw [partsSplit]
  simp
  refine (draw_spec hB (by omega) (by omega)).imp ?_
  rintro _ st1 ⟨x, rfl, x0, x1, F1, B1⟩
  simp
  refine (draw_spec B1 (by omega) (by omega)).imp ?_
  rintro _ st2 ⟨y, rfl, y0, y1, F2, B2⟩
  obtain ⟨m, rfl⟩ := Int.eq_ofNat_of_zero_le y0
  have hm5 : m ≤ 5 := by clear ends; omega
  have hnm := names_spec B2 hm5
  refine hnm.imp ?_
  rintro _ st3 ⟨L, rfl, bits, hbits⟩
  simp [sq_lst hbits.at_]
  refine (draw_spec hbits.box (by omega) (by omega)).imp ?_
  rintro _ st4 ⟨z, rfl, z0, z1, F4, B4⟩
  obtain ⟨k, rfl⟩ := Int.eq_ofNat_of_zero_le z0
  simp
  refine (show (2 : Int) + (k : Int) = ((2 + k : Nat) : Int) by omega) ▸ (names_spec B4 (n := 2 + k) (by omega)).imp ?_
  rintro _ st5 ⟨N, rfl, names, hn⟩
  simp
  refine (draw_spec hn.box (by omega) (by omega)).imp ?_
  rintro _ st6 ⟨w, rfl, w0, w1, F6, B6⟩
  have g1 := F1.le
  have g2 := F2.le
  have g3 := hbits.fr.le
  have g4 := F4.le
  have g5 := hn.new
  have hNb : N ≠ b := by omega
  have hNc : N ≠ c := by omega
  have hN6 := F6.lst hn.at_ (by simpa using hNb)
  have F05 : Fr [b] st st4 := ((F1.trans F2).trans hbits.fr).trans F4
  have FF : Fr [b] st st6 := (F05.trans hn.fr).trans F6
  have hbl := hbits.len
  have hnl := hn.len
  have base := @ends bits names (2 + x) N st6 B6 FF hN6 hNb (by omega) hbits.ok (by omega) (by omega) hn.ok (by omega) (by omega)
  by_cases hw : w = 0
  · simp [hw]
    cases bits with
    | nil => simp; exact base
    | cons b0 br =>
      have hfl : ∀ x : D, x ∈ names.map D.str → x.flat = true := fun x hx => by
        obtain ⟨y, _, rfl⟩ := List.mem_map.mp hx; rfl
      simp [sq_lst hN6, inF_str, fl]
      by_cases hin : b0 ∈ names
      · simp [hin]; exact base
      · simp [hin, hN6]
        obtain ⟨nm0, nr, rfl⟩ : ∃ nm0 nr, names = nm0 :: nr := by
          cases names with
          | nil => simp at hnl; omega
          | cons a r => exact ⟨a, r, rfl⟩
        have hno := hn.ok
        have hL := lst_lt hN6
        refine ⟨0, by simp [ixN], ?_⟩
        refine @ends (b0 :: br) (b0 :: nr) (2 + x) N _ (B6.set hNb hNc) (FF.setNew (by omega)) ?_ hNb (by omega) hbits.ok (by simp at hnl ⊢; omega) (by simp at hnl ⊢; omega) ?_ (by omega) (by omega)
        · rw [lst_set hL]; rfl
        · refine ⟨fun z hz => ?_, ?_⟩
          · rcases List.mem_cons.mp hz with rfl | h
            · exact hbits.ok.1 _ (by simp)
            · exact hno.1 _ (by simp [h])
          · have := hno.2
            rw [List.nodup_cons] at this ⊢
            exact ⟨fun h => hin (by simp [h]), this.2⟩
  · simp [hw]; exact base
end
section
section
variable {st : Sto} {Q : D → Sto → Prop}
@[simp] theorem y_ss {s : Str} : Runs (isiB "str" (.str s)) st Q ↔ Q (.bl true) st := x_isi rfl (by decide +kernel)
@[simp] theorem y_tt {s : List D} : Runs (isiB "tuple" (.tup s)) st Q ↔ Q (.bl true) st := x_isi rfl (by decide +kernel)
@[simp] theorem y_bb {s : Bool} : Runs (isiB "bool" (.bl s)) st Q ↔ Q (.bl true) st := x_isi rfl (by decide +kernel)
@[simp] theorem y_ii {s : Int} : Runs (isiB "int" (.int s)) st Q ↔ Q (.bl true) st := x_isi rfl (by decide +kernel)
@[simp] theorem y_bi {s : Int} : Runs (isiB "bool" (.int s)) st Q ↔ Q (.bl false) st := x_isi rfl (by decide +kernel)
end
@[simp] theorem x_nei {st : Sto} {Q : D → Sto → Prop} {i j : Int} : Runs (opNe (.int i) (.int j)) st Q ↔ Q (.bl (!decide (i = j))) st := by
  have : eqData st (.int i) (.int j) = some (decide (i = j)) := by
    show some (i == j) = _
    by_cases h : i = j <;> simp [h]
  unfold Runs opNe; rw [this]
/-- runs to d, and all that stood stands -/
def Pu (m : M D) (st : Sto) (d : D) : Prop := Runs m st fun d' st' => d' = d ∧ Fr [] st st'
theorem Pu.go {m : M D} {st : Sto} {d : D} {Q : D → Sto → Prop} (h : Pu m st d) (k : ∀ st', Fr [] st st' → Q d st') : Runs m st Q := Runs.imp h fun d' st' ⟨e, F⟩ => by subst e; exact k st' F
theorem is_integer_p {st : Sto} {k : Int} : Pu (m_is_integer [.int k]) st (.bl true) := by
  unfold Pu m_is_integer b_is_integer
  rw [r_fn]
  refine ⟨rfl, ?_⟩
  simp
  exact .refl
theorem blsOf_map (bs : List Bool) : blsOf (bs.map D.bl) = some bs := by
  induction bs with
  | nil => rfl
  | cons b r ih => simp [blsOf, ih]
theorem blsOf_true (n : Nat) : blsOf (List.replicate n (D.bl true)) = some (List.replicate n true) := by
  have := blsOf_map (List.replicate n true)
  rwa [List.map_replicate] at this
theorem all_true (n : Nat) : (List.replicate n true).all _root_.id = true := by simp
theorem letters_in {c : Nat} (h : c ∈ lets) : (c ∈ (Str.ofString "abcdefghijklmnopqrstuvwxyz").cps.toList) := h
/-- a comprehension whose items all come out True -/
theorem lc_true {st : Sto} {gi : Item → En → M En} {te : En → M D} {L : Nat} {ρw : En} {items : List Item} {QU : Unit → Sto → Prop} {ok : Sto → Bool}
    (hL : lstAt st L = some []) (hlen : items.length ≤ 100) (hok : ∀ st', Fr [L] st st' → ok st' = true)
    (hs : ∀ it ∈ items, ∀ st', Fr [L] st st' → lstAt st' L = lstAt st' L → Runs (gi it ρw) st' fun ρ1 st1 => Runs (te ρ1) st1 fun y st2 => y = .bl true ∧ Fr [] st' st2)
    (hd : ∀ st', Fr [L] st st' → lstAt st' L = some (List.replicate items.length (.bl true)) → QU () st') : Runs (lcL ok gi tYesD te L ρw items) st QU := by
  refine runs_lcL (fun i st' => Fr [L] st st' ∧ lstAt st' L = some (List.replicate i (.bl true))) ⟨.refl, hL⟩ ?_ ?_
  · rintro i it st1 hi ⟨F, h⟩
    refine ⟨hok _ F, ?_⟩
    have hlt : i < items.length := by
      rcases Nat.lt_or_ge i items.length with z | z
      · exact z
      · rw [List.getElem?_eq_none z] at hi; cases hi
    refine (hs it (List.mem_of_getElem? hi) st1 F rfl).imp fun ρ1 st2 q => ?_
    rw [x_tyes]
    simp only [if_true]
    refine q.imp ?_
    rintro _ st3 ⟨rfl, F3⟩
    have h3 := F3.lst h (by simp)
    refine ⟨_, h3, by rw [List.length_replicate]; exact Nat.lt_of_le_of_lt (show i ≤ 100 by omega) (by decide), (F.trans (F3.sub (by simp))).trans (.set (by simp)), ?_⟩
    rw [lst_set (lst_lt h3), List.replicate_succ']
  · rintro st1 ⟨F, h⟩
    exact ⟨hok _ F, hd _ F h⟩
theorem Fr.fin {st st' : Sto} {o : SO} (k : Fr [st.length] (st ++ [o]) st') : Fr [] st st' :=
  ⟨by have := k.le; simp at this; omega, fun i a _ => (k.eq i (by simp; omega) (by simp; omega)).trans (List.getElem?_append_left a)⟩
theorem bind_bls {st : Sto} {L n : Nat} (h : lstAt st L = some (List.replicate n (D.bl true))) : (seqAt st L).bind blsOf = some (List.replicate n true) := by
  rw [sq_lst h]; exact blsOf_true n
theorem nofalse (n : Nat) : ¬ false ∈ List.replicate n true := by
  intro h; have := List.eq_of_mem_replicate h; cases this
theorem is_name_p {st : Sto} {s : Str} (h : NameOK s) : Pu (m_is_name [.str s]) st (.bl true) := by
  have h1 := h.1
  have h2 := h.2.1
  unfold Pu m_is_name b_is_name
  rw [r_fn]
  refine ⟨rfl, ?_⟩
  simp [sz8 (show s.length ≤ 1000 by omega)]
  refine ⟨by omega, by omega, lc_true lst_new ?_ (fun _ _ => rfl) ?_ ?_⟩
  · rw [List.length_map]; show s.length ≤ 100; omega
  · intro it hit st1 F _
    obtain ⟨c, hc, rfl⟩ := List.mem_map.mp hit
    simp [wipeD]
    exact ⟨by simpa using letters_in (h.2.2 c hc), .refl⟩
  · intro st1 F hL
    exact ⟨_, bind_bls hL, nofalse _, F.fin⟩
theorem cntD_nodup : ∀ (xs pre : List Str), xs.Nodup → (∀ x ∈ xs, x ∉ pre) → cntD pre xs = xs.length
  | [], _, _, _ => rfl
  | x :: r, pre, h, k => by
    rw [List.nodup_cons] at h
    unfold cntD
    rw [if_neg (k x (by simp)), cntD_nodup r _ h.2 (fun y hy => by
      intro z
      rcases List.mem_append.mp z with z | z
      · exact k y (by simp [hy]) z
      · simp at z; subst z; exact h.1 hy)]
    simp only [List.length_cons]; omega
theorem strsOf_map : ∀ xs : List Str, strsOf (xs.map D.str) = some xs
  | [] => rfl
  | x :: r => by simp [strsOf, strsOf_map r]
theorem lenSet_p {st : Sto} {xs : List Str} {Q : D → Sto → Prop} (h : xs.Nodup) (hl : xs.length ≤ 20) (q : Q (.int xs.length) st) : Runs (lenSetD (.tup (xs.map .str))) st Q := by
  refine Runs.of (a := .int xs.length) (st' := st) ?_ q
  unfold lenSetD
  simp only [strsOf_map, if_pos hl, cntD_nodup xs [] h (by simp)]
theorem are_names_p {st : Sto} {xs : List Str} (h : NamesOK xs) (hl : xs.length ≤ 5) : Pu (m_are_different_names [.tup (xs.map .str)]) st (.bl true) := by
  unfold Pu m_are_different_names b_are_different_names
  rw [r_fn]
  refine ⟨rfl, ?_⟩
  simp
  refine lc_true lst_new ?_ (fun _ _ => rfl) ?_ ?_
  · rw [List.length_map]; omega
  · intro it hit st1 F _
    obtain ⟨s, hs, rfl⟩ := List.mem_map.mp hit
    simp [wipeD]
    exact Pu.go (is_name_p (h.1 s hs)) fun st2 F2 => ⟨rfl, F2⟩
  · intro st1 F hL
    refine ⟨_, bind_bls hL, ?_⟩
    simp
    exact lenSet_p h.2 (by omega) (by simp; exact F.fin)
theorem are_bits_p {st : Sto} {xs : List Str} (h : NamesOK xs) (hl : xs.length ≤ 3) : Pu (m_are_bits [.tup (xs.map .str)]) st (.bl true) := by
  unfold Pu m_are_bits b_are_bits
  rw [r_fn]
  refine ⟨rfl, ?_⟩
  simp
  exact ⟨by omega, Pu.go (are_names_p h (by omega)) fun st2 F2 => ⟨rfl, F2⟩⟩
theorem named_p {st : Sto} {p : Pg} : Pu (m_is_named_page [p.d]) st (.bl true) := by
  unfold Pu m_is_named_page b_is_named_page Pg.d
  rw [r_fn]
  refine ⟨rfl, ?_⟩
  simp
  exact .refl
theorem names_of_p {st : Sto} {ps : List Pg} (hl : ps.length ≤ 5) : Pu (m_names_of [.tup (ps.map Pg.d)]) st (.tup ((ps.map Pg.name).map .str)) := by
  unfold Pu m_names_of b_names_of
  rw [r_fn]
  refine ⟨rfl, ?_⟩
  simp
  refine runs_lcL (fun i st' => st' = st ++ [.lst ((ps.take i).map fun p => .str p.name)]) (by simp) ?_ ?_
  · rintro i it st1 hi rfl
    obtain ⟨hk, rfl⟩ := map_item (f := Pg.d) (by rw [List.map_map]; exact hi)
    refine ⟨rfl, ?_⟩
    simp [wipeD, Pg.d]
    refine ⟨_, lst_new, ?_, ?_⟩
    · rw [← List.map_take, List.length_map, List.length_take]; exact Nat.lt_of_le_of_lt (show min i ps.length ≤ 100 by omega) (by decide)
    · rw [← List.map_take, ← List.map_take, ← List.take_append_getElem hk, List.map_append]; rfl
  · rintro st1 rfl
    refine ⟨rfl, _, sq_lst lst_new, ?_, .new⟩
    rw [List.take_of_length_le (by simp)]; rfl
theorem are_pages_p {st : Sto} {ps : List Pg} (h2 : 2 ≤ ps.length) (hl : ps.length ≤ 5) (hn : NamesOK (ps.map Pg.name)) : Pu (m_are_pages [.tup (ps.map Pg.d)]) st (.bl true) := by
  unfold Pu m_are_pages b_are_pages
  rw [r_fn]
  refine ⟨rfl, ?_⟩
  simp
  refine ⟨by omega, by omega, lc_true lst_new ?_ (fun _ _ => rfl) ?_ ?_⟩
  · rw [List.length_map]; omega
  · intro it hit st1 F _
    obtain ⟨s, hs, rfl⟩ := List.mem_map.mp hit
    simp [wipeD]
    exact Pu.go named_p fun st2 F2 => ⟨rfl, F2⟩
  · intro st1 F hL
    refine ⟨_, bind_bls hL, ?_⟩
    simp
    refine Pu.go (names_of_p hl) fun st2 F2 => ?_
    exact Pu.go (are_names_p hn (by simpa using hl)) fun st3 F3 => ⟨rfl, (F.fin.trans F2).trans F3⟩
end
section
def brD : Row → List D
  | .br _ t e => [.tup (rowsD t), .tup (rowsD e)]
  | _ => []
@[simp] theorem cut3 {x a b : D} : cutD [x, a, b] (some (-2)) none = [a, b] := rfl
@[simp] theorem cut4 {x y a b : D} : cutD [x, y, a, b] (some (-2)) none = [a, b] := rfl
@[simp] theorem am31 {x a b : D} : atI [x, a, b] (-1) = some b := rfl
@[simp] theorem am32 {x a b : D} : atI [x, a, b] (-2) = some a := rfl
@[simp] theorem am41 {x y a b : D} : atI [x, y, a, b] (-1) = some b := rfl
@[simp] theorem am42 {x y a b : D} : atI [x, y, a, b] (-2) = some a := rfl
theorem branches_p {st : Sto} {r : Row} : Pu (m_branches [r.d]) st (.tup (brD r)) := by
  unfold Pu m_branches b_branches
  rw [r_fn]
  refine ⟨rfl, ?_⟩
  cases r with
  | br h t e => cases h <;> simp [Row.d, hdD, brD] <;> exact .refl
  | _ => simp [Row.d, brD] <;> exact .refl
theorem may_p {st : Sto} {pos : List D} {h : Option Str} {t e : List Row} {n : Nat} (hp : pos.length + 2 * n = 7) (hn : 1 ≤ n) : Pu (m_may_branch [.tup pos, (Row.br h t e).d]) st (.bl true) := by
  unfold Pu m_may_branch b_may_branch
  rw [r_fn]
  refine ⟨rfl, ?_⟩
  cases h <;> simp [Row.d, hdD] <;> exact ⟨by omega, .refl⟩
theorem enum_item : ∀ {ds : List D} {n i : Nat} {it : Item}, (enumD n ds)[i]? = some it → ∃ h : i < ds.length, it = .two (.int ((n + i : Nat) : Int)) ds[i]
  | [], n, i, it, h => by simp [enumD] at h
  | d :: r, n, 0, it, h => by simp [enumD] at h; exact ⟨by simp, by simp [h]⟩
  | d :: r, n, i + 1, it, h => by
    rw [enumD, List.getElem?_cons_succ] at h
    obtain ⟨q, e⟩ := enum_item h
    refine ⟨by simp; omega, ?_⟩
    rw [e]; simp; omega
theorem eqRef0 : eqData [] (.tup [.str "refuse"]) (.tup [.str "refuse"]) = some true := by decide +kernel
theorem eqRef {st : Sto} : eqData st (.tup [.str "refuse"]) (.tup [.str "refuse"]) = some true := eqRef0
@[simp] theorem x_eqref {st : Sto} {Q : D → Sto → Prop} : Runs (opEq (.tup [.str "refuse"]) (.tup [.str "refuse"])) st Q ↔ Q (.bl true) st := by
  unfold Runs opEq; rw [eqRef]
theorem is_row_p {st : Sto} {bits names : List Str} {ent : Bool} {pos : List D} {r : Row} {n : Nat} (h : ROk bits names ent n r) (hp : pos.length + 2 * n = 7) : Pu (m_is_row [.tup (bits.map .str), .tup (names.map .str), .str (sideS ent), .tup pos, r.d]) st (.bl true) := by
  unfold Pu m_is_row b_is_row
  rw [r_fn]
  refine ⟨rfl, ?_⟩
  have hfl : ∀ (xs : List Str) (x : D), x ∈ xs.map D.str → x.flat = true := fun xs x hx => by
    obtain ⟨y, _, rfl⟩ := List.mem_map.mp hx; rfl
  cases r with
  | refuse =>
    simp [Row.d]
    exact .refl
  | lead s =>
    have h' : s ∈ names ∧ ent = true := by cases n <;> exact h
    simp [Row.d, fl, inF_str, h'.1, h'.2, sideS]
    exact .refl
  | set b v =>
    have h' : b ∈ bits := by cases n <;> exact h
    simp [Row.d, fl, inF_str, h']
    exact .refl
  | br hd t e =>
    cases n with
    | zero => exact h.elim
    | succ n =>
      cases hd with
      | none =>
        have := @may_p st pos none t e (n + 1) hp (by omega)
        simp [Row.d, hdD] at this ⊢
        exact Pu.go this fun st2 F2 => ⟨rfl, F2⟩
      | some b =>
        have h' : b ∈ bits := h.1 b rfl
        have := @may_p st pos (some b) t e (n + 1) hp (by omega)
        simp [Row.d, hdD, fl, inF_str, h'] at this ⊢
        exact Pu.go this fun st2 F2 => ⟨rfl, F2⟩
theorem rowsD_get {rs : List Row} {i : Nat} (h : i < (rowsD rs).length) : ∃ h' : i < rs.length, (rowsD rs)[i] = rs[i].d := by
  have e := rowsD_map rs
  have h' : i < rs.length := by rw [e, List.length_map] at h; exact h
  refine ⟨h', ?_⟩
  have : (rowsD rs)[i]? = some (rs[i].d) := by rw [e, List.getElem?_map, List.getElem?_eq_getElem h']; rfl
  rw [List.getElem?_eq_getElem h] at this
  exact Option.some.inj this
def Row.ins : Row → List (List Row)
  | .br _ t e => [t, e]
  | _ => []
theorem brD_item {bits names : List Str} {ent : Bool} {n j : Nat} {r : Row} (h : ROk bits names ent n r) (hj : j < (brD r).length) : ∃ m rs', n = m + 1 ∧ (brD r)[j] = .tup (rowsD rs') ∧ (∀ r' ∈ rs', ROk bits names ent m r') ∧ r.ins[j]? = some rs' := by
  cases r with
  | br hd t e =>
    cases n with
    | zero => exact h.elim
    | succ n =>
      rcases j with _ | _ | j
      · exact ⟨n, t, rfl, rfl, h.2.1, rfl⟩
      · exact ⟨n, e, rfl, rfl, h.2.2, rfl⟩
      · simp [brD] at hj; omega
  | _ => simp [brD] at hj
theorem first_p {bits names : List Str} {ent : Bool} : ∀ (n : Nat) {st : Sto} {rs : List Row} {bef : List D}, (∀ r ∈ rs, ROk bits names ent n r) → bef.length + 2 * n = 6 → Pu (m_first_wrong_row (n + 2) [.tup (bits.map .str), .tup (names.map .str), .str (sideS ent), .tup (rowsD rs), .tup bef]) st .non := by
  intro n
  have all : ∀ n, (∀ m, n = m + 1 → ∀ {st : Sto} {rs : List Row} {bef : List D}, (∀ r ∈ rs, ROk bits names ent m r) → bef.length + 2 * m = 6 → Pu (m_first_wrong_row (m + 2) [.tup (bits.map .str), .tup (names.map .str), .str (sideS ent), .tup (rowsD rs), .tup bef]) st .non) → ∀ {st : Sto} {rs : List Row} {bef : List D}, (∀ r ∈ rs, ROk bits names ent n r) → bef.length + 2 * n = 6 → Pu (m_first_wrong_row (n + 2) [.tup (bits.map .str), .tup (names.map .str), .str (sideS ent), .tup (rowsD rs), .tup bef]) st .non := by
    intro n ih st rs bef hok hb
    unfold Pu
    rw [m_first_wrong_row, r_fn]
    refine ⟨rfl, ?_⟩
    simp
    refine runs_forL (fun i ρ st' => (∃ a5 a6 a7 a8 a9 a10, ρ = [some (.tup (bits.map .str)), some (.tup (names.map .str)), some (.str (sideS ent)), some (.tup (rowsD rs)), some (.tup bef), a5, a6, a7, a8, a9, a10]) ∧ Fr [] st st') ⟨⟨_, _, _, _, _, _, rfl⟩, .refl⟩ ?_ ?_
    · rintro i it ρ st1 hi ⟨⟨a5, a6, a7, a8, a9, a10, rfl⟩, F1⟩
      obtain ⟨hlt, rfl⟩ := enum_item hi
      obtain ⟨hlt', he⟩ := rowsD_get hlt
      have hr := hok _ (List.getElem_mem hlt')
      rw [he]
      refine ⟨rfl, ?_⟩
      simp [sz8 (show bef.length + 1 ≤ 1000 by omega)]
      refine Pu.go (is_row_p hr (by simp; omega)) fun st2 F2 => ?_
      simp
      refine Pu.go branches_p fun st3 F3 => ?_
      simp
      refine runs_forL (fun j ρ st' => (∃ a8 a9 a10, ρ = [some (.tup (bits.map .str)), some (.tup (names.map .str)), some (.str (sideS ent)), some (.tup (rowsD rs)), some (.tup bef), some (.int i), some (rs[i].d), some (.tup (bef ++ [.int i])), a8, a9, a10]) ∧ Fr [] st st') ⟨⟨_, _, _, rfl⟩, (F1.trans F2).trans F3⟩ ?_ ?_
      · rintro j it ρ st4 hj ⟨⟨a8, a9, a10, rfl⟩, F4⟩
        obtain ⟨hjl, rfl⟩ := enum_item hj
        obtain ⟨m, rs', hm, e2, hok', _⟩ := brD_item hr hjl
        rw [e2]
        refine ⟨rfl, ?_⟩
        simp [sz8 (show bef.length + 1 + 1 ≤ 1000 by omega)]
        subst hm
        refine Pu.go (ih m rfl hok' (by simp; omega)) fun st5 F5 => ?_
        simp [D.isNon]
        exact F4.trans F5
      · rintro ρ st4 ⟨⟨a8, a9, a10, rfl⟩, F4⟩
        refine ⟨rfl, ?_⟩
        simp
        exact F4
    · rintro ρ st1 ⟨⟨a5, a6, a7, a8, a9, a10, rfl⟩, F1⟩
      refine ⟨rfl, ?_⟩
      simp
      exact F1
  induction n with
  | zero => exact all 0 (fun m h => by cases h)
  | succ n ih => exact all (n + 1) (fun m h => by injection h with h; subst h; exact ih)
end
section
def Row.isSet : Row → Bool
  | .set _ _ => true
  | _ => false
mutual
def Row.hs : Row → Bool
  | .set _ _ => true
  | .br _ t e => hsL t || hsL e
  | _ => false
def hsL : List Row → Bool
  | [] => false
  | r :: rs => r.hs || hsL rs
end
theorem hsL_app : ∀ xs ys, hsL (xs ++ ys) = (hsL xs || hsL ys)
  | [], ys => by simp [hsL]
  | x :: xs, ys => by simp only [List.cons_append, hsL, hsL_app xs ys, Bool.or_assoc]
/-- rows with their positions -/
structure PR (rs : List Row) (es : List D) (prs : List (List D × Row)) : Prop where
  es : es = prs.map fun p => D.tup [.tup p.1, p.2.d]
  len : prs.length = cntL rs
  hs : prs.any (fun p => p.2.isSet) = hsL rs
theorem brD_ins (r : Row) : brD r = r.ins.map fun t => .tup (rowsD t) := by cases r <;> rfl
theorem cnt_ins (r : Row) : r.cnt = 1 + (r.ins.map cntL).sum := by
  cases r <;> simp [Row.cnt, Row.ins] <;> omega
theorem hs_ins (r : Row) : r.hs = (r.isSet || r.ins.any hsL) := by
  cases r <;> simp [Row.hs, Row.ins, Row.isSet]
theorem enumD_len : ∀ (ds : List D) (n : Nat), (enumD n ds).length = ds.length
  | [], _ => rfl
  | d :: r, n => by simp [enumD, enumD_len r]
def RwpQ (rs : List Row) (st : Sto) (d : D) (st' : Sto) : Prop := ∃ L es prs, d = .loc L ∧ lstAt st' L = some es ∧ PR rs es prs ∧ st.length ≤ L ∧ Fr [] st st'
theorem rwp_p {bits names : List Str} {ent : Bool} : ∀ (n : Nat) {st : Sto} {rs : List Row} {bef : List D}, (∀ r ∈ rs, ROk bits names ent n r) → bef.length + 2 * n = 6 → cntL rs ≤ 1000 → Runs (m_rows_with_positions (n + 2) [.tup (rowsD rs), .tup bef]) st (RwpQ rs st) := by
  intro n
  have all : ∀ n, (∀ m, n = m + 1 → ∀ {st : Sto} {rs : List Row} {bef : List D}, (∀ r ∈ rs, ROk bits names ent m r) → bef.length + 2 * m = 6 → cntL rs ≤ 1000 → Runs (m_rows_with_positions (m + 2) [.tup (rowsD rs), .tup bef]) st (RwpQ rs st)) → ∀ {st : Sto} {rs : List Row} {bef : List D}, (∀ r ∈ rs, ROk bits names ent n r) → bef.length + 2 * n = 6 → cntL rs ≤ 1000 → Runs (m_rows_with_positions (n + 2) [.tup (rowsD rs), .tup bef]) st (RwpQ rs st) := by
    intro n ih st rs bef hok hb hc
    rw [m_rows_with_positions, r_fn]
    refine ⟨rfl, ?_⟩
    simp
    refine runs_forL (fun i ρ st' => (∃ a3 a4 a5 a6 a7, ρ = [some (.tup (rowsD rs)), some (.tup bef), some (.loc st.length), a3, a4, a5, a6, a7]) ∧ ∃ es prs, lstAt st' st.length = some es ∧ PR (rs.take i) es prs ∧ Fr [] st st') ⟨⟨_, _, _, _, _, rfl⟩, [], [], lst_new, ⟨rfl, rfl, rfl⟩, .new⟩ ?_ ?_
    · rintro i it ρ st1 hi ⟨⟨a3, a4, a5, a6, a7, rfl⟩, es, prs, hL, hP, F1⟩
      obtain ⟨hlt, rfl⟩ := enum_item hi
      obtain ⟨hlt', he⟩ := rowsD_get hlt
      have hr := hok _ (List.getElem_mem hlt')
      have htk : rs.take (i + 1) = rs.take i ++ [rs[i]] := (List.take_append_getElem hlt').symm
      have hcs : cntL (rs.take i) + rs[i].cnt ≤ 1000 := by
        have : cntL rs = cntL (rs.take (i + 1)) + cntL (rs.drop (i + 1)) := by rw [← cntL_app, List.take_append_drop]
        rw [htk, cntL_app] at this
        simp only [cntL] at this
        omega
      rw [he]
      refine ⟨rfl, ?_⟩
      have hlen : es.length = cntL (rs.take i) := by rw [hP.es, List.length_map, hP.len]
      simp [sz8 (show bef.length + 1 ≤ 1000 by omega), sq_lst hL, hL]
      have hcp := cnt_pos rs[i]
      refine ⟨by rw [hlen]; exact Nat.lt_of_le_of_lt (show cntL (rs.take i) ≤ 1000 by omega) (by decide), ?_⟩
      have hLl := lst_lt hL
      refine Pu.go branches_p fun st3 F3 => ?_
      simp
      have hL3 : lstAt st3 st.length = some (es ++ [.tup [.tup (bef ++ [.int i]), rs[i].d]]) := F3.lst (lst_set hLl) (by simp)
      have F13 : Fr [] st st3 := (F1.setNew (Nat.le_refl _)).trans F3
      refine runs_forL (fun j ρ st' => (∃ a6 a7, ρ = [some (.tup (rowsD rs)), some (.tup bef), some (.loc st.length), some (.int i), some (rs[i].d), some (.tup (bef ++ [.int i])), a6, a7]) ∧ ∃ es' prs', lstAt st' st.length = some es' ∧ es' = prs'.map (fun p => D.tup [.tup p.1, p.2.d]) ∧ prs'.length = cntL (rs.take i) + 1 + ((rs[i].ins.take j).map cntL).sum ∧ prs'.any (fun p => p.2.isSet) = (hsL (rs.take i) || rs[i].isSet || (rs[i].ins.take j).any hsL) ∧ Fr [] st st') ⟨⟨_, _, rfl⟩, _, prs ++ [(bef ++ [.int i], rs[i])], hL3, by rw [hP.es, List.map_append]; rfl, by simp [hP.len], by simp [List.any_append, hP.hs], F13⟩ ?_ ?_
      · rintro j it ρ st4 hj ⟨⟨a6, a7, rfl⟩, es', prs', hL4, he4, hl4, hs4, F4⟩
        obtain ⟨hjl, rfl⟩ := enum_item hj
        obtain ⟨m, rs', hm, e2, hok', hin⟩ := brD_item hr hjl
        have hji : j < rs[i].ins.length := by rw [brD_ins, List.length_map] at hjl; exact hjl
        have hjt : rs[i].ins.take (j + 1) = rs[i].ins.take j ++ [rs[i].ins[j]] := (List.take_append_getElem hji).symm
        have hrs' : rs' = rs[i].ins[j] := by
          rw [List.getElem?_eq_getElem hji] at hin
          injection hin with hin; exact hin.symm
        have hrc : cntL rs' = cntL rs[i].ins[j] := by rw [hrs']
        have hrh : hsL rs' = hsL rs[i].ins[j] := by rw [hrs']
        have hcb : cntL (rs.take i) + 1 + ((rs[i].ins.take j).map cntL).sum + cntL rs' ≤ 1000 := by
          have h1 := cnt_ins rs[i]
          have h2 : (rs[i].ins.map cntL).sum = ((rs[i].ins.take (j + 1)).map cntL).sum + ((rs[i].ins.drop (j + 1)).map cntL).sum := by
            rw [← List.sum_append, ← List.map_append, List.take_append_drop]
          rw [hjt, List.map_append, List.sum_append] at h2
          simp only [List.map_cons, List.map_nil, List.sum_cons, List.sum_nil] at h2
          omega
        rw [e2]
        refine ⟨rfl, ?_⟩
        simp [sz8 (show bef.length + 1 + 1 ≤ 1000 by omega), sq_lst hL4]
        subst hm
        refine (ih m rfl hok' (by simp; omega) (by omega)).imp ?_
        rintro _ st5 ⟨L5, es5, prs5, rfl, hL5, hP5, hn5, F5⟩
        have hL45 := F5.lst hL4 (by simp)
        have hl5 : es5.length = cntL rs' := by rw [hP5.es, List.length_map, hP5.len]
        have hl4' : es'.length = cntL (rs.take i) + 1 + ((rs[i].ins.take j).map cntL).sum := by rw [he4, List.length_map, hl4]
        simp [hL45, hL5]
        refine ⟨?_, _, lst_set (lst_lt hL45), prs' ++ prs5, ?_, ?_, ?_, (F4.trans F5).setNew (Nat.le_refl _)⟩
        · rw [hl5, hl4']; exact sz8 (by omega)
        · rw [he4, hP5.es, List.map_append]
        · rw [List.length_append, hl4, hP5.len, ← List.map_take, hjt, List.map_append, List.sum_append]; simp; omega
        · rw [List.any_append, hs4, hP5.hs, hjt, List.any_append, hrh]; simp [Bool.or_assoc]
      · rintro ρ st4 ⟨⟨a6, a7, rfl⟩, es', prs', hL4, he4, hl4, hs4, F4⟩
        refine ⟨rfl, ?_⟩
        simp
        have hall : rs[i].ins.take (enumD 0 (brD rs[i])).length = rs[i].ins := List.take_of_length_le (by rw [enumD_len, brD_ins, List.length_map]; omega)
        rw [hall] at hl4 hs4
        refine ⟨es', hL4, ⟨prs', he4, ?_, ?_⟩, F4⟩
        · rw [hl4, htk, cntL_app]; simp only [cntL]; rw [cnt_ins]; omega
        · rw [hs4, htk, hsL_app]; simp only [hsL]; rw [hs_ins, Bool.or_false, Bool.or_assoc]
    · rintro ρ st1 ⟨⟨a3, a4, a5, a6, a7, rfl⟩, es, prs, hL, hP, F1⟩
      refine ⟨rfl, ?_⟩
      simp
      have : rs.take (enumD 0 (rowsD rs)).length = rs := List.take_of_length_le (by rw [enumD_len, rowsD_map, List.length_map]; omega)
      rw [this] at hP
      exact ⟨_, es, prs, rfl, hL, hP, Nat.le_refl _, F1⟩
  induction n with
  | zero => exact all 0 (fun m h => by cases h)
  | succ n ih => exact all (n + 1) (fun m h => by injection h with h; subst h; exact ih)
end
section
@[simp] theorem r_fld {st : Sto} {ρ : En} {Q : D → Sto → Prop} {c : Nat} {n : Str} {f : En → M D} : Runs (eFld c n f ρ) st Q ↔ Runs (f ρ) st fun x st1 => match x with | .loc i => ∃ fs, st1[i]? = some (.obj c fs) ∧ ∃ d, fs.lookup n = some d ∧ Q d st1 | _ => False := by
  with_unfolding_all
    unfold eFld; rw [runs_bind]
    constructor <;> intro z <;> refine z.imp fun x st1 q => ?_ <;> cases x <;> try exact q
    · rename_i i
      unfold Runs at q
      show ∃ fs, _
      rcases h : st1[i]? with _ | o
      · simp [h] at q
      · cases o with
        | obj c' fs =>
          simp only [h] at q
          by_cases hc : c' = c
          · subst hc
            simp only [if_true] at q
            rcases hl : fs.lookup n with _ | d
            · simp [hl] at q
            · simp only [hl] at q; exact ⟨fs, rfl, d, hl, q⟩
          · simp [hc] at q
        | _ => simp [h] at q
    · rename_i i
      obtain ⟨fs, h, d, hl, q⟩ := q
      unfold Runs
      simp only [h, if_true, hl]; exact q
@[simp] theorem r_sfld {st : Sto} {ρ : En} {Q : Ctl → Sto → Prop} {c : Nat} {n : Str} {fv fo : En → M D} : Runs (sFld c n fv fo ρ) st Q ↔ Runs (fv ρ) st fun d st1 => Runs (fo ρ) st1 fun o st2 => Runs (setFld c n d o) st2 fun _ st3 => Q (.nx ρ) st3 := by
  unfold sFld; simp only [runs_bind, runs_pure]
theorem x_setf {st : Sto} {Q : Unit → Sto → Prop} {c i : Nat} {n : Str} {d : D} {fs : List (Str × D)} (h : st[i]? = some (.obj c fs)) (hl : fs.length < 1000) (q : Q () (st.set i (.obj c (putFD n d fs)))) : Runs (setFld c n d (.loc i)) st Q := by
  refine Runs.of (a := ()) (st' := st.set i (.obj c (putFD n d fs))) ?_ q
  unfold setFld; simp only [h, and_self, hl, if_true]
theorem f_nil {st : Sto} {ρ : En} {QC : Ctl → Sto → Prop} {ok : Sto → Bool} {gi : Item → En → M En} {b : En → M Ctl} : Runs (forL ok gi b [] ρ) st QC ↔ ok st = true ∧ QC (.nx ρ) st := by
  with_unfolding_all
    rw [forL, runs_bind]
    unfold Runs guardS
    by_cases h : ok st = true
    · simp only [h, if_true, true_and]; exact Iff.rfl
    · simp [h]
theorem f_cons {st : Sto} {ρ : En} {QC : Ctl → Sto → Prop} {ok : Sto → Bool} {gi : Item → En → M En} {b : En → M Ctl} {it : Item} {r : List Item} : Runs (forL ok gi b (it :: r) ρ) st QC ↔ ok st = true ∧ Runs (gi it ρ) st fun ρ1 st1 => Runs (b ρ1) st1 fun c st2 => match c with
    | .nx ρ2 => Runs (forL ok gi b r ρ2) st2 QC
    | .ct ρ2 => Runs (forL ok gi b r ρ2) st2 QC
    | .bk ρ2 => QC (.nx ρ2) st2
    | .rt d => QC (.rt d) st2 := by
  with_unfolding_all
    rw [forL, runs_bind]
    have : ∀ {QU : Unit → Sto → Prop}, Runs (guardS ok) st QU ↔ ok st = true ∧ QU () st := by
      intro QU
      unfold Runs guardS
      by_cases h : ok st = true
      · simp only [h, if_true, true_and]
      · simp [h]
    rw [this]
    refine and_congr Iff.rfl ?_
    rw [runs_bind]
    constructor <;> intro z <;> refine z.imp fun ρ1 st1 q => ?_
    · rw [runs_bind] at q; refine q.imp fun c st2 q => ?_; cases c <;> exact q
    · rw [runs_bind]; refine q.imp fun c st2 q => ?_; cases c <;> exact q
theorem x_mk {st : Sto} {Q : D → Sto → Prop} {c : Nat} {m : D → M D} : (Runs (m (.loc st.length)) (st ++ [.obj c []]) fun d st' => d = .non ∧ Q (.loc st.length) st') → Runs (mkM c m) st Q := by
  intro z
  obtain ⟨a, st', e, rfl, q⟩ := z.get
  exact Runs.of (by unfold mkM; rw [e]) q
theorem chk_guard_p {st : Sto} {bits names : List Str} {ent : Bool} {rs : List Row} {page : Str} (hok : ∀ r ∈ rs, ROk bits names ent 3 r) (hc : cntL rs ≤ 8) : Pu (m_check_guard [.tup (bits.map .str), .tup (names.map .str), .str page, .str (sideS ent), .tup (rowsD rs)]) st .non := by
  unfold Pu m_check_guard b_check_guard
  rw [r_fn]
  refine ⟨rfl, ?_⟩
  simp
  refine Pu.go (first_p 3 hok rfl) fun st2 F2 => ?_
  simp [D.isNon]
  refine (rwp_p 3 hok rfl (by omega)).imp ?_
  rintro _ st3 ⟨L, es, prs, rfl, hL, hP, hn, F3⟩
  have hl : es.length = cntL rs := by rw [hP.es, List.length_map, hP.len]
  have hl8 : ¬ (8 < es.length) := by omega
  have hl8' : ¬ ((8 : Int) < es.length) := by omega
  simp [sq_lst hL, hl8, hl8', r_never]
  first | exact F2.trans F3 | exact ⟨by omega, F2.trans F3⟩
theorem chk_site_p {st : Sto} {S : PS} (h : S.OK) : Pu (m_check_site [bitsD S, pagesD S, .str S.start, .int S.keep]) st .non := by
  unfold Pu m_check_site b_check_site bitsD pagesD
  rw [r_fn]
  refine ⟨rfl, ?_⟩
  simp
  refine Pu.go (are_bits_p h.bo h.bl) fun st1 F1 => ?_
  simp
  refine Pu.go (are_pages_p h.p2 h.p5 h.no) fun st2 F2 => ?_
  simp
  refine Pu.go (names_of_p h.p5) fun st3 F3 => ?_
  simp
  refine runs_forL (fun i ρ st' => (∃ a5 a6 a7 a8, ρ = [some (.tup (S.bits.map .str)), some (.tup (S.pages.map Pg.d)), some (.str S.start), some (.int S.keep), some (.tup (S.names.map .str)), a5, a6, a7, a8]) ∧ Fr [] st st') ⟨⟨none, none, none, none, by unfold PS.names; simp⟩, (F1.trans F2).trans F3⟩ ?_ ?_
  · rintro i it ρ st4 hi ⟨⟨a5, a6, a7, a8, rfl⟩, F4⟩
    obtain ⟨hk, rfl⟩ := map_item (f := Pg.d) (by rw [List.map_map]; exact hi)
    have hp := h.pg _ (List.getElem_mem hk)
    refine ⟨rfl, ?_⟩
    simp [Pg.d, enumD, f_cons, f_nil]
    refine Pu.go (chk_guard_p (ent := true) hp.e hp.ec) fun st5 F5 => ?_
    refine Pu.go (chk_guard_p (ent := false) hp.l hp.lc) fun st6 F6 => ?_
    try simp [f_nil]
    exact (F4.trans F5).trans F6
  · rintro ρ st4 ⟨⟨a5, a6, a7, a8, rfl⟩, F4⟩
    refine ⟨rfl, ?_⟩
    have hst : S.start ∈ S.names := h.st
    have h2 := h.k2
    have h4 := h.k4
    have hfl : ∀ (xs : List Str) (x : D), x ∈ xs.map D.str → x.flat = true := fun xs x hx => by
      obtain ⟨y, _, rfl⟩ := List.mem_map.mp hx; rfl
    simp [inF_str, hst, fl]
    refine Pu.go is_integer_p fun st5 F5 => ?_
    simp [h2, h4]
    exact F4.trans F5
def siteO (S : PS) : SO := .obj 0 [("bits", bitsD S), ("pages", pagesD S), ("start", .str S.start), ("keep", .int S.keep)]
structure SiteAt (st : Sto) (o : Nat) (S : PS) : Prop where
  at_ : st[o]? = some (siteO S)
  ok : S.OK
theorem SiteAt.fr {st st' : Sto} {o : Nat} {S : PS} {ex : List Nat} (h : SiteAt st o S) (F : Fr ex st st') (n : o ∉ ex) : SiteAt st' o S := by
  have : o < st.length := by
    rcases Nat.lt_or_ge o st.length with z | z
    · exact z
    · have := h.at_; rw [List.getElem?_eq_none z] at this; cases this
  exact ⟨(F.eq o this n).trans h.at_, h.ok⟩
theorem fn1 : ((Str.ofString "bits" : Str) = Str.ofString "pages") = False := by simp; decide +kernel
theorem fn2 : ((Str.ofString "bits" : Str) = Str.ofString "start") = False := by simp; decide +kernel
theorem fn3 : ((Str.ofString "bits" : Str) = Str.ofString "keep") = False := by simp; decide +kernel
theorem fn4 : ((Str.ofString "pages" : Str) = Str.ofString "start") = False := by simp; decide +kernel
theorem fn5 : ((Str.ofString "pages" : Str) = Str.ofString "keep") = False := by simp; decide +kernel
theorem fn6 : ((Str.ofString "start" : Str) = Str.ofString "keep") = False := by simp; decide +kernel
theorem mk_site {st : Sto} {S : PS} {Q : D → Sto → Prop} (h : S.OK) (q : ∀ st', SiteAt st' st.length S → Fr [] st st' → Q (.loc st.length) st') : Runs (mkM 0 fun o => m_Site___init__ [o, bitsD S, pagesD S, .str S.start, .int S.keep]) st Q := by
  refine x_mk ?_
  unfold m_Site___init__ b_Site___init__
  rw [r_fn]
  refine ⟨rfl, ?_⟩
  simp
  refine Pu.go (chk_site_p h) fun st1 F1 => ?_
  have hl : st.length < st1.length := by have := F1.le; simp at this; omega
  have ho : st1[st.length]? = some (.obj 0 []) := by rw [F1.eq st.length (by simp) (by simp)]; simp
  refine x_setf ho (by decide) ?_
  try simp
  refine x_setf (fs := [("bits", bitsD S)]) (by simp [hl, putFD]) (by simp) ?_
  simp
  refine x_setf (fs := [("bits", bitsD S), ("pages", pagesD S)]) (by simp [hl, putFD, fn1]) (by simp) ?_
  simp
  refine x_setf (fs := [("bits", bitsD S), ("pages", pagesD S), ("start", .str S.start)]) (by simp [hl, putFD, fn1, fn2, fn4]) (by simp) ?_
  simp [putFD, fn3, fn5, fn6]
  exact q _ ⟨by simp [hl, siteO], h⟩ ((Fr.trans .new F1).setNew (Nat.le_refl _))
end
section
@[simp] theorem r_meth {st : Sto} {ρ : En} {Q : D → Sto → Prop} {c : Nat} {n : Str} {m : List D → M D} {dds : List D} {fo : En → M D} {fa : En → M (List D)} : Runs (eMeth c n m dds fo fa ρ) st Q ↔ Runs (fo ρ) st fun o st1 => Runs (chkO c n o) st1 fun _ st2 => Runs (fa ρ) st2 fun ds st3 => Runs (m (o :: (ds ++ dds))) st3 Q := by
  unfold eMeth; simp only [runs_bind]
@[simp] theorem r_make {st : Sto} {ρ : En} {Q : D → Sto → Prop} {c n nk : Nat} {g : List D → List D → List D} {m : List D → M D} {fa fk : En → M (List D)} : Runs (eMakeK c n nk g m fa fk ρ) st Q ↔ Runs (fa ρ) st fun ds st1 => Runs (fk ρ) st1 fun zs st2 => (ds.length = n ∧ zs.length = nk) ∧ Runs (mkM c fun o => m (g (o :: ds) zs)) st2 Q := by
  unfold eMakeK; simp only [runs_bind]
  constructor <;> intro z <;> refine z.imp fun ds st1 q => q.imp fun zs st2 q => ?_
  · by_cases h : ds.length = n ∧ zs.length = nk
    · rw [if_pos h] at q; exact ⟨h, q⟩
    · rw [if_neg h] at q; exact (runs_stuck.mp q).elim
  · rw [if_pos q.1]; exact q.2
theorem x_chkO {st : Sto} {QU : Unit → Sto → Prop} {c i : Nat} {n : Str} {fs : List (Str × D)} (h : st[i]? = some (.obj c fs)) (hl : fs.lookup n = none) (q : QU () st) : Runs (chkO c n (.loc i)) st QU := by
  refine Runs.of (a := ()) (st' := st) ?_ q
  unfold chkO; simp only [h, and_self, hl, if_true]
@[simp] theorem x_chkT {st : Sto} {QU : Unit → Sto → Prop} {ds : List D} : Runs (chkT (.tup ds)) st QU ↔ QU () st := by with_unfolding_all exact Iff.rfl
theorem sd1 : (Str.ofString "enter" = Str.ofString "leave") = False := n21
@[simp] theorem x_idx {st : Sto} {Q : D → Sto → Prop} {ent : Bool} : Runs (mIndexT (.tup [.str "enter", .str "leave"]) [.str (sideS ent)]) st Q ↔ Q (.int (if ent then 0 else 1)) st := by
  have : mIndexT (.tup [.str "enter", .str "leave"]) [.str (sideS ent)] st = .ok (.int (if ent then 0 else 1)) st := by
    cases ent <;> simp [mIndexT, strsOf, placeS, sideS]
  unfold Runs; rw [this]
def Pg.parts (p : Pg) : D := .tup [.tup (rowsD p.ent), .tup (rowsD p.lea), .bl p.heavy]
def Pg.rows (p : Pg) (ent : Bool) : List Row := if ent then p.ent else p.lea
theorem pg_inj : ∀ {ps : List Pg} {p q : Pg}, (ps.map Pg.name).Nodup → p ∈ ps → q ∈ ps → p.name = q.name → p = q
  | [], _, _, _, h, _, _ => by cases h
  | x :: r, p, q, hn, hp, hq, e => by
    rw [List.map_cons, List.nodup_cons] at hn
    rcases List.mem_cons.mp hp with rfl | hp' <;> rcases List.mem_cons.mp hq with rfl | hq'
    · rfl
    · exact (hn.1 (List.mem_map.mpr ⟨q, hq', e.symm⟩)).elim
    · exact (hn.1 (List.mem_map.mpr ⟨p, hp', e⟩)).elim
    · exact pg_inj hn.2 hp' hq' e
theorem NamesOK.sok {xs : List Str} (h : NamesOK xs) {x : Str} (hx : x ∈ xs) : PyData.strOk x = true := (h.1 x hx).ok
theorem inSides {ent : Bool} : (D.str (sideS ent)).inF [.str "enter", .str "leave"] = true := by cases ent <;> rw [inF2] <;> simp [sideS]
section
variable {b p s k : D}
theorem lkB : List.lookup (Str.ofString "bits") [(Str.ofString "bits", b), (Str.ofString "pages", p), (Str.ofString "start", s), (Str.ofString "keep", k)] = some b := by
  simp [List.lookup]
theorem lkP : List.lookup (Str.ofString "pages") [(Str.ofString "bits", b), (Str.ofString "pages", p), (Str.ofString "start", s), (Str.ofString "keep", k)] = some p := by
  have e1 : (Str.ofString "pages" == Str.ofString "bits") = false := by decide +kernel
  simp [List.lookup, e1]
theorem lkS : List.lookup (Str.ofString "start") [(Str.ofString "bits", b), (Str.ofString "pages", p), (Str.ofString "start", s), (Str.ofString "keep", k)] = some s := by
  have e1 : (Str.ofString "start" == Str.ofString "bits") = false := by decide +kernel
  have e2 : (Str.ofString "start" == Str.ofString "pages") = false := by decide +kernel
  simp [List.lookup, e1, e2]
theorem lkK : List.lookup (Str.ofString "keep") [(Str.ofString "bits", b), (Str.ofString "pages", p), (Str.ofString "start", s), (Str.ofString "keep", k)] = some k := by
  have e1 : (Str.ofString "keep" == Str.ofString "bits") = false := by decide +kernel
  have e2 : (Str.ofString "keep" == Str.ofString "pages") = false := by decide +kernel
  have e3 : (Str.ofString "keep" == Str.ofString "start") = false := by decide +kernel
  simp [List.lookup, e1, e2, e3]
theorem lkN {n : Str} (e1 : (n == Str.ofString "bits") = false) (e2 : (n == Str.ofString "pages") = false) (e3 : (n == Str.ofString "start") = false) (e4 : (n == Str.ofString "keep") = false) : List.lookup n [(Str.ofString "bits", b), (Str.ofString "pages", p), (Str.ofString "start", s), (Str.ofString "keep", k)] = none := by
  simp [List.lookup, e1, e2, e3, e4]
end
theorem ixN_mod {n : Nat} {k : Int} (h : 0 < n) : ∃ i : Nat, i < n ∧ k % (n : Int) = i ∧ ixN n (k % (n : Int)) = some i := by
  have h0 : 0 ≤ k % (n : Int) := Int.emod_nonneg _ (by omega)
  have h1 : k % (n : Int) < n := Int.emod_lt_of_pos _ (by omega)
  refine ⟨(k % (n : Int)).toNat, by omega, by omega, ?_⟩
  unfold ixN; rw [if_pos h0, if_pos h1]
theorem atI_nat {α : Type} {f : α → D} {xs : List α} {i : Nat} (h : i < xs.length) : atI (xs.map f) (i : Int) = some (f xs[i]) := by
  unfold atI ixN
  simp only [List.length_map, if_pos (Int.natCast_nonneg i), Option.bind_some]
  rw [if_pos (by omega), Option.bind_some, List.getElem?_map]
  simp only [Int.toNat_natCast]
  rw [List.getElem?_eq_getElem h]; rfl
end
section
theorem find_p {st : Sto} {S : PS} {p : Pg} (h : S.OK) (hp : p ∈ S.pages) : Pu (m_find_page [pagesD S, .str p.name]) st p.parts := by
  have hno := h.no
  have hps : PyData.strOk p.name = true := hno.sok (List.mem_map.mpr ⟨p, hp, rfl⟩)
  unfold Pu m_find_page b_find_page pagesD
  rw [r_fn]
  refine ⟨rfl, ?_⟩
  simp
  refine runs_forL (fun i ρ st' => (∃ a2 a3, ρ = [some (.tup (S.pages.map Pg.d)), some (.str p.name), a2, a3]) ∧ st' = st ∧ p ∉ S.pages.take i) ⟨⟨_, _, rfl⟩, rfl, by simp⟩ ?_ ?_
  · rintro i it ρ st4 hi ⟨⟨a2, a3, rfl⟩, rfl, hni⟩
    obtain ⟨hk, rfl⟩ := map_item (f := Pg.d) (by rw [List.map_map]; exact hi)
    refine ⟨rfl, ?_⟩
    have hqs : PyData.strOk S.pages[i].name = true := hno.sok (List.mem_map.mpr ⟨_, List.getElem_mem hk, rfl⟩)
    simp [Pg.d, hps, hqs]
    by_cases e : S.pages[i].name = p.name
    · have := pg_inj hno.2 (List.getElem_mem hk) hp e
      simp [e]
      rw [← this]
      exact ⟨rfl, .refl⟩
    · simp [e]
      intro hm
      rw [← List.take_append_getElem hk] at hm
      rcases List.mem_append.mp hm with z | z
      · exact hni z
      · simp at z; rw [← z] at e; exact e rfl
  · rintro ρ st4 ⟨⟨a2, a3, rfl⟩, rfl, hni⟩
    exact absurd hp (by simpa using hni)
theorem guard_p {st : Sto} {S : PS} {p : Pg} {o : Nat} {ent : Bool} (h : SiteAt st o S) (hp : p ∈ S.pages) : Pu (m_Site_guard [.loc o, .str p.name, .str (sideS ent)]) st (.tup (rowsD (p.rows ent))) := by
  unfold Pu m_Site_guard b_Site_guard
  rw [r_fn]
  refine ⟨rfl, ?_⟩
  simp [h.at_, siteO, lkP]
  refine Pu.go (find_p h.ok hp) fun st1 F1 => ?_
  simp [enumD, f_cons, f_nil, Pg.parts]
  cases ent <;> simp [sideS, Pg.rows] <;> exact F1
end
section
/-! `_law_same` says True of values that are the same -/
section
variable {st : Sto} {Q : D → Sto → Prop}
@[simp] theorem y_tn : Runs (isiB "tuple" .non) st Q ↔ Q (.bl false) st := x_isi rfl (by decide +kernel)
@[simp] theorem y_tb {b : Bool} : Runs (isiB "tuple" (.bl b)) st Q ↔ Q (.bl false) st := x_isi rfl (by decide +kernel)
@[simp] theorem y_ti {b : Int} : Runs (isiB "tuple" (.int b)) st Q ↔ Q (.bl false) st := x_isi rfl (by decide +kernel)
@[simp] theorem y_ts {b : Str} : Runs (isiB "tuple" (.str b)) st Q ↔ Q (.bl false) st := x_isi rfl (by decide +kernel)
@[simp] theorem y_ln : Runs (isiB "list" .non) st Q ↔ Q (.bl false) st := x_isi rfl (by decide +kernel)
@[simp] theorem y_lb {b : Bool} : Runs (isiB "list" (.bl b)) st Q ↔ Q (.bl false) st := x_isi rfl (by decide +kernel)
@[simp] theorem y_li {b : Int} : Runs (isiB "list" (.int b)) st Q ↔ Q (.bl false) st := x_isi rfl (by decide +kernel)
@[simp] theorem y_ls {b : Str} : Runs (isiB "list" (.str b)) st Q ↔ Q (.bl false) st := x_isi rfl (by decide +kernel)
@[simp] theorem y_lt {b : List D} : Runs (isiB "list" (.tup b)) st Q ↔ Q (.bl false) st := x_isi rfl (by decide +kernel)
@[simp] theorem y_bs {b : Str} : Runs (isiB "bool" (.str b)) st Q ↔ Q (.bl false) st := x_isi rfl (by decide +kernel)
@[simp] theorem y_is {b : Str} : Runs (isiB "int" (.str b)) st Q ↔ Q (.bl false) st := x_isi rfl (by decide +kernel)
theorem y_ll {i : Nat} {xs : List D} (h : seqAt st i = some xs) : Runs (isiB "list" (.loc i)) st Q ↔ Q (.bl true) st := x_isi (t := "list") (by simp [D.ty, h]) (by decide +kernel)
theorem y_tl {i : Nat} {xs : List D} (h : seqAt st i = some xs) : Runs (isiB "tuple" (.loc i)) st Q ↔ Q (.bl false) st := x_isi (t := "list") (by simp [D.ty, h]) (by decide +kernel)
@[simp] theorem x_neb {i j : Bool} : Runs (opNe (.bl i) (.bl j)) st Q ↔ Q (.bl (!decide (i = j))) st := by
  have : eqData st (.bl i) (.bl j) = some (decide (i = j)) := by
    show some (PyData.eqv (.bool i) (.bool j)) = _
    cases i <;> cases j <;> rfl
  unfold Runs opNe; rw [this]
end
@[simp] theorem r_gitt {i j l : Nat} {d e f : D} {ρ : En} {st : Sto} {QE : En → Sto → Prop} : Runs (gItT i j l (.one (.tup [d, e, f])) ρ) st QE ↔ QE (((ρ.set i (some d)).set j (some e)).set l (some f)) st := by with_unfolding_all exact Iff.rfl
def SameD (st : Sto) : Nat → D → D → Prop
  | 0 => fun _ _ => False
  | n + 1 => fun x y => match x, y with
    | .non, .non => True
    | .bl a, .bl b => a = b
    | .int a, .int b => a = b
    | .str a, .str b => a = b ∧ PyData.strOk a = true
    | .tup xs, .tup ys => xs.length = ys.length ∧ xs.length ≤ 100 ∧ ∀ (k : Nat) x y, xs[k]? = some x → ys[k]? = some y → SameD st n x y
    | .loc i, .loc j => ∃ xs ys, seqAt st i = some xs ∧ seqAt st j = some ys ∧ xs.length = ys.length ∧ xs.length ≤ 100 ∧ ∀ (k : Nat) x y, xs[k]? = some x → ys[k]? = some y → SameD st n x y
    | _, _ => False
theorem SameD.fr {st st' : Sto} (F : Fr [] st st') : ∀ {n : Nat} {x y : D}, SameD st n x y → SameD st' n x y
  | 0, _, _, h => h.elim
  | n + 1, x, y, h => by
    unfold SameD at h ⊢
    cases x <;> cases y <;> try exact h
    · exact ⟨h.1, h.2.1, fun k x y h1 h2 => SameD.fr F (h.2.2 k x y h1 h2)⟩
    · obtain ⟨xs, ys, e1, e2, h1, h2, h3⟩ := h
      exact ⟨xs, ys, F.seq e1 (by simp), F.seq e2 (by simp), h1, h2, fun k x y h1 h2 => SameD.fr F (h3 k x y h1 h2)⟩
@[simp] theorem x_listl {st : Sto} {Q : D → Sto → Prop} {l : Nat} : Runs (bList [.loc l]) st Q ↔ ∃ ds, seqAt st l = some ds ∧ Q (.loc st.length) (st ++ [.lst ds]) := by
  unfold Runs; simp only [bList, seqOf]
  rcases seqAt st l with _ | ds <;> simp
theorem lst_app {st os : Sto} {j : Nat} {ds : List D} (h : os[j]? = some (.lst ds)) : lstAt (st ++ os) (st.length + j) = some ds := by
  unfold lstAt
  rw [List.getElem?_append_right (by omega), Nat.add_sub_cancel_left, h]
theorem Fr.apps {ex : List Nat} {st os : Sto} : Fr ex st (st ++ os) := ⟨by simp, fun i a _ => List.getElem?_append_left a⟩
theorem le_line {n : Nat} (h : n ≤ 1000) : n ≤ sizeLine := Nat.le_of_lt (Nat.lt_of_le_of_lt h (by decide))
def Plain : Nat → D → Prop
  | 0 => fun _ => False
  | n + 1 => fun x => match x with
    | .non => True
    | .bl _ => True
    | .int _ => True
    | .str s => PyData.strOk s = true
    | .tup xs => xs.length ≤ 100 ∧ ∀ x ∈ xs, Plain n x
    | .loc _ => False
theorem Plain.same {st : Sto} : ∀ {n : Nat} {x : D}, Plain n x → SameD st n x x
  | 0, _, h => h.elim
  | n + 1, x, h => by
    unfold Plain at h
    unfold SameD
    cases x with
    | loc i => exact h.elim
    | str s => exact ⟨rfl, h⟩
    | tup xs => exact ⟨rfl, h.1, fun k x y h1 h2 => by
        have e : x = y := Option.some.inj (h1.symm.trans h2)
        subst e
        exact Plain.same (h.2 x (List.mem_of_getElem? h1))⟩
    | _ => first | trivial | rfl
theorem plain_strs {xs : List Str} {n : Nat} (h : ∀ x ∈ xs, PyData.strOk x = true) (hl : xs.length ≤ 100) : Plain (n + 2) (.tup (xs.map .str)) := by
  unfold Plain
  refine ⟨by simpa using hl, fun x hx => ?_⟩
  obtain ⟨y, hy, rfl⟩ := List.mem_map.mp hx
  exact h y hy
theorem atI_get {ds : List D} {i : Nat} {d : D} (h : ds[i]? = some d) : atI ds (i : Int) = some d := by
  have hi : i < ds.length := by
    rcases Nat.lt_or_ge i ds.length with z | z
    · exact z
    · rw [List.getElem?_eq_none z] at h; cases h
  unfold atI ixN
  rw [if_pos (Int.natCast_nonneg i), if_pos (by omega), Option.bind_some]
  simpa using h
theorem same_p : ∀ {n : Nat} {st : Sto} {x y : D}, SameD st n x y → Pu (m__law_same n [x, y]) st (.bl true) := by
  intro n
  induction n with
  | zero => intro st x y h; exact h.elim
  | succ n ih =>
    intro st x y h
    unfold Pu m__law_same
    rw [r_fn]
    refine ⟨rfl, ?_⟩
    unfold SameD at h
    cases x <;> cases y <;> try exact h.elim
    · simp [D.isNon]; exact .refl
    · rename_i a b
      simp at h; subst h
      simp [D.isNon]; exact .refl
    · rename_i a b
      simp at h; subst h
      simp [D.isNon]; exact .refl
    · rename_i a b
      obtain ⟨h, hs⟩ := h; subst h
      simp [D.isNon, hs]; exact .refl
    · rename_i xs ys
      obtain ⟨h1, h2, h3⟩ := h
      have h2' : ys.length ≤ 100 := by omega
      simp [h1]
      refine ⟨by omega, lc_true lst_new ?_ (fun _ _ => rfl) ?_ ?_⟩
      · simpa using h2'
      · intro it hit st1 F _
        obtain ⟨k, hk, rfl⟩ := List.mem_map.mp hit
        have hk' : k < ys.length := by simpa using hk
        have e1 := atI_get (List.getElem?_eq_getElem (l := xs) (i := k) (by omega))
        have e2 := atI_get (List.getElem?_eq_getElem (l := ys) (i := k) hk')
        simp [wipeD, e1, e2]
        have hsame := h3 k _ _ (List.getElem?_eq_getElem (l := xs) (i := k) (by omega)) (List.getElem?_eq_getElem (l := ys) (i := k) hk')
        exact Pu.go (ih (hsame.fr F.fin)) fun st2 F2 => ⟨rfl, F2⟩
      · intro st1 F hL
        exact ⟨_, bind_bls hL, nofalse _, F.fin⟩
    · rename_i i j
      obtain ⟨xs, ys, e1, e2, h1, h2, h3⟩ := h
      have h2' : ys.length ≤ 100 := by omega
      simp [y_ll e1, y_ll e2, y_tl e1, y_tl e2, e1, e2, h1]
      refine ⟨by omega, lc_true lst_new ?_ (fun _ _ => rfl) ?_ ?_⟩
      · simpa using h2'
      · intro it hit st1 F _
        obtain ⟨k, hk, rfl⟩ := List.mem_map.mp hit
        have hk' : k < ys.length := by simpa using hk
        have g1 := atI_get (List.getElem?_eq_getElem (l := xs) (i := k) (by omega))
        have g2 := atI_get (List.getElem?_eq_getElem (l := ys) (i := k) hk')
        have f1 := F.fin.seq e1 (by simp)
        have f2 := F.fin.seq e2 (by simp)
        simp [wipeD, g1, g2, f1, f2]
        have hsame := h3 k _ _ (List.getElem?_eq_getElem (l := xs) (i := k) (by omega)) (List.getElem?_eq_getElem (l := ys) (i := k) hk')
        exact Pu.go (ih (hsame.fr F.fin)) fun st2 F2 => ⟨rfl, F2⟩
      · intro st1 F hL
        exact ⟨_, bind_bls hL, nofalse _, F.fin⟩
theorem cutD_to (ds : List D) (k : Nat) : cutD ds none (some (k : Int)) = ds.take k := by
  unfold cutD
  rw [HT.sIx_none, HT.sIx_nat, List.drop_zero, Nat.sub_zero]
  rcases Nat.le_total k ds.length with h | h
  · rw [Nat.min_eq_left h]
  · rw [Nat.min_eq_right h, List.take_of_length_le (Nat.le_refl _), List.take_of_length_le h]
theorem cutD_from (ds : List D) (k : Nat) : cutD ds (some (k : Int)) none = ds.drop k := by
  unfold cutD
  rw [HT.sIx_none, HT.sIx_nat]
  rcases Nat.le_total k ds.length with h | h
  · rw [Nat.min_eq_left h, List.take_of_length_le (by simp)]
  · rw [Nat.min_eq_right h, List.drop_eq_nil_of_le (Nat.le_refl _), List.drop_eq_nil_of_le h]; simp
theorem cutD_from1 (ds : List D) : cutD ds (some 1) none = ds.drop 1 := cutD_from ds 1
theorem cutD_to1 (ds : List D) (k : Nat) : cutD ds none (some ((k : Int) + 1)) = ds.take (k + 1) := by rw [← cutD_to]; rfl
theorem cutD_from2 (ds : List D) (k : Nat) : cutD ds (some ((k : Int) + 1)) none = ds.drop (k + 1) := by rw [← cutD_from]; rfl
end
section
/-! guards run: positions, the machine, go_on -/
theorem cutD_tom (ds es : List D) (k : Nat) (hk : 0 < k) (he : es.length = k) : cutD (ds ++ es) none (some (-(k : Int))) = ds := by
  unfold cutD HT.sIx
  have h1 : (-(k : Int)) < 0 := by omega
  simp only [h1, if_true, List.drop_zero, Nat.sub_zero]
  have h2 : (-(k : Int) + ((ds ++ es).length : Nat)).toNat = ds.length := by simp; omega
  rw [h2]; simp
structure Fram where
  rs : List Row
  j : Nat
  s : Bool
def Fram.sd (f : Fram) : Int := if f.s then 0 else 1
def pref : List Fram → List Int
  | [] => []
  | f :: K => pref K ++ [(f.j : Int), f.sd]
def posD (K : List Fram) (i : Nat) : D := .tup ((pref K ++ [(i : Int)]).map .int)
def WF (R : List Row) : List Fram → List Row → Prop
  | [], rs => rs = R
  | f :: K, rs => WF R K f.rs ∧ ∃ h t e, f.rs[f.j]? = some (.br h t e) ∧ rs = if f.s then t else e
theorem pref_len : ∀ K, (pref K).length = 2 * K.length
  | [] => rfl
  | f :: K => by unfold pref; simp [pref_len K]; omega
theorem eqNil {st : Sto} : ∀ xs : List Int, eqData st (.tup (xs.map .int)) (.tup []) = some (decide (xs = [])) := by
  intro xs
  have e : allO ((xs.map D.int).map (toPD st 63)) = some (xs.map PyData.int) := by
    induction xs with
    | nil => rfl
    | cons x r ih => rw [List.map_cons, List.map_cons, List.map_cons]; unfold allO; rw [ih]; rfl
  unfold eqData
  have e1 : toPD st 64 (.tup (xs.map D.int)) = some (.tuple (xs.map PyData.int)) := by
    unfold toPD; simp only; rw [e]; rfl
  have e2 : toPD st 64 (.tup []) = some (.tuple []) := rfl
  rw [e1, e2]
  have e3 : SeqAt.shaped (.tuple (xs.map PyData.int)) = true := by
    have h1 : ∀ xs : List Int, PyData.canLayAll0 (xs.map PyData.int) = true ∧ PyData.depthAll (xs.map PyData.int) = 0 := by
      intro xs
      induction xs with
      | nil => exact ⟨rfl, rfl⟩
      | cons x r ih => exact ⟨by rw [List.map_cons]; unfold PyData.canLayAll0; rw [ih.1]; rfl, by rw [List.map_cons]; unfold PyData.depthAll; rw [ih.2]; rfl⟩
    unfold SeqAt.shaped PyData.canLay0 PyData.depth
    rw [(h1 xs).1, (h1 xs).2]; rfl
  have e4 : SeqAt.shaped (.tuple []) = true := by decide +kernel
  simp only [e3, e4, Bool.and_self, if_true]
  cases xs with
  | nil => rfl
  | cons x r => simp; rfl
@[simp] theorem x_eqnil {st : Sto} {Q : D → Sto → Prop} {xs : List Int} : Runs (opEq (.tup (xs.map .int)) (.tup [])) st Q ↔ Q (.bl (decide (xs = []))) st := by
  unfold Runs opEq; rw [eqNil]
theorem atI_last {α : Type} {xs : List α} {x : α} : atI (xs ++ [x]) (-1) = some x := by
  unfold atI ixN
  simp
  have : (-1 + ((xs.length : Int) + 1)).toNat = xs.length := by omega
  rw [if_pos (by omega), this]
  simp
theorem cutD_m1 {ds : List D} {d : D} : cutD (ds ++ [d]) none (some (-1)) = ds := cutD_tom ds [d] 1 (by omega) rfl
theorem behind_p {st : Sto} {xs : List Int} {j : Int} (hl : xs.length ≤ 100) : Pu (m_behind [.tup ((xs ++ [j]).map .int)]) st (.tup ((xs ++ [j + 1]).map .int)) := by
  unfold Pu m_behind b_behind
  rw [r_fn]
  refine ⟨rfl, ?_⟩
  have e : Runs (opEq (.tup (List.map D.int xs ++ [D.int j])) (.tup [])) st = Runs (opEq (.tup ((xs ++ [j]).map .int)) (.tup [])) st := by simp
  simp [e, cutD_m1, atI_last]
  exact ⟨le_line (by omega), .refl⟩
theorem behind0_p {st : Sto} : Pu (m_behind [.tup []]) st .non := by
  unfold Pu m_behind b_behind
  rw [r_fn]
  refine ⟨rfl, ?_⟩
  have e : Runs (opEq (.tup []) (.tup [])) st = Runs (opEq (.tup (([] : List Int).map .int)) (.tup [])) st := by simp
  simp [e]
  exact .refl
theorem into_p {st : Sto} {xs : List Int} {s : Bool} (hl : xs.length ≤ 100) : Pu (m_into_branch [.tup (xs.map .int), .bl s]) st (.tup ((xs ++ [if s then 0 else 1, 0]).map .int)) := by
  unfold Pu m_into_branch b_into_branch
  rw [r_fn]
  refine ⟨rfl, ?_⟩
  cases s <;> simp <;> exact ⟨le_line (by omega), .refl⟩
theorem item_p {st : Sto} {ds : List D} {k : Nat} {d : D} (hk : k < ds.length) (hl : ds.length ≤ 100) : Pu (m_with_item [.tup ds, .int k, d]) st (.tup (ds.set k d)) := by
  unfold Pu m_with_item b_with_item
  rw [r_fn]
  refine ⟨rfl, ?_⟩
  simp [cutD_to, cutD_from2]
  refine ⟨le_line (by omega), le_line (by omega), ?_, .refl⟩
  rw [List.set_eq_take_append_cons_drop, if_pos hk]
theorem place_mem {b : Str} : ∀ {bits : List Str}, b ∈ bits → ∃ k, placeS b bits = some k ∧ bits[k]? = some b ∧ k < bits.length
  | [], h => by cases h
  | x :: r, h => by
    unfold placeS
    by_cases e : x = b
    · exact ⟨0, by rw [if_pos e], by simp [e], by simp⟩
    · rw [if_neg e]
      obtain ⟨k, h1, h2, h3⟩ := place_mem (List.mem_of_ne_of_mem (fun z => e z.symm) h)
      exact ⟨k + 1, by rw [h1]; rfl, by simpa using h2, by simp; omega⟩
theorem x_idxb {st : Sto} {Q : D → Sto → Prop} {bits : List Str} {b : Str} {k : Nat} (h : placeS b bits = some k) : Runs (mIndexT (.tup (bits.map .str)) [.str b]) st Q ↔ Q (.int k) st := by
  have : mIndexT (.tup (bits.map .str)) [.str b] st = .ok (.int k) st := by
    simp [mIndexT, strsOf_map, h]
  unfold Runs; rw [this]
def goStep : En → M Ctl := (sSeq (sEx (eMt chkL mAppend (eVar 5) (aCons (eTup (aCons (eVar 3) (aCons (eVar 7) aNil))) aNil))) (sIf (tVal (eBin opEq (eBin opIx (eVar 7) (eC (.int 0))) (eC (.str "if")))) (sAsg (eCall (fun ds => m_into_branch (ds ++ [])) (aCons (eVar 3) (aCons (eBin opIx (eVar 2) (eMt chkT mIndexT (eVar 0) (aCons (eBin opIx (eVar 7) (eC (.int 1))) aNil))) aNil))) (gVar 3)) (sIf (tVal (eBin opEq (eBin opIx (eVar 7) (eC (.int 0))) (eC (.str "ask")))) (sSeq (sIf (tVal (eBin opEq (eVar 6) (eCall bLen (aCons (eVar 4) aNil)))) (sRet (eTup (aCons (eC (.str "wait")) (aCons (eVar 2) (aCons (eVar 3) (aCons (eVar 5) aNil)))))) sNx) (sSeq (sAsg (eCall (fun ds => m_into_branch (ds ++ [])) (aCons (eVar 3) (aCons (eBin opIx (eVar 4) (eVar 6)) aNil))) (gVar 3)) (sAsg (eBin opAdd (eVar 6) (eC (.int 1))) (gVar 6)))) (sIf (tVal (eBin opEq (eBin opIx (eVar 7) (eC (.int 0))) (eC (.str "set")))) (sSeq (sAsg (eCall (fun ds => m_with_item (ds ++ [])) (aCons (eVar 2) (aCons (eMt chkT mIndexT (eVar 0) (aCons (eBin opIx (eVar 7) (eC (.int 1))) aNil)) (aCons (eBin opIx (eVar 7) (eC (.int 2))) aNil)))) (gVar 2)) (sAsg (eCall (fun ds => m_behind (ds ++ [])) (aCons (eVar 3) aNil)) (gVar 3))) (sIf (tVal (eBin opEq (eBin opIx (eVar 7) (eC (.int 0))) (eC (.str "lead")))) (sRet (eTup (aCons (eC (.str "lead")) (aCons (eVar 2) (aCons (eBin opIx (eVar 7) (eC (.int 1))) (aCons (eVar 5) aNil)))))) (sRet (eTup (aCons (eC (.str "refuse")) (aCons (eVar 2) (aCons (eC .non) (aCons (eVar 5) aNil)))))))))))
def goB : En → M Ctl := (sSeq (sAsg (eCall (fun ds => m_row_or_none (ds ++ [])) (aCons (eVar 1) (aCons (eVar 3) aNil))) (gVar 7)) (sSeq (sIf (tVal (eBin opIsN (eVar 7) (eC .non))) (sSeq (sAsg (eCall (fun ds => m_behind (ds ++ [])) (aCons (eSl (eVar 3) pNone (pSome (eUn opNeg (eC (.int 2))))) aNil)) (gVar 3)) sCt) sNx) goStep))
theorem goSplit : b_go_on = (sSeq (sAsg (eLst aNil) (gVar 5)) (sSeq (sAsg (eC (.int 0)) (gVar 6)) (sSeq (whL (tVal (eBin opNotN (eVar 3) (eC .non))) goB 1000) (sRet (eTup (aCons (eC (.str "let")) (aCons (eVar 2) (aCons (eC .non) (aCons (eVar 5) aNil))))))))) := rfl
def ronB : En → M Ctl := (sAsg (eBin opIx (eCall (fun ds => m_branches (ds ++ [])) (aCons (eBin opIx (eVar 2) (eBin opIx (eVar 1) (eVar 3))) aNil)) (eBin opIx (eVar 1) (eBin opAdd (eVar 3) (eC (.int 1))))) (gVar 2))
theorem ronSplit : b_row_or_none = (sSeq (sAsg (eVar 0) (gVar 2)) (sSeq (sFor (itRange3 (aCons (eC (.int 0)) (aCons (eBin opSub (eCall bLen (aCons (eVar 1) aNil)) (eC (.int 1))) (aCons (eC (.int 2)) aNil)))) (gIt 3) ronB) (sSeq (sIf (tVal (eBin opEq (eBin opIx (eVar 1) (eUn opNeg (eC (.int 1)))) (eCall bLen (aCons (eVar 2) aNil)))) (sRet (eC .non)) sNx) (sRet (eBin opIx (eVar 2) (eBin opIx (eVar 1) (eUn opNeg (eC (.int 1))))))))) := rfl
theorem pref_app : ∀ K1 K2, ∃ z, pref (K1 ++ K2) = pref K2 ++ z
  | [], K2 => ⟨[], by simp⟩
  | f :: K1, K2 => by
    obtain ⟨z, h⟩ := pref_app K1 K2
    refine ⟨z ++ [(f.j : Int), f.sd], ?_⟩
    show pref (K1 ++ K2) ++ [(f.j : Int), f.sd] = _
    rw [h, List.append_assoc]
theorem wf_uniq {R : List Row} : ∀ {K : List Fram} {a b : List Row}, WF R K a → WF R K b → a = b
  | [], a, b, h, k => by rw [show a = R from h, show b = R from k]
  | f :: K, a, b, h, k => by
    obtain ⟨_, h1, t1, e1, g1, rfl⟩ := h
    obtain ⟨_, h2, t2, e2, g2, rfl⟩ := k
    rw [g1] at g2; injection g2 with g2; injection g2 with q1 q2 q3
    rw [q2, q3]
theorem wf_drop {R : List Row} : ∀ {K : List Fram} {a : List Row} (n : Nat), WF R K a → ∃ b, WF R (K.drop n) b
  | K, a, 0, h => ⟨a, h⟩
  | [], a, n + 1, h => ⟨a, h⟩
  | f :: K, a, n + 1, h => wf_drop n h.1
theorem wf_ok {bits names : List Str} {ent : Bool} {R : List Row} (hR : ∀ r ∈ R, ROk bits names ent 3 r) : ∀ {K : List Fram} {a : List Row}, WF R K a → K.length ≤ 3 ∧ ∀ r ∈ a, ROk bits names ent (3 - K.length) r
  | [], a, h => by rw [show a = R from h]; exact ⟨by simp, hR⟩
  | f :: K, a, h => by
    obtain ⟨h0, hd, t, e, hg, rfl⟩ := h
    obtain ⟨l, o⟩ := wf_ok hR h0
    have := o _ (List.mem_of_getElem? hg)
    generalize hn : 3 - K.length = n at this
    cases n with
    | zero => exact this.elim
    | succ n =>
      obtain ⟨_, o1, o2⟩ := this
      refine ⟨by simp; omega, ?_⟩
      have : 3 - (f :: K).length = n := by simp; omega
      rw [this]
      cases f.s
      · exact o2
      · exact o1
theorem wf_bits {bits names : List Str} {ent : Bool} {n : Nat} {b : Str} {v : Bool} (h : ROk bits names ent n (.set b v)) : b ∈ bits := by cases n <;> exact h
theorem rg3 {st : Sto} {ρ : En} {QI : ItD → Sto → Prop} {fa : En → M (List D)} : Runs (itRange3 fa ρ) st QI ↔ Runs (fa ρ) st fun ds st' => match ds with
    | [.int i, .int j, .int c] => (c ≠ 0 ∧ c.natAbs < 1073741824 ∧ Builtin.Range.small i j c = true ∧ 0 ≤ Builtin.Range.rangeSize i j c) ∧ QI ⟨(List.range (Builtin.Range.rangeSize i j c).toNat).map fun (k : Nat) => Item.one (D.int (i + (k : Int) * c)), fun _ => true⟩ st'
    | _ => False := by
  unfold itRange3; rw [runs_bind]
  constructor <;> intro z <;> refine z.imp fun ds st1 q => ?_
  · split at q
    · split at q
      · rename_i h; exact ⟨h, (runs_pure.mp q)⟩
      · exact (runs_stuck.mp q).elim
    · exact (runs_stuck.mp q).elim
  · split at q
    · show Runs (if _ then _ else _) _ _
      rw [if_pos q.1]; exact runs_pure.mpr q.2
    · exact q.elim
theorem rsize {n : Nat} (h : n ≤ 3) : (Builtin.Range.small 0 (2 * (n : Int)) 2 = true ∧ 0 ≤ Builtin.Range.rangeSize 0 (2 * (n : Int)) 2) ∧ (Builtin.Range.rangeSize 0 (2 * (n : Int)) 2).toNat = n := by
  rcases (by omega : n = 0 ∨ n = 1 ∨ n = 2 ∨ n = 3) with rfl | rfl | rfl | rfl <;> decide +kernel
theorem ron_step {st : Sto} {R' : D} {pos : List D} {fr : List Row} {a : Int} {j : Nat} {s : Bool} {h : Option Str} {t e : List Row} {QC : Ctl → Sto → Prop} (h1 : fr[j]? = some (.br h t e)) (h2 : atI pos a = some (.int j)) (h3 : atI pos (a + 1) = some (.int (if s then 0 else 1)))
    (q : ∀ st', Fr [] st st' → QC (.nx [some R', some (.tup pos), some (.tup (rowsD (if s then t else e))), some (.int a)]) st') : Runs (ronB [some R', some (.tup pos), some (.tup (rowsD fr)), some (.int a)]) st QC := by
  unfold ronB
  have hx : atI (rowsD fr) (j : Int) = some (Row.br h t e).d := by
    rw [rowsD_map]; exact atI_get (by rw [List.getElem?_map, h1]; rfl)
  simp [h2, h3, hx]
  refine Pu.go branches_p fun st1 F1 => ?_
  cases s <;> simp [brD] <;> simpa using q st1 F1
theorem row_or_none_p {st : Sto} {R rs : List Row} {K : List Fram} {i : Nat} (h : WF R K rs) (hK : K.length ≤ 3) (hi : i ≤ rs.length) : Pu (m_row_or_none [.tup (rowsD R), posD K i]) st (match rs[i]? with | some r => r.d | none => .non) := by
  unfold Pu m_row_or_none posD
  rw [r_fn]
  refine ⟨rfl, ?_⟩
  rw [ronSplit]
  have hl : ((List.map D.int (pref K ++ [(i : Int)])).length : Int) - 1 = 2 * (K.length : Int) := by simp [pref_len]
  obtain ⟨⟨q1, q2⟩, q3⟩ := rsize hK
  simp only [r_seq, r_asg, r_var, r_for, rg3]
  simp
  have hp : ((pref K).length : Int) = 2 * (K.length : Int) := by rw [pref_len]; omega
  simp only [hp, q1, q2, q3, and_self, true_and]
  refine runs_forL (fun m ρ st' => ∃ b a3, WF R (K.drop (K.length - m)) b ∧ ρ = [some (.tup (rowsD R)), some (.tup (List.map D.int (pref K) ++ [D.int ↑i])), some (.tup (rowsD b)), a3] ∧ Fr [] st st') ⟨R, none, by simp; rfl, rfl, .refl⟩ ?_ ?_
  · rintro m it ρ st1 hi1 ⟨b, a3, hb, rfl, F1⟩
    rw [List.getElem?_map] at hi1
    have hm : m < K.length := by
      rcases Nat.lt_or_ge m K.length with z | z
      · exact z
      · rw [List.getElem?_eq_none (by simpa using z)] at hi1; cases hi1
    rw [List.getElem?_range hm] at hi1
    obtain rfl := (Option.some.inj hi1).symm
    refine ⟨rfl, ?_⟩
    have hlt : K.length - (m + 1) < K.length := by omega
    have hd := List.drop_eq_getElem_cons hlt
    have e1 : K.length - (m + 1) + 1 = K.length - m := by omega
    rw [e1] at hd
    obtain ⟨b', hb'⟩ := wf_drop (K.length - (m + 1)) h
    have hb2 := hb'
    rw [hd] at hb2
    obtain ⟨w0, hh, t, e, hg, rfl⟩ := hb2
    have hu := wf_uniq w0 hb
    obtain ⟨z, hz⟩ := pref_app (K.take (K.length - (m + 1))) (K.drop (K.length - (m + 1)))
    rw [List.take_append_drop, hd] at hz
    have hz' : pref K = pref (K.drop (K.length - m)) ++ ((K[K.length - (m + 1)].j : Int) :: K[K.length - (m + 1)].sd :: z) := by
      rw [hz]
      show (pref (K.drop (K.length - m)) ++ [(K[K.length - (m + 1)].j : Int), K[K.length - (m + 1)].sd]) ++ z = _
      rw [List.append_assoc]; rfl
    have hl2 : (pref (K.drop (K.length - m))).length = 2 * m := by rw [pref_len, List.length_drop]; omega
    have hpos : List.map D.int (pref K) ++ [D.int ↑i] = (pref (K.drop (K.length - m)) ++ ((K[K.length - (m + 1)].j : Int) :: K[K.length - (m + 1)].sd :: (z ++ [(i : Int)]))).map .int := by rw [hz']; simp
    rw [r_git]
    refine ron_step (j := K[K.length - (m + 1)].j) (s := K[K.length - (m + 1)].s) (h := hh) (t := t) (e := e) (by rw [← hu]; exact hg) ?_ ?_ ?_
    · rw [hpos]
      have e2 : ((m : Int) * 2) = ((2 * m : Nat) : Int) := by omega
      rw [e2]
      refine atI_get ?_
      rw [List.getElem?_map, List.getElem?_append_right (by omega), hl2]; simp
    · rw [hpos]
      have e2 : ((m : Int) * 2 + 1) = ((2 * m + 1 : Nat) : Int) := by omega
      rw [e2]
      refine atI_get ?_
      rw [List.getElem?_map, List.getElem?_append_right (by omega), hl2]
      have e3 : 2 * m + 1 - 2 * m = 1 := by omega
      rw [e3]; rfl
    · intro st2 F2
      exact ⟨_, _, hb', rfl, F1.trans F2⟩
  · rintro ρ st1 ⟨b, a3, hb, rfl, F1⟩
    have e0 : K.length - (List.map (fun (k : Nat) => Item.one (D.int (↑k * 2))) (List.range K.length)).length = 0 := by simp
    rw [e0] at hb
    obtain rfl := wf_uniq hb h
    refine ⟨rfl, ?_⟩
    have hrl : (rowsD b).length = b.length := by rw [rowsD_map, List.length_map]
    simp [atI_last, hrl]
    by_cases c : i = b.length
    · subst c
      simp
      exact F1
    · have hlt : i < b.length := by omega
      have hx : atI (rowsD b) (i : Int) = some b[i].d := by
        rw [rowsD_map]; exact atI_get (by rw [List.getElem?_map, List.getElem?_eq_getElem hlt]; rfl)
      have c' : ¬ ((i : Int) = (b.length : Int)) := by omega
      simp [hx, c', hlt]
      exact F1
end
section
abbrev Pd := List (List Int × Row)
def entD (x : List Int × Row) : D := .tup [.tup (x.1.map .int), x.2.d]
def ents (q : List Int) : Nat → List Row → Pd
  | _, [] => []
  | j, r :: rs => (q ++ [(j : Int)], r) :: ents q (j + 1) rs
def pend : List Fram → List Row → Nat → Pd
  | [], rs, i => ents [] i (rs.drop i)
  | f :: K, rs, i => ents (pref (f :: K)) i (rs.drop i) ++ pend K f.rs (f.j + 1)
def cntP : Pd → Nat
  | [] => 0
  | x :: r => x.2.cnt + cntP r
theorem cntP_app : ∀ xs ys, cntP (xs ++ ys) = cntP xs + cntP ys
  | [], ys => by simp [cntP]
  | x :: xs, ys => by simp only [List.cons_append, cntP, cntP_app xs ys]; omega
theorem cntP_ents : ∀ (q : List Int) (j : Nat) (rs : List Row), cntP (ents q j rs) = cntL rs
  | q, j, [] => rfl
  | q, j, r :: rs => by unfold ents cntP cntL; rw [cntP_ents q (j + 1) rs]
theorem pend_cons {K : List Fram} {rs : List Row} {i : Nat} {r : Row} (h : rs[i]? = some r) : pend K rs i = (pref K ++ [(i : Int)], r) :: pend K rs (i + 1) := by
  have hi : i < rs.length := by
    rcases Nat.lt_or_ge i rs.length with z | z
    · exact z
    · rw [List.getElem?_eq_none z] at h; cases h
  have hd := List.drop_eq_getElem_cons hi
  rw [List.getElem?_eq_getElem hi] at h
  rw [Option.some.inj h] at hd
  cases K with
  | nil => unfold pend; rw [hd]; rfl
  | cons f K => unfold pend; rw [hd]; rfl
theorem pend_nil {rs : List Row} {i : Nat} (h : rs[i]? = none) : pend [] rs i = [] := by
  unfold pend
  rw [List.drop_eq_nil_of_le (List.getElem?_eq_none_iff.mp h)]; rfl
theorem pend_up {f : Fram} {K : List Fram} {rs : List Row} {i : Nat} (h : rs[i]? = none) : pend (f :: K) rs i = pend K f.rs (f.j + 1) := by
  show ents _ _ _ ++ _ = _
  rw [List.drop_eq_nil_of_le (List.getElem?_eq_none_iff.mp h)]; rfl
theorem pend_down {K : List Fram} {rs t : List Row} {i : Nat} {s : Bool} : pend (⟨rs, i, s⟩ :: K) t 0 = ents (pref K ++ [(i : Int)] ++ [if s then 0 else 1]) 0 t ++ pend K rs (i + 1) := by
  show ents (pref K ++ [(i : Int), Fram.sd ⟨rs, i, s⟩]) 0 t ++ _ = _
  rw [List.append_assoc]; rfl
/-! the machine -/
structure GR where
  o : Str
  fl : List Bool
  w : D
def bi (bits : List Str) (b : Str) : Nat := (placeS b bits).getD 0
def mach (bits : List Str) (ans : List Bool) : Nat → Pd → List Bool → Nat → GR
  | 0, _, fl, _ => ⟨"let", fl, .non⟩
  | n + 1, P, fl, used => match P with
    | [] => ⟨"let", fl, .non⟩
    | (q, r) :: P => match r with
      | .refuse => ⟨"refuse", fl, .non⟩
      | .lead s => ⟨"lead", fl, .str s⟩
      | .set b v => mach bits ans n P (fl.set (bi bits b) v) used
      | .br (some b) t e => mach bits ans n (ents (q ++ [if fl.getD (bi bits b) false then 0 else 1]) 0 (if fl.getD (bi bits b) false then t else e) ++ P) fl used
      | .br none t e => match ans[used]? with
        | none => ⟨"wait", fl, .tup (q.map .int)⟩
        | some a => mach bits ans n (ents (q ++ [if a then 0 else 1]) 0 (if a then t else e) ++ P) fl (used + 1)
def AnsAt (st : Sto) (d : D) (as : List Bool) : Prop := d = .tup (as.map .bl) ∨ ∃ i, d = .loc i ∧ seqAt st i = some (as.map .bl)
theorem AnsAt.fr {st st' : Sto} {d : D} {as : List Bool} {ex : List Nat} (h : AnsAt st d as) (F : Fr ex st st') (hx : ∀ i, d = .loc i → i ∉ ex) : AnsAt st' d as := by
  rcases h with h | ⟨i, h, k⟩
  · exact .inl h
  · exact .inr ⟨i, h, F.seq k (hx i h)⟩
theorem AnsAt.len {st : Sto} {d : D} {as : List Bool} {Q : D → Sto → Prop} (h : AnsAt st d as) : Runs (bLen [d]) st Q ↔ Q (.int as.length) st := by
  rcases h with rfl | ⟨i, rfl, k⟩
  · simp
  · simp [k]
theorem AnsAt.ix {st : Sto} {d : D} {as : List Bool} {Q : D → Sto → Prop} {k : Nat} {a : Bool} (h : AnsAt st d as) (hk : as[k]? = some a) : Runs (opIx d (.int k)) st Q ↔ Q (.bl a) st := by
  have e : atI (as.map D.bl) (k : Int) = some (.bl a) := atI_get (by rw [List.getElem?_map, hk]; rfl)
  rcases h with rfl | ⟨i, rfl, hs⟩
  · simp [e]
  · simp [hs, e]
theorem whL_succ {t : En → M Bool} {b : En → M Ctl} {n : Nat} {ρ : En} {st : Sto} {QC : Ctl → Sto → Prop} : Runs (whL t b (n + 1) ρ) st QC ↔ Runs (t ρ) st fun k st1 => if k = true then Runs (b ρ) st1 fun c st2 => match c with
      | .nx ρ2 => Runs (whL t b n ρ2) st2 QC
      | .ct ρ2 => Runs (whL t b n ρ2) st2 QC
      | .bk ρ2 => QC (.nx ρ2) st2
      | .rt d => QC (.rt d) st2 else QC (.nx ρ) st1 := by
  rw [whL, runs_bind]
  constructor <;> intro z <;> refine z.imp fun k st1 q => ?_
  · cases k with
    | false => exact runs_pure.mp q
    | true =>
      rw [if_pos rfl]
      have q := runs_bind.mp q
      refine q.imp fun c st2 q => ?_
      cases c <;> first | exact q | exact runs_pure.mp q
  · cases k with
    | false => exact runs_pure.mpr q
    | true =>
      rw [if_pos rfl] at q
      refine runs_bind.mpr (q.imp fun c st2 q => ?_)
      cases c <;> first | exact q | exact runs_pure.mpr q
def goT : En → M Bool := (tVal (eBin opNotN (eVar 3) (eC .non)))
@[simp] theorem r_ct {ρ : En} {st : Sto} {QC : Ctl → Sto → Prop} : Runs (sCt ρ) st QC ↔ QC (.ct ρ) st := by with_unfolding_all exact Iff.rfl
theorem cut_up {K : List Fram} {f : Fram} {i : Nat} : cutD ((pref (f :: K) ++ [(i : Int)]).map .int) none (some (-2)) = (pref K ++ [(f.j : Int)]).map .int := by
  have e : (pref (f :: K) ++ [(i : Int)]).map D.int = (pref K ++ [(f.j : Int)]).map .int ++ [.int f.sd, .int i] := by
    show ((pref K ++ [(f.j : Int), f.sd]) ++ [(i : Int)]).map D.int = _
    simp
  rw [e]
  exact cutD_tom _ [_, _] 2 (by omega) rfl
section
variable {R rs : List Row} {K : List Fram} {i : Nat} {st : Sto} {QC : Ctl → Sto → Prop} {a0 a2 a4 a5 a6 a7 : Option D}
theorem goB_some {r : Row} (h : WF R K rs) (hK : K.length ≤ 3) (hi : i ≤ rs.length) (hr : rs[i]? = some r) (q : ∀ st', Fr [] st st' → Runs (goStep [a0, some (.tup (rowsD R)), a2, some (posD K i), a4, a5, a6, some r.d]) st' QC) :
    Runs (goB [a0, some (.tup (rowsD R)), a2, some (posD K i), a4, a5, a6, a7]) st QC := by
  unfold goB
  simp
  refine Pu.go (row_or_none_p h hK hi) fun st1 F1 => ?_
  have hn : r.d.isNon = false := by cases r <;> unfold Row.d <;> rfl
  simp [hr, hn]
  exact q st1 F1
theorem goB_top (h : WF R [] rs) (hi : i ≤ rs.length) (hr : rs[i]? = none) (q : ∀ st' a7, Fr [] st st' → QC (.ct [a0, some (.tup (rowsD R)), a2, some .non, a4, a5, a6, a7]) st') :
    Runs (goB [a0, some (.tup (rowsD R)), a2, some (posD [] i), a4, a5, a6, a7]) st QC := by
  unfold goB
  simp
  refine Pu.go (row_or_none_p h (by simp) hi) fun st1 F1 => ?_
  have hc : cutD [D.int i] none (some (-2)) = [] := by unfold cutD; simp [HT.sIx]
  simp [hr, D.isNon, posD, pref, hc]
  refine Pu.go behind0_p fun st2 F2 => ?_
  exact q st2 _ (F1.trans F2)
theorem goB_up {f : Fram} (h : WF R (f :: K) rs) (hK : (f :: K).length ≤ 3) (hi : i ≤ rs.length) (hr : rs[i]? = none) (q : ∀ st' a7, Fr [] st st' → QC (.ct [a0, some (.tup (rowsD R)), a2, some (posD K (f.j + 1)), a4, a5, a6, a7]) st') :
    Runs (goB [a0, some (.tup (rowsD R)), a2, some (posD (f :: K) i), a4, a5, a6, a7]) st QC := by
  unfold goB
  simp
  refine Pu.go (row_or_none_p h hK hi) fun st1 F1 => ?_
  have hpl : (pref K).length ≤ 100 := by rw [pref_len]; simp at hK; omega
  simp only [hr]
  have hp : posD (f :: K) i = .tup ((pref (f :: K) ++ [(i : Int)]).map .int) := rfl
  simp only [D.isNon, hp, x_slt, cut_up, if_true, r_seq, r_asg, r_call, r_cons, r_nil, r_sl, r_pnone, r_psome, r_un, r_c, x_neg, r_var]
  refine Pu.go (behind_p hpl) fun st2 F2 => ?_
  simp
  have hpe : D.tup (List.map D.int (pref K) ++ [D.int ((f.j : Int) + 1)]) = posD K (f.j + 1) := by simp [posD]
  rw [hpe]
  exact q st2 _ (F1.trans F2)
end
/-- what the loop of go_on leaves -/
def GoQ (bits : List Str) (st : Sto) (L : Nat) (g : GR) (c : Ctl) (st' : Sto) : Prop := (Fr [L] st st' ∧ ∃ met, lstAt st' L = some met) ∧ g.fl.length = bits.length ∧
  (c = .rt (.tup [.str g.o, .tup (g.fl.map .bl), g.w, .loc L]) ∨ (g.o = "let" ∧ g.w = .non ∧ ∃ a0 a1 a3 a4 a6 a7, c = .nx [a0, a1, some (.tup (g.fl.map .bl)), a3, a4, some (.loc L), a6, a7]))
end
section
theorem go_loop {bits names : List Str} {ent : Bool} {R : List Row} {ans : List Bool} (hR : ∀ r ∈ R, ROk bits names ent 3 r) (hb : bits.length ≤ 3) (hbs : ∀ b ∈ bits, PyData.strOk b = true) : ∀ (μ m n : Nat) (K : List Fram) (rs : List Row) (i : Nat) (fl : List Bool) (used : Nat) (st : Sto) (L : Nat) (met : List D) (ad : D) (a7 : Option D),
    WF R K rs → i ≤ rs.length → fl.length = bits.length → used ≤ ans.length → AnsAt st ad ans → (∀ k, ad = .loc k → k ≠ L) → lstAt st L = some met → met.length + μ ≤ 100 → 2 * cntP (pend K rs i) + K.length ≤ μ → μ + 2 ≤ m → cntP (pend K rs i) < n →
    Runs (whL goT goB m [some (.tup (bits.map .str)), some (.tup (rowsD R)), some (.tup (fl.map .bl)), some (posD K i), some ad, some (.loc L), some (.int used), a7]) st (GoQ bits st L (mach bits ans n (pend K rs i) fl used)) := by
  intro μ
  induction μ using Nat.strongRecOn with
  | ind μ ih =>
    intro m n K rs i fl used st L met ad a7 hW hi hfl hu hA hAL hL hmet hμ hm hn
    obtain ⟨hK3, hok⟩ := wf_ok hR hW
    obtain ⟨m, rfl⟩ : ∃ k, m = k + 2 := ⟨m - 2, by omega⟩
    rw [whL_succ]
    have hT : ∀ {d : D} {st : Sto} {a0 a1 a2 a4 a5 a6 a7 : Option D} {QB : Bool → Sto → Prop}, Runs (goT [a0, a1, a2, some d, a4, a5, a6, a7]) st QB ↔ QB (!d.isNon) st := by
      intros; unfold goT; simp
    rw [hT]
    have hpn : (posD K i).isNon = false := rfl
    rw [hpn]
    simp only [Bool.not_false, if_true]
    cases hr : rs[i]? with
    | none =>
      cases K with
      | nil =>
        refine goB_top hW hi hr fun st1 a7' F1 => ?_
        show Runs (whL goT goB (m + 1) _) _ _
        rw [whL_succ, hT]
        have F1' : Fr [L] st st1 := F1.sub (by simp)
        simp only [D.isNon, Bool.not_true, Bool.false_eq_true, if_false]
        rw [pend_nil hr]
        obtain ⟨n, rfl⟩ : ∃ k, n = k + 1 := ⟨n - 1, by omega⟩
        exact ⟨⟨F1', _, F1.lst hL (by simp)⟩, hfl, .inr ⟨rfl, rfl, _, _, _, _, _, _, rfl⟩⟩
      | cons f K =>
        refine goB_up hW hK3 hi hr fun st1 a7' F1 => ?_
        rw [pend_up hr] at hn hμ ⊢
        obtain ⟨hW', _, _, _, hg, _⟩ := hW
        have hj : f.j + 1 ≤ f.rs.length := by
          rcases Nat.lt_or_ge f.j f.rs.length with z | z
          · exact z
          · rw [List.getElem?_eq_none z] at hg; cases hg
        have hlen : (f :: K).length = K.length + 1 := rfl
        have := ih (μ - 1) (by omega) (m + 1) n K f.rs (f.j + 1) fl used st1 L met ad a7' hW' hj hfl hu (hA.fr F1 (by simp)) hAL (F1.lst hL (by simp)) (by omega) (by omega) (by omega) hn
        refine this.imp fun c st2 z => ?_
        exact ⟨⟨(F1.sub (by simp)).trans z.1.1, z.1.2⟩, z.2⟩
    | some r =>
      refine goB_some hW hK3 hi hr fun st1 F1 => ?_
      have F1' : Fr [L] st st1 := F1.sub (by simp)
      have hL1 := F1.lst hL (by simp)
      have hA1 := hA.fr F1 (by simp)
      rw [pend_cons hr] at hn hμ ⊢
      have hrm := List.mem_of_getElem? hr
      have hok' := hok r hrm
      have hil : i < rs.length := by
        rcases Nat.lt_or_ge i rs.length with z | z
        · exact z
        · rw [List.getElem?_eq_none z] at hr; cases hr
      obtain ⟨n, rfl⟩ : ∃ k, n = k + 1 := ⟨n - 1, by omega⟩
      have hpl : (pref K).length ≤ 100 := by rw [pref_len]; omega
      have hc1 := cnt_pos r
      have hLl := lst_lt hL1
      have hap : met.length < sizeLine := Nat.lt_of_le_of_lt (show met.length ≤ 100 by omega) (by decide)
      have hcons : cntP ((pref K ++ [(i : Int)], r) :: pend K rs (i + 1)) = r.cnt + cntP (pend K rs (i + 1)) := rfl
      rw [hcons] at hn hμ
      have hA2 : ∀ o, AnsAt (st1.set L o) ad ans := fun o => hA1.fr (ex := [L]) (.set (by simp)) (fun k hk => by simp; exact hAL k hk)
      have F2' : ∀ o, Fr [L] st (st1.set L o) := fun o => F1'.trans (.set (by simp))
      unfold goStep
      cases r with
      | refuse =>
        simp [Row.d, sq_lst hL1, hL1, hap]
        exact ⟨⟨F2' _, _, lst_set hLl⟩, hfl, .inl rfl⟩
      | lead s =>
        simp [Row.d, sq_lst hL1, hL1, hap]
        exact ⟨⟨F2' _, _, lst_set hLl⟩, hfl, .inl rfl⟩
      | set b v =>
        have hbm := wf_bits hok'
        obtain ⟨k, hk1, hk2, hk3⟩ := place_mem hbm
        simp [Row.d, sq_lst hL1, hL1, hap, x_idxb hk1]
        have hbi : bi bits b = k := by simp [bi, hk1]
        have hmm : mach bits ans (n + 1) ((pref K ++ [(i : Int)], Row.set b v) :: pend K rs (i + 1)) fl used = mach bits ans n (pend K rs (i + 1)) (fl.set k v) used := by rw [← hbi]; rfl
        rw [hmm]
        have hl2 := lst_set (ds := met ++ [D.tup [posD K i, D.tup [D.str (Str.ofString "set"), D.str b, D.bl v]]]) hLl
        refine Pu.go (item_p (by simp; omega) (by simp; omega)) fun st2 F2 => ?_
        refine Pu.go (behind_p hpl) fun st3 F3 => ?_
        have hc2 : (Row.set b v).cnt = 1 := rfl
        have := ih (μ - 1) (by omega) (m + 1) n K rs (i + 1) (fl.set k v) used st3 L _ ad (some (D.tup [D.str (Str.ofString "set"), D.str b, D.bl v])) hW (by omega) (by simpa using hfl) hu ((hA2 _).fr (F2.trans F3) (by simp)) hAL ((F2.trans F3).lst hl2 (by simp)) (by simp; omega) (by omega) (by omega) (by omega)
        rw [List.map_set] at this
        refine this.imp fun c st4 z => ?_
        exact ⟨⟨((F2' _).trans ((F2.trans F3).sub (by simp))).trans z.1.1, z.1.2⟩, z.2⟩
      | br h t e =>
        have dn : ∀ (s : Bool) (n' used' : Nat) (st2 : Sto) (met' : List D) (a7 : Option D), cntP (ents (pref K ++ [(i : Int)] ++ [if s then 0 else 1]) 0 (if s then t else e) ++ pend K rs (i + 1)) < n' → used' ≤ ans.length → Fr [L] st st2 → AnsAt st2 ad ans → lstAt st2 L = some met' → met'.length ≤ met.length + 1 →
            Runs (whL goT goB (m + 1) [some (.tup (bits.map .str)), some (.tup (rowsD R)), some (.tup (fl.map .bl)), some (.tup ((pref K ++ [(i : Int)] ++ [if s then 0 else 1, 0]).map .int)), some ad, some (.loc L), some (.int used'), a7]) st2 (GoQ bits st L (mach bits ans n' (ents (pref K ++ [(i : Int)] ++ [if s then 0 else 1]) 0 (if s then t else e) ++ pend K rs (i + 1)) fl used')) := by
          intro s n' used' st2 met' a7 hn' hu' F2 hA2 hL2 hm2
          have hW' : WF R (⟨rs, i, s⟩ :: K) (if s then t else e) := ⟨hW, h, t, e, hr, rfl⟩
          have hcb : (Row.br h t e).cnt = 1 + cntL t + cntL e := by rw [Row.cnt]
          have hcl : cntP (ents (pref K ++ [(i : Int)] ++ [if s then 0 else 1]) 0 (if s then t else e) ++ pend K rs (i + 1)) + 1 ≤ (Row.br h t e).cnt + cntP (pend K rs (i + 1)) := by
            rw [cntP_app, cntP_ents, hcb]
            cases s <;> simp <;> omega
          rw [← pend_down (rs := rs) (s := s)] at hcl hn' ⊢
          have hlen : ((⟨rs, i, s⟩ :: K : List Fram)).length = K.length + 1 := rfl
          have := ih (μ - 1) (by omega) (m + 1) n' (⟨rs, i, s⟩ :: K) _ 0 fl used' st2 L met' ad a7 hW' (by omega) hfl hu' hA2 hAL hL2 (by omega) (by omega) (by omega) hn'
          have hp : posD (⟨rs, i, s⟩ :: K) 0 = .tup ((pref K ++ [(i : Int)] ++ [if s then 0 else 1, 0]).map .int) := by
            show D.tup (((pref K ++ [(i : Int), if s then 0 else 1]) ++ [((0 : Nat) : Int)]).map .int) = _
            simp
          rw [hp] at this
          refine this.imp fun c st4 z => ?_
          exact ⟨⟨F2.trans z.1.1, z.1.2⟩, z.2⟩
        have hcb : (Row.br h t e).cnt = 1 + cntL t + cntL e := by rw [Row.cnt]
        have hcs : ∀ s : Bool, cntP (ents (pref K ++ [(i : Int)] ++ [if s then 0 else 1]) 0 (if s then t else e) ++ pend K rs (i + 1)) < n := by
          intro s
          rw [cntP_app, cntP_ents]
          cases s <;> simp <;> omega
        cases h with
        | none =>
          simp [Row.d, hdD, sq_lst hL1, hL1, hap]
          rw [(hA2 _).len]
          simp
          by_cases c : used = ans.length
          · subst c
            simp
            have hmm : mach bits ans (n + 1) ((pref K ++ [(i : Int)], Row.br none t e) :: pend K rs (i + 1)) fl ans.length = ⟨"wait", fl, posD K i⟩ := by
              have : ans[ans.length]? = none := List.getElem?_eq_none (Nat.le_refl _)
              show (match ans[ans.length]? with | none => _ | some a => _) = _
              rw [this]; rfl
            rw [hmm]
            exact ⟨⟨F2' _, _, lst_set hLl⟩, hfl, .inl rfl⟩
          · have hlt : used < ans.length := by omega
            have hg := List.getElem?_eq_getElem hlt
            have c' : ¬ ((used : Int) = (ans.length : Int)) := by omega
            rw [if_neg c']
            rw [(hA2 _).ix hg]
            have hmm : mach bits ans (n + 1) ((pref K ++ [(i : Int)], Row.br none t e) :: pend K rs (i + 1)) fl used = mach bits ans n (ents (pref K ++ [(i : Int)] ++ [if ans[used] then 0 else 1]) 0 (if ans[used] then t else e) ++ pend K rs (i + 1)) fl (used + 1) := by
              show (match ans[used]? with | none => _ | some a => _) = _
              rw [hg]
            rw [hmm]
            refine Pu.go (into_p (xs := pref K ++ [(i : Int)]) (by simp [pref_len]; omega)) fun st2 F2 => ?_
            exact dn ans[used] n (used + 1) st2 _ _ (hcs _) (by omega) ((F2' _).trans (F2.sub (by simp))) ((hA2 _).fr F2 (by simp)) (F2.lst (lst_set hLl) (by simp)) (by simp)
        | some b =>
          simp [Row.d, hdD, sq_lst hL1, hL1, hap]
          have hbm : b ∈ bits := by
            generalize 3 - K.length = d at hok'
            cases d with
            | zero => exact hok'.elim
            | succ d => exact hok'.1 b rfl
          obtain ⟨k, hk1, hk2, hk3⟩ := place_mem hbm
          have hbi : bi bits b = k := by simp [bi, hk1]
          rw [x_idxb hk1]
          have hkf : k < fl.length := by omega
          have hx : atI (fl.map D.bl) (k : Int) = some (.bl fl[k]) := atI_nat hkf
          simp [hx]
          have hmm : mach bits ans (n + 1) ((pref K ++ [(i : Int)], Row.br (some b) t e) :: pend K rs (i + 1)) fl used = mach bits ans n (ents (pref K ++ [(i : Int)] ++ [if fl[k] then 0 else 1]) 0 (if fl[k] then t else e) ++ pend K rs (i + 1)) fl used := by
            have hgd : fl.getD (bi bits b) false = fl[k] := by rw [hbi]; simp [List.getD, hkf]
            show mach bits ans n (ents (pref K ++ [(i : Int)] ++ [if fl.getD (bi bits b) false then 0 else 1]) 0 (if fl.getD (bi bits b) false then t else e) ++ pend K rs (i + 1)) fl used = _
            rw [hgd]
          rw [hmm]
          refine Pu.go (into_p (xs := pref K ++ [(i : Int)]) (by simp [pref_len]; omega)) fun st2 F2 => ?_
          exact dn fl[k] n used st2 _ _ (hcs _) hu ((F2' _).trans (F2.sub (by simp))) ((hA2 _).fr F2 (by simp)) (F2.lst (lst_set hLl) (by simp)) (by simp)
/-- go_on from the first row -/
theorem go_on_p {bits names : List Str} {ent : Bool} {R : List Row} {ans : List Bool} {fl : List Bool} {st : Sto} {ad : D} {K : List Fram} {rs : List Row} {i : Nat} (hR : ∀ r ∈ R, ROk bits names ent 3 r) (hb : bits.length ≤ 3) (hbs : ∀ b ∈ bits, PyData.strOk b = true) (hW : WF R K rs) (hi : i ≤ rs.length) (hfl : fl.length = bits.length) (hA : AnsAt st ad ans) (hc : cntP (pend K rs i) ≤ 20) :
    Runs (m_go_on [.tup (bits.map .str), .tup (rowsD R), .tup (fl.map .bl), posD K i, ad]) st fun d st' => ∃ L, d = .tup [.str (mach bits ans 21 (pend K rs i) fl 0).o, .tup ((mach bits ans 21 (pend K rs i) fl 0).fl.map .bl), (mach bits ans 21 (pend K rs i) fl 0).w, .loc L] ∧ (mach bits ans 21 (pend K rs i) fl 0).fl.length = bits.length ∧ Fr [] st st' := by
  obtain ⟨hK3, _⟩ := wf_ok hR hW
  unfold m_go_on
  rw [r_fn]
  refine ⟨rfl, ?_⟩
  rw [goSplit]
  have hl := go_loop (names := names) (ent := ent) (R := R) (ans := ans) hR hb hbs 43 1000 21 K rs i fl 0 (st ++ [.lst []]) st.length [] ad none hW hi hfl (Nat.zero_le _) (hA.fr (ex := []) .new (by simp)) ?_ lst_new (by simp) (by omega) (by omega) (by omega)
  · simp only [r_seq, r_asg, r_lst, r_nil, r_gvar, r_c]
    simp
    refine Runs.imp hl ?_
    rintro c st2 ⟨⟨F, met, hm⟩, hfl2, h⟩
    have F2 := F.fin
    rcases h with rfl | ⟨ho, hw, a0, a1, a3, a4, a6, a7, rfl⟩
    · exact ⟨⟨_, rfl⟩, hfl2, F2⟩
    · simp
      exact ⟨⟨ho.symm, hw.symm⟩, hfl2, F2⟩
  · rintro k rfl
    rcases hA with z | ⟨i, z, w⟩
    · cases z
    · injection z with z; subst z; have := seq_lt w; omega
end
section
theorem are_flags_p {st : Sto} {S : PS} {o : Nat} {fl : List Bool} (h : SiteAt st o S) (hl : fl.length = S.bits.length) : Pu (m_are_flags [.loc o, .tup (fl.map .bl)]) st (.bl true) := by
  have h3 := h.ok.bl
  unfold Pu m_are_flags b_are_flags
  rw [r_fn]
  refine ⟨rfl, ?_⟩
  simp [h.at_, siteO, lkB, bitsD, hl]
  refine lc_true lst_new ?_ (fun _ _ => rfl) ?_ ?_
  · simp; omega
  · intro it hit st1 F _
    obtain ⟨s, hs, rfl⟩ := List.mem_map.mp hit
    simp [wipeD]
    exact .refl
  · intro st1 F hL
    exact ⟨_, bind_bls hL, nofalse _, F.fin⟩
theorem checked_p {st : Sto} {S : PS} {o : Nat} {fl : List Bool} {p : Pg} {ent : Bool} (h : SiteAt st o S) (hp : p ∈ S.pages) (hl : fl.length = S.bits.length) : Pu (m_checked_rows [.loc o, .str p.name, .str (sideS ent), .tup (fl.map .bl)]) st (.tup (rowsD (p.rows ent))) := by
  unfold Pu m_checked_rows b_checked_rows
  rw [r_fn]
  refine ⟨rfl, ?_⟩
  simp
  refine x_chkO h.at_ (lkN (by decide +kernel) (by decide +kernel) (by decide +kernel) (by decide +kernel)) ?_
  refine Pu.go (guard_p h hp) fun st1 F1 => ?_
  refine Pu.go (are_flags_p (h.fr F1 (by simp)) hl) fun st2 F2 => ?_
  simp
  exact F1.trans F2
def rg (bits : List Str) (rs : List Row) (fl ans : List Bool) : GR := mach bits ans 21 (ents [] 0 rs) fl 0
def GR.d (g : GR) : D := .tup [.str g.o, .tup (g.fl.map .bl), g.w]
theorem pg_rows_ok {S : PS} {p : Pg} {ent : Bool} (h : S.OK) (hp : p ∈ S.pages) : (∀ r ∈ p.rows ent, ROk S.bits S.names ent 3 r) ∧ cntL (p.rows ent) ≤ 8 := by
  have := h.pg p hp
  cases ent
  · exact ⟨this.l, this.lc⟩
  · exact ⟨this.e, this.ec⟩
theorem mach_more {bits : List Str} {ans more : List Bool} : ∀ (n : Nat) (P : Pd) (fl : List Bool) (used : Nat), (mach bits ans n P fl used).o ≠ "wait" → mach bits (ans ++ more) n P fl used = mach bits ans n P fl used
  | 0, _, _, _, _ => rfl
  | n + 1, [], _, _, _ => rfl
  | n + 1, (q, .refuse) :: P, _, _, _ => rfl
  | n + 1, (q, .lead s) :: P, _, _, _ => rfl
  | n + 1, (q, .set b v) :: P, fl, used, h => mach_more n P (fl.set (bi bits b) v) used h
  | n + 1, (q, .br (some b) t e) :: P, fl, used, h => mach_more n (ents (q ++ [if fl.getD (bi bits b) false then 0 else 1]) 0 (if fl.getD (bi bits b) false then t else e) ++ P) fl used h
  | n + 1, (q, .br none t e) :: P, fl, used, h => by
    unfold mach at h ⊢
    simp only at h ⊢
    cases ha : ans[used]? with
    | none => rw [ha] at h; exact (h rfl).elim
    | some a =>
      have hlt : used < ans.length := by
        rcases Nat.lt_or_ge used ans.length with z | z
        · exact z
        · rw [List.getElem?_eq_none z] at ha; cases ha
      rw [List.getElem?_append_left hlt, ha]
      rw [ha] at h
      exact mach_more n (ents (q ++ [if a then 0 else 1]) 0 (if a then t else e) ++ P) fl (used + 1) h
theorem plain_bls {fl : List Bool} {n : Nat} (hl : fl.length ≤ 100) : Plain (n + 2) (.tup (fl.map .bl)) := by
  unfold Plain
  refine ⟨by simpa using hl, fun x hx => ?_⟩
  obtain ⟨y, hy, rfl⟩ := List.mem_map.mp hx
  unfold Plain; trivial
theorem plain_ints {fl : List Int} {n : Nat} (hl : fl.length ≤ 100) : Plain (n + 2) (.tup (fl.map .int)) := by
  unfold Plain
  refine ⟨by simpa using hl, fun x hx => ?_⟩
  obtain ⟨y, hy, rfl⟩ := List.mem_map.mp hx
  unfold Plain; trivial
theorem plainG {o : Str} {fl : List Bool} {w : D} (ho : PyData.strOk o = true) (hl : fl.length ≤ 100) (hw : Plain 7 w) : Plain 8 (GR.d ⟨o, fl, w⟩) := by
  unfold GR.d
  rw [Plain]
  refine ⟨by simp, fun x hx => ?_⟩
  simp only [List.mem_cons, List.not_mem_nil, or_false] at hx
  rcases hx with rfl | rfl | rfl
  · unfold Plain; exact ho
  · exact plain_bls (n := 5) hl
  · exact hw
theorem plain_non {n : Nat} : Plain (n + 1) .non := by unfold Plain; trivial
@[simp] theorem ok_let : PyData.strOk (Str.ofString "let") = true := by decide +kernel
@[simp] theorem ok_wait : PyData.strOk (Str.ofString "wait") = true := by decide +kernel
theorem ents_mem {q : List Int} : ∀ {j : Nat} {rs : List Row} {x : List Int × Row}, x ∈ ents q j rs → x.2 ∈ rs ∧ x.1.length = q.length + 1
  | j, [], x, h => by cases h
  | j, r :: rs, x, h => by
    unfold ents at h
    rcases List.mem_cons.mp h with rfl | h
    · exact ⟨by simp, by simp⟩
    · exact ⟨List.mem_cons_of_mem _ (ents_mem h).1, (ents_mem h).2⟩
theorem ents_ok {bits names : List Str} {ent : Bool} {d : Nat} {q : List Int} {s : Bool} {h : Option Str} {t e : List Row} (ho : ROk bits names ent (d + 1) (.br h t e)) (hq : q.length + 2 * (d + 1) ≤ 50) : ∀ x ∈ ents (q ++ [if s then 0 else 1]) 0 (if s then t else e), ∃ d, ROk bits names ent d x.2 ∧ x.1.length + 2 * d ≤ 50 := by
  intro x hx
  obtain ⟨h1, h2⟩ := ents_mem hx
  refine ⟨d, ?_, by rw [h2]; simp; omega⟩
  cases s
  · exact ho.2.2 _ h1
  · exact ho.2.1 _ h1
/-- what a guard's end is, plain data -/
theorem mach_plain {bits names : List Str} {ent : Bool} (hn : ∀ s ∈ names, PyData.strOk s = true) {ans : List Bool} : ∀ (n : Nat) (P : Pd) (fl : List Bool) (used : Nat), (∀ x ∈ P, ∃ d, ROk bits names ent d x.2 ∧ x.1.length + 2 * d ≤ 50) → fl.length ≤ 50 → Plain 8 (mach bits ans n P fl used).d
  | 0, _, _, _, _, hl => plainG ok_let (by omega) plain_non
  | n + 1, [], _, _, _, hl => plainG ok_let (by omega) plain_non
  | n + 1, (q, .refuse) :: P, _, _, _, hl => plainG ok_refuse (by omega) plain_non
  | n + 1, (q, .lead s) :: P, _, _, h, hl => by
    refine plainG ok_lead (by omega) ?_
    obtain ⟨d, h1, _⟩ := h _ (List.mem_cons_self ..)
    have : s ∈ names := by cases d <;> exact h1.1
    unfold Plain; exact hn s this
  | n + 1, (q, .set b v) :: P, fl, used, h, hl => mach_plain (ent := ent) hn n P (fl.set (bi bits b) v) used (fun x hx => h x (List.mem_cons_of_mem _ hx)) (by simpa using hl)
  | n + 1, (q, .br (some b) t e) :: P, fl, used, h, hl => by
    obtain ⟨d, h1, h2⟩ := h _ (List.mem_cons_self ..)
    cases d with
    | zero => exact h1.elim
    | succ d =>
      refine mach_plain (ent := ent) hn n (ents (q ++ [if fl.getD (bi bits b) false then 0 else 1]) 0 (if fl.getD (bi bits b) false then t else e) ++ P) fl used (fun x hx => ?_) hl
      rcases List.mem_append.mp hx with z | z
      · exact ents_ok h1 h2 x z
      · exact h x (List.mem_cons_of_mem _ z)
  | n + 1, (q, .br none t e) :: P, fl, used, h, hl => by
    obtain ⟨d, h1, h2⟩ := h _ (List.mem_cons_self ..)
    unfold mach
    simp only
    cases ha : ans[used]? with
    | none => exact plainG ok_wait (by omega) (plain_ints (n := 5) (by simp only at h2; omega))
    | some a =>
      cases d with
      | zero => exact h1.elim
      | succ d =>
        refine mach_plain (ent := ent) hn n (ents (q ++ [if a then 0 else 1]) 0 (if a then t else e) ++ P) fl (used + 1) (fun x hx => ?_) hl
        rcases List.mem_append.mp hx with z | z
        · exact ents_ok h1 h2 x z
        · exact h x (List.mem_cons_of_mem _ z)
theorem rg_plain {S : PS} {p : Pg} {ent : Bool} {fl ans : List Bool} (h : S.OK) (hp : p ∈ S.pages) (hl : fl.length = S.bits.length) : Plain 8 (rg S.bits (p.rows ent) fl ans).d := by
  have h3 := h.bl
  refine mach_plain (names := S.names) (ent := ent) (fun s hs => h.no.sok hs) 21 _ fl 0 (fun x hx => ?_) (by omega)
  obtain ⟨h1, h2⟩ := ents_mem hx
  exact ⟨3, (pg_rows_ok h hp).1 _ h1, by rw [h2]; simp⟩
end
section
theorem run_guard_p {st : Sto} {S : PS} {o : Nat} {fl ans : List Bool} {p : Pg} {ent : Bool} {ad : D} (h : SiteAt st o S) (hp : p ∈ S.pages) (hl : fl.length = S.bits.length) (hA : AnsAt st ad ans) :
    Pu (m_run_guard [.loc o, .str p.name, .str (sideS ent), .tup (fl.map .bl), ad]) st (rg S.bits (p.rows ent) fl ans).d ∧ (rg S.bits (p.rows ent) fl ans).fl.length = S.bits.length := by
  obtain ⟨hR, hc⟩ := pg_rows_ok (ent := ent) h.ok hp
  have hbs : ∀ b ∈ S.bits, PyData.strOk b = true := fun b hb => h.ok.bo.sok hb
  have hpe : pend [] (p.rows ent) 0 = ents [] 0 (p.rows ent) := rfl
  have hcp : cntP (pend [] (p.rows ent) 0) ≤ 20 := by rw [hpe, cntP_ents]; omega
  have go : ∀ st1, Fr [] st st1 → Runs (m_go_on [bitsD S, .tup (rowsD (p.rows ent)), .tup (fl.map .bl), .tup [.int 0], ad]) st1 fun d st' => (∃ L, d = .tup [.str (rg S.bits (p.rows ent) fl ans).o, .tup ((rg S.bits (p.rows ent) fl ans).fl.map .bl), (rg S.bits (p.rows ent) fl ans).w, .loc L]) ∧ (rg S.bits (p.rows ent) fl ans).fl.length = S.bits.length ∧ Fr [] st1 st' := by
    intro st1 F1
    refine (go_on_p (K := []) (rs := p.rows ent) (i := 0) hR h.ok.bl hbs rfl (Nat.zero_le _) hl (hA.fr F1 (by simp)) hcp).imp ?_
    rintro d st2 ⟨L, e, h1, h2⟩
    exact ⟨⟨L, e⟩, h1, h2⟩
  have h1 : Runs (m_run_guard [.loc o, .str p.name, .str (sideS ent), .tup (fl.map .bl), ad]) st fun d st' => (d = (rg S.bits (p.rows ent) fl ans).d ∧ Fr [] st st') ∧ (rg S.bits (p.rows ent) fl ans).fl.length = S.bits.length := by
    unfold m_run_guard b_run_guard
    rw [r_fn]
    refine ⟨rfl, ?_⟩
    simp
    refine Pu.go (checked_p h hp hl) fun st1 F1 => ?_
    have h1 := h.fr F1 (by simp)
    simp [h1.at_, siteO, lkB]
    refine (go st1 F1).imp ?_
    rintro _ st2 ⟨⟨L, rfl⟩, hfl, F2⟩
    simp
    exact ⟨⟨rfl, F1.trans F2⟩, hfl⟩
  refine ⟨h1.imp fun _ _ z => z.1, ?_⟩
  obtain ⟨_, _, _, z⟩ := h1.get
  exact z.2
end
section
/-! rows_with_positions: the exact list -/
def rwpI (X : List Int → List Row → Pd) (q : List Int) (ts : List (List Row)) : Pd := ts.zipIdx.flatMap fun t => X (q ++ [(t.2 : Int)]) t.1
def rwpR (X : List Int → List Row → Pd) (bef : List Int) (rs : List Row) : Pd := rs.zipIdx.flatMap fun r => (bef ++ [(r.2 : Int)], r.1) :: rwpI X (bef ++ [(r.2 : Int)]) r.1.ins
def rwpX : Nat → List Int → List Row → Pd
  | 0 => fun _ _ => []
  | n + 1 => rwpR (rwpX n)
theorem zip_take {α : Type} {xs : List α} {i : Nat} (h : i < xs.length) : (xs.take (i + 1)).zipIdx = (xs.take i).zipIdx ++ [(xs[i], i)] := by
  rw [← List.take_append_getElem h, List.zipIdx_append]
  have : (xs.take i).length = i := by rw [List.length_take]; omega
  simp [this]
theorem rwpI_take {X : List Int → List Row → Pd} {q : List Int} {ts : List (List Row)} {j : Nat} (h : j < ts.length) : rwpI X q (ts.take (j + 1)) = rwpI X q (ts.take j) ++ X (q ++ [(j : Int)]) ts[j] := by
  unfold rwpI; rw [zip_take h, List.flatMap_append]; simp
theorem rwpR_take {X : List Int → List Row → Pd} {q : List Int} {ts : List Row} {j : Nat} (h : j < ts.length) : rwpR X q (ts.take (j + 1)) = rwpR X q (ts.take j) ++ ((q ++ [(j : Int)], ts[j]) :: rwpI X (q ++ [(j : Int)]) ts[j].ins) := by
  unfold rwpR; rw [zip_take h, List.flatMap_append]; simp
theorem rwpI_len {X : List Int → List Row → Pd} (hX : ∀ q rs, (X q rs).length ≤ cntL rs) (q : List Int) : ∀ (ts : List (List Row)) (k : Nat), ((ts.zipIdx k).flatMap fun t => X (q ++ [(t.2 : Int)]) t.1).length ≤ (ts.map cntL).sum
  | [], _ => by simp
  | t :: ts, k => by
    have h1 := rwpI_len hX q ts (k + 1)
    have h2 := hX (q ++ [(k : Int)]) t
    rw [List.zipIdx_cons, List.flatMap_cons, List.length_append, List.map_cons, List.sum_cons]
    dsimp only
    omega
theorem rwpR_len {X : List Int → List Row → Pd} (hX : ∀ q rs, (X q rs).length ≤ cntL rs) (q : List Int) : ∀ (rs : List Row) (k : Nat), ((rs.zipIdx k).flatMap fun r => (q ++ [(r.2 : Int)], r.1) :: rwpI X (q ++ [(r.2 : Int)]) r.1.ins).length ≤ cntL rs
  | [], _ => by simp
  | r :: rs, k => by
    have h1 := rwpR_len hX q rs (k + 1)
    have h2 := rwpI_len hX (q ++ [(k : Int)]) r.ins 0
    have h3 := cnt_ins r
    rw [List.zipIdx_cons, List.flatMap_cons, List.length_append, List.length_cons]
    simp only [cntL]
    unfold rwpI at h1 h2 ⊢
    try dsimp only at h1
    omega
theorem rwpX_len : ∀ (n : Nat) (q : List Int) (rs : List Row), (rwpX n q rs).length ≤ cntL rs
  | 0, _, _ => Nat.zero_le _
  | n + 1, q, rs => rwpR_len (rwpX_len n) q rs 0
def RwxQ (P : Pd) (st : Sto) (d : D) (st' : Sto) : Prop := ∃ L, d = .loc L ∧ lstAt st' L = some (P.map entD) ∧ st.length ≤ L ∧ Fr [] st st'
theorem rwx_p {bits names : List Str} {ent : Bool} : ∀ (n : Nat) {st : Sto} {rs : List Row} {bef : List Int}, (∀ r ∈ rs, ROk bits names ent n r) → bef.length + 2 * n = 6 → cntL rs ≤ 500 → Runs (m_rows_with_positions (n + 2) [.tup (rowsD rs), .tup (bef.map .int)]) st (RwxQ (rwpX (n + 1) bef rs) st) := by
  intro n
  have all : ∀ n, (∀ m, n = m + 1 → ∀ {st : Sto} {rs : List Row} {bef : List Int}, (∀ r ∈ rs, ROk bits names ent m r) → bef.length + 2 * m = 6 → cntL rs ≤ 500 → Runs (m_rows_with_positions (m + 2) [.tup (rowsD rs), .tup (bef.map .int)]) st (RwxQ (rwpX (m + 1) bef rs) st)) → ∀ {st : Sto} {rs : List Row} {bef : List Int}, (∀ r ∈ rs, ROk bits names ent n r) → bef.length + 2 * n = 6 → cntL rs ≤ 500 → Runs (m_rows_with_positions (n + 2) [.tup (rowsD rs), .tup (bef.map .int)]) st (RwxQ (rwpX (n + 1) bef rs) st) := by
    intro n ih st rs bef hok hb hc
    rw [m_rows_with_positions, r_fn]
    refine ⟨rfl, ?_⟩
    simp
    refine runs_forL (fun i ρ st' => (∃ a3 a4 a5 a6 a7, ρ = [some (.tup (rowsD rs)), some (.tup (bef.map .int)), some (.loc st.length), a3, a4, a5, a6, a7]) ∧ lstAt st' st.length = some ((rwpR (rwpX n) bef (rs.take i)).map entD) ∧ Fr [] st st') ⟨⟨_, _, _, _, _, rfl⟩, lst_new, .new⟩ ?_ ?_
    · rintro i it ρ st1 hi ⟨⟨a3, a4, a5, a6, a7, rfl⟩, hL, F1⟩
      obtain ⟨hlt, rfl⟩ := enum_item hi
      obtain ⟨hlt', he⟩ := rowsD_get hlt
      have hr := hok _ (List.getElem_mem hlt')
      have hlen : (rwpR (rwpX n) bef (rs.take i)).length ≤ 500 := by
        refine Nat.le_trans (rwpR_len (rwpX_len n) bef (rs.take i) 0) ?_
        have : cntL rs = cntL (rs.take i) + cntL (rs.drop i) := by rw [← cntL_app, List.take_append_drop]
        omega
      rw [he]
      refine ⟨rfl, ?_⟩
      simp [sz8 (show bef.length + 1 ≤ 1000 by omega), sq_lst hL, hL]
      refine ⟨Nat.lt_of_le_of_lt (show _ ≤ 1000 by omega) (by decide), ?_⟩
      have hLl := lst_lt hL
      have hrc : rs[i].cnt ≤ 500 := by
        have : ∀ (xs : List Row) (r : Row), r ∈ xs → r.cnt ≤ cntL xs := by
          intro xs
          induction xs with
          | nil => intro r h; cases h
          | cons x xs ih => intro r h; simp only [cntL]; rcases List.mem_cons.mp h with rfl | h; omega; have := ih r h; omega
        have := this rs _ (List.getElem_mem hlt')
        omega
      refine Pu.go branches_p fun st3 F3 => ?_
      simp
      have hL3 : lstAt st3 st.length = some ((rwpR (rwpX n) bef (rs.take i) ++ [(bef ++ [(i : Int)], rs[i])]).map entD) := by
        rw [List.map_append]; exact F3.lst (by rw [lst_set hLl]; simp [entD]) (by simp)
      have F13 : Fr [] st st3 := (F1.setNew (Nat.le_refl _)).trans F3
      refine runs_forL (fun j ρ st' => (∃ a6 a7, ρ = [some (.tup (rowsD rs)), some (.tup (bef.map .int)), some (.loc st.length), some (.int i), some (rs[i].d), some (.tup (bef.map .int ++ [.int i])), a6, a7]) ∧ lstAt st' st.length = some ((rwpR (rwpX n) bef (rs.take i) ++ (bef ++ [(i : Int)], rs[i]) :: rwpI (rwpX n) (bef ++ [(i : Int)]) (rs[i].ins.take j)).map entD) ∧ Fr [] st st') ⟨⟨_, _, rfl⟩, hL3, F13⟩ ?_ ?_
      · rintro j it ρ st4 hj ⟨⟨a6, a7, rfl⟩, hL4, F4⟩
        obtain ⟨hjl, rfl⟩ := enum_item hj
        obtain ⟨m, rs', hm, e2, hok', hin⟩ := brD_item hr hjl
        have hji : j < rs[i].ins.length := by rw [brD_ins, List.length_map] at hjl; exact hjl
        have hrs' : rs' = rs[i].ins[j] := by
          rw [List.getElem?_eq_getElem hji] at hin
          injection hin with hin; exact hin.symm
        have h1 := cnt_ins rs[i]
        have h2 : (rs[i].ins.map cntL).sum = ((rs[i].ins.take j).map cntL).sum + ((rs[i].ins.drop j).map cntL).sum := by
          rw [← List.sum_append, ← List.map_append, List.take_append_drop]
        have h3 : (rwpI (rwpX n) (bef ++ [(i : Int)]) (rs[i].ins.take j)).length ≤ ((rs[i].ins.take j).map cntL).sum := rwpI_len (rwpX_len n) _ _ 0
        have h4 : cntL rs' ≤ (rs[i].ins.map cntL).sum := by
          have : ∀ (xs : List (List Row)) (k : Nat) (hk : k < xs.length), cntL xs[k] ≤ (xs.map cntL).sum := by
            intro xs
            induction xs with
            | nil => intro k hk; cases hk
            | cons x xs ih =>
              intro k hk
              cases k with
              | zero => simp
              | succ k => have := ih k (by simpa using hk); simp; omega
          rw [hrs']; exact this _ j hji
        rw [e2]
        refine ⟨rfl, ?_⟩
        simp [sz8 (show bef.length + 1 + 1 ≤ 1000 by omega), sq_lst hL4]
        subst hm
        have hbe : List.map D.int bef ++ [D.int ↑i, D.int ↑j] = (bef ++ [(i : Int), (j : Int)]).map .int := by simp
        try rw [hbe]
        refine (ih m rfl hok' (by simp; omega) (by omega)).imp ?_
        rintro _ st5 ⟨L5, rfl, hL5, hn5, F5⟩
        have hL45 := F5.lst hL4 (by simp)
        have h5 := rwpX_len (m + 1) (bef ++ [(i : Int), (j : Int)]) rs'
        rw [x_ext]
        refine ⟨_, hL45, _, hL5, Nat.le_of_lt (Nat.lt_of_le_of_lt (show _ ≤ 5000 by simp; omega) (by decide)), ?_, (F4.trans F5).setNew (Nat.le_refl _)⟩
        rw [lst_set (lst_lt hL45), rwpI_take hji, ← hrs', ← List.map_append]
        simp
      · rintro ρ st4 ⟨⟨a6, a7, rfl⟩, hL4, F4⟩
        refine ⟨rfl, ?_⟩
        have hall : rs[i].ins.take (enumD 0 (brD rs[i])).length = rs[i].ins := List.take_of_length_le (by rw [enumD_len, brD_ins, List.length_map]; omega)
        rw [hall] at hL4
        refine ⟨⟨_, _, _, _, _, rfl⟩, ?_, F4⟩
        rw [hL4, rwpR_take hlt']
    · rintro ρ st1 ⟨⟨a3, a4, a5, a6, a7, rfl⟩, hL, F1⟩
      refine ⟨rfl, ?_⟩
      simp
      have : rs.take (enumD 0 (rowsD rs)).length = rs := List.take_of_length_le (by rw [enumD_len, rowsD_map, List.length_map]; omega)
      rw [this] at hL
      exact ⟨_, rfl, hL, Nat.le_refl _, F1⟩
  induction n with
  | zero => exact all 0 (fun m h => by cases h)
  | succ n ih => exact all (n + 1) (fun m h => by injection h with h; subst h; exact ih)
end
section
theorem pend_cnt {R : List Row} : ∀ {K : List Fram} {rs : List Row} {i : Nat}, WF R K rs → cntP (pend K rs i) ≤ cntL R
  | [], rs, i, h => by
    rw [show rs = R from h]
    unfold pend
    rw [cntP_ents]
    have : cntL R = cntL (R.take i) + cntL (R.drop i) := by rw [← cntL_app, List.take_append_drop]
    omega
  | f :: K, rs, i, h => by
    obtain ⟨h0, hd, t, e, hg, rfl⟩ := h
    have ih := pend_cnt (i := f.j) h0
    rw [pend_cons hg] at ih
    have hc : cntP ((pref K ++ [(f.j : Int)], Row.br hd t e) :: pend K f.rs (f.j + 1)) = (Row.br hd t e).cnt + cntP (pend K f.rs (f.j + 1)) := rfl
    have hb : (Row.br hd t e).cnt = 1 + cntL t + cntL e := by rw [Row.cnt]
    show cntP (ents _ _ _ ++ pend K f.rs (f.j + 1)) ≤ _
    rw [cntP_app, cntP_ents]
    have : cntL (if f.s then t else e) = cntL ((if f.s then t else e).take i) + cntL ((if f.s then t else e).drop i) := by rw [← cntL_app, List.take_append_drop]
    have h2 : cntL (if f.s then t else e) ≤ cntL t + cntL e := by cases f.s <;> simp
    omega
theorem mach_shift {bits : List Str} {a b : List Bool} : ∀ (n : Nat) (P : Pd) (fl : List Bool) (u : Nat), mach bits (a ++ b) n P fl (a.length + u) = mach bits b n P fl u
  | 0, _, _, _ => rfl
  | n + 1, [], _, _ => rfl
  | n + 1, (q, .refuse) :: P, _, _ => rfl
  | n + 1, (q, .lead s) :: P, _, _ => rfl
  | n + 1, (q, .set c v) :: P, fl, u => mach_shift n P (fl.set (bi bits c) v) u
  | n + 1, (q, .br (some c) t e) :: P, fl, u => mach_shift n (ents (q ++ [if fl.getD (bi bits c) false then 0 else 1]) 0 (if fl.getD (bi bits c) false then t else e) ++ P) fl u
  | n + 1, (q, .br none t e) :: P, fl, u => by
    unfold mach
    simp only
    have e1 : (a ++ b)[a.length + u]? = b[u]? := by rw [List.getElem?_append_right (by omega), Nat.add_sub_cancel_left]
    rw [e1]
    cases b[u]? with
    | none => rfl
    | some z => exact mach_shift n (ents (q ++ [if z then 0 else 1]) 0 (if z then t else e) ++ P) fl (u + 1)
theorem mach_wait {bits : List Str} {ans : List Bool} {R : List Row} : ∀ (μ n : Nat) (K : List Fram) (rs : List Row) (i : Nat) (fl : List Bool) (used : Nat), WF R K rs → i ≤ rs.length → used ≤ ans.length → 2 * cntP (pend K rs i) + K.length ≤ μ → cntP (pend K rs i) < n → (mach bits ans n (pend K rs i) fl used).o = "wait" →
    ∃ K' rs' i' t e fl', WF R K' rs' ∧ rs'[i']? = some (.br none t e) ∧ mach bits ans n (pend K rs i) fl used = ⟨"wait", fl', posD K' i'⟩ ∧ fl'.length = fl.length ∧ ∀ b, ∃ m, cntP (pend K' rs' i') < m ∧ m ≤ n ∧ mach bits (ans ++ b) n (pend K rs i) fl used = mach bits b m (pend K' rs' i') fl' 0 := by
  intro μ
  induction μ using Nat.strongRecOn with
  | ind μ ih =>
    intro n K rs i fl used hW hi hu hμ hn ho
    obtain ⟨n, rfl⟩ : ∃ k, n = k + 1 := ⟨n - 1, by omega⟩
    cases hr : rs[i]? with
    | none =>
      cases K with
      | nil =>
        rw [pend_nil hr] at ho
        exact absurd (show Str.ofString "let" = Str.ofString "wait" from ho) (by decide +kernel)
      | cons f K =>
        rw [pend_up hr] at hμ hn ho ⊢
        obtain ⟨hW', _, _, _, hg, _⟩ := hW
        have hj : f.j + 1 ≤ f.rs.length := by
          rcases Nat.lt_or_ge f.j f.rs.length with z | z
          · exact z
          · rw [List.getElem?_eq_none z] at hg; cases hg
        have hlen : (f :: K).length = K.length + 1 := rfl
        exact ih (μ - 1) (by omega) (n + 1) K f.rs (f.j + 1) fl used hW' hj hu (by omega) hn ho
    | some r =>
      rw [pend_cons hr] at hμ hn ho ⊢
      have hil : i < rs.length := by
        rcases Nat.lt_or_ge i rs.length with z | z
        · exact z
        · rw [List.getElem?_eq_none z] at hr; cases hr
      have hc1 := cnt_pos r
      have hcons : cntP ((pref K ++ [(i : Int)], r) :: pend K rs (i + 1)) = r.cnt + cntP (pend K rs (i + 1)) := rfl
      rw [hcons] at hn hμ
      cases r with
      | refuse => exact absurd (show Str.ofString "refuse" = Str.ofString "wait" from ho) (by decide +kernel)
      | lead s => exact absurd (show Str.ofString "lead" = Str.ofString "wait" from ho) (by decide +kernel)
      | set c v =>
        obtain ⟨K', rs', i', t, e, fl', h1, h2, h3, h4, h5⟩ := ih (μ - 1) (by omega) n K rs (i + 1) (fl.set (bi bits c) v) used hW (by omega) hu (by omega) (by omega) ho
        refine ⟨K', rs', i', t, e, fl', h1, h2, h3, by rw [h4]; simp, fun b => ?_⟩
        obtain ⟨m, m1, m2, m3⟩ := h5 b
        exact ⟨m, m1, by omega, m3⟩
      | br h t e =>
        have hcb : (Row.br h t e).cnt = 1 + cntL t + cntL e := by rw [Row.cnt]
        have dn : ∀ (s : Bool) (used' : Nat), used' ≤ ans.length → (mach bits ans n (ents (pref K ++ [(i : Int)] ++ [if s then 0 else 1]) 0 (if s then t else e) ++ pend K rs (i + 1)) fl used').o = "wait" →
            ∃ K' rs' i' t' e' fl', WF R K' rs' ∧ rs'[i']? = some (.br none t' e') ∧ mach bits ans n (ents (pref K ++ [(i : Int)] ++ [if s then 0 else 1]) 0 (if s then t else e) ++ pend K rs (i + 1)) fl used' = ⟨"wait", fl', posD K' i'⟩ ∧ fl'.length = fl.length ∧ ∀ b, ∃ m, cntP (pend K' rs' i') < m ∧ m ≤ n ∧ mach bits (ans ++ b) n (ents (pref K ++ [(i : Int)] ++ [if s then 0 else 1]) 0 (if s then t else e) ++ pend K rs (i + 1)) fl used' = mach bits b m (pend K' rs' i') fl' 0 := by
          intro s used' hu' ho'
          have hcl : cntP (ents (pref K ++ [(i : Int)] ++ [if s then 0 else 1]) 0 (if s then t else e) ++ pend K rs (i + 1)) + 1 ≤ (Row.br h t e).cnt + cntP (pend K rs (i + 1)) := by
            rw [cntP_app, cntP_ents, hcb]
            cases s <;> simp <;> omega
          rw [← pend_down (rs := rs) (s := s)] at hcl ho' ⊢
          have hlen : ((⟨rs, i, s⟩ :: K : List Fram)).length = K.length + 1 := rfl
          exact ih (μ - 1) (by omega) n (⟨rs, i, s⟩ :: K) _ 0 fl used' ⟨hW, h, t, e, hr, rfl⟩ (Nat.zero_le _) hu' (by omega) (by omega) ho'
        have lift : ∀ {X Y : GR} {Z W : List Bool → GR}, (∃ K' rs' i' t' e' fl', WF R K' rs' ∧ rs'[i']? = some (.br none t' e') ∧ X = ⟨"wait", fl', posD K' i'⟩ ∧ fl'.length = fl.length ∧ ∀ b, ∃ m, cntP (pend K' rs' i') < m ∧ m ≤ n ∧ Z b = mach bits b m (pend K' rs' i') fl' 0) → Y = X → (∀ b, W b = Z b) →
            ∃ K' rs' i' t' e' fl', WF R K' rs' ∧ rs'[i']? = some (.br none t' e') ∧ Y = ⟨"wait", fl', posD K' i'⟩ ∧ fl'.length = fl.length ∧ ∀ b, ∃ m, cntP (pend K' rs' i') < m ∧ m ≤ n + 1 ∧ W b = mach bits b m (pend K' rs' i') fl' 0 := by
          rintro X Y Z W ⟨K', rs', i', t', e', fl', h1, h2, h3, h4, h5⟩ e1 e2
          refine ⟨K', rs', i', t', e', fl', h1, h2, e1.trans h3, h4, fun b => ?_⟩
          obtain ⟨m, m1, m2, m3⟩ := h5 b
          exact ⟨m, m1, by omega, (e2 b).trans m3⟩
        cases h with
        | some c => exact lift (dn (fl.getD (bi bits c) false) used hu ho) rfl fun _ => rfl
        | none =>
          by_cases c : used = ans.length
          · subst c
            refine ⟨K, rs, i, t, e, fl, hW, hr, ?_, rfl, fun b => ⟨n + 1, by rw [pend_cons hr, hcons]; exact hn, Nat.le_refl _, ?_⟩⟩
            · have : ans[ans.length]? = none := List.getElem?_eq_none (Nat.le_refl _)
              show (match ans[ans.length]? with | none => _ | some a => _) = _
              rw [this]; rfl
            · rw [pend_cons hr]
              exact mach_shift (n + 1) _ fl 0
          · have hlt : used < ans.length := by omega
            have hg := List.getElem?_eq_getElem hlt
            have e1 : ∀ b, mach bits (ans ++ b) (n + 1) ((pref K ++ [(i : Int)], Row.br none t e) :: pend K rs (i + 1)) fl used = mach bits (ans ++ b) n (ents (pref K ++ [(i : Int)] ++ [if ans[used] then 0 else 1]) 0 (if ans[used] then t else e) ++ pend K rs (i + 1)) fl (used + 1) := by
              intro b
              show (match (ans ++ b)[used]? with | none => _ | some a => _) = _
              rw [List.getElem?_append_left hlt, hg]
            have e0 : mach bits ans (n + 1) ((pref K ++ [(i : Int)], Row.br none t e) :: pend K rs (i + 1)) fl used = mach bits ans n (ents (pref K ++ [(i : Int)] ++ [if ans[used] then 0 else 1]) 0 (if ans[used] then t else e) ++ pend K rs (i + 1)) fl (used + 1) := by
              have := e1 []
              rwa [List.append_nil] at this
            rw [e0] at ho
            exact lift (dn ans[used] (used + 1) (by omega) ho) e0 e1
theorem mach_fuel {bits : List Str} {ans : List Bool} : ∀ (n m : Nat) (P : Pd) (fl : List Bool) (used : Nat), cntP P < n → cntP P < m → mach bits ans n P fl used = mach bits ans m P fl used
  | 0, _, _, _, _, h, _ => by omega
  | n + 1, 0, _, _, _, _, h => by omega
  | n + 1, m + 1, [], _, _, _, _ => rfl
  | n + 1, m + 1, (q, .refuse) :: P, _, _, _, _ => rfl
  | n + 1, m + 1, (q, .lead s) :: P, _, _, _, _ => rfl
  | n + 1, m + 1, (q, .set c v) :: P, fl, u, h, k => by
    have hc : cntP ((q, Row.set c v) :: P) = 1 + cntP P := rfl
    exact mach_fuel n m P (fl.set (bi bits c) v) u (by omega) (by omega)
  | n + 1, m + 1, (q, .br (some c) t e) :: P, fl, u, h, k => by
    have hc : cntP ((q, Row.br (some c) t e) :: P) = (Row.br (some c) t e).cnt + cntP P := rfl
    have hb : (Row.br (some c) t e).cnt = 1 + cntL t + cntL e := by rw [Row.cnt]
    have hx : cntP (ents (q ++ [if fl.getD (bi bits c) false then 0 else 1]) 0 (if fl.getD (bi bits c) false then t else e) ++ P) ≤ cntL t + cntL e + cntP P := by
      rw [cntP_app, cntP_ents]; cases fl.getD (bi bits c) false <;> simp
    exact mach_fuel n m (ents (q ++ [if fl.getD (bi bits c) false then 0 else 1]) 0 (if fl.getD (bi bits c) false then t else e) ++ P) fl u (by omega) (by omega)
  | n + 1, m + 1, (q, .br none t e) :: P, fl, u, h, k => by
    have hc : cntP ((q, Row.br none t e) :: P) = (Row.br none t e).cnt + cntP P := rfl
    have hb : (Row.br none t e).cnt = 1 + cntL t + cntL e := by rw [Row.cnt]
    unfold mach
    simp only
    cases ans[u]? with
    | none => rfl
    | some z =>
      have hx : cntP (ents (q ++ [if z then 0 else 1]) 0 (if z then t else e) ++ P) ≤ cntL t + cntL e + cntP P := by
        rw [cntP_app, cntP_ents]; cases z <;> simp
      exact mach_fuel n m (ents (q ++ [if z then 0 else 1]) 0 (if z then t else e) ++ P) fl (u + 1) (by omega) (by omega)
/-- from an ask row on -/
def rs_ (bits : List Str) (K : List Fram) (rs : List Row) (i : Nat) (fl ans : List Bool) : GR := mach bits ans 21 (pend K rs i) fl 0
end
section
theorem rg_wait {bits : List Str} {rows : List Row} {fl a : List Bool} (hc : cntL rows ≤ 8) (ho : (rg bits rows fl a).o = "wait") : ∃ K rs i t e fl', WF rows K rs ∧ rs[i]? = some (.br none t e) ∧ rg bits rows fl a = ⟨"wait", fl', posD K i⟩ ∧ fl'.length = fl.length ∧ (∀ b, rg bits rows fl (a ++ b) = rs_ bits K rs i fl' b) ∧ rs_ bits K rs i fl' [] = ⟨"wait", fl', posD K i⟩ := by
  have hp : pend [] rows 0 = ents [] 0 rows := rfl
  have hcp : cntP (pend [] rows 0) ≤ 8 := by rw [hp, cntP_ents]; exact hc
  obtain ⟨K, rs, i, t, e, fl', h1, h2, h3, h4, h5⟩ := mach_wait (bits := bits) (ans := a) (R := rows) 16 21 [] rows 0 fl 0 rfl (Nat.zero_le _) (Nat.zero_le _) (by simp; omega) (by omega) ho
  have hk := pend_cnt (i := i) h1
  refine ⟨K, rs, i, t, e, fl', h1, h2, h3, h4, fun b => ?_, ?_⟩
  · obtain ⟨m, m1, m2, m3⟩ := h5 b
    exact m3.trans (mach_fuel m 21 _ _ _ m1 (by omega))
  · unfold rs_
    rw [pend_cons h2]
    rfl
theorem rg_more {bits : List Str} {rows : List Row} {fl a b : List Bool} (ho : (rg bits rows fl a).o ≠ "wait") : rg bits rows fl (a ++ b) = rg bits rows fl a := mach_more _ _ _ _ ho
@[simp] theorem w1 : (Str.ofString "let" = Str.ofString "wait") = False := by simp; decide +kernel
@[simp] theorem w3 : (Str.ofString "refuse" = Str.ofString "wait") = False := by simp; decide +kernel
@[simp] theorem w4 : (Str.ofString "lead" = Str.ofString "wait") = False := by simp; decide +kernel
def GKind (g : GR) : Prop := g.o = "wait" ∨ (g.w = .non ∧ (g.o = "let" ∨ g.o = "refuse")) ∨ (g.o = "lead" ∧ ∃ s, g.w = .str s)
theorem mach_kind {bits : List Str} {ans : List Bool} : ∀ (n : Nat) (P : Pd) (fl : List Bool) (u : Nat), GKind (mach bits ans n P fl u)
  | 0, _, _, _ => .inr (.inl ⟨rfl, .inl rfl⟩)
  | n + 1, [], _, _ => .inr (.inl ⟨rfl, .inl rfl⟩)
  | n + 1, (q, .refuse) :: P, _, _ => .inr (.inl ⟨rfl, .inr rfl⟩)
  | n + 1, (q, .lead s) :: P, _, _ => .inr (.inr ⟨rfl, s, rfl⟩)
  | n + 1, (q, .set c v) :: P, fl, u => mach_kind n P (fl.set (bi bits c) v) u
  | n + 1, (q, .br (some c) t e) :: P, fl, u => mach_kind n (ents (q ++ [if fl.getD (bi bits c) false then 0 else 1]) 0 (if fl.getD (bi bits c) false then t else e) ++ P) fl u
  | n + 1, (q, .br none t e) :: P, fl, u => by
    unfold mach
    simp only
    cases ans[u]? with
    | none => exact .inl rfl
    | some z => exact mach_kind n (ents (q ++ [if z then 0 else 1]) 0 (if z then t else e) ++ P) fl (u + 1)
theorem mach_fl {bits : List Str} {ans : List Bool} : ∀ (n : Nat) (P : Pd) (fl : List Bool) (u : Nat), (mach bits ans n P fl u).fl.length = fl.length
  | 0, _, _, _ => rfl
  | n + 1, [], _, _ => rfl
  | n + 1, (q, .refuse) :: P, _, _ => rfl
  | n + 1, (q, .lead s) :: P, _, _ => rfl
  | n + 1, (q, .set c v) :: P, fl, u => (mach_fl n P (fl.set (bi bits c) v) u).trans (by simp)
  | n + 1, (q, .br (some c) t e) :: P, fl, u => mach_fl n (ents (q ++ [if fl.getD (bi bits c) false then 0 else 1]) 0 (if fl.getD (bi bits c) false then t else e) ++ P) fl u
  | n + 1, (q, .br none t e) :: P, fl, u => by
    unfold mach
    simp only
    cases ans[u]? with
    | none => rfl
    | some z => exact mach_fl n (ents (q ++ [if z then 0 else 1]) 0 (if z then t else e) ++ P) fl (u + 1)
theorem run_guard_len {S : PS} {p : Pg} {ent : Bool} {fl ans : List Bool} (h : S.OK) (hp : p ∈ S.pages) (hl : fl.length = S.bits.length) : (rg S.bits (p.rows ent) fl ans).fl.length = S.bits.length := (mach_fl _ _ _ _).trans hl
/-- a guard that waits has an ask row for each answer, and one more -/
theorem mach_wlen {bits : List Str} {ans : List Bool} : ∀ (n : Nat) (P : Pd) (fl : List Bool) (u : Nat), (mach bits ans n P fl u).o = "wait" → ans.length < u + cntP P
  | 0, _, _, _, h => absurd (show Str.ofString "let" = Str.ofString "wait" from h) (by simp)
  | n + 1, [], _, _, h => absurd (show Str.ofString "let" = Str.ofString "wait" from h) (by simp)
  | n + 1, (q, .refuse) :: P, _, _, h => absurd (show Str.ofString "refuse" = Str.ofString "wait" from h) (by simp)
  | n + 1, (q, .lead s) :: P, _, _, h => absurd (show Str.ofString "lead" = Str.ofString "wait" from h) (by simp)
  | n + 1, (q, .set c v) :: P, fl, u, h => by
    have hc : cntP ((q, Row.set c v) :: P) = 1 + cntP P := rfl
    have := mach_wlen n P (fl.set (bi bits c) v) u h
    omega
  | n + 1, (q, .br (some c) t e) :: P, fl, u, h => by
    have hc : cntP ((q, Row.br (some c) t e) :: P) = (Row.br (some c) t e).cnt + cntP P := rfl
    have hb : (Row.br (some c) t e).cnt = 1 + cntL t + cntL e := by rw [Row.cnt]
    have hx : cntP (ents (q ++ [if fl.getD (bi bits c) false then 0 else 1]) 0 (if fl.getD (bi bits c) false then t else e) ++ P) ≤ cntL t + cntL e + cntP P := by
      rw [cntP_app, cntP_ents]; cases fl.getD (bi bits c) false <;> simp
    have := mach_wlen n (ents (q ++ [if fl.getD (bi bits c) false then 0 else 1]) 0 (if fl.getD (bi bits c) false then t else e) ++ P) fl u h
    omega
  | n + 1, (q, .br none t e) :: P, fl, u, h => by
    have hc : cntP ((q, Row.br none t e) :: P) = (Row.br none t e).cnt + cntP P := rfl
    have hb : (Row.br none t e).cnt = 1 + cntL t + cntL e := by rw [Row.cnt]
    unfold mach at h
    simp only at h
    cases hz : ans[u]? with
    | none =>
      have := List.getElem?_eq_none_iff.mp hz
      omega
    | some z =>
      rw [hz] at h
      have hx : cntP (ents (q ++ [if z then 0 else 1]) 0 (if z then t else e) ++ P) ≤ cntL t + cntL e + cntP P := by
        rw [cntP_app, cntP_ents]; cases z <;> simp
      have := mach_wlen n (ents (q ++ [if z then 0 else 1]) 0 (if z then t else e) ++ P) fl (u + 1) h
      omega
theorem rg_wlen {bits : List Str} {rows : List Row} {fl a : List Bool} (hc : cntL rows ≤ 8) (ho : (rg bits rows fl a).o = "wait") : a.length < 8 := by
  have := mach_wlen _ _ _ _ ho
  rw [cntP_ents] at this
  omega
/-- the ends below the answers a, n answers at most -/
def tree (bits : List Str) (rows : List Row) (fl : List Bool) : Nat → List Bool → List (List Bool × GR)
  | 0, a => [(a, rg bits rows fl a)]
  | n + 1, a => if (rg bits rows fl a).o = "wait" then tree bits rows fl n (a ++ [false]) ++ tree bits rows fl n (a ++ [true]) else [(a, rg bits rows fl a)]
def endD (x : List Bool × GR) : D := .tup [.tup (x.1.map .bl), .str x.2.o, .tup (x.2.fl.map .bl), x.2.w]
def EAt (bits : List Str) (rows : List Row) (fl a fl' : List Bool) (pos : D) : Prop := ∃ K rs i, WF rows K rs ∧ i ≤ rs.length ∧ pos = posD K i ∧ fl'.length = bits.length ∧ rs_ bits K rs i fl' (a.drop (a.length - 1)) = rg bits rows fl a
theorem EAt.nil {bits : List Str} {rows : List Row} {fl : List Bool} (hl : fl.length = bits.length) : EAt bits rows fl [] fl (posD [] 0) := ⟨[], rows, 0, rfl, Nat.zero_le _, rfl, hl, rfl⟩
theorem EAt.next {bits : List Str} {rows : List Row} {fl a : List Bool} (hl : fl.length = bits.length) (hc : cntL rows ≤ 8) (ho : (rg bits rows fl a).o = "wait") (b : Bool) : EAt bits rows fl (a ++ [b]) (rg bits rows fl a).fl (rg bits rows fl a).w := by
  obtain ⟨K, rs, i, t, e, fl', h1, h2, h3, h4, h5, h6⟩ := rg_wait hc ho
  rw [h3]
  have hil : i < rs.length := by
    rcases Nat.lt_or_ge i rs.length with z | z
    · exact z
    · rw [List.getElem?_eq_none z] at h2; cases h2
  refine ⟨K, rs, i, h1, Nat.le_of_lt hil, rfl, h4.trans hl, ?_⟩
  rw [h5]
  simp
theorem cutD_last (ds : List D) : cutD ds (some (-1)) none = ds.drop (ds.length - 1) := by
  unfold cutD
  rw [HT.sIx_none]
  have e : HT.sIx ds.length 0 (some (-1)) = ds.length - 1 := by
    cases h : ds.length with
    | zero => rfl
    | succ n =>
      simp [HT.sIx]
      omega
  rw [e, List.take_of_length_le (by simp)]
theorem lst_cong {st : Sto} {L : Nat} {a b : List D} (h : lstAt st L = some a) (e : a = b) : lstAt st L = some b := e ▸ h
def EndsQ (bits : List Str) (rows : List Row) (fl : List Bool) (n : Nat) (a : List Bool) (st : Sto) (d : D) (st' : Sto) : Prop := ∃ L, d = .loc L ∧ st.length ≤ L ∧ lstAt st' L = some ((tree bits rows fl n a).map endD) ∧ Fr [] st st'
theorem tree_len {bits : List Str} {rows : List Row} {fl : List Bool} : ∀ (n : Nat) (a : List Bool), (tree bits rows fl n a).length ≤ 2 ^ n ∧ 1 ≤ (tree bits rows fl n a).length
  | 0, a => by simp [tree]
  | n + 1, a => by
    unfold tree
    split
    · have h1 := tree_len (bits := bits) (rows := rows) (fl := fl) n (a ++ [false])
      have h2 := tree_len (bits := bits) (rows := rows) (fl := fl) n (a ++ [true])
      rw [List.length_append, Nat.pow_succ]
      omega
    · simp [Nat.one_le_two_pow]
theorem ends_p {S : PS} {p : Pg} {ent : Bool} {fl : List Bool} (h : S.OK) (hp : p ∈ S.pages) (hl : fl.length = S.bits.length) : ∀ (n : Nat) (a : List Bool) (st : Sto) (fl' : List Bool) (pos : D), n + a.length = 8 → EAt S.bits (p.rows ent) fl a fl' pos →
    Runs (m_ends_from (n + 2) [bitsD S, .tup (rowsD (p.rows ent)), .tup (fl'.map .bl), pos, .tup (a.map .bl)]) st (EndsQ S.bits (p.rows ent) fl n a st) := by
  obtain ⟨hR, hc⟩ := pg_rows_ok (ent := ent) h hp
  have hbs : ∀ b ∈ S.bits, PyData.strOk b = true := fun b hb => h.bo.sok hb
  have hok : ∀ a, PyData.strOk (rg S.bits (p.rows ent) fl a).o = true := by
    intro a
    have h1 : Plain 8 (rg S.bits (p.rows ent) fl a).d := rg_plain h hp hl
    unfold GR.d at h1
    rw [Plain] at h1
    have := h1.2 _ (List.mem_cons_self ..)
    unfold Plain at this
    exact this
  have core : ∀ (m : Nat) (a : List Bool) (st : Sto) (fl' : List Bool) (pos : D) (Q : D → Sto → Prop), EAt S.bits (p.rows ent) fl a fl' pos → a.length ≤ 8 →
      ((rg S.bits (p.rows ent) fl a).o ≠ "wait" → ∀ st', Fr [] st st' → Q (.loc st'.length) (st' ++ [.lst [endD (a, rg S.bits (p.rows ent) fl a)]])) →
      ((rg S.bits (p.rows ent) fl a).o = "wait" → ∀ st', Fr [] st st' → Runs (m_ends_from m [bitsD S, .tup (rowsD (p.rows ent)), .tup ((rg S.bits (p.rows ent) fl a).fl.map .bl), (rg S.bits (p.rows ent) fl a).w, .tup (a.map .bl ++ [.bl false])]) (st' ++ [.lst []]) fun d1 st1 =>
        ∃ L1 x1, d1 = .loc L1 ∧ st'.length < L1 ∧ lstAt st1 L1 = some x1 ∧ x1.length ≤ 256 ∧ Fr [] (st' ++ [.lst []]) st1 ∧ Runs (m_ends_from m [bitsD S, .tup (rowsD (p.rows ent)), .tup ((rg S.bits (p.rows ent) fl a).fl.map .bl), (rg S.bits (p.rows ent) fl a).w, .tup (a.map .bl ++ [.bl true])]) (st1.set st'.length (.lst x1)) fun d2 st2 =>
          ∃ L2 x2, d2 = .loc L2 ∧ lstAt st2 L2 = some x2 ∧ x2.length ≤ 256 ∧ Fr [] (st1.set st'.length (.lst x1)) st2 ∧ Q (.loc st'.length) (st2.set st'.length (.lst (x1 ++ x2)))) →
      Runs (m_ends_from (m + 1) [bitsD S, .tup (rowsD (p.rows ent)), .tup (fl'.map .bl), pos, .tup (a.map .bl)]) st Q := by
    rintro m a st fl' pos Q ⟨K, rs, i, hW, hi, rfl, hfl', hrs⟩ hal q1 q2
    have hcp := pend_cnt (i := i) hW
    unfold m_ends_from
    rw [r_fn]
    refine ⟨rfl, ?_⟩
    simp [cutD_last]
    rw [← List.map_drop]
    refine (go_on_p (R := p.rows ent) (ans := a.drop (a.length - 1)) hR h.bl hbs hW hi hfl' (.inl rfl) (by omega)).imp ?_
    rintro _ st1 ⟨L0, rfl, h1, F1⟩
    have e0 : mach S.bits (a.drop (a.length - 1)) 21 (pend K rs i) fl' 0 = rg S.bits (p.rows ent) fl a := hrs
    rw [e0] at h1 ⊢
    simp [hok]
    by_cases c : (rg S.bits (p.rows ent) fl a).o = Str.ofString "wait"
    · simp [c, f_cons, f_nil, lst_new, sq_lst lst_new]
      have sz : ∀ n : Nat, n ≤ 1000 → n ≤ sizeLine := fun n h => Nat.le_of_lt (Nat.lt_of_le_of_lt h (by decide))
      refine ⟨sz _ (by omega), Runs.imp (q2 c st1 F1) ?_⟩
      rintro _ st2 ⟨L1, x1, rfl, k1, k2, k3, F2, k4⟩
      have g0 : lstAt st2 st1.length = some [] := F2.lst lst_new (by simp)
      simp [g0, k2]
      have hx1 : seqAt (st2.set st1.length (.lst x1)) st1.length = some x1 := sq_lst (lst_set (lst_lt g0))
      refine ⟨sz _ (by omega), by simp [hx1], sz _ (by omega), Runs.imp k4 ?_⟩
      rintro _ st3 ⟨L2, x2, rfl, j2, j3, F3, j4⟩
      have g1 : lstAt st3 st1.length = some x1 := F3.lst (lst_set (lst_lt g0)) (by simp)
      simp [g1, j2]
      exact ⟨sz _ (by omega), j4⟩
    · simp [c]
      exact q1 c st1 F1
  intro n
  induction n with
  | zero =>
    intro a st fl' pos hn hE
    refine core 1 a st fl' pos _ hE (by omega) (fun ho st' F => ⟨_, rfl, F.le, lst_new, F.trans .new⟩) fun ho => ?_
    have := rg_wlen hc ho
    omega
  | succ n ih =>
    intro a st fl' pos hn hE
    refine core (n + 2) a st fl' pos _ hE (by omega) (fun ho st' F => ⟨_, rfl, F.le, by unfold tree; rw [if_neg ho]; exact lst_new, F.trans .new⟩) fun ho st' F => ?_
    have p1 := tree_len (bits := S.bits) (rows := p.rows ent) (fl := fl) n (a ++ [false])
    have p2 := tree_len (bits := S.bits) (rows := p.rows ent) (fl := fl) n (a ++ [true])
    have pw : 2 ^ n ≤ 2 ^ 8 := Nat.pow_le_pow_right (by decide) (by omega)
    have r1 := ih (a ++ [false]) (st' ++ [.lst []]) _ _ (by simp; omega) (.next hl hc ho false)
    rw [List.map_append] at r1
    refine r1.imp ?_
    rintro d1 st1 ⟨L1, rfl, k1, k2, F1⟩
    refine ⟨L1, _, rfl, by simp at k1; omega, k2, by simp; omega, F1, ?_⟩
    have r2 := ih (a ++ [true]) (st1.set st'.length (.lst ((tree S.bits (p.rows ent) fl n (a ++ [false])).map endD))) _ _ (by simp; omega) (.next hl hc ho true)
    rw [List.map_append] at r2
    refine r2.imp ?_
    rintro d2 st2 ⟨L2, rfl, j1, j2, F2⟩
    refine ⟨L2, _, rfl, j2, by simp; omega, F2, ?_⟩
    have g0 : lstAt st1 st'.length = some [] := F1.lst lst_new (by simp)
    have g1 := F2.lst (lst_set (ds := (tree S.bits (p.rows ent) fl n (a ++ [false])).map endD) (lst_lt g0)) (by simp)
    refine ⟨_, rfl, F.le, ?_, ?_⟩
    · rw [lst_set (lst_lt g1)]
      conv => rhs; unfold tree
      rw [if_pos ho, List.map_append]
    · have a1 : Fr [] st' st1 := Fr.trans .new F1
      have a2 : Fr [] st' (st1.set st'.length (.lst ((tree S.bits (p.rows ent) fl n (a ++ [false])).map endD))) := a1.setNew (Nat.le_refl _)
      exact F.trans ((a2.trans F2).setNew (Nat.le_refl _))
theorem all_ends_p {S : PS} {p : Pg} {ent : Bool} {fl : List Bool} {o : Nat} {st : Sto} (h : SiteAt st o S) (hp : p ∈ S.pages) (hl : fl.length = S.bits.length) :
    Runs (m_all_ends [.loc o, .str p.name, .str (sideS ent), .tup (fl.map .bl)]) st (EndsQ S.bits (p.rows ent) fl 8 [] st) := by
  unfold m_all_ends b_all_ends
  rw [r_fn]
  refine ⟨rfl, ?_⟩
  simp
  refine Pu.go (checked_p h hp hl) fun st1 F1 => ?_
  have h1 := h.fr F1 (by simp)
  simp [h1.at_, siteO, lkB]
  refine (ends_p (ent := ent) h.ok hp hl 8 [] st1 fl (posD [] 0) rfl (.nil hl)).imp ?_
  rintro d st2 ⟨L, rfl, k1, k2, F2⟩
  exact ⟨L, rfl, Nat.le_trans F1.le k1, k2, F1.trans F2⟩
end
section
theorem canInts : ∀ xs : List Int, PyData.canLayAll0 (xs.map PyData.int) = true ∧ PyData.depthAll (xs.map PyData.int) = 0
  | [] => ⟨rfl, rfl⟩
  | x :: r => ⟨by rw [List.map_cons]; unfold PyData.canLayAll0; rw [(canInts r).1]; rfl, by rw [List.map_cons]; unfold PyData.depthAll; rw [(canInts r).2]; rfl⟩
theorem eqvInts : ∀ xs ys : List Int, PyData.eqvAll (xs.map PyData.int) (ys.map PyData.int) = decide (xs = ys)
  | [], [] => by unfold PyData.eqvAll; rfl
  | [], y :: ys => by unfold PyData.eqvAll; rfl
  | x :: xs, [] => by unfold PyData.eqvAll; rfl
  | x :: xs, y :: ys => by
    rw [List.map_cons, List.map_cons, PyData.eqvAll, eqvInts xs ys]
    unfold PyData.eqv
    by_cases h : x = y <;> by_cases k : xs = ys <;> simp [h, k]
theorem pdInts {st : Sto} : ∀ xs : List Int, toPD st 64 (.tup (xs.map D.int)) = some (.tuple (xs.map PyData.int)) := by
  intro xs
  have e : allO ((xs.map D.int).map (toPD st 63)) = some (xs.map PyData.int) := by
    induction xs with
    | nil => rfl
    | cons x r ih => rw [List.map_cons, List.map_cons, List.map_cons]; unfold allO; rw [ih]; rfl
  unfold toPD; simp only; rw [e]; rfl
theorem shInts (xs : List Int) : SeqAt.shaped (.tuple (xs.map PyData.int)) = true := by
  unfold SeqAt.shaped PyData.canLay0 PyData.depth
  rw [(canInts xs).1, (canInts xs).2]; rfl
theorem eqInts {st : Sto} (xs ys : List Int) : eqData st (.tup (xs.map .int)) (.tup (ys.map .int)) = some (decide (xs = ys)) := by
  unfold eqData
  rw [pdInts, pdInts]
  simp only [shInts, Bool.and_self, if_true]
  rw [PyData.eqv, eqvInts]
theorem x_eqints {st : Sto} {Q : D → Sto → Prop} {xs ys : List Int} : Runs (opEq (.tup (xs.map .int)) (.tup (ys.map .int))) st Q ↔ Q (.bl (decide (xs = ys))) st := by
  unfold Runs opEq; rw [eqInts]
theorem has_pos_p {st : Sto} {xs : List Int} (hl : xs.length ≤ 100) : Pu (m_has_position_form [.tup (xs.map .int)]) st (.bl true) := by
  unfold Pu m_has_position_form b_has_position_form
  rw [r_fn]
  refine ⟨rfl, ?_⟩
  simp
  refine lc_true lst_new ?_ (fun _ _ => rfl) ?_ ?_
  · simp; omega
  · intro it hit st1 F _
    obtain ⟨s, hs, rfl⟩ := List.mem_map.mp hit
    simp [wipeD]
    exact Pu.go is_integer_p fun st2 F2 => ⟨rfl, F2⟩
  · intro st1 F hL
    exact ⟨_, bind_bls hL, nofalse _, F.fin⟩
def Row.isAsk : Row → Bool
  | .br none _ _ => true
  | _ => false
/-- a comprehension of bools over tuples of two -/
theorem lc_pair {st : Sto} {te : En → M D} {ρw : En} {P : Pd} {f : List Int × Row → Bool} {i j : Nat} {ok : Sto → Bool} {QU : Unit → Sto → Prop} (hl : P.length ≤ 1000) (hok : ∀ st', Fr [] st st' → ok st' = true)
    (hs : ∀ x ∈ P, ∀ st', Fr [] st st' → Runs (te ((ρw.set i (some (.tup (x.1.map .int)))).set j (some x.2.d))) st' fun y st2 => y = .bl (f x) ∧ Fr [] st' st2)
    (hd : ∀ st', Fr [] st st' → lstAt st' st.length = some ((P.map f).map .bl) → QU () st') : Runs (lcL ok (gItP i j) tYesD te st.length ρw ((P.map entD).map .one)) (st ++ [.lst []]) QU := by
  refine runs_lcL (fun k st' => Fr [] st st' ∧ lstAt st' st.length = some (((P.take k).map f).map .bl)) ⟨.new, by simp [lst_new]⟩ ?_ ?_
  · rintro k it st1 hi ⟨F1, hL⟩
    obtain ⟨hk, rfl⟩ := map_item (f := entD) hi
    refine ⟨hok _ F1, ?_⟩
    unfold entD
    rw [r_gitp1]
    simp only [x_tyes, if_true]
    refine (hs P[k] (List.getElem_mem hk) st1 F1).imp ?_
    rintro _ st2 ⟨rfl, F2⟩
    have hL2 := F2.lst hL (by simp)
    refine ⟨_, hL2, Nat.lt_of_le_of_lt (show _ ≤ 1000 by simp; omega) (by decide), (F1.trans F2).setNew (Nat.le_refl _), ?_⟩
    have e : P.take (k + 1) = P.take k ++ [P[k]] := (List.take_append_getElem hk).symm
    rw [lst_set (lst_lt hL2), e, List.map_append, List.map_append]; rfl
  · rintro st1 ⟨F1, hL⟩
    refine ⟨hok _ F1, hd _ F1 ?_⟩
    rw [hL, List.take_of_length_le (by simp)]
theorem is_ask_p {bits names : List Str} {ent : Bool} {st : Sto} {R : List Row} {v : List Int} (hR : ∀ r ∈ R, ROk bits names ent 3 r) (hc : cntL R ≤ 100) (hv : v.length ≤ 100) : Pu (m_is_ask_position [.tup (rowsD R), .tup (v.map .int)]) st (.bl ((rwpX 4 [] R).any fun x => decide (x.1 = v) && x.2.isAsk)) := by
  unfold Pu m_is_ask_position b_is_ask_position
  rw [r_fn]
  refine ⟨rfl, ?_⟩
  simp
  refine Pu.go (has_pos_p hv) fun st1 F1 => ?_
  simp
  refine (rwx_p (bef := []) 3 hR (by simp) (by omega)).imp ?_
  rintro _ st2 ⟨L, rfl, hL, hn, F2⟩
  have hlen := rwpX_len (3 + 1) [] R
  refine ⟨_, sq_lst hL, ?_⟩
  refine lc_pair (f := fun x => decide (x.1 = v) && x.2.isAsk) (by omega) (fun st' F => by simp [F.seq (sq_lst hL) (by simp)]) ?_ ?_
  · intro x hx st' F
    simp [wipeD, x_eqints]
    by_cases c : x.1 = v
    · simp [c]
      obtain ⟨q, r⟩ := x
      cases r with
      | br h t e => cases h <;> simp [Row.d, hdD, Row.isAsk] <;> exact .refl
      | _ => simp [Row.d, Row.isAsk] <;> exact .refl
    · simp [c]; exact .refl
  · intro st' F hL'
    refine ⟨_, by rw [sq_lst hL']; exact blsOf_map _, ?_⟩
    simp
    exact (F1.trans F2).trans F
/-! where a machine waits -/
theorem rwpI_mem {X : List Int → List Row → Pd} {q : List Int} {ts : List (List Row)} {x : List Int × Row} : x ∈ rwpI X q ts ↔ ∃ (k : Nat) (t : List Row), ts[k]? = some t ∧ x ∈ X (q ++ [(k : Int)]) t := by
  unfold rwpI
  simp only [List.mem_flatMap, Prod.exists, List.mem_zipIdx_iff_getElem?]
  constructor
  · rintro ⟨t, k, h1, h2⟩; exact ⟨k, t, h1, h2⟩
  · rintro ⟨k, t, h1, h2⟩; exact ⟨t, k, h1, h2⟩
theorem rwpR_mem {X : List Int → List Row → Pd} {q : List Int} {rs : List Row} {x : List Int × Row} : x ∈ rwpR X q rs ↔ ∃ (j : Nat) (r : Row), rs[j]? = some r ∧ (x = (q ++ [(j : Int)], r) ∨ x ∈ rwpI X (q ++ [(j : Int)]) r.ins) := by
  unfold rwpR
  simp only [List.mem_flatMap, Prod.exists, List.mem_zipIdx_iff_getElem?, List.mem_cons]
  constructor
  · rintro ⟨t, k, h1, h2⟩; exact ⟨k, t, h1, h2⟩
  · rintro ⟨k, t, h1, h2⟩; exact ⟨t, k, h1, h2⟩
theorem rwpX_up : ∀ {n : Nat} {q : List Int} {rs : List Row} {x : List Int × Row}, x ∈ rwpX n q rs → x ∈ rwpX (n + 1) q rs
  | 0, _, _, _, h => by cases h
  | n + 1, q, rs, x, h => by
    rw [rwpX] at h ⊢
    obtain ⟨j, r, h1, h2⟩ := rwpR_mem.mp h
    refine rwpR_mem.mpr ⟨j, r, h1, ?_⟩
    rcases h2 with h2 | h2
    · exact .inl h2
    · obtain ⟨k, t, h3, h4⟩ := rwpI_mem.mp h2
      exact .inr (rwpI_mem.mpr ⟨k, t, h3, rwpX_up h4⟩)
theorem rwpX_child : ∀ {n : Nat} {q p : List Int} {rs : List Row} {h : Option Str} {t e : List Row} {s : Bool} {i : Nat} {r : Row}, (p, Row.br h t e) ∈ rwpX n q rs → (if s then t else e)[i]? = some r → (p ++ [if s then 0 else 1, (i : Int)], r) ∈ rwpX (n + 1) q rs
  | 0, _, _, _, _, _, _, _, _, _, h, _ => by cases h
  | n + 1, q, p, rs, hd, t, e, s, i, r, h, hi => by
    rw [rwpX] at h
    rw [rwpX]
    obtain ⟨j, r', h1, h2⟩ := rwpR_mem.mp h
    refine rwpR_mem.mpr ⟨j, r', h1, .inr ?_⟩
    rcases h2 with h2 | h2
    · injection h2 with e1 e2
      subst e2
      have : (p ++ [if s then 0 else 1, (i : Int)]) = (q ++ [(j : Int)]) ++ [if s then 0 else 1] ++ [(i : Int)] := by rw [e1]; simp
      rw [this]
      refine rwpI_mem.mpr ⟨if s then 0 else 1, if s then t else e, by cases s <;> rfl, ?_⟩
      rw [rwpX]
      refine rwpR_mem.mpr ⟨i, r, hi, .inl ?_⟩
      cases s <;> rfl
    · obtain ⟨k, u, h3, h4⟩ := rwpI_mem.mp h2
      exact rwpI_mem.mpr ⟨k, u, h3, rwpX_child h4 hi⟩
theorem wf_mem {R : List Row} : ∀ {K : List Fram} {rs : List Row} {i : Nat} {r : Row}, WF R K rs → rs[i]? = some r → (pref K ++ [(i : Int)], r) ∈ rwpX (K.length + 1) [] R
  | [], rs, i, r, h, hi => by
    rw [show rs = R from h] at hi
    rw [List.length_nil, rwpX]
    exact rwpR_mem.mpr ⟨i, r, hi, .inl rfl⟩
  | f :: K, rs, i, r, h, hi => by
    obtain ⟨h0, hd, t, e, hg, rfl⟩ := h
    have := rwpX_child (s := f.s) (wf_mem h0 hg) hi
    have e1 : pref K ++ [(f.j : Int)] ++ [if f.s then 0 else 1, (i : Int)] = pref (f :: K) ++ [(i : Int)] := by
      show _ = (pref K ++ [(f.j : Int), f.sd]) ++ [(i : Int)]
      simp [Fram.sd]
    rw [e1] at this
    exact this
theorem rwpX_le {n m : Nat} (h : n ≤ m) {q : List Int} {rs : List Row} {x : List Int × Row} (hx : x ∈ rwpX n q rs) : x ∈ rwpX m q rs := by
  induction h with
  | refl => exact hx
  | step _ ih => exact rwpX_up ih
end
section
theorem resume_p {st : Sto} {S : PS} {o : Nat} {fl ans : List Bool} {p : Pg} {ent : Bool} {ad : D} {K : List Fram} {rs t e : List Row} {i : Nat} (h : SiteAt st o S) (hp : p ∈ S.pages) (hl : fl.length = S.bits.length) (hA : AnsAt st ad ans) (hW : WF (p.rows ent) K rs) (hi : rs[i]? = some (.br none t e)) :
    Pu (m_resume_guard [.loc o, .str p.name, .str (sideS ent), .tup (fl.map .bl), posD K i, ad]) st (rs_ S.bits K rs i fl ans).d := by
  obtain ⟨hR, hc⟩ := pg_rows_ok (ent := ent) h.ok hp
  have hbs : ∀ b ∈ S.bits, PyData.strOk b = true := fun b hb => h.ok.bo.sok hb
  have hcp := pend_cnt (i := i) hW
  obtain ⟨hK3, _⟩ := wf_ok hR hW
  have hil : i < rs.length := by
    rcases Nat.lt_or_ge i rs.length with z | z
    · exact z
    · rw [List.getElem?_eq_none z] at hi; cases hi
  unfold Pu m_resume_guard b_resume_guard
  rw [r_fn]
  refine ⟨rfl, ?_⟩
  simp
  refine Pu.go (checked_p h hp hl) fun st1 F1 => ?_
  have hmem := rwpX_le (show K.length + 1 ≤ 4 by omega) (wf_mem hW hi)
  have hany : ((rwpX 4 [] (p.rows ent)).any fun x => decide (x.1 = pref K ++ [(i : Int)]) && x.2.isAsk) = true := by
    rw [List.any_eq_true]
    exact ⟨_, hmem, by simp [Row.isAsk]⟩
  have ha := is_ask_p (st := st1) (v := pref K ++ [(i : Int)]) hR (by omega) (by simp [pref_len]; omega)
  rw [hany] at ha
  refine Pu.go ha fun st2 F2 => ?_
  have F12 := F1.trans F2
  have h2 := h.fr F12 (by simp)
  simp [h2.at_, siteO, lkB]
  refine (go_on_p (R := p.rows ent) (ans := ans) hR h.ok.bl hbs hW (Nat.le_of_lt hil) hl (hA.fr F12 (by simp)) (by omega)).imp ?_
  rintro _ st3 ⟨L, rfl, h3, F3⟩
  simp
  exact ⟨rfl, F12.trans F3⟩
end
section
def letB : En → M Ctl := (sIf (tAndD (tVal (eBin opEq (eVar 6) (eC (.str "let")))) (tOrD (tVal (eBin opIsN (eVar 4) (eC .non))) (tVal (eBin opLt (eCall bLen (aCons (eVar 5) aNil)) (eCall bLen (aCons (eVar 4) aNil)))))) (sAsg (eVar 5) (gVar 4)) sNx)
theorem letSplit : b_letting_answers = (sSeq (sAsg (eC .non) (gVar 4)) (sSeq (sFor (itSeq (eCall (fun ds => m_all_ends (ds ++ [])) (aCons (eVar 0) (aCons (eVar 1) (aCons (eVar 2) (aCons (eVar 3) aNil)))))) (gItN [5, 6, 7, 8]) letB) (sRet (eVar 4)))) := rfl
def updB (b : Option (List Bool)) (x : List Bool × GR) : Option (List Bool) := if x.2.o = "let" ∧ (∀ c, b = some c → x.1.length < c.length) then some x.1 else b
instance {b : Option (List Bool)} {n : Nat} : Decidable (∀ c, b = some c → n < c.length) := match b with
  | none => .isTrue (fun _ h => nomatch h)
  | some c => if h : n < c.length then .isTrue (fun _ e => by cases e; exact h) else .isFalse fun z => h (z c rfl)
section
variable {bits : List Str} {rows : List Row} {fl : List Bool}
theorem tree_pre : ∀ {n : Nat} {a : List Bool} {x : List Bool × GR}, x ∈ tree bits rows fl n a → ∃ t, x.1 = a ++ t ∧ t.length ≤ n
  | 0, a, x, h => by
    simp [tree] at h
    subst h
    exact ⟨[], by simp, by simp⟩
  | n + 1, a, x, h => by
    unfold tree at h
    split at h
    · rcases List.mem_append.mp h with h | h
      · obtain ⟨t, h1, h2⟩ := tree_pre h
        exact ⟨false :: t, by rw [h1]; simp, by simp; omega⟩
      · obtain ⟨t, h1, h2⟩ := tree_pre h
        exact ⟨true :: t, by rw [h1]; simp, by simp; omega⟩
    · simp at h
      subst h
      exact ⟨[], by simp, by simp⟩
theorem tree_rg : ∀ {n : Nat} {a : List Bool} {x : List Bool × GR}, x ∈ tree bits rows fl n a → x.2 = rg bits rows fl x.1
  | 0, a, x, h => by
    simp [tree] at h
    subst h; rfl
  | n + 1, a, x, h => by
    unfold tree at h
    split at h
    · rcases List.mem_append.mp h with h | h
      · exact tree_rg h
      · exact tree_rg h
    · simp at h
      subst h; rfl
end
def bestD : Option (List Bool) → D
  | none => .non
  | some a => .tup (a.map .bl)
theorem r_gitN4 {i j k l : Nat} {a b c d : D} {ρ : En} {st : Sto} {QE : En → Sto → Prop} : Runs (gItN [i, j, k, l] (.one (.tup [a, b, c, d])) ρ) st QE ↔ QE ((((ρ.set i (some a)).set j (some b)).set k (some c)).set l (some d)) st := by with_unfolding_all exact Iff.rfl
section
variable {st : Sto} {S : PS} {p : Pg} {ent : Bool} {fl : List Bool} {o : Nat}
theorem rg_sok (h : S.OK) (hp : p ∈ S.pages) (hl : fl.length = S.bits.length) (a : List Bool) : PyData.strOk (rg S.bits (p.rows ent) fl a).o = true := by
  have h1 : Plain 8 (rg S.bits (p.rows ent) fl a).d := rg_plain h hp hl
  unfold GR.d at h1
  rw [Plain] at h1
  have := h1.2 _ (List.mem_cons_self ..)
  unfold Plain at this
  exact this
theorem letting_p (h : SiteAt st o S) (hp : p ∈ S.pages) (hl : fl.length = S.bits.length) : Pu (m_letting_answers [.loc o, .str p.name, .str (sideS ent), .tup (fl.map .bl)]) st (bestD ((tree S.bits (p.rows ent) fl 8 []).foldl updB none)) := by
  unfold Pu m_letting_answers
  rw [r_fn]
  refine ⟨rfl, ?_⟩
  rw [letSplit]
  simp
  refine (all_ends_p (ent := ent) h hp hl).imp ?_
  rintro _ st1 ⟨L, rfl, hL0, hL1, F1⟩
  have tl := tree_len (bits := S.bits) (rows := p.rows ent) (fl := fl) 8 []
  have tr : ∀ x ∈ tree S.bits (p.rows ent) fl 8 [], x.2 = rg S.bits (p.rows ent) fl x.1 := fun x hx => tree_rg hx
  have t5 : ∀ x ∈ tree S.bits (p.rows ent) fl 8 [], x.1.length ≤ 8 := fun x hx => by
    obtain ⟨t, e, ht⟩ := tree_pre hx
    rw [e]; simpa using ht
  generalize tree S.bits (p.rows ent) fl 8 [] = T at *
  have sq1 := sq_lst hL1
  refine ⟨_, sq1, ?_⟩
  refine runs_forL (fun i ρ st' => (∃ a5 a6 a7 a8, ρ = [some (.loc o), some (.str p.name), some (.str (sideS ent)), some (.tup (fl.map .bl)), some (bestD ((T.take i).foldl updB none)), a5, a6, a7, a8]) ∧ Fr [] st1 st') ⟨⟨_, _, _, _, rfl⟩, .refl⟩ ?_ ?_
  · rintro i it ρ st2 hi ⟨⟨a5, a6, a7, a8, rfl⟩, F2⟩
    obtain ⟨hk, rfl⟩ := map_item (f := endD) hi
    have hm := List.getElem_mem hk
    refine ⟨by simp [F2.seq sq1 (by simp)], ?_⟩
    unfold endD
    rw [r_gitN4]
    have hso := rg_sok (ent := ent) h.ok hp hl T[i].1
    rw [← tr _ hm] at hso
    have hfold : (T.take (i + 1)).foldl updB none = updB ((T.take i).foldl updB none) T[i] := by rw [← List.take_append_getElem hk, List.foldl_append]; rfl
    unfold letB
    simp [hso]
    generalize (T.take i).foldl updB none = b at hfold
    by_cases c : T[i].2.o = Str.ofString "let"
    · simp [c]
      cases b with
      | none =>
        simp [bestD, D.isNon]
        refine ⟨?_, F2⟩
        rw [hfold]; unfold updB
        rw [if_pos ⟨c, fun _ h => nomatch h⟩]
        skip
      | some d =>
        simp [bestD, D.isNon]
        by_cases z : T[i].1.length < d.length
        · rw [if_pos z, hfold]; unfold updB
          rw [if_pos ⟨c, fun _ h => by cases h; exact z⟩]
          exact ⟨rfl, F2⟩
        · rw [if_neg z, hfold]; unfold updB
          rw [if_neg fun q => z (q.2 d rfl)]
          exact ⟨rfl, F2⟩
    · simp [c]
      refine ⟨?_, F2⟩
      rw [hfold]; unfold updB
      rw [if_neg fun q => c q.1]
      skip
  · rintro ρ st2 ⟨⟨a5, a6, a7, a8, rfl⟩, F2⟩
    refine ⟨by simp [F2.seq sq1 (by simp)], ?_⟩
    have e1 : T.take ((T.map endD).map Item.one).length = T := List.take_of_length_le (by simp)
    rw [e1]
    simp
    exact F1.trans F2
theorem lets_p (h : SiteAt st o S) (hp : p ∈ S.pages) (hl : fl.length = S.bits.length) : Pu (m_lets [.loc o, .str p.name, .str (sideS ent), .tup (fl.map .bl)]) st (.bl ((tree S.bits (p.rows ent) fl 8 []).foldl updB none).isSome) := by
  unfold Pu m_lets b_lets
  rw [r_fn]
  refine ⟨rfl, ?_⟩
  simp
  refine Pu.go (letting_p h hp hl) fun st1 F1 => ?_
  skip
  refine ⟨?_, F1⟩
  cases (tree S.bits (p.rows ent) fl 8 []).foldl updB none <;> rfl
end
end
section
/-! values of any kind, as the spoiled arguments are -/
theorem lc_bl {st : Sto} {gi : Item → En → M En} {te : En → M D} {ρw : En} {items : List Item} {f : Nat → Bool} {ok : Sto → Bool} {QU : Unit → Sto → Prop} (hl : items.length ≤ 1000) (hok : ∀ st', Fr [] st st' → ok st' = true)
    (hs : ∀ k it, items[k]? = some it → ∀ st', Fr [] st st' → Runs (gi it ρw) st' fun ρ1 st1 => Runs (te ρ1) st1 fun y st2 => y = .bl (f k) ∧ Fr [] st' st2)
    (hd : ∀ st', Fr [] st st' → lstAt st' st.length = some (((List.range items.length).map f).map .bl) → QU () st') : Runs (lcL ok gi tYesD te st.length ρw items) (st ++ [.lst []]) QU := by
  refine runs_lcL (fun k st' => Fr [] st st' ∧ lstAt st' st.length = some (((List.range k).map f).map .bl)) ⟨.new, by simp [lst_new]⟩ ?_ ?_
  · rintro k it st1 hi ⟨F1, hL⟩
    refine ⟨hok _ F1, ?_⟩
    have hk : k < items.length := by
      rcases Nat.lt_or_ge k items.length with z | z
      · exact z
      · rw [List.getElem?_eq_none z] at hi; cases hi
    refine (hs k it hi st1 F1).imp fun ρ1 st2 q => ?_
    rw [x_tyes]
    simp only [if_true]
    refine q.imp ?_
    rintro _ st3 ⟨rfl, F3⟩
    have h3 := F3.lst hL (by simp)
    refine ⟨_, h3, Nat.lt_of_le_of_lt (show _ ≤ 1000 by simp; omega) (by decide), (F1.trans F3).setNew (Nat.le_refl _), ?_⟩
    rw [lst_set (lst_lt h3), List.range_succ, List.map_append, List.map_append]; rfl
  · rintro st1 ⟨F, h⟩
    exact ⟨hok _ F, hd _ F h⟩
def Sc (x : D) : Prop := x.flat = true ∧ ∀ s, x = .str s → PyData.strOk s = true
def Vv (st : Sto) (d : D) : Prop := Sc d ∨ (∃ ds, d = .tup ds ∧ ds.length ≤ 50 ∧ ∀ x ∈ ds, Sc x) ∨ ∃ i ds, d = .loc i ∧ seqAt st i = some ds ∧ ds.length ≤ 50 ∧ ∀ x ∈ ds, Sc x
theorem Vv.fr {st st' : Sto} {d : D} (h : Vv st d) (F : Fr [] st st') : Vv st' d := by
  rcases h with h | h | ⟨i, ds, e, h1, h2⟩
  · exact .inl h
  · exact .inr (.inl h)
  · exact .inr (.inr ⟨i, ds, e, F.seq h1 (by simp), h2⟩)
theorem Sc.cs {x : D} (h : Sc x) : x = .non ∨ (∃ b, x = .bl b) ∨ (∃ i, x = .int i) ∨ ∃ s, x = .str s ∧ PyData.strOk s = true := by
  cases x with
  | non => exact .inl rfl
  | bl b => exact .inr (.inl ⟨b, rfl⟩)
  | int i => exact .inr (.inr (.inl ⟨i, rfl⟩))
  | str s => exact .inr (.inr (.inr ⟨s, rfl, h.2 _ rfl⟩))
  | _ => cases h.1
theorem Sc.plain {x : D} {n : Nat} (h : Sc x) : Plain (n + 1) x := by
  unfold Plain
  cases x <;> first | trivial | exact h.2 _ rfl | cases h.1
theorem Vv.same {st : Sto} {d : D} {n : Nat} (h : Vv st d) : SameD st (n + 2) d d := by
  rcases h with h | ⟨ds, rfl, h1, h2⟩ | ⟨i, ds, rfl, h0, h1, h2⟩
  · exact h.plain.same
  · refine Plain.same ?_
    unfold Plain
    exact ⟨by omega, fun x hx => (h2 x hx).plain⟩
  · unfold SameD
    refine ⟨ds, ds, h0, h0, rfl, by omega, fun k x y e1 e2 => ?_⟩
    have e : x = y := Option.some.inj (e1.symm.trans e2)
    subst e
    exact (h2 x (List.mem_of_getElem? e1)).plain.same
def pdS : D → PyData
  | .bl b => .bool b
  | .int i => .int i
  | .str s => .str s
  | _ => .none
theorem Sc.pd {st : Sto} {x : D} {n : Nat} (h : Sc x) : toPD st (n + 1) x = some (pdS x) := by
  cases x <;> first | rfl | cases h.1
theorem Sc.can {x : D} (h : Sc x) : PyData.canLay0 (pdS x) = true ∧ (pdS x).depth = 0 := by
  cases x <;> first | exact ⟨rfl, rfl⟩ | exact ⟨h.2 _ rfl, rfl⟩ | cases h.1
theorem scs_pd {st : Sto} {n : Nat} : ∀ {ds : List D}, (∀ x ∈ ds, Sc x) → allO (ds.map (toPD st (n + 1))) = some (ds.map pdS)
  | [], _ => rfl
  | x :: ds, h => by
    rw [List.map_cons, (h x (by simp)).pd]
    unfold allO
    rw [scs_pd fun y hy => h y (by simp [hy])]; rfl
theorem scs_can : ∀ {ds : List D}, (∀ x ∈ ds, Sc x) → PyData.canLayAll0 (ds.map pdS) = true ∧ PyData.depthAll (ds.map pdS) = 0
  | [], _ => ⟨rfl, rfl⟩
  | x :: ds, h => by
    have h1 := (h x (by simp)).can
    have h2 := scs_can fun y hy => h y (List.mem_cons_of_mem _ hy)
    rw [List.map_cons]
    unfold PyData.canLayAll0 PyData.depthAll
    rw [h1.1, h1.2, h2.1, h2.2]; exact ⟨rfl, rfl⟩
def isS (s : Str) : D → Bool
  | .str t => decide (s = t)
  | _ => false
theorem Vv.pd {st : Sto} {d : D} {n : Nat} (h : Vv st d) : ∃ p, toPD st (n + 2) d = some p ∧ SeqAt.shaped p = true ∧ p.depth ≤ 60 ∧ ∀ s, PyData.eqv (.str s) p = isS s d := by
  rcases h with h | ⟨ds, rfl, h1, h2⟩ | ⟨i, ds, rfl, h0, h1, h2⟩
  · refine ⟨_, h.pd, ?_, by rw [h.can.2]; omega, fun s => ?_⟩
    · unfold SeqAt.shaped; rw [h.can.1, h.can.2]; rfl
    · rcases h.cs with rfl | ⟨b, rfl⟩ | ⟨i, rfl⟩ | ⟨t, rfl, ht⟩
      · rfl
      · rfl
      · rfl
      · show (s == t) = decide (s = t)
        by_cases e : s = t <;> simp [e]
  · refine ⟨.tuple (ds.map pdS), by unfold toPD; simp only; rw [scs_pd h2]; rfl, ?_, ?_, fun s => by rw [PyData.eqv]; rfl⟩
    · unfold SeqAt.shaped PyData.canLay0 PyData.depth; rw [(scs_can h2).1, (scs_can h2).2]; rfl
    · unfold PyData.depth; rw [(scs_can h2).2]; omega
  · refine ⟨.list (ds.map pdS), by unfold toPD; simp only [h0]; rw [scs_pd h2]; rfl, ?_, ?_, fun s => by rw [PyData.eqv]; rfl⟩
    · unfold SeqAt.shaped PyData.canLay0 PyData.depth; rw [(scs_can h2).1, (scs_can h2).2]; rfl
    · unfold PyData.depth; rw [(scs_can h2).2]; omega
theorem Vv.eqs {st : Sto} {d : D} {q : Str} {Q : D → Sto → Prop} (h : Vv st d) (hq : PyData.strOk q = true) : Runs (opEq (.str q) d) st Q ↔ Q (.bl (isS q d)) st := by
  obtain ⟨p, h1, h2, _, h3⟩ := h.pd (n := 62)
  have e1 : toPD st 64 (.str q) = some (.str q) := rfl
  have e2 : SeqAt.shaped (.str q) = true := by unfold SeqAt.shaped PyData.canLay0; rw [hq]; rfl
  have : eqData st (.str q) d = some (isS q d) := by
    unfold eqData
    rw [e1, h1]
    simp only [e2, h2, Bool.and_self, if_true]
    rw [h3]
  unfold Runs opEq; rw [this]
theorem Vv.side {st : Sto} {d : D} {Q : D → Sto → Prop} (h : Vv st d) : Runs (opNotInX d (.tup [.str "enter", .str "leave"])) st Q ↔ Q (.bl (!(isS "enter" d || isS "leave" d))) st := by
  by_cases hf : d.flat = true
  · rw [rOpNotInX (by rw [hf]; rfl)]
    have : d.inF [.str "enter", .str "leave"] = (isS "enter" d || isS "leave" d) := by
      unfold D.inF
      rw [List.any_cons, List.any_cons, List.any_nil, Bool.or_false]
      cases d with
      | str t =>
        show (decide _ || decide _) = (decide _ || decide _)
        rfl
      | _ => rfl
    rw [this]
  · obtain ⟨p, h1, h2, h4, h3⟩ := h.pd (n := 58)
    have hm : memD st d [.str "enter", .str "leave"] = some (isS "enter" d || isS "leave" d) := by
      unfold memD
      have e : allO ([D.str "enter", D.str "leave"].map (toPD st 60)) = some [.str "enter", .str "leave"] := rfl
      rw [h1, e]
      have e3 : PyData.canLayAll0 [.str "enter", .str "leave"] = true := by decide +kernel
      simp only [h2, e3, h4, decide_true, Bool.and_self, if_true]
      rw [List.any_cons, List.any_cons, List.any_nil, h3, h3, Bool.or_false]
    have e1 : opNotIn d (.tup [.str "enter", .str "leave"]) st = .stuck := by
      unfold opNotIn
      simp only [seqOf]
      rw [if_neg (by simp [hf])]
    have e2 : opNotInX d (.tup [.str "enter", .str "leave"]) st = .ok (.bl (!(isS "enter" d || isS "leave" d))) st := by
      unfold opNotInX orElseM
      rw [e1]
      unfold deepIn
      simp only [seqOf, hm]
      congr 2
      cases (isS "enter" d || isS "leave" d) <;> rfl
    unfold Runs; rw [e2]
section
variable {st : Sto} {Q : D → Sto → Prop}
@[simp] theorem z_bn : Runs (isiB "bool" .non) st Q ↔ Q (.bl false) st := x_isi rfl (by decide +kernel)
@[simp] theorem z_in : Runs (isiB "int" .non) st Q ↔ Q (.bl false) st := x_isi rfl (by decide +kernel)
@[simp] theorem z_ib {b : Bool} : Runs (isiB "int" (.bl b)) st Q ↔ Q (.bl true) st := x_isi rfl (by decide +kernel)
end
def isB : D → Bool
  | .bl _ => true
  | _ => false
def isI : D → Bool
  | .int _ => true
  | _ => false
theorem is_bool_s {x : D} {st : Sto} {Q : D → Sto → Prop} (h : Sc x) : Runs (isiB "bool" x) st Q ↔ Q (.bl (isB x)) st := by
  rcases h.cs with rfl | ⟨b, rfl⟩ | ⟨i, rfl⟩ | ⟨s, rfl, hs⟩ <;> simp [isB]
theorem is_integer_s {x : D} {st : Sto} (h : Sc x) : Pu (m_is_integer [x]) st (.bl (isI x)) := by
  unfold Pu m_is_integer b_is_integer
  rw [r_fn]
  refine ⟨rfl, ?_⟩
  rcases h.cs with rfl | ⟨b, rfl⟩ | ⟨i, rfl⟩ | ⟨s, rfl, hs⟩ <;> (simp [isI]; exact .refl)
def posF : D → Bool
  | .tup ds => ds.all isI
  | _ => false
def flagF (n : Nat) : D → Bool
  | .tup ds => decide (ds.length = n) && ds.all isB
  | _ => false
theorem tup_item {ds : List D} {k : Nat} {it : Item} (h : (ds.map Item.one)[k]? = some it) : ∃ hk : k < ds.length, it = .one ds[k] := by
  rw [List.getElem?_map] at h
  rcases Nat.lt_or_ge k ds.length with z | z
  · rw [List.getElem?_eq_getElem z] at h; exact ⟨z, (Option.some.inj h).symm⟩
  · rw [List.getElem?_eq_none z] at h; cases h
theorem all_range {ds : List D} {f : D → Bool} {g : Nat → Bool} (h : ∀ k (hk : k < ds.length), g k = f ds[k]) : ((List.range ds.length).map g).all _root_.id = ds.all f := by
  rw [List.all_map, Bool.eq_iff_iff, List.all_eq_true, List.all_eq_true]
  constructor
  · intro z x hx
    obtain ⟨k, hk, rfl⟩ := List.getElem_of_mem hx
    rw [← h k hk]; exact z k (List.mem_range.mpr hk)
  · intro z k hk
    have hk := List.mem_range.mp hk
    show g k = true
    rw [h k hk]; exact z _ (List.getElem_mem hk)
theorem has_pos_v {st : Sto} {d : D} (h : Vv st d) : Pu (m_has_position_form [d]) st (.bl (posF d)) := by
  unfold Pu m_has_position_form b_has_position_form
  rw [r_fn]
  refine ⟨rfl, ?_⟩
  rcases h with h | ⟨ds, rfl, h1, h2⟩ | ⟨i, ds, rfl, h0, h1, h2⟩
  · rcases h.cs with rfl | ⟨b, rfl⟩ | ⟨i, rfl⟩ | ⟨s, rfl, hs⟩ <;> (simp [posF]; exact .refl)
  · simp
    refine lc_bl (f := fun k => isI (ds.getD k .non)) (by simp; omega) (fun _ _ => rfl) ?_ ?_
    · intro k it hk st' F
      obtain ⟨hk', rfl⟩ := tup_item hk
      simp [wipeD, hk']
      exact Pu.go (is_integer_s (h2 _ (List.getElem_mem hk'))) fun st2 F2 => ⟨rfl, F2⟩
    · intro st' F hL
      refine ⟨_, by rw [sq_lst hL]; exact blsOf_map _, ?_, F⟩
      rw [List.length_map, all_range (f := isI) fun k hk => by simp [hk]]; rfl
  · simp [y_tl h0, posF]; exact .refl
def fB : En → M Ctl := (sSeq (sIf (tOrD (tNotD (tVal (eUn (isiB "tuple") (eVar 0)))) (tVal (eBin opNe (eCall bLen (aCons (eVar 0) aNil)) (eVar 1)))) (sRet (eC (.bl false))) sNx) (sRet (eCall bAll (aCons (eLc [2] (itSeq (eVar 0)) (gIt 2) tYesD (eUn (isiB "bool") (eVar 2))) aNil))))
theorem all_flags_v {st : Sto} {d : D} {n : Nat} (h : Vv st d) : Pu (m__law_all_flags [d, .int n]) st (.bl (flagF n d)) := by
  unfold Pu m__law_all_flags b__law_all_flags
  rw [r_fn]
  refine ⟨rfl, ?_⟩
  rcases h with h | ⟨ds, rfl, h1, h2⟩ | ⟨i, ds, rfl, h0, h1, h2⟩
  · rcases h.cs with rfl | ⟨b, rfl⟩ | ⟨i, rfl⟩ | ⟨s, rfl, hs⟩ <;> (simp [flagF]; exact .refl)
  · by_cases e : ds.length = n
    · simp [e]
      refine lc_bl (f := fun k => isB (ds.getD k .non)) (by simp; omega) (fun _ _ => rfl) ?_ ?_
      · intro k it hk st' F
        obtain ⟨hk', rfl⟩ := tup_item hk
        simp [wipeD, hk', is_bool_s (h2 _ (List.getElem_mem hk'))]
        exact .refl
      · intro st' F hL
        refine ⟨_, by rw [sq_lst hL]; exact blsOf_map _, ?_, F⟩
        rw [List.length_map, all_range (f := isB) fun k hk => by simp [hk]]; simp [flagF, e]
    · have e' : ¬ (ds.length : Int) = n := by omega
      simp [e', flagF, e]; exact .refl
  · simp [y_tl h0, flagF]; exact .refl
theorem are_flags_v {st : Sto} {S : PS} {o : Nat} {d : D} (h : SiteAt st o S) (hv : Vv st d) : Pu (m_are_flags [.loc o, d]) st (.bl (flagF S.bits.length d)) := by
  unfold Pu m_are_flags b_are_flags
  rw [r_fn]
  refine ⟨rfl, ?_⟩
  rcases hv with hv | ⟨ds, rfl, h1, h2⟩ | ⟨i, ds, rfl, h0, h1, h2⟩
  · rcases hv.cs with rfl | ⟨b, rfl⟩ | ⟨i, rfl⟩ | ⟨s, rfl, hs⟩ <;> (simp [flagF]; exact .refl)
  · by_cases e : ds.length = S.bits.length
    · simp [h.at_, siteO, lkB, bitsD, e]
      refine lc_bl (f := fun k => isB (ds.getD k .non)) (by simp; omega) (fun _ _ => rfl) ?_ ?_
      · intro k it hk st' F
        obtain ⟨hk', rfl⟩ := tup_item hk
        simp [wipeD, hk', is_bool_s (h2 _ (List.getElem_mem hk'))]
        exact .refl
      · intro st' F hL
        refine ⟨_, by rw [sq_lst hL]; exact blsOf_map _, ?_, F⟩
        rw [List.length_map, all_range (f := isB) fun k hk => by simp [hk]]; simp [flagF, e]
    · have e' : ¬ (ds.length : Int) = S.bits.length := by omega
      simp [h.at_, siteO, lkB, bitsD, e', flagF, e]; exact .refl
  · simp [y_tl h0, flagF]; exact .refl
end
section
/-! what raises -/
def Rz {α : Type} (m : M α) (st : Sto) (c : Nat) (n : Str) (d : D) : Prop := RunsX m st (fun _ _ => False) fun c' fs st' => c' = c ∧ fs = some [(n, d)] ∧ Fr [] st st'
theorem Rz.go {α : Type} {m : M α} {st st0 : Sto} {c : Nat} {n : Str} {d : D} {Q : α → Sto → Prop} (h : Rz m st c n d) (F : Fr [] st0 st) : RunsX m st Q fun c' fs st' => c' = c ∧ fs = some [(n, d)] ∧ Fr [] st0 st' :=
  RunsX.impX h fun _ _ _ ⟨e1, e2, F2⟩ => ⟨e1, e2, F.trans F2⟩
theorem rx_iseq {f : En → M D} {ρ : En} {st : Sto} {Q : ItD → Sto → Prop} {QX : QXT} (h : RunsX (f ρ) st (fun _ _ => False) QX) : RunsX (itSeq f ρ) st Q QX := by
  with_unfolding_all (unfold itSeq; rw [runsX_bind])
  exact h.imp (fun _ _ z => z.elim) fun _ _ _ z => z
section
variable {st : Sto} {S : PS} {o : Nat} {pg sd fl : D}
theorem find_bad (h : S.OK) (hv : Vv st pg) (hb : ∀ q ∈ S.names, isS q pg = false) : Rz (m_find_page [pagesD S, pg]) st 6 "page" pg := by
  unfold Rz m_find_page b_find_page pagesD
  rw [rx_fn]
  refine ⟨rfl, ?_⟩
  rw [rx_seq]
  refine Runs.x ?_
  simp
  refine runs_forL (fun i ρ st' => (∃ a2 a3, ρ = [some (.tup (S.pages.map Pg.d)), some pg, a2, a3]) ∧ st' = st) ⟨⟨_, _, rfl⟩, rfl⟩ ?_ ?_
  · rintro i it ρ st4 hi ⟨⟨a2, a3, rfl⟩, rfl⟩
    obtain ⟨hk, rfl⟩ := map_item (f := Pg.d) (by rw [List.map_map]; exact hi)
    have hn : S.pages[i].name ∈ S.names := List.mem_map.mpr ⟨_, List.getElem_mem hk, rfl⟩
    refine ⟨rfl, ?_⟩
    simp [Pg.d, hv.eqs (h.no.sok hn), hb _ hn]
  · rintro ρ st4 ⟨⟨a2, a3, rfl⟩, rfl⟩
    refine ⟨rfl, ?_⟩
    simp
    exact .refl
theorem guard_bad_page (h : SiteAt st o S) (hv : Vv st pg) (hb : ∀ q ∈ S.names, isS q pg = false) : Rz (m_Site_guard [.loc o, pg, sd]) st 6 "page" pg := by
  unfold Rz m_Site_guard b_Site_guard
  rw [rx_fn]
  refine ⟨rfl, ?_⟩
  rw [rx_seq, rx_asg, rx_call]
  refine Runs.x ?_
  simp [h.at_, siteO, lkP]
  exact (find_bad h.ok hv hb).go .refl
theorem guard_bad_side {p : Pg} (h : SiteAt st o S) (hp : p ∈ S.pages) (hv : Vv st sd) (h1 : isS "enter" sd = false) (h2 : isS "leave" sd = false) : Rz (m_Site_guard [.loc o, .str p.name, sd]) st 5 "side" sd := by
  unfold Rz m_Site_guard b_Site_guard
  rw [rx_fn]
  refine ⟨rfl, ?_⟩
  rw [rx_seq]
  refine Runs.x ?_
  simp [h.at_, siteO, lkP]
  refine Pu.go (find_p h.ok hp) fun st1 F1 => ?_
  refine Runs.x ?_
  simp [enumD]
  refine Runs.x ?_
  simp [f_cons, f_nil, (hv.fr F1).eqs (show PyData.strOk "enter" = true by decide +kernel), (hv.fr F1).eqs (show PyData.strOk "leave" = true by decide +kernel), h1, h2]
  exact F1
theorem checked_bad {c : Nat} {n : Str} {d : D} (h : SiteAt st o S) (hr : Rz (m_Site_guard [.loc o, pg, sd]) st c n d) : Rz (m_checked_rows [.loc o, pg, sd, fl]) st c n d := by
  unfold Rz m_checked_rows b_checked_rows
  rw [rx_fn]
  refine ⟨rfl, ?_⟩
  rw [rx_seq, rx_asg, rx_meth]
  refine Runs.x ?_
  simp
  refine x_chkO h.at_ (lkN (by decide +kernel) (by decide +kernel) (by decide +kernel) (by decide +kernel)) ?_
  exact hr.go .refl
theorem checked_bad_flags {p : Pg} {ent : Bool} (h : SiteAt st o S) (hp : p ∈ S.pages) (hv : Vv st fl) (hb : flagF S.bits.length fl = false) : Rz (m_checked_rows [.loc o, .str p.name, .str (sideS ent), fl]) st 2 "flags" fl := by
  unfold Rz m_checked_rows b_checked_rows
  rw [rx_fn]
  refine ⟨rfl, ?_⟩
  rw [rx_seq]
  refine Runs.x ?_
  simp
  refine x_chkO h.at_ (lkN (by decide +kernel) (by decide +kernel) (by decide +kernel) (by decide +kernel)) ?_
  refine Pu.go (guard_p h hp) fun st1 F1 => ?_
  refine Runs.x ?_
  refine Pu.go (are_flags_v (h.fr F1 (by simp)) (hv.fr F1)) fun st2 F2 => ?_
  simp [hb]
  exact F1.trans F2
variable {c : Nat} {n : Str} {d ad sp : D}
theorem run_bad (hr : Rz (m_checked_rows [.loc o, pg, sd, fl]) st c n d) : Rz (m_run_guard [.loc o, pg, sd, fl, ad]) st c n d := by
  unfold Rz m_run_guard b_run_guard
  rw [rx_fn]
  refine ⟨rfl, ?_⟩
  rw [rx_seq, rx_asg, rx_call]
  refine Runs.x ?_
  simp
  exact hr.go .refl
theorem resume_bad (hr : Rz (m_checked_rows [.loc o, pg, sd, fl]) st c n d) : Rz (m_resume_guard [.loc o, pg, sd, fl, sp, ad]) st c n d := by
  unfold Rz m_resume_guard b_resume_guard
  rw [rx_fn]
  refine ⟨rfl, ?_⟩
  rw [rx_seq, rx_asg, rx_call]
  refine Runs.x ?_
  simp
  exact hr.go .refl
theorem ends_bad (hr : Rz (m_checked_rows [.loc o, pg, sd, fl]) st c n d) : Rz (m_all_ends [.loc o, pg, sd, fl]) st c n d := by
  unfold Rz m_all_ends b_all_ends
  rw [rx_fn]
  refine ⟨rfl, ?_⟩
  rw [rx_seq, rx_asg, rx_call]
  refine Runs.x ?_
  simp
  exact hr.go .refl
theorem letting_bad (hr : Rz (m_checked_rows [.loc o, pg, sd, fl]) st c n d) : Rz (m_letting_answers [.loc o, pg, sd, fl]) st c n d := by
  unfold Rz m_letting_answers
  rw [rx_fn]
  refine ⟨rfl, ?_⟩
  rw [letSplit, rx_seq]
  refine Runs.x ?_
  simp
  refine rx_iseq ?_
  rw [rx_call]
  refine Runs.x ?_
  simp
  exact (ends_bad hr).go .refl
theorem lets_bad (hr : Rz (m_checked_rows [.loc o, pg, sd, fl]) st c n d) : Rz (m_lets [.loc o, pg, sd, fl]) st c n d := by
  unfold Rz m_lets b_lets
  rw [rx_fn]
  refine ⟨rfl, ?_⟩
  rw [rx_ret, rx_bin, rx_call]
  refine Runs.x ?_
  simp
  exact (letting_bad hr).go .refl
end
end
section
def askI (n : Nat) : En → M Ctl := (sEx (eMt chkL mExtend (eVar 2) (aCons (eCall (fun ds => (m__law_asks n) (ds ++ [])) (aCons (eBin opIx (eBin opIx (eVar 0) (eVar 3)) (eBin opAdd (eBin opSub (eCall bLen (aCons (eBin opIx (eVar 0) (eVar 3)) aNil)) (eC (.int 2))) (eVar 4))) (aCons (eBin opAdd (eVar 1) (eTup (aCons (eVar 3) (aCons (eVar 4) aNil)))) aNil))) aNil)))
def askB (n : Nat) : En → M Ctl := (sSeq (sIf (tVal (eBin opEq (eBin opIx (eBin opIx (eVar 0) (eVar 3)) (eC (.int 0))) (eC (.str "ask")))) (sEx (eMt chkL mAppend (eVar 2) (aCons (eBin opAdd (eVar 1) (eTup (aCons (eVar 3) aNil))) aNil))) sNx) (sIf (tVal (eBin opIn (eBin opIx (eBin opIx (eVar 0) (eVar 3)) (eC (.int 0))) (eTup (aCons (eC (.str "if")) (aCons (eC (.str "ask")) aNil))))) (sFor (itRange (eC (.int 2))) (gIt 4) (askI n)) sNx))
theorem asksSplit {n : Nat} : m__law_asks (n + 1) = fnM 2 5 (sSeq (sAsg (eLst aNil) (gVar 2)) (sSeq (sFor (itRange (eCall bLen (aCons (eVar 0) aNil))) (gIt 3) (askB n)) (sRet (eVar 2)))) := rfl
def askF (P : Pd) : List D := (P.filter fun x => x.2.isAsk).map fun x => .tup (x.1.map .int)
theorem askF_app (P Q : Pd) : askF (P ++ Q) = askF P ++ askF Q := by unfold askF; rw [List.filter_append, List.map_append]
theorem askF_len (P : Pd) : (askF P).length ≤ P.length := by unfold askF; rw [List.length_map]; exact List.length_filter_le _ _
def AskQ (P : Pd) (st : Sto) (d : D) (st' : Sto) : Prop := ∃ L, d = .loc L ∧ lstAt st' L = some (askF P) ∧ st.length ≤ L ∧ Fr [] st st'
def AskN (bits names : List Str) (ent : Bool) (m : Nat) : Prop := ∀ {st : Sto} {rs : List Row} {bef : List Int}, (∀ r ∈ rs, ROk bits names ent m r) → bef.length + 2 * m = 6 → cntL rs ≤ 500 → Runs (m__law_asks (m + 2) [.tup (rowsD rs), .tup (bef.map .int)]) st (AskQ (rwpX (m + 1) bef rs) st)
theorem asks_in {bits names : List Str} {ent : Bool} {m : Nat} (ih : AskN bits names ent m) {st st0 : Sto} {rs : List Row} {bef : List Int} {L i : Nat} {h : Option Str} {t e : List Row} {cur : List D} {a4 : Option D} {QC : Ctl → Sto → Prop} (hb : bef.length + 2 * (m + 1) = 6) (hi : i < rs.length) (hr : rs[i] = .br h t e) (ht : ∀ r ∈ t, ROk bits names ent m r) (he : ∀ r ∈ e, ROk bits names ent m r) (ct : cntL t ≤ 500) (ce : cntL e ≤ 500) (hcur : cur.length ≤ 600) (hL : lstAt st L = some cur) (hL0 : st0.length ≤ L) (F0 : Fr [] st0 st)
    (q : ∀ st' a4, lstAt st' L = some (cur ++ askF (rwpI (rwpX (m + 1)) (bef ++ [(i : Int)]) [t, e])) → Fr [] st0 st' → QC (.nx [some (.tup (rowsD rs)), some (.tup (bef.map .int)), some (.loc L), some (.int i), a4]) st') :
    Runs (forL (fun _ => true) (gIt 4) (askI (m + 2)) ((List.range 2).map fun (i : Nat) => Item.one (D.int (i : Int))) [some (.tup (rowsD rs)), some (.tup (bef.map .int)), some (.loc L), some (.int i), a4]) st QC := by
  refine runs_forL (fun j ρ st' => (∃ a4, ρ = [some (.tup (rowsD rs)), some (.tup (bef.map .int)), some (.loc L), some (.int i), a4]) ∧ lstAt st' L = some (cur ++ askF (rwpI (rwpX (m + 1)) (bef ++ [(i : Int)]) ([t, e].take j))) ∧ Fr [] st0 st') ⟨⟨_, rfl⟩, by simpa [rwpI, askF] using hL, F0⟩ ?_ ?_
  · rintro j it ρ st1 hj ⟨⟨a4, rfl⟩, hL1, F1⟩
    obtain ⟨hk, rfl⟩ := range_item hj
    refine ⟨rfl, ?_⟩
    have hb8 : bef.length + 1 + 1 ≤ 1000 := by omega
    have hd : (rowsD rs)[i]? = some (Row.br h t e).d := by rw [rowsD_map, List.getElem?_map, List.getElem?_eq_getElem hi, hr]; rfl
    have hd' := atI_get hd
    have hlen : ∀ k, (rwpI (rwpX (m + 1)) (bef ++ [(i : Int)]) ([t, e].take k)).length ≤ 1000 := fun k => by
      have h1 : (rwpI (rwpX (m + 1)) (bef ++ [(i : Int)]) ([t, e].take k)).length ≤ ((([t, e].take k)).map cntL).sum := rwpI_len (rwpX_len (m + 1)) _ _ 0
      have h2 : ((([t, e].take k)).map cntL).sum ≤ 1000 := by
        match k with
        | 0 => simp
        | 1 => simp; omega
        | k + 2 => simp; omega
      omega
    have hstep : ∀ t', [t, e][j]? = some t' → (∀ r ∈ t', ROk bits names ent m r) ∧ cntL t' ≤ 500 := by
      intro t' z
      match j, z with
      | 0, z => cases z; exact ⟨ht, ct⟩
      | 1, z => cases z; exact ⟨he, ce⟩
    obtain ⟨t', ht'⟩ : ∃ t', [t, e][j]? = some t' := by
      match j, hk with
      | 0, _ => exact ⟨t, rfl⟩
      | 1, _ => exact ⟨e, rfl⟩
    obtain ⟨ok', c'⟩ := hstep t' ht'
    have hix : ∀ ds, (Row.br h t e).d = .tup ds → atI ds ((ds.length : Int) - 2 + j) = some (.tup (rowsD t')) := by
      intro ds z
      unfold Row.d at z
      injection z with z
      subst z
      match j, hk, ht' with
      | 0, _, z => cases z; cases h <;> rfl
      | 1, _, z => cases z; cases h <;> rfl
    have hbe : List.map D.int bef ++ [D.int ↑i, D.int ↑j] = (bef ++ [(i : Int), (j : Int)]).map .int := by simp
    have hT : ∃ ds, (Row.br h t e).d = .tup ds := ⟨_, by unfold Row.d; rfl⟩
    obtain ⟨ds, hds⟩ := hT
    rw [hds] at hd'
    unfold askI
    simp [hd', hix ds hds, sz8 hb8, sq_lst hL1]
    rw [hbe]
    refine (ih (bef := bef ++ [(i : Int), (j : Int)]) ok' (by simp; omega) c').imp ?_
    rintro _ st2 ⟨L2, rfl, hL2, hn2, F2⟩
    have hL12 := F2.lst hL1 (by simp)
    have l1 := askF_len (rwpX (m + 1) (bef ++ [(i : Int), (j : Int)]) t')
    have l2 := rwpX_len (m + 1) (bef ++ [(i : Int), (j : Int)]) t'
    have l3 := askF_len (rwpI (rwpX (m + 1)) (bef ++ [(i : Int)]) ([t, e].take j))
    have l4 := hlen j
    rw [x_ext]
    refine ⟨_, hL12, _, hL2, Nat.le_of_lt (Nat.lt_of_le_of_lt (show _ ≤ 5000 by simp; omega) (by decide)), ?_, (F1.trans F2).setNew hL0⟩
    have hjl : j < [t, e].length := by simpa using hk
    have e5 : [t, e][j] = t' := by rw [List.getElem?_eq_getElem hjl] at ht'; exact Option.some.inj ht'
    have e6 : t :: List.take j [e] = [t, e].take (j + 1) := rfl
    rw [lst_set (lst_lt hL12), e6, rwpI_take hjl, askF_app, e5]
    simp
  · rintro ρ st1 ⟨⟨a4, rfl⟩, hL1, F1⟩
    exact ⟨rfl, q _ _ (by simpa using hL1) F1⟩
theorem in_if : (D.str "if").inF [.str "if", .str "ask"] = true := by decide +kernel
theorem in_ask : (D.str "ask").inF [.str "if", .str "ask"] = true := by decide +kernel
theorem in_ref : (D.str "refuse").inF [.str "if", .str "ask"] = false := by decide +kernel
theorem in_lead : (D.str "lead").inF [.str "if", .str "ask"] = false := by decide +kernel
theorem in_set : (D.str "set").inF [.str "if", .str "ask"] = false := by decide +kernel
theorem asks_p {bits names : List Str} {ent : Bool} : ∀ n, AskN bits names ent n := by
  have all : ∀ n, (∀ m, n = m + 1 → AskN bits names ent m) → AskN bits names ent n := by
    intro n ih st rs bef hok hb hc
    rw [asksSplit, r_fn]
    refine ⟨rfl, ?_⟩
    simp
    refine ⟨?_, ?_⟩
    · have := rowsD_map rs
      rw [this, List.length_map]
      have : rs.length ≤ cntL rs := by
        have : ∀ xs : List Row, xs.length ≤ cntL xs := by
          intro xs
          induction xs with
          | nil => simp
          | cons x xs ih => simp only [List.length_cons, cntL]; have := cnt_ins x; omega
        exact this rs
      omega
    refine runs_forL (fun i ρ st' => (∃ a3 a4, ρ = [some (.tup (rowsD rs)), some (.tup (bef.map .int)), some (.loc st.length), a3, a4]) ∧ lstAt st' st.length = some (askF (rwpR (rwpX n) bef (rs.take i))) ∧ Fr [] st st') ⟨⟨_, _, rfl⟩, lst_new, .new⟩ ?_ ?_
    · rintro i it ρ st1 hi ⟨⟨a3, a4, rfl⟩, hL, F1⟩
      obtain ⟨hlt, rfl⟩ := range_item hi
      have hlt' : i < rs.length := by rw [rowsD_map, List.length_map] at hlt; exact hlt
      have hr := hok _ (List.getElem_mem hlt')
      have hlen : (askF (rwpR (rwpX n) bef (rs.take i))).length ≤ 500 := by
        refine Nat.le_trans (askF_len _) (Nat.le_trans (rwpR_len (rwpX_len n) bef (rs.take i) 0) ?_)
        have : cntL rs = cntL (rs.take i) + cntL (rs.drop i) := by rw [← cntL_app, List.take_append_drop]
        omega
      have hrc : rs[i].cnt ≤ 500 := by
        have : ∀ (xs : List Row) (r : Row), r ∈ xs → r.cnt ≤ cntL xs := by
          intro xs
          induction xs with
          | nil => intro r h; cases h
          | cons x xs ih => intro r h; simp only [cntL]; rcases List.mem_cons.mp h with rfl | h; omega; have := ih r h; omega
        have := this rs _ (List.getElem_mem hlt')
        omega
      have hd : atI (rowsD rs) (i : Int) = some rs[i].d := atI_get (by rw [rowsD_map, List.getElem?_map, List.getElem?_eq_getElem hlt']; rfl)
      have hci := cnt_ins rs[i]
      rw [rwpR_take hlt', askF_app]
      refine ⟨rfl, ?_⟩
      generalize hrr : rs[i] = r at *
      have hsz := sz8 (show bef.length + 1 ≤ 1000 by omega)
      have hL1 := sq_lst hL
      have hf0 : ∀ x, askF [(x, r)] = if r.isAsk then [.tup (x.map .int)] else [] := fun x => by unfold askF; cases h : r.isAsk <;> simp [h]
      unfold askB
      cases r with
      | br hd0 t e =>
        cases n with
        | zero => exact hr.elim
        | succ m =>
          have ihm : AskN bits names ent m := @ih m rfl
          obtain ⟨ht, he⟩ : (∀ r ∈ t, ROk bits names ent m r) ∧ (∀ r ∈ e, ROk bits names ent m r) := by
            have h1 := brD_item hr (j := 0) (by simp [brD])
            have h2 := brD_item hr (j := 1) (by simp [brD])
            obtain ⟨m1, r1, g1, _, g2, g3⟩ := h1
            obtain ⟨m2, r2, k1, _, k2, k3⟩ := h2
            have e1 : m1 = m := by omega
            have e2 : m2 = m := by omega
            subst e1; subst e2
            cases g3; cases k3
            exact ⟨g2, k2⟩
          simp [Row.ins] at hci
          have hins : (Row.br hd0 t e).ins = [t, e] := rfl
          cases hd0 with
          | some b =>
            simp [Row.d, hdD] at hd
            simp [hd, D.flat, in_if]
            rw [hins]
            refine asks_in (st0 := st) ihm hb hlt' hrr ht he (by omega) (by omega) (by omega) hL (Nat.le_refl _) F1 fun st' a4 hL' F' => ?_
            refine ⟨⟨_, _, rfl⟩, ?_, F'⟩
            rw [hL']
            show some (_ ++ askF _) = some (_ ++ askF ((_, _) :: _))
            rfl
          | none =>
            simp [Row.d, hdD] at hd
            simp [hd, hsz, hL1, hL, D.flat, in_ask]
            refine ⟨Nat.lt_of_le_of_lt (show _ ≤ 1000 by omega) (by decide), ?_⟩
            rw [hins]
            refine asks_in (st0 := st) ihm (cur := askF (rwpR (rwpX (m + 1)) bef (rs.take i)) ++ [.tup (bef.map .int ++ [.int i])]) hb hlt' hrr ht he (by omega) (by omega) ?_ (lst_set (lst_lt hL)) (Nat.le_refl _) (F1.setNew (Nat.le_refl _)) fun st' a4 hL' F' => ?_
            · simp; omega
            · refine ⟨⟨_, _, rfl⟩, ?_, F'⟩
              rw [hL']
              show some (_ ++ askF _) = some (_ ++ askF ((_, _) :: _))
              simp [askF, Row.isAsk]
      | _ =>
        simp [Row.d] at hd
        simp [hd, D.flat, in_ref, in_lead, in_set]
        refine ⟨?_, F1⟩
        rw [hL]
        simp [askF, Row.isAsk, rwpI, Row.ins]
    · rintro ρ st1 ⟨⟨a3, a4, rfl⟩, hL, F1⟩
      refine ⟨rfl, ?_⟩
      simp
      refine ⟨_, rfl, ?_, Nat.le_refl _, F1⟩
      rw [hL, List.take_of_length_le (by simp [rowsD_map])]; rfl
  intro n
  induction n with
  | zero => exact all 0 (fun m h => by cases h)
  | succ n ih => exact all (n + 1) (fun m h => by injection h with h; subst h; exact ih)
/-! sameness with a position -/
open Classical in
noncomputable def eqT (d : D) (w : List Int) : Bool := decide (d = .tup (w.map .int))
theorem eqT_iff {d : D} {w : List Int} : eqT d w = true ↔ d = .tup (w.map .int) := by unfold eqT; simp
def eqI (i : Int) : D → Bool
  | .int a => decide (a = i)
  | _ => false
theorem same_int {st : Sto} {x : D} {i : Int} {n : Nat} (h : Sc x) : Pu (m__law_same (n + 1) [x, .int i]) st (.bl (eqI i x)) := by
  unfold Pu m__law_same
  rw [r_fn]
  refine ⟨rfl, ?_⟩
  rcases h.cs with rfl | ⟨b, rfl⟩ | ⟨j, rfl⟩ | ⟨s, rfl, hs⟩ <;> simp [eqI, D.isNon] <;> exact .refl
theorem ints_iff : ∀ {ds : List D} {w : List Int}, ds.length = w.length → ((∀ k, (hk : k < ds.length) → eqI (w.getD k 0) ds[k] = true) ↔ ds = w.map .int)
  | [], [], _ => by simp
  | x :: ds, i :: w, h => by
    have ih := ints_iff (ds := ds) (w := w) (by simpa using h)
    constructor
    · intro z
      have h0 := z 0 (by simp)
      have e : x = .int i := by
        simp at h0
        cases x <;> simp [eqI] at h0
        rw [h0]
      have : ds = w.map .int := ih.mp fun k hk => by
        have := z (k + 1) (by simpa using hk)
        simpa using this
      rw [e, this]; rfl
    · intro z
      rw [List.map_cons] at z
      injection z with z1 z2
      intro k hk
      cases k with
      | zero => subst z1; simp [eqI]
      | succ k =>
        have := ih.mpr z2 k (by simpa using hk)
        simpa using this
theorem same_pos {st : Sto} {d : D} {w : List Int} (h : Vv st d) (hw : w.length ≤ 50) : Pu (m__law_same 8 [d, .tup (w.map .int)]) st (.bl (eqT d w)) := by
  unfold Pu m__law_same
  rw [r_fn]
  refine ⟨rfl, ?_⟩
  have hno : (∀ xs, d ≠ .tup xs) → eqT d w = false := fun z => by
    cases e : eqT d w with
    | false => rfl
    | true => exact (z _ (eqT_iff.mp e)).elim
  rcases h with h | ⟨ds, rfl, h1, h2⟩ | ⟨i, ds, rfl, h0, h1, h2⟩
  · rcases h.cs with rfl | ⟨b, rfl⟩ | ⟨j, rfl⟩ | ⟨s, rfl, hs⟩ <;> simp [hno (fun xs => nofun)] <;> exact .refl
  · by_cases e : ds.length = w.length
    · simp [e]
      refine ⟨by omega, ?_⟩
      refine lc_bl (f := fun k => eqI (w.getD k 0) (ds.getD k .non)) (by simp; omega) (fun _ _ => rfl) ?_ ?_
      · intro k it hk st' F
        obtain ⟨hk', rfl⟩ := range_item hk
        have g1 := atI_get (List.getElem?_eq_getElem (l := ds) (i := k) (by omega))
        have g2 : atI (w.map D.int) (k : Int) = some (.int w[k]) := atI_nat hk'
        simp [wipeD, g1, g2]
        refine Pu.go (same_int (h2 _ (List.getElem_mem _))) fun st2 F2 => ⟨?_, F2⟩
        rw [List.getElem?_eq_getElem (l := ds) (i := k) (by omega), List.getElem?_eq_getElem (l := w) (i := k) hk']; rfl
      · intro st' F hL
        refine ⟨_, by rw [sq_lst hL]; exact blsOf_map _, ?_, F⟩
        congr 1
        rw [Bool.eq_iff_iff, eqT_iff]
        rw [List.all_eq_true]
        constructor
        · intro z
          have := (ints_iff e).mp fun k hk => by
            have := z (eqI (w.getD k 0) (ds.getD k .non)) (List.mem_map.mpr ⟨k, by simp; omega, rfl⟩)
            simp [hk] at this
            simpa using this
          rw [this]
        · intro z b hb
          injection z with z
          obtain ⟨k, hk, rfl⟩ := List.mem_map.mp hb
          simp at hk
          have := (ints_iff e).mpr z k (by omega)
          have e9 : ds.getD k .non = ds[k]'(by omega) := by simp [show k < ds.length by omega]
          show eqI _ _ = true
          rw [e9]; exact this
    · have e' : ¬ (ds.length : Int) = w.length := by omega
      have : eqT (.tup ds) w = false := by
        cases q : eqT (.tup ds) w with
        | false => rfl
        | true =>
          have := eqT_iff.mp q
          injection this with this
          rw [this] at e; simp at e
      simp [e', this]; exact .refl
  · simp [y_ll h0, y_tl h0, hno (fun xs => nofun)]; exact .refl
def asksOf (R : List Row) : List (List Int) := ((rwpX 4 [] R).filter fun x => x.2.isAsk).map (·.1)
theorem asksOf_D (R : List Row) : askF (rwpX 4 [] R) = (asksOf R).map fun w => D.tup (w.map .int) := by unfold askF asksOf; rw [List.map_map]; rfl
theorem is_ask_v {bits names : List Str} {ent : Bool} {st : Sto} {R : List Row} {d : D} (hR : ∀ r ∈ R, ROk bits names ent 3 r) (hc : cntL R ≤ 100) (hv : Vv st d) : Pu (m_is_ask_position [.tup (rowsD R), d]) st (.bl ((asksOf R).any (eqT d))) := by
  by_cases hp : posF d = true
  · obtain ⟨v, rfl, hl⟩ : ∃ v : List Int, d = .tup (v.map .int) ∧ v.length ≤ 50 := by
      rcases hv with h | ⟨ds, rfl, h1, h2⟩ | ⟨i, ds, rfl, h0, h1, h2⟩
      · rcases h.cs with rfl | ⟨b, rfl⟩ | ⟨j, rfl⟩ | ⟨s, rfl, hs⟩ <;> simp [posF] at hp
      · have : ∀ ds : List D, ds.all isI = true → ∃ v : List Int, ds = v.map .int := by
          intro ds
          induction ds with
          | nil => intro _; exact ⟨[], rfl⟩
          | cons x ds ih =>
            intro z
            rw [List.all_cons, Bool.and_eq_true] at z
            obtain ⟨v, rfl⟩ := ih z.2
            cases x with
            | int i => exact ⟨i :: v, rfl⟩
            | _ => cases z.1
        obtain ⟨v, rfl⟩ := this ds hp
        exact ⟨v, rfl, by simpa using h1⟩
      · simp [posF] at hp
    have := is_ask_p (st := st) (v := v) hR hc (by omega)
    have e : ((rwpX 4 [] R).any fun x => decide (x.1 = v) && x.2.isAsk) = (asksOf R).any (eqT (.tup (v.map .int))) := by
      unfold asksOf
      rw [Bool.eq_iff_iff, List.any_eq_true, List.any_eq_true]
      constructor
      · rintro ⟨x, hx, z⟩
        rw [Bool.and_eq_true] at z
        refine ⟨x.1, List.mem_map.mpr ⟨x, List.mem_filter.mpr ⟨hx, z.2⟩, rfl⟩, ?_⟩
        rw [eqT_iff, of_decide_eq_true z.1]
      · rintro ⟨w, hw, z⟩
        obtain ⟨x, hx, rfl⟩ := List.mem_map.mp hw
        obtain ⟨hx, ha⟩ := List.mem_filter.mp hx
        refine ⟨x, hx, ?_⟩
        rw [eqT_iff] at z
        injection z with z
        have : v = x.1 := by
          have inj : ∀ a b : List Int, a.map D.int = b.map D.int → a = b := by
            intro a
            induction a with
            | nil => intro b h; cases b with | nil => rfl | cons => cases h
            | cons y a ih => intro b h; cases b with | nil => cases h | cons z b => rw [List.map_cons, List.map_cons] at h; injection h with h1 h2; injection h1 with h1; rw [h1, ih b h2]
          exact inj _ _ z
        rw [this]; simpa using ha
    rw [e] at this
    exact this
  · have hno : (asksOf R).any (eqT d) = false := by
      cases q : (asksOf R).any (eqT d) with
      | false => rfl
      | true =>
        obtain ⟨w, _, z⟩ := List.any_eq_true.mp q
        have := eqT_iff.mp z
        subst this
        exact (hp (by simp [posF, isI])).elim
    unfold Pu m_is_ask_position b_is_ask_position
    rw [r_fn]
    refine ⟨rfl, ?_⟩
    simp
    refine Pu.go (has_pos_v hv) fun st1 F1 => ?_
    simp [hp]
    refine ⟨fun x hx => ?_, F1⟩
    cases q : eqT d x with
    | false => rfl
    | true => rw [List.any_eq_true.mpr ⟨x, hx, q⟩] at hno; cases hno
theorem mem_wf {R : List Row} : ∀ (n : Nat) {K : List Fram} {rs : List Row} {x : List Int × Row}, WF R K rs → x ∈ rwpX n (pref K) rs → ∃ (K' : List Fram) (rs' : List Row) (i : Nat), WF R K' rs' ∧ rs'[i]? = some x.2 ∧ x.1 = pref K' ++ [(i : Int)]
  | 0, _, _, _, _, h => by cases h
  | n + 1, K, rs, x, hW, h => by
    rw [rwpX] at h
    obtain ⟨j, r, h1, h2⟩ := rwpR_mem.mp h
    rcases h2 with h2 | h2
    · subst h2; exact ⟨K, rs, j, hW, h1, rfl⟩
    · obtain ⟨k, t, h3, h4⟩ := rwpI_mem.mp h2
      cases r with
      | br hd t1 e1 =>
        have key : ∀ s : Bool, t = (if s then t1 else e1) → (k : Int) = (if s then 0 else 1) → ∃ (K' : List Fram) (rs' : List Row) (i : Nat), WF R K' rs' ∧ rs'[i]? = some x.2 ∧ x.1 = pref K' ++ [(i : Int)] := by
          intro s e2 e3
          refine mem_wf n (K := ⟨rs, j, s⟩ :: K) (rs := t) ⟨hW, hd, t1, e1, h1, e2⟩ ?_
          have : pref (⟨rs, j, s⟩ :: K) = pref K ++ [(j : Int)] ++ [(k : Int)] := by
            show pref K ++ [(j : Int), _] = _
            rw [e3]; simp [Fram.sd]
          rw [this]; exact h4
        simp only [Row.ins] at h3
        match k, h3 with
        | 0, h3 => cases h3; exact key true rfl rfl
        | 1, h3 => cases h3; exact key false rfl rfl
      | _ => simp [Row.ins] at h3
theorem resume_ok {st : Sto} {S : PS} {o : Nat} {fl ans : List Bool} {p : Pg} {ent : Bool} {ad d : D} (h : SiteAt st o S) (hp : p ∈ S.pages) (hl : fl.length = S.bits.length) (hA : AnsAt st ad ans) (hany : (asksOf (p.rows ent)).any (eqT d) = true) :
    Runs (m_resume_guard [.loc o, .str p.name, .str (sideS ent), .tup (fl.map .bl), d, ad]) st fun _ st' => Fr [] st st' := by
  obtain ⟨w, hw, z⟩ := List.any_eq_true.mp hany
  have := eqT_iff.mp z
  subst this
  obtain ⟨x, hx, rfl⟩ := List.mem_map.mp hw
  obtain ⟨hx, ha⟩ := List.mem_filter.mp hx
  obtain ⟨K, rs, i, hW, hi, e⟩ := mem_wf 4 (K := []) (R := p.rows ent) (rs := p.rows ent) rfl hx
  obtain ⟨x1, x2⟩ := x
  cases x2 with
  | br hd t e1 =>
    cases hd with
    | none =>
      simp only at e hi
      subst e
      exact (resume_p h hp hl hA hW hi).imp fun _ _ q => q.2
    | some b => cases ha
  | _ => cases ha
theorem resume_spot {st : Sto} {S : PS} {o : Nat} {fl : List Bool} {p : Pg} {ent : Bool} {ad d : D} (h : SiteAt st o S) (hp : p ∈ S.pages) (hl : fl.length = S.bits.length) (hv : Vv st d) (hd : (asksOf (p.rows ent)).any (eqT d) = false) :
    Rz (m_resume_guard [.loc o, .str p.name, .str (sideS ent), .tup (fl.map .bl), d, ad]) st 3 "position" d := by
  obtain ⟨hR, hc⟩ := pg_rows_ok (ent := ent) h.ok hp
  unfold Rz m_resume_guard b_resume_guard
  rw [rx_fn]
  refine ⟨rfl, ?_⟩
  rw [rx_seq]
  refine Runs.x ?_
  simp
  refine Pu.go (checked_p h hp hl) fun st1 F1 => ?_
  refine Runs.x ?_
  refine Pu.go (is_ask_v hR (by omega) (hv.fr F1)) fun st2 F2 => ?_
  simp [hd]
  exact F1.trans F2
end
section
def hands : List HdE := [⟨6, some 6, (uRet (uTup (uCons (fun _ _ _ => some (.str "page")) (uCons (uFld 6 "page") (uCons (uIs 6 false) uNil)))))⟩, ⟨5, some 6, (uRet (uTup (uCons (fun _ _ _ => some (.str "side")) (uCons (uFld 5 "side") (uCons (uIs 5 false) uNil)))))⟩, ⟨2, some 6, (uRet (uTup (uCons (fun _ _ _ => some (.str "flags")) (uCons (uFld 2 "flags") (uCons (uIs 2 false) uNil)))))⟩, ⟨3, some 6, (uRet (uTup (uCons (fun _ _ _ => some (.str "spot")) (uCons (uFld 3 "position") (uCons (uNot (uIs 3 true)) uNil)))))⟩]
def callB : En → M Ctl := (sIfR (tVal (eBin opEq (eVar 1) (eC (.int 0)))) (sEx (eCallR m_run_guard (aCons (eVar 0) (aCons (eVar 2) (aCons (eVar 3) (aCons (eVar 4) (aCons (eTup (aCons (eC (.bl true)) aNil)) aNil))))))) (sIfR (tVal (eBin opEq (eVar 1) (eC (.int 1)))) (sEx (eCallR m_all_ends (aCons (eVar 0) (aCons (eVar 2) (aCons (eVar 3) (aCons (eVar 4) aNil)))))) (sIfR (tVal (eBin opEq (eVar 1) (eC (.int 2)))) (sEx (eCallR m_letting_answers (aCons (eVar 0) (aCons (eVar 2) (aCons (eVar 3) (aCons (eVar 4) aNil)))))) (sIfR (tVal (eBin opEq (eVar 1) (eC (.int 3)))) (sEx (eCallR m_lets (aCons (eVar 0) (aCons (eVar 2) (aCons (eVar 3) (aCons (eVar 4) aNil)))))) (sEx (eCallR m_resume_guard (aCons (eVar 0) (aCons (eVar 2) (aCons (eVar 3) (aCons (eVar 4) (aCons (eVar 5) (aCons (eLst (aCons (eC (.bl false)) aNil)) aNil))))))))))))
theorem callSplit : b__law_call = (sSeq (sTry exT hands callB) (sRet (eTup (aCons (eC (.str "let")) (aCons (eC .non) (aCons (eC (.bl false)) aNil)))))) := rfl
theorem hand_p {c : Nat} {n tag : Str} {d : D} {ρ : En} {st : Sto} {QC : Ctl → Sto → Prop} (h : (c, n, tag) ∈ [((6 : Nat), (Str.ofString "page"), (Str.ofString "page")), (5, Str.ofString "side", Str.ofString "side"), (2, Str.ofString "flags", Str.ofString "flags"), (3, Str.ofString "position", Str.ofString "spot")]) (hρ : ρ.length = 7) (q : QC (.rt (.tup [.str tag, d, .bl false])) st) : Runs (tryH exT hands c (some [(n, d)]) ρ) st QC := by
  have hz : (3 : Nat) ≤ sizeLine := le_line (by omega)
  simp only [List.mem_cons, Prod.mk.injEq, List.not_mem_nil, or_false] at h
  unfold hands
  rcases h with ⟨rfl, rfl, rfl⟩ | ⟨rfl, rfl, rfl⟩ | ⟨rfl, rfl, rfl⟩ | ⟨rfl, rfl, rfl⟩
  · rw [r_tryH, show exT 6 6 = some true from rfl]
    simpa [runH, hρ, uRet, uTup, uCons, uFld, uIs, uNil, uNot, List.lookup, hz] using q
  · rw [r_tryH, show exT 5 6 = some false from rfl]
    simp only []
    rw [r_tryH, show exT 5 5 = some true from rfl]
    simpa [runH, hρ, uRet, uTup, uCons, uFld, uIs, uNil, uNot, List.lookup, hz] using q
  · rw [r_tryH, show exT 2 6 = some false from rfl]
    simp only []
    rw [r_tryH, show exT 2 5 = some false from rfl]
    simp only []
    rw [r_tryH, show exT 2 2 = some true from rfl]
    simpa [runH, hρ, uRet, uTup, uCons, uFld, uIs, uNil, uNot, List.lookup, hz] using q
  · rw [r_tryH, show exT 3 6 = some false from rfl]
    simp only []
    rw [r_tryH, show exT 3 5 = some false from rfl]
    simp only []
    rw [r_tryH, show exT 3 2 = some false from rfl]
    simp only []
    rw [r_tryH, show exT 3 3 = some true from rfl]
    simpa [runH, hρ, uRet, uTup, uCons, uFld, uIs, uNil, uNot, List.lookup, hz] using q
section
variable {st : Sto} {S : PS} {o : Nat} {pg sd fl sp d : D} {c : Nat} {n tag : Str} {w : Nat}
theorem call_bad (hw : w < 5) (h : (c, n, tag) ∈ [((6 : Nat), (Str.ofString "page"), (Str.ofString "page")), (5, Str.ofString "side", Str.ofString "side"), (2, Str.ofString "flags", Str.ofString "flags"), (3, Str.ofString "position", Str.ofString "spot")])
    (hr : ∀ st', Fr [] st st' → Rz (m_checked_rows [.loc o, pg, sd, fl]) st' c n d) : Pu (m__law_call [.loc o, .int w, pg, sd, fl, sp]) st (.tup [.str tag, d, .bl false]) := by
  unfold Pu m__law_call
  rw [r_fn]
  refine ⟨rfl, ?_⟩
  rw [callSplit, r_seq, r_try]
  unfold callB
  match w, hw with
  | 0, _ =>
    simp only [rx_sifR, rx_ex, rx_callR]
    simp
    refine RunsX.impX (run_bad (hr _ .refl)) ?_
    rintro _ _ st2 ⟨rfl, rfl, F2⟩
    exact hand_p h rfl ⟨rfl, (Fr.refl).trans F2⟩
  | 1, _ =>
    simp only [rx_sifR, rx_ex, rx_callR]
    simp
    refine RunsX.impX (ends_bad (hr _ .refl)) ?_
    rintro _ _ st2 ⟨rfl, rfl, F2⟩
    exact hand_p h rfl ⟨rfl, (Fr.refl).trans F2⟩
  | 2, _ =>
    simp only [rx_sifR, rx_ex, rx_callR]
    simp
    refine RunsX.impX (letting_bad (hr _ .refl)) ?_
    rintro _ _ st2 ⟨rfl, rfl, F2⟩
    exact hand_p h rfl ⟨rfl, (Fr.refl).trans F2⟩
  | 3, _ =>
    simp only [rx_sifR, rx_ex, rx_callR]
    simp
    refine RunsX.impX (lets_bad (hr _ .refl)) ?_
    rintro _ _ st2 ⟨rfl, rfl, F2⟩
    exact hand_p h rfl ⟨rfl, (Fr.refl).trans F2⟩
  | 4, _ =>
    simp only [rx_sifR, rx_ex, rx_callR]
    simp
    refine RunsX.impX (resume_bad (hr _ .new)) ?_
    rintro _ _ st2 ⟨rfl, rfl, F2⟩
    exact hand_p h rfl ⟨rfl, (Fr.new).trans F2⟩
theorem call_spot {p : Pg} {ent : Bool} {fs : List Bool} (h : SiteAt st o S) (hp : p ∈ S.pages) (hl : fs.length = S.bits.length) (hv : Vv st sp) (hd : (asksOf (p.rows ent)).any (eqT sp) = false) : Pu (m__law_call [.loc o, .int 4, .str p.name, .str (sideS ent), .tup (fs.map .bl), sp]) st (.tup [.str "spot", sp, .bl false]) := by
  unfold Pu m__law_call
  rw [r_fn]
  refine ⟨rfl, ?_⟩
  rw [callSplit, r_seq, r_try]
  unfold callB
  simp only [rx_sifR, rx_ex, rx_callR]
  simp
  refine RunsX.impX (resume_spot (h.fr (ex := []) .new (by simp)) hp hl (hv.fr .new) hd) ?_
  rintro _ _ st2 ⟨rfl, rfl, F2⟩
  exact hand_p (n := "position") (tag := "spot") (by simp) rfl ⟨rfl, (Fr.new).trans F2⟩
theorem call_ok {p : Pg} {ent : Bool} {fs : List Bool} (hw : w < 5) (h : SiteAt st o S) (hp : p ∈ S.pages) (hl : fs.length = S.bits.length) (hd : w = 4 → (asksOf (p.rows ent)).any (eqT sp) = true) : Pu (m__law_call [.loc o, .int w, .str p.name, .str (sideS ent), .tup (fs.map .bl), sp]) st (.tup [.str "let", .non, .bl false]) := by
  unfold Pu m__law_call
  rw [r_fn]
  refine ⟨rfl, ?_⟩
  rw [callSplit, r_seq, r_try]
  unfold callB
  match w, hw with
  | 0, _ =>
    simp only [rx_sifR, rx_ex, rx_callR]
    simp
    refine Runs.x ?_
    exact Pu.go (run_guard_p h hp hl (.inl (by rfl : D.tup [D.bl true] = .tup ([true].map .bl)))).1 fun st1 F1 => F1
  | 1, _ =>
    simp only [rx_sifR, rx_ex, rx_callR]
    simp
    refine Runs.x ?_
    refine (all_ends_p (ent := ent) h hp hl).imp ?_
    rintro _ st1 ⟨L, rfl, _, _, F1⟩
    exact F1
  | 2, _ =>
    simp only [rx_sifR, rx_ex, rx_callR]
    simp
    refine Runs.x ?_
    exact Pu.go (letting_p (ent := ent) h hp hl) fun st1 F1 => F1
  | 3, _ =>
    simp only [rx_sifR, rx_ex, rx_callR]
    simp
    refine Runs.x ?_
    exact Pu.go (lets_p (ent := ent) h hp hl) fun st1 F1 => F1
  | 4, _ =>
    simp only [rx_sifR, rx_ex, rx_callR]
    simp
    refine Runs.x ?_
    refine (resume_ok (ans := [false]) (h.fr (ex := []) .new (by simp)) hp hl (.inr ⟨_, rfl, sq_lst lst_new⟩) (hd rfl)).imp ?_
    intro _ st1 F1
    exact (Fr.new).trans F1
end
end
section
def spT2 : En → M Ctl := (sSeq (sAsg (eLst (aCons (eBin opAdd (eBin opAdd (eSl (eVar 2) pNone (pSome (eVar 3))) (eTup (aCons (eVar 4) aNil))) (eSl (eVar 2) (pSome (eBin opAdd (eVar 3) (eC (.int 1)))) pNone)) (aCons (eBin opAdd (eVar 2) (eTup (aCons (eC (.int 0)) aNil))) (aCons (eBin opAdd (eVar 2) (eTup (aCons (eC (.int 0)) (aCons (eC (.int 0)) aNil)))) (aCons (eSl (eVar 2) pNone (pSome (eVar 3))) (aCons (eCall bList (aCons (eVar 2) aNil)) (aCons (eC .non) (aCons (eC (.int 0)) aNil)))))))) (gVar 5)) (sRet (eLst (aCons (eVar 2) (aCons (eVar 2) (aCons (eBin opIx (eVar 5) (eCall (fun ds => m__law_draw (ds ++ [])) (aCons (eVar 0) (aCons (eC (.int 7)) aNil)))) aNil))))))
def spT1 : En → M Ctl := (sSeq (sAsg (eCall (fun ds => m__law_draw (ds ++ [])) (aCons (eVar 0) (aCons (eCall bLen (aCons (eVar 2) aNil)) aNil))) (gVar 3)) (sSeq (sAsg (eBin opIx (eLst (aCons (eC (.int 0)) (aCons (eC (.int 1)) (aCons (eC (.int 2)) (aCons (eC (.bl true)) (aCons (eC (.bl false)) (aCons (eC .non) (aCons (eC (.str "0")) (aCons (eUn opNeg (eC (.int 1))) (aCons (eBin opPow (eC (.int 10)) (eC (.int 20))) aNil)))))))))) (eCall (fun ds => m__law_draw (ds ++ [])) (aCons (eVar 0) (aCons (eC (.int 9)) aNil)))) (gVar 4)) spT2))
theorem spSplit : b__law_spots = (sSeq (sAsg (eTup (aCons (eC (.int 0)) aNil)) (gVar 2)) (sSeq (sIf (tVal (eBin opGt (eCall bLen (aCons (eVar 1) aNil)) (eC (.int 0)))) (sAsg (eBin opIx (eVar 1) (eCall (fun ds => m__law_draw (ds ++ [])) (aCons (eVar 0) (aCons (eCall bLen (aCons (eVar 1) aNil)) aNil)))) (gVar 2)) sNx) spT1)) := rfl
theorem Vv.frx {ex : List Nat} {st st' : Sto} {d : D} (h : Vv st d) (F : Fr ex st st') (hx : ∀ i, d = .loc i → i ∉ ex) : Vv st' d := by
  rcases h with h | h | ⟨i, ds, e, h1, h2⟩
  · exact .inl h
  · exact .inr (.inl h)
  · exact .inr (.inr ⟨i, ds, e, F.seq h1 (hx i e), h2⟩)
theorem sc_int {i : Int} : Sc (.int i) := ⟨rfl, fun _ h => nomatch h⟩
theorem sc_bl {i : Bool} : Sc (.bl i) := ⟨rfl, fun _ h => nomatch h⟩
theorem sc_non : Sc .non := ⟨rfl, fun _ h => nomatch h⟩
theorem sc_str {s : Str} (h : PyData.strOk s = true) : Sc (.str s) := ⟨rfl, fun _ e => by cases e; exact h⟩
theorem pick {P : D → Prop} : ∀ {ds : List D}, (∀ d ∈ ds, P d) → ∀ {x : Int}, 0 ≤ x → x < ds.length → ∃ s, atI ds x = some s ∧ P s := by
  intro ds h x h0 h1
  obtain ⟨n, e⟩ : ∃ n : Nat, x = (n : Int) := ⟨x.toNat, by omega⟩
  subst e
  have hl : n < ds.length := by omega
  exact ⟨ds[n], atI_get (List.getElem?_eq_getElem hl), h _ (List.getElem_mem hl)⟩
def SpQ (st : Sto) (b c : Nat) (d : D) (st' : Sto) : Prop := ∃ L s0 s1, d = .loc L ∧ lstAt st' L = some [s0, s0, s1] ∧ Vv st' s0 ∧ Vv st' s1 ∧ (∀ i, s0 ≠ .loc i) ∧ (∀ i, s1 = .loc i → st.length ≤ i) ∧ st.length ≤ L ∧ Fr [b] st st' ∧ Box st' b c
theorem sp2_p {st st0 : Sto} {b c A k : Nat} {w : List Int} {x : D} {a5 : Option D} (hB : Box st b c) (hw : w.length ≤ 40) (hk : k < w.length) (hx : Sc x) (F0 : Fr [b] st0 st) (hl0 : st0.length ≤ st.length) :
    Runs (spT2 [some (.loc b), some (.loc A), some (.tup (w.map .int)), some (.int k), some x, a5]) st fun ctl st' => ∃ d, ctl = .rt d ∧ SpQ st0 b c d st' := by
  have hbl := hB.lt
  have hcl := hB.ltc
  have hsz : ∀ n : Nat, n ≤ 1000 → n ≤ sizeLine := fun n h => sz8 h
  unfold spT2
  simp [cutD_to, cutD_from2]
  refine ⟨hsz _ (by omega), hsz _ (by omega), hsz _ (by omega), hsz _ (by omega), ?_⟩
  have hin : ∀ n : Nat, ∀ y ∈ w.map D.int, Sc y := fun n y hy => by
    obtain ⟨z, _, rfl⟩ := List.mem_map.mp hy
    exact sc_int
  refine (draw_spec (hB.fr (ex := []) .apps (by simp) (by simp)) (by decide) (by decide)).imp ?_
  rintro _ st1 ⟨y, rfl, y0, y1, F1, B1⟩
  have l1 := F1.le
  simp only [List.length_append, List.length_cons, List.length_nil] at l1
  have g1 : lstAt st1 st.length = some (w.map .int) := F1.lst (lst_app (j := 0) rfl) (by simp; omega)
  have g2 := F1.lst (lst_app (j := 1) rfl : lstAt (st ++ _) (st.length + 1) = some _) (by simp; omega)
  have hv : Vv st1 (.tup (w.map .int)) := .inr (.inl ⟨_, rfl, by simp; omega, hin 0⟩)
  obtain ⟨s, e1, e2⟩ := pick (P := fun d => Vv st1 d ∧ ∀ i, d = .loc i → st.length ≤ i) (ds := [D.tup (List.take k (List.map D.int w) ++ x :: List.drop (k + 1) (List.map D.int w)),
                    D.tup (List.map D.int w ++ [D.int 0]), D.tup (List.map D.int w ++ [D.int 0, D.int 0]),
                    D.tup (List.take k (List.map D.int w)), D.loc (List.length st), D.non, D.int 0]) (by
    intro d hd
    simp only [List.mem_cons, List.not_mem_nil, or_false] at hd
    rcases hd with rfl | rfl | rfl | rfl | rfl | rfl | rfl
    · refine ⟨.inr (.inl ⟨_, rfl, by simp; omega, fun z hz => ?_⟩), fun i h => nomatch h⟩
      rcases List.mem_append.mp hz with hz | hz
      · exact hin 0 _ (List.mem_of_mem_take hz)
      · rcases List.mem_cons.mp hz with rfl | hz
        · exact hx
        · exact hin 0 _ (List.mem_of_mem_drop hz)
    · refine ⟨.inr (.inl ⟨_, rfl, by simp; omega, fun z hz => ?_⟩), fun i h => nomatch h⟩
      rcases List.mem_append.mp hz with hz | hz
      · exact hin 0 _ hz
      · rw [List.mem_singleton.mp hz]; exact sc_int
    · refine ⟨.inr (.inl ⟨_, rfl, by simp; omega, fun z hz => ?_⟩), fun i h => nomatch h⟩
      rcases List.mem_append.mp hz with hz | hz
      · exact hin 0 _ hz
      · simp only [List.mem_cons, List.not_mem_nil, or_false, or_self] at hz
        rw [hz]; exact sc_int
    · exact ⟨.inr (.inl ⟨_, rfl, by simp; omega, fun z hz => hin 0 _ (List.mem_of_mem_take hz)⟩), fun i h => nomatch h⟩
    · exact ⟨.inr (.inr ⟨_, _, rfl, sq_lst g1, by simp; omega, hin 0⟩), fun i h => by cases h; exact Nat.le_refl _⟩
    · exact ⟨.inl sc_non, fun i h => nomatch h⟩
    · exact ⟨.inl sc_int, fun i h => nomatch h⟩) y0 (by simpa using y1)
  simp [sq_lst g2, e1]
  refine ⟨_, _, _, rfl, lst_new, hv.fr .new, e2.1.fr .new, (fun i h => nomatch h), fun i h => Nat.le_trans hl0 (e2.2 i h), by omega, ?_, B1.app⟩
  exact ((F0.trans .apps).trans F1).trans .new
theorem spots_p {st : Sto} {b c A : Nat} {As : List (List Int)} (hB : Box st b c) (hA : lstAt st A = some (As.map fun w => .tup (w.map .int))) (hn : As.length ≤ 500) (hw : ∀ w ∈ As, 0 < w.length ∧ w.length ≤ 40) (hAb : A ≠ b) : Runs (m__law_spots [.loc b, .loc A]) st (SpQ st b c) := by
  have hbl := hB.lt
  have hcl := hB.ltc
  unfold m__law_spots
  rw [r_fn, spSplit]
  refine ⟨rfl, ?_⟩
  have rest : ∀ (w : List Int) st1 a3 a4 a5, 0 < w.length → w.length ≤ 40 → Fr [b] st st1 → Box st1 b c → Runs (spT1 [some (.loc b), some (.loc A), some (.tup (w.map .int)), a3, a4, a5]) st1 fun ctl st' => ∃ d, ctl = .rt d ∧ SpQ st b c d st' := by
    intro w st1 a3 a4 a5 w0 w1 F1 B1
    unfold spT1
    simp
    refine (draw_spec B1 (by omega) (by omega)).imp ?_
    rintro _ st2 ⟨k, rfl, k0, k1, F2, B2⟩
    obtain ⟨k, rfl⟩ : ∃ n : Nat, k = (n : Int) := ⟨k.toNat, by omega⟩
    refine (draw_spec (B2.app) (by decide) (by decide)).imp ?_
    rintro _ st3 ⟨y, rfl, y0, y1, F3, B3⟩
    have b2 := B2.lt
    have g2 := F3.lst lst_new (by simp; omega)
    obtain ⟨s, e1, e2⟩ := pick (P := Sc) (ds := [.int 0, .int 1, .int 2, .bl true, .bl false, .non, .str "0", .int (-1), .int 100000000000000000000]) (by
      intro d hd
      simp only [List.mem_cons, List.not_mem_nil, or_false] at hd
      rcases hd with rfl | rfl | rfl | rfl | rfl | rfl | rfl | rfl | rfl <;> first | exact sc_int | exact sc_bl | exact sc_non | exact sc_str (by decide +kernel)) y0 (by simpa using y1)
    simp [sq_lst g2, e1]
    exact sp2_p B3 w1 (by omega) e2 ((F1.trans F2).trans ((Fr.new).trans F3)) (((F1.trans F2).trans ((Fr.new).trans F3)).le)
  simp
  by_cases h0 : As.length = 0
  · have e : As = [] := List.eq_nil_of_length_eq_zero h0
    subst e
    refine ⟨_, sq_lst hA, ?_⟩
    simp
    refine (rest [0] st _ _ _ (by simp) (by simp) .refl hB).imp ?_
    rintro _ st' ⟨d, rfl, q⟩
    exact q
  · refine ⟨_, sq_lst hA, ?_⟩
    have h0' : 0 < As.length := by omega
    simp [h0']
    refine ⟨_, sq_lst hA, ?_⟩
    refine (draw_spec hB (by simp; omega) (by simp; omega)).imp ?_
    rintro _ st2 ⟨k, rfl, k0, k1, F2, B2⟩
    obtain ⟨k, rfl⟩ : ∃ n : Nat, k = (n : Int) := ⟨k.toNat, by omega⟩
    have hk : k < As.length := by simp at k1; omega
    have hA2 := F2.lst hA (by simp; omega)
    simp [sq_lst hA2, atI_nat hk]
    refine (rest As[k] st2 _ _ _ (hw _ (List.getElem_mem hk)).1 (hw _ (List.getElem_mem hk)).2 F2 B2).imp ?_
    rintro _ st' ⟨d, rfl, q⟩
    exact q
end
section
def dueI : En → M Ctl := (sIf (tVal (eBin opEq (eBin opIx (eVar 2) (eC (.int 0))) (eC (.int 2)))) (sAsg (eTup (aCons (eC (.str "page")) (aCons (eVar 13) (aCons (eC (.bl false)) aNil)))) (gVar 17)) (sIf (tVal (eBin opEq (eBin opIx (eVar 2) (eC (.int 1))) (eC (.int 2)))) (sAsg (eTup (aCons (eC (.str "side")) (aCons (eVar 8) (aCons (eC (.bl false)) aNil)))) (gVar 17)) (sIf (tNotD (tVal (eCall (fun ds => m__law_all_flags (ds ++ [])) (aCons (eVar 11) (aCons (eCall bLen (aCons (eBin opIx (eVar 4) (eC (.int 0))) aNil)) aNil))))) (sAsg (eTup (aCons (eC (.str "flags")) (aCons (eVar 11) (aCons (eC (.bl false)) aNil)))) (gVar 17)) (sIf (tAndD (tVal (eBin opEq (eVar 12) (eC (.int 4)))) (tNotD (tVal (eCall bAny (aCons (eLc [20] (itSeq (eVar 9)) (gIt 20) tYesD (eCall (fun ds => (m__law_same 8) (ds ++ [])) (aCons (eVar 10) (aCons (eVar 20) aNil)))) aNil))))) (sAsg (eTup (aCons (eC (.str "spot")) (aCons (eVar 10) (aCons (eC (.bl false)) aNil)))) (gVar 17)) sNx))))
def dueC : En → M Ctl := (sIf (tNotD (tVal (eCall (fun ds => (m__law_same 8) (ds ++ [])) (aCons (eCall (fun ds => m__law_call (ds ++ [])) (aCons (eVar 5) (aCons (eVar 12) (aCons (eVar 13) (aCons (eVar 8) (aCons (eVar 11) (aCons (eVar 10) aNil))))))) (aCons (eVar 17) aNil))))) (sRet (eC (.bl false))) sNx)
def lawB : En → M Ctl := (sSeq (sAsg (eTup (aCons (eC (.str "let")) (aCons (eC .non) (aCons (eC (.bl false)) aNil)))) (gVar 17)) (sSeq dueI dueC))
def lawT3 : En → M Ctl := (sSeq (sFor (itSeq (eTup (aCons (eC (.int 4)) (aCons (eC (.int 0)) (aCons (eC (.int 1)) (aCons (eC (.int 2)) (aCons (eC (.int 3)) (aCons (eC (.int 4)) aNil)))))))) (gIt 12) lawB) (sRet (eC (.bl true))))
def lawS : En → M Ctl := (sIf (tVal (eBin opEq (eBin opIx (eVar 2) (eC (.int 1))) (eC (.int 2)))) (sAsg (eBin opIx (eLst (aCons (eC (.str "")) (aCons (eC (.str "Enter")) (aCons (eC .non) (aCons (eC (.int 0)) (aCons (eLst (aCons (eC (.str "leave")) aNil)) (aCons (eC (.str "loads")) aNil))))))) (eBin opIx (eVar 3) (eC (.int 1)))) (gVar 8)) sNx)
def lawN : En → M Ctl := (sIf (tVal (eBin opEq (eBin opIx (eVar 2) (eC (.int 0))) (eC (.int 2)))) (sAsg (eBin opIx (eLst (aCons (eBin opAdd (eVar 13) (eC (.str "aaaaaaaa"))) (aCons (eC (.str "")) (aCons (eC .non) (aCons (eC (.int 0)) (aCons (eLst (aCons (eVar 13) aNil)) (aCons (eBin opAdd (eSl (eVar 13) pNone (pSome (eC (.int 1)))) (eC (.str "A"))) aNil))))))) (eBin opIx (eVar 3) (eC (.int 0)))) (gVar 13)) sNx)
def lawF : En → M Ctl := (sIf (tVal (eBin opEq (eBin opIx (eVar 2) (eC (.int 2))) (eC (.int 2)))) (sSeq (sAsg (eSl (eVar 11) pNone (pSome (eBin opSub (eCall bLen (aCons (eVar 11) aNil)) (eC (.int 1))))) (gVar 15)) (sSeq (sAsg (eLst (aCons (eBin opAdd (eVar 11) (eTup (aCons (eC (.bl true)) aNil))) (aCons (eCall bList (aCons (eVar 11) aNil)) (aCons (eC .non) (aCons (eVar 15) (aCons (eBin opMulX (eTup (aCons (eC (.int 0)) aNil)) (eCall bLen (aCons (eVar 11) aNil))) (aCons (eBin opAdd (eTup (aCons (eC .non) aNil)) (eSl (eVar 11) (pSome (eC (.int 1))) pNone)) aNil))))))) (gVar 16)) (sAsg (eBin opIx (eVar 16) (eBin opIx (eVar 3) (eC (.int 2)))) (gVar 11)))) sNx)
def lawT2 : En → M Ctl := (sSeq (sAsg (eCall bTuple (aCons (eLc [19] (itSeq (eBin opIx (eVar 4) (eC (.int 0)))) (gIt 19) tYesD (eBin opEq (eCall (fun ds => m__law_draw (ds ++ [])) (aCons (eVar 1) (aCons (eC (.int 2)) aNil))) (eC (.int 1)))) aNil)) (gVar 11)) (sSeq lawF (sSeq lawN (sSeq lawS lawT3))))
def lawT1 : En → M Ctl := (sSeq (sAsg (eCall (fun ds => m__law_draw (ds ++ [])) (aCons (eVar 1) (aCons (eCall bLen (aCons (eBin opIx (eVar 4) (eC (.int 1))) aNil)) aNil))) (gVar 6)) (sSeq (sAsg (eCall (fun ds => m__law_draw (ds ++ [])) (aCons (eVar 1) (aCons (eC (.int 2)) aNil))) (gVar 7)) (sSeq (sAsg (eBin opIx (eBin opIx (eVar 4) (eC (.int 1))) (eVar 6)) (gTupD 2 (gConsD (gVar 13) (gConsD (gVar 14) gNilD)))) (sSeq (sAsg (eBin opIx (eLst (aCons (eC (.str "enter")) (aCons (eC (.str "leave")) aNil))) (eVar 7)) (gVar 8)) (sSeq (sAsg (eCall (fun ds => (m__law_asks 5) (ds ++ [])) (aCons (eBin opIx (eVar 14) (eVar 7)) (aCons (eTup aNil) aNil))) (gVar 9)) (sSeq (sAsg (eBin opIx (eCall (fun ds => m__law_spots (ds ++ [])) (aCons (eVar 1) (aCons (eVar 9) aNil))) (eBin opIx (eVar 2) (eC (.int 3)))) (gVar 10)) lawT2))))))
theorem lawSplit : b_law = (sSeq (sAsg (eCall (fun ds => m__law_box (ds ++ [])) (aCons (eVar 0) aNil)) (gVar 1)) (sSeq (sAsg (eLc [18] (itRange (eC (.int 4))) (gIt 18) tYesD (eCall (fun ds => m__law_draw (ds ++ [])) (aCons (eVar 1) (aCons (eC (.int 3)) aNil)))) (gVar 2)) (sSeq (sAsg (eLc [18] (itRange (eC (.int 3))) (gIt 18) tYesD (eCall (fun ds => m__law_draw (ds ++ [])) (aCons (eVar 1) (aCons (eC (.int 6)) aNil)))) (gVar 3)) (sSeq (sAsg (eCall (fun ds => m__law_parts (ds ++ [])) (aCons (eVar 1) aNil)) (gVar 4)) (sSeq (sAsg (eMakeK 0 3 1 gSite m_Site___init__ (aCons (eBin opIx (eVar 4) (eC (.int 0))) (aCons (eBin opIx (eVar 4) (eC (.int 1))) (aCons (eBin opIx (eVar 4) (eC (.int 2))) aNil))) (aCons (eBin opIx (eVar 4) (eC (.int 3))) aNil)) (gVar 5)) lawT1))))) := rfl
theorem flag_tup {st : Sto} {d : D} {n : Nat} (hv : Vv st d) (h : flagF n d = true) : ∃ fs : List Bool, d = .tup (fs.map .bl) ∧ fs.length = n := by
  cases d with
  | tup ds =>
    unfold flagF at h
    rw [Bool.and_eq_true] at h
    obtain ⟨h1, h2⟩ := h
    have h1 := of_decide_eq_true h1
    have : ∀ ds : List D, ds.all isB = true → ∃ fs : List Bool, ds = fs.map .bl := by
      intro ds
      induction ds with
      | nil => intro _; exact ⟨[], rfl⟩
      | cons x ds ih =>
        intro z
        rw [List.all_cons, Bool.and_eq_true] at z
        obtain ⟨v, rfl⟩ := ih z.2
        cases x with
        | bl i => exact ⟨i :: v, rfl⟩
        | _ => cases z.1
    obtain ⟨fs, rfl⟩ := this ds h2
    exact ⟨fs, rfl, by simpa using h1⟩
  | _ => cases h
theorem asks_len {S : PS} {p : Pg} {ent : Bool} (h : S.OK) (hp : p ∈ S.pages) : (∀ w ∈ asksOf (p.rows ent), 0 < w.length ∧ w.length ≤ 40) ∧ (asksOf (p.rows ent)).length ≤ 8 := by
  obtain ⟨hR, hc⟩ := pg_rows_ok (ent := ent) h hp
  constructor
  · intro w hw
    obtain ⟨x, hx, rfl⟩ := List.mem_map.mp hw
    obtain ⟨hx, _⟩ := List.mem_filter.mp hx
    obtain ⟨K, rs, i, hW, hi, e⟩ := mem_wf 4 (K := []) (R := p.rows ent) (rs := p.rows ent) rfl hx
    obtain ⟨hK3, _⟩ := wf_ok hR hW
    rw [e, List.length_append, pref_len]
    simp; omega
  · have := rwpX_len 4 [] (p.rows ent)
    unfold asksOf
    rw [List.length_map]
    refine Nat.le_trans (List.length_filter_le _ _) ?_
    omega
theorem any_range {α : Type} {ds : List α} {f : α → Bool} {g : Nat → Bool} (h : ∀ k (hk : k < ds.length), g k = f ds[k]) : ((List.range ds.length).map g).any _root_.id = ds.any f := by
  rw [List.any_map, Bool.eq_iff_iff, List.any_eq_true, List.any_eq_true]
  constructor
  · rintro ⟨k, hk, z⟩
    have hk := List.mem_range.mp hk
    exact ⟨ds[k], List.getElem_mem hk, by rw [← h k hk]; exact z⟩
  · rintro ⟨x, hx, z⟩
    obtain ⟨k, hk, rfl⟩ := List.getElem_of_mem hx
    exact ⟨k, List.mem_range.mpr hk, by show g k = true; rw [h k hk]; exact z⟩
section
variable {st : Sto} {S : PS} {p : Pg} {ent : Bool} {o b Kl Ml A : Nat} {k0 k1 k2 k3 : Int} {pg sd fl sp ptD pgD at_ hf : D}
structure LSt (st : Sto) (S : PS) (p : Pg) (ent : Bool) (o Kl A : Nat) (k0 k1 k2 k3 : Int) (pg sd fl sp : D) : Prop where
  kd : lstAt st Kl = some [.int k0, .int k1, .int k2, .int k3]
  si : SiteAt st o S
  pp : p ∈ S.pages
  as : lstAt st A = some ((asksOf (p.rows ent)).map fun w => .tup (w.map .int))
  vp : Vv st pg
  vs : Vv st sd
  vf : Vv st fl
  vt : Vv st sp
  n2 : k0 = 2 → ∀ q ∈ S.names, isS q pg = false
  n0 : k0 ≠ 2 → pg = .str p.name
  s2 : k1 = 2 → isS "enter" sd = false ∧ isS "leave" sd = false
  s0 : k1 ≠ 2 → sd = .str (sideS ent)
theorem LSt.fr {st' : Sto} (h : LSt st S p ent o Kl A k0 k1 k2 k3 pg sd fl sp) (F : Fr [] st st') : LSt st' S p ent o Kl A k0 k1 k2 k3 pg sd fl sp :=
  ⟨F.lst h.kd (by simp), h.si.fr F (by simp), h.pp, F.lst h.as (by simp), h.vp.fr F, h.vs.fr F, h.vf.fr F, h.vt.fr F, h.n2, h.n0, h.s2, h.s0⟩
def envL (b Kl Ml A o : Nat) (ptD at_ hf sd sp fl pg pgD : D) (a12 a15 a16 a17 a18 a19 a20 : Option D) : En := [some (.loc 0), some (.loc b), some (.loc Kl), some (.loc Ml), some ptD, some (.loc o), some at_, some hf, some sd, some (.loc A), some sp, some fl, a12, some pg, some pgD, a15, a16, a17, a18, a19, a20]
theorem dueC_p {w : Nat} {due : D} {a15 a16 a18 a19 a20 : Option D} {QC : Ctl → Sto → Prop} (hc : Pu (m__law_call [.loc o, .int w, pg, sd, fl, sp]) st due) (hs : ∀ st', Fr [] st st' → SameD st' 8 due due) (q : ∀ st', Fr [] st st' → QC (.nx (envL b Kl Ml A o ptD at_ hf sd sp fl pg pgD (some (.int w)) a15 a16 (some due) a18 a19 a20)) st') :
    Runs (dueC (envL b Kl Ml A o ptD at_ hf sd sp fl pg pgD (some (.int w)) a15 a16 (some due) a18 a19 a20)) st QC := by
  unfold dueC envL
  simp
  refine Pu.go hc fun st1 F1 => ?_
  refine Pu.go (same_p (hs st1 F1)) fun st2 F2 => ?_
  simp
  exact q _ (F1.trans F2)
theorem same_due {tag : Str} {d : D} (ht : PyData.strOk tag = true) (hv : Vv st d) : SameD st 8 (.tup [.str tag, d, .bl false]) (.tup [.str tag, d, .bl false]) := by
  unfold SameD
  refine ⟨rfl, by simp, fun k x y h1 h2 => ?_⟩
  have e : x = y := Option.some.inj (h1.symm.trans h2)
  subst e
  match k, h1 with
  | 0, h1 => cases h1; exact (sc_str ht).plain.same
  | 1, h1 => cases h1; exact hv.same
  | 2, h1 => cases h1; exact (sc_bl).plain.same
theorem body_p {w : Nat} {a15 a16 a17 a18 a19 a20 : Option D} {QC : Ctl → Sto → Prop} (h : LSt st S p ent o Kl A k0 k1 k2 k3 pg sd fl sp) (hw : w < 5) (hpt : ∃ x y z, ptD = .tup [bitsD S, x, y, z])
    (q : ∀ st' a17 a20, Fr [] st st' → QC (.nx (envL b Kl Ml A o ptD at_ hf sd sp fl pg pgD (some (.int w)) a15 a16 a17 a18 a19 a20)) st') :
    Runs (lawB (envL b Kl Ml A o ptD at_ hf sd sp fl pg pgD (some (.int w)) a15 a16 a17 a18 a19 a20)) st QC := by
  obtain ⟨x, y, z, rfl⟩ := hpt
  unfold lawB
  rw [r_seq]
  have e1 : Runs (sAsg (eTup (aCons (eC (.str "let")) (aCons (eC .non) (aCons (eC (.bl false)) aNil)))) (gVar 17) (envL b Kl Ml A o (.tup [bitsD S, x, y, z]) at_ hf sd sp fl pg pgD (some (.int w)) a15 a16 a17 a18 a19 a20)) st fun c st1 => c = .nx (envL b Kl Ml A o (.tup [bitsD S, x, y, z]) at_ hf sd sp fl pg pgD (some (.int w)) a15 a16 (some (.tup [.str "let", .non, .bl false])) a18 a19 a20) ∧ st = st1 := by
    unfold envL; simp
  refine e1.imp ?_
  rintro _ _ ⟨rfl, rfl⟩
  simp only []
  rw [r_seq]
  have hkd := h.kd
  have fin : ∀ (due : D) st1 a20, Fr [] st st1 → Pu (m__law_call [.loc o, .int w, pg, sd, fl, sp]) st1 due → (∀ st', Fr [] st1 st' → SameD st' 8 due due) → Runs (dueC (envL b Kl Ml A o (.tup [bitsD S, x, y, z]) at_ hf sd sp fl pg pgD (some (.int w)) a15 a16 (some due) a18 a19 a20)) st1 QC := fun due st1 a20 F1 hc hs => dueC_p hc hs fun st' F2 => q _ _ _ (F1.trans F2)
  unfold dueI
  by_cases c0 : k0 = 2
  · subst c0
    rw [show (envL b Kl Ml A o (.tup [bitsD S, x, y, z]) at_ hf sd sp fl pg pgD (some (.int w)) a15 a16 (some (.tup [.str "let", .non, .bl false])) a18 a19 a20) = [some (.loc 0), some (.loc b), some (.loc Kl), some (.loc Ml), some (.tup [bitsD S, x, y, z]), some (.loc o), some at_, some hf, some sd, some (.loc A), some sp, some fl, some (.int w), some pg, some pgD, a15, a16, some (.tup [.str "let", .non, .bl false]), a18, a19, a20] from rfl]
    simp [sq_lst hkd]
    refine fin (.tup [.str "page", pg, .bl false]) _ _ .refl (call_bad hw (c := 6) (n := "page") (by simp) fun st' F => checked_bad (h.si.fr F (by simp)) (guard_bad_page (h.si.fr F (by simp)) (h.vp.fr F) (h.n2 rfl))) fun st' F => same_due (by decide +kernel) (h.vp.fr F)
  · have epg := h.n0 c0
    by_cases c1 : k1 = 2
    · subst c1
      rw [show (envL b Kl Ml A o (.tup [bitsD S, x, y, z]) at_ hf sd sp fl pg pgD (some (.int w)) a15 a16 (some (.tup [.str "let", .non, .bl false])) a18 a19 a20) = [some (.loc 0), some (.loc b), some (.loc Kl), some (.loc Ml), some (.tup [bitsD S, x, y, z]), some (.loc o), some at_, some hf, some sd, some (.loc A), some sp, some fl, some (.int w), some pg, some pgD, a15, a16, some (.tup [.str "let", .non, .bl false]), a18, a19, a20] from rfl]
      simp [sq_lst hkd, c0]
      refine fin (.tup [.str "side", sd, .bl false]) _ _ .refl (call_bad hw (c := 5) (n := "side") (by simp) fun st' F => ?_) fun st' F => same_due (by decide +kernel) (h.vs.fr F)
      rw [epg]
      exact checked_bad (h.si.fr F (by simp)) (guard_bad_side (h.si.fr F (by simp)) h.pp (h.vs.fr F) (h.s2 rfl).1 (h.s2 rfl).2)
    · have esd := h.s0 c1
      rw [show (envL b Kl Ml A o (.tup [bitsD S, x, y, z]) at_ hf sd sp fl pg pgD (some (.int w)) a15 a16 (some (.tup [.str "let", .non, .bl false])) a18 a19 a20) = [some (.loc 0), some (.loc b), some (.loc Kl), some (.loc Ml), some (.tup [bitsD S, x, y, z]), some (.loc o), some at_, some hf, some sd, some (.loc A), some sp, some fl, some (.int w), some pg, some pgD, a15, a16, some (.tup [.str "let", .non, .bl false]), a18, a19, a20] from rfl]
      have hlb : ∀ st' Q, Runs (bLen [bitsD S]) st' Q ↔ Q (.int S.bits.length) st' := by intro st' Q; show Runs (bLen [.tup (S.bits.map .str)]) st' Q ↔ _; simp
      simp [sq_lst hkd, c0, c1, hlb]
      refine Pu.go (all_flags_v h.vf) fun st1 F1 => ?_
      by_cases c2 : flagF S.bits.length fl = true
      · obtain ⟨fs, efl, hfs⟩ := flag_tup h.vf c2
        simp [c2]
        have h1 := h.fr F1
        by_cases c3 : w = 4
        · subst c3
          simp [sq_lst h1.as, -List.map_map]
          obtain ⟨hal, hal8⟩ := asks_len (ent := ent) h.si.ok h.pp
          refine lc_bl (f := fun k => eqT sp ((asksOf (p.rows ent)).getD k [])) (by simp; omega) (fun st' F => by simp [F.seq (sq_lst h1.as) (by simp)]) ?_ ?_
          · intro k it hk st' F
            obtain ⟨hk', rfl⟩ := map_item (f := fun w : List Int => D.tup (w.map .int)) hk
            simp [wipeD]
            refine Pu.go (same_pos (h1.vt.fr F) (by have := (hal _ (List.getElem_mem hk')).2; omega)) fun st3 F3 => ⟨?_, F3⟩
            rw [List.getElem?_eq_getElem hk']; rfl
          · intro st2 F2 hL
            have ea : ((List.range (((asksOf (p.rows ent)).map fun w => D.tup (w.map .int)).map Item.one).length).map fun k => eqT sp ((asksOf (p.rows ent)).getD k [])).any _root_.id = (asksOf (p.rows ent)).any (eqT sp) := by
              rw [List.length_map, List.length_map]
              exact any_range fun k hk => by simp [hk]
            refine ⟨_, by rw [sq_lst hL]; exact blsOf_map _, ?_⟩
            have F12 := F1.trans F2
            by_cases c4 : (asksOf (p.rows ent)).any (eqT sp) = true
            · rw [c4] at ea
              rw [if_pos (by simpa [List.any_eq_true] using ea)]
              refine fin (.tup [.str "let", .non, .bl false]) _ _ F12 ?_ fun st' F => same_due (by decide +kernel) (.inl sc_non)
              rw [epg, esd, efl]
              exact call_ok hw (h.si.fr F12 (by simp)) h.pp hfs fun _ => c4
            · rw [if_neg (by rw [← ea] at c4; simpa [List.any_eq_true] using c4)]
              refine fin (.tup [.str "spot", sp, .bl false]) _ _ F12 ?_ fun st' F => same_due (by decide +kernel) ((h.vt.fr F12).fr F)
              rw [epg, esd, efl]
              exact call_spot (h.si.fr F12 (by simp)) h.pp hfs (h.vt.fr F12) (by simpa using c4)
        · have c3' : ¬ (w : Int) = 4 := by omega
          simp [c3']
          refine fin (.tup [.str "let", .non, .bl false]) _ _ F1 ?_ fun st' F => same_due (by decide +kernel) (.inl sc_non)
          rw [epg, esd, efl]
          exact call_ok hw (h.si.fr F1 (by simp)) h.pp hfs fun z => absurd z c3
      · simp [c2]
        refine fin (.tup [.str "flags", fl, .bl false]) _ _ F1 (call_bad hw (c := 2) (n := "flags") (by simp) fun st' F => ?_) fun st' F => same_due (by decide +kernel) ((h.vf.fr F1).fr F)
        rw [epg, esd]
        have F1' := F1.trans F
        exact checked_bad_flags (h.si.fr F1' (by simp)) h.pp (h.vf.fr F1') (by simpa using c2)
end
end
section
section
variable {st : Sto} {S : PS} {p : Pg} {ent : Bool} {o b Kl Ml A : Nat} {k0 k1 k2 k3 m0 m1 m2 : Int} {pg sd fl sp ptD pgD at_ hf : D} {a12 a15 a16 a17 a18 a19 a20 : Option D}
theorem loop_p (h : LSt st S p ent o Kl A k0 k1 k2 k3 pg sd fl sp) (hpt : ∃ x y z, ptD = .tup [bitsD S, x, y, z]) : Runs (lawT3 (envL b Kl Ml A o ptD at_ hf sd sp fl pg pgD a12 a15 a16 a17 a18 a19 a20)) st fun c _ => c = .rt (.bl true) := by
  unfold lawT3
  rw [r_seq]
  have e0 : envL b Kl Ml A o ptD at_ hf sd sp fl pg pgD a12 a15 a16 a17 a18 a19 a20 = [some (.loc 0), some (.loc b), some (.loc Kl), some (.loc Ml), some ptD, some (.loc o), some at_, some hf, some sd, some (.loc A), some sp, some fl, a12, some pg, some pgD, a15, a16, a17, a18, a19, a20] := rfl
  rw [e0]
  simp
  refine runs_forL (items := ([.int 4, .int 0, .int 1, .int 2, .int 3, .int 4] : List D).map Item.one) (fun i ρ st' => (∃ a12 a17 a20, ρ = envL b Kl Ml A o ptD at_ hf sd sp fl pg pgD a12 a15 a16 a17 a18 a19 a20) ∧ Fr [] st st') ⟨⟨_, _, _, rfl⟩, .refl⟩ ?_ ?_
  · rintro i it ρ st1 hi ⟨⟨a12, a17, a20, rfl⟩, F1⟩
    obtain ⟨hk, rfl⟩ := tup_item hi
    refine ⟨rfl, ?_⟩
    have key : ∀ w : Nat, w < 5 → Runs (gIt 12 (.one (.int w)) (envL b Kl Ml A o ptD at_ hf sd sp fl pg pgD a12 a15 a16 a17 a18 a19 a20)) st1 fun ρ1 st1 => Runs (lawB ρ1) st1 fun c st2 => match c with
        | .nx ρ2 => (∃ a12 a17 a20, ρ2 = envL b Kl Ml A o ptD at_ hf sd sp fl pg pgD a12 a15 a16 a17 a18 a19 a20) ∧ Fr [] st st2
        | .ct ρ2 => (∃ a12 a17 a20, ρ2 = envL b Kl Ml A o ptD at_ hf sd sp fl pg pgD a12 a15 a16 a17 a18 a19 a20) ∧ Fr [] st st2
        | .bk ρ2 => Runs (sRet (eC (.bl true)) ρ2) st2 fun c _ => c = .rt (.bl true)
        | .rt d => d = .bl true := by
      intro w hw
      rw [r_git]
      exact body_p (a17 := a17) (a20 := a20) (h.fr F1) hw hpt fun st2 a17 a20 F2 => ⟨⟨_, _, _, rfl⟩, F1.trans F2⟩
    have hw : ∃ w : Nat, w < 5 ∧ ([.int 4, .int 0, .int 1, .int 2, .int 3, .int 4] : List D)[i] = .int w := by
      match i, hk with
      | 0, _ => exact ⟨4, by omega, rfl⟩
      | 1, _ => exact ⟨0, by omega, rfl⟩
      | 2, _ => exact ⟨1, by omega, rfl⟩
      | 3, _ => exact ⟨2, by omega, rfl⟩
      | 4, _ => exact ⟨3, by omega, rfl⟩
      | 5, _ => exact ⟨4, by omega, rfl⟩
    obtain ⟨w, hw, e⟩ := hw
    rw [e]
    refine (key w hw).imp fun ρ1 st2 z => z.imp fun c st3 q => ?_
    cases c <;> simpa using q
  · rintro ρ st1 ⟨⟨a12, a17, a20, rfl⟩, F1⟩
    exact ⟨rfl, by simp⟩
theorem isS_ne {q s : Str} (h : q ≠ s) : isS q (.str s) = false := by unfold isS; simpa using h
theorem lawS_p {QC : Ctl → Sto → Prop} (hk : lstAt st Kl = some [.int k0, .int k1, .int k2, .int k3]) (hm : lstAt st Ml = some [.int m0, .int m1, .int m2]) (h0 : 0 ≤ m1) (h1 : m1 < 6)
    (q : ∀ st' sd', Fr [] st st' → Vv st' sd' → (k1 = 2 → isS "enter" sd' = false ∧ isS "leave" sd' = false) → (k1 ≠ 2 → sd' = .str (sideS ent)) → QC (.nx (envL b Kl Ml A o ptD at_ hf sd' sp fl pg pgD a12 a15 a16 a17 a18 a19 a20)) st') :
    Runs (lawS (envL b Kl Ml A o ptD at_ hf (.str (sideS ent)) sp fl pg pgD a12 a15 a16 a17 a18 a19 a20)) st QC := by
  rw [show envL b Kl Ml A o ptD at_ hf (.str (sideS ent)) sp fl pg pgD a12 a15 a16 a17 a18 a19 a20 = [some (.loc 0), some (.loc b), some (.loc Kl), some (.loc Ml), some ptD, some (.loc o), some at_, some hf, some (.str (sideS ent)), some (.loc A), some sp, some fl, a12, some pg, some pgD, a15, a16, a17, a18, a19, a20] from rfl]
  unfold lawS
  by_cases c : k1 = 2
  · subst c
    have l1 := lst_lt hm
    simp [sq_lst hk]
    obtain ⟨s, e1, e2, e3, e4⟩ := pick (P := fun d => Vv (st ++ [SO.lst [D.str "leave"], .lst [.str "", .str "Enter", .non, .int 0, .loc st.length, .str "loads"]]) d ∧ isS "enter" d = false ∧ isS "leave" d = false) (ds := [.str "", .str "Enter", .non, .int 0, .loc st.length, .str "loads"]) (by
      intro d hd
      simp only [List.mem_cons, List.not_mem_nil, or_false] at hd
      rcases hd with rfl | rfl | rfl | rfl | rfl | rfl
      · exact ⟨.inl (sc_str (by decide +kernel)), isS_ne (by decide +kernel), isS_ne (by decide +kernel)⟩
      · exact ⟨.inl (sc_str (by decide +kernel)), isS_ne (by decide +kernel), isS_ne (by decide +kernel)⟩
      · exact ⟨.inl sc_non, rfl, rfl⟩
      · exact ⟨.inl sc_int, rfl, rfl⟩
      · exact ⟨.inr (.inr ⟨_, _, rfl, sq_lst (lst_app (j := 0) rfl), by simp, fun x hx => by rw [List.mem_singleton.mp hx]; exact sc_str (by decide +kernel)⟩), rfl, rfl⟩
      · exact ⟨.inl (sc_str (by decide +kernel)), isS_ne (by decide +kernel), isS_ne (by decide +kernel)⟩) h0 (by simpa using h1)
    have F : Fr [] st (st ++ [SO.lst [D.str "leave"], .lst [.str "", .str "Enter", .non, .int 0, .loc st.length, .str "loads"]]) := .apps
    have g := F.lst hm (by simp)
    have g2 := (lst_app (st := st) (j := 1) (os := [SO.lst [D.str "leave"], .lst [.str "", .str "Enter", .non, .int 0, .loc st.length, .str "loads"]]) rfl)
    simp [sq_lst g, sq_lst g2, e1]
    exact q _ _ F e2 (fun _ => ⟨e3, e4⟩) fun z => absurd rfl z
  · simp [sq_lst hk, c]
    exact q _ _ .refl (.inl (sc_str (by cases ent <;> decide +kernel))) (fun z => absurd z c) fun _ => rfl
theorem cps_sub {w : Str} {lo hi : Option Int} : (∀ c ∈ (cutS w lo hi).cps.toList, c ∈ w.cps.toList) ∧ (cutS w lo hi).length ≤ w.length := by
  have e : (cutS w lo hi).cps.toList = (w.cps.toList.drop (HT.sIx w.length 0 lo)).take (HT.sIx w.length w.length hi - HT.sIx w.length 0 lo) := by unfold cutS; simp
  constructor
  · intro c hc
    rw [e] at hc
    exact List.mem_of_mem_drop (List.mem_of_mem_take hc)
  · show (cutS w lo hi).cps.toList.length ≤ w.cps.toList.length
    rw [e]; simp; omega
theorem sok_app {a b : Str} (ha : PyData.strOk a = true) (hb : PyData.strOk b = true) : PyData.strOk (a ++ b) = true := by
  unfold PyData.strOk at *
  rw [← Array.all_toList] at *
  rw [app_cps, List.all_append, ha, hb]; rfl
theorem lawN_p {QC : Ctl → Sto → Prop} (hn : NamesOK S.names) (hp : p ∈ S.pages) (hk : lstAt st Kl = some [.int k0, .int k1, .int k2, .int k3]) (hm : lstAt st Ml = some [.int m0, .int m1, .int m2]) (h0 : 0 ≤ m0) (h1 : m0 < 6)
    (q : ∀ st' pg', Fr [] st st' → Vv st' pg' → (k0 = 2 → ∀ q ∈ S.names, isS q pg' = false) → (k0 ≠ 2 → pg' = .str p.name) → QC (.nx (envL b Kl Ml A o ptD at_ hf sd sp fl pg' pgD a12 a15 a16 a17 a18 a19 a20)) st') :
    Runs (lawN (envL b Kl Ml A o ptD at_ hf sd sp fl (.str p.name) pgD a12 a15 a16 a17 a18 a19 a20)) st QC := by
  rw [show envL b Kl Ml A o ptD at_ hf sd sp fl (.str p.name) pgD a12 a15 a16 a17 a18 a19 a20 = [some (.loc 0), some (.loc b), some (.loc Kl), some (.loc Ml), some ptD, some (.loc o), some at_, some hf, some sd, some (.loc A), some sp, some fl, a12, some (.str p.name), some pgD, a15, a16, a17, a18, a19, a20] from rfl]
  unfold lawN
  have hno : NameOK p.name := hn.1 _ (List.mem_map.mpr ⟨_, hp, rfl⟩)
  have hl1 := hno.1
  have hl2 := hno.2.1
  by_cases c : k0 = 2
  · subst c
    simp [sq_lst hk]
    have ok1 : PyData.strOk (cutS p.name none (some 1)) = true := by
      unfold PyData.strOk
      rw [← Array.all_toList, List.all_eq_true]
      intro c hc
      exact decide_eq_true (lets_lt c (hno.2.2 c (cps_sub.1 c hc)))
    have hlen : ∀ a b : Str, (a ++ b).length = a.length + b.length := fun a b => by
      show (a ++ b).cps.toList.length = a.cps.toList.length + b.cps.toList.length
      rw [app_cps, List.length_append]
    obtain ⟨s, e1, e2, e3⟩ := pick (P := fun d => Vv (st ++ [SO.lst [D.str p.name], .lst [.str (p.name ++ Str.ofString "aaaaaaaa"), .str "", .non, .int 0, .loc st.length, .str (cutS p.name none (some 1) ++ Str.ofString "A")]]) d ∧ ∀ q ∈ S.names, isS q d = false) (ds := [.str (p.name ++ Str.ofString "aaaaaaaa"), .str "", .non, .int 0, .loc st.length, .str (cutS p.name none (some 1) ++ Str.ofString "A")]) (by
      intro d hd
      simp only [List.mem_cons, List.not_mem_nil, or_false] at hd
      rcases hd with rfl | rfl | rfl | rfl | rfl | rfl
      · refine ⟨.inl (sc_str (sok_app hno.ok (by decide +kernel))), fun q hq => isS_ne fun e => ?_⟩
        have h8 := (hn.1 q hq).2.1
        have : (Str.ofString "aaaaaaaa").length = 8 := by decide +kernel
        rw [e, hlen, this] at h8
        omega
      · refine ⟨.inl (sc_str (by decide +kernel)), fun q hq => isS_ne fun e => ?_⟩
        have h8 := (hn.1 q hq).1
        have : (Str.ofString "").length = 0 := by decide +kernel
        rw [e] at h8
        have h9 : 1 ≤ (Str.ofString "").length := h8
        omega
      · exact ⟨.inl sc_non, fun _ _ => rfl⟩
      · exact ⟨.inl sc_int, fun _ _ => rfl⟩
      · exact ⟨.inr (.inr ⟨_, _, rfl, sq_lst (lst_app (j := 0) rfl), by simp, fun x hx => by rw [List.mem_singleton.mp hx]; exact sc_str hno.ok⟩), fun _ _ => rfl⟩
      · refine ⟨.inl (sc_str (sok_app ok1 (by decide +kernel))), fun q hq => isS_ne fun e => ?_⟩
        have h8 := (hn.1 q hq).2.2 65 (by rw [e, app_cps]; exact List.mem_append.mpr (.inr (by decide +kernel)))
        exact absurd h8 (by decide +kernel)) h0 (by simpa using h1)
    have c1 := (cps_sub (w := p.name) (lo := none) (hi := some 1)).2
    have n8 : (Str.ofString "aaaaaaaa").length = 8 := by decide +kernel
    have n1 : (Str.ofString "A").length = 1 := by decide +kernel
    rw [n8, n1]
    refine ⟨sz8 (by omega), sz8 (by omega), sz8 (by omega), ?_⟩
    have F : Fr [] st (st ++ [SO.lst [D.str p.name], .lst [.str (p.name ++ Str.ofString "aaaaaaaa"), .str "", .non, .int 0, .loc st.length, .str (cutS p.name none (some 1) ++ Str.ofString "A")]]) := .apps
    have g := F.lst hm (by simp)
    have g2 := (lst_app (st := st) (j := 1) (os := [SO.lst [D.str p.name], .lst [.str (p.name ++ Str.ofString "aaaaaaaa"), .str "", .non, .int 0, .loc st.length, .str (cutS p.name none (some 1) ++ Str.ofString "A")]]) rfl)
    refine ⟨_, sq_lst g, _, rfl, ?_⟩
    simp [sq_lst g2, e1]
    exact q _ _ F e2 (fun _ => e3) fun z => absurd rfl z
  · simp [sq_lst hk, c]
    exact q _ _ .refl (.inl (sc_str hno.ok)) (fun z => absurd z c) fun _ => rfl
theorem rOpMulX {st : Sto} {Q : D → Sto → Prop} {ds : List D} {k : Int} (h : ds ≠ [] ∧ 0 ≤ k ∧ k ≤ 1000 ∧ ds.length ≤ 1000) : Runs (opMulX (.tup ds) (.int k)) st Q ↔ Q (.tup (List.replicate k.toNat ds).flatten) st := by
  with_unfolding_all
    have e : opMulX (.tup ds) (.int k) st = .ok (.tup (List.replicate k.toNat ds).flatten) st := by
      simp only [orElseM, opMul, opMulT]
      rw [if_pos h]
    unfold Runs; rw [e]
theorem cutD_sub {ds : List D} {lo hi : Option Int} : (∀ x ∈ cutD ds lo hi, x ∈ ds) ∧ (cutD ds lo hi).length ≤ ds.length := by
  unfold cutD
  constructor
  · intro x hx; exact List.mem_of_mem_drop (List.mem_of_mem_take hx)
  · simp; omega
theorem lawF_p {QC : Ctl → Sto → Prop} {fs : List Bool} (hfs : fs.length ≤ 3) (hk : lstAt st Kl = some [.int k0, .int k1, .int k2, .int k3]) (hm : lstAt st Ml = some [.int m0, .int m1, .int m2]) (h0 : 0 ≤ m2) (h1 : m2 < 6)
    (q : ∀ st' fl' a15 a16, Fr [] st st' → Vv st' fl' → QC (.nx (envL b Kl Ml A o ptD at_ hf sd sp fl' pg pgD a12 a15 a16 a17 a18 a19 a20)) st') :
    Runs (lawF (envL b Kl Ml A o ptD at_ hf sd sp (.tup (fs.map .bl)) pg pgD a12 a15 a16 a17 a18 a19 a20)) st QC := by
  rw [show envL b Kl Ml A o ptD at_ hf sd sp (.tup (fs.map .bl)) pg pgD a12 a15 a16 a17 a18 a19 a20 = [some (.loc 0), some (.loc b), some (.loc Kl), some (.loc Ml), some ptD, some (.loc o), some at_, some hf, some sd, some (.loc A), some sp, some (.tup (fs.map .bl)), a12, some pg, some pgD, a15, a16, a17, a18, a19, a20] from rfl]
  have hsc : ∀ x ∈ fs.map D.bl, Sc x := fun x hx => by
    obtain ⟨y, _, rfl⟩ := List.mem_map.mp hx
    exact sc_bl
  unfold lawF
  by_cases c : k2 = 2
  · subst c
    have hc1 := fun lo hi => (cutD_sub (ds := fs.map D.bl) (lo := lo) (hi := hi))
    simp [sq_lst hk]
    generalize hA1 : cutD (fs.map D.bl) none (some ((fs.length : Int) - 1)) = A1
    generalize hA2 : cutD (fs.map D.bl) (some 1) none = A2
    have a1 := hc1 none (some ((fs.length : Int) - 1))
    have a2 := hc1 (some 1) none
    rw [hA1] at a1
    rw [hA2] at a2
    rw [List.length_map] at a1 a2
    rw [rOpMulX ⟨by simp, by omega, by omega, by simp⟩]
    generalize hR : (List.replicate ((fs.length : Int)).toNat [D.int 0]).flatten = R
    have r1 : ∀ x ∈ R, Sc x := fun x hx => by
      rw [← hR] at hx
      obtain ⟨l, hl, hx⟩ := List.mem_flatten.mp hx
      rw [List.eq_of_mem_replicate hl] at hx
      rw [List.mem_singleton.mp hx]; exact sc_int
    have r2 : R.length ≤ 3 := by rw [← hR]; simp; omega
    generalize hS : st ++ [SO.lst (fs.map D.bl)] = st1
    have F1 : Fr [] st st1 := by rw [← hS]; exact .new
    have g1 : lstAt st1 st.length = some (fs.map .bl) := by rw [← hS]; exact lst_new
    obtain ⟨s, e1, e2⟩ := pick (P := fun d => Vv st1 d) (ds := [D.tup (List.map D.bl fs ++ [D.bl true]), D.loc (List.length st), D.non, D.tup A1, D.tup R, D.tup (D.non :: A2)]) (by
      intro d hd
      simp only [List.mem_cons, List.not_mem_nil, or_false] at hd
      rcases hd with rfl | rfl | rfl | rfl | rfl | rfl
      · refine .inr (.inl ⟨_, rfl, by simp; omega, fun x hx => ?_⟩)
        rcases List.mem_append.mp hx with hx | hx
        · exact hsc x hx
        · rw [List.mem_singleton.mp hx]; exact sc_bl
      · exact .inr (.inr ⟨_, _, rfl, sq_lst g1, by simp; omega, hsc⟩)
      · exact .inl sc_non
      · exact .inr (.inl ⟨_, rfl, by omega, fun x hx => hsc x (a1.1 x hx)⟩)
      · exact .inr (.inl ⟨_, rfl, by omega, r1⟩)
      · refine .inr (.inl ⟨_, rfl, by simp; omega, fun x hx => ?_⟩)
        rcases List.mem_cons.mp hx with rfl | hx
        · exact sc_non
        · exact hsc x (a2.1 x hx)) h0 (by simpa using h1)
    refine ⟨sz8 (by omega), sz8 (by omega), ?_⟩
    have F2 : Fr [] st (st1 ++ [SO.lst [D.tup (List.map D.bl fs ++ [D.bl true]), D.loc (List.length st), D.non, D.tup A1, D.tup R, D.tup (D.non :: A2)]]) := F1.trans .new
    have g := F2.lst hm (by simp)
    refine ⟨_, sq_lst g, _, rfl, ?_⟩
    simp [sq_lst lst_new, e1]
    exact q _ _ _ _ F2 (e2.fr .new)
  · simp [sq_lst hk, c]
    exact q _ _ _ _ .refl (.inr (.inl ⟨_, rfl, by simp; omega, hsc⟩))
end
end
section
theorem lc_box {st : Sto} {b c : Nat} {gi : Item → En → M En} {te : En → M D} {ρw : En} {items : List Item} {P : D → Prop} {ok : Sto → Bool} {QU : Unit → Sto → Prop} (B : Box st b c) (hn : items.length ≤ 100) (hok : ∀ st', Fr [b] st st' → ok st' = true)
    (hs : ∀ it ∈ items, ∀ st', Box st' b c → Runs (gi it ρw) st' fun ρ1 st1 => Runs (te ρ1) st1 fun y st2 => P y ∧ Fr [b] st' st2 ∧ Box st2 b c)
    (q : ∀ st' (ys : List D), ys.length = items.length → (∀ y ∈ ys, P y) → lstAt st' st.length = some ys → Box st' b c → Fr [b] st st' → QU () st') :
    Runs (lcL ok gi tYesD te st.length ρw items) (st ++ [.lst []]) QU := by
  have hb := B.lt
  have hc := B.ltc
  refine runs_lcL (fun i st' => ∃ ys : List D, ys.length = i ∧ (∀ y ∈ ys, P y) ∧ lstAt st' st.length = some ys ∧ Box st' b c ∧ Fr [b] st st') ⟨[], rfl, (fun _ h => nomatch h), lst_new, B.app, .new⟩ ?_ ?_
  · rintro i it st2 hi ⟨ys, ho, hP, hL, B2, F2⟩
    refine ⟨hok _ F2, ?_⟩
    have hlt : i < items.length := by
      rcases Nat.lt_or_ge i items.length with z | z
      · exact z
      · rw [List.getElem?_eq_none z] at hi; cases hi
    refine (hs it (List.mem_of_getElem? hi) st2 B2).imp fun ρ1 st3 q1 => ?_
    rw [x_tyes]
    simp only [if_true]
    refine q1.imp ?_
    rintro y st4 ⟨hy, F4, B4⟩
    have hL4 := F4.lst hL (by simp; omega)
    refine ⟨_, hL4, Nat.lt_of_le_of_lt (show _ ≤ 100 by omega) (by decide), ys ++ [y], by simp [ho], fun z hz => ?_, lst_set (lst_lt hL4), B4.set (by omega) (by omega), (F2.trans F4).setNew (Nat.le_refl _)⟩
    rcases List.mem_append.mp hz with hz | hz
    · exact hP z hz
    · rw [List.mem_singleton.mp hz]; exact hy
  · rintro st2 ⟨ys, ho, hP, hL, B2, F2⟩
    exact ⟨hok _ F2, q _ ys ho hP hL B2 F2⟩
section
variable {st : Sto} {S : PS} {p : Pg} {ent : Bool} {o b c Kl Ml A : Nat} {k0 k1 k2 k3 m0 m1 m2 : Int} {pg sd fl sp pgD at_ hf : D} {a11 a12 a15 a16 a17 a18 a19 a20 : Option D}
theorem T2_p (hB : Box st b c) (hk : lstAt st Kl = some [.int k0, .int k1, .int k2, .int k3]) (hm : lstAt st Ml = some [.int m0, .int m1, .int m2]) (h0 : 0 ≤ m0 ∧ m0 < 6) (h1 : 0 ≤ m1 ∧ m1 < 6) (h2 : 0 ≤ m2 ∧ m2 < 6)
    (hs : SiteAt st o S) (hp : p ∈ S.pages) (hA : lstAt st A = some ((asksOf (p.rows ent)).map fun w => .tup (w.map .int))) (hv : Vv st sp) (hx : ∀ i, sp = .loc i → i ≠ b) (nK : Kl ≠ b) (nM : Ml ≠ b) (nA : A ≠ b) (no : o ≠ b) :
    Runs (lawT2 [some (.loc 0), some (.loc b), some (.loc Kl), some (.loc Ml), some (.tup [bitsD S, pagesD S, .str S.start, .int S.keep]), some (.loc o), some at_, some hf, some (.str (sideS ent)), some (.loc A), some sp, a11, a12, some (.str p.name), some pgD, a15, a16, a17, a18, a19, a20]) st fun c _ => c = .rt (.bl true) := by
  have hbl := hB.lt
  have h3 := hs.ok.bl
  unfold lawT2
  have hb : bitsD S = .tup (S.bits.map .str) := rfl
  rw [hb]
  simp
  refine lc_box (P := fun y => ∃ v, y = .bl v) hB (by simp; omega) (fun _ _ => rfl) ?_ ?_
  · intro it hit st1 B1
    obtain ⟨x, hx, rfl⟩ := List.mem_map.mp hit
    simp [wipeD]
    refine (draw_spec B1 (by decide) (by decide)).imp ?_
    rintro _ st2 ⟨y, rfl, y0, y1, F2, B2⟩
    simp
    exact ⟨by omega, F2, B2⟩
  · intro st1 ys hl hP hL B1 F1
    refine ⟨_, sq_lst hL, ?_⟩
    have : ∀ ys : List D, (∀ y ∈ ys, ∃ v, y = .bl v) → ∃ fs : List Bool, ys = fs.map .bl := by
      intro ys
      induction ys with
      | nil => intro _; exact ⟨[], rfl⟩
      | cons y ys ih =>
        intro h
        obtain ⟨v, rfl⟩ := h _ (List.mem_cons_self ..)
        obtain ⟨fs, rfl⟩ := ih fun z hz => h z (List.mem_cons_of_mem _ hz)
        exact ⟨v :: fs, rfl⟩
    obtain ⟨fs, rfl⟩ := this ys hP
    have hfs : fs.length ≤ 3 := by simp at hl; omega
    have hs1 := hs.fr F1 (by simpa using no)
    have hk1 := F1.lst hk (by simpa using nK)
    have hm1 := F1.lst hm (by simpa using nM)
    have hA1 := F1.lst hA (by simpa using nA)
    have hv1 := hv.frx F1 (fun i e => by simpa using hx i e)
    rw [← hb]
    refine (lawF_p (o := o) (b := b) (A := A) hfs hk1 hm1 h2.1 h2.2 (pg := .str p.name) (sd := .str (sideS ent)) (sp := sp) (ptD := .tup [bitsD S, pagesD S, .str S.start, .int S.keep]) (at_ := at_) (hf := hf) (pgD := pgD) (a12 := a12) (a15 := a15) (a16 := a16) (a17 := a17) (a18 := a18) (a19 := a19) (a20 := a20) fun st2 fl' b15 b16 F2 hv2 => ?_)
    have hk2 := F2.lst hk1 (by simp)
    have hm2 := F2.lst hm1 (by simp)
    refine lawN_p hs.ok.no hp hk2 hm2 h0.1 h0.2 fun st3 pg' F3 hv3 n2 n0 => ?_
    have hk3 := F3.lst hk2 (by simp)
    have hm3 := F3.lst hm2 (by simp)
    refine lawS_p hk3 hm3 h1.1 h1.2 fun st4 sd' F4 hv4 s2 s0 => ?_
    simp only []
    have F24 := (F2.trans F3).trans F4
    exact loop_p (S := S) (p := p) (ent := ent) (k0 := k0) (k1 := k1) (k2 := k2) (k3 := k3) ⟨F4.lst hk3 (by simp), hs1.fr F24 (by simp), hp, F24.lst hA1 (by simp), hv3.fr F4, hv4, hv2.fr (F3.trans F4), hv1.fr F24, n2, n0, s2, s0⟩ ⟨_, _, _, rfl⟩
end
theorem law_runs (ns : List Int) (h : ns.length ≤ 63) : Runs (m_law [.loc 0]) [.frz (ns.map .int)] fun d _ => d = .bl true := by
  unfold m_law
  rw [r_fn]
  refine ⟨rfl, ?_⟩
  rw [lawSplit]
  simp
  refine (box_spec h).imp ?_
  rintro _ st1 ⟨b, c, rfl, B1⟩
  have hbl := B1.lt
  have hcl := B1.ltc
  refine lc_box (P := fun y => ∃ k : Int, y = .int k ∧ 0 ≤ k ∧ k < 3) B1 (by simp) (fun _ _ => rfl) ?_ ?_
  · intro it hit st2 B2
    obtain ⟨x, hx, rfl⟩ := List.mem_map.mp hit
    simp [wipeD]
    refine (draw_spec B2 (by decide) (by decide)).imp ?_
    rintro _ st3 ⟨y, rfl, y0, y1, F3, B3⟩
    exact ⟨⟨y, rfl, y0, y1⟩, F3, B3⟩
  intro st2 ks hkl hkP hK2 B2 F2
  have l2 := F2.le
  have b2 := B2.lt
  have kK := lst_lt hK2
  refine lc_box (P := fun y => ∃ k : Int, y = .int k ∧ 0 ≤ k ∧ k < 6) B2 (by simp) (fun _ _ => rfl) ?_ ?_
  · intro it hit st3 B3
    obtain ⟨x, hx, rfl⟩ := List.mem_map.mp hit
    simp [wipeD]
    refine (draw_spec B3 (by decide) (by decide)).imp ?_
    rintro _ st4 ⟨y, rfl, y0, y1, F4, B4⟩
    exact ⟨⟨y, rfl, y0, y1⟩, F4, B4⟩
  intro st3 ms hml hmP hM3 B3 F3
  have l3 := F3.le
  have b3 := B3.lt
  have kM := lst_lt hM3
  have hK3 := F3.lst hK2 (by simp; omega)
  obtain ⟨k0, k1, k2, k3, rfl, hk3a, hk3b⟩ : ∃ k0 k1 k2 k3 : Int, ks = [.int k0, .int k1, .int k2, .int k3] ∧ 0 ≤ k3 ∧ k3 < 3 := by
    match ks, hkl, hkP with
    | [x0, x1, x2, x3], _, hP =>
      obtain ⟨a0, rfl, _⟩ := hP x0 (by simp)
      obtain ⟨a1, rfl, _⟩ := hP x1 (by simp)
      obtain ⟨a2, rfl, _⟩ := hP x2 (by simp)
      obtain ⟨a3, rfl, z0, z1⟩ := hP x3 (by simp)
      exact ⟨a0, a1, a2, a3, rfl, z0, z1⟩
  obtain ⟨m0, m1, m2, rfl, hm0, hm1, hm2⟩ : ∃ m0 m1 m2 : Int, ms = [.int m0, .int m1, .int m2] ∧ (0 ≤ m0 ∧ m0 < 6) ∧ (0 ≤ m1 ∧ m1 < 6) ∧ (0 ≤ m2 ∧ m2 < 6) := by
    match ms, hml, hmP with
    | [x0, x1, x2], _, hP =>
      obtain ⟨a0, rfl, z0⟩ := hP x0 (by simp)
      obtain ⟨a1, rfl, z1⟩ := hP x1 (by simp)
      obtain ⟨a2, rfl, z2⟩ := hP x2 (by simp)
      exact ⟨a0, a1, a2, rfl, z0, z1, z2⟩
  refine (parts_spec B3).imp ?_
  rintro _ st4 ⟨S, rfl, hS, F4, B4⟩
  have l4 := F4.le
  have hK4 := F4.lst hK3 (by simp; omega)
  have hM4 := F4.lst hM3 (by simp; omega)
  simp [gSite]
  have := mk_site (st := st4) hS (Q := fun d st' => d = .loc st4.length ∧ SiteAt st' st4.length S ∧ Fr [] st4 st') (fun st' h F => ⟨rfl, h, F⟩)
  refine Runs.imp this ?_
  rintro _ st5 ⟨rfl, hs5, F5⟩
  have b4 := B4.lt
  have l5 := F5.le
  have hK5 := F5.lst hK4 (by simp)
  have hM5 := F5.lst hM4 (by simp)
  have B5 := B4.fr F5 (by simp) (by simp)
  have p2 := hS.p2
  have p5 := hS.p5
  have hlp : ∀ st' Q, Runs (bLen [pagesD S]) st' Q ↔ Q (.int S.pages.length) st' := by intro st' Q; show Runs (bLen [.tup (S.pages.map Pg.d)]) st' Q ↔ _; simp
  unfold lawT1
  simp [hlp]
  refine (draw_spec B5 (by omega) (by omega)).imp ?_
  rintro _ st6 ⟨at_, rfl, at0, at1, F6, B6⟩
  obtain ⟨at_, rfl⟩ : ∃ n : Nat, at_ = (n : Int) := ⟨at_.toNat, by omega⟩
  have hat : at_ < S.pages.length := by omega
  have l6 := F6.le
  refine (draw_spec B6 (by decide) (by decide)).imp ?_
  rintro _ st7 ⟨hf, rfl, hf0, hf1, F7, B7⟩
  have l7 := F7.le
  have hp := List.getElem_mem hat
  have hix : ∀ st' Q, Runs (opIx (pagesD S) (.int at_)) st' Q ↔ Q (Pg.d S.pages[at_]) st' := by
    intro st' Q
    show Runs (opIx (.tup (S.pages.map Pg.d)) (.int at_)) st' Q ↔ _
    simp [atI_nat hat]
  simp only [hix]
  generalize hpg : S.pages[at_] = p at *
  have F57 := F6.trans F7
  have hK7 := F57.lst hK5 (by simp; omega)
  have hM7 := F57.lst hM5 (by simp; omega)
  have hs7 := hs5.fr F57 (by simp; omega)
  have b7 := B7.lt
  have hS := hs7.ok
  have main : ∀ (ent : Bool) (hf' pgD' : D), Runs (m__law_asks 5 [.tup (rowsD (p.rows ent)), .tup []]) (st7 ++ [SO.lst [D.str (Str.ofString "enter"), D.str (Str.ofString "leave")]]) fun d_1 s1 => Runs (m__law_spots [.loc b, d_1]) s1 fun x s2 => ∃ ds, seqAt s2 st1.length = some ds ∧ ∃ d2, atI ds 3 = some d2 ∧ Runs (opIx x d2) s2 fun d3 s3 =>
      Runs (lawT2 [some (.loc 0), some (.loc b), some (.loc st1.length), some (.loc st2.length), some (.tup [bitsD S, pagesD S, .str S.start, .int S.keep]), some (.loc st4.length), some (.int at_), some hf', some (.str (sideS ent)), some d_1, some d3, none, none, some (.str p.name), some pgD', none, none, none, none, none, none]) s3 fun c _ => match c with
        | .rt d => d = .bl true
        | .nx _ => False
        | _ => False := by
    intro ent hf' pgD'
    obtain ⟨hR, hc⟩ := pg_rows_ok (ent := ent) hS hp
    obtain ⟨ha1, ha2⟩ := asks_len (ent := ent) hS hp
    refine (asks_p (bits := S.bits) (names := S.names) (ent := ent) 3 (bef := []) hR (by simp) (by omega)).imp ?_
    rintro _ st8 ⟨A, rfl, hA, hA0, F8⟩
    have F78 := (Fr.new (ex := [])).trans F8
    rw [asksOf_D] at hA
    simp only [List.length_append, List.length_cons, List.length_nil] at hA0
    have B8 := B7.fr F78 (by simp) (by simp)
    have l8 := F78.le
    refine (spots_p B8 hA (by omega) ha1 (by omega)).imp ?_
    rintro _ st9 ⟨L, s0, s1, rfl, hL, v0, v1, n0, n1, hL0, F9, B9⟩
    have b8 := B8.lt
    have hK8 := F78.lst hK7 (by simp)
    have hM8 := F78.lst hM7 (by simp)
    have hK9 := F9.lst hK8 (by simp; omega)
    have hM9 := F9.lst hM8 (by simp; omega)
    refine ⟨_, sq_lst hK9, _, rfl, ?_⟩
    have fin : ∀ sp, Vv st9 sp → (∀ i, sp = .loc i → i ≠ b) → Runs (lawT2 [some (.loc 0), some (.loc b), some (.loc st1.length), some (.loc st2.length), some (.tup [bitsD S, pagesD S, .str S.start, .int S.keep]), some (.loc st4.length), some (.int at_), some hf', some (.str (sideS ent)), some (.loc A), some sp, none, none, some (.str p.name), some pgD', none, none, none, none, none, none]) st9 fun c _ => match c with
        | .rt d => d = .bl true
        | .nx _ => False
        | _ => False := by
      intro sp hv hx
      refine (T2_p (ent := ent) B9 hK9 hM9 hm0 hm1 hm2 ((hs7.fr F78 (by simp)).fr F9 (by simp; omega)) hp (F9.lst hA (by simp; omega)) hv hx (by omega) (by omega) (by omega) (by omega)).imp ?_
      rintro _ st' rfl
      rfl
    rcases (show k3 = 0 ∨ k3 = 1 ∨ k3 = 2 by omega) with rfl | rfl | rfl
    · simp [sq_lst hL]
      exact fin s0 v0 fun i e => absurd e (n0 i)
    · simp [sq_lst hL]
      exact fin s0 v0 fun i e => absurd e (n0 i)
    · simp [sq_lst hL]
      exact fin s1 v1 fun i e => by have := n1 i e; omega
  unfold Pg.d
  simp
  rcases (show hf = 0 ∨ hf = 1 by omega) with rfl | rfl
  · simp
    refine ⟨_, sq_lst lst_new, _, rfl, ?_⟩
    exact main true _ _
  · simp
    refine ⟨_, sq_lst lst_new, _, rfl, ?_⟩
    exact main false _ _
theorem law_true' (ns : List Int) (h : ns.length ≤ 63) : ∃ st, m_law [.loc 0] [.frz (ns.map .int)] = .ok (.bl true) st := by
  obtain ⟨d, st', e, rfl⟩ := (law_runs ns h).get
  exact ⟨st', e⟩
end
end DL
set_option Elab.async false
set_option linter.all false
set_option maxRecDepth 100000
set_option maxHeartbeats 4000000
namespace DL
open PySem L2 PySem.Spec PyProof.Rows
def spLaw (K : PySem.W.Frag) : Sp := fun vs H Q _ => ∃ (x : Addr) (ns : List Int), vs = [.ref x] ∧ SqL K H x (ns.map V.int) ∧ ns.length ≤ 63 ∧ Only H ∧ ∀ H2, Q (.bl true) H2

theorem ints_rep {K : PySem.W.Frag} {μ : List Addr} {H : Hp} : ∀ ns : List Int, RepL K μ H (ns.map D.int) (ns.map V.int)
  | [] => repL_nil.mpr rfl
  | n :: r => repL_cons.mpr ⟨.int n, _, rfl, rep_int.mpr rfl, ints_rep r⟩
theorem law_imp {P : Program} {w : World} {K : PySem.W.Frag} {mg : Str → Option Value} {base : Heap} {ca : Nat → Addr} {k : Nat} {f : Addr} {fd : FuncData} (F : FnOk P w K mg base (L2.CX P w) k f fd ["_law_script"] (spD K ca m_law)) : FnOk P w K mg base (L2.CX P w) k f fd ["_law_script"] (spLaw K) := by
  refine F.imp fun vs H Q E h => ?_
  obtain ⟨x, ns, rfl, hS, hl, ho, hQ⟩ := h
  obtain ⟨st, hst⟩ := law_true' ns hl
  refine ⟨[.loc 0], [.frz (ns.map .int)], [x], RepL.one (rep_loc.mpr ⟨x, rfl, rfl⟩), ⟨rfl, fun i a o h1 h2 => ?_, fun i j a o u h1 h2 h3 h4 m1 m2 => ?_⟩, ?_⟩
  · cases i with
    | zero =>
      cases h1; cases h2
      refine ⟨ns.map V.int, ?_, ints_rep ns⟩
      rcases hS with (hS | ⟨o, hS⟩) | hS
      · rcases ho x with z | ⟨o, u, z⟩
        · rw [hS] at z; cases z
        · rw [hS] at z; cases z
      · exact .inl ⟨o, hS⟩
      · exact .inr hS
    | succ i => cases h1
  · cases i with
    | zero => cases h3; cases m1
    | succ i => cases h1
  · rw [hst]
    intro μ' H' v e s r
    rw [rep_bl.mp r]
    exact hQ H'
theorem all_mk {l : PySem.W.OpenLaw} {w : World} {K : PySem.W.Frag} {h : Heap} {mg : Str → Option Value} {fa C0 C1 C2 C3 C4 C5 C6 C7 f0 f1 f2 f3 f4 f5 f6 f7 f8 f9 f10 f11 f12 f13 f14 dt14 de14_0 f15 f16 f17 f18 f19 f20 f21 f22 f23 f24 dt24 de24_0 f25 f26 f27 f28 f29 f30 f31 f32 f33 f34 f35 f36 f37 f38 f39 f40 f41 f42 f43 f44 f45 f46 f47 f48 f49 f50 ka9 : Addr} (X : K.In h) (G : h.Ns mainGlobals mg) (hfa : mg "law" = some (.ref fa))
    {od0 an0 od1 an1 od2 an2 od3 an3 od4 an4 od5 an5 od6 an6 od7 an7 od8 an8 od9 an9 od10 an10 od11 an11 od12 an12 od13 an13 od14 an14 od15 an15 od16 an16 od17 an17 od18 an18 od19 an19 od20 an20 od21 an21 od22 an22 od23 an23 od24 an24 od25 an25 od26 an26 od27 an27 od28 an28 od29 an29 od30 an30 od31 an31 od32 an32 od33 an33 od34 an34 od35 an35 od36 an36 od37 an37 od38 an38 od39 an39 od40 an40 od41 an41 od42 an42 od43 an43 od44 an44 od45 an45 od46 an46 od47 an47 od48 an48 od49 an49 od50 an50 : Option Addr} {sl0 sl1 sl2 sl3 sl4 sl5 sl6 sl7 sl8 sl9 sl10 sl11 sl12 sl13 sl14 ds14 des14_0 sl15 sl16 sl17 sl18 sl19 sl20 sl21 sl22 sl23 sl24 ds24 des24_0 sl25 sl26 sl27 sl28 sl29 sl30 sl31 sl32 sl33 sl34 sl35 sl36 sl37 sl38 sl39 sl40 sl41 sl42 sl43 sl44 sl45 sl46 sl47 sl48 sl49 sl50 ks9 : Array (Option Value)} {oc0 kV0 dc0 pm0 cd0 ct0 oc1 kV1 dc1 pm1 cd1 ct1 oc2 kV2 dc2 pm2 cd2 ct2 oc3 kV3 dc3 pm3 cd3 ct3 oc4 kV4 dc4 pm4 cd4 ct4 oc5 kV5 dc5 pm5 cd5 ct5 oc6 kV6 dc6 pm6 cd6 ct6 oc7 kV7 dc7 pm7 cd7 ct7 oc8 kV8 dc8 pm8 cd8 ct8 oc9 kV9 dc9 pm9 cd9 ct9 oc10 kV10 dc10 pm10 cd10 ct10 oc11 kV11 dc11 pm11 cd11 ct11 oc12 kV12 dc12 pm12 cd12 ct12 oc13 kV13 dc13 pm13 cd13 ct13 oc14 kV14 dc14 pm14 cd14 ct14 oc15 kV15 dc15 pm15 cd15 ct15 oc16 kV16 dc16 pm16 cd16 ct16 oc17 kV17 dc17 pm17 cd17 ct17 oc18 kV18 dc18 pm18 cd18 ct18 oc19 kV19 dc19 pm19 cd19 ct19 oc20 kV20 dc20 pm20 cd20 ct20 oc21 kV21 dc21 pm21 cd21 ct21 oc22 kV22 dc22 pm22 cd22 ct22 oc23 kV23 dc23 pm23 cd23 ct23 oc24 kV24 dc24 pm24 cd24 ct24 oc25 kV25 dc25 pm25 cd25 ct25 oc26 kV26 dc26 pm26 cd26 ct26 oc27 kV27 dc27 pm27 cd27 ct27 oc28 kV28 dc28 pm28 cd28 ct28 oc29 kV29 dc29 pm29 cd29 ct29 oc30 kV30 dc30 pm30 cd30 ct30 oc31 kV31 dc31 pm31 cd31 ct31 oc32 kV32 dc32 pm32 cd32 ct32 oc33 kV33 dc33 pm33 cd33 ct33 oc34 kV34 dc34 pm34 cd34 ct34 oc35 kV35 dc35 pm35 cd35 ct35 oc36 kV36 dc36 pm36 cd36 ct36 oc37 kV37 dc37 pm37 cd37 ct37 oc38 kV38 dc38 pm38 cd38 ct38 oc39 kV39 dc39 pm39 cd39 ct39 oc40 kV40 dc40 pm40 cd40 ct40 oc41 kV41 dc41 pm41 cd41 ct41 oc42 kV42 dc42 pm42 cd42 ct42 oc43 kV43 dc43 pm43 cd43 ct43 oc44 kV44 dc44 pm44 cd44 ct44 oc45 kV45 dc45 pm45 cd45 ct45 oc46 kV46 dc46 pm46 cd46 ct46 oc47 kV47 dc47 pm47 cd47 ct47 oc48 kV48 dc48 pm48 cd48 ct48 oc49 kV49 dc49 pm49 cd49 ct49 oc50 kV50 dc50 pm50 cd50 ct50 : Value} {t0 t1 t2 t3 t4 t5 t6 t7 t8 t9_0 t9_1 : Tok} {dn14 den14_0 dn24 den24_0 nn9 : Nat} {nm2 qn2 : Str} {Na2 CL2 : Addr} {bs2 sub2 : List Value} {sn2 : List Str} {ab2 : Bool} {col2 : Option Bool} {dd2 : Option Addr} {xa2 xb2 xc2 xd2 xe2 : Option Value} {nm3 qn3 : Str} {Na3 CL3 : Addr} {bs3 sub3 : List Value} {sn3 : List Str} {ab3 : Bool} {col3 : Option Bool} {dd3 : Option Addr} {xa3 xb3 xc3 xd3 xe3 : Option Value} {nm5 qn5 : Str} {Na5 CL5 : Addr} {bs5 sub5 : List Value} {sn5 : List Str} {ab5 : Bool} {col5 : Option Bool} {dd5 : Option Addr} {xa5 xb5 xc5 xd5 xe5 : Option Value} {nm1 qn1 : Str} {Na1 CL1 : Addr} {bs1 sub1 : List Value} {sn1 : List Str} {ab1 : Bool} {col1 : Option Bool} {dd1 : Option Addr} {xa1 xb1 xc1 xd1 xe1 : Option Value} {nm6 qn6 : Str} {Na6 CL6 : Addr} {bs6 sub6 : List Value} {sn6 : List Str} {ab6 : Bool} {col6 : Option Bool} {dd6 : Option Addr} {xa6 xb6 xc6 xd6 xe6 : Option Value}
    (q0_gc : PySem.W.nsIn K mainGlobals "Site" = some (some (.ref C0)))
    (q0_pg : PySem.W.plainGet K C0 Str.empty = true)
    (q0_hd : PySem.W.hasDictIn K C0 = true)
    (q0_po : PySem.W.plainOver K C0 = true)
    (q0_sa : PySem.W.findIn K (.ref C0) "__setattr__" = some (some (.builtin "object.__setattr__")))
    (q0_mk : PySem.W.makesIn K C0 = true)
    (q0_kc : PySem.W.keepIn K (.ref C0) = true)
    (q0_na_bits : PySem.W.findIn K (.ref C0) "bits" = some none)
    (q0_na_pages : PySem.W.findIn K (.ref C0) "pages" = some none)
    (q0_na_start : PySem.W.findIn K (.ref C0) "start" = some none)
    (q0_na_keep : PySem.W.findIn K (.ref C0) "keep" = some none)
    (x1_gc : PySem.W.nsIn K mainGlobals "InvalidSite" = some (some (.ref C1)))
    (x1_ga : PySem.W.findIn K (.ref C1) "__getattribute__" = some (some (.builtin "BaseException.__getattribute__")))
    (x1_gg : PySem.W.findIn K (.ref C1) "__getattr__" = some none)
    (x1_sb : PySem.W.subIn K (.ref C1) (.type "BaseException") = some true)
    (x1_hd : PySem.W.hasDictIn K C1 = true)
    (x1_ty : PySem.W.typeIn K (.ref C1) = some (.type "type"))
    (x1_ac : PySem.W.findIn K (.ref C1) "__class__" = some (some (.builtin "object.__class__")))
    (x1_ob : PySem.W.mroIn K C1 (.type "object") = some true)
    (x1_nf_part : PySem.W.findIn K (.ref C1) "part" = some none)
    (x1_nf_path : PySem.W.findIn K (.ref C1) "path" = some none)
    (x2_gc : PySem.W.nsIn K mainGlobals "InvalidFlags" = some (some (.ref C2)))
    (x2_ga : PySem.W.findIn K (.ref C2) "__getattribute__" = some (some (.builtin "BaseException.__getattribute__")))
    (x2_gg : PySem.W.findIn K (.ref C2) "__getattr__" = some none)
    (x2_sb : PySem.W.subIn K (.ref C2) (.type "BaseException") = some true)
    (x2_hd : PySem.W.hasDictIn K C2 = true)
    (x2_ty : PySem.W.typeIn K (.ref C2) = some (.type "type"))
    (x2_ac : PySem.W.findIn K (.ref C2) "__class__" = some (some (.builtin "object.__class__")))
    (x2_ob : PySem.W.mroIn K C2 (.type "object") = some true)
    (x2_nf_flags : PySem.W.findIn K (.ref C2) "flags" = some none)
    (x3_gc : PySem.W.nsIn K mainGlobals "InvalidPosition" = some (some (.ref C3)))
    (x3_ga : PySem.W.findIn K (.ref C3) "__getattribute__" = some (some (.builtin "BaseException.__getattribute__")))
    (x3_gg : PySem.W.findIn K (.ref C3) "__getattr__" = some none)
    (x3_sb : PySem.W.subIn K (.ref C3) (.type "BaseException") = some true)
    (x3_hd : PySem.W.hasDictIn K C3 = true)
    (x3_ty : PySem.W.typeIn K (.ref C3) = some (.type "type"))
    (x3_ac : PySem.W.findIn K (.ref C3) "__class__" = some (some (.builtin "object.__class__")))
    (x3_ob : PySem.W.mroIn K C3 (.type "object") = some true)
    (x3_nf_position : PySem.W.findIn K (.ref C3) "position" = some none)
    (x4_gc : PySem.W.nsIn K mainGlobals "InvalidPath" = some (some (.ref C4)))
    (x4_ga : PySem.W.findIn K (.ref C4) "__getattribute__" = some (some (.builtin "BaseException.__getattribute__")))
    (x4_gg : PySem.W.findIn K (.ref C4) "__getattr__" = some none)
    (x4_sb : PySem.W.subIn K (.ref C4) (.type "BaseException") = some true)
    (x4_hd : PySem.W.hasDictIn K C4 = true)
    (x4_ty : PySem.W.typeIn K (.ref C4) = some (.type "type"))
    (x4_ac : PySem.W.findIn K (.ref C4) "__class__" = some (some (.builtin "object.__class__")))
    (x4_ob : PySem.W.mroIn K C4 (.type "object") = some true)
    (x4_nf_path : PySem.W.findIn K (.ref C4) "path" = some none)
    (x5_gc : PySem.W.nsIn K mainGlobals "InvalidSide" = some (some (.ref C5)))
    (x5_ga : PySem.W.findIn K (.ref C5) "__getattribute__" = some (some (.builtin "BaseException.__getattribute__")))
    (x5_gg : PySem.W.findIn K (.ref C5) "__getattr__" = some none)
    (x5_sb : PySem.W.subIn K (.ref C5) (.type "BaseException") = some true)
    (x5_hd : PySem.W.hasDictIn K C5 = true)
    (x5_ty : PySem.W.typeIn K (.ref C5) = some (.type "type"))
    (x5_ac : PySem.W.findIn K (.ref C5) "__class__" = some (some (.builtin "object.__class__")))
    (x5_ob : PySem.W.mroIn K C5 (.type "object") = some true)
    (x5_nf_side : PySem.W.findIn K (.ref C5) "side" = some none)
    (x6_gc : PySem.W.nsIn K mainGlobals "UnknownPage" = some (some (.ref C6)))
    (x6_ga : PySem.W.findIn K (.ref C6) "__getattribute__" = some (some (.builtin "BaseException.__getattribute__")))
    (x6_gg : PySem.W.findIn K (.ref C6) "__getattr__" = some none)
    (x6_sb : PySem.W.subIn K (.ref C6) (.type "BaseException") = some true)
    (x6_hd : PySem.W.hasDictIn K C6 = true)
    (x6_ty : PySem.W.typeIn K (.ref C6) = some (.type "type"))
    (x6_ac : PySem.W.findIn K (.ref C6) "__class__" = some (some (.builtin "object.__class__")))
    (x6_ob : PySem.W.mroIn K C6 (.type "object") = some true)
    (x6_nf_page : PySem.W.findIn K (.ref C6) "page" = some none)
    (x7_gc : PySem.W.nsIn K mainGlobals "LedError" = some (some (.ref C7)))
    (x7_ga : PySem.W.findIn K (.ref C7) "__getattribute__" = some (some (.builtin "BaseException.__getattribute__")))
    (x7_gg : PySem.W.findIn K (.ref C7) "__getattr__" = some none)
    (x7_sb : PySem.W.subIn K (.ref C7) (.type "BaseException") = some true)
    (x7_hd : PySem.W.hasDictIn K C7 = true)
    (x7_ty : PySem.W.typeIn K (.ref C7) = some (.type "type"))
    (x7_ac : PySem.W.findIn K (.ref C7) "__class__" = some (some (.builtin "object.__class__")))
    (x7_ob : PySem.W.mroIn K C7 (.type "object") = some true)
    (xm_1_1 : PySem.W.subIn K (.ref C1) (.ref C1) = some true)
    (xm_1_2 : PySem.W.subIn K (.ref C1) (.ref C2) = some false)
    (xm_1_3 : PySem.W.subIn K (.ref C1) (.ref C3) = some false)
    (xm_1_4 : PySem.W.subIn K (.ref C1) (.ref C4) = some false)
    (xm_1_5 : PySem.W.subIn K (.ref C1) (.ref C5) = some false)
    (xm_1_6 : PySem.W.subIn K (.ref C1) (.ref C6) = some false)
    (xm_1_7 : PySem.W.subIn K (.ref C1) (.ref C7) = some true)
    (xm_2_1 : PySem.W.subIn K (.ref C2) (.ref C1) = some false)
    (xm_2_2 : PySem.W.subIn K (.ref C2) (.ref C2) = some true)
    (xm_2_3 : PySem.W.subIn K (.ref C2) (.ref C3) = some false)
    (xm_2_4 : PySem.W.subIn K (.ref C2) (.ref C4) = some false)
    (xm_2_5 : PySem.W.subIn K (.ref C2) (.ref C5) = some false)
    (xm_2_6 : PySem.W.subIn K (.ref C2) (.ref C6) = some false)
    (xm_2_7 : PySem.W.subIn K (.ref C2) (.ref C7) = some true)
    (xm_3_1 : PySem.W.subIn K (.ref C3) (.ref C1) = some false)
    (xm_3_2 : PySem.W.subIn K (.ref C3) (.ref C2) = some false)
    (xm_3_3 : PySem.W.subIn K (.ref C3) (.ref C3) = some true)
    (xm_3_4 : PySem.W.subIn K (.ref C3) (.ref C4) = some false)
    (xm_3_5 : PySem.W.subIn K (.ref C3) (.ref C5) = some false)
    (xm_3_6 : PySem.W.subIn K (.ref C3) (.ref C6) = some false)
    (xm_3_7 : PySem.W.subIn K (.ref C3) (.ref C7) = some true)
    (xm_4_1 : PySem.W.subIn K (.ref C4) (.ref C1) = some false)
    (xm_4_2 : PySem.W.subIn K (.ref C4) (.ref C2) = some false)
    (xm_4_3 : PySem.W.subIn K (.ref C4) (.ref C3) = some false)
    (xm_4_4 : PySem.W.subIn K (.ref C4) (.ref C4) = some true)
    (xm_4_5 : PySem.W.subIn K (.ref C4) (.ref C5) = some false)
    (xm_4_6 : PySem.W.subIn K (.ref C4) (.ref C6) = some false)
    (xm_4_7 : PySem.W.subIn K (.ref C4) (.ref C7) = some true)
    (xm_5_1 : PySem.W.subIn K (.ref C5) (.ref C1) = some false)
    (xm_5_2 : PySem.W.subIn K (.ref C5) (.ref C2) = some false)
    (xm_5_3 : PySem.W.subIn K (.ref C5) (.ref C3) = some false)
    (xm_5_4 : PySem.W.subIn K (.ref C5) (.ref C4) = some false)
    (xm_5_5 : PySem.W.subIn K (.ref C5) (.ref C5) = some true)
    (xm_5_6 : PySem.W.subIn K (.ref C5) (.ref C6) = some false)
    (xm_5_7 : PySem.W.subIn K (.ref C5) (.ref C7) = some true)
    (xm_6_1 : PySem.W.subIn K (.ref C6) (.ref C1) = some false)
    (xm_6_2 : PySem.W.subIn K (.ref C6) (.ref C2) = some false)
    (xm_6_3 : PySem.W.subIn K (.ref C6) (.ref C3) = some false)
    (xm_6_4 : PySem.W.subIn K (.ref C6) (.ref C4) = some false)
    (xm_6_5 : PySem.W.subIn K (.ref C6) (.ref C5) = some false)
    (xm_6_6 : PySem.W.subIn K (.ref C6) (.ref C6) = some true)
    (xm_6_7 : PySem.W.subIn K (.ref C6) (.ref C7) = some true)
    (x2_lk : K.lookup C2 = some (excClassObj nm2 qn2 C2 Na2 bs2 (.ref CL2 :: PySem.HandSPX.veTail) true sn2 sub2 ab2 col2 dd2 xa2 xb2 xc2 xd2 xe2 "ValueError.__new__"))
    (x2_sa : PySem.W.findIn K (.ref C2) "__setattr__" = some (some (.builtin "object.__setattr__")))
    (x2_kc : PySem.W.keepIn K (.ref C2) = true)
    (x3_lk : K.lookup C3 = some (excClassObj nm3 qn3 C3 Na3 bs3 (.ref CL3 :: PySem.HandSPX.veTail) true sn3 sub3 ab3 col3 dd3 xa3 xb3 xc3 xd3 xe3 "ValueError.__new__"))
    (x3_sa : PySem.W.findIn K (.ref C3) "__setattr__" = some (some (.builtin "object.__setattr__")))
    (x3_kc : PySem.W.keepIn K (.ref C3) = true)
    (x5_lk : K.lookup C5 = some (excClassObj nm5 qn5 C5 Na5 bs5 (.ref CL5 :: PySem.HandSPX.veTail) true sn5 sub5 ab5 col5 dd5 xa5 xb5 xc5 xd5 xe5 "ValueError.__new__"))
    (x5_sa : PySem.W.findIn K (.ref C5) "__setattr__" = some (some (.builtin "object.__setattr__")))
    (x5_kc : PySem.W.keepIn K (.ref C5) = true)
    (x1_lk : K.lookup C1 = some (excClassObj nm1 qn1 C1 Na1 bs1 (.ref CL1 :: PySem.HandSPX.veTail) true sn1 sub1 ab1 col1 dd1 xa1 xb1 xc1 xd1 xe1 "ValueError.__new__"))
    (x1_sa : PySem.W.findIn K (.ref C1) "__setattr__" = some (some (.builtin "object.__setattr__")))
    (x1_kc : PySem.W.keepIn K (.ref C1) = true)
    (x6_lk : K.lookup C6 = some (excClassObj nm6 qn6 C6 Na6 bs6 (.ref CL6 :: PySem.HandSPX.veTail) true sn6 sub6 ab6 col6 dd6 xa6 xb6 xc6 xd6 xe6 "ValueError.__new__"))
    (x6_sa : PySem.W.findIn K (.ref C6) "__setattr__" = some (some (.builtin "object.__setattr__")))
    (x6_kc : PySem.W.keepIn K (.ref C6) = true)
    (x_sp : PySem.W.specialIn K (.builtin "object.__class__") "__get__" = some (some (.builtin "getset_descriptor.__get__")))
    (x_tk : PySem.W.takesIn K (.builtin "object.__class__") = some true)
    (a0 : PySem.W.nsIn K mainGlobals "_law_same" = some (some (.ref f0)))
    (l0 : K.lookup f0 = some ⟨oc0, od0, .func (PySem.W.fnOf "_law_same" "_law_same" (defArgs (topS 64)) (defBody (topS 64)) (defScope (topS 64)) .none kV0 dc0 pm0 an0 cd0 ct0), sl0⟩)
    (c0 : PySem.W.codeIn K cd0 "_law_same" = true)
    (k0 : PySem.W.keepIn K (.ref f0) = true)
    (a1 : PySem.W.nsIn K mainGlobals "into_branch" = some (some (.ref f1)))
    (l1 : K.lookup f1 = some ⟨oc1, od1, .func (PySem.W.fnOf "into_branch" "into_branch" (defArgs (topS 53)) (defBody (topS 53)) (defScope (topS 53)) .none kV1 dc1 pm1 an1 cd1 ct1), sl1⟩)
    (c1 : PySem.W.codeIn K cd1 "into_branch" = true)
    (k1 : PySem.W.keepIn K (.ref f1) = true)
    (a2 : PySem.W.nsIn K mainGlobals "behind" = some (some (.ref f2)))
    (l2 : K.lookup f2 = some ⟨oc2, od2, .func (PySem.W.fnOf "behind" "behind" (defArgs (topS 52)) (defBody (topS 52)) (defScope (topS 52)) .none kV2 dc2 pm2 an2 cd2 ct2), sl2⟩)
    (c2 : PySem.W.codeIn K cd2 "behind" = true)
    (k2 : PySem.W.keepIn K (.ref f2) = true)
    (a3 : PySem.W.nsIn K mainGlobals "with_item" = some (some (.ref f3)))
    (l3 : K.lookup f3 = some ⟨oc3, od3, .func (PySem.W.fnOf "with_item" "with_item" (defArgs (topS 39)) (defBody (topS 39)) (defScope (topS 39)) .none kV3 dc3 pm3 an3 cd3 ct3), sl3⟩)
    (c3 : PySem.W.codeIn K cd3 "with_item" = true)
    (k3 : PySem.W.keepIn K (.ref f3) = true)
    (a4 : PySem.W.nsIn K mainGlobals "branches" = some (some (.ref f4)))
    (l4 : K.lookup f4 = some ⟨oc4, od4, .func (PySem.W.fnOf "branches" "branches" (defArgs (topS 34)) (defBody (topS 34)) (defScope (topS 34)) .none kV4 dc4 pm4 an4 cd4 ct4), sl4⟩)
    (c4 : PySem.W.codeIn K cd4 "branches" = true)
    (k4 : PySem.W.keepIn K (.ref f4) = true)
    (a5 : PySem.W.nsIn K mainGlobals "row_or_none" = some (some (.ref f5)))
    (l5 : K.lookup f5 = some ⟨oc5, od5, .func (PySem.W.fnOf "row_or_none" "row_or_none" (defArgs (topS 51)) (defBody (topS 51)) (defScope (topS 51)) .none kV5 dc5 pm5 an5 cd5 ct5), sl5⟩)
    (c5 : PySem.W.codeIn K cd5 "row_or_none" = true)
    (k5 : PySem.W.keepIn K (.ref f5) = true)
    (a6 : PySem.W.nsIn K mainGlobals "go_on" = some (some (.ref f6)))
    (l6 : K.lookup f6 = some ⟨oc6, od6, .func (PySem.W.fnOf "go_on" "go_on" (defArgs (topS 50)) (defBody (topS 50)) (defScope (topS 50)) .none kV6 dc6 pm6 an6 cd6 ct6), sl6⟩)
    (c6 : PySem.W.codeIn K cd6 "go_on" = true)
    (k6 : PySem.W.keepIn K (.ref f6) = true)
    (a7 : PySem.W.nsIn K mainGlobals "are_flags" = some (some (.ref f7)))
    (l7 : K.lookup f7 = some ⟨oc7, od7, .func (PySem.W.fnOf "are_flags" "are_flags" (defArgs (topS 47)) (defBody (topS 47)) (defScope (topS 47)) .none kV7 dc7 pm7 an7 cd7 ct7), sl7⟩)
    (c7 : PySem.W.codeIn K cd7 "are_flags" = true)
    (k7 : PySem.W.keepIn K (.ref f7) = true)
    (a8 : PySem.W.findIn K (.ref C2) "__init__" = some (some (.ref f8)))
    (i8 : PySem.W.typeIn K (.ref f8) = some (.type "function"))
    (l8 : K.lookup f8 = some ⟨oc8, od8, .func (PySem.W.fnOf "__init__" "InvalidFlags.__init__" (defArgs (inClass (topS 4) 0)) (defBody (inClass (topS 4) 0)) (defScope (inClass (topS 4) 0)) .none kV8 dc8 pm8 an8 cd8 ct8), sl8⟩)
    (c8 : PySem.W.codeIn K cd8 "InvalidFlags.__init__" = true)
    (k8 : PySem.W.keepIn K (.ref f8) = true)
    (a9 : PySem.W.findIn K (.ref C5) "__init__" = some (some (.ref f9)))
    (i9 : PySem.W.typeIn K (.ref f9) = some (.type "function"))
    (l9 : K.lookup f9 = some ⟨oc9, od9, .func (PySem.W.fnOf "__init__" "InvalidSide.__init__" (defArgs (inClass (topS 6) 0)) (defBody (inClass (topS 6) 0)) (defScope (inClass (topS 6) 0)) .none kV9 dc9 pm9 an9 cd9 ct9), sl9⟩)
    (c9 : PySem.W.codeIn K cd9 "InvalidSide.__init__" = true)
    (k9 : PySem.W.keepIn K (.ref f9) = true)
    (a10 : PySem.W.findIn K (.ref C6) "__init__" = some (some (.ref f10)))
    (i10 : PySem.W.typeIn K (.ref f10) = some (.type "function"))
    (l10 : K.lookup f10 = some ⟨oc10, od10, .func (PySem.W.fnOf "__init__" "UnknownPage.__init__" (defArgs (inClass (topS 8) 0)) (defBody (inClass (topS 8) 0)) (defScope (inClass (topS 8) 0)) .none kV10 dc10 pm10 an10 cd10 ct10), sl10⟩)
    (c10 : PySem.W.codeIn K cd10 "UnknownPage.__init__" = true)
    (k10 : PySem.W.keepIn K (.ref f10) = true)
    (a11 : PySem.W.nsIn K mainGlobals "find_page" = some (some (.ref f11)))
    (l11 : K.lookup f11 = some ⟨oc11, od11, .func (PySem.W.fnOf "find_page" "find_page" (defArgs (topS 29)) (defBody (topS 29)) (defScope (topS 29)) .none kV11 dc11 pm11 an11 cd11 ct11), sl11⟩)
    (c11 : PySem.W.codeIn K cd11 "find_page" = true)
    (k11 : PySem.W.keepIn K (.ref f11) = true)
    (a12 : PySem.W.findIn K (.ref C0) "guard" = some (some (.ref f12)))
    (i12 : PySem.W.isFn K (.ref f12) = true)
    (l12 : K.lookup f12 = some ⟨oc12, od12, .func (PySem.W.fnOf "guard" "Site.guard" (defArgs (inClass (topS 20) 3)) (defBody (inClass (topS 20) 3)) (defScope (inClass (topS 20) 3)) .none kV12 dc12 pm12 an12 cd12 ct12), sl12⟩)
    (c12 : PySem.W.codeIn K cd12 "Site.guard" = true)
    (k12 : PySem.W.keepIn K (.ref f12) = true)
    (a13 : PySem.W.nsIn K mainGlobals "checked_rows" = some (some (.ref f13)))
    (l13 : K.lookup f13 = some ⟨oc13, od13, .func (PySem.W.fnOf "checked_rows" "checked_rows" (defArgs (topS 48)) (defBody (topS 48)) (defScope (topS 48)) .none kV13 dc13 pm13 an13 cd13 ct13), sl13⟩)
    (c13 : PySem.W.codeIn K cd13 "checked_rows" = true)
    (k13 : PySem.W.keepIn K (.ref f13) = true)
    (a14 : PySem.W.nsIn K mainGlobals "run_guard" = some (some (.ref f14)))
    (l14 : K.lookup f14 = some ⟨oc14, od14, .func (PySem.W.fnOf "run_guard" "run_guard" (defArgs (topS 42)) (defBody (topS 42)) (defScope (topS 42)) (.ref dt14) kV14 dc14 pm14 an14 cd14 ct14), sl14⟩)
    (dl14 : K.lookup dt14 = some ⟨.type "tuple", none, .seq #[(.ref de14_0)] dn14, ds14⟩)
    (del14_0 : K.lookup de14_0 = some ⟨.type "tuple", none, .seq #[] den14_0, des14_0⟩)
    (c14 : PySem.W.codeIn K cd14 "run_guard" = true)
    (k14 : PySem.W.keepIn K (.ref f14) = true)
    (a15 : PySem.W.nsIn K mainGlobals "ends_from" = some (some (.ref f15)))
    (l15 : K.lookup f15 = some ⟨oc15, od15, .func (PySem.W.fnOf "ends_from" "ends_from" (defArgs (topS 54)) (defBody (topS 54)) (defScope (topS 54)) .none kV15 dc15 pm15 an15 cd15 ct15), sl15⟩)
    (c15 : PySem.W.codeIn K cd15 "ends_from" = true)
    (k15 : PySem.W.keepIn K (.ref f15) = true)
    (a16 : PySem.W.nsIn K mainGlobals "all_ends" = some (some (.ref f16)))
    (l16 : K.lookup f16 = some ⟨oc16, od16, .func (PySem.W.fnOf "all_ends" "all_ends" (defArgs (topS 44)) (defBody (topS 44)) (defScope (topS 44)) .none kV16 dc16 pm16 an16 cd16 ct16), sl16⟩)
    (c16 : PySem.W.codeIn K cd16 "all_ends" = true)
    (k16 : PySem.W.keepIn K (.ref f16) = true)
    (a17 : PySem.W.nsIn K mainGlobals "letting_answers" = some (some (.ref f17)))
    (l17 : K.lookup f17 = some ⟨oc17, od17, .func (PySem.W.fnOf "letting_answers" "letting_answers" (defArgs (topS 45)) (defBody (topS 45)) (defScope (topS 45)) .none kV17 dc17 pm17 an17 cd17 ct17), sl17⟩)
    (c17 : PySem.W.codeIn K cd17 "letting_answers" = true)
    (k17 : PySem.W.keepIn K (.ref f17) = true)
    (a18 : PySem.W.nsIn K mainGlobals "lets" = some (some (.ref f18)))
    (l18 : K.lookup f18 = some ⟨oc18, od18, .func (PySem.W.fnOf "lets" "lets" (defArgs (topS 46)) (defBody (topS 46)) (defScope (topS 46)) .none kV18 dc18 pm18 an18 cd18 ct18), sl18⟩)
    (c18 : PySem.W.codeIn K cd18 "lets" = true)
    (k18 : PySem.W.keepIn K (.ref f18) = true)
    (a19 : PySem.W.nsIn K mainGlobals "rows_with_positions" = some (some (.ref f19)))
    (l19 : K.lookup f19 = some ⟨oc19, od19, .func (PySem.W.fnOf "rows_with_positions" "rows_with_positions" (defArgs (topS 35)) (defBody (topS 35)) (defScope (topS 35)) .none kV19 dc19 pm19 an19 cd19 ct19), sl19⟩)
    (c19 : PySem.W.codeIn K cd19 "rows_with_positions" = true)
    (k19 : PySem.W.keepIn K (.ref f19) = true)
    (a20 : PySem.W.nsIn K mainGlobals "is_integer" = some (some (.ref f20)))
    (l20 : K.lookup f20 = some ⟨oc20, od20, .func (PySem.W.fnOf "is_integer" "is_integer" (defArgs (topS 21)) (defBody (topS 21)) (defScope (topS 21)) .none kV20 dc20 pm20 an20 cd20 ct20), sl20⟩)
    (c20 : PySem.W.codeIn K cd20 "is_integer" = true)
    (k20 : PySem.W.keepIn K (.ref f20) = true)
    (a21 : PySem.W.nsIn K mainGlobals "has_position_form" = some (some (.ref f21)))
    (l21 : K.lookup f21 = some ⟨oc21, od21, .func (PySem.W.fnOf "has_position_form" "has_position_form" (defArgs (topS 38)) (defBody (topS 38)) (defScope (topS 38)) .none kV21 dc21 pm21 an21 cd21 ct21), sl21⟩)
    (c21 : PySem.W.codeIn K cd21 "has_position_form" = true)
    (k21 : PySem.W.keepIn K (.ref f21) = true)
    (a22 : PySem.W.nsIn K mainGlobals "is_ask_position" = some (some (.ref f22)))
    (l22 : K.lookup f22 = some ⟨oc22, od22, .func (PySem.W.fnOf "is_ask_position" "is_ask_position" (defArgs (topS 49)) (defBody (topS 49)) (defScope (topS 49)) .none kV22 dc22 pm22 an22 cd22 ct22), sl22⟩)
    (c22 : PySem.W.codeIn K cd22 "is_ask_position" = true)
    (k22 : PySem.W.keepIn K (.ref f22) = true)
    (a23 : PySem.W.findIn K (.ref C3) "__init__" = some (some (.ref f23)))
    (i23 : PySem.W.typeIn K (.ref f23) = some (.type "function"))
    (l23 : K.lookup f23 = some ⟨oc23, od23, .func (PySem.W.fnOf "__init__" "InvalidPosition.__init__" (defArgs (inClass (topS 7) 0)) (defBody (inClass (topS 7) 0)) (defScope (inClass (topS 7) 0)) .none kV23 dc23 pm23 an23 cd23 ct23), sl23⟩)
    (c23 : PySem.W.codeIn K cd23 "InvalidPosition.__init__" = true)
    (k23 : PySem.W.keepIn K (.ref f23) = true)
    (a24 : PySem.W.nsIn K mainGlobals "resume_guard" = some (some (.ref f24)))
    (l24 : K.lookup f24 = some ⟨oc24, od24, .func (PySem.W.fnOf "resume_guard" "resume_guard" (defArgs (topS 43)) (defBody (topS 43)) (defScope (topS 43)) (.ref dt24) kV24 dc24 pm24 an24 cd24 ct24), sl24⟩)
    (dl24 : K.lookup dt24 = some ⟨.type "tuple", none, .seq #[(.ref de24_0)] dn24, ds24⟩)
    (del24_0 : K.lookup de24_0 = some ⟨.type "tuple", none, .seq #[] den24_0, des24_0⟩)
    (c24 : PySem.W.codeIn K cd24 "resume_guard" = true)
    (k24 : PySem.W.keepIn K (.ref f24) = true)
    (a25 : PySem.W.nsIn K mainGlobals "_law_call" = some (some (.ref f25)))
    (l25 : K.lookup f25 = some ⟨oc25, od25, .func (PySem.W.fnOf "_law_call" "_law_call" (defArgs (topS 66)) (defBody (topS 66)) (defScope (topS 66)) .none kV25 dc25 pm25 an25 cd25 ct25), sl25⟩)
    (c25 : PySem.W.codeIn K cd25 "_law_call" = true)
    (k25 : PySem.W.keepIn K (.ref f25) = true)
    (a26 : PySem.W.nsIn K mainGlobals "_law_all_flags" = some (some (.ref f26)))
    (l26 : K.lookup f26 = some ⟨oc26, od26, .func (PySem.W.fnOf "_law_all_flags" "_law_all_flags" (defArgs (topS 68)) (defBody (topS 68)) (defScope (topS 68)) .none kV26 dc26 pm26 an26 cd26 ct26), sl26⟩)
    (c26 : PySem.W.codeIn K cd26 "_law_all_flags" = true)
    (k26 : PySem.W.keepIn K (.ref f26) = true)
    (a27 : PySem.W.nsIn K mainGlobals "_law_mix" = some (some (.ref f27)))
    (l27 : K.lookup f27 = some ⟨oc27, od27, .func (PySem.W.fnOf "_law_mix" "_law_mix" (defArgs (topS 56)) (defBody (topS 56)) (defScope (topS 56)) .none kV27 dc27 pm27 an27 cd27 ct27), sl27⟩)
    (c27 : PySem.W.codeIn K cd27 "_law_mix" = true)
    (k27 : PySem.W.keepIn K (.ref f27) = true)
    (a28 : PySem.W.nsIn K mainGlobals "_law_draw" = some (some (.ref f28)))
    (l28 : K.lookup f28 = some ⟨oc28, od28, .func (PySem.W.fnOf "_law_draw" "_law_draw" (defArgs (topS 58)) (defBody (topS 58)) (defScope (topS 58)) .none kV28 dc28 pm28 an28 cd28 ct28), sl28⟩)
    (c28 : PySem.W.codeIn K cd28 "_law_draw" = true)
    (k28 : PySem.W.keepIn K (.ref f28) = true)
    (a29 : PySem.W.nsIn K mainGlobals "_law_spots" = some (some (.ref f29)))
    (l29 : K.lookup f29 = some ⟨oc29, od29, .func (PySem.W.fnOf "_law_spots" "_law_spots" (defArgs (topS 67)) (defBody (topS 67)) (defScope (topS 67)) .none kV29 dc29 pm29 an29 cd29 ct29), sl29⟩)
    (c29 : PySem.W.codeIn K cd29 "_law_spots" = true)
    (k29 : PySem.W.keepIn K (.ref f29) = true)
    (a30 : PySem.W.nsIn K mainGlobals "_law_asks" = some (some (.ref f30)))
    (l30 : K.lookup f30 = some ⟨oc30, od30, .func (PySem.W.fnOf "_law_asks" "_law_asks" (defArgs (topS 65)) (defBody (topS 65)) (defScope (topS 65)) .none kV30 dc30 pm30 an30 cd30 ct30), sl30⟩)
    (c30 : PySem.W.codeIn K cd30 "_law_asks" = true)
    (k30 : PySem.W.keepIn K (.ref f30) = true)
    (a31 : PySem.W.findIn K (.ref C1) "__init__" = some (some (.ref f31)))
    (i31 : PySem.W.typeIn K (.ref f31) = some (.type "function"))
    (l31 : K.lookup f31 = some ⟨oc31, od31, .func (PySem.W.fnOf "__init__" "InvalidSite.__init__" (defArgs (inClass (topS 3) 0)) (defBody (inClass (topS 3) 0)) (defScope (inClass (topS 3) 0)) .none kV31 dc31 pm31 an31 cd31 ct31), sl31⟩)
    (c31 : PySem.W.codeIn K cd31 "InvalidSite.__init__" = true)
    (k31 : PySem.W.keepIn K (.ref f31) = true)
    (a32 : PySem.W.nsIn K mainGlobals "may_branch" = some (some (.ref f32)))
    (l32 : K.lookup f32 = some ⟨oc32, od32, .func (PySem.W.fnOf "may_branch" "may_branch" (defArgs (topS 33)) (defBody (topS 33)) (defScope (topS 33)) .none kV32 dc32 pm32 an32 cd32 ct32), sl32⟩)
    (c32 : PySem.W.codeIn K cd32 "may_branch" = true)
    (k32 : PySem.W.keepIn K (.ref f32) = true)
    (a33 : PySem.W.nsIn K mainGlobals "is_row" = some (some (.ref f33)))
    (l33 : K.lookup f33 = some ⟨oc33, od33, .func (PySem.W.fnOf "is_row" "is_row" (defArgs (topS 32)) (defBody (topS 32)) (defScope (topS 32)) .none kV33 dc33 pm33 an33 cd33 ct33), sl33⟩)
    (c33 : PySem.W.codeIn K cd33 "is_row" = true)
    (k33 : PySem.W.keepIn K (.ref f33) = true)
    (a34 : PySem.W.nsIn K mainGlobals "first_wrong_row" = some (some (.ref f34)))
    (l34 : K.lookup f34 = some ⟨oc34, od34, .func (PySem.W.fnOf "first_wrong_row" "first_wrong_row" (defArgs (topS 31)) (defBody (topS 31)) (defScope (topS 31)) .none kV34 dc34 pm34 an34 cd34 ct34), sl34⟩)
    (c34 : PySem.W.codeIn K cd34 "first_wrong_row" = true)
    (k34 : PySem.W.keepIn K (.ref f34) = true)
    (a35 : PySem.W.nsIn K mainGlobals "check_guard" = some (some (.ref f35)))
    (l35 : K.lookup f35 = some ⟨oc35, od35, .func (PySem.W.fnOf "check_guard" "check_guard" (defArgs (topS 30)) (defBody (topS 30)) (defScope (topS 30)) .none kV35 dc35 pm35 an35 cd35 ct35), sl35⟩)
    (c35 : PySem.W.codeIn K cd35 "check_guard" = true)
    (k35 : PySem.W.keepIn K (.ref f35) = true)
    (a36 : PySem.W.nsIn K mainGlobals "names_of" = some (some (.ref f36)))
    (l36 : K.lookup f36 = some ⟨oc36, od36, .func (PySem.W.fnOf "names_of" "names_of" (defArgs (topS 28)) (defBody (topS 28)) (defScope (topS 28)) .none kV36 dc36 pm36 an36 cd36 ct36), sl36⟩)
    (c36 : PySem.W.codeIn K cd36 "names_of" = true)
    (k36 : PySem.W.keepIn K (.ref f36) = true)
    (a37 : PySem.W.nsIn K mainGlobals "is_named_page" = some (some (.ref f37)))
    (l37 : K.lookup f37 = some ⟨oc37, od37, .func (PySem.W.fnOf "is_named_page" "is_named_page" (defArgs (topS 27)) (defBody (topS 27)) (defScope (topS 27)) .none kV37 dc37 pm37 an37 cd37 ct37), sl37⟩)
    (c37 : PySem.W.codeIn K cd37 "is_named_page" = true)
    (k37 : PySem.W.keepIn K (.ref f37) = true)
    (a38 : PySem.W.nsIn K mainGlobals "is_name" = some (some (.ref f38)))
    (l38 : K.lookup f38 = some ⟨oc38, od38, .func (PySem.W.fnOf "is_name" "is_name" (defArgs (topS 22)) (defBody (topS 22)) (defScope (topS 22)) .none kV38 dc38 pm38 an38 cd38 ct38), sl38⟩)
    (c38 : PySem.W.codeIn K cd38 "is_name" = true)
    (k38 : PySem.W.keepIn K (.ref f38) = true)
    (a39 : PySem.W.nsIn K mainGlobals "are_different_names" = some (some (.ref f39)))
    (l39 : K.lookup f39 = some ⟨oc39, od39, .func (PySem.W.fnOf "are_different_names" "are_different_names" (defArgs (topS 23)) (defBody (topS 23)) (defScope (topS 23)) .none kV39 dc39 pm39 an39 cd39 ct39), sl39⟩)
    (c39 : PySem.W.codeIn K cd39 "are_different_names" = true)
    (k39 : PySem.W.keepIn K (.ref f39) = true)
    (a40 : PySem.W.nsIn K mainGlobals "are_pages" = some (some (.ref f40)))
    (l40 : K.lookup f40 = some ⟨oc40, od40, .func (PySem.W.fnOf "are_pages" "are_pages" (defArgs (topS 26)) (defBody (topS 26)) (defScope (topS 26)) .none kV40 dc40 pm40 an40 cd40 ct40), sl40⟩)
    (c40 : PySem.W.codeIn K cd40 "are_pages" = true)
    (k40 : PySem.W.keepIn K (.ref f40) = true)
    (a41 : PySem.W.nsIn K mainGlobals "are_bits" = some (some (.ref f41)))
    (l41 : K.lookup f41 = some ⟨oc41, od41, .func (PySem.W.fnOf "are_bits" "are_bits" (defArgs (topS 25)) (defBody (topS 25)) (defScope (topS 25)) .none kV41 dc41 pm41 an41 cd41 ct41), sl41⟩)
    (c41 : PySem.W.codeIn K cd41 "are_bits" = true)
    (k41 : PySem.W.keepIn K (.ref f41) = true)
    (a42 : PySem.W.nsIn K mainGlobals "check_site" = some (some (.ref f42)))
    (l42 : K.lookup f42 = some ⟨oc42, od42, .func (PySem.W.fnOf "check_site" "check_site" (defArgs (topS 24)) (defBody (topS 24)) (defScope (topS 24)) .none kV42 dc42 pm42 an42 cd42 ct42), sl42⟩)
    (c42 : PySem.W.codeIn K cd42 "check_site" = true)
    (k42 : PySem.W.keepIn K (.ref f42) = true)
    (a43 : PySem.W.findIn K (.ref C0) "__init__" = some (some (.ref f43)))
    (i43 : PySem.W.isFn K (.ref f43) = true)
    (l43 : K.lookup f43 = some ⟨oc43, od43, .func (PySem.W.fnOf "__init__" "Site.__init__" (defArgs (inClass (topS 20) 0)) (defBody (inClass (topS 20) 0)) (defScope (inClass (topS 20) 0)) .none kV43 dc43 pm43 an43 cd43 ct43), sl43⟩)
    (c43 : PySem.W.codeIn K cd43 "Site.__init__" = true)
    (k43 : PySem.W.keepIn K (.ref f43) = true)
    (a44 : PySem.W.nsIn K mainGlobals "_law_word" = some (some (.ref f44)))
    (l44 : K.lookup f44 = some ⟨oc44, od44, .func (PySem.W.fnOf "_law_word" "_law_word" (defArgs (topS 60)) (defBody (topS 60)) (defScope (topS 60)) .none kV44 dc44 pm44 an44 cd44 ct44), sl44⟩)
    (c44 : PySem.W.codeIn K cd44 "_law_word" = true)
    (k44 : PySem.W.keepIn K (.ref f44) = true)
    (a45 : PySem.W.nsIn K mainGlobals "_law_row" = some (some (.ref f45)))
    (l45 : K.lookup f45 = some ⟨oc45, od45, .func (PySem.W.fnOf "_law_row" "_law_row" (defArgs (topS 62)) (defBody (topS 62)) (defScope (topS 62)) .none kV45 dc45 pm45 an45 cd45 ct45), sl45⟩)
    (c45 : PySem.W.codeIn K cd45 "_law_row" = true)
    (k45 : PySem.W.keepIn K (.ref f45) = true)
    (a46 : PySem.W.nsIn K mainGlobals "_law_rows" = some (some (.ref f46)))
    (l46 : K.lookup f46 = some ⟨oc46, od46, .func (PySem.W.fnOf "_law_rows" "_law_rows" (defArgs (topS 61)) (defBody (topS 61)) (defScope (topS 61)) .none kV46 dc46 pm46 an46 cd46 ct46), sl46⟩)
    (c46 : PySem.W.codeIn K cd46 "_law_rows" = true)
    (k46 : PySem.W.keepIn K (.ref f46) = true)
    (a47 : PySem.W.nsIn K mainGlobals "_law_names" = some (some (.ref f47)))
    (l47 : K.lookup f47 = some ⟨oc47, od47, .func (PySem.W.fnOf "_law_names" "_law_names" (defArgs (topS 59)) (defBody (topS 59)) (defScope (topS 59)) .none kV47 dc47 pm47 an47 cd47 ct47), sl47⟩)
    (c47 : PySem.W.codeIn K cd47 "_law_names" = true)
    (k47 : PySem.W.keepIn K (.ref f47) = true)
    (a48 : PySem.W.nsIn K mainGlobals "_law_parts" = some (some (.ref f48)))
    (l48 : K.lookup f48 = some ⟨oc48, od48, .func (PySem.W.fnOf "_law_parts" "_law_parts" (defArgs (topS 63)) (defBody (topS 63)) (defScope (topS 63)) .none kV48 dc48 pm48 an48 cd48 ct48), sl48⟩)
    (c48 : PySem.W.codeIn K cd48 "_law_parts" = true)
    (k48 : PySem.W.keepIn K (.ref f48) = true)
    (a49 : PySem.W.nsIn K mainGlobals "_law_box" = some (some (.ref f49)))
    (l49 : K.lookup f49 = some ⟨oc49, od49, .func (PySem.W.fnOf "_law_box" "_law_box" (defArgs (topS 57)) (defBody (topS 57)) (defScope (topS 57)) .none kV49 dc49 pm49 an49 cd49 ct49), sl49⟩)
    (c49 : PySem.W.codeIn K cd49 "_law_box" = true)
    (k49 : PySem.W.keepIn K (.ref f49) = true)
    (a50 : PySem.W.nsIn K mainGlobals "law" = some (some (.ref f50)))
    (l50 : K.lookup f50 = some ⟨oc50, od50, .func (PySem.W.fnOf "law" "law" (defArgs (topS 69)) (defBody (topS 69)) (defScope (topS 69)) .none kV50 dc50 pm50 an50 cd50 ct50), sl50⟩)
    (c50 : PySem.W.codeIn K cd50 "law" = true)
    (k50 : PySem.W.keepIn K (.ref f50) = true)
    (z_all : PySem.W.nsIn K mainGlobals "all" = some none)
    (z_any : PySem.W.nsIn K mainGlobals "any" = some none)
    (z_bool : PySem.W.nsIn K mainGlobals "bool" = some none)
    (z_enumerate : PySem.W.nsIn K mainGlobals "enumerate" = some none)
    (z_int : PySem.W.nsIn K mainGlobals "int" = some none)
    (z_isinstance : PySem.W.nsIn K mainGlobals "isinstance" = some none)
    (z_len : PySem.W.nsIn K mainGlobals "len" = some none)
    (z_list : PySem.W.nsIn K mainGlobals "list" = some none)
    (z_range : PySem.W.nsIn K mainGlobals "range" = some none)
    (z_set : PySem.W.nsIn K mainGlobals "set" = some none)
    (z_str : PySem.W.nsIn K mainGlobals "str" = some none)
    (z_tuple : PySem.W.nsIn K mainGlobals "tuple" = some none)
    (n0 : PySem.W.nsIn K mainGlobals "DEEPEST_BRANCHING" = some (some (.int 3 t0)))
    (n1 : PySem.W.nsIn K mainGlobals "FEWEST_PAGES" = some (some (.int 2 t1)))
    (n2 : PySem.W.nsIn K mainGlobals "GREATEST_KEEP" = some (some (.int 4 t2)))
    (n3 : PySem.W.nsIn K mainGlobals "LEAST_KEEP" = some (some (.int 2 t3)))
    (n4 : PySem.W.nsIn K mainGlobals "LETTERS" = some (some (.str "abcdefghijklmnopqrstuvwxyz" t4)))
    (n5 : PySem.W.nsIn K mainGlobals "LONGEST_NAME" = some (some (.int 8 t5)))
    (n6 : PySem.W.nsIn K mainGlobals "MOST_BITS" = some (some (.int 3 t6)))
    (n7 : PySem.W.nsIn K mainGlobals "MOST_PAGES" = some (some (.int 5 t7)))
    (n8 : PySem.W.nsIn K mainGlobals "MOST_ROWS" = some (some (.int 8 t8)))
    (n9 : PySem.W.nsIn K mainGlobals "SIDES" = some (some (.ref ka9)))
    (o9 : K.lookup ka9 = some ⟨.type "tuple", none, .seq #[(.str "enter" t9_0), (.str "leave" t9_1)] nn9, ks9⟩)
    : ∃ fd : FuncData, (∀ (s : Shared) (v : Value), BindsTo s fd ⟨[v], []⟩ [("_law_script", v)]) ∧ ∀ base : Heap, K.In base → base.Ns mainGlobals mg → FnOk l.prog w K mg base (L2.CX l.prog w) 23 fa fd ["_law_script"] (spLaw K) := by
  have e := hfa.symm.trans (PySem.W.mg_of X G a50)
  cases e
  let A : Nat → Addr := fun i => [f0, f1, f2, f3, f4, f5, f6, f7, f8, f9, f10, f11, f12, f13, f14, f15, f16, f17, f18, f19, f20, f21, f22, f23, f24, f25, f26, f27, f28, f29, f30, f31, f32, f33, f34, f35, f36, f37, f38, f39, f40, f41, f42, f43, f44, f45, f46, f47, f48, f49, fa].getD i 0
  let CA : Nat → Addr := fun i => [C0, C1, C2, C3, C4, C5, C6, C7].getD i 0
  let KA : Nat → Addr := fun i => [0, 0, 0, 0, 0, 0, 0, 0, 0, ka9].getD i 0
  let TK : Nat → Tok := fun i => [t0, t1, t2, t3, t4, t5, t6, t7, t8, 0].getD i 0
  have F0 := fun_mk (st := (topS 64)) l0 c0 k0
  have F1 := fun_mk (st := (topS 53)) l1 c1 k1
  have F2 := fun_mk (st := (topS 52)) l2 c2 k2
  have F3 := fun_mk (st := (topS 39)) l3 c3 k3
  have F4 := fun_mk (st := (topS 34)) l4 c4 k4
  have F5 := fun_mk (st := (topS 51)) l5 c5 k5
  have F6 := fun_mk (st := (topS 50)) l6 c6 k6
  have F7 := fun_mk (st := (topS 47)) l7 c7 k7
  have F8 := fun_mk (st := (inClass (topS 4) 0)) l8 c8 k8
  have F9 := fun_mk (st := (inClass (topS 6) 0)) l9 c9 k9
  have F10 := fun_mk (st := (inClass (topS 8) 0)) l10 c10 k10
  have F11 := fun_mk (st := (topS 29)) l11 c11 k11
  have F12 := fun_mk (st := (inClass (topS 20) 3)) l12 c12 k12
  have F13 := fun_mk (st := (topS 48)) l13 c13 k13
  have F14 : FunD K "run_guard" "run_guard" (defArgs (topS 42)) (defBody (topS 42)) (defScope (topS 42)) [.ref de14_0] [] f14 (PySem.W.fnOf "run_guard" "run_guard" (defArgs (topS 42)) (defBody (topS 42)) (defScope (topS 42)) (.ref dt14) kV14 dc14 pm14 an14 cd14 ct14) := ⟨⟨_, _, _, _, _, _, _, _, _, _, rfl, l14, c14, .inr ⟨by simp, dt14, _, _, _, rfl, dl14, rfl, .cons rfl (.nil)⟩, .inl rfl⟩, k14⟩
  have F15 := fun_mk (st := (topS 54)) l15 c15 k15
  have F16 := fun_mk (st := (topS 44)) l16 c16 k16
  have F17 := fun_mk (st := (topS 45)) l17 c17 k17
  have F18 := fun_mk (st := (topS 46)) l18 c18 k18
  have F19 := fun_mk (st := (topS 35)) l19 c19 k19
  have F20 := fun_mk (st := (topS 21)) l20 c20 k20
  have F21 := fun_mk (st := (topS 38)) l21 c21 k21
  have F22 := fun_mk (st := (topS 49)) l22 c22 k22
  have F23 := fun_mk (st := (inClass (topS 7) 0)) l23 c23 k23
  have F24 : FunD K "resume_guard" "resume_guard" (defArgs (topS 43)) (defBody (topS 43)) (defScope (topS 43)) [.ref de24_0] [] f24 (PySem.W.fnOf "resume_guard" "resume_guard" (defArgs (topS 43)) (defBody (topS 43)) (defScope (topS 43)) (.ref dt24) kV24 dc24 pm24 an24 cd24 ct24) := ⟨⟨_, _, _, _, _, _, _, _, _, _, rfl, l24, c24, .inr ⟨by simp, dt24, _, _, _, rfl, dl24, rfl, .cons rfl (.nil)⟩, .inl rfl⟩, k24⟩
  have F25 := fun_mk (st := (topS 66)) l25 c25 k25
  have F26 := fun_mk (st := (topS 68)) l26 c26 k26
  have F27 := fun_mk (st := (topS 56)) l27 c27 k27
  have F28 := fun_mk (st := (topS 58)) l28 c28 k28
  have F29 := fun_mk (st := (topS 67)) l29 c29 k29
  have F30 := fun_mk (st := (topS 65)) l30 c30 k30
  have F31 := fun_mk (st := (inClass (topS 3) 0)) l31 c31 k31
  have F32 := fun_mk (st := (topS 33)) l32 c32 k32
  have F33 := fun_mk (st := (topS 32)) l33 c33 k33
  have F34 := fun_mk (st := (topS 31)) l34 c34 k34
  have F35 := fun_mk (st := (topS 30)) l35 c35 k35
  have F36 := fun_mk (st := (topS 28)) l36 c36 k36
  have F37 := fun_mk (st := (topS 27)) l37 c37 k37
  have F38 := fun_mk (st := (topS 22)) l38 c38 k38
  have F39 := fun_mk (st := (topS 23)) l39 c39 k39
  have F40 := fun_mk (st := (topS 26)) l40 c40 k40
  have F41 := fun_mk (st := (topS 25)) l41 c41 k41
  have F42 := fun_mk (st := (topS 24)) l42 c42 k42
  have F43 := fun_mk (st := (inClass (topS 20) 0)) l43 c43 k43
  have F44 := fun_mk (st := (topS 60)) l44 c44 k44
  have F45 := fun_mk (st := (topS 62)) l45 c45 k45
  have F46 := fun_mk (st := (topS 61)) l46 c46 k46
  have F47 := fun_mk (st := (topS 59)) l47 c47 k47
  have F48 := fun_mk (st := (topS 63)) l48 c48 k48
  have F49 := fun_mk (st := (topS 57)) l49 c49 k49
  have F50 := fun_mk (st := (topS 69)) l50 c50 k50
  let FD : Nat → FuncData := fun i => [PySem.W.fnOf "_law_same" "_law_same" (defArgs (topS 64)) (defBody (topS 64)) (defScope (topS 64)) .none kV0 dc0 pm0 an0 cd0 ct0, PySem.W.fnOf "into_branch" "into_branch" (defArgs (topS 53)) (defBody (topS 53)) (defScope (topS 53)) .none kV1 dc1 pm1 an1 cd1 ct1, PySem.W.fnOf "behind" "behind" (defArgs (topS 52)) (defBody (topS 52)) (defScope (topS 52)) .none kV2 dc2 pm2 an2 cd2 ct2, PySem.W.fnOf "with_item" "with_item" (defArgs (topS 39)) (defBody (topS 39)) (defScope (topS 39)) .none kV3 dc3 pm3 an3 cd3 ct3, PySem.W.fnOf "branches" "branches" (defArgs (topS 34)) (defBody (topS 34)) (defScope (topS 34)) .none kV4 dc4 pm4 an4 cd4 ct4, PySem.W.fnOf "row_or_none" "row_or_none" (defArgs (topS 51)) (defBody (topS 51)) (defScope (topS 51)) .none kV5 dc5 pm5 an5 cd5 ct5, PySem.W.fnOf "go_on" "go_on" (defArgs (topS 50)) (defBody (topS 50)) (defScope (topS 50)) .none kV6 dc6 pm6 an6 cd6 ct6, PySem.W.fnOf "are_flags" "are_flags" (defArgs (topS 47)) (defBody (topS 47)) (defScope (topS 47)) .none kV7 dc7 pm7 an7 cd7 ct7, PySem.W.fnOf "__init__" "InvalidFlags.__init__" (defArgs (inClass (topS 4) 0)) (defBody (inClass (topS 4) 0)) (defScope (inClass (topS 4) 0)) .none kV8 dc8 pm8 an8 cd8 ct8, PySem.W.fnOf "__init__" "InvalidSide.__init__" (defArgs (inClass (topS 6) 0)) (defBody (inClass (topS 6) 0)) (defScope (inClass (topS 6) 0)) .none kV9 dc9 pm9 an9 cd9 ct9, PySem.W.fnOf "__init__" "UnknownPage.__init__" (defArgs (inClass (topS 8) 0)) (defBody (inClass (topS 8) 0)) (defScope (inClass (topS 8) 0)) .none kV10 dc10 pm10 an10 cd10 ct10, PySem.W.fnOf "find_page" "find_page" (defArgs (topS 29)) (defBody (topS 29)) (defScope (topS 29)) .none kV11 dc11 pm11 an11 cd11 ct11, PySem.W.fnOf "guard" "Site.guard" (defArgs (inClass (topS 20) 3)) (defBody (inClass (topS 20) 3)) (defScope (inClass (topS 20) 3)) .none kV12 dc12 pm12 an12 cd12 ct12, PySem.W.fnOf "checked_rows" "checked_rows" (defArgs (topS 48)) (defBody (topS 48)) (defScope (topS 48)) .none kV13 dc13 pm13 an13 cd13 ct13, PySem.W.fnOf "run_guard" "run_guard" (defArgs (topS 42)) (defBody (topS 42)) (defScope (topS 42)) (.ref dt14) kV14 dc14 pm14 an14 cd14 ct14, PySem.W.fnOf "ends_from" "ends_from" (defArgs (topS 54)) (defBody (topS 54)) (defScope (topS 54)) .none kV15 dc15 pm15 an15 cd15 ct15, PySem.W.fnOf "all_ends" "all_ends" (defArgs (topS 44)) (defBody (topS 44)) (defScope (topS 44)) .none kV16 dc16 pm16 an16 cd16 ct16, PySem.W.fnOf "letting_answers" "letting_answers" (defArgs (topS 45)) (defBody (topS 45)) (defScope (topS 45)) .none kV17 dc17 pm17 an17 cd17 ct17, PySem.W.fnOf "lets" "lets" (defArgs (topS 46)) (defBody (topS 46)) (defScope (topS 46)) .none kV18 dc18 pm18 an18 cd18 ct18, PySem.W.fnOf "rows_with_positions" "rows_with_positions" (defArgs (topS 35)) (defBody (topS 35)) (defScope (topS 35)) .none kV19 dc19 pm19 an19 cd19 ct19, PySem.W.fnOf "is_integer" "is_integer" (defArgs (topS 21)) (defBody (topS 21)) (defScope (topS 21)) .none kV20 dc20 pm20 an20 cd20 ct20, PySem.W.fnOf "has_position_form" "has_position_form" (defArgs (topS 38)) (defBody (topS 38)) (defScope (topS 38)) .none kV21 dc21 pm21 an21 cd21 ct21, PySem.W.fnOf "is_ask_position" "is_ask_position" (defArgs (topS 49)) (defBody (topS 49)) (defScope (topS 49)) .none kV22 dc22 pm22 an22 cd22 ct22, PySem.W.fnOf "__init__" "InvalidPosition.__init__" (defArgs (inClass (topS 7) 0)) (defBody (inClass (topS 7) 0)) (defScope (inClass (topS 7) 0)) .none kV23 dc23 pm23 an23 cd23 ct23, PySem.W.fnOf "resume_guard" "resume_guard" (defArgs (topS 43)) (defBody (topS 43)) (defScope (topS 43)) (.ref dt24) kV24 dc24 pm24 an24 cd24 ct24, PySem.W.fnOf "_law_call" "_law_call" (defArgs (topS 66)) (defBody (topS 66)) (defScope (topS 66)) .none kV25 dc25 pm25 an25 cd25 ct25, PySem.W.fnOf "_law_all_flags" "_law_all_flags" (defArgs (topS 68)) (defBody (topS 68)) (defScope (topS 68)) .none kV26 dc26 pm26 an26 cd26 ct26, PySem.W.fnOf "_law_mix" "_law_mix" (defArgs (topS 56)) (defBody (topS 56)) (defScope (topS 56)) .none kV27 dc27 pm27 an27 cd27 ct27, PySem.W.fnOf "_law_draw" "_law_draw" (defArgs (topS 58)) (defBody (topS 58)) (defScope (topS 58)) .none kV28 dc28 pm28 an28 cd28 ct28, PySem.W.fnOf "_law_spots" "_law_spots" (defArgs (topS 67)) (defBody (topS 67)) (defScope (topS 67)) .none kV29 dc29 pm29 an29 cd29 ct29, PySem.W.fnOf "_law_asks" "_law_asks" (defArgs (topS 65)) (defBody (topS 65)) (defScope (topS 65)) .none kV30 dc30 pm30 an30 cd30 ct30, PySem.W.fnOf "__init__" "InvalidSite.__init__" (defArgs (inClass (topS 3) 0)) (defBody (inClass (topS 3) 0)) (defScope (inClass (topS 3) 0)) .none kV31 dc31 pm31 an31 cd31 ct31, PySem.W.fnOf "may_branch" "may_branch" (defArgs (topS 33)) (defBody (topS 33)) (defScope (topS 33)) .none kV32 dc32 pm32 an32 cd32 ct32, PySem.W.fnOf "is_row" "is_row" (defArgs (topS 32)) (defBody (topS 32)) (defScope (topS 32)) .none kV33 dc33 pm33 an33 cd33 ct33, PySem.W.fnOf "first_wrong_row" "first_wrong_row" (defArgs (topS 31)) (defBody (topS 31)) (defScope (topS 31)) .none kV34 dc34 pm34 an34 cd34 ct34, PySem.W.fnOf "check_guard" "check_guard" (defArgs (topS 30)) (defBody (topS 30)) (defScope (topS 30)) .none kV35 dc35 pm35 an35 cd35 ct35, PySem.W.fnOf "names_of" "names_of" (defArgs (topS 28)) (defBody (topS 28)) (defScope (topS 28)) .none kV36 dc36 pm36 an36 cd36 ct36, PySem.W.fnOf "is_named_page" "is_named_page" (defArgs (topS 27)) (defBody (topS 27)) (defScope (topS 27)) .none kV37 dc37 pm37 an37 cd37 ct37, PySem.W.fnOf "is_name" "is_name" (defArgs (topS 22)) (defBody (topS 22)) (defScope (topS 22)) .none kV38 dc38 pm38 an38 cd38 ct38, PySem.W.fnOf "are_different_names" "are_different_names" (defArgs (topS 23)) (defBody (topS 23)) (defScope (topS 23)) .none kV39 dc39 pm39 an39 cd39 ct39, PySem.W.fnOf "are_pages" "are_pages" (defArgs (topS 26)) (defBody (topS 26)) (defScope (topS 26)) .none kV40 dc40 pm40 an40 cd40 ct40, PySem.W.fnOf "are_bits" "are_bits" (defArgs (topS 25)) (defBody (topS 25)) (defScope (topS 25)) .none kV41 dc41 pm41 an41 cd41 ct41, PySem.W.fnOf "check_site" "check_site" (defArgs (topS 24)) (defBody (topS 24)) (defScope (topS 24)) .none kV42 dc42 pm42 an42 cd42 ct42, PySem.W.fnOf "__init__" "Site.__init__" (defArgs (inClass (topS 20) 0)) (defBody (inClass (topS 20) 0)) (defScope (inClass (topS 20) 0)) .none kV43 dc43 pm43 an43 cd43 ct43, PySem.W.fnOf "_law_word" "_law_word" (defArgs (topS 60)) (defBody (topS 60)) (defScope (topS 60)) .none kV44 dc44 pm44 an44 cd44 ct44, PySem.W.fnOf "_law_row" "_law_row" (defArgs (topS 62)) (defBody (topS 62)) (defScope (topS 62)) .none kV45 dc45 pm45 an45 cd45 ct45, PySem.W.fnOf "_law_rows" "_law_rows" (defArgs (topS 61)) (defBody (topS 61)) (defScope (topS 61)) .none kV46 dc46 pm46 an46 cd46 ct46, PySem.W.fnOf "_law_names" "_law_names" (defArgs (topS 59)) (defBody (topS 59)) (defScope (topS 59)) .none kV47 dc47 pm47 an47 cd47 ct47, PySem.W.fnOf "_law_parts" "_law_parts" (defArgs (topS 63)) (defBody (topS 63)) (defScope (topS 63)) .none kV48 dc48 pm48 an48 cd48 ct48, PySem.W.fnOf "_law_box" "_law_box" (defArgs (topS 57)) (defBody (topS 57)) (defScope (topS 57)) .none kV49 dc49 pm49 an49 cd49 ct49, PySem.W.fnOf "law" "law" (defArgs (topS 69)) (defBody (topS 69)) (defScope (topS 69)) .none kV50 dc50 pm50 an50 cd50 ct50].getD i (PySem.W.fnOf "law" "law" (defArgs (topS 69)) (defBody (topS 69)) (defScope (topS 69)) .none kV50 dc50 pm50 an50 cd50 ct50)
  have T : Txt K mg A FD CA KA TK := {
    f__law_same := F0
    b__law_same := F0.binds (ps := ["_law_told", "_law_due"]) fun _ _ _ _ _ _ us hl => match us, hl with | [_, _], _ => rfl
    g__law_same := PySem.W.mg_of X G a0
    f_into_branch := F1
    b_into_branch := F1.binds (ps := ["position", "flag"]) fun _ _ _ _ _ _ us hl => match us, hl with | [_, _], _ => rfl
    g_into_branch := PySem.W.mg_of X G a1
    f_behind := F2
    b_behind := F2.binds (ps := ["position"]) fun _ _ _ _ _ _ us hl => match us, hl with | [_], _ => rfl
    g_behind := PySem.W.mg_of X G a2
    f_with_item := F3
    b_with_item := F3.binds (ps := ["items", "at", "item"]) fun _ _ _ _ _ _ us hl => match us, hl with | [_, _, _], _ => rfl
    g_with_item := PySem.W.mg_of X G a3
    f_branches := F4
    b_branches := F4.binds (ps := ["row"]) fun _ _ _ _ _ _ us hl => match us, hl with | [_], _ => rfl
    g_branches := PySem.W.mg_of X G a4
    f_row_or_none := F5
    b_row_or_none := F5.binds (ps := ["rows", "position"]) fun _ _ _ _ _ _ us hl => match us, hl with | [_, _], _ => rfl
    g_row_or_none := PySem.W.mg_of X G a5
    f_go_on := F6
    b_go_on := F6.binds (ps := ["bits", "rows", "flags", "position", "answers"]) fun _ _ _ _ _ _ us hl => match us, hl with | [_, _, _, _, _], _ => rfl
    g_go_on := PySem.W.mg_of X G a6
    f_are_flags := F7
    b_are_flags := F7.binds (ps := ["site", "value"]) fun _ _ _ _ _ _ us hl => match us, hl with | [_, _], _ => rfl
    g_are_flags := PySem.W.mg_of X G a7
    f_InvalidFlags___init__ := F8
    b_InvalidFlags___init__ := F8.binds (ps := ["self", "flags"]) fun _ _ _ _ _ _ us hl => match us, hl with | [_, _], _ => rfl
    f_InvalidSide___init__ := F9
    b_InvalidSide___init__ := F9.binds (ps := ["self", "side"]) fun _ _ _ _ _ _ us hl => match us, hl with | [_, _], _ => rfl
    f_UnknownPage___init__ := F10
    b_UnknownPage___init__ := F10.binds (ps := ["self", "page"]) fun _ _ _ _ _ _ us hl => match us, hl with | [_, _], _ => rfl
    f_find_page := F11
    b_find_page := F11.binds (ps := ["pages", "page"]) fun _ _ _ _ _ _ us hl => match us, hl with | [_, _], _ => rfl
    g_find_page := PySem.W.mg_of X G a11
    f_Site_guard := F12
    b_Site_guard := F12.binds (ps := ["self", "page", "side"]) fun _ _ _ _ _ _ us hl => match us, hl with | [_, _, _], _ => rfl
    m_Site_guard := ⟨a12, i12, k12⟩
    f_checked_rows := F13
    b_checked_rows := F13.binds (ps := ["site", "page", "side", "flags"]) fun _ _ _ _ _ _ us hl => match us, hl with | [_, _, _, _], _ => rfl
    g_checked_rows := PySem.W.mg_of X G a13
    f_run_guard := ⟨_, _, F14⟩
    k_run_guard := k14
    b_run_guard_5 := by
      obtain ⟨ds, h1, h2⟩ := FunD.binds1 F14 (ps := ["site", "page", "side", "flags", "answers"]) 5 1 (by simp) rfl (fun T kV doc pm an cdv ct us its hl hi => match us, hl, its, hi with | [_, _, _, _, _], _, [_], _ => ⟨_, rfl, rfl⟩)
      exact ⟨[], ds, h1, h2, fun _ _ => repL_nil.mpr rfl⟩
    g_run_guard := PySem.W.mg_of X G a14
    f_ends_from := F15
    b_ends_from := F15.binds (ps := ["bits", "rows", "flags", "position", "given"]) fun _ _ _ _ _ _ us hl => match us, hl with | [_, _, _, _, _], _ => rfl
    g_ends_from := PySem.W.mg_of X G a15
    f_all_ends := F16
    b_all_ends := F16.binds (ps := ["site", "page", "side", "flags"]) fun _ _ _ _ _ _ us hl => match us, hl with | [_, _, _, _], _ => rfl
    g_all_ends := PySem.W.mg_of X G a16
    f_letting_answers := F17
    b_letting_answers := F17.binds (ps := ["site", "page", "side", "flags"]) fun _ _ _ _ _ _ us hl => match us, hl with | [_, _, _, _], _ => rfl
    g_letting_answers := PySem.W.mg_of X G a17
    f_lets := F18
    b_lets := F18.binds (ps := ["site", "page", "side", "flags"]) fun _ _ _ _ _ _ us hl => match us, hl with | [_, _, _, _], _ => rfl
    g_lets := PySem.W.mg_of X G a18
    f_rows_with_positions := F19
    b_rows_with_positions := F19.binds (ps := ["rows", "before"]) fun _ _ _ _ _ _ us hl => match us, hl with | [_, _], _ => rfl
    g_rows_with_positions := PySem.W.mg_of X G a19
    f_is_integer := F20
    b_is_integer := F20.binds (ps := ["value"]) fun _ _ _ _ _ _ us hl => match us, hl with | [_], _ => rfl
    g_is_integer := PySem.W.mg_of X G a20
    f_has_position_form := F21
    b_has_position_form := F21.binds (ps := ["value"]) fun _ _ _ _ _ _ us hl => match us, hl with | [_], _ => rfl
    g_has_position_form := PySem.W.mg_of X G a21
    f_is_ask_position := F22
    b_is_ask_position := F22.binds (ps := ["rows", "value"]) fun _ _ _ _ _ _ us hl => match us, hl with | [_, _], _ => rfl
    g_is_ask_position := PySem.W.mg_of X G a22
    f_InvalidPosition___init__ := F23
    b_InvalidPosition___init__ := F23.binds (ps := ["self", "position"]) fun _ _ _ _ _ _ us hl => match us, hl with | [_, _], _ => rfl
    f_resume_guard := ⟨_, _, F24⟩
    k_resume_guard := k24
    b_resume_guard_6 := by
      obtain ⟨ds, h1, h2⟩ := FunD.binds1 F24 (ps := ["site", "page", "side", "flags", "position", "answers"]) 6 1 (by simp) rfl (fun T kV doc pm an cdv ct us its hl hi => match us, hl, its, hi with | [_, _, _, _, _, _], _, [_], _ => ⟨_, rfl, rfl⟩)
      exact ⟨[], ds, h1, h2, fun _ _ => repL_nil.mpr rfl⟩
    g_resume_guard := PySem.W.mg_of X G a24
    f__law_call := F25
    b__law_call := F25.binds (ps := ["_law_site", "_law_which", "_law_page", "_law_side", "_law_flags", "_law_spot"]) fun _ _ _ _ _ _ us hl => match us, hl with | [_, _, _, _, _, _], _ => rfl
    g__law_call := PySem.W.mg_of X G a25
    f__law_all_flags := F26
    b__law_all_flags := F26.binds (ps := ["_law_flags", "_law_count"]) fun _ _ _ _ _ _ us hl => match us, hl with | [_, _], _ => rfl
    g__law_all_flags := PySem.W.mg_of X G a26
    f__law_mix := F27
    b__law_mix := F27.binds (ps := ["_law_value", "_law_k"]) fun _ _ _ _ _ _ us hl => match us, hl with | [_, _], _ => rfl
    g__law_mix := PySem.W.mg_of X G a27
    f__law_draw := F28
    b__law_draw := F28.binds (ps := ["_law_box_here", "_law_many"]) fun _ _ _ _ _ _ us hl => match us, hl with | [_, _], _ => rfl
    g__law_draw := PySem.W.mg_of X G a28
    f__law_spots := F29
    b__law_spots := F29.binds (ps := ["_law_box_here", "_law_asks_here"]) fun _ _ _ _ _ _ us hl => match us, hl with | [_, _], _ => rfl
    g__law_spots := PySem.W.mg_of X G a29
    f__law_asks := F30
    b__law_asks := F30.binds (ps := ["_law_rows_here", "_law_prefix"]) fun _ _ _ _ _ _ us hl => match us, hl with | [_, _], _ => rfl
    g__law_asks := PySem.W.mg_of X G a30
    f_InvalidSite___init__ := F31
    b_InvalidSite___init__ := F31.binds (ps := ["self", "part", "path"]) fun _ _ _ _ _ _ us hl => match us, hl with | [_, _, _], _ => rfl
    f_may_branch := F32
    b_may_branch := F32.binds (ps := ["position", "row"]) fun _ _ _ _ _ _ us hl => match us, hl with | [_, _], _ => rfl
    g_may_branch := PySem.W.mg_of X G a32
    f_is_row := F33
    b_is_row := F33.binds (ps := ["bits", "names", "side", "position", "row"]) fun _ _ _ _ _ _ us hl => match us, hl with | [_, _, _, _, _], _ => rfl
    g_is_row := PySem.W.mg_of X G a33
    f_first_wrong_row := F34
    b_first_wrong_row := F34.binds (ps := ["bits", "names", "side", "rows", "before"]) fun _ _ _ _ _ _ us hl => match us, hl with | [_, _, _, _, _], _ => rfl
    g_first_wrong_row := PySem.W.mg_of X G a34
    f_check_guard := F35
    b_check_guard := F35.binds (ps := ["bits", "names", "page", "side", "rows"]) fun _ _ _ _ _ _ us hl => match us, hl with | [_, _, _, _, _], _ => rfl
    g_check_guard := PySem.W.mg_of X G a35
    f_names_of := F36
    b_names_of := F36.binds (ps := ["pages"]) fun _ _ _ _ _ _ us hl => match us, hl with | [_], _ => rfl
    g_names_of := PySem.W.mg_of X G a36
    f_is_named_page := F37
    b_is_named_page := F37.binds (ps := ["value"]) fun _ _ _ _ _ _ us hl => match us, hl with | [_], _ => rfl
    g_is_named_page := PySem.W.mg_of X G a37
    f_is_name := F38
    b_is_name := F38.binds (ps := ["value"]) fun _ _ _ _ _ _ us hl => match us, hl with | [_], _ => rfl
    g_is_name := PySem.W.mg_of X G a38
    f_are_different_names := F39
    b_are_different_names := F39.binds (ps := ["values"]) fun _ _ _ _ _ _ us hl => match us, hl with | [_], _ => rfl
    g_are_different_names := PySem.W.mg_of X G a39
    f_are_pages := F40
    b_are_pages := F40.binds (ps := ["value"]) fun _ _ _ _ _ _ us hl => match us, hl with | [_], _ => rfl
    g_are_pages := PySem.W.mg_of X G a40
    f_are_bits := F41
    b_are_bits := F41.binds (ps := ["value"]) fun _ _ _ _ _ _ us hl => match us, hl with | [_], _ => rfl
    g_are_bits := PySem.W.mg_of X G a41
    f_check_site := F42
    b_check_site := F42.binds (ps := ["bits", "pages", "start", "keep"]) fun _ _ _ _ _ _ us hl => match us, hl with | [_, _, _, _], _ => rfl
    g_check_site := PySem.W.mg_of X G a42
    f_Site___init__ := F43
    f__law_word := F44
    b__law_word := F44.binds (ps := ["_law_box_here", "_law_bits", "_law_side", "_law_depth"]) fun _ _ _ _ _ _ us hl => match us, hl with | [_, _, _, _], _ => rfl
    g__law_word := PySem.W.mg_of X G a44
    f__law_row := F45
    b__law_row := F45.binds (ps := ["_law_box_here", "_law_bits", "_law_names_here", "_law_side", "_law_depth", "_law_room"]) fun _ _ _ _ _ _ us hl => match us, hl with | [_, _, _, _, _, _], _ => rfl
    g__law_row := PySem.W.mg_of X G a45
    f__law_rows := F46
    b__law_rows := F46.binds (ps := ["_law_box_here", "_law_bits", "_law_names_here", "_law_side", "_law_depth", "_law_room"]) fun _ _ _ _ _ _ us hl => match us, hl with | [_, _, _, _, _, _], _ => rfl
    g__law_rows := PySem.W.mg_of X G a46
    f__law_names := F47
    b__law_names := F47.binds (ps := ["_law_box_here", "_law_many"]) fun _ _ _ _ _ _ us hl => match us, hl with | [_, _], _ => rfl
    g__law_names := PySem.W.mg_of X G a47
    f__law_parts := F48
    b__law_parts := F48.binds (ps := ["_law_box_here"]) fun _ _ _ _ _ _ us hl => match us, hl with | [_], _ => rfl
    g__law_parts := PySem.W.mg_of X G a48
    f__law_box := F49
    b__law_box := F49.binds (ps := ["_law_script"]) fun _ _ _ _ _ _ us hl => match us, hl with | [_], _ => rfl
    g__law_box := PySem.W.mg_of X G a49
    f_law := F50
    b_law := F50.binds (ps := ["_law_script"]) fun _ _ _ _ _ _ us hl => match us, hl with | [_], _ => rfl
    g_law := PySem.W.mg_of X G a50
    z_all := PySem.W.mg_none_of X G z_all
    z_any := PySem.W.mg_none_of X G z_any
    z_bool := PySem.W.mg_none_of X G z_bool
    z_enumerate := PySem.W.mg_none_of X G z_enumerate
    z_int := PySem.W.mg_none_of X G z_int
    z_isinstance := PySem.W.mg_none_of X G z_isinstance
    z_len := PySem.W.mg_none_of X G z_len
    z_list := PySem.W.mg_none_of X G z_list
    z_range := PySem.W.mg_none_of X G z_range
    z_set := PySem.W.mg_none_of X G z_set
    z_str := PySem.W.mg_none_of X G z_str
    z_tuple := PySem.W.mg_none_of X G z_tuple
    c_DEEPEST_BRANCHING := PySem.W.mg_of X G n0
    c_FEWEST_PAGES := PySem.W.mg_of X G n1
    c_GREATEST_KEEP := PySem.W.mg_of X G n2
    c_LEAST_KEEP := PySem.W.mg_of X G n3
    c_LETTERS := PySem.W.mg_of X G n4
    c_LONGEST_NAME := PySem.W.mg_of X G n5
    c_MOST_BITS := PySem.W.mg_of X G n6
    c_MOST_PAGES := PySem.W.mg_of X G n7
    c_MOST_ROWS := PySem.W.mg_of X G n8
    c_SIDES := PySem.W.mg_of X G n9
    d_SIDES := fun _ _ => rep_tup.mpr ⟨ka9, [(.str "enter"), (.str "leave")], rfl, .inr ⟨_, _, _, o9, rfl, rfl, rfl, (by show 2 ≤ sizeLine; decide), .cons ⟨_, rfl⟩ (.cons ⟨_, rfl⟩ (.nil))⟩, repL_cons.mpr ⟨_, _, rfl, rep_str.mpr rfl, repL_cons.mpr ⟨_, _, rfl, rep_str.mpr rfl, repL_nil.mpr rfl⟩⟩⟩
    cl_0 := ⟨q0_pg, q0_hd, q0_po, q0_sa⟩
    na_0_bits := q0_na_bits
    na_0_pages := q0_na_pages
    na_0_start := q0_na_start
    na_0_keep := q0_na_keep
    mk_0 := ⟨q0_mk, a43, i43, q0_kc⟩
    gc_0 := PySem.W.mg_of X G q0_gc
    kb_0 := ⟨fun s us ws _ h1 h2 => .of_eq (match us, ws, h1, h2 with | [_, _, _, _], [_], _, _ => rfl), fun h1 h2 => h1.append h2⟩
    ei_InvalidSite := ⟨x1_ga, x1_gg, x1_sb, x1_hd, x1_ty, x1_ac, x_sp, x_tk, x1_ob⟩
    ge_InvalidSite := PySem.W.mg_of X G x1_gc
    nf_InvalidSite_part := x1_nf_part
    nf_InvalidSite_path := x1_nf_path
    em_1_1 := xm_1_1
    em_1_2 := xm_1_2
    em_1_3 := xm_1_3
    em_1_4 := xm_1_4
    em_1_5 := xm_1_5
    em_1_6 := xm_1_6
    em_1_7 := xm_1_7
    ei_InvalidFlags := ⟨x2_ga, x2_gg, x2_sb, x2_hd, x2_ty, x2_ac, x_sp, x_tk, x2_ob⟩
    ge_InvalidFlags := PySem.W.mg_of X G x2_gc
    nf_InvalidFlags_flags := x2_nf_flags
    em_2_1 := xm_2_1
    em_2_2 := xm_2_2
    em_2_3 := xm_2_3
    em_2_4 := xm_2_4
    em_2_5 := xm_2_5
    em_2_6 := xm_2_6
    em_2_7 := xm_2_7
    ei_InvalidPosition := ⟨x3_ga, x3_gg, x3_sb, x3_hd, x3_ty, x3_ac, x_sp, x_tk, x3_ob⟩
    ge_InvalidPosition := PySem.W.mg_of X G x3_gc
    nf_InvalidPosition_position := x3_nf_position
    em_3_1 := xm_3_1
    em_3_2 := xm_3_2
    em_3_3 := xm_3_3
    em_3_4 := xm_3_4
    em_3_5 := xm_3_5
    em_3_6 := xm_3_6
    em_3_7 := xm_3_7
    ei_InvalidPath := ⟨x4_ga, x4_gg, x4_sb, x4_hd, x4_ty, x4_ac, x_sp, x_tk, x4_ob⟩
    ge_InvalidPath := PySem.W.mg_of X G x4_gc
    nf_InvalidPath_path := x4_nf_path
    em_4_1 := xm_4_1
    em_4_2 := xm_4_2
    em_4_3 := xm_4_3
    em_4_4 := xm_4_4
    em_4_5 := xm_4_5
    em_4_6 := xm_4_6
    em_4_7 := xm_4_7
    ei_InvalidSide := ⟨x5_ga, x5_gg, x5_sb, x5_hd, x5_ty, x5_ac, x_sp, x_tk, x5_ob⟩
    ge_InvalidSide := PySem.W.mg_of X G x5_gc
    nf_InvalidSide_side := x5_nf_side
    em_5_1 := xm_5_1
    em_5_2 := xm_5_2
    em_5_3 := xm_5_3
    em_5_4 := xm_5_4
    em_5_5 := xm_5_5
    em_5_6 := xm_5_6
    em_5_7 := xm_5_7
    ei_UnknownPage := ⟨x6_ga, x6_gg, x6_sb, x6_hd, x6_ty, x6_ac, x_sp, x_tk, x6_ob⟩
    ge_UnknownPage := PySem.W.mg_of X G x6_gc
    nf_UnknownPage_page := x6_nf_page
    em_6_1 := xm_6_1
    em_6_2 := xm_6_2
    em_6_3 := xm_6_3
    em_6_4 := xm_6_4
    em_6_5 := xm_6_5
    em_6_6 := xm_6_6
    em_6_7 := xm_6_7
    ei_LedError := ⟨x7_ga, x7_gg, x7_sb, x7_hd, x7_ty, x7_ac, x_sp, x_tk, x7_ob⟩
    ge_LedError := PySem.W.mg_of X G x7_gc
    ox_InvalidFlags := ⟨⟨_, _, _, _, _, _, _, _, _, _, _, _, _, _, _, x2_lk, rfl⟩, x2_sa, x2_sb, x2_ty, x2_kc⟩
    xi_InvalidFlags := a8
    ti_InvalidFlags := i8
    ox_InvalidPosition := ⟨⟨_, _, _, _, _, _, _, _, _, _, _, _, _, _, _, x3_lk, rfl⟩, x3_sa, x3_sb, x3_ty, x3_kc⟩
    xi_InvalidPosition := a23
    ti_InvalidPosition := i23
    ox_InvalidSide := ⟨⟨_, _, _, _, _, _, _, _, _, _, _, _, _, _, _, x5_lk, rfl⟩, x5_sa, x5_sb, x5_ty, x5_kc⟩
    xi_InvalidSide := a9
    ti_InvalidSide := i9
    ox_InvalidSite := ⟨⟨_, _, _, _, _, _, _, _, _, _, _, _, _, _, _, x1_lk, rfl⟩, x1_sa, x1_sb, x1_ty, x1_kc⟩
    xi_InvalidSite := a31
    ti_InvalidSite := i31
    ox_UnknownPage := ⟨⟨_, _, _, _, _, _, _, _, _, _, _, _, _, _, _, x6_lk, rfl⟩, x6_sa, x6_sb, x6_ty, x6_kc⟩
    xi_UnknownPage := a10
    ti_UnknownPage := i10
  }
  refine ⟨PySem.W.fnOf "law" "law" (defArgs (topS 69)) (defBody (topS 69)) (defScope (topS 69)) .none kV50 dc50 pm50 an50 cd50 ct50, fun s v => .of_eq rfl, fun base _ _ => ?_⟩
  have R__law_same := ok__law_same (P := l.prog) (w := w) (base := base) T  8
  have G__law_same := R__law_same
  have G_into_branch := ok_into_branch (P := l.prog) (w := w) (base := base) T 
  have G_behind := ok_behind (P := l.prog) (w := w) (base := base) T 
  have G_with_item := ok_with_item (P := l.prog) (w := w) (base := base) T 
  have G_branches := ok_branches (P := l.prog) (w := w) (base := base) T 
  have G_row_or_none := ok_row_or_none (P := l.prog) (w := w) (base := base) T G_branches
  have G_go_on := ok_go_on (P := l.prog) (w := w) (base := base) T G_into_branch G_behind G_with_item G_row_or_none
  have G_are_flags := ok_are_flags (P := l.prog) (w := w) (base := base) T 
  have G_InvalidFlags___init__ := ok_InvalidFlags___init__ (P := l.prog) (w := w) (base := base) T 
  have G_InvalidSide___init__ := ok_InvalidSide___init__ (P := l.prog) (w := w) (base := base) T 
  have G_UnknownPage___init__ := ok_UnknownPage___init__ (P := l.prog) (w := w) (base := base) T 
  have G_find_page := ok_find_page (P := l.prog) (w := w) (base := base) T G_UnknownPage___init__
  have G_Site_guard := ok_Site_guard (P := l.prog) (w := w) (base := base) T G_InvalidSide___init__ G_find_page
  have G_checked_rows := ok_checked_rows (P := l.prog) (w := w) (base := base) T G_are_flags G_InvalidFlags___init__ G_Site_guard
  have G_run_guard := ok_run_guard (P := l.prog) (w := w) (base := base) T G_go_on G_checked_rows
  have R_ends_from := ok_ends_from (P := l.prog) (w := w) (base := base) T G_go_on 10
  have G_ends_from := R_ends_from
  have G_all_ends := ok_all_ends (P := l.prog) (w := w) (base := base) T G_ends_from G_checked_rows
  have G_letting_answers := ok_letting_answers (P := l.prog) (w := w) (base := base) T G_all_ends
  have G_lets := ok_lets (P := l.prog) (w := w) (base := base) T G_letting_answers
  have R_rows_with_positions := ok_rows_with_positions (P := l.prog) (w := w) (base := base) T G_branches 5
  have G_rows_with_positions := R_rows_with_positions
  have G_is_integer := ok_is_integer (P := l.prog) (w := w) (base := base) T 
  have G_has_position_form := ok_has_position_form (P := l.prog) (w := w) (base := base) T G_is_integer
  have G_is_ask_position := ok_is_ask_position (P := l.prog) (w := w) (base := base) T G_rows_with_positions G_has_position_form
  have G_InvalidPosition___init__ := ok_InvalidPosition___init__ (P := l.prog) (w := w) (base := base) T 
  have G_resume_guard := ok_resume_guard (P := l.prog) (w := w) (base := base) T G_go_on G_is_ask_position G_InvalidPosition___init__ G_checked_rows
  have G__law_call := ok__law_call (P := l.prog) (w := w) (base := base) T G_run_guard G_all_ends G_letting_answers G_lets G_resume_guard
  have G__law_all_flags := ok__law_all_flags (P := l.prog) (w := w) (base := base) T 
  have G__law_mix := ok__law_mix (P := l.prog) (w := w) (base := base) T 
  have G__law_draw := ok__law_draw (P := l.prog) (w := w) (base := base) T G__law_mix
  have G__law_spots := ok__law_spots (P := l.prog) (w := w) (base := base) T G__law_draw
  have R__law_asks := ok__law_asks (P := l.prog) (w := w) (base := base) T  5
  have G__law_asks := R__law_asks
  have G_InvalidSite___init__ := ok_InvalidSite___init__ (P := l.prog) (w := w) (base := base) T 
  have G_may_branch := ok_may_branch (P := l.prog) (w := w) (base := base) T 
  have G_is_row := ok_is_row (P := l.prog) (w := w) (base := base) T G_may_branch
  have R_first_wrong_row := ok_first_wrong_row (P := l.prog) (w := w) (base := base) T G_branches G_is_row 5
  have G_first_wrong_row := R_first_wrong_row
  have G_check_guard := ok_check_guard (P := l.prog) (w := w) (base := base) T G_rows_with_positions G_InvalidSite___init__ G_first_wrong_row
  have G_names_of := ok_names_of (P := l.prog) (w := w) (base := base) T 
  have G_is_named_page := ok_is_named_page (P := l.prog) (w := w) (base := base) T 
  have G_is_name := ok_is_name (P := l.prog) (w := w) (base := base) T 
  have G_are_different_names := ok_are_different_names (P := l.prog) (w := w) (base := base) T G_is_name
  have G_are_pages := ok_are_pages (P := l.prog) (w := w) (base := base) T G_is_named_page G_are_different_names G_names_of
  have G_are_bits := ok_are_bits (P := l.prog) (w := w) (base := base) T G_are_different_names
  have G_check_site := ok_check_site (P := l.prog) (w := w) (base := base) T G_is_integer G_InvalidSite___init__ G_check_guard G_names_of G_are_pages G_are_bits
  have G_Site___init__ := ok_Site___init__ (P := l.prog) (w := w) (base := base) T G_check_site
  have G__law_word := ok__law_word (P := l.prog) (w := w) (base := base) T G__law_draw
  have R__law_row := ok__law_row (P := l.prog) (w := w) (base := base) T G__law_draw G__law_word 8
  obtain ⟨G__law_row, G__law_rows⟩ := R__law_row
  have G__law_names := ok__law_names (P := l.prog) (w := w) (base := base) T G__law_draw
  have G__law_parts := ok__law_parts (P := l.prog) (w := w) (base := base) T G__law_draw G__law_rows G__law_names
  have G__law_box := ok__law_box (P := l.prog) (w := w) (base := base) T G__law_mix
  have G_law := ok_law (P := l.prog) (w := w) (base := base) T G__law_same G__law_call G__law_all_flags G__law_draw G__law_spots G__law_asks G_Site___init__ G__law_parts G__law_box
  exact law_imp G_law
theorem walk {l : PySem.W.OpenLaw} {q : Program} {loose : List Str} {XP : (Str → Option Value) → Heap → Prop} {YP : World → Heap → Prop} {d : DefRec} {K : Params → PySem.W.Frag} (hn : l.most = some 63) (hdf : d.params.defaults = [])
    (hY : ∀ (w : World) (h : Heap), YP w h → (K w.params).In h) (F : ∀ (w : World) (mg : Str → Option Value) (fa : Addr) (h : Heap), (K w.params).In h → h.Ns mainGlobals mg → mg d.name = some (.ref fa) →
      ∃ fd : FuncData, (∀ (s : Shared) (u : Value), BindsTo s fd ⟨[u], []⟩ [("_law_script", u)]) ∧ ∀ base : Heap, (K w.params).In base → base.Ns mainGlobals mg → FnOk l.prog w (K w.params) mg base (L2.CX l.prog w) 23 fa fd ["_law_script"] (spLaw (K w.params))) :
    PySem.W.WalkO q loose XP YP l.row.toRowW d [] (fun f vs => PySem.call f vs) :=
  L2.walk_of (n := 63) (k := 23) (x := "_law_script") (CX := fun w => L2.CX l.prog w) (sp := fun w => spLaw (K w.params)) hn (by decide) hdf ⟨rfl, by decide, by decide⟩ hY F (fun w H x ns hl ho hS => ⟨x, ns, rfl, hS, hl, ho, fun _ => rfl⟩) fun w H s e s2 z => by
    obtain ⟨_, _, _, _, _, _, _, _, _, _, _, _, z⟩ := z; exact z.elim
end DL
open PySem PySem.W PyProof.Rows
set_option maxRecDepth 100000 in
set_option maxHeartbeats 0 in
theorem PySem.Challenge.cw_ledelsewhere_k10_guard_refusals_holds : PySem.Challenge.rw_ledelsewhere_k10_guard_refusals.Holds := by
  w_on; o_law; k_head; (case hw => w_witness2)
  k_fill
  refine DL.walk (l := PySem.Challenge.rw_ledelsewhere_k10_guard_refusals) rfl rfl (fun w h Y => PySem.W.kIn_of Y) ?F
  case F =>
    intro w mg fa h KX G hmg
    refine' DL.all_mk KX G hmg ?q0_gc ?q0_pg ?q0_hd ?q0_po ?q0_sa ?q0_mk ?q0_kc ?q0_na_bits ?q0_na_pages ?q0_na_start ?q0_na_keep ?x1_gc ?x1_ga ?x1_gg ?x1_sb ?x1_hd ?x1_ty ?x1_ac ?x1_ob ?x1_nf_part ?x1_nf_path ?x2_gc ?x2_ga ?x2_gg ?x2_sb ?x2_hd ?x2_ty ?x2_ac ?x2_ob ?x2_nf_flags ?x3_gc ?x3_ga ?x3_gg ?x3_sb ?x3_hd ?x3_ty ?x3_ac ?x3_ob ?x3_nf_position ?x4_gc ?x4_ga ?x4_gg ?x4_sb ?x4_hd ?x4_ty ?x4_ac ?x4_ob ?x4_nf_path ?x5_gc ?x5_ga ?x5_gg ?x5_sb ?x5_hd ?x5_ty ?x5_ac ?x5_ob ?x5_nf_side ?x6_gc ?x6_ga ?x6_gg ?x6_sb ?x6_hd ?x6_ty ?x6_ac ?x6_ob ?x6_nf_page ?x7_gc ?x7_ga ?x7_gg ?x7_sb ?x7_hd ?x7_ty ?x7_ac ?x7_ob ?xm_1_1 ?xm_1_2 ?xm_1_3 ?xm_1_4 ?xm_1_5 ?xm_1_6 ?xm_1_7 ?xm_2_1 ?xm_2_2 ?xm_2_3 ?xm_2_4 ?xm_2_5 ?xm_2_6 ?xm_2_7 ?xm_3_1 ?xm_3_2 ?xm_3_3 ?xm_3_4 ?xm_3_5 ?xm_3_6 ?xm_3_7 ?xm_4_1 ?xm_4_2 ?xm_4_3 ?xm_4_4 ?xm_4_5 ?xm_4_6 ?xm_4_7 ?xm_5_1 ?xm_5_2 ?xm_5_3 ?xm_5_4 ?xm_5_5 ?xm_5_6 ?xm_5_7 ?xm_6_1 ?xm_6_2 ?xm_6_3 ?xm_6_4 ?xm_6_5 ?xm_6_6 ?xm_6_7 ?x2_lk ?x2_sa ?x2_kc ?x3_lk ?x3_sa ?x3_kc ?x5_lk ?x5_sa ?x5_kc ?x1_lk ?x1_sa ?x1_kc ?x6_lk ?x6_sa ?x6_kc ?x_sp ?x_tk ?a0 ?l0 ?c0 ?k0 ?a1 ?l1 ?c1 ?k1 ?a2 ?l2 ?c2 ?k2 ?a3 ?l3 ?c3 ?k3 ?a4 ?l4 ?c4 ?k4 ?a5 ?l5 ?c5 ?k5 ?a6 ?l6 ?c6 ?k6 ?a7 ?l7 ?c7 ?k7 ?a8 ?i8 ?l8 ?c8 ?k8 ?a9 ?i9 ?l9 ?c9 ?k9 ?a10 ?i10 ?l10 ?c10 ?k10 ?a11 ?l11 ?c11 ?k11 ?a12 ?i12 ?l12 ?c12 ?k12 ?a13 ?l13 ?c13 ?k13 ?a14 ?l14 ?dl14 ?del14_0 ?c14 ?k14 ?a15 ?l15 ?c15 ?k15 ?a16 ?l16 ?c16 ?k16 ?a17 ?l17 ?c17 ?k17 ?a18 ?l18 ?c18 ?k18 ?a19 ?l19 ?c19 ?k19 ?a20 ?l20 ?c20 ?k20 ?a21 ?l21 ?c21 ?k21 ?a22 ?l22 ?c22 ?k22 ?a23 ?i23 ?l23 ?c23 ?k23 ?a24 ?l24 ?dl24 ?del24_0 ?c24 ?k24 ?a25 ?l25 ?c25 ?k25 ?a26 ?l26 ?c26 ?k26 ?a27 ?l27 ?c27 ?k27 ?a28 ?l28 ?c28 ?k28 ?a29 ?l29 ?c29 ?k29 ?a30 ?l30 ?c30 ?k30 ?a31 ?i31 ?l31 ?c31 ?k31 ?a32 ?l32 ?c32 ?k32 ?a33 ?l33 ?c33 ?k33 ?a34 ?l34 ?c34 ?k34 ?a35 ?l35 ?c35 ?k35 ?a36 ?l36 ?c36 ?k36 ?a37 ?l37 ?c37 ?k37 ?a38 ?l38 ?c38 ?k38 ?a39 ?l39 ?c39 ?k39 ?a40 ?l40 ?c40 ?k40 ?a41 ?l41 ?c41 ?k41 ?a42 ?l42 ?c42 ?k42 ?a43 ?i43 ?l43 ?c43 ?k43 ?a44 ?l44 ?c44 ?k44 ?a45 ?l45 ?c45 ?k45 ?a46 ?l46 ?c46 ?k46 ?a47 ?l47 ?c47 ?k47 ?a48 ?l48 ?c48 ?k48 ?a49 ?l49 ?c49 ?k49 ?a50 ?l50 ?c50 ?k50 ?z_all ?z_any ?z_bool ?z_enumerate ?z_int ?z_isinstance ?z_len ?z_list ?z_range ?z_set ?z_str ?z_tuple ?n0 ?n1 ?n2 ?n3 ?n4 ?n5 ?n6 ?n7 ?n8 ?n9 ?o9
    (case q0_gc => k_is)
    (case q0_pg => k_is)
    (case q0_hd => k_is)
    (case q0_po => k_is)
    (case q0_sa => k_is)
    (case q0_mk => k_is)
    (case q0_kc => k_is)
    (case q0_na_bits => k_is)
    (case q0_na_pages => k_is)
    (case q0_na_start => k_is)
    (case q0_na_keep => k_is)
    (case x1_gc => k_is)
    (case x1_ga => k_is)
    (case x1_gg => k_is)
    (case x1_sb => k_is)
    (case x1_hd => k_is)
    (case x1_ty => k_is)
    (case x1_ac => k_is)
    (case x1_ob => k_is)
    (case x1_nf_part => k_is)
    (case x1_nf_path => k_is)
    (case x2_gc => k_is)
    (case x2_ga => k_is)
    (case x2_gg => k_is)
    (case x2_sb => k_is)
    (case x2_hd => k_is)
    (case x2_ty => k_is)
    (case x2_ac => k_is)
    (case x2_ob => k_is)
    (case x2_nf_flags => k_is)
    (case x3_gc => k_is)
    (case x3_ga => k_is)
    (case x3_gg => k_is)
    (case x3_sb => k_is)
    (case x3_hd => k_is)
    (case x3_ty => k_is)
    (case x3_ac => k_is)
    (case x3_ob => k_is)
    (case x3_nf_position => k_is)
    (case x4_gc => k_is)
    (case x4_ga => k_is)
    (case x4_gg => k_is)
    (case x4_sb => k_is)
    (case x4_hd => k_is)
    (case x4_ty => k_is)
    (case x4_ac => k_is)
    (case x4_ob => k_is)
    (case x4_nf_path => k_is)
    (case x5_gc => k_is)
    (case x5_ga => k_is)
    (case x5_gg => k_is)
    (case x5_sb => k_is)
    (case x5_hd => k_is)
    (case x5_ty => k_is)
    (case x5_ac => k_is)
    (case x5_ob => k_is)
    (case x5_nf_side => k_is)
    (case x6_gc => k_is)
    (case x6_ga => k_is)
    (case x6_gg => k_is)
    (case x6_sb => k_is)
    (case x6_hd => k_is)
    (case x6_ty => k_is)
    (case x6_ac => k_is)
    (case x6_ob => k_is)
    (case x6_nf_page => k_is)
    (case x7_gc => k_is)
    (case x7_ga => k_is)
    (case x7_gg => k_is)
    (case x7_sb => k_is)
    (case x7_hd => k_is)
    (case x7_ty => k_is)
    (case x7_ac => k_is)
    (case x7_ob => k_is)
    (case xm_1_1 => k_is)
    (case xm_1_2 => k_is)
    (case xm_1_3 => k_is)
    (case xm_1_4 => k_is)
    (case xm_1_5 => k_is)
    (case xm_1_6 => k_is)
    (case xm_1_7 => k_is)
    (case xm_2_1 => k_is)
    (case xm_2_2 => k_is)
    (case xm_2_3 => k_is)
    (case xm_2_4 => k_is)
    (case xm_2_5 => k_is)
    (case xm_2_6 => k_is)
    (case xm_2_7 => k_is)
    (case xm_3_1 => k_is)
    (case xm_3_2 => k_is)
    (case xm_3_3 => k_is)
    (case xm_3_4 => k_is)
    (case xm_3_5 => k_is)
    (case xm_3_6 => k_is)
    (case xm_3_7 => k_is)
    (case xm_4_1 => k_is)
    (case xm_4_2 => k_is)
    (case xm_4_3 => k_is)
    (case xm_4_4 => k_is)
    (case xm_4_5 => k_is)
    (case xm_4_6 => k_is)
    (case xm_4_7 => k_is)
    (case xm_5_1 => k_is)
    (case xm_5_2 => k_is)
    (case xm_5_3 => k_is)
    (case xm_5_4 => k_is)
    (case xm_5_5 => k_is)
    (case xm_5_6 => k_is)
    (case xm_5_7 => k_is)
    (case xm_6_1 => k_is)
    (case xm_6_2 => k_is)
    (case xm_6_3 => k_is)
    (case xm_6_4 => k_is)
    (case xm_6_5 => k_is)
    (case xm_6_6 => k_is)
    (case xm_6_7 => k_is)
    (case x2_lk => k_is)
    (case x2_sa => k_is)
    (case x2_kc => k_is)
    (case x3_lk => k_is)
    (case x3_sa => k_is)
    (case x3_kc => k_is)
    (case x5_lk => k_is)
    (case x5_sa => k_is)
    (case x5_kc => k_is)
    (case x1_lk => k_is)
    (case x1_sa => k_is)
    (case x1_kc => k_is)
    (case x6_lk => k_is)
    (case x6_sa => k_is)
    (case x6_kc => k_is)
    (case x_sp => k_is)
    (case x_tk => k_is)
    (case a0 => k_is)
    (case l0 => k_is)
    (case c0 => k_is)
    (case k0 => k_is)
    (case a1 => k_is)
    (case l1 => k_is)
    (case c1 => k_is)
    (case k1 => k_is)
    (case a2 => k_is)
    (case l2 => k_is)
    (case c2 => k_is)
    (case k2 => k_is)
    (case a3 => k_is)
    (case l3 => k_is)
    (case c3 => k_is)
    (case k3 => k_is)
    (case a4 => k_is)
    (case l4 => k_is)
    (case c4 => k_is)
    (case k4 => k_is)
    (case a5 => k_is)
    (case l5 => k_is)
    (case c5 => k_is)
    (case k5 => k_is)
    (case a6 => k_is)
    (case l6 => k_is)
    (case c6 => k_is)
    (case k6 => k_is)
    (case a7 => k_is)
    (case l7 => k_is)
    (case c7 => k_is)
    (case k7 => k_is)
    (case a8 => k_is)
    (case i8 => k_is)
    (case l8 => k_is)
    (case c8 => k_is)
    (case k8 => k_is)
    (case a9 => k_is)
    (case i9 => k_is)
    (case l9 => k_is)
    (case c9 => k_is)
    (case k9 => k_is)
    (case a10 => k_is)
    (case i10 => k_is)
    (case l10 => k_is)
    (case c10 => k_is)
    (case k10 => k_is)
    (case a11 => k_is)
    (case l11 => k_is)
    (case c11 => k_is)
    (case k11 => k_is)
    (case a12 => k_is)
    (case i12 => k_is)
    (case l12 => k_is)
    (case c12 => k_is)
    (case k12 => k_is)
    (case a13 => k_is)
    (case l13 => k_is)
    (case c13 => k_is)
    (case k13 => k_is)
    (case a14 => k_is)
    (case l14 => k_is)
    (case dl14 => k_is)
    (case del14_0 => k_is)
    (case c14 => k_is)
    (case k14 => k_is)
    (case a15 => k_is)
    (case l15 => k_is)
    (case c15 => k_is)
    (case k15 => k_is)
    (case a16 => k_is)
    (case l16 => k_is)
    (case c16 => k_is)
    (case k16 => k_is)
    (case a17 => k_is)
    (case l17 => k_is)
    (case c17 => k_is)
    (case k17 => k_is)
    (case a18 => k_is)
    (case l18 => k_is)
    (case c18 => k_is)
    (case k18 => k_is)
    (case a19 => k_is)
    (case l19 => k_is)
    (case c19 => k_is)
    (case k19 => k_is)
    (case a20 => k_is)
    (case l20 => k_is)
    (case c20 => k_is)
    (case k20 => k_is)
    (case a21 => k_is)
    (case l21 => k_is)
    (case c21 => k_is)
    (case k21 => k_is)
    (case a22 => k_is)
    (case l22 => k_is)
    (case c22 => k_is)
    (case k22 => k_is)
    (case a23 => k_is)
    (case i23 => k_is)
    (case l23 => k_is)
    (case c23 => k_is)
    (case k23 => k_is)
    (case a24 => k_is)
    (case l24 => k_is)
    (case dl24 => k_is)
    (case del24_0 => k_is)
    (case c24 => k_is)
    (case k24 => k_is)
    (case a25 => k_is)
    (case l25 => k_is)
    (case c25 => k_is)
    (case k25 => k_is)
    (case a26 => k_is)
    (case l26 => k_is)
    (case c26 => k_is)
    (case k26 => k_is)
    (case a27 => k_is)
    (case l27 => k_is)
    (case c27 => k_is)
    (case k27 => k_is)
    (case a28 => k_is)
    (case l28 => k_is)
    (case c28 => k_is)
    (case k28 => k_is)
    (case a29 => k_is)
    (case l29 => k_is)
    (case c29 => k_is)
    (case k29 => k_is)
    (case a30 => k_is)
    (case l30 => k_is)
    (case c30 => k_is)
    (case k30 => k_is)
    (case a31 => k_is)
    (case i31 => k_is)
    (case l31 => k_is)
    (case c31 => k_is)
    (case k31 => k_is)
    (case a32 => k_is)
    (case l32 => k_is)
    (case c32 => k_is)
    (case k32 => k_is)
    (case a33 => k_is)
    (case l33 => k_is)
    (case c33 => k_is)
    (case k33 => k_is)
    (case a34 => k_is)
    (case l34 => k_is)
    (case c34 => k_is)
    (case k34 => k_is)
    (case a35 => k_is)
    (case l35 => k_is)
    (case c35 => k_is)
    (case k35 => k_is)
    (case a36 => k_is)
    (case l36 => k_is)
    (case c36 => k_is)
    (case k36 => k_is)
    (case a37 => k_is)
    (case l37 => k_is)
    (case c37 => k_is)
    (case k37 => k_is)
    (case a38 => k_is)
    (case l38 => k_is)
    (case c38 => k_is)
    (case k38 => k_is)
    (case a39 => k_is)
    (case l39 => k_is)
    (case c39 => k_is)
    (case k39 => k_is)
    (case a40 => k_is)
    (case l40 => k_is)
    (case c40 => k_is)
    (case k40 => k_is)
    (case a41 => k_is)
    (case l41 => k_is)
    (case c41 => k_is)
    (case k41 => k_is)
    (case a42 => k_is)
    (case l42 => k_is)
    (case c42 => k_is)
    (case k42 => k_is)
    (case a43 => k_is)
    (case i43 => k_is)
    (case l43 => k_is)
    (case c43 => k_is)
    (case k43 => k_is)
    (case a44 => k_is)
    (case l44 => k_is)
    (case c44 => k_is)
    (case k44 => k_is)
    (case a45 => k_is)
    (case l45 => k_is)
    (case c45 => k_is)
    (case k45 => k_is)
    (case a46 => k_is)
    (case l46 => k_is)
    (case c46 => k_is)
    (case k46 => k_is)
    (case a47 => k_is)
    (case l47 => k_is)
    (case c47 => k_is)
    (case k47 => k_is)
    (case a48 => k_is)
    (case l48 => k_is)
    (case c48 => k_is)
    (case k48 => k_is)
    (case a49 => k_is)
    (case l49 => k_is)
    (case c49 => k_is)
    (case k49 => k_is)
    (case a50 => k_is)
    (case l50 => k_is)
    (case c50 => k_is)
    (case k50 => k_is)
    (case z_all => k_is)
    (case z_any => k_is)
    (case z_bool => k_is)
    (case z_enumerate => k_is)
    (case z_int => k_is)
    (case z_isinstance => k_is)
    (case z_len => k_is)
    (case z_list => k_is)
    (case z_range => k_is)
    (case z_set => k_is)
    (case z_str => k_is)
    (case z_tuple => k_is)
    (case n0 => k_is)
    (case n1 => k_is)
    (case n2 => k_is)
    (case n3 => k_is)
    (case n4 => k_is)
    (case n5 => k_is)
    (case n6 => k_is)
    (case n7 => k_is)
    (case n8 => k_is)
    (case n9 => k_is)
    (case o9 => k_is)

