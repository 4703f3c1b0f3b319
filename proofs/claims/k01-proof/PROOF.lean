import PyProof.Rows.All
import Wide.All
import OpenK.AllK
import Wide.FinOn
import HandS.ForMost
import HandS.Walk
import HandS.TupAny
import HandS.TupMul
import HandS.Deep
import HandS.Strs
import HandS.IsInst
import HandS.Style
import HandS.ForExc
import HandS.MakeKwOnly
import KE.GoesMore
import KE.GoesEnum
import HandS.Defaults
import HandS.Iter
import HandS.ExcInit
import HandS.ExcField
import HandS.TryMany
import HandS.TryOnly
import HandS.ExcOwn
import HandS.WordsExc
import HandS.ExcIs
import KE.KExcIs
import HandS.Zip
import HandS.OwnEq
import PyProof.InstNe
import HandS.ForDict
import PySem.Challenge.RW_ledelsewhere_k01_site_parts
set_option Elab.async false
set_option linter.all false
set_option maxRecDepth 100000
set_option maxHeartbeats 4000000
namespace DL
open PySem L2

/-! ### data, the store, results -/
inductive D where
  | non | bl (b : Bool) | int (i : Int) | str (s : Str) | tup (ds : List D) | loc (i : Nat)
instance : Inhabited D := ⟨.non⟩
mutual
def D.dec : (a b : D) → Decidable (a = b)
  | .non, .non => .isTrue rfl
  | .bl a, .bl b => if h : a = b then .isTrue (by rw [h]) else .isFalse fun q => h (D.bl.inj q)
  | .int a, .int b => if h : a = b then .isTrue (by rw [h]) else .isFalse fun q => h (D.int.inj q)
  | .str a, .str b => if h : a = b then .isTrue (by rw [h]) else .isFalse fun q => h (D.str.inj q)
  | .tup a, .tup b => match D.decL a b with
    | .isTrue h => .isTrue (by rw [h])
    | .isFalse h => .isFalse fun q => h (D.tup.inj q)
  | .loc a, .loc b => if h : a = b then .isTrue (by rw [h]) else .isFalse fun q => h (D.loc.inj q)
  | .non, .bl _ => .isFalse nofun | .non, .int _ => .isFalse nofun | .non, .str _ => .isFalse nofun | .non, .tup _ => .isFalse nofun | .non, .loc _ => .isFalse nofun
  | .bl _, .non => .isFalse nofun | .bl _, .int _ => .isFalse nofun | .bl _, .str _ => .isFalse nofun | .bl _, .tup _ => .isFalse nofun | .bl _, .loc _ => .isFalse nofun
  | .int _, .non => .isFalse nofun | .int _, .bl _ => .isFalse nofun | .int _, .str _ => .isFalse nofun | .int _, .tup _ => .isFalse nofun | .int _, .loc _ => .isFalse nofun
  | .str _, .non => .isFalse nofun | .str _, .bl _ => .isFalse nofun | .str _, .int _ => .isFalse nofun | .str _, .tup _ => .isFalse nofun | .str _, .loc _ => .isFalse nofun
  | .tup _, .non => .isFalse nofun | .tup _, .bl _ => .isFalse nofun | .tup _, .int _ => .isFalse nofun | .tup _, .str _ => .isFalse nofun | .tup _, .loc _ => .isFalse nofun
  | .loc _, .non => .isFalse nofun | .loc _, .bl _ => .isFalse nofun | .loc _, .int _ => .isFalse nofun | .loc _, .str _ => .isFalse nofun | .loc _, .tup _ => .isFalse nofun
def D.decL : (a b : List D) → Decidable (a = b)
  | [], [] => .isTrue rfl
  | [], _ :: _ => .isFalse nofun
  | _ :: _, [] => .isFalse nofun
  | a :: r, b :: t => match D.dec a b, D.decL r t with
    | .isTrue h, .isTrue q => .isTrue (by rw [h, q])
    | .isFalse h, _ => .isFalse fun z => h (List.cons.inj z).1
    | _, .isFalse q => .isFalse fun z => q (List.cons.inj z).2
end
instance : DecidableEq D := D.dec
inductive SO where
  | lst (ds : List D) | frz (ds : List D) | obj (c : Nat) (fs : List (Str × D)) | dct (kvs : List (Str × D))
  deriving DecidableEq
abbrev Sto := List SO
inductive R (α : Type) where
  | ok (a : α) (st : Sto) | raise (c : Nat) (fs : Option (List (Str × D))) (st : Sto) | stuck
def M (α : Type) := Sto → R α
def M.pure {α : Type} (a : α) : M α := fun st => .ok a st
def M.bind {α β : Type} (m : M α) (f : α → M β) : M β := fun st => match m st with
  | .ok a st' => f a st'
  | .raise c fs st' => .raise c fs st'
  | .stuck => .stuck
instance : Monad M where
  pure := M.pure
  bind := M.bind
def stuck {α : Type} : M α := fun _ => .stuck
def guardM (b : Bool) : M Unit := fun st => if b then .ok () st else .stuck
theorem pure_run {α : Type} (a : α) (st : Sto) : (pure a : M α) st = .ok a st := rfl
theorem bind_run {α β : Type} (m : M α) (f : α → M β) (st : Sto) : (m >>= f) st = match m st with
  | .ok a st' => f a st'
  | .raise c fs st' => .raise c fs st'
  | .stuck => .stuck := rfl
theorem bind_ok {α β : Type} {m : M α} {f : α → M β} {st st' : Sto} {a : α} (h : m st = .ok a st') : (m >>= f) st = f a st' := by rw [bind_run, h]

/-! ### what stands for what -/
/-- a tuple whose object has no dict of its own: laid and known, or of the written part -/
def KTup (K : PySem.W.Frag) (a : Addr) (xs : List V) : Prop :=
  ∃ (o : Obj) (its : Array Value) (n : Nat), K.lookup a = some o ∧ o.cls = .type "tuple" ∧ o.dict = none ∧ o.data = .seq its n ∧ its.size ≤ sizeLine ∧ Vals xs its.toList
def TupR (K : PySem.W.Frag) (H : Hp) (a : Addr) (xs : List V) : Prop := (∃ o : Obj, o.dict = none ∧ H a = some (.frz o (.tup xs))) ∨ KTup K a xs
theorem TupR.sq {K : PySem.W.Frag} {H : Hp} {a : Addr} {xs : List V} (h : TupR K H a xs) : SqT K H a xs := by
  rcases h with ⟨o, _, h⟩ | ⟨o, its, n, h1, h2, _, h4, h5, h6⟩
  · exact .inl (.inr ⟨o, h⟩)
  · exact .inr ⟨o, its, n, h1, h2, h4, h5, h6⟩
mutual
def Rep (K : PySem.W.Frag) (μ : List Addr) (H : Hp) : D → V → Prop
  | .non, v => v = .non
  | .bl b, v => v = .bl b
  | .int i, v => v = .int i
  | .str s, v => v = .str s
  | .tup ds, v => ∃ a vs, v = .ref a ∧ TupR K H a vs ∧ RepL K μ H ds vs
  | .loc i, v => ∃ a, μ[i]? = some a ∧ v = .ref a
def RepL (K : PySem.W.Frag) (μ : List Addr) (H : Hp) : List D → List V → Prop
  | [], vs => vs = []
  | d :: ds, vs => ∃ v r, vs = v :: r ∧ Rep K μ H d v ∧ RepL K μ H ds r
end
def RepF (K : PySem.W.Frag) (μ : List Addr) (H : Hp) : List (Str × D) → List (Str × V) → Prop
  | [], fvs => fvs = []
  | (n, d) :: fs, fvs => ∃ v r, fvs = (n, v) :: r ∧ Rep K μ H d v ∧ RepF K μ H fs r
/-- a later world -/
structure Ext (K : PySem.W.Frag) (μ : List Addr) (H : Hp) (μ' : List Addr) (H' : Hp) : Prop where
  pre : ∀ (i : Nat) a, μ[i]? = some a → μ'[i]? = some a
  tup : ∀ a xs, TupR K H a xs → TupR K H' a xs
theorem Ext.refl {K : PySem.W.Frag} {μ : List Addr} {H : Hp} : Ext K μ H μ H := ⟨fun _ _ h => h, fun _ _ h => h⟩
theorem Ext.trans {K : PySem.W.Frag} {μ μ1 μ2 : List Addr} {H H1 H2 : Hp} (a : Ext K μ H μ1 H1) (b : Ext K μ1 H1 μ2 H2) : Ext K μ H μ2 H2 :=
  ⟨fun i x h => b.pre i x (a.pre i x h), fun x xs h => b.tup x xs (a.tup x xs h)⟩
mutual
theorem Rep.mono {K : PySem.W.Frag} {μ μ' : List Addr} {H H' : Hp} (e : Ext K μ H μ' H') : ∀ {d : D} {v : V}, Rep K μ H d v → Rep K μ' H' d v
  | .non, v, h => by unfold Rep at h ⊢; exact h
  | .bl b, v, h => by unfold Rep at h ⊢; exact h
  | .int i, v, h => by unfold Rep at h ⊢; exact h
  | .str s, v, h => by unfold Rep at h ⊢; exact h
  | .tup ds, v, h => by
    unfold Rep at h ⊢
    obtain ⟨a, vs, rfl, h1, h2⟩ := h
    exact ⟨a, vs, rfl, e.tup _ _ h1, RepL.mono e h2⟩
  | .loc i, v, h => by
    unfold Rep at h ⊢
    obtain ⟨a, h1, rfl⟩ := h
    exact ⟨a, e.pre _ _ h1, rfl⟩
theorem RepL.mono {K : PySem.W.Frag} {μ μ' : List Addr} {H H' : Hp} (e : Ext K μ H μ' H') : ∀ {ds : List D} {vs : List V}, RepL K μ H ds vs → RepL K μ' H' ds vs
  | [], vs, h => by unfold RepL at h ⊢; exact h
  | d :: ds, vs, h => by
    unfold RepL at h ⊢
    obtain ⟨v, r, rfl, h1, h2⟩ := h
    exact ⟨v, r, rfl, Rep.mono e h1, RepL.mono e h2⟩
end
theorem RepF.mono {K : PySem.W.Frag} {μ μ' : List Addr} {H H' : Hp} (e : Ext K μ H μ' H') : ∀ {ds : List (Str × D)} {vs : List (Str × V)}, RepF K μ H ds vs → RepF K μ' H' ds vs
  | [], vs, h => h
  | (n, d) :: ds, vs, h => by
    obtain ⟨v, r, rfl, h1, h2⟩ := h
    exact ⟨v, r, rfl, h1.mono e, RepF.mono e h2⟩
section
variable {K : PySem.W.Frag} {μ : List Addr} {H : Hp}
theorem rep_non {v : V} : Rep K μ H .non v ↔ v = .non := by unfold Rep; exact Iff.rfl
theorem rep_bl {b} {v : V} : Rep K μ H (.bl b) v ↔ v = .bl b := by unfold Rep; exact Iff.rfl
theorem rep_int {i} {v : V} : Rep K μ H (.int i) v ↔ v = .int i := by unfold Rep; exact Iff.rfl
theorem rep_str {s} {v : V} : Rep K μ H (.str s) v ↔ v = .str s := by unfold Rep; exact Iff.rfl
theorem rep_tup {ds} {v : V} : Rep K μ H (.tup ds) v ↔ ∃ a vs, v = .ref a ∧ TupR K H a vs ∧ RepL K μ H ds vs := by conv => lhs; unfold Rep
theorem rep_loc {i} {v : V} : Rep K μ H (.loc i) v ↔ ∃ a, μ[i]? = some a ∧ v = .ref a := by conv => lhs; unfold Rep
theorem repL_nil {vs : List V} : RepL K μ H [] vs ↔ vs = [] := by conv => lhs; unfold RepL
theorem repL_cons {d ds} {vs : List V} : RepL K μ H (d :: ds) vs ↔ ∃ v r, vs = v :: r ∧ Rep K μ H d v ∧ RepL K μ H ds r := by conv => lhs; unfold RepL
theorem RepL.length : ∀ {ds : List D} {vs : List V}, RepL K μ H ds vs → vs.length = ds.length
  | [], vs, h => by rw [repL_nil] at h; subst h; rfl
  | d :: ds, vs, h => by rw [repL_cons] at h; obtain ⟨v, r, rfl, _, h2⟩ := h; simp [RepL.length h2]
theorem RepL.get : ∀ {ds : List D} {vs : List V} {i : Nat} {d : D}, RepL K μ H ds vs → ds[i]? = some d → ∃ v, vs[i]? = some v ∧ Rep K μ H d v
  | [], _, _, _, _, e => by simp at e
  | d0 :: ds, vs, 0, d, h, e => by
    rw [repL_cons] at h; obtain ⟨v, r, rfl, h1, h2⟩ := h
    simp at e; subst e; exact ⟨v, by simp, h1⟩
  | d0 :: ds, vs, i + 1, d, h, e => by
    rw [repL_cons] at h; obtain ⟨v, r, rfl, h1, h2⟩ := h
    obtain ⟨w, h3, h4⟩ := RepL.get (i := i) h2 (by simpa using e)
    exact ⟨w, by simpa using h3, h4⟩
theorem RepL.append : ∀ {ds es : List D} {vs ws : List V}, RepL K μ H ds vs → RepL K μ H es ws → RepL K μ H (ds ++ es) (vs ++ ws)
  | [], _, vs, ws, h, q => by rw [repL_nil] at h; subst h; exact q
  | d :: ds, _, vs, ws, h, q => by
    rw [repL_cons] at h; obtain ⟨v, r, rfl, h1, h2⟩ := h
    show RepL K μ H (d :: (ds ++ _)) (v :: (r ++ ws))
    rw [repL_cons]; exact ⟨v, _, rfl, h1, RepL.append h2 q⟩
theorem RepL.take : ∀ (n : Nat) {ds : List D} {vs : List V}, RepL K μ H ds vs → RepL K μ H (ds.take n) (vs.take n)
  | 0, _, _, _ => by simp [repL_nil]
  | n + 1, [], vs, h => by rw [repL_nil] at h; subst h; simp [repL_nil]
  | n + 1, d :: ds, vs, h => by
    rw [repL_cons] at h; obtain ⟨v, r, rfl, h1, h2⟩ := h
    simp only [List.take_succ_cons]; rw [repL_cons]; exact ⟨v, _, rfl, h1, RepL.take n h2⟩
theorem RepL.drop : ∀ (n : Nat) {ds : List D} {vs : List V}, RepL K μ H ds vs → RepL K μ H (ds.drop n) (vs.drop n)
  | 0, _, _, h => by simpa using h
  | n + 1, [], vs, h => by rw [repL_nil] at h; subst h; simp [repL_nil]
  | n + 1, d :: ds, vs, h => by
    rw [repL_cons] at h; obtain ⟨v, r, rfl, h1, h2⟩ := h
    simpa using RepL.drop n h2
theorem RepL.set : ∀ (i : Nat) {d : D} {v : V} {ds : List D} {vs : List V}, RepL K μ H ds vs → Rep K μ H d v → RepL K μ H (ds.set i d) (vs.set i v)
  | _, _, _, [], vs, h, _ => by rw [repL_nil] at h; subst h; simp [repL_nil]
  | 0, d, v, d0 :: ds, vs, h, q => by
    rw [repL_cons] at h; obtain ⟨v0, r, rfl, h1, h2⟩ := h
    simp only [List.set_cons_zero]; rw [repL_cons]; exact ⟨v, r, rfl, q, h2⟩
  | i + 1, d, v, d0 :: ds, vs, h, q => by
    rw [repL_cons] at h; obtain ⟨v0, r, rfl, h1, h2⟩ := h
    simp only [List.set_cons_succ]; rw [repL_cons]; exact ⟨v0, _, rfl, h1, RepL.set i h2 q⟩
theorem RepL.one {d : D} {v : V} (h : Rep K μ H d v) : RepL K μ H [d] [v] := by
  rw [repL_cons]; exact ⟨v, [], rfl, h, repL_nil.mpr rfl⟩
theorem RepL.single {d : D} {vs : List V} (h : RepL K μ H [d] vs) : ∃ v, vs = [v] ∧ Rep K μ H d v := by
  rw [repL_cons] at h; obtain ⟨v, r, rfl, h1, h2⟩ := h
  rw [repL_nil] at h2; subst h2; exact ⟨v, rfl, h1⟩
theorem RepL.pair {d e : D} {vs : List V} (h : RepL K μ H [d, e] vs) : ∃ v w, vs = [v, w] ∧ Rep K μ H d v ∧ Rep K μ H e w := by
  rw [repL_cons] at h; obtain ⟨v, r, rfl, h1, h2⟩ := h
  obtain ⟨w, rfl, h3⟩ := h2.single
  exact ⟨v, w, rfl, h1, h3⟩
end

/-! ### the store in the heap -/
/-- a list of the written part -/
def KLst (K : PySem.W.Frag) (a : Addr) (xs : List V) : Prop :=
  ∃ (o : Obj) (its : Array Value) (n : Nat), K.lookup a = some o ∧ o.cls = .type "list" ∧ o.dict = none ∧ o.data = .seq its n ∧ its.size ≤ sizeLine ∧ Vals xs its.toList
def ObjR (K : PySem.W.Frag) (ca : Nat → Addr) (μ : List Addr) (H : Hp) (a : Addr) : SO → Prop
  | .lst ds => ∃ vs, H a = some (.lst vs) ∧ RepL K μ H ds vs
  | .frz ds => ∃ vs, ((∃ o, H a = some (.frz o (.lst vs))) ∨ KLst K a vs) ∧ RepL K μ H ds vs
  | .obj c fs => ∃ dx fvs, H a = some (.ins (ca c) dx fvs) ∧ RepF K μ H fs fvs
  | .dct kvs => ∃ fvs, H a = some (.dK (fvs.map fun (q : Str × V) => ((Sum.inr q.1 : Key), q.2))) ∧ RepF K μ H kvs fvs
def SO.mut : SO → Bool
  | .frz _ => false
  | _ => true
structure Sim (K : PySem.W.Frag) (ca : Nat → Addr) (μ : List Addr) (st : Sto) (H : Hp) : Prop where
  len : μ.length = st.length
  obj : ∀ (i : Nat) a o, μ[i]? = some a → st[i]? = some o → ObjR K ca μ H a o
  inj : ∀ (i j : Nat) a o u, μ[i]? = some a → μ[j]? = some a → st[i]? = some o → st[j]? = some u → o.mut = true → u.mut = true → i = j
section
variable {K : PySem.W.Frag} {ca : Nat → Addr} {μ : List Addr} {st : Sto} {H : Hp}
theorem TupR.updM {p : Addr} {o : HO} {a : Addr} {xs : List V} (h : H p = none ∨ Mut (H p)) (q : TupR K H a xs) : TupR K (upd H p o) a xs := by
  rcases q with ⟨ob, hd, q⟩ | q
  · refine .inl ⟨ob, hd, ?_⟩
    rw [upd_ne]; exact q
    rintro rfl
    rcases h with h | h <;> rw [q] at h
    · cases h
    · exact h
  · exact .inr q
theorem Ext.updM {p : Addr} {o : HO} (h : H p = none ∨ Mut (H p)) : Ext K μ H μ (upd H p o) := ⟨fun _ _ z => z, fun _ _ z => TupR.updM h z⟩
theorem ObjR.mono {μ' : List Addr} {H' : Hp} {a : Addr} {o : SO} (e : Ext K μ H μ' H') (ha : ∀ u, H a = some u → H' a = some u) (h : ObjR K ca μ H a o) : ObjR K ca μ' H' a o := by
  cases o with
  | lst ds => obtain ⟨vs, h1, h2⟩ := h; exact ⟨vs, ha _ h1, h2.mono e⟩
  | frz ds =>
    obtain ⟨vs, h1, h2⟩ := h
    refine ⟨vs, ?_, h2.mono e⟩
    rcases h1 with ⟨o, h1⟩ | h1
    · exact .inl ⟨o, ha _ h1⟩
    · exact .inr h1
  | obj c fs => obtain ⟨dx, fvs, h1, h2⟩ := h; exact ⟨dx, fvs, ha _ h1, h2.mono e⟩
  | dct kvs => obtain ⟨fvs, h1, h2⟩ := h; exact ⟨fvs, ha _ h1, h2.mono e⟩
/-- where all that was tracked stays -/
theorem Sim.same {H' : Hp} (s : Sim K ca μ st H) (e : Ext K μ H μ H') (h : ∀ a u, H a = some u → H' a = some u) : Sim K ca μ st H' :=
  ⟨s.len, fun i a o h1 h2 => (s.obj i a o h1 h2).mono e (h a), s.inj⟩
theorem same_fresh {p : Addr} {o : HO} (hp : H p = none) : ∀ a u, H a = some u → upd H p o a = some u := fun a u h => by rw [upd_ne (ne_of_none h hp)]; exact h
theorem Sim.fresh {p : Addr} {o : HO} (s : Sim K ca μ st H) (hp : H p = none) : Sim K ca μ st (upd H p o) := s.same (.updM (.inl hp)) (same_fresh hp)
theorem get_app_lt {α : Type} {xs : List α} {x a : α} {i : Nat} (h : xs[i]? = some a) : (xs ++ [x])[i]? = some a := by
  have : i < xs.length := (List.getElem?_eq_some_iff.mp h).1
  rw [List.getElem?_append_left this]; exact h
theorem get_app {α : Type} {xs : List α} {x a : α} {i : Nat} (h : (xs ++ [x])[i]? = some a) : xs[i]? = some a ∨ (i = xs.length ∧ a = x) := by
  by_cases hi : i < xs.length
  · left; rw [List.getElem?_append_left hi] at h; exact h
  · right
    rw [List.getElem?_append_right (by omega)] at h
    have : i - xs.length = 0 := by
      cases q : i - xs.length with
      | zero => rfl
      | succ n => rw [q] at h; simp at h
    rw [this] at h; simp at h
    exact ⟨by omega, h.symm⟩
theorem Ext.push {p : Addr} {o : HO} (hp : H p = none) : Ext K μ H (μ ++ [p]) (upd H p o) := ⟨fun _ _ h => get_app_lt h, fun _ _ z => TupR.updM (.inl hp) z⟩
theorem ObjR.there {a : Addr} {o : SO} (h : ObjR K ca μ H a o) (hm : o.mut = true) : ∃ u, H a = some u := by
  cases o with
  | lst ds => obtain ⟨vs, h1, _⟩ := h; exact ⟨_, h1⟩
  | frz ds => cases hm
  | obj c fs => obtain ⟨dx, fvs, h1, h2⟩ := h; exact ⟨_, h1⟩
  | dct kvs => obtain ⟨fvs, h1, h2⟩ := h; exact ⟨_, h1⟩
/-- a new object -/
theorem Sim.push {p : Addr} {o : HO} {so : SO} (s : Sim K ca μ st H) (hp : H p = none) (ho : ObjR K ca (μ ++ [p]) (upd H p o) p so) : Sim K ca (μ ++ [p]) (st ++ [so]) (upd H p o) := by
  refine ⟨by simp [s.len], fun i a u h1 h2 => ?_, fun i j a u w h1 h2 h3 h4 m1 m2 => ?_⟩
  · rcases get_app h1 with h1 | ⟨rfl, rfl⟩
    · have : i < st.length := by rw [← s.len]; exact (List.getElem?_eq_some_iff.mp h1).1
      rw [List.getElem?_append_left this] at h2
      exact (s.obj i a u h1 h2).mono (.push hp) (same_fresh hp a)
    · rw [s.len] at h2
      rw [List.getElem?_append_right (Nat.le_refl _), Nat.sub_self] at h2
      simp at h2; subst h2; exact ho
  · have back : ∀ {i : Nat} {a : Addr} {u : SO}, μ[i]? = some a → (st ++ [so])[i]? = some u → st[i]? = some u := fun {i a u} h1 h2 => by
      have : i < st.length := by rw [← s.len]; exact (List.getElem?_eq_some_iff.mp h1).1
      rw [List.getElem?_append_left this] at h2; exact h2
    rcases get_app h1 with g1 | ⟨e1, e1'⟩
    · rcases get_app h2 with g2 | ⟨e2, e2'⟩
      · exact s.inj i j a u w g1 g2 (back g1 h3) (back g2 h4) m1 m2
      · obtain ⟨z, hz⟩ := (s.obj i _ u g1 (back g1 h3)).there m1
        rw [e2', hp] at hz; cases hz
    · rcases get_app h2 with g2 | ⟨e2, e2'⟩
      · obtain ⟨z, hz⟩ := (s.obj j _ w g2 (back g2 h4)).there m2
        rw [e1', hp] at hz; cases hz
      · rw [e1, e2]
/-- an object changed -/
theorem Sim.set {i : Nat} {a : Addr} {o : HO} {so so' : SO} (s : Sim K ca μ st H) (hi : μ[i]? = some a) (hs : st[i]? = some so) (hm : so.mut = true) (hM : Mut (H a)) (hm' : so'.mut = true) (ho : ObjR K ca μ (upd H a o) a so') : Sim K ca μ (st.set i so') (upd H a o) := by
  have hlt : i < st.length := (List.getElem?_eq_some_iff.mp hs).1
  refine ⟨by simp [s.len], fun j b u h1 h2 => ?_, fun j k b u w h1 h2 h3 h4 m1 m2 => ?_⟩
  · by_cases hj : j = i
    · subst hj
      rw [List.getElem?_set_self hlt] at h2
      cases h2
      rw [hi] at h1; cases h1
      exact ho
    · rw [List.getElem?_set_ne (Ne.symm hj)] at h2
      have q := s.obj j b u h1 h2
      by_cases hb : b = a
      · subst hb
        -- then u is not changeable: it is of the written part
        cases hu : u.mut with
        | true => exact absurd (s.inj j i b u so h1 hi h2 hs hu hm) hj
        | false =>
          cases u with
          | lst ds => cases hu
          | obj c fs => cases hu
          | dct kvs => cases hu
          | frz ds =>
            obtain ⟨vs, q1, q2⟩ := q
            refine ⟨vs, ?_, q2.mono (.updM (.inr hM))⟩
            rcases q1 with ⟨ob, q1⟩ | q1
            · rw [q1] at hM; exact hM.elim
            · exact .inr q1
      · exact q.mono (.updM (.inr hM)) fun v hv => by rw [upd_ne hb]; exact hv
  · have bk : ∀ {j : Nat} {u : SO}, (st.set i so')[j]? = some u → u.mut = true → ∃ u', st[j]? = some u' ∧ u'.mut = true := fun {j u} h z => by
      by_cases hj : j = i
      · subst hj; exact ⟨so, hs, hm⟩
      · rw [List.getElem?_set_ne (Ne.symm hj)] at h; exact ⟨u, h, z⟩
    obtain ⟨u', e1, n1⟩ := bk h3 m1
    obtain ⟨w', e2, n2⟩ := bk h4 m2
    exact s.inj j k b u' w' h1 h2 e1 e2 n1 n2
theorem Sim.at (s : Sim K ca μ st H) {i : Nat} {o : SO} (h : st[i]? = some o) : ∃ a, μ[i]? = some a ∧ ObjR K ca μ H a o := by
  have : i < μ.length := by rw [s.len]; exact (List.getElem?_eq_some_iff.mp h).1
  exact ⟨μ[i], by simp [this], s.obj i _ o (by simp [this]) h⟩
end
end DL

set_option Elab.async false
set_option linter.all false
set_option maxRecDepth 100000
set_option maxHeartbeats 4000000
namespace DL
open PySem L2
abbrev En := List (Option D)
section
variable (K : PySem.W.Frag) (ca : Nat → Addr)
def XFs (μ : List Addr) (H : Hp) (od : Option Addr) : Option (List (Str × D)) → Prop
  | none => od = none
  | some fs => ∃ d fvs, od = some d ∧ H d = some (.xd fvs) ∧ RepF K μ H fs fvs
def Post {α : Type} (E : XK) (μ : List Addr) (H : Hp) (r : R α) (k : α → Sto → Prop) : Prop := match r with
  | .ok a st => k a st
  | .raise c fs st => ∀ μ' H' od, Ext K μ H μ' H' → Sim K ca μ' st H' → XFs K μ' H' od fs → E (.ref (ca c)) od H'
  | .stuck => False
def KV (μ : List Addr) (H : Hp) (Q : VK) : D → Sto → Prop := fun d st => ∀ μ' H' v, Ext K μ H μ' H' → Sim K ca μ' st H' → Rep K μ' H' d v → Q v H'
def KB (μ : List Addr) (H : Hp) (Q : Bool → Hp → Prop) : Bool → Sto → Prop := fun b st => ∀ μ' H', Ext K μ H μ' H' → Sim K ca μ' st H' → Q b H'
def KA (μ : List Addr) (H : Hp) (Q : List V → Hp → Prop) : List D → Sto → Prop := fun ds st => ∀ μ' H' vs, Ext K μ H μ' H' → Sim K ca μ' st H' → RepL K μ' H' ds vs → Q vs H'
def KU (μ : List Addr) (H : Hp) (Q : Hp → Prop) : Unit → Sto → Prop := fun _ st => ∀ μ' H', Ext K μ H μ' H' → Sim K ca μ' st H' → Q H'
def EnvR (μ : List Addr) (H : Hp) (ρ : En) (σ : St) : Prop := ρ.length = σ.length ∧ ∀ (i : Nat) d, ρ[i]? = some (some d) → ∃ v, σ[i]? = some (some v) ∧ Rep K μ H d v
def KE (μ : List Addr) (H : Hp) (Q : St → Hp → Prop) : En → Sto → Prop := fun ρ st => ∀ μ' H' σ, Ext K μ H μ' H' → Sim K ca μ' st H' → EnvR K μ' H' ρ σ → Q σ H'
end
inductive Ctl where
  | nx (ρ : En) | rt (d : D) | bk (ρ : En) | ct (ρ : En)
section
variable (K : PySem.W.Frag) (ca : Nat → Addr)
def KC (μ : List Addr) (H : Hp) (D : Ends) : Ctl → Sto → Prop := fun c st => ∀ μ' H', Ext K μ H μ' H' → Sim K ca μ' st H' → match c with
  | .nx ρ => ∀ σ, EnvR K μ' H' ρ σ → D.nx σ H'
  | .rt d => ∀ v, Rep K μ' H' d v → D.rt v H'
  | .bk ρ => ∀ σ, EnvR K μ' H' ρ σ → D.bk σ H'
  | .ct ρ => ∀ σ, EnvR K μ' H' ρ σ → D.ct σ H'
end
section
variable {K : PySem.W.Frag} {ca : Nat → Addr} {E : XK} {μ μ' : List Addr} {H H' : Hp} {α β : Type}
theorem Post.bind {m : M α} {f : α → M β} {st : Sto} {k : β → Sto → Prop} : Post K ca E μ H ((m >>= f) st) k ↔ Post K ca E μ H (m st) fun a st' => Post K ca E μ H (f a st') k := by
  rw [bind_run]
  cases m st <;> exact Iff.rfl
theorem Post.mono {r : R α} {k k' : α → Sto → Prop} (h : Post K ca E μ H r k) (e : Ext K μ H μ' H') (hk : ∀ a st, k a st → k' a st) : Post K ca E μ' H' r k' := by
  cases r with
  | ok a st => exact hk a st h
  | raise c fs st => exact fun μ2 H2 od e2 => h μ2 H2 od (e.trans e2)
  | stuck => exact h
theorem Post.imp {r : R α} {k k' : α → Sto → Prop} (h : Post K ca E μ H r k) (hk : ∀ a st, k a st → k' a st) : Post K ca E μ H r k' := h.mono .refl hk
theorem Post.ok {a : α} {st : Sto} {k : α → Sto → Prop} : Post K ca E μ H (.ok a st) k ↔ k a st := Iff.rfl
theorem Post.pure {a : α} {st : Sto} {k : α → Sto → Prop} : Post K ca E μ H ((Pure.pure a : M α) st) k ↔ k a st := Iff.rfl
theorem Post.stuck {st : Sto} {k : α → Sto → Prop} : Post K ca E μ H ((DL.stuck : M α) st) k ↔ False := Iff.rfl
theorem KV.mono {Q : VK} {d : D} {st : Sto} (h : KV K ca μ H Q d st) (e : Ext K μ H μ' H') : KV K ca μ' H' Q d st := fun μ2 H2 v e2 => h μ2 H2 v (e.trans e2)
theorem KB.mono {Q : Bool → Hp → Prop} {d : Bool} {st : Sto} (h : KB K ca μ H Q d st) (e : Ext K μ H μ' H') : KB K ca μ' H' Q d st := fun μ2 H2 e2 => h μ2 H2 (e.trans e2)
theorem KA.mono {Q : List V → Hp → Prop} {d : List D} {st : Sto} (h : KA K ca μ H Q d st) (e : Ext K μ H μ' H') : KA K ca μ' H' Q d st := fun μ2 H2 v e2 => h μ2 H2 v (e.trans e2)
theorem KE.mono {Q : St → Hp → Prop} {d : En} {st : Sto} (h : KE K ca μ H Q d st) (e : Ext K μ H μ' H') : KE K ca μ' H' Q d st := fun μ2 H2 v e2 => h μ2 H2 v (e.trans e2)
theorem KU.mono {Q : Hp → Prop} {d : Unit} {st : Sto} (h : KU K ca μ H Q d st) (e : Ext K μ H μ' H') : KU K ca μ' H' Q d st := fun μ2 H2 e2 => h μ2 H2 (e.trans e2)
theorem KC.mono {Q : Ends} {d : Ctl} {st : Sto} (h : KC K ca μ H Q d st) (e : Ext K μ H μ' H') : KC K ca μ' H' Q d st := fun μ2 H2 e2 => h μ2 H2 (e.trans e2)
theorem EnvR.mono {ρ : En} {σ : St} (h : EnvR K μ H ρ σ) (e : Ext K μ H μ' H') : EnvR K μ' H' ρ σ := ⟨h.1, fun i d q => let ⟨v, h1, h2⟩ := h.2 i d q; ⟨v, h1, h2.mono e⟩⟩
theorem EnvR.set {ρ : En} {σ : St} {d : D} {v : V} (h : EnvR K μ H ρ σ) (i : Nat) (r : Rep K μ H d v) : EnvR K μ H (ρ.set i (some d)) (σ.set i (some v)) := by
  refine ⟨by simp [h.1], fun j e q => ?_⟩
  by_cases hj : j = i
  · subst hj
    have hl : j < ρ.length := by
      have := (List.getElem?_eq_some_iff.mp q).1
      simpa using this
    rw [List.getElem?_set_self hl] at q
    cases q
    exact ⟨v, by rw [List.getElem?_set_self (by rw [← h.1]; exact hl)], r⟩
  · rw [List.getElem?_set_ne (Ne.symm hj)] at q
    obtain ⟨w, h1, h2⟩ := h.2 j e q
    exact ⟨w, by rw [List.getElem?_set_ne (Ne.symm hj)]; exact h1, h2⟩
end

/-! ### what a reading is worth: the functions below tell it -/
section
variable (K : PySem.W.Frag) (ca : Nat → Addr) (E : XK)
def GE (t : TE) (f : En → M D) : Prop := ∀ σ H Q ρ st μ, EnvR K μ H ρ σ → Sim K ca μ st H → Post K ca E μ H (f ρ st) (KV K ca μ H Q) → t σ H Q
def GT (t : TT) (f : En → M Bool) : Prop := ∀ σ H Q ρ st μ, EnvR K μ H ρ σ → Sim K ca μ st H → Post K ca E μ H (f ρ st) (KB K ca μ H Q) → t σ H Q
def GA (t : TA) (f : En → M (List D)) : Prop := ∀ σ H Q ρ st μ, EnvR K μ H ρ σ → Sim K ca μ st H → Post K ca E μ H (f ρ st) (KA K ca μ H Q) → t σ H Q
def GS (t : TS) (f : En → M Ctl) : Prop := ∀ σ H Q ρ st μ, EnvR K μ H ρ σ → Sim K ca μ st H → Post K ca E μ H (f ρ st) (KC K ca μ H Q) → t Q σ H
def GG (t : TG) (f : D → En → M En) : Prop := ∀ v σ H Q d ρ st μ, Rep K μ H d v → EnvR K μ H ρ σ → Sim K ca μ st H → Post K ca E μ H (f d ρ st) (KE K ca μ H Q) → t v σ H Q
def GGs (t : TGs) (f : List D → En → M En) : Prop := ∀ vs σ H Q ds ρ st μ, RepL K μ H ds vs → EnvR K μ H ρ σ → Sim K ca μ st H → Post K ca E μ H (f ds ρ st) (KE K ca μ H Q) → t vs σ H Q
end
structure DE (ca : Nat → Addr) (E : XK) (X : Cx) (e : Expr) (f : En → M D) : Prop where
  ex : ∃ t, PE X e t ∧ GE X.K ca E t f
structure DT (ca : Nat → Addr) (E : XK) (X : Cx) (e : Expr) (f : En → M Bool) : Prop where
  ex : ∃ t, PT X e t ∧ GT X.K ca E t f
structure DW (ca : Nat → Addr) (E : XK) (X : Cx) (e : Expr) (f : En → M Bool) : Prop where
  ex : ∃ t, PW X e t ∧ GT X.K ca E t f
structure DA (ca : Nat → Addr) (E : XK) (X : Cx) (es : List Expr) (f : En → M (List D)) : Prop where
  ex : ∃ t, PA X es t ∧ GA X.K ca E t f
structure DS (ca : Nat → Addr) (E : XK) (X : Cx) (s : Stmt) (f : En → M Ctl) : Prop where
  ex : ∃ t, PS X s t ∧ GS X.K ca E t f
structure DSs (ca : Nat → Addr) (E : XK) (X : Cx) (s : List Stmt) (f : En → M Ctl) : Prop where
  ex : ∃ t, PSs X s t ∧ GS X.K ca E t f
structure DG (ca : Nat → Addr) (E : XK) (X : Cx) (e : Expr) (f : D → En → M En) : Prop where
  ex : ∃ t, PG X e t ∧ GG X.K ca E t f
structure DGs (ca : Nat → Addr) (E : XK) (X : Cx) (es : List Expr) (f : List D → En → M En) : Prop where
  ex : ∃ t, PGs X es t ∧ GGs X.K ca E t f

/-! ### expressions -/
def eVar (i : Nat) : En → M D := fun ρ st => match ρ[i]? with
  | some (some d) => .ok d st
  | _ => .stuck
def eC (d : D) : En → M D := fun _ => pure d
def eUn (op : D → M D) (f : En → M D) : En → M D := fun ρ => do let x ← f ρ; op x
def eBin (op : D → D → M D) (f g : En → M D) : En → M D := fun ρ => do let x ← f ρ; let y ← g ρ; op x y
def eAnd (f g : En → M D) : En → M D := fun ρ => do
  match ← f ρ with
  | .bl true => g ρ
  | .bl false => pure (.bl false)
  | _ => stuck
def eOr (f g : En → M D) : En → M D := fun ρ => do
  match ← f ρ with
  | .bl true => pure (.bl true)
  | .bl false => g ρ
  | _ => stuck
def eNot (f : En → M D) : En → M D := fun ρ => do
  match ← f ρ with
  | .bl b => pure (.bl (!b))
  | _ => stuck
def eIf (t : En → M Bool) (f g : En → M D) : En → M D := fun ρ => do if ← t ρ then f ρ else g ρ
def toB : D → M Bool
  | .bl b => pure b
  | _ => stuck
def tVal (f : En → M D) : En → M Bool := fun ρ => do toB (← f ρ)
def tAndD (f g : En → M Bool) : En → M Bool := fun ρ => do if ← f ρ then g ρ else pure false
def tOrD (f g : En → M Bool) : En → M Bool := fun ρ => do if ← f ρ then pure true else g ρ
def tNotD (f : En → M Bool) : En → M Bool := fun ρ => do pure (!(← f ρ))
def eChain (op op' : D → D → M D) (f g h : En → M D) : En → M D := fun ρ => do
  let x ← f ρ; let y ← g ρ
  if ← toB (← op x y) then do let z ← h ρ; op' y z else pure (.bl false)
def aNil : En → M (List D) := fun _ => pure []
def aCons (f : En → M D) (g : En → M (List D)) : En → M (List D) := fun ρ => do let x ← f ρ; let xs ← g ρ; pure (x :: xs)
/-- by values -/
def R1Good (K : PySem.W.Frag) (ca : Nat → Addr) (r : V → Hp → VK → Prop) (op : D → M D) : Prop := ∀ E x H Q d st μ, Rep K μ H d x → Sim K ca μ st H → Post K ca E μ H (op d st) (KV K ca μ H Q) → r x H Q
def R2Good (K : PySem.W.Frag) (ca : Nat → Addr) (r : R2) (op : D → D → M D) : Prop := ∀ E x y H Q d e st μ, Rep K μ H d x → Rep K μ H e y → Sim K ca μ st H → Post K ca E μ H (op d e st) (KV K ca μ H Q) → r x y H Q
def RLGood (K : PySem.W.Frag) (ca : Nat → Addr) (r : List V → Hp → VK → Prop) (op : List D → M D) : Prop := ∀ E xs H Q ds st μ, RepL K μ H ds xs → Sim K ca μ st H → Post K ca E μ H (op ds st) (KV K ca μ H Q) → r xs H Q
section
variable {X : Cx} {ca : Nat → Addr} {E : XK} {a b c : Expr} {pos : Pos} {f g h : En → M D} {rest : List Expr} {ft gt : En → M Bool}
theorem GE.bind {K : PySem.W.Frag} {t : TE} (hg : GE K ca E t f) {β : Type} {m : D → M β} {σ : St} {H : Hp} {ρ : En} {st : Sto} {μ : List Addr} {k : β → Sto → Prop} {Q : VK} (r : EnvR K μ H ρ σ) (s : Sim K ca μ st H)
    (h : Post K ca E μ H ((f ρ >>= m) st) k) (hk : ∀ d st' μ' H' v, Ext K μ H μ' H' → Sim K ca μ' st' H' → Rep K μ' H' d v → EnvR K μ' H' ρ σ → Post K ca E μ' H' (m d st') k → Q v H') : t σ H Q := by
  refine hg σ H Q ρ st μ r s ((Post.bind.mp h).imp fun d st' q => ?_)
  exact fun μ' H' v e s' rv => hk d st' μ' H' v e s' rv (r.mono e) (q.mono e fun _ _ z => z)
theorem GT.bind {K : PySem.W.Frag} {t : TT} (hg : GT K ca E t ft) {β : Type} {m : Bool → M β} {σ : St} {H : Hp} {ρ : En} {st : Sto} {μ : List Addr} {k : β → Sto → Prop} {Q : Bool → Hp → Prop} (r : EnvR K μ H ρ σ) (s : Sim K ca μ st H)
    (h : Post K ca E μ H ((ft ρ >>= m) st) k) (hk : ∀ d st' μ' H', Ext K μ H μ' H' → Sim K ca μ' st' H' → EnvR K μ' H' ρ σ → Post K ca E μ' H' (m d st') k → Q d H') : t σ H Q := by
  refine hg σ H Q ρ st μ r s ((Post.bind.mp h).imp fun d st' q => ?_)
  exact fun μ' H' e s' => hk d st' μ' H' e s' (r.mono e) (q.mono e fun _ _ z => z)
theorem GA.bind {K : PySem.W.Frag} {t : TA} {fa : En → M (List D)} (hg : GA K ca E t fa) {β : Type} {m : List D → M β} {σ : St} {H : Hp} {ρ : En} {st : Sto} {μ : List Addr} {k : β → Sto → Prop} {Q : List V → Hp → Prop} (r : EnvR K μ H ρ σ) (s : Sim K ca μ st H)
    (h : Post K ca E μ H ((fa ρ >>= m) st) k) (hk : ∀ d st' μ' H' v, Ext K μ H μ' H' → Sim K ca μ' st' H' → RepL K μ' H' d v → EnvR K μ' H' ρ σ → Post K ca E μ' H' (m d st') k → Q v H') : t σ H Q := by
  refine hg σ H Q ρ st μ r s ((Post.bind.mp h).imp fun d st' q => ?_)
  exact fun μ' H' v e s' rv => hk d st' μ' H' v e s' rv (r.mono e) (q.mono e fun _ _ z => z)
theorem GS.bind {K : PySem.W.Frag} {t : TS} {fs : En → M Ctl} (hg : GS K ca E t fs) {β : Type} {m : Ctl → M β} {σ : St} {H : Hp} {ρ : En} {st : Sto} {μ : List Addr} {k : β → Sto → Prop} {Q : Ends} (r : EnvR K μ H ρ σ) (s : Sim K ca μ st H)
    (h : Post K ca E μ H ((fs ρ >>= m) st) k) (hk : ∀ d st' μ' H', Ext K μ H μ' H' → Sim K ca μ' st' H' → Post K ca E μ' H' (m d st') k → KC K ca μ' H' Q d st') : t Q σ H := by
  refine hg σ H Q ρ st μ r s ((Post.bind.mp h).imp fun d st' q => ?_)
  exact fun μ' H' e s' => hk d st' μ' H' e s' (q.mono e fun _ _ z => z) μ' H' .refl s'
theorem GG.bind {K : PySem.W.Frag} {t : TG} {fg : D → En → M En} (hg : GG K ca E t fg) {β : Type} {m : En → M β} {σ : St} {H : Hp} {ρ : En} {d : D} {v : V} {st : Sto} {μ : List Addr} {k : β → Sto → Prop} {Q : St → Hp → Prop} (rv : Rep K μ H d v) (r : EnvR K μ H ρ σ) (s : Sim K ca μ st H)
    (h : Post K ca E μ H ((fg d ρ >>= m) st) k) (hk : ∀ ρ' st' μ' H' σ', Ext K μ H μ' H' → Sim K ca μ' st' H' → EnvR K μ' H' ρ' σ' → Post K ca E μ' H' (m ρ' st') k → Q σ' H') : t v σ H Q := by
  refine hg v σ H Q d ρ st μ rv r s ((Post.bind.mp h).imp fun d st' q => ?_)
  exact fun μ' H' σ' e s' r' => hk d st' μ' H' σ' e s' r' (q.mono e fun _ _ z => z)

theorem de_var (i : Nat) {x : Str} {pos : Pos} (hN : X.N[i]? = some x := by rfl) (hv : Vis X.env.scope x := by first | exact Or.inl rfl | exact Or.inr (Or.inl rfl) | exact Or.inr (Or.inr rfl)) (hd : (x == ("__debug__" : Str)) = false := by decide)
    (hcd : (x == ("__classdict__" : Str)) = false := by decide) : DE ca E X (.Name x pos) (eVar i) := by
  refine ⟨_, pv i hN hv hd hcd, fun σ H Q ρ st μ r s h => ?_⟩
  unfold eVar at h
  cases hi : ρ[i]? with
  | none => rw [hi] at h; exact h.elim
  | some o =>
    cases o with
    | none => rw [hi] at h; exact h.elim
    | some d =>
      rw [hi] at h
      obtain ⟨v, h1, h2⟩ := r.2 i d hi
      exact ⟨v, h1, h μ H v .refl s h2⟩
theorem de_int {i j pos} : DE ca E X (.Constant (.int i) j pos) (eC (.int i)) := ⟨_, pe_int, fun σ H Q ρ st μ r s h => h μ H _ .refl s (rep_int.mpr rfl)⟩
theorem de_bl {b j pos} : DE ca E X (.Constant (.bool b) j pos) (eC (.bl b)) := ⟨_, pe_bl, fun σ H Q ρ st μ r s h => h μ H _ .refl s (rep_bl.mpr rfl)⟩
theorem de_non {j pos} : DE ca E X (.Constant .none j pos) (eC .non) := ⟨_, pe_non, fun σ H Q ρ st μ r s h => h μ H _ .refl s (rep_non.mpr rfl)⟩
theorem de_str {x j pos} : DE ca E X (.Constant (.str x) j pos) (eC (.str x)) := ⟨_, pe_str, fun σ H Q ρ st μ r s h => h μ H _ .refl s (rep_str.mpr rfl)⟩
/-- a module's constant: its value -/
theorem de_glob {x : Str} {v : V} {u : Value} {d : D} {pos : Pos} (hg : Gl X x) (hm : X.mg x = some u) (r : RelV v u) (hr : ∀ μ H, Rep X.K μ H d v) (hd : (x == ("__debug__" : Str)) = false := by decide) : DE ca E X (.Name x pos) (eC d) :=
  ⟨_, pe_glob hg hm r hd, fun σ H Q ρ st μ re s h => h μ H _ .refl s (hr _ _)⟩
theorem ge_bin {K : PySem.W.Frag} {r : R2} {op : D → D → M D} {ta tb : TE} (hr : R2Good K ca r op) (ga : GE K ca E ta f) (gb : GE K ca E tb g) : GE K ca E (tOp r ta tb) (eBin op f g) := by
  intro σ H Q ρ st μ re s h
  refine ga.bind re s h fun d st1 μ1 H1 x e1 s1 r1 re1 h1 => ?_
  refine gb.bind re1 s1 h1 fun d2 st2 μ2 H2 y e2 s2 r2 re2 h2 => ?_
  exact hr E x y H2 Q d d2 st2 μ2 (r1.mono e2) r2 s2 (h2.imp fun a st z => z.mono (e1.trans e2))
structure DOp (ca : Nat → Addr) (X : Cx) (o : Value → Value → Sem Value) (op : D → D → M D) : Prop where
  ex : ∃ r, OpR X o r ∧ R2Good X.K ca r op
theorem de_op {o : Operator} {op : D → D → M D} (ho : DOp ca X (binaryOp o) op) (ha : DE ca E X a f) (hb : DE ca E X b g) : DE ca E X (.BinOp a o b pos) (eBin op f g) := by
  obtain ⟨r, h1, h2⟩ := ho.ex
  obtain ⟨ta, pa, ga⟩ := ha.ex
  obtain ⟨tb, pb, gb⟩ := hb.ex
  exact ⟨_, pe_op h1 pa pb, ge_bin h2 ga gb⟩
theorem de_cmp {o : CmpOp} {op : D → D → M D} (ho : DOp ca X (compareOp o) op) (ha : DE ca E X a f) (hb : DE ca E X b g) (hm : behindInMarks o b = false) : DE ca E X (.Compare a [o] [b] pos) (eBin op f g) := by
  obtain ⟨r, h1, h2⟩ := ho.ex
  obtain ⟨ta, pa, ga⟩ := ha.ex
  obtain ⟨tb, pb, gb⟩ := hb.ex
  exact ⟨_, pe_cmpR h1 pa pb hm, ge_bin h2 ga gb⟩
theorem gt_val {K : PySem.W.Frag} {t : TE} (gf : GE K ca E t f) : GT K ca E (tTest t) (tVal f) := by
  intro σ H Q ρ st μ re s h
  refine gf.bind re s h fun d st1 μ1 H1 x e1 s1 r1 re1 h1 => ?_
  cases d with
  | bl b => exact ⟨b, rep_bl.mp r1, h1 μ1 H1 e1 s1⟩
  | _ => exact h1.elim
theorem dt_cmp {o : CmpOp} {op : D → D → M D} (ho : DOp ca X (compareOp o) op) (ha : DE ca E X a f) (hb : DE ca E X b g) (hm : behindInMarks o b = false) : DT ca E X (.Compare a [o] [b] pos) (tVal (eBin op f g)) := by
  obtain ⟨r, h1, h2⟩ := ho.ex
  obtain ⟨ta, pa, ga⟩ := ha.ex
  obtain ⟨tb, pb, gb⟩ := hb.ex
  exact ⟨_, pt_cmpR h1 pa pb hm, gt_val (ge_bin h2 ga gb)⟩
theorem dt_val (ha : DE ca E X a f) (he : ∀ whole, isTrue a X.env whole = (do let v ← whole; standAt a.pos; holding [v] (truthy v)) := by intro _; rfl) : DT ca E X a (tVal f) := by
  obtain ⟨ta, pa, ga⟩ := ha.ex
  exact ⟨_, pt_val pa he, gt_val ga⟩
theorem ge_chain {K : PySem.W.Frag} {r r' : R2} {op op' : D → D → M D} {ta tb tc : TE} (hr : R2Good K ca r op) (hr' : R2Good K ca r' op') (ga : GE K ca E ta f) (gb : GE K ca E tb g) (gc : GE K ca E tc h) : GE K ca E (tChain r r' ta tb tc) (eChain op op' f g h) := by
  intro σ H Q ρ st μ re s h
  refine ga.bind re s h fun d st1 μ1 H1 x e1 s1 r1 re1 h1 => ?_
  refine gb.bind re1 s1 h1 fun d2 st2 μ2 H2 y e2 s2 r2 re2 h2 => ?_
  refine hr E x y H2 _ d d2 st2 μ2 (r1.mono e2) r2 s2 ((Post.bind.mp h2).imp fun z st z1 => ?_)
  intro μ3 H3 v e3 s3 r3
  cases z with
  | bl k =>
    refine ⟨k, rep_bl.mp r3, ?_⟩
    cases k with
    | false => exact iteF ((Post.pure.mp z1 : KV K ca μ H Q (.bl false) st) μ3 H3 _ ((e1.trans e2).trans e3) s3 (rep_bl.mpr rfl))
    | true =>
      refine iteT ?_
      have z2 := Post.mono z1 e3 fun _ _ q => q
      refine gc.bind (re2.mono e3) s3 z2 fun d4 st4 μ4 H4 w e4 s4 r4 re4 h4 => ?_
      exact hr' E y w H4 Q d2 d4 st4 μ4 (r2.mono (e3.trans e4)) r4 s4 (h4.imp fun a st z => z.mono (((e1.trans e2).trans e3).trans e4))
  | _ => exact (show False from z1).elim
theorem de_chain {o o' : CmpOp} {op op' : D → D → M D} (ho : DOp ca X (compareOp o) op) (ho' : DOp ca X (compareOp o') op') (ha : DE ca E X a f) (hb : DE ca E X b g) (hc : DE ca E X c h)
    (hm : lastMarks [o, o'] [b, c] = false := by with_unfolding_all rfl) : DE ca E X (.Compare a [o, o'] [b, c] pos) (eChain op op' f g h) := by
  obtain ⟨r, h1, h2⟩ := ho.ex
  obtain ⟨r', h1', h2'⟩ := ho'.ex
  obtain ⟨ta, pa, ga⟩ := ha.ex
  obtain ⟨tb, pb, gb⟩ := hb.ex
  obtain ⟨tc, pc, gc⟩ := hc.ex
  exact ⟨_, pe_chain h1 h1' pa pb pc hm, ge_chain h2 h2' ga gb gc⟩
theorem dt_chain {o o' : CmpOp} {op op' : D → D → M D} (ho : DOp ca X (compareOp o) op) (ho' : DOp ca X (compareOp o') op') (ha : DE ca E X a f) (hb : DE ca E X b g) (hc : DE ca E X c h)
    (hm : lastMarks [o, o'] [b, c] = false := by with_unfolding_all rfl) : DT ca E X (.Compare a [o, o'] [b, c] pos) (tVal (eChain op op' f g h)) := by
  obtain ⟨r, h1, h2⟩ := ho.ex
  obtain ⟨r', h1', h2'⟩ := ho'.ex
  obtain ⟨ta, pa, ga⟩ := ha.ex
  obtain ⟨tb, pb, gb⟩ := hb.ex
  obtain ⟨tc, pc, gc⟩ := hc.ex
  exact ⟨_, pt_chain h1 h1' pa pb pc hm, gt_val (ge_chain h2 h2' ga gb gc)⟩
theorem de_one {o : BoolOp} (ha : DE ca E X a f) : DE ca E X (.BoolOp o [a] pos) f := by
  obtain ⟨ta, pa, ga⟩ := ha.ex
  exact ⟨_, pe_one pa, ga⟩
theorem de_and (ha : DE ca E X a f) (hb : DE ca E X (.BoolOp .And (b :: rest) pos) g) : DE ca E X (.BoolOp .And (a :: b :: rest) pos) (eAnd f g) := by
  obtain ⟨ta, pa, ga⟩ := ha.ex
  obtain ⟨tb, pb, gb⟩ := hb.ex
  refine ⟨_, pe_and pa pb, fun σ H Q ρ st μ re s h => ?_⟩
  refine ga.bind re s h fun d st1 μ1 H1 x e1 s1 r1 re1 h1 => ?_
  cases d with
  | bl k =>
    refine ⟨k, rep_bl.mp r1, ?_⟩
    cases k with
    | false => exact iteF ((Post.pure.mp h1 : KV X.K ca μ H Q (.bl false) st1) μ1 H1 _ e1 s1 (rep_bl.mpr rfl))
    | true => exact iteT (gb σ H1 Q ρ st1 μ1 re1 s1 (Post.imp h1 fun a st z => z.mono e1))
  | _ => exact h1.elim
theorem de_or (ha : DE ca E X a f) (hb : DE ca E X (.BoolOp .Or (b :: rest) pos) g) : DE ca E X (.BoolOp .Or (a :: b :: rest) pos) (eOr f g) := by
  obtain ⟨ta, pa, ga⟩ := ha.ex
  obtain ⟨tb, pb, gb⟩ := hb.ex
  refine ⟨_, pe_or pa pb, fun σ H Q ρ st μ re s h => ?_⟩
  refine ga.bind re s h fun d st1 μ1 H1 x e1 s1 r1 re1 h1 => ?_
  cases d with
  | bl k =>
    refine ⟨k, rep_bl.mp r1, ?_⟩
    cases k with
    | true => exact iteT ((Post.pure.mp h1 : KV X.K ca μ H Q (.bl true) st1) μ1 H1 _ e1 s1 (rep_bl.mpr rfl))
    | false => exact iteF (gb σ H1 Q ρ st1 μ1 re1 s1 (Post.imp h1 fun a st z => z.mono e1))
  | _ => exact h1.elim
theorem de_not (ha : DE ca E X a f) : DE ca E X (.UnaryOp .Not a pos) (eNot f) := by
  obtain ⟨ta, pa, ga⟩ := ha.ex
  refine ⟨_, pe_not pa, fun σ H Q ρ st μ re s h => ?_⟩
  refine ga.bind re s h fun d st1 μ1 H1 x e1 s1 r1 re1 h1 => ?_
  cases d with
  | bl k => exact ⟨k, rep_bl.mp r1, (Post.pure.mp h1 : KV X.K ca μ H Q (.bl (!k)) st1) μ1 H1 _ e1 s1 (rep_bl.mpr rfl)⟩
  | _ => exact h1.elim
structure DUn (ca : Nat → Addr) (X : Cx) (o : Value → Sem Value) (op : D → M D) : Prop where
  ex : ∃ r, UnR X o r ∧ R1Good X.K ca r op
theorem de_un {o : UnaryOp} {op : D → M D} (ho : DUn ca X (unaryOp o) op) (ha : DE ca E X a f) : DE ca E X (.UnaryOp o a pos) (eUn op f) := by
  obtain ⟨r, h1, h2⟩ := ho.ex
  obtain ⟨ta, pa, ga⟩ := ha.ex
  refine ⟨_, pe_un h1 pa, fun σ H Q ρ st μ re s h => ?_⟩
  refine ga.bind re s h fun d st1 μ1 H1 x e1 s1 r1 re1 h1 => ?_
  exact h2 E x H1 Q d st1 μ1 r1 s1 (h1.imp fun a st z => z.mono e1)
theorem de_ifExp (hc : DT ca E X c ft) (ha : DE ca E X a f) (hb : DE ca E X b g) : DE ca E X (.IfExp c a b pos) (eIf ft f g) := by
  obtain ⟨tc, pc, gc⟩ := hc.ex
  obtain ⟨ta, pa, ga⟩ := ha.ex
  obtain ⟨tb, pb, gb⟩ := hb.ex
  refine ⟨_, pe_ifExp pc pa pb, fun σ H Q ρ st μ re s h => ?_⟩
  refine gc.bind re s h fun k st1 μ1 H1 e1 s1 re1 h1 => ?_
  cases k with
  | true => exact iteT (ga σ H1 Q ρ st1 μ1 re1 s1 (Post.imp h1 fun a st z => z.mono e1))
  | false => exact iteF (gb σ H1 Q ρ st1 μ1 re1 s1 (Post.imp h1 fun a st z => z.mono e1))
/-! tests -/
theorem DW.dt (h : DW ca E X a ft) : DT ca E X a ft := let ⟨t, p, q⟩ := h.ex; ⟨t, p.pt, q⟩
theorem dw_and1 (ha : DT ca E X a ft) : DW ca E X (.BoolOp .And [a] pos) ft := let ⟨t, p, q⟩ := ha.ex; ⟨t, pw_and1 p, q⟩
theorem dw_or1 (ha : DT ca E X a ft) : DW ca E X (.BoolOp .Or [a] pos) ft := let ⟨t, p, q⟩ := ha.ex; ⟨t, pw_or1 p, q⟩
theorem dw_and (ha : DT ca E X a ft) (hb : DW ca E X (.BoolOp .And (b :: rest) pos) gt) : DW ca E X (.BoolOp .And (a :: b :: rest) pos) (tAndD ft gt) := by
  obtain ⟨ta, pa, ga⟩ := ha.ex
  obtain ⟨tb, pb, gb⟩ := hb.ex
  refine ⟨_, pw_and pa pb, fun σ H Q ρ st μ re s h => ?_⟩
  refine ga.bind re s h fun k st1 μ1 H1 e1 s1 re1 h1 => ?_
  cases k with
  | true => exact iteT (gb σ H1 Q ρ st1 μ1 re1 s1 (Post.imp h1 fun a st z => z.mono e1))
  | false => exact iteF ((Post.pure.mp h1 : KB X.K ca μ H Q false st1) μ1 H1 e1 s1)
theorem dw_or (ha : DT ca E X a ft) (hb : DW ca E X (.BoolOp .Or (b :: rest) pos) gt) : DW ca E X (.BoolOp .Or (a :: b :: rest) pos) (tOrD ft gt) := by
  obtain ⟨ta, pa, ga⟩ := ha.ex
  obtain ⟨tb, pb, gb⟩ := hb.ex
  refine ⟨_, pw_or pa pb, fun σ H Q ρ st μ re s h => ?_⟩
  refine ga.bind re s h fun k st1 μ1 H1 e1 s1 re1 h1 => ?_
  cases k with
  | false => exact iteF (gb σ H1 Q ρ st1 μ1 re1 s1 (Post.imp h1 fun a st z => z.mono e1))
  | true => exact iteT ((Post.pure.mp h1 : KB X.K ca μ H Q true st1) μ1 H1 e1 s1)
theorem dt_not (ha : DT ca E X a ft) : DT ca E X (.UnaryOp .Not a pos) (tNotD ft) := by
  obtain ⟨ta, pa, ga⟩ := ha.ex
  refine ⟨_, pt_not pa, fun σ H Q ρ st μ re s h => ?_⟩
  refine ga.bind re s h fun k st1 μ1 H1 e1 s1 re1 h1 => ?_
  exact (Post.pure.mp h1 : KB X.K ca μ H Q (!k) st1) μ1 H1 e1 s1
/-! arguments -/
variable {es : List Expr} {fa : En → M (List D)}
theorem da_nil : DA ca E X [] aNil := ⟨_, pa_nil, fun σ H Q ρ st μ re s h => h μ H _ .refl s (repL_nil.mpr rfl)⟩
theorem da_cons (ha : DE ca E X a f) (hr : DA ca E X es fa) (hs : starEach (a :: es) X.env = (false, eval a X.env) :: starEach es X.env := by rfl) : DA ca E X (a :: es) (aCons f fa) := by
  obtain ⟨ta, pa, ga⟩ := ha.ex
  obtain ⟨tb, pb, gb⟩ := hr.ex
  refine ⟨_, pa_cons pa pb hs, fun σ H Q ρ st μ re s h => ?_⟩
  refine ga.bind re s h fun d st1 μ1 H1 x e1 s1 r1 re1 h1 => ?_
  refine gb.bind re1 s1 h1 fun ds st2 μ2 H2 xs e2 s2 r2 re2 h2 => ?_
  exact (Post.pure.mp h2 : KA X.K ca μ H Q (d :: ds) st2) μ2 H2 _ (e1.trans e2) s2 (repL_cons.mpr ⟨x, xs, rfl, r1.mono e2, r2⟩)
end
end DL

set_option Elab.async false
set_option linter.all false
set_option maxRecDepth 100000
set_option maxHeartbeats 4000000
namespace DL
open PySem L2 PySem.Spec PyProof.Rows

/-! ### new objects by values -/
section
variable {K : PySem.W.Frag} {ca : Nat → Addr} {μ : List Addr} {H : Hp} {st : Sto} {Q : VK}
theorem new_tup {ds : List D} {xs : List V} {p : Addr} {o : Obj} (s : Sim K ca μ st H) (r : RepL K μ H ds xs) (k : KV K ca μ H Q (.tup ds) st) (hp : H p = none) (hd : o.dict = none) : Q (.ref p) (upd H p (.frz o (.tup xs))) :=
  k μ _ _ (.updM (.inl hp)) (s.fresh hp) (rep_tup.mpr ⟨p, xs, rfl, .inl ⟨o, hd, upd_same⟩, r.mono (.updM (.inl hp))⟩)
theorem loc_new {p : Addr} (s : Sim K ca μ st H) {H' : Hp} : Rep K (μ ++ [p]) H' (.loc st.length) (.ref p) := by
  rw [rep_loc]
  refine ⟨p, ?_, rfl⟩
  rw [← s.len, List.getElem?_append_right (Nat.le_refl _), Nat.sub_self]; rfl
theorem new_lst {ds : List D} {xs : List V} {p : Addr} (s : Sim K ca μ st H) (r : RepL K μ H ds xs) (k : KV K ca μ H Q (.loc st.length) (st ++ [.lst ds])) (hp : H p = none) : Q (.ref p) (upd H p (.lst xs)) :=
  k (μ ++ [p]) _ _ (.push hp) (s.push hp ⟨xs, upd_same, r.mono (.push hp)⟩) (loc_new s)
end
def newT (ds : List D) : M D := fun st => if ds.length ≤ sizeLine then .ok (.tup ds) st else .stuck
def newL (ds : List D) : M D := fun st => if ds.length ≤ sizeLine then .ok (.loc st.length) (st ++ [.lst ds]) else .stuck
section
variable {X : Cx} {ca : Nat → Addr} {E : XK} {pos : Pos} {es : List Expr} {fa : En → M (List D)}
theorem laid_tup {pins : List (Addr × Obj)} {σ : L2.St} {H : Hp} {s : Shared} {Q : VK} {xs : List V} {its : List Value} (I : Inv X pins σ H s) (hz : xs.length ≤ sizeLine) (r : Vals xs its)
    (q : ∀ (p : Addr) (o : Obj), H p = none → o.dict = none → Q (.ref p) (upd H p (.frz o (.tup xs)))) : EP X pins σ Q (.ref s.heap.objs.size) { s with heap := s.heap.push { cls := .type "tuple", data := .seq its.toArray } } := by
  have hn := I.hok.fresh (Nat.le_refl s.heap.objs.size)
  refine ⟨.ref s.heap.objs.size, upd H s.heap.objs.size (.frz { cls := .type "tuple", data := .seq its.toArray } (.tup xs)), I.laid (t' := s.toks) (fun c w hc => Heap.get?_push_of_some _ hc) (Nat.le_refl _) ?_, rfl, q _ _ hn rfl⟩
  exact ⟨Heap.get?_push_size _ rfl, hz, its, r, IsTup.new _ _⟩
def tTupF (t : TA) : TE := fun σ H Q => t σ H fun xs H1 => xs.length ≤ sizeLine ∧ ∀ (p : Addr) (o : Obj), H1 p = none → o.dict = none → Q (.ref p) (upd H1 p (.frz o (.tup xs)))
theorem pe_tupF {k : Nat} {t : TA} (h : PA X es t) : PE X (.Tuple es k pos) (tTupF t) := by
  refine ⟨fun pins s σ H Q I hq => wpAny_Tuple_spliced (thn (h.run pos pins s σ H _ I hq) ?_)⟩
  rintro us s1 ⟨xs, H1, I1, r, z, q⟩
  exact ⟨by rw [← r.length]; exact z, laid_tup I1 z r q⟩
def eTup (f : En → M (List D)) : En → M D := fun ρ => do newT (← f ρ)
def eLst (f : En → M (List D)) : En → M D := fun ρ => do newL (← f ρ)
theorem de_tup {k : Nat} (h : DA ca E X es fa) : DE ca E X (.Tuple es k pos) (eTup fa) := by
  obtain ⟨t, p, g⟩ := h.ex
  refine ⟨_, pe_tupF p, fun σ H Q ρ st μ re s hh => ?_⟩
  refine g.bind re s hh fun ds st1 μ1 H1 xs e1 s1 r1 re1 h1 => ?_
  unfold newT at h1
  split at h1
  · rename_i hz
    exact ⟨by rw [r1.length]; exact hz, fun p o hp hd => new_tup s1 r1 (KV.mono h1 e1) hp hd⟩
  · exact h1.elim
theorem de_lst (h : DA ca E X es fa) : DE ca E X (.List es pos) (eLst fa) := by
  obtain ⟨t, p, g⟩ := h.ex
  refine ⟨_, pe_lst p, fun σ H Q ρ st μ re s hh => ?_⟩
  refine g.bind re s hh fun ds st1 μ1 H1 xs e1 s1 r1 re1 h1 => ?_
  unfold newL at h1
  split at h1
  · rename_i hz
    exact ⟨by rw [r1.length]; exact hz, fun p hp => new_lst s1 r1 (KV.mono h1 e1) hp⟩
  · exact h1.elim
end

/-! ### lists and tuples read -/
section
variable {K : PySem.W.Frag} {ca : Nat → Addr} {μ : List Addr} {H : Hp} {st : Sto}
def seqAt (st : Sto) (i : Nat) : Option (List D) := match st[i]? with
  | some (.lst ds) => some ds
  | some (.frz ds) => some ds
  | _ => none
theorem sq_of {i : Nat} {ds : List D} {v : V} (s : Sim K ca μ st H) (h : seqAt st i = some ds) (r : Rep K μ H (.loc i) v) : ∃ a vs, v = .ref a ∧ SqL K H a vs ∧ RepL K μ H ds vs := by
  obtain ⟨a, ha, rfl⟩ := rep_loc.mp r
  unfold seqAt at h
  cases hi : st[i]? with
  | none => rw [hi] at h; cases h
  | some o =>
    rw [hi] at h
    have q := s.obj i a o ha hi
    cases o with
    | lst es => cases h; obtain ⟨vs, h1, h2⟩ := q; exact ⟨a, vs, rfl, .inl (.inl h1), h2⟩
    | frz es =>
      cases h; obtain ⟨vs, h1, h2⟩ := q
      refine ⟨a, vs, rfl, ?_, h2⟩
      rcases h1 with ⟨o, h1⟩ | h1
      · exact .inl (.inr ⟨o, h1⟩)
      · exact .inr h1
    | obj c fs => cases h
    | dct kvs => cases h
def lstAt (st : Sto) (i : Nat) : Option (List D) := match st[i]? with
  | some (.lst ds) => some ds
  | _ => none
theorem lst_of {i : Nat} {ds : List D} {v : V} (s : Sim K ca μ st H) (h : lstAt st i = some ds) (r : Rep K μ H (.loc i) v) : ∃ a vs, v = .ref a ∧ μ[i]? = some a ∧ st[i]? = some (.lst ds) ∧ H a = some (.lst vs) ∧ RepL K μ H ds vs := by
  obtain ⟨a, ha, rfl⟩ := rep_loc.mp r
  unfold lstAt at h
  cases hi : st[i]? with
  | none => rw [hi] at h; cases h
  | some o =>
    rw [hi] at h
    have q := s.obj i a o ha hi
    cases o with
    | lst es => cases h; obtain ⟨vs, h1, h2⟩ := q; exact ⟨a, vs, rfl, ha, rfl, h1, h2⟩
    | frz es => cases h
    | obj c fs => cases h
    | dct kvs => cases h
theorem set_lst {i : Nat} {a : Addr} {ds es : List D} {vs ws : List V} (s : Sim K ca μ st H) (ha : μ[i]? = some a) (hi : st[i]? = some (.lst ds)) (hH : H a = some (.lst vs)) (r : RepL K μ H es ws) :
    Sim K ca μ (st.set i (.lst es)) (upd H a (.lst ws)) ∧ Ext K μ H μ (upd H a (.lst ws)) := by
  have hM : Mut (H a) := by rw [hH]; exact True.intro
  exact ⟨s.set ha hi rfl hM rfl ⟨ws, upd_same, r.mono (.updM (.inr hM))⟩, .updM (.inr hM)⟩
theorem atI_rep {ds : List D} {vs : List V} {i : Int} {d : D} (r : RepL K μ H ds vs) (h : atI ds i = some d) : ∃ v, atI vs i = some v ∧ Rep K μ H d v := by
  unfold atI at h ⊢
  rw [r.length]
  cases q : ixN ds.length i with
  | none => rw [q] at h; cases h
  | some j => rw [q] at h; exact r.get h
theorem cut_rep {ds : List D} {vs : List V} (r : RepL K μ H ds vs) (lo hi : Option Int) : RepL K μ H ((ds.drop (HT.sIx ds.length 0 lo)).take (HT.sIx ds.length ds.length hi - HT.sIx ds.length 0 lo)) (cutV vs lo hi) := by
  unfold cutV
  rw [r.length]
  exact (r.drop _).take _
end
def cutD (ds : List D) (lo hi : Option Int) : List D := (ds.drop (HT.sIx ds.length 0 lo)).take (HT.sIx ds.length ds.length hi - HT.sIx ds.length 0 lo)

/-! ### operators -/
def opAdd (x y : D) : M D := fun st => match x, y with
  | .int i, .int j => .ok (.int (i + j)) st
  | .str a, .str b => if a.length + b.length ≤ sizeLine then .ok (.str (a ++ b)) st else .stuck
  | .tup a, .tup b => if a.length + b.length ≤ sizeLine then .ok (.tup (a ++ b)) st else .stuck
  | .loc i, .loc j => match lstAt st i, lstAt st j with
    | some a, some b => if a.length + b.length ≤ sizeLine then .ok (.loc st.length) (st ++ [.lst (a ++ b)]) else .stuck
    | _, _ => .stuck
  | _, _ => .stuck
def opSub (x y : D) : M D := fun st => match x, y with
  | .int i, .int j => .ok (.int (i - j)) st
  | _, _ => .stuck
def opMul (x y : D) : M D := fun st => match x, y with
  | .int i, .int j => if i.natAbs < 2 ^ 63 ∨ j.natAbs < 2 ^ 63 then .ok (.int (i * j)) st else .stuck
  | .loc i, .int k => match lstAt st i with
    | some a => if 0 ≤ k ∧ k ≤ 100000 ∧ a.length * k.toNat ≤ 100000 then .ok (.loc st.length) (st ++ [.lst (List.replicate k.toNat a).flatten]) else .stuck
    | none => .stuck
  | _, _ => .stuck
def opDiv (x y : D) : M D := fun st => match x, y with
  | .int i, .int j => if 0 < j ∧ j < 1073741824 then .ok (.int (i / j)) st else .stuck
  | _, _ => .stuck
def opMod (x y : D) : M D := fun st => match x, y with
  | .int i, .int j => if 0 < j then .ok (.int (i % j)) st else .stuck
  | _, _ => .stuck
def opPow (x y : D) : M D := fun st => match x, y with
  | .int i, .int j => if 0 ≤ j ∧ j ≤ 1000 ∧ i.natAbs < 2 ^ 64 then .ok (.int (i ^ j.toNat)) st else .stuck
  | _, _ => .stuck
def opI (p : Int → Int → Bool) (x y : D) : M D := fun st => match x, y with
  | .int i, .int j => .ok (.bl (p i j)) st
  | _, _ => .stuck
abbrev opLt := opI fun i j => decide (i < j)
abbrev opLe := opI fun i j => decide (i ≤ j)
abbrev opGt := opI fun i j => decide (j < i)
abbrev opGe := opI fun i j => decide (j ≤ i)
def D.isNon : D → Bool
  | .non => true
  | _ => false
def opIsN (x y : D) : M D := fun st => match y with
  | .non => .ok (.bl x.isNon) st
  | _ => .stuck
def opNotN (x y : D) : M D := fun st => match y with
  | .non => .ok (.bl (!x.isNon)) st
  | _ => .stuck
section
variable {X : Cx} {ca : Nat → Addr}
theorem elimP {α : Type} {K : PySem.W.Frag} {E : XK} {μ : List Addr} {H : Hp} {k : α → Sto → Prop} {P : Prop} (h : Post K ca E μ H (.stuck : R α) k) : P := h.elim
theorem dop_add : DOp ca X (binaryOp .Add) opAdd := by
  have cat : OpR X (binaryOp .Add) (fun x y H Q => ∃ a b xs ys, x = V.ref a ∧ y = V.ref b ∧ TupR X.K H a xs ∧ TupR X.K H b ys ∧ xs.length + ys.length ≤ sizeLine ∧
      (xs = [] → Q (.ref b) H) ∧ (ys = [] → Q (.ref a) H) ∧ ∀ (p : Addr) (o : Obj), H p = none → o.dict = none → Q (.ref p) (upd H p (.frz o (.tup (xs ++ ys))))) := by
    intro pins s σ H x y v u Q I rx ry h
    obtain ⟨a, b, xs, ys, rfl, rfl, ha, hb, hz, q0, q1, q2⟩ := h
    cases rx; cases ry
    obtain ⟨its, r1, p1, _⟩ := I.tuple ha.sq
    obtain ⟨its2, r2, p2, _⟩ := I.tuple hb.sq
    have l1 := r1.length
    have l2 := r2.length
    cases its with
    | nil => cases r1; exact cat_tup0 p1 p2 ⟨.ref b, H, I, rfl, q0 rfl⟩
    | cons i0 ir =>
      refine HT.cat_tup p1 p2 (by simp) (fun e => ?_) (fun _ => ?_) (by rw [← l1, ← l2]; exact hz)
      · subst e; cases r2; exact ⟨.ref a, H, I, rfl, q1 rfl⟩
      · exact laid_tup I (by rw [List.length_append]; exact hz) (r1.append r2) q2
  refine ⟨_, ((op_add.or op_add_str).or cat).or op_cat, fun E x y H Q d e st μ rx ry s h => ?_⟩
  cases d <;> cases e <;> first
    | exact elimP h
    | skip
  case int.int i j => rw [rep_int] at rx ry; exact .inl (.inl (.inl ⟨i, j, rx, ry, h μ H _ .refl s (rep_int.mpr rfl)⟩))
  case str.str a b =>
    rw [rep_str] at rx ry
    unfold opAdd at h
    simp only at h
    split at h
    · rename_i hz; exact .inl (.inl (.inr ⟨a, b, rx, ry, hz, h μ H _ .refl s (rep_str.mpr rfl)⟩))
    · exact elimP h
  case tup.tup a b =>
    have rx0 := rx
    have ry0 := ry
    obtain ⟨p, xs, rfl, h1, h2⟩ := rep_tup.mp rx
    obtain ⟨q, ys, rfl, h3, h4⟩ := rep_tup.mp ry
    unfold opAdd at h
    simp only at h
    split at h
    · rename_i hz
      refine .inl (.inr ⟨p, q, xs, ys, rfl, rfl, h1, h3, by rw [h2.length, h4.length]; exact hz, fun e => ?_, fun e => ?_, fun p o hp hd => new_tup s (h2.append h4) h hp hd⟩)
      · subst e
        have : a = [] := List.eq_nil_of_length_eq_zero h2.length.symm
        subst this; exact h μ H _ .refl s ry0
      · subst e
        have : b = [] := List.eq_nil_of_length_eq_zero h4.length.symm
        subst this; rw [List.append_nil] at h; exact h μ H _ .refl s rx0
    · exact elimP h
  case loc.loc i j =>
    unfold opAdd at h
    simp only at h
    split at h
    · rename_i a b hi hj
      split at h
      · rename_i hz
        obtain ⟨p, xs, rfl, _, _, h1, h2⟩ := lst_of s hi rx
        obtain ⟨q, ys, rfl, _, _, h3, h4⟩ := lst_of s hj ry
        exact .inr ⟨p, q, xs, ys, rfl, rfl, h1, h3, by rw [h2.length, h4.length]; exact hz, fun p hp => new_lst s (h2.append h4) h hp⟩
      · exact elimP h
    · exact elimP h
theorem RepL.rep {K : PySem.W.Frag} {μ : List Addr} {H : Hp} {ds : List D} {vs : List V} (r : RepL K μ H ds vs) : ∀ n : Nat, RepL K μ H (List.replicate n ds).flatten (List.replicate n vs).flatten
  | 0 => repL_nil.mpr rfl
  | n + 1 => by
    rw [List.replicate_succ, List.replicate_succ, List.flatten_cons, List.flatten_cons]
    exact r.append (RepL.rep r n)
theorem dop_mul : DOp ca X (binaryOp .Mult) opMul := by
  refine ⟨_, op_mul.or op_rep, fun E x y H Q d e st μ rx ry s h => ?_⟩
  cases d <;> cases e <;> first | exact elimP h | skip
  case int.int i j =>
    rw [rep_int] at rx ry
    unfold opMul at h
    simp only at h
    split at h
    · rename_i c
      refine .inl ⟨i, j, rx, ry, ?_, h μ H _ .refl s (rep_int.mpr rfl)⟩
      rcases c with c | c
      · left; omega
      · right; omega
    · exact elimP h
  case loc.int i k =>
    rw [rep_int] at ry
    unfold opMul at h
    simp only at h
    split at h
    · rename_i a hi
      split at h
      · rename_i c
        obtain ⟨p, xs, rfl, _, _, h1, h2⟩ := lst_of s hi rx
        refine .inr ⟨p, k, xs, rfl, ry, h1, by omega, by omega, ?_, fun p hp => new_lst s (h2.rep k.toNat) h hp⟩
        rw [h2.length, sizeLine_eq]
        omega
      · exact elimP h
    · exact elimP h
theorem dop_ints {o : Value → Value → Sem Value} {C : Int → Int → Prop} {g : Int → Int → V} {op : D → D → M D} (ho : OpR X o (rI C g)) (hI : ∀ K E μ H (Q : VK) i j st, Sim K ca μ st H → Post K ca E μ H (op (.int i) (.int j) st) (KV K ca μ H Q) → C i j ∧ Q (g i j) H)
    (h0 : ∀ d e st, (∀ i j, ¬ (d = .int i ∧ e = .int j)) → op d e st = .stuck) : DOp ca X o op := by
  refine ⟨_, ho, fun E x y H Q d e st μ rx ry s h => ?_⟩
  by_cases hd : ∃ i j, d = .int i ∧ e = .int j
  · obtain ⟨i, j, rfl, rfl⟩ := hd
    rw [rep_int] at rx ry
    obtain ⟨c, q⟩ := hI _ E μ H Q i j st s h
    exact ⟨i, j, rx, ry, c, q⟩
  · rw [h0 d e st fun i j z => hd ⟨i, j, z⟩] at h; exact elimP h
theorem OpR.c0 {o : Value → Value → Sem Value} {g : Int → Int → V} (h : OpR X o (rI0 g)) : OpR X o (rI (fun _ _ => True) g) := by
  intro pins s σ H x y v u Q I rx ry q
  obtain ⟨i, j, e1, e2, _, q⟩ := q
  exact h pins s σ H x y v u Q I rx ry ⟨i, j, e1, e2, q⟩
theorem dop_sub : DOp ca X (binaryOp .Sub) opSub := by
  refine dop_ints (OpR.c0 op_sub) (fun K E μ H Q i j st s h => ⟨True.intro, h μ H _ .refl s (rep_int.mpr rfl)⟩) fun d e st h => ?_
  cases d <;> cases e <;> first | rfl | exact absurd ⟨rfl, rfl⟩ (h _ _)
theorem dop_div : DOp ca X (binaryOp .FloorDiv) opDiv := by
  refine dop_ints op_fdiv (fun K E μ H Q i j st s h => ?_) fun d e st h => ?_
  · unfold opDiv at h; simp only at h
    split at h
    · rename_i c; exact ⟨c, h μ H _ .refl s (rep_int.mpr rfl)⟩
    · exact elimP h
  · cases d <;> cases e <;> first | rfl | exact absurd ⟨rfl, rfl⟩ (h _ _)
theorem dop_mod : DOp ca X (binaryOp .Mod) opMod := by
  refine dop_ints op_mod (fun K E μ H Q i j st s h => ?_) fun d e st h => ?_
  · unfold opMod at h; simp only at h
    split at h
    · rename_i c; exact ⟨c, h μ H _ .refl s (rep_int.mpr rfl)⟩
    · exact elimP h
  · cases d <;> cases e <;> first | rfl | exact absurd ⟨rfl, rfl⟩ (h _ _)
theorem dop_pow : DOp ca X (binaryOp .Pow) opPow := by
  refine dop_ints op_pow (fun K E μ H Q i j st s h => ?_) fun d e st h => ?_
  · unfold opPow at h; simp only at h
    split at h
    · rename_i c; exact ⟨⟨c.1, by omega, c.2.2⟩, h μ H _ .refl s (rep_int.mpr rfl)⟩
    · exact elimP h
  · cases d <;> cases e <;> first | rfl | exact absurd ⟨rfl, rfl⟩ (h _ _)
theorem dop_cmpI {o : CmpOp} {p : Int → Int → Bool} (ho : OpR X (compareOp o) (rI0 fun i j => .bl (p i j))) : DOp ca X (compareOp o) (opI p) := by
  refine dop_ints (OpR.c0 ho) (fun K E μ H Q i j st s h => ⟨True.intro, h μ H _ .refl s (rep_bl.mpr rfl)⟩) fun d e st h => ?_
  cases d <;> cases e <;> first | rfl | exact absurd ⟨rfl, rfl⟩ (h _ _)
theorem dop_lt : DOp ca X (compareOp .Lt) opLt := dop_cmpI op_lt
theorem dop_le : DOp ca X (compareOp .LtE) opLe := dop_cmpI op_le
theorem dop_gt : DOp ca X (compareOp .Gt) opGt := dop_cmpI op_gt
theorem dop_ge : DOp ca X (compareOp .GtE) opGe := dop_cmpI op_ge
theorem rep_isN {K : PySem.W.Frag} {μ : List Addr} {H : Hp} {d : D} {v : V} (r : Rep K μ H d v) : decide (v = .non) = d.isNon := by
  cases d with
  | non => rw [rep_non] at r; subst r; rfl
  | bl b => rw [rep_bl] at r; subst r; rfl
  | int b => rw [rep_int] at r; subst r; rfl
  | str b => rw [rep_str] at r; subst r; rfl
  | tup b => obtain ⟨a, xs, rfl, _⟩ := rep_tup.mp r; rfl
  | loc b => obtain ⟨a, _, rfl⟩ := rep_loc.mp r; rfl
theorem dop_isN : DOp ca X (compareOp .Is) opIsN := by
  refine ⟨_, op_isN, fun E x y H Q d e st μ rx ry s h => ?_⟩
  cases e <;> first | exact elimP h | skip
  rw [rep_non] at ry
  refine ⟨ry, ?_⟩
  rw [rep_isN rx]
  exact h μ H _ .refl s (rep_bl.mpr rfl)
theorem dop_notN : DOp ca X (compareOp .IsNot) opNotN := by
  refine ⟨_, op_notN, fun E x y H Q d e st μ rx ry s h => ?_⟩
  cases e <;> first | exact elimP h | skip
  rw [rep_non] at ry
  refine ⟨ry, ?_⟩
  rw [rep_isN rx]
  exact h μ H _ .refl s (rep_bl.mpr rfl)
end
end DL

set_option Elab.async false
set_option linter.all false
set_option maxRecDepth 100000
set_option maxHeartbeats 4000000
namespace DL
open PySem L2 PySem.Spec PyProof.Rows

/-! ### data compared -/
def allO {α : Type} : List (Option α) → Option (List α)
  | [] => some []
  | o :: r => match o, allO r with
    | some a, some l => some (a :: l)
    | _, _ => none
def toPD (st : Sto) : Nat → D → Option PyData
  | 0, _ => none
  | n + 1, d => match d with
    | .non => some .none
    | .bl b => some (.bool b)
    | .int i => some (.int i)
    | .str s => some (.str s)
    | .tup ds => (allO (ds.map (toPD st n))).map PyData.tuple
    | .loc i => match seqAt st i with
      | some ds => (allO (ds.map (toPD st n))).map PyData.list
      | none => none
section
variable {K : PySem.W.Frag} {ca : Nat → Addr} {μ : List Addr} {H : Hp} {st : Sto}
theorem dps_of {f : D → Option PyData} (hf : ∀ d v p, f d = some p → Rep K μ H d v → Dp K H v p) : ∀ {ds : List D} {vs : List V} {ps : List PyData}, allO (ds.map f) = some ps → RepL K μ H ds vs → DpAll K H vs ps
  | [], vs, ps, h, r => by cases h; rw [repL_nil] at r; subst r; exact .nil
  | d :: ds, vs, ps, h, r => by
    obtain ⟨v, w, rfl, h1, h2⟩ := repL_cons.mp r
    rw [List.map_cons] at h
    unfold allO at h
    cases q1 : f d with
    | none => rw [q1] at h; cases h
    | some p =>
      cases q2 : allO (ds.map f) with
      | none => rw [q1, q2] at h; cases h
      | some qs => rw [q1, q2] at h; cases h; exact .cons (hf _ _ _ q1 h1) (dps_of hf q2 h2)
theorem dp_of (s : Sim K ca μ st H) : ∀ (n : Nat) {d : D} {v : V} {p : PyData}, toPD st n d = some p → Rep K μ H d v → Dp K H v p
  | 0, d, v, p, h, r => by cases h
  | n + 1, d, v, p, h, r => by
    unfold toPD at h
    cases d with
    | non => cases h; rw [rep_non] at r; subst r; exact .non
    | bl b => cases h; rw [rep_bl] at r; subst r; exact .bl b
    | int b => cases h; rw [rep_int] at r; subst r; exact .int b
    | str b => cases h; rw [rep_str] at r; subst r; exact .str b
    | tup ds =>
      obtain ⟨a, vs, rfl, h1, h2⟩ := rep_tup.mp r
      simp only at h
      cases q : allO (ds.map (toPD st n)) with
      | none => rw [q] at h; cases h
      | some ps => rw [q] at h; cases h; exact .tup h1.sq (dps_of (fun _ _ _ => dp_of s n) q h2)
    | loc i =>
      simp only at h
      cases z : seqAt st i with
      | none => rw [z] at h; cases h
      | some ds =>
        rw [z] at h
        obtain ⟨a, vs, rfl, h1, h2⟩ := sq_of s z r
        simp only at h
        cases q : allO (ds.map (toPD st n)) with
        | none => rw [q] at h; cases h
        | some ps => rw [q] at h; cases h; exact .lst h1 (dps_of (fun _ _ _ => dp_of s n) q h2)
end
def eqData (st : Sto) (x y : D) : Option Bool := match toPD st 64 x, toPD st 64 y with
  | some p, some q => if SeqAt.shaped p && SeqAt.shaped q then some (PyData.eqv p q) else none
  | _, _ => none
def opEq (x y : D) : M D := fun st => match eqData st x y with
  | some b => .ok (.bl b) st
  | none => .stuck
def opNe (x y : D) : M D := fun st => match eqData st x y with
  | some b => .ok (.bl (!b)) st
  | none => .stuck
def D.flat : D → Bool
  | .non | .bl _ | .int _ | .str _ => true
  | _ => false
def D.eqF : D → D → Bool
  | .non, .non => true
  | .bl a, .bl b => a == b
  | .bl a, .int b => (if a then 1 else 0) == b
  | .int a, .bl b => a == (if b then 1 else 0)
  | .int a, .int b => a == b
  | .str a, .str b => a == b
  | _, _ => false
def D.inF (x : D) (ys : List D) : Bool := ys.any fun y => y.eqF x
def seqOf (st : Sto) : D → Option (List D)
  | .tup ds => some ds
  | .loc i => seqAt st i
  | _ => none
def opIn (x y : D) : M D := fun st => match seqOf st y with
  | some ys => if x.flat && ys.all D.flat then .ok (.bl (x.inF ys)) st else .stuck
  | none => match x, y with
    | .str a, .str z => match a.cps.toList with
      | [c] => .ok (.bl (decide (c ∈ z.cps.toList))) st
      | _ => .stuck
    | _, _ => .stuck
def opNotIn (x y : D) : M D := fun st => match seqOf st y with
  | some ys => if x.flat && ys.all D.flat then .ok (.bl (!x.inF ys)) st else .stuck
  | none => match x, y with
    | .str a, .str z => match a.cps.toList with
      | [c] => .ok (.bl (!decide (c ∈ z.cps.toList))) st
      | _ => .stuck
    | _, _ => .stuck
section
variable {K : PySem.W.Frag} {ca : Nat → Addr} {μ : List Addr} {H : Hp} {st : Sto}
theorem flat_rep {d : D} {v : V} (r : Rep K μ H d v) : flatV v = d.flat ∨ ∃ a, v = .ref a ∧ d.flat = false := by
  cases d with
  | non => rw [rep_non] at r; subst r; exact .inl rfl
  | bl b => rw [rep_bl] at r; subst r; exact .inl rfl
  | int b => rw [rep_int] at r; subst r; exact .inl rfl
  | str b => rw [rep_str] at r; subst r; exact .inl rfl
  | tup b => obtain ⟨a, xs, rfl, _⟩ := rep_tup.mp r; exact .inr ⟨a, rfl, rfl⟩
  | loc b => obtain ⟨a, _, rfl⟩ := rep_loc.mp r; exact .inr ⟨a, rfl, rfl⟩
theorem flat_of {d : D} {v : V} (r : Rep K μ H d v) (h : d.flat = true) : flatV v = true := by
  rcases flat_rep r with e | ⟨a, _, e⟩
  · rw [e]; exact h
  · rw [e] at h; cases h
theorem eqF_of {d e : D} {v w : V} (r : Rep K μ H d v) (q : Rep K μ H e w) (h : d.flat = true) (h' : e.flat = true) : eqV v w = d.eqF e := by
  cases d <;> cases e <;> first | exact absurd h Bool.false_ne_true | exact absurd h' Bool.false_ne_true | skip
  all_goals
    first | rw [rep_non] at r | rw [rep_bl] at r | rw [rep_int] at r | rw [rep_str] at r
    first | rw [rep_non] at q | rw [rep_bl] at q | rw [rep_int] at q | rw [rep_str] at q
    subst r; subst q; rfl
theorem flats_of : ∀ {ds : List D} {vs : List V}, RepL K μ H ds vs → ds.all D.flat = true → vs.all flatV = true
  | [], vs, r, h => by rw [repL_nil] at r; subst r; rfl
  | d :: ds, vs, r, h => by
    obtain ⟨v, w, rfl, h1, h2⟩ := repL_cons.mp r
    rw [List.all_cons, Bool.and_eq_true] at h ⊢
    exact ⟨flat_of h1 h.1, flats_of h2 h.2⟩
theorem inF_of {x : D} {v : V} (rx : Rep K μ H x v) (fx : x.flat = true) : ∀ {ds : List D} {vs : List V}, RepL K μ H ds vs → ds.all D.flat = true → inV v vs = x.inF ds
  | [], vs, r, h => by rw [repL_nil] at r; subst r; rfl
  | d :: ds, vs, r, h => by
    obtain ⟨v', w, rfl, h1, h2⟩ := repL_cons.mp r
    rw [List.all_cons, Bool.and_eq_true] at h
    have ih := inF_of rx fx h2 h.2
    unfold inV D.inF at ih ⊢
    rw [List.any_cons, List.any_cons, ih, eqF_of h1 rx h.1 fx]
theorem seqOf_rep {y : D} {ys : List D} {v : V} (s : Sim K ca μ st H) (h : seqOf st y = some ys) (r : Rep K μ H y v) : ∃ p vs, v = .ref p ∧ (SqL K H p vs ∨ SqT K H p vs) ∧ RepL K μ H ys vs := by
  cases y with
  | tup ds => cases h; obtain ⟨a, vs, rfl, h1, h2⟩ := rep_tup.mp r; exact ⟨a, vs, rfl, .inr h1.sq, h2⟩
  | loc i => obtain ⟨a, vs, rfl, h1, h2⟩ := sq_of s h r; exact ⟨a, vs, rfl, .inl h1, h2⟩
  | _ => cases h
end
section
variable {X : Cx} {ca : Nat → Addr}
theorem dop_eq (hu : X.A.units + 64 < cLine) : DOp ca X (compareOp .Eq) opEq := by
  refine ⟨_, op_eqD hu, fun E x y H Q d e st μ rx ry s h => ?_⟩
  unfold opEq eqData at h
  cases q1 : toPD st 64 d with
  | none => rw [q1] at h; exact elimP h
  | some p =>
    cases q2 : toPD st 64 e with
    | none => rw [q1, q2] at h; exact elimP h
    | some q =>
      rw [q1, q2] at h
      simp only at h
      cases sh : SeqAt.shaped p && SeqAt.shaped q with
      | false => rw [sh] at h; exact elimP h
      | true =>
        rw [sh] at h
        rw [Bool.and_eq_true] at sh
        exact ⟨p, q, dp_of s 64 q1 rx, dp_of s 64 q2 ry, sh.1, sh.2, h μ H _ .refl s (rep_bl.mpr rfl)⟩
theorem dop_ne (hu : X.A.units + 64 < cLine) : DOp ca X (compareOp .NotEq) opNe := by
  refine ⟨_, op_neD hu, fun E x y H Q d e st μ rx ry s h => ?_⟩
  unfold opNe eqData at h
  cases q1 : toPD st 64 d with
  | none => rw [q1] at h; exact elimP h
  | some p =>
    cases q2 : toPD st 64 e with
    | none => rw [q1, q2] at h; exact elimP h
    | some q =>
      rw [q1, q2] at h
      simp only at h
      cases sh : SeqAt.shaped p && SeqAt.shaped q with
      | false => rw [sh] at h; exact elimP h
      | true =>
        rw [sh] at h
        rw [Bool.and_eq_true] at sh
        exact ⟨p, q, dp_of s 64 q1 rx, dp_of s 64 q2 ry, sh.1, sh.2, h μ H _ .refl s (rep_bl.mpr rfl)⟩
theorem dop_in : DOp ca X (compareOp .In) opIn := by
  refine ⟨_, op_in_seq.or op_in_sign, fun E x y H Q d e st μ rx ry s h => ?_⟩
  unfold opIn at h
  cases q : seqOf st e with
  | some ys =>
    rw [q] at h
    simp only at h
    split at h
    · rename_i f
      rw [Bool.and_eq_true] at f
      obtain ⟨p, vs, rfl, h1, h2⟩ := seqOf_rep s q ry
      refine .inl ⟨p, vs, rfl, h1, flat_of rx f.1, flats_of h2 f.2, ?_⟩
      rw [inF_of rx f.1 h2 f.2]
      exact h μ H _ .refl s (rep_bl.mpr rfl)
    · exact elimP h
  | none =>
    rw [q] at h
    simp only at h
    split at h
    · rename_i a z
      rw [rep_str] at rx ry
      split at h
      · rename_i c hc
        refine .inr ⟨c, z, ?_, ry, h μ H _ .refl s (rep_bl.mpr rfl)⟩
        rw [rx, ← hc]
      · exact elimP h
    · exact elimP h
theorem dop_notIn : DOp ca X (compareOp .NotIn) opNotIn := by
  refine ⟨_, op_notIn_seq.or op_notIn_sign, fun E x y H Q d e st μ rx ry s h => ?_⟩
  unfold opNotIn at h
  cases q : seqOf st e with
  | some ys =>
    rw [q] at h
    simp only at h
    split at h
    · rename_i f
      rw [Bool.and_eq_true] at f
      obtain ⟨p, vs, rfl, h1, h2⟩ := seqOf_rep s q ry
      refine .inl ⟨p, vs, rfl, h1, flat_of rx f.1, flats_of h2 f.2, ?_⟩
      rw [inF_of rx f.1 h2 f.2]
      exact h μ H _ .refl s (rep_bl.mpr rfl)
    · exact elimP h
  | none =>
    rw [q] at h
    simp only at h
    split at h
    · rename_i a z
      rw [rep_str] at rx ry
      split at h
      · rename_i c hc
        refine .inr ⟨c, z, ?_, ry, h μ H _ .refl s (rep_bl.mpr rfl)⟩
        rw [rx, ← hc]
      · exact elimP h
    · exact elimP h
end

/-! ### subscripts -/
def opIx (x y : D) : M D := fun st => match y with
  | .int i => match x with
    | .str z => if z.length ≤ sizeLine then (match atI z.cps.toList i with
      | some c => .ok (.str ⟨#[c]⟩) st
      | none => .stuck) else .stuck
    | _ => match seqOf st x with
      | some ds => (match atI ds i with
        | some d => .ok d st
        | none => .stuck)
      | none => .stuck
  | _ => .stuck
def opSl (x : D) (lo hi : Option Int) : M D := fun st => match x with
  | .str z => if z.length ≤ sizeLine then .ok (.str (cutS z lo hi)) st else .stuck
  | .tup ds => .ok (.tup (cutD ds lo hi)) st
  | .loc i => match seqAt st i with
    | some ds => .ok (.loc st.length) (st ++ [.lst (cutD ds lo hi)])
    | none => .stuck
  | _ => .stuck
def toI : D → M Int
  | .int i => pure i
  | _ => stuck
def pNone : En → M (Option Int) := fun _ => pure none
def pSome (f : En → M D) : En → M (Option Int) := fun ρ => do pure (some (← toI (← f ρ)))
def eSl (f : En → M D) (lo hi : En → M (Option Int)) : En → M D := fun ρ => do
  let x ← f ρ; let l ← lo ρ; let h ← hi ρ; opSl x l h
structure DO (ca : Nat → Addr) (E : XK) (X : Cx) (e : Option Expr) (f : En → M (Option Int)) : Prop where
  ex : ∃ t, PO X e t ∧ ∀ σ H Q ρ st μ, EnvR X.K μ H ρ σ → Sim X.K ca μ st H → Post X.K ca E μ H (f ρ st) (fun o st' => ∀ μ' H', Ext X.K μ H μ' H' → Sim X.K ca μ' st' H' → Q o H') → t σ H Q
section
variable {X : Cx} {ca : Nat → Addr} {E : XK} {a b : Expr} {pos p2 : Pos} {f g : En → M D} {lo hi : Option Expr} {fl fh : En → M (Option Int)}
theorem do_none : DO ca E X none pNone := ⟨_, po_none, fun σ H Q ρ st μ re s h => h μ H .refl s⟩
theorem do_some (ha : DE ca E X a f) : DO ca E X (some a) (pSome f) := by
  obtain ⟨ta, pa, ga⟩ := ha.ex
  refine ⟨_, po_some pa, fun σ H Q ρ st μ re s h => ?_⟩
  refine ga.bind re s h fun d st1 μ1 H1 x e1 s1 r1 re1 h1 => ?_
  cases d with
  | int i => exact ⟨i, rep_int.mp r1, h1 μ1 H1 e1 s1⟩
  | _ => exact h1.elim
theorem de_ix (ha : DE ca E X a f) (hb : DE ca E X b g) (hs : PlainIx b := by exact fun _ _ => rfl) : DE ca E X (.Subscript a b pos) (eBin opIx f g) := by
  obtain ⟨ta, pa, ga⟩ := ha.ex
  obtain ⟨tb, pb, gb⟩ := hb.ex
  refine ⟨_, pe_ix (ix_list.or (ix_tup.or ix_str)) pa pb hs, ge_bin (fun E x y H Q d e st μ rx ry s h => ?_) ga gb⟩
  unfold opIx at h
  cases e <;> first | exact elimP h | skip
  rename_i i
  rw [rep_int] at ry
  simp only at h
  split at h
  · rename_i z
    split at h
    · rename_i hz
      split at h
      · rename_i c hc
        exact .inr (.inr ⟨z, i, c, rep_str.mp rx, ry, hz, hc, h μ H _ .refl s (rep_str.mpr rfl)⟩)
      · exact elimP h
    · exact elimP h
  · split at h
    · rename_i ds hds
      split at h
      · rename_i dd hdd
        obtain ⟨p, vs, rfl, h1, h2⟩ := seqOf_rep s hds rx
        obtain ⟨v, h3, h4⟩ := atI_rep h2 hdd
        have fin := h μ H v .refl s h4
        rcases h1 with h1 | h1
        · exact .inl ⟨p, vs, i, v, rfl, ry, h1, h3, fin⟩
        · exact .inr (.inl ⟨p, vs, i, v, rfl, ry, h1, h3, fin⟩)
      · exact elimP h
    · exact elimP h
theorem sl_tupF : SlR X (fun x lo hi H Q => ∃ a xs, x = V.ref a ∧ TupR X.K H a xs ∧ (cutV xs lo hi = xs → Q (.ref a) H) ∧ ∀ (p : Addr) (o : Obj), H p = none → o.dict = none → Q (.ref p) (upd H p (.frz o (.tup (cutV xs lo hi))))) := by
  intro pins s σ H x v vl vu lo hi sl Q I rx hs pl pu h
  obtain ⟨a, xs, rfl, hx, q1, q2⟩ := h
  cases rx
  obtain ⟨its, r, ht, hz⟩ := I.tuple hx.sq
  have hlen : its.toArray.size = xs.length := by rw [List.size_toArray]; exact r.length.symm
  refine ⟨"tuple", _, PyProof.Rows.slot_tuple_getitem.lookup, ht.typeIs, ?_⟩
  by_cases hw : HT.sIx xs.length 0 lo = 0 ∧ HT.sIx xs.length xs.length hi = xs.length
  · have whole : cutV xs lo hi = xs := by unfold cutV; rw [hw.1, hw.2]; simp
    exact getItem_tuple_whole ht hs pl pu (by rw [hlen]; exact hw) ⟨.ref a, H, I, rfl, q1 whole⟩
  · refine HT.getItem_tuple_cut ht hs pl pu (by rw [hlen]; exact hw) ?_ (by rw [hlen]; exact hz)
    rw [hlen]
    exact laid_tup I (Nat.le_trans (cutV_length xs lo hi) hz) ((r.drop (HT.sIx xs.length 0 lo)).take (HT.sIx xs.length xs.length hi - HT.sIx xs.length 0 lo)) q2
theorem de_slice (ha : DE ca E X a f) (hl : DO ca E X lo fl) (hh : DO ca E X hi fh) : DE ca E X (.Subscript a (.Slice lo hi none p2) pos) (eSl f fl fh) := by
  obtain ⟨ta, pa, ga⟩ := ha.ex
  obtain ⟨tl, pl, gl⟩ := hl.ex
  obtain ⟨th, ph, gh⟩ := hh.ex
  refine ⟨_, pe_slice ((sl_str.or sl_tupF).or sl_list) pa pl ph, fun σ H Q ρ st μ re s h => ?_⟩
  refine ga.bind re s h fun d st1 μ1 H1 x e1 s1 r1 re1 h1 => ?_
  refine gl σ H1 _ ρ st1 μ1 re1 s1 ((Post.bind.mp h1).imp fun l st2 q => ?_)
  intro μ2 H2 e2 s2
  have h2 := q.mono e2 fun _ _ z => z
  refine gh σ H2 _ ρ st2 μ2 (re1.mono e2) s2 ((Post.bind.mp h2).imp fun u st3 q3 => ?_)
  intro μ3 H3 e3 s3
  have h3 := q3.mono e3 fun _ _ z => z
  have r3 := r1.mono (e2.trans e3)
  have e03 := (e1.trans e2).trans e3
  unfold opSl at h3
  cases d with
  | str z =>
    simp only at h3
    split at h3
    · rename_i hz; exact .inl (.inl ⟨z, rep_str.mp r3, hz, (h3 : KV X.K ca μ H Q _ _) μ3 H3 _ e03 s3 (rep_str.mpr rfl)⟩)
    · exact elimP h3
  | tup ds =>
    obtain ⟨p, vs, rfl, g1, g2⟩ := rep_tup.mp r3
    have h4 : KV X.K ca μ H Q (.tup (cutD ds l u)) st3 := h3
    refine .inl (.inr ⟨p, vs, rfl, g1, fun w => ?_, fun p' o hp hd => new_tup s3 (cut_rep g2 l u) (h4.mono e03) hp hd⟩)
    refine h4 μ3 H3 _ e03 s3 (rep_tup.mpr ⟨p, vs, rfl, g1, ?_⟩)
    have := cut_rep g2 l u
    rw [w] at this; exact this
  | loc i =>
    simp only at h3
    split at h3
    · rename_i ds hds
      obtain ⟨p, vs, rfl, g1, g2⟩ := sq_of s3 hds r3
      exact .inr ⟨p, vs, rfl, g1, fun p' hp => new_lst s3 (cut_rep g2 l u) (KV.mono h3 e03) hp⟩
    · exact elimP h3
  | _ => exact elimP h3
end
end DL

set_option Elab.async false
set_option linter.all false
set_option maxRecDepth 100000
set_option maxHeartbeats 4000000
namespace DL
open PySem L2 PySem.Spec PyProof.Rows

/-! ### calls of built-ins -/
structure DCall (ca : Nat → Addr) (X : Cx) (f : Value) (op : List D → M D) : Prop where
  ex : ∃ r, CallR X f r ∧ RLGood X.K ca r op
def eCall (op : List D → M D) (fa : En → M (List D)) : En → M D := fun ρ => do op (← fa ρ)
section
variable {X : Cx} {ca : Nat → Addr} {E : XK} {e o : Expr} {es : List Expr} {p pos apos cpos : Pos} {x : Str} {id T : String} {op : List D → M D} {f : En → M D} {fa : En → M (List D)}
theorem de_callB (hc : DCall ca X (.builtin id) op) (hg : Gl X x) (hm : X.mg x = none) (hv : bootBuiltins x = some (.builtin id)) (ha : DA ca E X (e :: es) fa) (hn : x ≠ "__name__" := by decide) (hdb : (x == ("__debug__" : Str)) = false := by decide)
    (he : starEach (e :: es) X.env = (false, eval e X.env) :: starEach es X.env := by rfl) (hpl : (backTo pos (starEach es X.env)).any (·.1) = false := by rfl) : DE ca E X (.Call (.Name x p) (e :: es) [] pos) (eCall op fa) := by
  obtain ⟨r, h1, h2⟩ := hc.ex
  obtain ⟨t, pa, ga⟩ := ha.ex
  refine ⟨_, pe_callB h1 hg hm hv pa hn hdb he hpl, fun σ H Q ρ st μ re s h => ?_⟩
  refine ga.bind re s h fun ds st1 μ1 H1 xs e1 s1 r1 re1 g1 => ?_
  exact h2 E xs H1 Q ds st1 μ1 r1 s1 (g1.imp fun _ _ z => z.mono e1)
theorem de_callTy (hc : DCall ca X (.type T) op) (hg : Gl X x) (hm : X.mg x = none) (hv : bootBuiltins x = some (.type T)) (ha : DA ca E X (e :: es) fa) (hn : x ≠ "__name__" := by decide) (hdb : (x == ("__debug__" : Str)) = false := by decide)
    (he : starEach (e :: es) X.env = (false, eval e X.env) :: starEach es X.env := by rfl) (hpl : (backTo pos (starEach es X.env)).any (·.1) = false := by rfl) : DE ca E X (.Call (.Name x p) (e :: es) [] pos) (eCall op fa) := by
  obtain ⟨r, h1, h2⟩ := hc.ex
  obtain ⟨t, pa, ga⟩ := ha.ex
  refine ⟨_, pe_callTy h1 hg hm hv pa hn hdb he hpl, fun σ H Q ρ st μ re s h => ?_⟩
  refine ga.bind re s h fun ds st1 μ1 H1 xs e1 s1 r1 re1 g1 => ?_
  exact h2 E xs H1 Q ds st1 μ1 r1 s1 (g1.imp fun _ _ z => z.mono e1)
def bLen (xs : List D) : M D := fun st => match xs with
  | [.str z] => if z.length ≤ sizeLine then .ok (.int z.length) st else .stuck
  | [d] => match seqOf st d with
    | some ds => .ok (.int ds.length) st
    | none => .stuck
  | _ => .stuck
theorem dc_len : DCall ca X (.builtin "len") bLen := by
  refine ⟨_, call_len_str.or call_len_seq, fun E xs H Q ds st μ r s h => ?_⟩
  unfold bLen at h
  split at h
  · rename_i z
    obtain ⟨v, rfl, rv⟩ := r.single
    split at h
    · rename_i hz; exact .inl ⟨z, by rw [rep_str.mp rv], hz, h μ H _ .refl s (rep_int.mpr rfl)⟩
    · exact elimP h
  · rename_i d _
    obtain ⟨v, rfl, rv⟩ := r.single
    split at h
    · rename_i ds hd
      obtain ⟨p, vs, rfl, h1, h2⟩ := seqOf_rep s hd rv
      refine .inr ⟨p, vs, rfl, h1, ?_⟩
      rw [h2.length]
      exact h μ H _ .refl s (rep_int.mpr rfl)
    · exact elimP h
  · exact elimP h
def bInt (xs : List D) : M D := fun st => match xs with
  | [.int i] => .ok (.int i) st
  | [.bl b] => .ok (.int (if b then 1 else 0)) st
  | _ => .stuck
theorem dc_int : DCall ca X (.type "int") bInt := by
  refine ⟨_, call_int1, fun E xs H Q ds st μ r s h => ?_⟩
  unfold bInt at h
  split at h
  · obtain ⟨v, rfl, rv⟩ := r.single
    exact .inl ⟨_, by rw [rep_int.mp rv], h μ H _ .refl s (rep_int.mpr rfl)⟩
  · obtain ⟨v, rfl, rv⟩ := r.single
    exact .inr ⟨_, by rw [rep_bl.mp rv], h μ H _ .refl s (rep_int.mpr rfl)⟩
  · exact elimP h
def bTuple (xs : List D) : M D := fun st => match xs with
  | [.tup ds] => .ok (.tup ds) st
  | [.loc i] => match seqAt st i with
    | some ds => .ok (.tup ds) st
    | none => .stuck
  | _ => .stuck
theorem dc_tuple : DCall ca X (.type "tuple") bTuple := by
  have fromL : CallR X (.type "tuple") (fun xs H Q => ∃ p ys, xs = [V.ref p] ∧ SqL X.K H p ys ∧ ∀ (l : Addr) (o : Obj), H l = none → o.dict = none → Q (.ref l) (upd H l (.frz o (.tup ys)))) := by
    intro pins s σ H xs us Q I r h
    obtain ⟨p, ys, rfl, hq, q⟩ := h
    obtain ⟨u, rfl, rx⟩ := vals1 r
    cases rx
    obtain ⟨its, r', pl, hz⟩ := I.list hq
    have hlen := r'.length
    refine call_tuple_list pl.isList (fun h' kp => ?_) (by rw [List.size_toArray, ← hlen]; exact hz)
    exact laid_tup (s := { s with heap := h' }) (I.kept (t' := s.toks) kp) hz r' q
  refine ⟨_, fromL.or call_tupleT, fun E xs H Q ds st μ r s h => ?_⟩
  unfold bTuple at h
  split at h
  · obtain ⟨v, rfl, rv⟩ := r.single
    have rv0 := rv
    obtain ⟨a, vs, rfl, h1, h2⟩ := rep_tup.mp rv
    exact .inr ⟨a, vs, rfl, h1.sq, h μ H _ .refl s rv0⟩
  · obtain ⟨v, rfl, rv⟩ := r.single
    split at h
    · rename_i ds hd
      obtain ⟨p, vs, rfl, h1, h2⟩ := sq_of s hd rv
      exact .inl ⟨p, vs, rfl, h1, fun l o hl ho => new_tup s h2 h hl ho⟩
    · exact elimP h
  · exact elimP h
def bList (xs : List D) : M D := fun st => match xs with
  | [d] => match seqOf st d with
    | some ds => .ok (.loc st.length) (st ++ [.lst ds])
    | none => .stuck
  | _ => .stuck
theorem dc_list : DCall ca X (.type "list") bList := by
  refine ⟨_, call_list_of, fun E xs H Q ds st μ r s h => ?_⟩
  unfold bList at h
  split at h
  · rename_i d
    obtain ⟨v, rfl, rv⟩ := r.single
    split at h
    · rename_i ds hd
      obtain ⟨p, vs, rfl, h1, h2⟩ := seqOf_rep s hd rv
      exact ⟨p, vs, rfl, h1, fun l hl => new_lst s h2 h hl⟩
    · exact elimP h
  · exact elimP h
def blsOf : List D → Option (List Bool)
  | [] => some []
  | .bl b :: r => (blsOf r).map (b :: ·)
  | _ => none
theorem bls_rep {K : PySem.W.Frag} {μ : List Addr} {H : Hp} : ∀ {ds : List D} {vs : List V} {bs : List Bool}, blsOf ds = some bs → RepL K μ H ds vs → vs = bs.map V.bl
  | [], vs, bs, h, r => by cases h; exact repL_nil.mp r
  | d :: ds, vs, bs, h, r => by
    obtain ⟨v, w, rfl, h1, h2⟩ := repL_cons.mp r
    cases d with
    | bl b =>
      unfold blsOf at h
      cases q : blsOf ds with
      | none => rw [q] at h; cases h
      | some cs => rw [q] at h; cases h; rw [rep_bl.mp h1, bls_rep q h2]; rfl
    | _ => cases h
def bAll (xs : List D) : M D := fun st => match xs with
  | [.loc i] => match (seqAt st i).bind blsOf with
    | some bs => .ok (.bl (bs.all _root_.id)) st
    | none => .stuck
  | _ => .stuck
def bAny (xs : List D) : M D := fun st => match xs with
  | [.loc i] => match (seqAt st i).bind blsOf with
    | some bs => .ok (.bl (bs.any _root_.id)) st
    | none => .stuck
  | _ => .stuck
theorem dc_all (hc : X.calm = true) : DCall ca X (.builtin "all") bAll := by
  refine ⟨_, cr_all hc, fun E xs H Q ds st μ r s h => ?_⟩
  unfold bAll at h
  split at h
  · obtain ⟨v, rfl, rv⟩ := r.single
    split at h
    · rename_i bs hb
      obtain ⟨ds, h1, h2⟩ := Option.bind_eq_some_iff.mp hb
      obtain ⟨p, vs, rfl, h3, h4⟩ := sq_of s h1 rv
      have e := bls_rep h2 h4
      subst e
      exact ⟨p, bs, rfl, h3, h μ H _ .refl s (rep_bl.mpr rfl)⟩
    · exact elimP h
  · exact elimP h
theorem dc_any (hc : X.calm = true) : DCall ca X (.builtin "any") bAny := by
  refine ⟨_, cr_any hc, fun E xs H Q ds st μ r s h => ?_⟩
  unfold bAny at h
  split at h
  · obtain ⟨v, rfl, rv⟩ := r.single
    split at h
    · rename_i bs hb
      obtain ⟨ds, h1, h2⟩ := Option.bind_eq_some_iff.mp hb
      obtain ⟨p, vs, rfl, h3, h4⟩ := sq_of s h1 rv
      have e := bls_rep h2 h4
      subst e
      exact ⟨p, bs, rfl, h3, h μ H _ .refl s (rep_bl.mpr rfl)⟩
    · exact elimP h
  · exact elimP h
def bMin2 (xs : List D) : M D := fun st => match xs with
  | [.int i, .int j] => .ok (.int (if j < i then j else i)) st
  | _ => .stuck
theorem dc_min2 (hc : X.calm = true) : DCall ca X (.builtin "min") bMin2 := by
  refine ⟨_, call_min2 hc, fun E xs H Q ds st μ r s h => ?_⟩
  unfold bMin2 at h
  split at h
  · obtain ⟨v, w, rfl, rv, rw'⟩ := r.pair
    exact ⟨_, _, by rw [rep_int.mp rv, rep_int.mp rw'], h μ H _ .refl s (rep_int.mpr rfl)⟩
  · exact elimP h

/-! ### isinstance of a built-in class -/
def D.ty (st : Sto) : D → Option String
  | .non => some "NoneType"
  | .bl _ => some "bool"
  | .int _ => some "int"
  | .str _ => some "str"
  | .tup _ => some "tuple"
  | .loc i => (seqAt st i).map fun _ => "list"
def isiB (T : String) (d : D) : M D := fun st => match d.ty st with
  | some t => match kitB t T with
    | some b => .ok (.bl b) st
    | none => .stuck
  | none => .stuck
theorem ty_of {K : PySem.W.Frag} {ca : Nat → Addr} {μ : List Addr} {H : Hp} {st : Sto} {d : D} {v : V} {t : String} (s : Sim K ca μ st H) (h : d.ty st = some t) (r : Rep K μ H d v) : TyX K H v (.type t) := by
  cases d with
  | non => cases h; rw [rep_non] at r; subst r; exact .base .non
  | bl b => cases h; rw [rep_bl] at r; subst r; exact .base (.bl b)
  | int b => cases h; rw [rep_int] at r; subst r; exact .base (.int b)
  | str b => cases h; rw [rep_str] at r; subst r; exact .base (.str b)
  | tup b =>
    cases h
    obtain ⟨a, vs, rfl, h1, h2⟩ := rep_tup.mp r
    rcases h1 with ⟨o, _, h1⟩ | ⟨o, its, n, h1, h2, _⟩
    · exact .fTuple h1
    · exact .kTuple h1 h2
  | loc i =>
    change Option.map (fun _ => "list") (seqAt st i) = some t at h
    cases q : seqAt st i with
    | none => rw [q] at h; cases h
    | some ds =>
      rw [q] at h; cases h
      obtain ⟨a, vs, rfl, h1, h2⟩ := sq_of s q r
      rcases h1 with (h1 | ⟨o, h1⟩) | ⟨o, its, n, h1, h2, _⟩
      · exact .base (.lst h1)
      · exact .base (.frz h1)
      · exact .kList h1 h2
theorem de_isi {y : Str} {py : Pos} (hg : Gl X "isinstance") (hm : X.mg "isinstance" = none) (hv : bootBuiltins "isinstance" = some (.builtin "isinstance")) (hgy : Gl X y) (hmy : X.mg y = none) (hvy : bootBuiltins y = some (.type T)) (ha : DE ca E X e f)
    (hs : starEach [e, .Name y py] X.env = (false, eval e X.env) :: starEach [.Name y py] X.env := by rfl) (hs2 : starEach [.Name y py] X.env = (false, eval (.Name y py) X.env) :: starEach [] X.env := by rfl)
    (hn : y ≠ "__name__" := by decide) (hdb : (y == ("__debug__" : Str)) = false := by decide) (hpl : (backTo pos (starEach [.Name y py] X.env)).any (·.1) = false := by rfl) : DE ca E X (.Call (.Name "isinstance" p) [e, .Name y py] [] pos) (eUn (isiB T) f) := by
  obtain ⟨t, pa, ga⟩ := ha.ex
  refine ⟨_, pe_callB call_isi hg hm hv (pa_cons pa (pa_cons (pe_bltn (v := .ty T) hgy hmy hvy rfl hn hdb) pa_nil hs2) hs) (by decide) (by decide) hs hpl, fun σ H Q ρ st μ re s h => ?_⟩
  refine ga.bind re s h fun d st1 μ1 H1 x e1 s1 r1 re1 h1 => ?_
  unfold isiB at h1
  split at h1
  · rename_i t ht
    split at h1
    · rename_i b hb
      exact ⟨x, .ty T, .type t, .type T, b, rfl, .ty T, ty_of s1 ht r1, kit_ty hb, (h1 : KV X.K ca μ H Q _ _) μ1 H1 _ e1 s1 (rep_bl.mpr rfl)⟩
    · exact elimP h1
  · exact elimP h1

/-! ### methods of built-in values -/
/-- what a method's road asks of its receiver -/
def TyG (X : Cx) (T : String) (ty : V → Hp → Prop) : Prop := ∀ {pins : List (Addr × Obj)} {σ : L2.St} {H : Hp} {s : Shared} {x : V} {v : Value}, Inv X pins σ H s → RelV x v → ty x H →
  s.TypeIs v T ∧ ∀ a, v = .ref a → ∃ ob, s.heap.get? a = some ob ∧ ob.dict = none
def tMtG (ty : V → Hp → Prop) (r : V → List V → Hp → VK → Prop) (to : TE) (t : TA) : TE := fun σ H Q => to σ H fun x H1 => ty x H1 ∧ t σ H1 fun xs H2 => r x xs H2 Q
theorem pe_mtG {name : Str} {r : V → List V → Hp → VK → Prop} {ty : V → Hp → Prop} {to : TE} {t : TA} (pa : PlainAttrs T) (slot : Slot T name id) (hty : typeOf (.builtin id) = pure (.type "method_descriptor")) (hT : TyG X T ty) (hm : MtR X id r) (ho : PE X o to) (ha : PA X (e :: es) t)
    (hbase : attributeBase o name X.env (eval o X.env) = eval o X.env)
    (hfew : ((backTo cpos (starEach (e :: es) X.env)).all (fun x => !x.1) && (backToKw cpos (keywordEach [] X.env)).all (fun x => x.1.isSome) && decide ((e :: es).length + ([] : List Keyword).length + (if ([] : List Keyword).isEmpty then 0 else 1) < 30)) = true)
    (hline : (apos.endLine == cpos.line) = true) (hs : starEach (e :: es) X.env = (false, eval e X.env) :: starEach es X.env) (hq : (backTo cpos (starEach es X.env)).any (·.1) = false) :
    PE X (.Call (.Attribute o name apos) (e :: es) [] cpos) (tMtG ty r to t) := by
  refine ⟨fun pins s σ H Q I h => wpAny_Call_method_late hbase hfew hline rfl (thn (ho.run pins s σ H _ I h) ?_)⟩
  rintro v s1 ⟨x, H1, I1, r1, ty1, q1⟩
  obtain ⟨g1, g2⟩ := hT I1 r1 ty1
  refine ⟨T, id, pa, slot, hty, g1, g2, ?_⟩
  have hA := ha.run cpos pins s1 σ H1 _ I1 q1
  rw [hs] at hA ⊢
  refine Calls.callWith_builtin ?_ (Calls.evalArgs_plain (thn hA ?_))
  · show (false || (backTo cpos (starEach es X.env)).any (·.1)) = false
    rw [hq]; rfl
  · rintro us s2 ⟨vs, H2, I2, r2, q2⟩
    exact hm pins s2 σ H2 x vs v us Q I2 r1 r2 q2
theorem pe_mtG0 {name : Str} {r : V → List V → Hp → VK → Prop} {ty : V → Hp → Prop} {to : TE} (pa : PlainAttrs T) (slot : Slot T name id) (hty : typeOf (.builtin id) = pure (.type "method_descriptor")) (hT : TyG X T ty) (hm : MtR X id r) (ho : PE X o to)
    (hbase : attributeBase o name X.env (eval o X.env) = eval o X.env) (hline : (apos.endLine == cpos.line) = true) : PE X (.Call (.Attribute o name apos) [] [] cpos) (tMtG ty r to tNil) := by
  refine ⟨fun pins s σ H Q I h => wpAny_Call_method0_late hbase hline (thn (ho.run pins s σ H _ I h) ?_)⟩
  rintro v s1 ⟨x, H1, I1, r1, ty1, q1⟩
  obtain ⟨g1, g2⟩ := hT I1 r1 ty1
  exact ⟨T, id, pa, slot, hty, g1, g2, Calls.callWith_builtin rfl (PySem.evalArgs_none (hm pins s1 σ H1 x [] v [] Q I1 r1 .nil q1))⟩
theorem tyG_list : TyG X "list" (fun x H => ∃ p xs, x = V.ref p ∧ SqL X.K H p xs) := by
  rintro pins σ H s x v I r ⟨p, xs, rfl, hq⟩
  exact tyV_is (T := "list") I r (.inl ⟨rfl, xs, hq⟩)
theorem tyG_tup : TyG X "tuple" (fun x H => ∃ p xs, x = V.ref p ∧ TupR X.K H p xs) := by
  rintro pins σ H s x v I r ⟨p, xs, rfl, hq⟩
  rcases hq with ⟨o, hd, hq⟩ | ⟨o, its, n, h1, h2, h3, _⟩
  · cases r
    obtain ⟨e, _, its, _, o2, e2, c, _⟩ := (show ObjOk X.prog X.w H s.heap p (.frz o (.tup xs)) from I.hok p _ hq)
    rw [e] at e2; cases e2
    refine ⟨⟨o, e, c⟩, fun a z => ?_⟩
    cases z; exact ⟨o, e, hd⟩
  · exact tyV_is (T := "tuple") I r (.inr (.inl ⟨rfl, o, h1, h2, h3⟩))
theorem tyG_str : TyG X "str" (fun x H => ∃ z, x = V.str z) := by
  rintro pins σ H s x v I r ⟨z, rfl⟩
  exact tyV_is (T := "str") I r rfl
def chkL : D → M Unit := fun d st => match d with
  | .loc i => if (seqAt st i).isSome then .ok () st else .stuck
  | _ => .stuck
def chkT : D → M Unit := fun d st => match d with
  | .tup _ => .ok () st
  | _ => .stuck
def eMt (chk : D → M Unit) (op : D → List D → M D) (f : En → M D) (fa : En → M (List D)) : En → M D := fun ρ => do
  let o ← f ρ; chk o; op o (← fa ρ)
def RMGood (K : PySem.W.Frag) (ca : Nat → Addr) (r : V → List V → Hp → VK → Prop) (op : D → List D → M D) : Prop := ∀ E x xs H Q d ds st μ, Rep K μ H d x → RepL K μ H ds xs → Sim K ca μ st H → Post K ca E μ H (op d ds st) (KV K ca μ H Q) → r x xs H Q
structure DMt (ca : Nat → Addr) (X : Cx) (id : String) (op : D → List D → M D) : Prop where
  ex : ∃ r, MtR X id r ∧ RMGood X.K ca r op
theorem ge_mt {ty : V → Hp → Prop} {r : V → List V → Hp → VK → Prop} {to : TE} {t : TA} {chk : D → M Unit} {opm : D → List D → M D} (hr : RMGood X.K ca r opm)
    (hchk : ∀ d v μ H st, Rep X.K μ H d v → Sim X.K ca μ st H → chk d st = .stuck ∨ (chk d st = .ok () st ∧ ty v H)) (go : GE X.K ca E to f) (ga : GA X.K ca E t fa) : GE X.K ca E (tMtG ty r to t) (eMt chk opm f fa) := by
  intro σ H Q ρ st μ re s h
  refine go.bind re s h fun d st1 μ1 H1 x e1 s1 r1 re1 h1 => ?_
  rcases hchk d x μ1 H1 st1 r1 s1 with z | ⟨z, hty⟩
  · rw [bind_run, z] at h1; exact h1.elim
  · rw [bind_run, z] at h1
    refine ⟨hty, ga.bind re1 s1 h1 fun ds st2 μ2 H2 xs e2 s2 r2 re2 h2 => ?_⟩
    exact hr E x xs H2 Q d ds st2 μ2 (r1.mono e2) r2 s2 (h2.imp fun _ _ q => q.mono (e1.trans e2))
theorem de_mtL {name : Str} {opm : D → List D → M D} (pa : PlainAttrs "list") (slot : Slot "list" name id) (hty : typeOf (.builtin id) = pure (.type "method_descriptor")) (hm : DMt ca X id opm) (ho : DE ca E X o f) (ha : DA ca E X (e :: es) fa)
    (hbase : attributeBase o name X.env (eval o X.env) = eval o X.env := by rfl)
    (hfew : ((backTo cpos (starEach (e :: es) X.env)).all (fun x => !x.1) && (backToKw cpos (keywordEach [] X.env)).all (fun x => x.1.isSome) && decide ((e :: es).length + ([] : List Keyword).length + (if ([] : List Keyword).isEmpty then 0 else 1) < 30)) = true := by rfl)
    (hline : (apos.endLine == cpos.line) = true := by rfl) (hs : starEach (e :: es) X.env = (false, eval e X.env) :: starEach es X.env := by rfl) (hq : (backTo cpos (starEach es X.env)).any (·.1) = false := by rfl) :
    DE ca E X (.Call (.Attribute o name apos) (e :: es) [] cpos) (eMt chkL opm f fa) := by
  obtain ⟨r, m1, m2⟩ := hm.ex
  obtain ⟨to, po, go⟩ := ho.ex
  obtain ⟨t, pa', ga⟩ := ha.ex
  refine ⟨_, pe_mtG pa slot hty tyG_list m1 po pa' hbase hfew hline hs hq, ge_mt m2 (fun d v μ H st rv s => ?_) go ga⟩
  unfold chkL
  cases d with
  | loc i =>
    simp only
    cases q : seqAt st i with
    | none => left; rfl
    | some ds => right; obtain ⟨a, vs, e, h1, _⟩ := sq_of s q rv; exact ⟨rfl, a, vs, e, h1⟩
  | _ => left; rfl
theorem de_mtL0 {name : Str} {opm : D → List D → M D} (pa : PlainAttrs "list") (slot : Slot "list" name id) (hty : typeOf (.builtin id) = pure (.type "method_descriptor")) (hm : DMt ca X id opm) (ho : DE ca E X o f)
    (hbase : attributeBase o name X.env (eval o X.env) = eval o X.env := by rfl) (hline : (apos.endLine == cpos.line) = true := by rfl) : DE ca E X (.Call (.Attribute o name apos) [] [] cpos) (eMt chkL opm f aNil) := by
  obtain ⟨r, m1, m2⟩ := hm.ex
  obtain ⟨to, po, go⟩ := ho.ex
  refine ⟨_, pe_mtG0 pa slot hty tyG_list m1 po hbase hline, ge_mt m2 (fun d v μ H st rv s => ?_) go (fun σ H Q ρ st μ re s h => h μ H _ .refl s (repL_nil.mpr rfl))⟩
  unfold chkL
  cases d with
  | loc i =>
    simp only
    cases q : seqAt st i with
    | none => left; rfl
    | some ds => right; obtain ⟨a, vs, e, h1, _⟩ := sq_of s q rv; exact ⟨rfl, a, vs, e, h1⟩
  | _ => left; rfl
theorem de_mtT {name : Str} {opm : D → List D → M D} (pa : PlainAttrs "tuple") (slot : Slot "tuple" name id) (hty : typeOf (.builtin id) = pure (.type "method_descriptor")) (hm : DMt ca X id opm) (ho : DE ca E X o f) (ha : DA ca E X (e :: es) fa)
    (hbase : attributeBase o name X.env (eval o X.env) = eval o X.env := by rfl)
    (hfew : ((backTo cpos (starEach (e :: es) X.env)).all (fun x => !x.1) && (backToKw cpos (keywordEach [] X.env)).all (fun x => x.1.isSome) && decide ((e :: es).length + ([] : List Keyword).length + (if ([] : List Keyword).isEmpty then 0 else 1) < 30)) = true := by rfl)
    (hline : (apos.endLine == cpos.line) = true := by rfl) (hs : starEach (e :: es) X.env = (false, eval e X.env) :: starEach es X.env := by rfl) (hq : (backTo cpos (starEach es X.env)).any (·.1) = false := by rfl) :
    DE ca E X (.Call (.Attribute o name apos) (e :: es) [] cpos) (eMt chkT opm f fa) := by
  obtain ⟨r, m1, m2⟩ := hm.ex
  obtain ⟨to, po, go⟩ := ho.ex
  obtain ⟨t, pa', ga⟩ := ha.ex
  refine ⟨_, pe_mtG pa slot hty tyG_tup m1 po pa' hbase hfew hline hs hq, ge_mt m2 (fun d v μ H st rv s => ?_) go ga⟩
  unfold chkT
  cases d with
  | tup ds => right; obtain ⟨a, vs, e, h1, _⟩ := rep_tup.mp rv; exact ⟨rfl, a, vs, e, h1⟩
  | _ => left; rfl
def mAppend (o : D) (xs : List D) : M D := fun st => match o, xs with
  | .loc i, [d] => match lstAt st i with
    | some ds => if ds.length < sizeLine then .ok .non (st.set i (.lst (ds ++ [d]))) else .stuck
    | none => .stuck
  | _, _ => .stuck
theorem dm_append : DMt ca X "list.append" mAppend := by
  refine ⟨_, mt_append, fun E x xs H Q d ds st μ rx rs s h => ?_⟩
  unfold mAppend at h
  split at h
  · rename_i i d
    split at h
    · rename_i es he
      split at h
      · rename_i hz
        obtain ⟨v, rfl, rv⟩ := rs.single
        obtain ⟨a, vs, rfl, h1, h2, h3, h4⟩ := lst_of s he rx
        refine ⟨a, vs, v, rfl, rfl, h3, by rw [h4.length]; exact hz, ?_⟩
        obtain ⟨s', e'⟩ := set_lst s h1 h2 h3 (h4.append (RepL.one rv))
        exact h μ _ _ e' s' (rep_non.mpr rfl)
      · exact elimP h
    · exact elimP h
  · exact elimP h
def mExtend (o : D) (xs : List D) : M D := fun st => match o, xs with
  | .loc i, [.loc j] => match lstAt st i, lstAt st j with
    | some ds, some es => if ds.length + es.length ≤ sizeLine then .ok .non (st.set i (.lst (ds ++ es))) else .stuck
    | _, _ => .stuck
  | _, _ => .stuck
theorem dm_extend : DMt ca X "list.extend" mExtend := by
  refine ⟨_, mt_extend, fun E x xs H Q d ds st μ rx rs s h => ?_⟩
  unfold mExtend at h
  split at h
  · rename_i i j
    split at h
    · rename_i es fs he hf
      split at h
      · rename_i hz
        obtain ⟨v, rfl, rv⟩ := rs.single
        obtain ⟨a, vs, rfl, h1, h2, h3, h4⟩ := lst_of s he rx
        obtain ⟨b, ws, rfl, _, _, g3, g4⟩ := lst_of s hf rv
        refine ⟨a, b, vs, ws, rfl, rfl, h3, g3, by rw [h4.length, g4.length]; exact hz, ?_⟩
        obtain ⟨s', e'⟩ := set_lst s h1 h2 h3 (h4.append g4)
        exact h μ _ _ e' s' (rep_non.mpr rfl)
      · exact elimP h
    · exact elimP h
  · exact elimP h
def mClear (o : D) (xs : List D) : M D := fun st => match o, xs with
  | .loc i, [] => match lstAt st i with
    | some _ => .ok .non (st.set i (.lst []))
    | none => .stuck
  | _, _ => .stuck
theorem dm_clear : DMt ca X "list.clear" mClear := by
  refine ⟨_, mt_clear, fun E x xs H Q d ds st μ rx rs s h => ?_⟩
  unfold mClear at h
  split at h
  · rename_i i
    split at h
    · rename_i es he
      have e0 := repL_nil.mp rs
      obtain ⟨a, vs, rfl, h1, h2, h3, h4⟩ := lst_of s he rx
      refine ⟨a, vs, rfl, e0, h3, ?_⟩
      obtain ⟨s', e'⟩ := set_lst s h1 h2 h3 (es := []) (ws := []) (repL_nil.mpr rfl)
      exact h μ _ _ e' s' (rep_non.mpr rfl)
    · exact elimP h
  · exact elimP h
/-- the first place -/
def D.place (x : D) : List D → Option Nat
  | [] => none
  | y :: ys => if y.eqF x then some 0 else (D.place x ys).map (· + 1)
theorem place_some {x : D} : ∀ {ys : List D} {j : Nat}, D.place x ys = some j → (∃ z, ys[j]? = some z ∧ z.eqF x = true) ∧ ∀ m z, m < j → ys[m]? = some z → z.eqF x = false
  | [], j, h => by cases h
  | y :: ys, j, h => by
    unfold D.place at h
    split at h
    · rename_i e; cases h; exact ⟨⟨y, rfl, e⟩, fun m z hm => absurd hm (Nat.not_lt_zero m)⟩
    · rename_i e
      cases q : D.place x ys with
      | none => rw [q] at h; cases h
      | some k =>
        rw [q] at h
        simp only [Option.map_some, Option.some.injEq] at h
        subst h
        obtain ⟨⟨z, h1, h2⟩, h3⟩ := place_some q
        refine ⟨⟨z, by simpa using h1, h2⟩, fun m z' hm hz => ?_⟩
        cases m with
        | zero => simp at hz; subst hz; exact Bool.eq_false_iff.mpr e
        | succ m => exact h3 m z' (by omega) (by simpa using hz)
def mIndexL (o : D) (xs : List D) : M D := fun st => match o, xs with
  | .loc i, [x] => match seqAt st i with
    | some ds => if x.flat && ds.all D.flat then (match D.place x ds with
      | some j => .ok (.int j) st
      | none => .stuck) else .stuck
    | none => .stuck
  | _, _ => .stuck
theorem dm_indexL : DMt ca X "list.index" mIndexL := by
  refine ⟨_, mt_index, fun E x xs H Q d ds st μ rx rs s h => ?_⟩
  unfold mIndexL at h
  split at h
  · rename_i i y
    split at h
    · rename_i es he
      split at h
      · rename_i f
        rw [Bool.and_eq_true] at f
        split at h
        · rename_i j hj
          obtain ⟨v, rfl, rv⟩ := rs.single
          obtain ⟨a, vs, rfl, h1, h2⟩ := sq_of s he rx
          obtain ⟨⟨z, z1, z2⟩, z3⟩ := place_some hj
          obtain ⟨w, w1, w2⟩ := h2.get z1
          have fz : z.flat = true := List.all_eq_true.mp f.2 z (List.mem_of_getElem? z1)
          refine ⟨a, vs, v, j, w, rfl, rfl, h1, flat_of rv f.1, flats_of h2 f.2, w1, by rw [eqF_of w2 rv fz f.1]; exact z2, fun m w' hm hw => ?_, h μ H _ .refl s (rep_int.mpr rfl)⟩
          have hml : m < es.length := by rw [← h2.length]; exact (List.getElem?_eq_some_iff.mp hw).1
          obtain ⟨w2', g1, g2⟩ := h2.get (i := m) (d := es[m]) (by simp [hml])
          rw [hw] at g1; cases g1
          rw [eqF_of g2 rv (List.all_eq_true.mp f.2 _ (List.getElem_mem hml)) f.1]
          exact z3 m es[m] hm (by simp [hml])
        · exact elimP h
      · exact elimP h
    · exact elimP h
  · exact elimP h
def strsOf : List D → Option (List Str)
  | [] => some []
  | .str b :: r => (strsOf r).map (b :: ·)
  | _ => none
theorem strs_rep {K : PySem.W.Frag} {μ : List Addr} {H : Hp} : ∀ {ds : List D} {vs : List V} {bs : List Str}, strsOf ds = some bs → RepL K μ H ds vs → vs = bs.map V.str
  | [], vs, bs, h, r => by cases h; exact repL_nil.mp r
  | d :: ds, vs, bs, h, r => by
    obtain ⟨v, w, rfl, h1, h2⟩ := repL_cons.mp r
    cases d with
    | str b =>
      unfold strsOf at h
      cases q : strsOf ds with
      | none => rw [q] at h; cases h
      | some cs => rw [q] at h; cases h; rw [rep_str.mp h1, strs_rep q h2]; rfl
    | _ => cases h
def placeS (x : Str) : List Str → Option Nat
  | [] => none
  | y :: ys => if y = x then some 0 else (placeS x ys).map (· + 1)
theorem placeS_some {x : Str} : ∀ {ys : List Str} {j : Nat}, placeS x ys = some j → ys[j]? = some x ∧ ∀ m, m < j → ys[m]? ≠ some x
  | [], j, h => by cases h
  | y :: ys, j, h => by
    unfold placeS at h
    split at h
    · rename_i e; cases h; exact ⟨by rw [e]; rfl, fun m hm => absurd hm (Nat.not_lt_zero m)⟩
    · rename_i e
      cases q : placeS x ys with
      | none => rw [q] at h; cases h
      | some k =>
        rw [q] at h
        simp only [Option.map_some, Option.some.injEq] at h
        subst h
        obtain ⟨h1, h3⟩ := placeS_some q
        refine ⟨by simpa using h1, fun m hm hz => ?_⟩
        cases m with
        | zero => simp at hz; exact e hz
        | succ m => exact h3 m (by omega) (by simpa using hz)
def mIndexT (o : D) (xs : List D) : M D := fun st => match o, xs with
  | .tup ds, [.str x] => match strsOf ds with
    | some ys => (match placeS x ys with
      | some j => .ok (.int j) st
      | none => .stuck)
    | none => .stuck
  | _, _ => .stuck
theorem dm_indexT : DMt ca X "tuple.index" mIndexT := by
  refine ⟨_, mt_tup_index, fun E x xs H Q d ds st μ rx rs s h => ?_⟩
  unfold mIndexT at h
  split at h
  · rename_i es z
    split at h
    · rename_i ys hy
      split at h
      · rename_i j hj
        obtain ⟨v, rfl, rv⟩ := rs.single
        obtain ⟨a, vs, rfl, h1, h2⟩ := rep_tup.mp rx
        have e := strs_rep hy h2
        subst e
        obtain ⟨g1, g2⟩ := placeS_some hj
        exact ⟨a, ys, z, j, rfl, by rw [rep_str.mp rv], h1.sq, g1, g2, h μ H _ .refl s (rep_int.mpr rfl)⟩
      · exact elimP h
    · exact elimP h
  · exact elimP h
end
end DL

set_option Elab.async false
set_option linter.all false
set_option maxRecDepth 100000
set_option maxHeartbeats 4000000
namespace DL
open PySem L2 PySem.Spec PyProof.Rows

/-! ### defs -/
def spD (K : PySem.W.Frag) (ca : Nat → Addr) (m : List D → M D) : Sp := fun vs H Q E => ∃ ds st μ, RepL K μ H ds vs ∧ Sim K ca μ st H ∧ Post K ca E μ H (m ds st) (KV K ca μ H Q)
def runB (b : M Ctl) : M D := do
  match ← b with
  | .rt d => pure d
  | .nx _ => pure .non
  | _ => stuck
def fnM (n N : Nat) (body : En → M Ctl) : List D → M D := fun ds => if ds.length = n then runB (body (ds.map some ++ List.replicate (N - n) none)) else stuck
theorem envR_start {K : PySem.W.Frag} {μ : List Addr} {H : Hp} {ds : List D} {vs : List V} (r : RepL K μ H ds vs) (n : Nat) (N : List Str) (hn : N.length - vs.length = n) : EnvR K μ H (ds.map some ++ List.replicate n none) (L2.start N vs) := by
  unfold L2.start
  rw [hn]
  refine ⟨by simp [r.length], fun i d h => ?_⟩
  have hi : i < ds.length := by
    rcases Nat.lt_or_ge i ds.length with z | z
    · exact z
    · rw [List.getElem?_append_right (by simpa using z)] at h
      simp only [List.length_map] at h
      by_cases hk : i - ds.length < n
      · rw [List.getElem?_replicate_of_lt hk] at h; cases h
      · rw [List.getElem?_eq_none (by simpa using hk)] at h; cases h
  rw [List.getElem?_append_left (by simpa using hi), List.getElem?_map] at h
  have e : ds[i]? = some d := by
    cases q : ds[i]? with
    | none => rw [q] at h; cases h
    | some x => rw [q] at h; cases h; rfl
  obtain ⟨v, h1, h2⟩ := r.get e
  exact ⟨v, by rw [List.getElem?_append_left (by rw [List.length_map, r.length]; exact hi), List.getElem?_map, h1]; rfl, h2⟩
section
variable {P : Program} {w : World} {K : PySem.W.Frag} {mg : Str → Option Value} {base : Heap} {ca : Nat → Addr}
theorem fn_okD {x qual : Str} {st : Stmt} {f : Addr} {fd : FuncData} {N ps : List Str} {k : Nat} {body : En → M Ctl} (F : Fun K x qual st f fd) (S : FnScope N ps (defScope st))
    (hb : ∀ (cdv : Value) (A : Around) (outer : List Env) (s : Shared) (H : Hp) (E : XK), Room k (A.deeper (envOfC qual (defScope st) s.heap.objs.size f cdv)) →
      DSs ca E (cxOf (L2.CX P w) P w K mg base N qual (defScope st) f cdv A outer s H E) (defBody st) body) : FnOk P w K mg base (L2.CX P w) (k + 1) f fd ps (spD K ca (fnM ps.length N.length body)) := by
  refine F.okX S (fun vs H Q E h => ?_) fun cdv A outer s H vs Q E hr h => ?_
  · obtain ⟨ds, st', μ, r, s, p⟩ := h
    rw [r.length]
    unfold fnM at p
    split at p
    · rename_i e; exact e
    · exact p.elim
  · obtain ⟨t, ht, g⟩ := (hb cdv A outer s H E hr).ex
    refine ⟨t, ht, ?_⟩
    obtain ⟨ds, st', μ, r, s', p⟩ := h
    unfold fnM at p
    split at p
    · rename_i e
      refine g _ H _ _ st' μ (envR_start r _ N (by rw [r.length, e])) s' ((Post.bind.mp p).imp fun c st1 q => ?_)
      intro μ1 H1 e1 s1
      have q1 := q.mono e1 fun _ _ z => z
      cases c with
      | nx ρ => exact fun σ _ => (q1 : KV K ca μ H Q .non st1) μ1 H1 _ e1 s1 (rep_non.mpr rfl)
      | rt d => exact fun v rv => (q1 : KV K ca μ H Q d st1) μ1 H1 v e1 s1 rv
      | bk ρ => exact q1.elim
      | ct ρ => exact q1.elim
    · exact p.elim
end

/-! ### own calls -/
section
variable {X : Cx} {ca : Nat → Addr} {E : XK} {CX : CXT} {k : Nat} {f : Addr} {fd : FuncData} {ps : List Str} {m : List D → M D} {dvs : List V} {dds : List D} {ds : List Value} {x : Str} {p pos apos : Pos} {e o : Expr} {es : List Expr} {fa : En → M (List D)} {fo : En → M D}
theorem de_call (F : FnOk X.prog X.w X.K X.mg X.base CX k f fd ps (spD X.K ca m)) (hr : Room k X.A) (hg : Gl X x) (hm : X.mg x = some (.ref f)) (hk : PySem.W.keepIn X.K (.ref f) = true) (hb : Binds X.K fd ps ds) (hd : Vals dvs ds) (hdd : ∀ μ H, RepL X.K μ H dds dvs) (hx : Passes CX X E)
    (ha : DA ca E X (e :: es) fa) (hdb : (x == ("__debug__" : Str)) = false := by decide) (he : starEach (e :: es) X.env = (false, eval e X.env) :: starEach es X.env := by rfl) (hpl : (backTo pos (starEach es X.env)).any (·.1) = false := by rfl) :
    DE ca E X (.Call (.Name x p) (e :: es) [] pos) (eCall (fun ds => m (ds ++ dds)) fa) := by
  obtain ⟨t, pa, ga⟩ := ha.ex
  refine ⟨_, pe_call F hr hg hm hk hb hd hx pa hdb he hpl, fun σ H Q ρ st μ re s h => ?_⟩
  refine ga.bind re s h fun ds st1 μ1 H1 xs e1 s1 r1 re1 g1 => ?_
  exact ⟨ds ++ dds, st1, μ1, r1.append (hdd _ _), s1, g1.imp fun _ _ z => z.mono e1⟩
theorem de_call0 (F : FnOk X.prog X.w X.K X.mg X.base CX k f fd ps (spD X.K ca m)) (hr : Room k X.A) (hg : Gl X x) (hm : X.mg x = some (.ref f)) (hk : PySem.W.keepIn X.K (.ref f) = true) (hb : Binds X.K fd ps ds) (hd : Vals dvs ds) (hdd : ∀ μ H, RepL X.K μ H dds dvs) (hx : Passes CX X E)
    (hdb : (x == ("__debug__" : Str)) = false := by decide) : DE ca E X (.Call (.Name x p) [] [] pos) (fun _ => m dds) :=
  ⟨_, pe_call0 F hr hg hm hk hb hd hx hdb, fun σ H Q ρ st μ re s h => ⟨dds, st, μ, hdd _ _, s, h⟩⟩
/-! ### instances -/
def eFld (c : Nat) (n : Str) (f : En → M D) : En → M D := fun ρ => do
  match ← f ρ with
  | .loc i => fun st => match st[i]? with
    | some (.obj c' fs) => if c' = c then (match fs.lookup n with | some d => .ok d st | none => .stuck) else .stuck
    | _ => .stuck
  | _ => stuck
theorem lookF {K : PySem.W.Frag} {μ : List Addr} {H : Hp} {n : Str} : ∀ {fs : List (Str × D)} {gs : List (Str × V)}, RepF K μ H fs gs → (∀ d, fs.lookup n = some d → ∃ v, gs.lookup n = some v ∧ Rep K μ H d v) ∧ (fs.lookup n = none → gs.lookup n = none)
  | [], gs, h => by cases h; exact ⟨(fun d z => nomatch z), fun _ => rfl⟩
  | (m, d) :: fs, gs, h => by
    obtain ⟨v, r, rfl, h1, h2⟩ := h
    have ih := lookF (n := n) h2
    cases q : n == m with
    | true =>
      simp only [List.lookup, q]
      exact ⟨(fun e z => by cases z; exact ⟨v, rfl, h1⟩), (fun z => nomatch z)⟩
    | false =>
      simp only [List.lookup, q]
      exact ih
theorem obj_of {K : PySem.W.Frag} {μ : List Addr} {H : Hp} {st : Sto} {i c : Nat} {fs : List (Str × D)} {v : V} (s : Sim K ca μ st H) (h : st[i]? = some (.obj c fs)) (r : Rep K μ H (.loc i) v) :
    ∃ a dx gs, v = .ref a ∧ μ[i]? = some a ∧ H a = some (.ins (ca c) dx gs) ∧ RepF K μ H fs gs := by
  obtain ⟨a, ha, rfl⟩ := rep_loc.mp r
  obtain ⟨dx, gs, h1, h2⟩ := s.obj i a _ ha h
  exact ⟨a, dx, gs, rfl, ha, h1, h2⟩
theorem de_fld {c : Nat} {n : Str} (hC : Cls X.K (ca c)) (hA : NoAttr X.K (ca c) n) (ho : DE ca E X o fo) (hb : attributeBase o n X.env (eval o X.env) = eval o X.env := by rfl) : DE ca E X (.Attribute o n pos) (eFld c n fo) := by
  obtain ⟨t, po, go⟩ := ho.ex
  refine ⟨_, pe_fld po hb, fun σ H Q ρ st μ re s h => ?_⟩
  refine go.bind re s h fun d st1 μ1 H1 x e1 s1 r1 re1 g1 => ?_
  cases d <;> first | exact elimP g1 | skip
  rename_i i
  simp only at g1
  split at g1
  · rename_i c' fs hi
    split at g1
    · rename_i hc
      subst hc
      split at g1
      · rename_i dd hd
        obtain ⟨a, dx, gs, rfl, ha, h1, h2⟩ := obj_of s1 hi r1
        obtain ⟨v, h3, h4⟩ := (lookF h2).1 dd hd
        exact ⟨a, ca c', dx, gs, v, rfl, h1, hC, hA, h3, (g1 : KV X.K ca μ H Q _ _) μ1 H1 v e1 s1 h4⟩
      · exact elimP g1
    · exact elimP g1
  · exact elimP g1
def putFD (f : Str) (v : D) : List (Str × D) → List (Str × D)
  | [] => [(f, v)]
  | (g, x) :: r => if g = f then (g, v) :: r else (g, x) :: putFD f v r
theorem putF_rep {K : PySem.W.Frag} {μ : List Addr} {H : Hp} {n : Str} {d : D} {v : V} (q : Rep K μ H d v) : ∀ {fs : List (Str × D)} {gs : List (Str × V)}, RepF K μ H fs gs → RepF K μ H (putFD n d fs) (putF n v gs)
  | [], gs, h => by cases h; exact ⟨v, [], rfl, q, rfl⟩
  | (m, x) :: fs, gs, h => by
    obtain ⟨y, r, rfl, h1, h2⟩ := h
    unfold putFD putF
    split
    · exact ⟨v, r, rfl, q, h2⟩
    · exact ⟨y, _, rfl, h1, putF_rep q h2⟩
theorem repF_length {K : PySem.W.Frag} {μ : List Addr} {H : Hp} : ∀ {fs : List (Str × D)} {gs : List (Str × V)}, RepF K μ H fs gs → gs.length = fs.length
  | [], gs, h => by cases h; rfl
  | (m, x) :: fs, gs, h => by obtain ⟨y, r, rfl, _, h2⟩ := h; simp [repF_length h2]
def setFld (c : Nat) (n : Str) (d o : D) : M Unit := fun st => match o with
  | .loc i => match st[i]? with
    | some (.obj c' fs) => if c' = c ∧ fs.length < 1000 then .ok () (st.set i (.obj c (putFD n d fs))) else .stuck
    | _ => .stuck
  | _ => .stuck
def sFld (c : Nat) (n : Str) (fv fo : En → M D) : En → M Ctl := fun ρ => do
  let d ← fv ρ; let o ← fo ρ; setFld c n d o; pure (.nx ρ)
theorem ds_fld {c : Nat} {n : Str} {fv : En → M D} {value : Expr} {pos' : Pos} (hC : Cls X.K (ca c)) (hA : NoAttr X.K (ca c) n) (ho : DE ca E X o fo) (hv : DE ca E X value fv) (hs : swapsWith value (some (.Attribute o n pos')) pos.line X.env = pure false := by rfl) :
    DS ca E X (.Assign [.Attribute o n pos'] value pos) (DL.sFld c n fv fo) := by
  obtain ⟨to, po, go⟩ := ho.ex
  obtain ⟨tv, pv', gv⟩ := hv.ex
  refine ⟨_, ps_fld po pv' hs, fun σ H Q ρ st μ re s h => ?_⟩
  refine gv.bind re s h fun d st1 μ1 H1 y e1 s1 r1 re1 h1 => ?_
  refine go.bind re1 s1 h1 fun o st2 μ2 H2 x e2 s2 r2 re2 h2 => ?_
  rw [Post.bind] at h2
  unfold setFld at h2
  cases o <;> first | exact elimP h2 | skip
  rename_i i
  simp only at h2
  split at h2
  · rename_i c' fs hi
    split at h2
    · rename_i hc
      obtain ⟨rfl, hl⟩ := hc
      obtain ⟨a, dx, gs, rfl, ha, g1, g2⟩ := obj_of s2 hi r2
      have hM : Mut (H2 a) := by rw [g1]; exact True.intro
      refine ⟨a, ca c', dx, gs, rfl, g1, hC, hA, by rw [repF_length g2]; exact hl, ?_⟩
      have ex : Ext X.K μ2 H2 μ2 (upd H2 a (.ins (ca c') dx (putF n y gs))) := .updM (.inr hM)
      exact (h2 : KC X.K ca μ H Q (.nx ρ) _) μ2 _ ((e1.trans e2).trans ex) (s2.set ha hi rfl hM rfl ⟨dx, _, upd_same, (putF_rep (r1.mono e2) g2).mono ex⟩) σ (re2.mono ex)
    · exact elimP h2
  · exact elimP h2
/-- is it an instance of c without such an attribute? -/
def chkO (c : Nat) (n : Str) : D → M Unit := fun d st => match d with
  | .loc i => match st[i]? with
    | some (.obj c' fs) => if c' = c ∧ fs.lookup n = none then .ok () st else .stuck
    | _ => .stuck
  | _ => .stuck
def eMeth (c : Nat) (n : Str) (m : List D → M D) (dds : List D) (fo : En → M D) (fa : En → M (List D)) : En → M D := fun ρ => do
  let o ← fo ρ; chkO c n o; let ds ← fa ρ; m (o :: (ds ++ dds))
theorem ge_meth {c : Nat} {n : Str} {to : TE} {t : TA} (hdd : ∀ μ H, RepL X.K μ H dds dvs) (go : GE X.K ca E to fo) (ga : GA X.K ca E t fa) : GE X.K ca E (tMeth (ca c) n (spD X.K ca m) dvs E to t) (eMeth c n m dds fo fa) := by
  intro σ H Q ρ st μ re s h
  refine go.bind re s h fun d st1 μ1 H1 x e1 s1 r1 re1 h1 => ?_
  rw [Post.bind] at h1
  unfold chkO at h1
  cases d <;> first | exact elimP h1 | skip
  rename_i i
  simp only at h1
  split at h1
  · rename_i c' fs hi
    split at h1
    · rename_i hc
      obtain ⟨rfl, hl⟩ := hc
      obtain ⟨a, dx, gs, rfl, ha, g1, g2⟩ := obj_of s1 hi r1
      refine ⟨a, dx, gs, rfl, g1, (lookF g2).2 hl, ?_⟩
      refine ga.bind re1 s1 h1 fun ds st2 μ2 H2 vs e2 s2 r2 re2 h2 => ?_
      exact ⟨.loc i :: (ds ++ dds), st2, μ2, repL_cons.mpr ⟨.ref a, _, rfl, r1.mono e2, r2.append (hdd _ _)⟩, s2, h2.imp fun _ _ z => z.mono (e1.trans e2)⟩
    · exact elimP h1
  · exact elimP h1
theorem de_meth {c : Nat} {n : Str} {pl : Sem Bool} (ho : DE ca E X o fo) (hC : Cls X.K (ca c)) (hm : Meth X.K (ca c) n f) (F : FnOk X.prog X.w X.K X.mg X.base CX k f fd ps (spD X.K ca m)) (hr : Room k X.A) (hb : Binds X.K fd ps ds) (hd : Vals dvs ds) (hdd : ∀ μ H, RepL X.K μ H dds dvs) (hx : Passes CX X E) (ha : DA ca E X (e :: es) fa)
    (hst : starEach (e :: es) X.env = (false, eval e X.env) :: starEach es X.env := by rfl) (hpl : (backTo pos (starEach es X.env)).any (·.1) = false := by rfl)
    (ht : eval (.Call (.Attribute o n apos) (e :: es) [] pos) X.env = (do
      let ov ← eval o X.env
      standAt apos.atName
      let (g, first) ← holding [ov] (getMethod ov n pl)
      callWith pos g first (backTo pos (starEach (e :: es) X.env)) (backToKw pos (keywordEach [] X.env))) := by rfl) : DE ca E X (.Call (.Attribute o n apos) (e :: es) [] pos) (eMeth c n m dds fo fa) := by
  obtain ⟨to, po, go⟩ := ho.ex
  obtain ⟨t, pa, ga⟩ := ha.ex
  exact ⟨_, pe_meth po hC hm F hr hb hd hx pa hst hpl ht, ge_meth hdd go ga⟩
theorem de_meth0 {c : Nat} {n : Str} {pl : Sem Bool} (ho : DE ca E X o fo) (hC : Cls X.K (ca c)) (hm : Meth X.K (ca c) n f) (F : FnOk X.prog X.w X.K X.mg X.base CX k f fd ps (spD X.K ca m)) (hr : Room k X.A) (hb : Binds X.K fd ps ds) (hd : Vals dvs ds) (hdd : ∀ μ H, RepL X.K μ H dds dvs) (hx : Passes CX X E)
    (ht : eval (.Call (.Attribute o n apos) [] [] pos) X.env = (do
      let ov ← eval o X.env
      standAt apos.atName
      let (g, first) ← holding [ov] (getMethod ov n pl)
      callWith pos g first (backTo pos (starEach [] X.env)) (backToKw pos (keywordEach [] X.env))) := by rfl) : DE ca E X (.Call (.Attribute o n apos) [] [] pos) (eMeth c n m dds fo aNil) := by
  obtain ⟨to, po, go⟩ := ho.ex
  exact ⟨_, pe_meth0 po hC hm F hr hb hd hx ht, ge_meth hdd go (fun σ H Q ρ st μ re s h => h μ H _ .refl s (repL_nil.mpr rfl))⟩
/-- a new instance, then its __init__ -/
def mkM (c : Nat) (m : D → M D) : M D := fun st => match m (.loc st.length) (st ++ [.obj c []]) with
  | .ok .non st' => .ok (.loc st.length) st'
  | .raise c' fs st' => .raise c' fs st'
  | _ => .stuck
theorem made {K : PySem.W.Frag} {c : Nat} {μ : List Addr} {H : Hp} {st : Sto} {Q : VK} {mm : D → M D} {x dx : Addr} (s : Sim K ca μ st H) (h : Post K ca E μ H (mkM c mm st) (KV K ca μ H Q)) (hx : H x = none) (hdx : H dx = none) (ne : dx ≠ x) :
    Sim K ca (μ ++ [x]) (st ++ [.obj c []]) (upd (upd H dx (.own x)) x (.ins (ca c) dx [])) ∧ Ext K μ H (μ ++ [x]) (upd (upd H dx (.own x)) x (.ins (ca c) dx [])) ∧
    Post K ca E (μ ++ [x]) (upd (upd H dx (.own x)) x (.ins (ca c) dx [])) (mm (.loc st.length) (st ++ [.obj c []])) (KV K ca (μ ++ [x]) (upd (upd H dx (.own x)) x (.ins (ca c) dx [])) fun v H2 => v = .non ∧ Q (.ref x) H2) := by
  have s1 : Sim K ca μ st (upd H dx (.own x)) := s.fresh hdx
  have hx1 : upd H dx (.own x) x = none := by rw [upd_ne (Ne.symm ne)]; exact hx
  have e1 : Ext K μ H μ (upd H dx (.own x)) := .updM (.inl hdx)
  have e2 : Ext K μ (upd H dx (.own x)) (μ ++ [x]) (upd (upd H dx (.own x)) x (.ins (ca c) dx [])) := .push hx1
  refine ⟨s1.push hx1 ⟨dx, [], upd_same, rfl⟩, e1.trans e2, ?_⟩
  have hl : (μ ++ [x])[st.length]? = some x := by rw [← s.len, List.getElem?_append_right (Nat.le_refl _), Nat.sub_self]; rfl
  unfold mkM at h
  cases q : mm (.loc st.length) (st ++ [.obj c []]) with
  | ok d st' =>
    rw [q] at h
    cases d with
    | non =>
      intro μ' H' v e' s' rv
      refine ⟨rep_non.mp rv, (h : KV K ca μ H Q _ _) μ' H' _ ((e1.trans e2).trans e') s' ?_⟩
      rw [rep_loc]
      exact ⟨x, e'.pre _ _ hl, rfl⟩
    | _ => exact h.elim
  | raise c' fs st' =>
    rw [q] at h
    exact fun μ' H' od e' => h μ' H' od ((e1.trans e2).trans e')
  | stuck => rw [q] at h; exact h.elim
structure DK (ca : Nat → Addr) (E : XK) (X : Cx) (ks : List Keyword) (f : En → M (List D)) : Prop where
  ex : ∃ t, PK X ks t ∧ GA X.K ca E t f
theorem dk_nil : DK ca E X [] aNil := ⟨_, pk_nil, fun σ H Q ρ st μ re s h => h μ H _ .refl s (repL_nil.mpr rfl)⟩
theorem dk_cons {kws : List Keyword} {nm : Option Str} {kpos : Pos} (ha : DE ca E X e fo) (hr : DK ca E X kws fa) : DK ca E X (⟨nm, e, kpos⟩ :: kws) (aCons fo fa) := by
  obtain ⟨ta, pa, ga⟩ := ha.ex
  obtain ⟨tb, pb, gb⟩ := hr.ex
  refine ⟨_, pk_cons pa pb, fun σ H Q ρ st μ re s h => ?_⟩
  refine ga.bind re s h fun d st1 μ1 H1 x e1 s1 r1 re1 h1 => ?_
  refine gb.bind re1 s1 h1 fun ds st2 μ2 H2 xs e2 s2 r2 re2 h2 => ?_
  exact (Post.pure.mp h2 : KA X.K ca μ H Q (d :: ds) st2) μ2 H2 _ (e1.trans e2) s2 (repL_cons.mpr ⟨x, xs, rfl, r1.mono e2, r2⟩)
/-- C(e, .., k = v, ..) -/
def eMakeK (c n nk : Nat) (g : List D → List D → List D) (m : List D → M D) (fa fk : En → M (List D)) : En → M D := fun ρ => do
  let ds ← fa ρ; let zs ← fk ρ
  if ds.length = n ∧ zs.length = nk then mkM c (fun o => m (g (o :: ds) zs)) else stuck
theorem de_makeK {c n : Nat} {ks : List Str} {g : List Value → List Value → List Value} {gV : List V → List V → List V} {gD : List D → List D → List D} {kws : List Keyword} {fk : En → M (List D)} (M : Mk X.K (ca c) f) (F : FnOk X.prog X.w X.K X.mg X.base CX k f fd ps (spD X.K ca m)) (hr : Room (k + 1) X.A) (hg : Gl X x) (hm : X.mg x = some (.ref (ca c)))
    (hb : KBn X.K fd ps (n + 1) ks g gV) (hgD : ∀ μ H ds zs vs ws, RepL X.K μ H ds vs → RepL X.K μ H zs ws → RepL X.K μ H (gD ds zs) (gV vs ws)) (hx : Passes CX X E) (ha : DA ca E X (e :: es) fa) (hkw : DK ca E X kws fk)
    (hall : (backToKw pos (keywordEach kws X.env)).all (·.1.isSome) = true := by rfl) (hks : (backToKw pos (keywordEach kws X.env)).filterMap (·.1) = ks := by rfl) (hdb : (x == ("__debug__" : Str)) = false := by decide)
    (he : starEach (e :: es) X.env = (false, eval e X.env) :: starEach es X.env := by rfl) (hpl : ((backTo pos (starEach (e :: es) X.env)).any (·.1) || (backToKw pos (keywordEach kws X.env)).any (·.1.isNone)) = false := by rfl) :
    DE ca E X (.Call (.Name x p) (e :: es) kws pos) (eMakeK c n ks.length gD m fa fk) := by
  obtain ⟨t, pa, ga⟩ := ha.ex
  obtain ⟨tk, pk, gk⟩ := hkw.ex
  refine ⟨_, pe_makeK M F hr hg hm hb hx pa pk hall hks hdb he hpl, fun σ H Q ρ st μ re s h => ?_⟩
  refine ga.bind re s h fun ds st1 μ1 H1 vs e1 s1 r1 re1 h1 => ?_
  refine gk.bind re1 s1 h1 fun zs st2 μ2 H2 ws e2 s2 r2 re2 h2 => ?_
  split at h2
  · rename_i hl
    refine ⟨by rw [r1.length]; exact hl.1, by rw [r2.length]; exact hl.2, fun x dx hx' hdx ne => ?_⟩
    obtain ⟨q1, q2, q3⟩ := made s2 (h2.imp fun _ _ z => z.mono (e1.trans e2)) hx' hdx ne
    exact ⟨gD (.loc st2.length :: ds) zs, st2 ++ [.obj c []], μ2 ++ [x], hgD _ _ _ _ _ _ (repL_cons.mpr ⟨.ref x, vs, rfl, loc_new s2, (r1.mono e2).mono q2⟩) (r2.mono q2), q1, q3⟩
  · exact h2.elim
end
end DL

set_option Elab.async false
set_option linter.all false
set_option maxRecDepth 100000
set_option maxHeartbeats 4000000
namespace DL
open PySem L2 PySem.Spec PyProof.Rows

/-! ### targets -/
def gVar (i : Nat) : D → En → M En := fun d ρ => pure (ρ.set i (some d))
def gTupD (n : Nat) (g : List D → En → M En) : D → En → M En := fun d ρ => match d with
  | .tup ds => if ds.length = n then g ds ρ else stuck
  | _ => stuck
def gNilD : List D → En → M En := fun ds ρ => match ds with
  | [] => pure ρ
  | _ => stuck
def gConsD (g : D → En → M En) (h : List D → En → M En) : List D → En → M En := fun ds ρ => match ds with
  | d :: r => do let ρ1 ← g d ρ; h r ρ1
  | [] => stuck
def opSet (o i d : D) : M Unit := fun st => match o, i with
  | .loc l, .int k => match lstAt st l with
    | some ds => match ixN ds.length k with
      | some j => .ok () (st.set l (.lst (ds.set j d)))
      | none => .stuck
    | none => .stuck
  | _, _ => .stuck
def gSubD (fo fi : En → M D) : D → En → M En := fun d ρ => do
  let o ← fo ρ; let i ← fi ρ; opSet o i d; pure ρ
section
variable {X : Cx} {ca : Nat → Addr} {E : XK} {pos : Pos} {e o i : Expr} {es : List Expr}
theorem dg_var {j : Nat} {x : Str} (hN : X.N.Nodup) (hi : X.N[j]? = some x := by rfl) (hx : Loc X.env.scope x := by first | exact .inl rfl | exact .inr rfl) (hf : X.fn x = true ∨ X.env.scope.names.lookup x = some .local := by first | exact .inl rfl | exact .inr rfl) : DG ca E X (.Name x pos) (gVar j) :=
  ⟨_, pg_name hN hi hx hf, fun v σ H Q d ρ st μ rv re s h => h μ H _ .refl s (re.set j rv)⟩
theorem dgs_nil : DGs ca E X [] gNilD := by
  refine ⟨_, pgs_nil, fun vs σ H Q ds ρ st μ rv re s h => ?_⟩
  cases ds with
  | nil => exact ⟨repL_nil.mp rv, h μ H σ .refl s re⟩
  | cons d r => exact elimP h
theorem dgs_cons {g : D → En → M En} {h : List D → En → M En} (h1 : DG ca E X e g) (h2 : DGs ca E X es h)
    (hs : (assignEach (e :: es) X.env).map (·.2) = assign e X.env :: (assignEach es X.env).map (·.2) := by rfl) : DGs ca E X (e :: es) (gConsD g h) := by
  obtain ⟨t, p, gg⟩ := h1.ex
  obtain ⟨u, q, gs⟩ := h2.ex
  refine ⟨_, pgs_cons p q hs, fun vs σ H Q ds ρ st μ rv re s hh => ?_⟩
  cases ds with
  | nil => exact elimP hh
  | cons d r =>
    obtain ⟨v, w, rfl, r1, r2⟩ := repL_cons.mp rv
    refine ⟨v, w, rfl, gg.bind r1 re s hh fun ρ1 st1 μ1 H1 σ1 e1 s1 re1 h1 => ?_⟩
    exact gs w σ1 H1 Q r ρ1 st1 μ1 (r2.mono e1) re1 s1 (h1.imp fun _ _ z => z.mono e1)
theorem dg_tup {k n : Nat} {g : List D → En → M En} (hc : X.calm = true) (h : DGs ca E X es g) (hn : (assignEach es X.env).length = n := by rfl) (hst : (assignEach es X.env).findIdx? (·.1) = none := by rfl) : DG ca E X (.Tuple es k pos) (gTupD n g) := by
  obtain ⟨t, p, gs⟩ := h.ex
  refine ⟨_, pg_tup hc p hn hst, fun v σ H Q d ρ st μ rv re s hh => ?_⟩
  unfold gTupD at hh
  cases d <;> first | exact elimP hh | skip
  rename_i ds
  simp only at hh
  split at hh
  · rename_i hl
    obtain ⟨a, vs, rfl, h1, h2⟩ := rep_tup.mp rv
    exact ⟨a, vs, rfl, h1.sq, by rw [h2.length]; exact hl, gs vs σ H Q ds ρ st μ h2 re s hh⟩
  · exact elimP hh
theorem dg_sub {fo fi : En → M D} (ho : DE ca E X o fo) (hi : DE ca E X i fi)
    (ha : ∀ v, assign (.Subscript o i pos) X.env v = (do
      let ov ← holding [v] (eval o X.env)
      let iv ← holding [v, ov] (eval i X.env)
      standAt pos
      holding [v, ov, iv] (setItem ov iv v)
      release [v, ov, iv] []) := by intro _; rfl) : DG ca E X (.Subscript o i pos) (gSubD fo fi) := by
  obtain ⟨to, po, go⟩ := ho.ex
  obtain ⟨ti, pi', gi⟩ := hi.ex
  refine ⟨_, pg_sub po pi' set_list ha, fun v σ H Q d ρ st μ rv re s h => ?_⟩
  refine go.bind re s h fun o st1 μ1 H1 x e1 s1 r1 re1 h1 => ?_
  refine gi.bind re1 s1 h1 fun j st2 μ2 H2 y e2 s2 r2 re2 h2 => ?_
  rw [Post.bind] at h2
  unfold opSet at h2
  split at h2
  · rename_i l k
    split at h2
    · rename_i ds hd
      split at h2
      · rename_i jj hj
        obtain ⟨a, vs, rfl, g1, g2, g3, g4⟩ := lst_of s2 hd (r1.mono e2)
        refine ⟨a, vs, k, jj, rfl, rep_int.mp r2, g3, by rw [g4.length]; exact hj, ?_⟩
        obtain ⟨s3, e3⟩ := set_lst s2 g1 g2 g3 (g4.set jj (rv.mono (e1.trans e2)))
        exact (h2 : KE X.K ca μ H Q ρ _) μ2 _ σ ((e1.trans e2).trans e3) s3 (re2.mono e3)
      · exact elimP h2
    · exact elimP h2
  · exact elimP h2
end

/-! ### statements -/
def sNx : En → M Ctl := fun ρ => pure (.nx ρ)
def sBk : En → M Ctl := fun ρ => pure (.bk ρ)
def sCt : En → M Ctl := fun ρ => pure (.ct ρ)
def sSeq (f g : En → M Ctl) : En → M Ctl := fun ρ => do
  match ← f ρ with
  | .nx ρ1 => g ρ1
  | c => pure c
def sAsg (f : En → M D) (g : D → En → M En) : En → M Ctl := fun ρ => do let d ← f ρ; let ρ1 ← g d ρ; pure (.nx ρ1)
def sEx (f : En → M D) : En → M Ctl := fun ρ => do let _ ← f ρ; pure (.nx ρ)
def sRet (f : En → M D) : En → M Ctl := fun ρ => do let d ← f ρ; pure (.rt d)
def sRetN : En → M Ctl := fun _ => pure (.rt .non)
def sIf (t : En → M Bool) (f g : En → M Ctl) : En → M Ctl := fun ρ => do if ← t ρ then f ρ else g ρ
def sNever : En → M Ctl := fun _ => stuck
section
variable {X : Cx} {ca : Nat → Addr} {E : XK} {pos : Pos} {e : Expr} {st1 : Stmt} {rest : List Stmt} {f g : En → M Ctl} {fe : En → M D} {ft : En → M Bool}
theorem dss_nil : DSs ca E X [] sNx := ⟨_, pss_nil, fun σ H Q ρ st μ re s h => (h : KC X.K ca μ H Q (.nx ρ) st) μ H .refl s σ re⟩
theorem dss_cons (h1 : DS ca E X st1 f) (h2 : DSs ca E X rest g) : DSs ca E X (st1 :: rest) (sSeq f g) := by
  obtain ⟨t, p, gt⟩ := h1.ex
  obtain ⟨u, q, gu⟩ := h2.ex
  refine ⟨_, pss_cons p q, fun σ H Q ρ st μ re s h => ?_⟩
  refine gt.bind re s h fun c st1 μ1 H1 e1 s1 k1 => ?_
  intro μ2 H2 e2 s2
  have k2 := k1.mono e2 fun _ _ z => z
  cases c with
  | nx ρ1 => exact fun σ1 re1 => gu σ1 H2 Q ρ1 st1 μ2 re1 s2 (Post.imp k2 fun _ _ z => z.mono (e1.trans e2))
  | rt d => exact fun v rv => (k2 : KC X.K ca μ H Q (.rt d) st1) μ2 H2 (e1.trans e2) s2 v rv
  | bk ρ1 => exact fun σ1 re1 => (k2 : KC X.K ca μ H Q (.bk ρ1) st1) μ2 H2 (e1.trans e2) s2 σ1 re1
  | ct ρ1 => exact fun σ1 re1 => (k2 : KC X.K ca μ H Q (.ct ρ1) st1) μ2 H2 (e1.trans e2) s2 σ1 re1
theorem dss_one (h1 : DS ca E X st1 f) : DSs ca E X [st1] f := let ⟨t, p, gt⟩ := h1.ex; ⟨t, pss_one p, gt⟩
theorem ds_pass : DS ca E X (.Pass pos) sNx := ⟨_, ps_pass, fun σ H Q ρ st μ re s h => (h : KC X.K ca μ H Q (.nx ρ) st) μ H .refl s σ re⟩
theorem ds_break : DS ca E X (.Break pos) sBk := ⟨_, ps_break, fun σ H Q ρ st μ re s h => (h : KC X.K ca μ H Q (.bk ρ) st) μ H .refl s σ re⟩
theorem ds_cont : DS ca E X (.Continue pos) sCt := ⟨_, ps_continue, fun σ H Q ρ st μ re s h => (h : KC X.K ca μ H Q (.ct ρ) st) μ H .refl s σ re⟩
theorem ds_doc {x : Str} {j : Nat} {pos' : Pos} : DS ca E X (.Expr (.Constant (.str x) j pos) pos') sNx := ⟨_, ps_doc, fun σ H Q ρ st μ re s h => (h : KC X.K ca μ H Q (.nx ρ) st) μ H .refl s σ re⟩
theorem ds_never : DS ca E X st1 sNever := ⟨_, ps_never, fun σ H Q ρ st μ re s h => h.elim⟩
theorem ds_ret (h : DE ca E X e fe) : DS ca E X (.Return (some e) pos) (sRet fe) := by
  obtain ⟨t, p, ge⟩ := h.ex
  refine ⟨_, ps_ret p, fun σ H Q ρ st μ re s h => ?_⟩
  refine ge.bind re s h fun d st1 μ1 H1 x e1 s1 r1 re1 h1 => ?_
  exact (h1 : KC X.K ca μ H Q (.rt d) st1) μ1 H1 e1 s1 x r1
theorem ds_retN : DS ca E X (.Return none pos) sRetN := ⟨_, ps_retN, fun σ H Q ρ st μ re s h => (h : KC X.K ca μ H Q (.rt .non) st) μ H .refl s _ (rep_non.mpr rfl)⟩
theorem ds_expr (h : DE ca E X e fe) (hs : swapsWith e none pos.line X.env = pure false := by rfl) : DS ca E X (.Expr e pos) (sEx fe) := by
  obtain ⟨t, p, ge⟩ := h.ex
  refine ⟨_, ps_expr p hs, fun σ H Q ρ st μ re s h => ?_⟩
  refine ge.bind re s h fun d st1 μ1 H1 x e1 s1 r1 re1 h1 => ?_
  exact (h1 : KC X.K ca μ H Q (.nx ρ) st1) μ1 H1 e1 s1 σ re1
theorem ds_if {c : Expr} {a b : List Stmt} (hc : DT ca E X c ft) (ha : DSs ca E X a f) (hb : DSs ca E X b g) : DS ca E X (.If c a b pos) (sIf ft f g) := by
  obtain ⟨tc, pc, gc⟩ := hc.ex
  obtain ⟨ta, pa, ga⟩ := ha.ex
  obtain ⟨tb, pb, gb⟩ := hb.ex
  refine ⟨_, ps_if pc pa pb, fun σ H Q ρ st μ re s h => ?_⟩
  refine gc.bind re s h fun k st1 μ1 H1 e1 s1 re1 h1 => ?_
  cases k with
  | true => exact iteT (ga σ H1 Q ρ st1 μ1 re1 s1 (Post.imp h1 fun a st z => z.mono e1))
  | false => exact iteF (gb σ H1 Q ρ st1 μ1 re1 s1 (Post.imp h1 fun a st z => z.mono e1))
theorem ds_asg {tg : Expr} {gd : D → En → M En} (he : DE ca E X e fe) (hg : DG ca E X tg gd) (hs : swapsWithSole [tg] e pos.line X.env = pure false := by rfl) (hw : swappedStores [tg] e X.env = pure none := by rfl)
    (h1 : (assignEach [tg] X.env).map (·.2) = [assign tg X.env] := by rfl) : DS ca E X (.Assign [tg] e pos) (sAsg fe gd) := by
  obtain ⟨t, p, ge⟩ := he.ex
  obtain ⟨u, q, gg⟩ := hg.ex
  refine ⟨_, ps_asg p q hs hw h1, fun σ H Q ρ st μ re s h => ?_⟩
  refine ge.bind re s h fun d st1 μ1 H1 x e1 s1 r1 re1 h1 => ?_
  refine gg.bind r1 re1 s1 h1 fun ρ2 st2 μ2 H2 σ2 e2 s2 re2 h2 => ?_
  exact (h2 : KC X.K ca μ H Q (.nx ρ2) st2) μ2 H2 (e1.trans e2) s2 σ2 re2
theorem ds_set {i : Nat} {x : Str} {pos' : Pos} (hN : X.N.Nodup) (he : DE ca E X e fe) (hi : X.N[i]? = some x := by rfl) (hx : Loc X.env.scope x := by first | exact .inl rfl | exact .inr rfl)
    (hs : swapsWith e (some (.Name x pos')) pos.line X.env = pure false := by rfl) (hf : X.fn x = true ∨ X.env.scope.names.lookup x = some .local := by first | exact .inl rfl | exact .inr rfl) : DS ca E X (.Assign [.Name x pos'] e pos) (sAsg fe (gVar i)) := by
  obtain ⟨t, p, ge⟩ := he.ex
  refine ⟨_, ps_set hN hi hx p hs hf, fun σ H Q ρ st μ re s h => ?_⟩
  refine ge.bind re s h fun d st1 μ1 H1 x e1 s1 r1 re1 h1 => ?_
  exact (h1 : KC X.K ca μ H Q (.nx _) st1) μ1 H1 e1 s1 _ (re1.set i r1)
end

/-! ### walks -/
inductive Item where
  | one (d : D) | two (d e : D)
structure ItD where
  items : List Item
  ok : Sto → Bool := fun _ => true
/-- what an iterator yields stands for the item -/
def Yld (K : PySem.W.Frag) (μ : List Addr) (H : Hp) (x : V) (H' : Hp) : Item → Prop
  | .one d => H' = H ∧ Rep K μ H d x
  | .two d e => ∃ T v w, x = .ref T ∧ H T = none ∧ H' = upd H T (.tup [v, w]) ∧ Rep K μ H d v ∧ Rep K μ H e w
def WalkOK (K : PySem.W.Frag) (ca : Nat → Addr) (J : It) (it : ItD) (μ0 : List Addr) (H0 : Hp) : Prop :=
  ∀ μ H st, Ext K μ0 H0 μ H → Sim K ca μ st H → it.ok st = true → (∀ (i : Nat) d, it.items[i]? = some d → J.go i H ∧ ∀ x H', J.yld i H x H' → Yld K μ H x H' d) ∧ J.stop it.items.length H
theorem WalkOK.mono {K : PySem.W.Frag} {ca : Nat → Addr} {J : It} {it : ItD} {μ μ' : List Addr} {H H' : Hp} (h : WalkOK K ca J it μ H) (e : Ext K μ H μ' H') : WalkOK K ca J it μ' H' := fun μ2 H2 st e2 => h μ2 H2 st (e.trans e2)
structure DI (ca : Nat → Addr) (E : XK) (X : Cx) (tg iter : Expr) (f : En → M ItD) : Prop where
  ex : ∃ wi, PI X tg iter wi ∧ ∀ σ H R ρ st μ, EnvR X.K μ H ρ σ → Sim X.K ca μ st H → Post X.K ca E μ H (f ρ st) (fun it st' => ∀ J μ' H', Ext X.K μ H μ' H' → Sim X.K ca μ' st' H' → WalkOK X.K ca J it μ' H' → R J H') → wi σ H R
/-- a target, by what is yielded; with: the slots beside vs stay -/
structure DGI (ca : Nat → Addr) (E : XK) (vs : List Nat) (X : Cx) (tg : Expr) (g : Item → En → M En) : Prop where
  ex : ∃ t, PG X tg t ∧ ∀ σ H Q it x H1 ρ st μ, Yld X.K μ H x H1 it → EnvR X.K μ H ρ σ → Sim X.K ca μ st H →
    Post X.K ca E μ H (g it ρ st) (fun ρ' st' => ∀ μ' H' σ', Ext X.K μ H μ' H' → Sim X.K ca μ' st' H' → EnvR X.K μ' H' ρ' σ' → wipe σ' vs = wipe σ vs → Q σ' H') → t x σ H1 Q
def itTup (f : En → M D) : En → M ItD := fun ρ => do
  match ← f ρ with
  | .tup ds => pure ⟨ds.map .one, fun _ => true⟩
  | _ => stuck
def itLst (f : En → M D) : En → M ItD := fun ρ => do
  match ← f ρ with
  | .loc i => fun st => match seqAt st i with
    | some ds => .ok ⟨ds.map .one, fun st' => decide (seqAt st' i = some ds)⟩ st
    | none => .stuck
  | _ => stuck
def itStr (f : En → M D) : En → M ItD := fun ρ => do
  match ← f ρ with
  | .str z => pure ⟨z.cps.toList.map fun c => .one (.str ⟨#[c]⟩), fun _ => true⟩
  | _ => stuck
def itRange (f : En → M D) : En → M ItD := fun ρ => do
  match ← f ρ with
  | .int n => if n < 2 ^ 62 ∧ -(2 ^ 62) ≤ n then pure ⟨(List.range n.toNat).map fun (i : Nat) => Item.one (D.int (i : Int)), fun _ => true⟩ else stuck
  | _ => stuck
def gIt (i : Nat) : Item → En → M En := fun it ρ => match it with
  | .one d => pure (ρ.set i (some d))
  | _ => stuck
def gItP (i j : Nat) : Item → En → M En := fun it ρ => match it with
  | .one (.tup [d, e]) => pure ((ρ.set i (some d)).set j (some e))
  | .two d e => pure ((ρ.set i (some d)).set j (some e))
  | _ => stuck
theorem wipe_set {σ : L2.St} {i : Nat} {v : Option V} : ∀ {vs : List Nat}, i ∈ vs → wipe (σ.set i v) vs = wipe σ vs := by
  intro vs
  have comm : ∀ (ws : List Nat) (σ : L2.St) (j : Nat), wipe (σ.set j none) ws = (wipe σ ws).set j none := by
    intro ws
    induction ws with
    | nil => intro σ j; rfl
    | cons w r ih => intro σ j; show (wipe (σ.set j none) r).set w none = ((wipe σ r).set w none).set j none
                     rw [ih]
                     by_cases h : j = w
                     · subst h; rfl
                     · rw [List.set_comm _ _ h]
  have shape : ∀ (ws : List Nat) (σ : L2.St), i ∈ ws → wipe σ ws = wipe (σ.set i none) ws := by
    intro ws
    induction ws with
    | nil => intro σ h; cases h
    | cons w r ih =>
      intro σ h
      show (wipe σ r).set w none = (wipe (σ.set i none) r).set w none
      by_cases hw : i = w
      · subst hw; rw [comm, List.set_set]
      · rw [ih σ (by cases h with | head => exact absurd rfl hw | tail _ h => exact h)]
  intro h
  rw [shape vs (σ.set i v) h, List.set_set, ← shape vs σ h]
section
variable {X : Cx} {ca : Nat → Addr} {E : XK} {pos p : Pos} {e : Expr} {f : En → M D} {tg : Expr} {vs : List Nat}
theorem di_tup (h : DE ca E X e f) : DI ca E X tg e (itTup f) := by
  obtain ⟨t, pe, ge⟩ := h.ex
  refine ⟨_, pi_tup pe, fun σ H R ρ st μ re s h => ?_⟩
  refine ge.bind re s h fun d st1 μ1 H1 x e1 s1 r1 re1 h1 => ?_
  cases d <;> first | exact elimP h1 | skip
  rename_i ds
  obtain ⟨a, xs, rfl, g1, g2⟩ := rep_tup.mp r1
  refine ⟨a, rfl, ⟨xs, g1.sq⟩, (Post.pure.mp h1) (Itt X.K a) μ1 H1 e1 s1 ?_⟩
  intro μ2 H2 st2 e2 s2 _
  have q1 := (e2.tup _ _ g1).sq
  have q2 := g2.mono e2
  refine ⟨fun i it hi => ?_, ⟨xs, q1, by simp [g2.length]⟩⟩
  rw [List.getElem?_map] at hi
  cases hd : ds[i]? with
  | none => rw [hd] at hi; cases hi
  | some d =>
    rw [hd] at hi; cases hi
    obtain ⟨v, k1, k2⟩ := q2.get hd
    refine ⟨⟨xs, v, q1, k1⟩, fun x H3 y => ?_⟩
    have := y.2 xs q1
    rw [k1] at this; cases this
    exact ⟨y.1, k2⟩
theorem di_lst (h : DE ca E X e f) : DI ca E X tg e (itLst f) := by
  obtain ⟨t, pe, ge⟩ := h.ex
  refine ⟨_, pi_list pe, fun σ H R ρ st μ re s h => ?_⟩
  refine ge.bind re s h fun d st1 μ1 H1 x e1 s1 r1 re1 h1 => ?_
  cases d <;> first | exact elimP h1 | skip
  rename_i i
  simp only at h1
  split at h1
  · rename_i ds hd
    obtain ⟨a, xs, rfl, g1, g2⟩ := sq_of s1 hd r1
    refine ⟨a, rfl, ⟨xs, g1⟩, (Post.ok.mp h1) (Itl X.K a) μ1 H1 e1 s1 ?_⟩
    intro μ2 H2 st2 e2 s2 ok2
    obtain ⟨a', ys, ea, q1, q2⟩ := sq_of s2 (of_decide_eq_true ok2) (r1.mono e2)
    cases ea
    refine ⟨fun j it hj => ?_, ⟨ys, q1, by simp [q2.length]⟩⟩
    rw [List.getElem?_map] at hj
    cases hd : ds[j]? with
    | none => rw [hd] at hj; cases hj
    | some d =>
      rw [hd] at hj; cases hj
      obtain ⟨v, k1, k2⟩ := q2.get hd
      refine ⟨⟨ys, v, q1, k1⟩, fun x H3 y => ?_⟩
      have := y.2 ys q1
      rw [k1] at this; cases this
      exact ⟨y.1, k2⟩
  · exact elimP h1
theorem di_range (hg : Gl X "range") (hm : X.mg "range" = none) (h : DE ca E X e f) (hs : starEach [e] X.env = [(false, eval e X.env)] := by rfl) : DI ca E X tg (.Call (.Name "range" p) [e] [] pos) (itRange f) := by
  obtain ⟨t, pe, ge⟩ := h.ex
  refine ⟨_, pi_range1 hg hm (pa_cons pe pa_nil hs) hs, fun σ H R ρ st μ re s h => ?_⟩
  refine ge.bind re s h fun d st1 μ1 H1 x e1 s1 r1 re1 h1 => ?_
  cases d <;> first | exact elimP h1 | skip
  rename_i n
  simp only at h1
  split at h1
  · rename_i hn
    refine ⟨n, by rw [rep_int.mp r1], hn.2, hn.1, (Post.pure.mp h1) (Itr 0 n.toNat) μ1 H1 e1 s1 ?_⟩
    intro μ2 H2 st2 e2 s2 _
    refine ⟨fun j it hj => ?_, by show n.toNat ≤ _; rw [List.length_map, List.length_range]; exact Nat.le_refl _⟩
    rw [List.getElem?_map] at hj
    cases hd : (List.range n.toNat)[j]? with
    | none => rw [hd] at hj; cases hj
    | some d =>
      rw [hd] at hj; cases hj
      obtain ⟨hl, rfl⟩ := List.getElem?_eq_some_iff.mp hd
      have hl' : j < n.toNat := by simpa using hl
      refine ⟨hl', fun x H3 y => ⟨y.1, ?_⟩⟩
      rw [rep_int, y.2]
      simp
  · exact elimP h1
theorem dgi_var {j : Nat} {x : Str} (hv : j ∈ vs) (hN : X.N.Nodup) (hi : X.N[j]? = some x := by rfl) (hx : Loc X.env.scope x := by first | exact .inl rfl | exact .inr rfl) (hf : X.fn x = true ∨ X.env.scope.names.lookup x = some .local := by first | exact .inl rfl | exact .inr rfl) : DGI ca E vs X (.Name x pos) (gIt j) := by
  refine ⟨_, pg_name hN hi hx hf, fun σ H Q it x H1 ρ st μ y re s h => ?_⟩
  cases it with
  | one d =>
    obtain ⟨rfl, rv⟩ := y
    exact h μ _ _ .refl s (re.set j rv) (wipe_set hv)
  | two d e => exact elimP h
theorem dgi_pair {j l k : Nat} {x y : Str} {px py : Pos} (hv : j ∈ vs) (hw : l ∈ vs) (hc : X.calm = true) (hN : X.N.Nodup) (hi : X.N[j]? = some x := by rfl) (hx : Loc X.env.scope x := by first | exact .inl rfl | exact .inr rfl) (hf : X.fn x = true ∨ X.env.scope.names.lookup x = some .local := by first | exact .inl rfl | exact .inr rfl)
    (hj : X.N[l]? = some y := by rfl) (hy : Loc X.env.scope y := by first | exact .inl rfl | exact .inr rfl) (hf' : X.fn y = true ∨ X.env.scope.names.lookup y = some .local := by first | exact .inl rfl | exact .inr rfl)
    (hn : (assignEach [.Name x px, .Name y py] X.env).length = 2 := by rfl) (hst : (assignEach [.Name x px, .Name y py] X.env).findIdx? (·.1) = none := by rfl)
    (hs1 : (assignEach [.Name x px, .Name y py] X.env).map (·.2) = assign (.Name x px) X.env :: (assignEach [.Name y py] X.env).map (·.2) := by rfl) (hs2 : (assignEach [.Name y py] X.env).map (·.2) = assign (.Name y py) X.env :: (assignEach [] X.env).map (·.2) := by rfl) :
    DGI ca E vs X (.Tuple [.Name x px, .Name y py] k pos) (gItP j l) := by
  refine ⟨_, pg_tup hc (pgs_cons (pg_name hN hi hx hf) (pgs_cons (pg_name hN hj hy hf') pgs_nil hs2) hs1) hn hst, fun σ H Q it x H1 ρ st μ y re s h => ?_⟩
  unfold gItP at h
  split at h
  · rename_i d e
    obtain ⟨rfl, rv⟩ := y
    obtain ⟨a, us, rfl, h1, h2⟩ := rep_tup.mp rv
    obtain ⟨v, w, rfl, g1, g2⟩ := h2.pair
    refine ⟨a, [v, w], rfl, h1.sq, rfl, v, [w], rfl, w, [], rfl, rfl, ?_⟩
    exact (Post.pure.mp h) μ _ _ .refl s ((re.set j g1).set l g2) (by rw [wipe_set hw, wipe_set hv])
  · rename_i d e
    obtain ⟨T, v, w, rfl, hT, rfl, g1, g2⟩ := y
    have ex : Ext X.K μ H μ (upd H T (.tup [v, w])) := .updM (.inl hT)
    refine ⟨T, [v, w], rfl, SqT.of upd_same, rfl, v, [w], rfl, w, [], rfl, rfl, ?_⟩
    exact (Post.pure.mp h) μ _ _ ex (s.fresh hT) (((re.mono ex).set j (g1.mono ex)).set l (g2.mono ex)) (by rw [wipe_set hw, wipe_set hv])
  · exact elimP h
end
def guardS (ok : Sto → Bool) : M Unit := fun st => if ok st then .ok () st else .stuck
def forL (ok : Sto → Bool) (g : Item → En → M En) (b : En → M Ctl) : List Item → En → M Ctl
  | [], ρ => do guardS ok; pure (.nx ρ)
  | it :: r, ρ => do
    guardS ok
    let ρ1 ← g it ρ
    match ← b ρ1 with
    | .nx ρ2 => forL ok g b r ρ2
    | .ct ρ2 => forL ok g b r ρ2
    | .bk ρ2 => pure (.nx ρ2)
    | .rt d => pure (.rt d)
def sFor (f : En → M ItD) (g : Item → En → M En) (b : En → M Ctl) : En → M Ctl := fun ρ => do
  let it ← f ρ; forL it.ok g b it.items ρ
theorem guardS_post {K : PySem.W.Frag} {ca : Nat → Addr} {E : XK} {μ : List Addr} {H : Hp} {β : Type} {ok : Sto → Bool} {m : Unit → M β} {st : Sto} {k : β → Sto → Prop} (h : Post K ca E μ H ((guardS ok >>= m) st) k) : ok st = true ∧ Post K ca E μ H (m () st) k := by
  rw [Post.bind] at h
  unfold guardS at h
  split at h
  · rename_i q; exact ⟨q, h⟩
  · exact elimP h
section
variable {X : Cx} {ca : Nat → Addr} {E : XK} {pos : Pos} {tg iter : Expr} {body : List Stmt} {f : En → M ItD} {g : Item → En → M En} {b : En → M Ctl} {vs : List Nat}
theorem ds_for (hp : PassesOwn (model X.prog X.w) X.A X.env X.xe) (hc : X.calm = true) (hi : DI ca E X tg iter f) (hg : DGI ca E vs X tg g) (hb : DSs ca E X body b) (hs : ∀ x, foldedSetIterable iter X.env x = pure x := by intro _; rfl) : DS ca E X (.For tg iter body [] pos) (sFor f g b) := by
  obtain ⟨wi, pi, gi⟩ := hi.ex
  obtain ⟨tgt, pg, gg⟩ := hg.ex
  obtain ⟨tb, pb, gb⟩ := hb.ex
  refine ⟨_, ps_for hp hc pi pg pb hs, fun σ H Q ρ st μ re s h => ?_⟩
  refine gi σ H _ ρ st μ re s ((Post.bind.mp h).imp fun it st1 h1 => ?_)
  intro J μ1 H1 e1 s1 wk
  let Pv : Nat → L2.St → Hp → Prop := fun i σ' H' => i ≤ it.items.length ∧ ∃ ρ' st' μ', EnvR X.K μ' H' ρ' σ' ∧ Sim X.K ca μ' st' H' ∧ Ext X.K μ1 H1 μ' H' ∧ Post X.K ca E μ' H' (forL it.ok g b (it.items.drop i) ρ' st') (KC X.K ca μ H Q)
  refine ⟨fun i m σ' H' => m = it.items.length - i ∧ Pv i σ' H', ⟨_, rfl, Nat.zero_le _, ρ, st1, μ1, re.mono e1, s1, .refl, ?_⟩, ?_⟩
  · rw [List.drop_zero]; exact h1.mono e1 fun _ _ z => z
  rintro i m σ' H' ⟨rfl, hle, ρ', st', μ', re', s', e', h'⟩
  by_cases hlt : i < it.items.length
  · right
    rw [List.drop_eq_getElem_cons hlt] at h'
    unfold forL at h'
    obtain ⟨ok', h2⟩ := guardS_post h'
    obtain ⟨w1, _⟩ := wk μ' H' st' e' s' ok'
    obtain ⟨go, yl⟩ := w1 i it.items[i] (by simp [hlt])
    refine ⟨go, fun σ2 H2 => Pv (i + 1) σ2 H2, fun σ2 H2 p2 => ⟨it.items.length - (i + 1), by omega, rfl, p2⟩, fun x H2 y => ?_⟩
    refine gg σ' H' _ it.items[i] x H2 ρ' st' μ' (yl x H2 y) re' s' ((Post.bind.mp h2).imp fun ρ3 st3 h3 => ?_)
    intro μ3 H3 σ3 e3 s3 re3 _
    have h3' := h3.mono e3 fun _ _ z => z
    refine gb σ3 H3 _ ρ3 st3 μ3 re3 s3 ((Post.bind.mp h3').imp fun c st4 h4 => ?_)
    intro μ4 H4 e4 s4
    have h4' := h4.mono e4 fun _ _ z => z
    have eA : Ext X.K μ H μ4 H4 := (e1.trans e').trans (e3.trans e4)
    cases c with
    | nx ρ4 => exact fun σ4 re4 => ⟨hlt, ρ4, st4, μ4, re4, s4, e'.trans (e3.trans e4), h4'⟩
    | ct ρ4 => exact fun σ4 re4 => ⟨hlt, ρ4, st4, μ4, re4, s4, e'.trans (e3.trans e4), h4'⟩
    | bk ρ4 => exact fun σ4 re4 => (h4' : KC X.K ca μ H Q (.nx ρ4) st4) μ4 H4 eA s4 σ4 re4
    | rt d => exact fun v rv => (h4' : KC X.K ca μ H Q (.rt d) st4) μ4 H4 eA s4 v rv
  · left
    have e0 : it.items.drop i = [] := List.drop_eq_nil_of_le (Nat.le_of_not_lt hlt)
    rw [e0] at h'
    unfold forL at h'
    obtain ⟨ok', h2⟩ := guardS_post h'
    obtain ⟨_, w2⟩ := wk μ' H' st' e' s' ok'
    have ei : i = it.items.length := Nat.le_antisymm hle (Nat.le_of_not_lt hlt)
    rw [ei]
    exact ⟨w2, (h2 : KC X.K ca μ H Q (.nx ρ') st') μ' H' (e1.trans e') s' σ' re'⟩
end
end DL

set_option Elab.async false
set_option linter.all false
set_option maxRecDepth 100000
set_option maxHeartbeats 4000000
namespace DL
open PySem L2 PySem.Spec PyProof.Rows

/-! ### enumerate of a tuple -/
theorem enumMade {v : Value} {o : Obj} {G : Heap → Prop} (B : Begins v o G) : Meets (Builtin.«enumerate.__new__» ⟨[.type "enumerate", v], []⟩)
    (fun _ R s => G s.heap ∧ R (.ok (.ret (.ref (s.heap.push o).objs.size)))
      { s with heap := (s.heap.push o).push { cls := .type "enumerate", data := .fields #[.none, .bool false, .ref s.heap.objs.size, rawInt 0, .none, .none] } }) := by
  refine .of_wp fun prog w A R s hh => ?_
  obtain ⟨hp, ge, dr, tk, os⟩ := s
  obtain ⟨g1, hr⟩ := hh
  have hsub := sub_enumerate
  have go : ∀ {A2 : Around} {E2 : Value → Shared → Prop} {Q2 : Value → Shared → Prop}, Q2 (.ref hp.objs.size) ⟨hp.push o, ge, dr, tk, os⟩ → wpAny (model prog w) A2 (pyIter v) Q2 E2 ⟨hp, ge, dr, tk, os⟩ :=
    fun z => B.iter prog w _ _ ⟨hp, ge, dr, tk, os⟩ _ g1 z
  wp_walk using go
  refine wpAny_stack_any fun stk => wpAny_pure ?_
  split
  · rename_i c0 _ _ _ _ _
    cases hc0 : (c0 == Value.type "enumerate") <;> (wp_walk using go) <;> exact ⟨_, rfl, hr⟩
  · wp_walk using go
    exact ⟨_, rfl, hr⟩
section
variable {prog : Program} {w : World} {A : Around} {E : Value → Shared → Prop} {s : Shared}
theorem enumOf {v : Value} {o : Obj} {G : Heap → Prop} {Q : Value → Shared → Prop} (B : Begins v o G) (g1 : G s.heap)
    (fin : ∀ h2, IsEnum h2 (s.heap.objs.size + 1) s.heap.objs.size 0 .none → h2.get? s.heap.objs.size = some o → (∀ b u, s.heap.get? b = some u → h2.get? b = some u) → Q (.ref (s.heap.objs.size + 1)) { s with heap := h2 }) :
    wpAny (model prog w) A (call (.type "enumerate") [v]) Q E s := by
  refine callType_new PySem.F.called_enumerate (by decide) (PySem.F.typeCall_enumerate_1 _) (PySem.F.newCall_enumerate_1 _) (fun ob => PySem.F.args_object_init_2 ob _) PySem.F.entry_enumerate_new (enumMade B) ⟨g1, ?_⟩
  have sz : (s.heap.push o).objs.size = s.heap.objs.size + 1 := Heap.size_push ..
  show _ ∧ _
  rw [sz]
  have he : IsEnum ((s.heap.push o).push { cls := .type "enumerate", data := .fields #[.none, .bool false, .ref s.heap.objs.size, rawInt 0, .none, .none] }) (s.heap.objs.size + 1) s.heap.objs.size 0 .none := by
    have z := Heap.get?_push_size (s.heap.push o) (o := { cls := .type "enumerate", data := .fields #[.none, .bool false, .ref s.heap.objs.size, rawInt 0, .none, .none] }) rfl
    rw [sz] at z
    exact z
  exact ⟨⟨_, he, rfl⟩, fin _ he (Heap.get?_push_of_some _ (Heap.get?_push_size _ B.free)) fun b u hb => Heap.get?_push_of_some _ (Heap.get?_push_of_some _ hb)⟩
end
def IteT (K : PySem.W.Frag) (a : Addr) : It where
  go := fun i H => ∃ xs x, SqT K H a xs ∧ xs[i]? = some x
  yld := fun i H v H' => ∃ T x, v = .ref T ∧ H T = none ∧ H' = upd H T (.tup [.int (i : Nat), x]) ∧ ∀ xs, SqT K H a xs → xs[i]? = some x
  stop := fun i H => ∃ xs, SqT K H a xs ∧ xs.length = i
theorem turn_enumT {P : Program} {w : World} {K : PySem.W.Frag} {elts : List Expr} {kk : Nat} {tpos : Pos} (a e it : Addr) (hai : a ≠ it) (hea : e ≠ a) (hne : e ≠ it) :
    Turn P w K (.Tuple elts kk tpos) (IteT K a) [e, it] e (fun i h => (∃ old, IsEnum h e it ((i : Nat) : Int) old) ∧ h.IsTupleIter it a i) where
  mem := List.mem_cons_self
  obj := fun i h st b hb => by
    obtain ⟨⟨old, he⟩, ⟨o, ho, hc, hd⟩⟩ := st
    rcases List.mem_cons.mp hb with z | z
    · subst z; exact ⟨_, he, fun v q => nomatch q⟩
    · obtain rfl := List.mem_singleton.mp z
      exact ⟨o, ho, fun v q => by rw [hd] at q; cases q⟩
  keep := fun i h h' st kp => by
    obtain ⟨⟨old, he⟩, hi⟩ := st
    exact ⟨⟨old, kp e List.mem_cons_self _ he⟩, hi.at fun o q => kp it (List.mem_cons_of_mem _ List.mem_cons_self) o q⟩
  item := by
    intro X hP hw hK hc i pins s σ H E I hf st hg
    subst hP hw hK
    obtain ⟨⟨old, he⟩, hit⟩ := st
    obtain ⟨xs, x, hq, hx⟩ := hg
    obtain ⟨its, rv, pl, hz⟩ := I.tuple hq
    obtain ⟨u, hu, ru⟩ := rv.get hx
    have hel : e < s.heap.objs.size := Heap.lt_size he
    have hil : it < s.heap.objs.size := by obtain ⟨_, q, _⟩ := hit; exact Heap.lt_size q
    have hlt : i < its.toArray.size := by simpa using (List.getElem?_eq_some_iff.mp hu).1
    refine wpAny_pyNext_enum_itemD (Draws.tuple (A := X.A.in1) (I.ok.hd hc) it a hai its.toArray) he ⟨hit, pl⟩ hlt hne (by simp [hne, hea]) fun x2 h2 tk px ho hst hT hsz kp => ?_
    have hxu : x2 = u := by
      have q : its.toArray[i]? = some x2 := px
      rw [List.getElem?_toArray, hu] at q
      exact (Option.some.inj q).symm
    subst hxu
    refine ⟨_, rfl, wpAny_letOwnedTupleGo_enum (s := { s with heap := h2, toks := tk + 1 }) ho fun h3 he3 sb => ?_⟩
    have hT3 : h3.get? s.heap.objs.size = some { cls := .type "tuple", data := .seq #[.int i tk, x2] } := (sb.2 _ (Nat.ne_of_gt hel)).trans hT
    have new : ObjOk X.prog X.w (upd H s.heap.objs.size (.tup [.int (i : Nat), x])) h3 s.heap.objs.size (.tup [.int (i : Nat), x]) := by
      refine ⟨by show 2 ≤ sizeLine; decide, [.int i tk, x2], .cons ⟨_, rfl⟩ (.cons ru .nil), ?_⟩
      exact ⟨_, hT3, rfl, _, rfl⟩
    have I1 := I.turnedNew (t' := tk + 1) (h' := h3) (ch := [e, it]) (fun b ob hb q => by
      have n1 : b ≠ e := fun z => hb (by simp [z])
      have n2 : b ≠ it := fun z => hb (by simp [z])
      exact (sb.2 b n1).trans (kp b ob n1 n2 q)) hf (Nat.le_refl _) new
    refine ⟨.ref s.heap.objs.size, _, I1, rfl, ⟨_, x, rfl, I.hok.fresh (Nat.le_refl _), rfl, fun ys hy => by rw [I.tuple_inj hy hq]; exact hx⟩, ⟨⟨x2, ?_⟩, hst.1.at fun o q => (sb.2 it (Ne.symm hne)).trans q⟩, fun b hb => ?_⟩
    · rw [show ((i + 1 : Nat) : Int) = (i : Int) + 1 from rfl]
      exact he3
    · have hb' : b < s.heap.objs.size := by
        rcases List.mem_cons.mp hb with z | z
        · rw [z]; exact hel
        · rw [List.mem_singleton.mp z]; exact hil
      rw [upd_ne (Nat.ne_of_lt hb')]
      exact (hf b hb).1
  done := by
    intro X hP hw hK hc i pins s σ H E I hf st hg
    subst hP hw hK
    obtain ⟨⟨old, he⟩, hit⟩ := st
    obtain ⟨xs, hq, hx⟩ := hg
    obtain ⟨its, rv, pl, hz⟩ := I.tuple hq
    have hl : its.toArray.size = i := by rw [List.size_toArray, ← rv.length]; exact hx
    obtain ⟨f0, f1, f2, f3, f4, f5⟩ := hf it (List.mem_cons_of_mem _ List.mem_cons_self)
    refine wpAny_pyNext_enum_endD (Draws.tuple (A := X.A.in1) (I.ok.hd hc) it a hai its.toArray) he (by rw [hl]; exact ⟨hit, pl⟩) fun h2 eb => ⟨rfl, ?_⟩
    exact I.turned (t' := s.toks) (fun b o hb q => eb b o hb q) f0 f1 f3 f4 f5
  self := fun A i s Q E st hq => by
    obtain ⟨⟨_, he⟩, _⟩ := st
    exact wpAny_pyIter_enum he hq
def iEnumT (K : PySem.W.Frag) (te : TE) : TI := fun σ H R => tCons te tNil σ H fun vs H1 => ∃ a xs, vs = [.ref a] ∧ SqT K H1 a xs ∧ R (IteT K a) H1
theorem pi_enumT {X : Cx} {e : Expr} {te : TE} {p pos tpos : Pos} {elts : List Expr} {kk : Nat} (hg : Gl X "enumerate") (hm : X.mg "enumerate" = none) (he : PE X e te) (hs : starEach [e] X.env = [(false, eval e X.env)]) :
    PI X (.Tuple elts kk tpos) (.Call (.Name "enumerate" p) [e] [] pos) (iEnumT X.K te) := by
  refine ⟨fun pins s σ H R I h => Call_ (ld_blt I hg hm boot_enumerate (PyProof.Rows.callWith_type1 (thn ((pa_cons he pa_nil hs).run pos pins s σ H _ I h) ?_) hs rfl))⟩
  rintro us s1 ⟨vs, H1, I1, r1, a, xs, rfl, hq, q⟩
  cases r1 with
  | cons r rr =>
    cases rr
    cases r
    obtain ⟨its, rv, pl, hz⟩ := I1.tuple hq
    have hal : a < s1.heap.objs.size := by obtain ⟨o, ho, _⟩ := pl; exact Heap.lt_size ho
    refine enumOf (begins_tuple a its.toArray) pl fun h2 he2 hit kp => wpAny_pyIter_enum he2 ?_
    refine ⟨s1.heap.objs.size + 1, [s1.heap.objs.size + 1, s1.heap.objs.size], _, _, H1, rfl, I1.kept (t' := s1.toks) kp, turn_enumT a (s1.heap.objs.size + 1) s1.heap.objs.size (Nat.ne_of_lt hal) (Nat.ne_of_gt (Nat.lt_succ_of_lt hal)) (Nat.succ_ne_self _), ⟨⟨.none, he2⟩, ⟨_, hit, rfl, rfl⟩⟩, fun b hb => ?_, q⟩
    have hle : s1.heap.objs.size ≤ b := by
      rcases List.mem_cons.mp hb with z | z
      · rw [z]; exact Nat.le_succ _
      · rw [List.mem_singleton.mp z]; exact Nat.le_refl _
    exact I1.fpOk hle (I1.hok.fresh hle)
def enumD (n : Nat) : List D → List Item
  | [] => []
  | d :: r => .two (.int (n : Int)) d :: enumD (n + 1) r
theorem enumD_get : ∀ {ds : List D} {n i : Nat} {it : Item}, (enumD n ds)[i]? = some it → ∃ d, ds[i]? = some d ∧ it = .two (.int ((n + i : Nat) : Int)) d
  | [], n, i, it, h => by simp [enumD] at h
  | d :: r, n, 0, it, h => by simp [enumD] at h; exact ⟨d, rfl, by rw [← h]; rfl⟩
  | d :: r, n, i + 1, it, h => by
    simp only [enumD, List.getElem?_cons_succ] at h
    obtain ⟨x, h1, h2⟩ := enumD_get h
    exact ⟨x, by simpa using h1, by rw [h2, show n + 1 + i = n + (i + 1) by omega]⟩
theorem enumD_length : ∀ (ds : List D) (n : Nat), (enumD n ds).length = ds.length
  | [], _ => rfl
  | _ :: r, n => by simp [enumD, enumD_length r]
def itEnumT (f : En → M D) : En → M ItD := fun ρ => do
  match ← f ρ with
  | .tup ds => pure ⟨enumD 0 ds, fun _ => true⟩
  | _ => stuck
section
variable {X : Cx} {ca : Nat → Addr} {E : XK} {pos p tpos : Pos} {e : Expr} {f : En → M D} {elts : List Expr} {kk : Nat} {tg : Expr}
theorem di_enumT (hg : Gl X "enumerate") (hm : X.mg "enumerate" = none) (h : DE ca E X e f) (hs : starEach [e] X.env = [(false, eval e X.env)] := by rfl) : DI ca E X (.Tuple elts kk tpos) (.Call (.Name "enumerate" p) [e] [] pos) (itEnumT f) := by
  obtain ⟨t, pe, ge⟩ := h.ex
  refine ⟨_, pi_enumT hg hm pe hs, fun σ H R ρ st μ re s h => ?_⟩
  refine ge.bind re s h fun d st1 μ1 H1 x e1 s1 r1 re1 h1 => ?_
  cases d <;> first | exact elimP h1 | skip
  rename_i ds
  obtain ⟨a, xs, rfl, g1, g2⟩ := rep_tup.mp r1
  refine ⟨a, xs, rfl, g1.sq, (Post.pure.mp h1) (IteT X.K a) μ1 H1 e1 s1 ?_⟩
  intro μ2 H2 st2 e2 s2 _
  have q1 := (e2.tup _ _ g1).sq
  have q2 := g2.mono e2
  refine ⟨fun i it hi => ?_, ⟨xs, q1, by rw [enumD_length, g2.length]⟩⟩
  obtain ⟨d, hd, rfl⟩ := enumD_get hi
  obtain ⟨v, k1, k2⟩ := q2.get hd
  refine ⟨⟨xs, v, q1, k1⟩, fun x H3 y => ?_⟩
  obtain ⟨T, z, rfl, hT, rfl, hz⟩ := y
  have := hz xs q1
  rw [k1] at this; cases this
  exact ⟨T, _, v, rfl, hT, rfl, by rw [rep_int, Nat.zero_add], k2⟩
theorem di_str (h : DE ca E X e f) : DI ca E X tg e (itStr f) := by
  obtain ⟨t, pe, ge⟩ := h.ex
  refine ⟨_, pi_str pe, fun σ H R ρ st μ re s h => ?_⟩
  refine ge.bind re s h fun d st1 μ1 H1 x e1 s1 r1 re1 h1 => ?_
  cases d <;> first | exact elimP h1 | skip
  rename_i z
  refine ⟨z, rep_str.mp r1, (Post.pure.mp h1) (Its z) μ1 H1 e1 s1 ?_⟩
  intro μ2 H2 st2 e2 s2 _
  refine ⟨fun i it hi => ?_, by show z.cps.size ≤ _; simp⟩
  rw [List.getElem?_map] at hi
  cases hd : z.cps.toList[i]? with
  | none => rw [hd] at hi; cases hi
  | some c =>
    rw [hd] at hi; cases hi
    have hc : z.cps[i]? = some c := by simpa using hd
    refine ⟨(Array.getElem?_eq_some_iff.mp hc).1, fun x H3 y => ?_⟩
    obtain ⟨rfl, c', k1, rfl⟩ := y
    rw [hc] at k1; cases k1
    exact ⟨rfl, rep_str.mpr rfl⟩
end

/-! ### list comprehensions -/
def nr {α : Type} (m : M α) : M α := fun st => match m st with
  | .raise _ _ _ => .stuck
  | r => r
theorem nr_post {K : PySem.W.Frag} {ca : Nat → Addr} {E : XK} {μ : List Addr} {H : Hp} {α : Type} {m : M α} {st : Sto} {k : α → Sto → Prop} (h : Post K ca E μ H (nr m st) k) : Post K ca E0 μ H (m st) k := by
  unfold nr at h
  cases q : m st with
  | ok a st' => rw [q] at h; exact h
  | raise c fs st' => rw [q] at h; exact h.elim
  | stuck => rw [q] at h; exact h.elim
def wipeD (ρ : En) : List Nat → En
  | [] => ρ
  | v :: vs => (wipeD ρ vs).set v none
theorem wipe_env {K : PySem.W.Frag} {μ : List Addr} {H : Hp} {ρ : En} {σ : L2.St} (h : EnvR K μ H ρ σ) : ∀ vs : List Nat, EnvR K μ H (wipeD ρ vs) (wipe σ vs)
  | [] => h
  | v :: vs => by
    have ih := wipe_env h vs
    refine ⟨by show ((wipeD ρ vs).set v none).length = ((wipe σ vs).set v none).length; simp [ih.1], fun i d q => ?_⟩
    have q' : ((wipeD ρ vs).set v none)[i]? = some (some d) := q
    by_cases hi : v = i
    · subst hi
      by_cases hl : v < (wipeD ρ vs).length
      · rw [List.getElem?_set_self hl] at q'; cases q'
      · rw [List.getElem?_eq_none (by simpa using hl)] at q'; cases q'
    · rw [List.getElem?_set_ne hi] at q'
      obtain ⟨w, h1, h2⟩ := ih.2 i d q'
      exact ⟨w, by show ((wipe σ vs).set v none)[i]? = _; rw [List.getElem?_set_ne hi]; exact h1, h2⟩
def putL (L : Nat) (y : D) : M Unit := fun st => match lstAt st L with
  | some ds => if ds.length < sizeLine then .ok () (st.set L (.lst (ds ++ [y]))) else .stuck
  | none => .stuck
def lcL (ok : Sto → Bool) (g : Item → En → M En) (tt : En → M Bool) (te : En → M D) (L : Nat) (ρw : En) : List Item → M Unit
  | [] => guardS ok
  | it :: r => do
    guardS ok
    let ρ1 ← nr (g it ρw)
    let b ← nr (tt ρ1)
    if b then do let y ← nr (te ρ1); putL L y; lcL ok g tt te L ρw r else lcL ok g tt te L ρw r
def eLc (vs : List Nat) (f : En → M ItD) (g : Item → En → M En) (tt : En → M Bool) (te : En → M D) : En → M D := fun ρ => do
  let it ← f ρ
  fun st => (lcL it.ok g tt te st.length (wipeD ρ vs) it.items >>= fun _ => pure (.loc st.length)) (st ++ [.lst []])
structure DTs (ca : Nat → Addr) (E : XK) (X : Cx) (ifs : List Expr) (f : En → M Bool) : Prop where
  ex : ∃ t, PTs X ifs t ∧ GT X.K ca E t f
def tYesD : En → M Bool := fun _ => pure true
section
variable {X : Cx} {ca : Nat → Addr} {E : XK} {pos : Pos} {tg iter elt c : Expr} {ifs : List Expr} {f : En → M ItD} {g : Item → En → M En} {tt : En → M Bool} {te : En → M D} {vs : List Nat}
theorem dts_nil : DTs ca E X [] tYesD := ⟨_, pts_nil, fun σ H Q ρ st μ re s h => h μ H .refl s⟩
theorem dts_one (h : DT ca E X c tt) : DTs ca E X [c] tt := let ⟨t, p, q⟩ := h.ex; ⟨t, pts_one p, q⟩
theorem ge_lc {K : PySem.W.Frag} {wi : TI} {tgt : TG} {ttt : TT} {tte : TE} {σ : L2.St} {H : Hp} {Q : VK} {ρ : En} {st : Sto} {μ : List Addr}
    (gi : ∀ σ H R ρ st μ, EnvR K μ H ρ σ → Sim K ca μ st H → Post K ca E μ H (f ρ st) (fun it st' => ∀ J μ' H', Ext K μ H μ' H' → Sim K ca μ' st' H' → WalkOK K ca J it μ' H' → R J H') → wi σ H R)
    (gg : ∀ σ H Q it x H1 ρ st μ, Yld K μ H x H1 it → EnvR K μ H ρ σ → Sim K ca μ st H → Post K ca E0 μ H (g it ρ st) (fun ρ' st' => ∀ μ' H' σ', Ext K μ H μ' H' → Sim K ca μ' st' H' → EnvR K μ' H' ρ' σ' → wipe σ' vs = wipe σ vs → Q σ' H') → tgt x σ H1 Q)
    (gt : GT K ca E0 ttt tt) (ge : GE K ca E0 tte te) (re : EnvR K μ H ρ σ) (s : Sim K ca μ st H) (h : Post K ca E μ H (eLc vs f g tt te ρ st) (KV K ca μ H Q)) : tLc wi tgt ttt tte vs σ H Q := by
  refine gi σ H _ ρ st μ re s ((Post.bind.mp h).imp fun it st1 h1 => ?_)
  intro J μ1 H1 e1 s1 wk L hL
  have h1' := Post.bind.mp h1
  have hloc : (μ1 ++ [L])[st1.length]? = some L := by rw [← s1.len, List.getElem?_append_right (Nat.le_refl _), Nat.sub_self]; rfl
  have s0 : Sim K ca (μ1 ++ [L]) (st1 ++ [.lst []]) (upd H1 L (.lst [])) := s1.push hL ⟨[], upd_same, repL_nil.mpr rfl⟩
  have e0 : Ext K μ1 H1 (μ1 ++ [L]) (upd H1 L (.lst [])) := .push hL
  let Pv : Nat → Hp → Prop := fun i H' => i ≤ it.items.length ∧ ∃ st' μ', EnvR K μ' H' (wipeD ρ vs) (wipe σ vs) ∧ Sim K ca μ' st' H' ∧ Ext K (μ1 ++ [L]) (upd H1 L (.lst [])) μ' H' ∧
    Post K ca E μ' H' (lcL it.ok g tt te st1.length (wipeD ρ vs) (it.items.drop i) st') (fun _ st2 => KV K ca μ H Q (.loc st1.length) st2)
  refine ⟨fun i m H' => m = it.items.length - i ∧ Pv i H', ⟨_, rfl, Nat.zero_le _, st1 ++ [.lst []], μ1 ++ [L], wipe_env (re.mono (e1.trans e0)) vs, s0, .refl, ?_⟩, ?_⟩
  · rw [List.drop_zero]; exact h1'.mono (e1.trans e0) fun _ _ z => z
  rintro i m H' ⟨rfl, hle, st', μ', re', s', e', h'⟩
  have eB : Ext K μ1 H1 μ' H' := e0.trans e'
  by_cases hlt : i < it.items.length
  · right
    rw [List.drop_eq_getElem_cons hlt] at h'
    unfold lcL at h'
    obtain ⟨ok', h2⟩ := guardS_post h'
    obtain ⟨w1, _⟩ := wk μ' H' st' eB s' ok'
    obtain ⟨go, yl⟩ := w1 i it.items[i] (by simp [hlt])
    refine ⟨go, fun H2 => Pv (i + 1) H2, fun H2 p2 => ⟨it.items.length - (i + 1), by omega, rfl, p2⟩, fun x H2 y => ?_⟩
    refine gg (wipe σ vs) H' _ it.items[i] x H2 (wipeD ρ vs) st' μ' (yl x H2 y) re' s' ((nr_post (Post.bind.mp h2)).imp fun ρ3 st3 h3 => ?_)
    intro μ3 H3 σ3 e3 s3 re3 hw
    have ww : ∀ us : List Nat, wipe (wipe σ us) us = wipe σ us := by
      intro us
      have key : ∀ (us : List Nat) (τ : L2.St), (∀ v ∈ us, τ[v]? = some none ∨ τ[v]? = none) → wipe τ us = τ := by
        intro us
        induction us with
        | nil => intro τ _; rfl
        | cons v r ih =>
          intro τ ht
          show (wipe τ r).set v none = τ
          rw [ih τ fun v' hv' => ht v' (List.mem_cons_of_mem _ hv')]
          rcases ht v List.mem_cons_self with z | z
          · obtain ⟨hl, ev⟩ := List.getElem?_eq_some_iff.mp z
            apply List.ext_getElem?
            intro j
            by_cases hj : v = j
            · subst hj; rw [List.getElem?_set_self hl, z]
            · rw [List.getElem?_set_ne hj]
          · rw [List.set_eq_of_length_le (List.getElem?_eq_none_iff.mp z)]
      refine key us _ fun v hv => ?_
      have gone : ∀ (us : List Nat) (τ : L2.St), v ∈ us → (wipe τ us)[v]? = some none ∨ (wipe τ us)[v]? = none := by
        intro us
        induction us with
        | nil => intro τ hm; cases hm
        | cons u r ih =>
          intro τ hm
          show ((wipe τ r).set u none)[v]? = some none ∨ ((wipe τ r).set u none)[v]? = none
          by_cases hu : u = v
          · subst hu
            by_cases hl : u < (wipe τ r).length
            · left; rw [List.getElem?_set_self hl]
            · right; rw [List.getElem?_eq_none (by simpa using hl)]
          · rw [List.getElem?_set_ne hu]
            exact ih τ (by cases hm with | head => exact absurd rfl hu | tail _ z => exact z)
      exact gone us σ hv
    refine ⟨by rw [hw, ww], ?_⟩
    have h3' := (Post.bind.mp h3).mono e3 fun _ _ z => z
    refine gt σ3 H3 _ ρ3 st3 μ3 re3 s3 ((nr_post h3').imp fun b st4 h4 => ?_)
    intro μ4 H4 e4 s4
    have e14 : Ext K (μ1 ++ [L]) (upd H1 L (.lst [])) μ4 H4 := e'.trans (e3.trans e4)
    cases b with
    | true =>
      refine iteT ?_
      have h4' := (Post.bind.mp h4).mono (e3.trans e4) fun _ _ z => z
      refine ge σ3 H4 _ ρ3 st4 μ4 (re3.mono e4) s4 ((nr_post h4').imp fun yv st5 h5 => ?_)
      intro μ5 H5 v e5 s5 rv
      have h5' := (Post.bind.mp h5).mono ((e3.trans e4).trans e5) fun _ _ z => z
      unfold putL at h5'
      split at h5'
      · rename_i acc hacc
        split at h5'
        · rename_i hz
          have e15 := e14.trans e5
          obtain ⟨a, ws, ea, g1, g2, g3, g4⟩ := lst_of s5 hacc (rep_loc.mpr ⟨L, e15.pre _ _ hloc, rfl⟩)
          cases ea
          refine ⟨ws, g3, by rw [g4.length]; exact hz, hlt, ?_⟩
          obtain ⟨s6, e6⟩ := set_lst s5 g1 g2 g3 (g4.append (RepL.one rv))
          exact ⟨_, μ5, re'.mono (((e3.trans e4).trans e5).trans e6), s6, e15.trans e6, (Post.ok.mp h5').mono (((e3.trans e4).trans e5).trans e6) fun _ _ z => z⟩
        · exact elimP h5'
      · exact elimP h5'
    | false =>
      refine iteF ⟨hlt, st4, μ4, re'.mono (e3.trans e4), s4, e14, h4.mono (e3.trans e4) fun _ _ z => z⟩
  · left
    have e00 : it.items.drop i = [] := List.drop_eq_nil_of_le (Nat.le_of_not_lt hlt)
    rw [e00] at h'
    unfold lcL at h'
    have h'' : Post K ca E μ' H' ((guardS it.ok >>= fun u => pure u) st') (fun _ st2 => KV K ca μ H Q (.loc st1.length) st2) := by
      rw [Post.bind]; exact h'.imp fun _ _ z => z
    obtain ⟨ok', h2⟩ := guardS_post h''
    obtain ⟨_, w2⟩ := wk μ' H' st' eB s' ok'
    have ei : i = it.items.length := Nat.le_antisymm hle (Nat.le_of_not_lt hlt)
    rw [ei]
    exact ⟨w2, (h2 : KV K ca μ H Q _ _) μ' H' _ (e1.trans eB) s' (rep_loc.mpr ⟨L, e'.pre _ _ hloc, rfl⟩)⟩
theorem fam_g {ι : Type} {K : PySem.W.Frag} {Y : ι → Cx} (hK : ∀ i, (Y i).K = K) (h : ∀ i, DGI ca E0 vs (Y i) tg g) : ∃ t, (∀ i, PG (Y i) tg t) ∧ ∀ σ H Q it x H1 ρ st μ, Yld K μ H x H1 it → EnvR K μ H ρ σ → Sim K ca μ st H →
    Post K ca E0 μ H (g it ρ st) (fun ρ' st' => ∀ μ' H' σ', Ext K μ H μ' H' → Sim K ca μ' st' H' → EnvR K μ' H' ρ' σ' → wipe σ' vs = wipe σ vs → Q σ' H') → t x σ H1 Q := by
  have h' : ∀ i, ∃ t, PG (Y i) tg t ∧ ∀ σ H Q it x H1 ρ st μ, Yld K μ H x H1 it → EnvR K μ H ρ σ → Sim K ca μ st H →
    Post K ca E0 μ H (g it ρ st) (fun ρ' st' => ∀ μ' H' σ', Ext K μ H μ' H' → Sim K ca μ' st' H' → EnvR K μ' H' ρ' σ' → wipe σ' vs = wipe σ vs → Q σ' H') → t x σ H1 Q := fun i => by
    obtain ⟨t, p, q⟩ := (h i).ex
    rw [hK i] at q
    exact ⟨t, p, q⟩
  exact ⟨fun v σ H Q => ∀ i, (h' i).choose v σ H Q, fun i => ⟨fun pins s σ H v u Q I r q => ((h' i).choose_spec).1.run pins s σ H v u Q I r (q i)⟩, fun σ H Q it x H1 ρ st μ y re s p i => ((h' i).choose_spec).2 σ H Q it x H1 ρ st μ y re s p⟩
theorem fam_e {ι : Type} {K : PySem.W.Frag} {Y : ι → Cx} (hK : ∀ i, (Y i).K = K) (h : ∀ i, DE ca E0 (Y i) elt te) : ∃ t, (∀ i, PE (Y i) elt t) ∧ GE K ca E0 t te := by
  have h' : ∀ i, ∃ t, PE (Y i) elt t ∧ GE K ca E0 t te := fun i => by
    obtain ⟨t, p, q⟩ := (h i).ex
    rw [hK i] at q
    exact ⟨t, p, q⟩
  exact ⟨fun σ H Q => ∀ i, (h' i).choose σ H Q, fun i => ⟨fun pins s σ H Q I q => ((h' i).choose_spec).1.run pins s σ H Q I (q i)⟩, fun σ H Q ρ st μ re s p i => ((h' i).choose_spec).2 σ H Q ρ st μ re s p⟩
theorem fam_t {ι : Type} {K : PySem.W.Frag} {Y : ι → Cx} (hK : ∀ i, (Y i).K = K) (h : ∀ i, DTs ca E0 (Y i) ifs tt) : ∃ t, (∀ i, PTs (Y i) ifs t) ∧ GT K ca E0 t tt := by
  have h' : ∀ i, ∃ t, PTs (Y i) ifs t ∧ GT K ca E0 t tt := fun i => by
    obtain ⟨t, p, q⟩ := (h i).ex
    rw [hK i] at q
    exact ⟨t, p, q⟩
  exact ⟨fun σ H Q => ∀ i, (h' i).choose σ H Q, fun i => ⟨fun pins s σ H Q I q => ((h' i).choose_spec).1.run pins s σ H Q I (q i)⟩, fun σ H Q ρ st μ re s p i => ((h' i).choose_spec).2 σ H Q ρ st μ re s p⟩
theorem de_lc {scope : Scope} {own : List (Str × Nat)} (hc : X.calm = true) (hN : X.N.Nodup) (hi : DI ca E X tg iter f) (ok : BlkOk X.N X.env.scope scope own)
    (hg : ∀ (s : Shared) (H : Hp) (C : Addr) (cl : List (Str × Addr)) (fp : List Addr), DGI ca E0 (own.map (·.2)) (X.blk s H scope (compEnvC scope cl C X.env) fp) tg g)
    (ht : ∀ (s : Shared) (H : Hp) (C : Addr) (cl : List (Str × Addr)) (fp : List Addr), DTs ca E0 (X.blk s H scope (compEnvC scope cl C X.env) fp) ifs tt)
    (he : ∀ (s : Shared) (H : Hp) (C : Addr) (cl : List (Str × Addr)) (fp : List Addr), DE ca E0 (X.blk s H scope (compEnvC scope cl C X.env) fp) elt te) (hs : ∀ x, foldedSetIterable iter X.env x = pure x := by intro _; rfl) :
    DE ca E X (.ListComp elt [⟨tg, iter, ifs, 0⟩] scope pos) (eLc (own.map (·.2)) f g tt te) := by
  obtain ⟨wi, pi, gi⟩ := hi.ex
  let Y : Shared × Hp × Addr × List (Str × Addr) × List Addr → Cx := fun z => X.blk z.1 z.2.1 scope (compEnvC scope z.2.2.2.1 z.2.2.1 X.env) z.2.2.2.2
  have hK : ∀ z, (Y z).K = X.K := fun _ => rfl
  obtain ⟨t1, p1, g1⟩ := fam_g (Y := Y) hK fun z => hg z.1 z.2.1 z.2.2.1 z.2.2.2.1 z.2.2.2.2
  obtain ⟨t2, p2, g2⟩ := fam_t (Y := Y) hK fun z => ht z.1 z.2.1 z.2.2.1 z.2.2.2.1 z.2.2.2.2
  obtain ⟨t3, p3, g3⟩ := fam_e (Y := Y) hK fun z => he z.1 z.2.1 z.2.2.1 z.2.2.2.1 z.2.2.2.2
  exact ⟨_, pe_lc hc hN pi ok (fun s H C cl fp => p1 (s, H, C, cl, fp)) (fun s H C cl fp => p2 (s, H, C, cl, fp)) (fun s H C cl fp => p3 (s, H, C, cl, fp)) hs, fun σ H Q ρ st μ re s h => ge_lc gi g1 g2 g3 re s h⟩
theorem ds_setLc {i : Nat} {y : Str} {py spos : Pos} {scope : Scope} {own : List (Str × Nat)} (hc : X.calm = true) (hN : X.N.Nodup) (hi : DI ca E X tg iter f) (ok : BlkOk X.N X.env.scope scope own)
    (hg : ∀ (s : Shared) (H : Hp) (C : Addr) (cl : List (Str × Addr)) (fp : List Addr), DGI ca E0 (own.map (·.2)) (X.blk s H scope (compEnvC scope cl C X.env) fp) tg g)
    (ht : ∀ (s : Shared) (H : Hp) (C : Addr) (cl : List (Str × Addr)) (fp : List Addr), DTs ca E0 (X.blk s H scope (compEnvC scope cl C X.env) fp) ifs tt)
    (he : ∀ (s : Shared) (H : Hp) (C : Addr) (cl : List (Str × Addr)) (fp : List Addr), DE ca E0 (X.blk s H scope (compEnvC scope cl C X.env) fp) elt te)
    (hy : X.N[i]? = some y := by rfl) (hyl : X.env.scope.names.lookup y = some .local := by rfl)
    (hsw : swapsWith (.ListComp elt [⟨tg, iter, ifs, 0⟩] scope pos) (some (.Name y py)) spos.line X.env = pure true := by exact sw_true rfl rfl rfl (by decide +kernel)) (hs : ∀ x, foldedSetIterable iter X.env x = pure x := by intro _; rfl) :
    DS ca E X (.Assign [.Name y py] (.ListComp elt [⟨tg, iter, ifs, 0⟩] scope pos) spos) (sAsg (eLc (own.map (·.2)) f g tt te) (gVar i)) := by
  obtain ⟨wi, pi, gi⟩ := hi.ex
  let Y : Shared × Hp × Addr × List (Str × Addr) × List Addr → Cx := fun z => X.blk z.1 z.2.1 scope (compEnvC scope z.2.2.2.1 z.2.2.1 X.env) z.2.2.2.2
  have hK : ∀ z, (Y z).K = X.K := fun _ => rfl
  obtain ⟨t1, p1, g1⟩ := fam_g (Y := Y) hK fun z => hg z.1 z.2.1 z.2.2.1 z.2.2.2.1 z.2.2.2.2
  obtain ⟨t2, p2, g2⟩ := fam_t (Y := Y) hK fun z => ht z.1 z.2.1 z.2.2.1 z.2.2.2.1 z.2.2.2.2
  obtain ⟨t3, p3, g3⟩ := fam_e (Y := Y) hK fun z => he z.1 z.2.1 z.2.2.1 z.2.2.2.1 z.2.2.2.2
  refine ⟨_, ps_setLc hc hN hy hyl hsw pi ok (fun s H C cl fp => p1 (s, H, C, cl, fp)) (fun s H C cl fp => p2 (s, H, C, cl, fp)) (fun s H C cl fp => p3 (s, H, C, cl, fp)) hs, fun σ H Q ρ st μ re s h => ?_⟩
  refine ge_lc gi g1 g2 g3 re s ((Post.bind.mp h).imp fun d st1 h1 => ?_)
  intro μ1 H1 v e1 s1 r1
  exact (h1 : KC X.K ca μ H Q (.nx _) st1) μ1 H1 e1 s1 _ ((re.mono e1).set i r1)
end

/-! ### while -/
def whL (t : En → M Bool) (b : En → M Ctl) : Nat → En → M Ctl
  | 0, _ => stuck
  | n + 1, ρ => do
    if ← t ρ then do
      match ← b ρ with
      | .nx ρ2 => whL t b n ρ2
      | .ct ρ2 => whL t b n ρ2
      | .bk ρ2 => pure (.nx ρ2)
      | .rt d => pure (.rt d)
    else pure (.nx ρ)
section
variable {X : Cx} {ca : Nat → Addr} {E : XK} {pos : Pos} {c : Expr} {body : List Stmt} {t : En → M Bool} {b : En → M Ctl}
theorem ds_while (fuel : Nat) (hp : PassesOwn (model X.prog X.w) X.A X.env X.xe) (hc : DT ca E X c t) (hb : DSs ca E X body b) : DS ca E X (.While c body [] pos) (whL t b fuel) := by
  obtain ⟨tc, pc, gc⟩ := hc.ex
  obtain ⟨tb, pb, gb⟩ := hb.ex
  refine ⟨_, ps_while hp pc pb, fun σ H Q ρ st μ re s h => ?_⟩
  refine ⟨fun m σ' H' => ∃ ρ' st' μ', EnvR X.K μ' H' ρ' σ' ∧ Sim X.K ca μ' st' H' ∧ Ext X.K μ H μ' H' ∧ Post X.K ca E μ' H' (whL t b m ρ' st') (KC X.K ca μ H Q), ⟨fuel, ρ, st, μ, re, s, .refl, h⟩, ?_⟩
  rintro m σ' H' ⟨ρ', st', μ', re', s', e', h'⟩
  cases m with
  | zero => exact h'.elim
  | succ m =>
    unfold whL at h'
    refine gc.bind re' s' h' fun k st1 μ1 H1 e1 s1 re1 h1 => ?_
    cases k with
    | true =>
      refine iteT ⟨_, fun σ2 H2 p2 => ⟨m, Nat.lt_succ_self m, p2⟩, ?_⟩
      refine gb σ' H1 _ ρ' st1 μ1 re1 s1 ((Post.bind.mp h1).imp fun c st4 h4 => ?_)
      intro μ4 H4 e4 s4
      have h4' := h4.mono e4 fun _ _ z => z
      have eA : Ext X.K μ H μ4 H4 := (e'.trans e1).trans e4
      cases c with
      | nx ρ4 => exact fun σ4 re4 => ⟨ρ4, st4, μ4, re4, s4, eA, h4'⟩
      | ct ρ4 => exact fun σ4 re4 => ⟨ρ4, st4, μ4, re4, s4, eA, h4'⟩
      | bk ρ4 => exact fun σ4 re4 => (h4' : KC X.K ca μ H Q (.nx ρ4) st4) μ4 H4 eA s4 σ4 re4
      | rt d => exact fun v rv => (h4' : KC X.K ca μ H Q (.rt d) st4) μ4 H4 eA s4 v rv
    | false => exact iteF ((h1 : KC X.K ca μ H Q (.nx ρ') st1) μ1 H1 (e'.trans e1) s1 σ' re1)
end
end DL

set_option Elab.async false
set_option linter.all false
set_option maxRecDepth 100000
set_option maxHeartbeats 4000000
namespace DL
open PySem L2 PySem.Spec PyProof.Rows
/-- a list, a tuple or a text, whichever it is -/
def itSeq (f : En → M D) : En → M ItD := fun ρ => do
  match ← f ρ with
  | .tup ds => pure ⟨ds.map .one, fun _ => true⟩
  | .str z => pure ⟨z.cps.toList.map fun c => .one (.str ⟨#[c]⟩), fun _ => true⟩
  | .loc i => fun st => match seqAt st i with
    | some ds => .ok ⟨ds.map .one, fun st' => decide (seqAt st' i = some ds)⟩ st
    | none => .stuck
  | _ => stuck
section
variable {X : Cx} {ca : Nat → Addr} {E : XK} {e : Expr} {f : En → M D} {tg : Expr}
theorem di_seq (h : DE ca E X e f) : DI ca E X tg e (itSeq f) := by
  obtain ⟨w1, p1, g1⟩ := (di_tup (tg := tg) h).ex
  obtain ⟨w2, p2, g2⟩ := (di_lst (tg := tg) h).ex
  obtain ⟨w3, p3, g3⟩ := (di_str (tg := tg) h).ex
  refine ⟨fun σ H R => w1 σ H R ∨ w2 σ H R ∨ w3 σ H R, ⟨fun pins s σ H R I hw => ?_⟩, fun σ H R ρ st μ re s hh => ?_⟩
  · rcases hw with hw | hw | hw
    · exact p1.run pins s σ H R I hw
    · exact p2.run pins s σ H R I hw
    · exact p3.run pins s σ H R I hw
  · have hh' := Post.bind.mp hh
    cases q : f ρ st with
    | stuck => rw [q] at hh'; exact hh'.elim
    | raise c fs st' =>
      left
      refine g1 σ H R ρ st μ re s (Post.bind.mpr ?_)
      rw [q] at hh' ⊢
      exact hh'
    | ok d st' =>
      rw [q] at hh'
      cases d with
      | tup ds => exact .inl (g1 σ H R ρ st μ re s (Post.bind.mpr (by rw [q]; exact hh')))
      | loc i => exact .inr (.inl (g2 σ H R ρ st μ re s (Post.bind.mpr (by rw [q]; exact hh'))))
      | str z => exact .inr (.inr (g3 σ H R ρ st μ re s (Post.bind.mpr (by rw [q]; exact hh'))))
      | _ => exact hh'.elim
end
/-- no exception in a block of a comprehension; the body's own wish -/
theorem pass_blk {X : Cx} : Passes (L2.CX X.prog X.w) X E0 := passL
end DL

set_option Elab.async false
set_option linter.all false
set_option maxRecDepth 100000
set_option maxHeartbeats 4000000
namespace DL
open PySem L2 PySem.Spec PyProof.Rows
/-- how many different texts -/
def cntD (pre : List Str) : List Str → Nat
  | [] => 0
  | x :: r => (if x ∈ pre then 0 else 1) + cntD (pre ++ [x]) r
theorem cntD_cons (pre : List Str) (x : Str) (r : List Str) : cntD pre (x :: r) = (if x ∈ pre then 0 else 1) + cntD (pre ++ [x]) r := rfl
theorem cntD_le : ∀ (xs pre : List Str), cntD pre xs ≤ xs.length
  | [], _ => Nat.le_refl _
  | x :: r, pre => by
    have := cntD_le r (pre ++ [x])
    unfold cntD
    split <;> simp only [List.length_cons] <;> omega
section
variable {prog : Program} {w : World} {A : Around} {R : Result → Shared → Prop} {I : Addr} {fp wr : List Addr} {G : Array GenState → Array GenState → Prop} {n : Nat} {P : Nat → Value → Prop} {St : Nat → Shared → Prop}
/-- the texts xs put into the set at Z, one by one -/
theorem fillTexts (W : WalksS prog w A.in1 I fp wr G n P St) (Z : Addr) (hZ : Z ∉ fp) (xs : List Str) (hn : n = xs.length) (hb : xs.length + 1 < scanBound) (hv : ∀ i v, P i v → ∃ z t, xs[i]? = some z ∧ v = .str z t)
    (fin : ∀ s1 s2, Moved (Z :: wr) G s1 s2 → s2.heap.SetOf (strKind prog w) Z (fun k => decide (k ∈ xs)) (cntD [] xs) → Moved (Z :: wr) G s1 s2 → True) :
    ∀ (m i c : Nat) (s : Shared), n - i = m → i ≤ n → St i s → s.heap.SetOf (strKind prog w) Z (fun k => decide (k ∈ xs.take i)) c → c + cntD (xs.take i) (xs.drop i) = cntD [] xs → c ≤ i →
      (∀ s2, Moved (Z :: wr) G s s2 → s2.heap.SetOf (strKind prog w) Z (fun k => decide (k ∈ xs)) (cntD [] xs) → R (.ok (.ret .none)) s2) →
      codeAny (model prog w) A (.builtin "set.update.loop" ⟨[.ref Z, .ref I], []⟩) R s := by
  have zw : Z ∉ wr := fun q => hZ (W.sub _ q)
  have more : ∀ b ∈ wr, b ∈ Z :: wr := fun b q => List.mem_cons_of_mem _ q
  have still : ∀ {h1 h2 : Heap} {S : Str → Bool} {c : Nat}, h1.SetOf (strKind prog w) Z S c → (∀ o, h1.get? Z = some o → h2.get? Z = some o) → h2.SetOf (strKind prog w) Z S c := fun hS hk => by
    obtain ⟨o, es, ep, tb, ho, q⟩ := hS
    exact ⟨o, es, ep, tb, hk o ho, q⟩
  intro m
  induction m with
  | zero =>
    intro i c s hm hi hst hS hc _ out
    obtain rfl : i = n := by omega
    refine codeAny_builtin PyProof.Rows.F.entry_set_update_loop ?_; rw [Around.under_plainId PyProof.Rows.F.plain_set_update_loop _]
    show wpAny _ A.in1 (pyNext (.ref I) >>= fun _ => _) _ _ s
    refine wpAny_bind (W.done s _ _ hst fun s2 mv => ?_); show wpAny _ A.in1 (ret Value.none) _ _ s2
    have et : xs.take i = xs := List.take_of_length_le (by omega)
    have ed : xs.drop i = [] := List.drop_eq_nil_of_le (by omega)
    rw [ed] at hc
    have ec : c = cntD [] xs := by simpa [cntD] using hc
    rw [et, ec] at hS
    exact wpAny_pure (out s2 (mv.mono more) (still hS fun o ho => mv.heap Z o zw ho))
  | succ m ih =>
    intro i c s hm hi hst hS hc hci out
    have hlt : i < n := by omega
    refine codeAny_builtin PyProof.Rows.F.entry_set_update_loop ?_; rw [Around.under_plainId PyProof.Rows.F.plain_set_update_loop _]
    show wpAny _ A.in1 (pyNext (.ref I) >>= fun _ => _) _ _ s
    refine wpAny_bind (W.item i s _ _ hlt hst fun v s2 hP hst2 mv => ?_)
    obtain ⟨z, t, hz, rfl⟩ := hv i v hP
    have hS2 := still hS fun o ho => mv.heap Z o zw ho
    show wpAny _ A.in1 (holding [Value.str z t] (setAdd Z (.str z t)) >>= fun _ => _) _ _ s2
    refine wpAny_bind (wpAny_holding ?_); unfold setAdd
    refine wpAny_holding (wpAny_bind ((strKind prog w).pyHash (k := z) (strKind_is _ _ _ _) ?_))
    refine wpAny_setAddHashed_of (knd := strKind prog w) (s := { s2 with toks := s2.toks + 1 }) (strKind_is _ _ _ _) rfl hS2 (by omega) fun h3 sb hS3 => ?_
    have tk : xs.take (i + 1) = xs.take i ++ [z] := by rw [List.take_add_one, hz]; rfl
    have dr : xs.drop i = z :: xs.drop (i + 1) := by
      have hl : i < xs.length := by omega
      rw [List.drop_eq_getElem_cons hl]
      rw [List.getElem?_eq_getElem hl] at hz
      rw [Option.some.inj hz]
    have hS4 : h3.SetOf (strKind prog w) Z (fun k => decide (k ∈ xs.take (i + 1))) (if decide (z ∈ xs.take i) = true then c else c + 1) := by
      refine SetOf_congr hS3 (fun k => ?_) rfl
      rw [tk]
      by_cases e1 : k ∈ xs.take i <;> by_cases e2 : k = z <;> simp [e1, e2]
    have hc4 : (if decide (z ∈ xs.take i) = true then c else c + 1) + cntD (xs.take (i + 1)) (xs.drop (i + 1)) = cntD [] xs := by
      rw [dr, cntD_cons] at hc
      rw [tk, ← hc]
      by_cases e1 : z ∈ xs.take i <;> simp [e1] <;> omega
    have hc5 : (if decide (z ∈ xs.take i) = true then c else c + 1) ≤ i + 1 := by split <;> omega
    refine wpAny_pure ⟨plainId_quiet PyProof.Rows.F.plain_set_update_loop _, ih (i + 1) _ _ (by omega) hlt (W.frame _ s2 _ _ hst2 (Nat.le_succ _) fun b hb o e => ?_) hS4 hc4 hc5 fun s5 mv5 hS5 => ?_⟩
    · rw [sb.2 b (fun q : b = Z => hZ (by rw [← q]; exact hb))]
      exact e
    · refine out s5 (Moved.trans W.gtrans ((mv.mono more).then_heap (Nat.le_succ _) fun b o hb e => ?_) mv5) hS5
      rw [sb.2 b (fun q : b = Z => hb (by rw [q]; exact List.mem_cons_self))]
      exact e
end
section
variable {prog : Program} {w : World} {A : Around} {E : Value → Shared → Prop} {s : Shared}
set_option maxHeartbeats 8000000 in
theorem setOfTexts {l : Addr} {its : Array Value} {xs : List Str} {Q : Value → Shared → Prop} (calm : A.handled = none) (tup : s.heap.IsTuple l its) (hi : StrsAre its.toList xs) (hb : xs.length + 1 < scanBound)
    (out : ∀ (h2 : Heap) (k2 : Nat), h2.SetOf (strKind prog w) s.heap.objs.size (fun k => decide (k ∈ xs)) (cntD [] xs) → (∀ b o, s.heap.get? b = some o → h2.get? b = some o) → Q (.ref s.heap.objs.size) { s with heap := h2, toks := k2 }) :
    wpAny (model prog w) A (call (.type "set") [.ref l]) Q E s := by
  have isz : its.size = xs.length := by rw [← StrsAre.len_eq hi, Array.length_toList]
  obtain ⟨mc, mt, hmro⟩ := PySem.F.called_set.mro
  have hmade := PySem.F.called_set.made; have hsub := PySem.F.called_set.sub
  refine wpAny_call (codeAny_of_tree ?_); show wpAny _ _ (callAny (.type "set") _) _ _ _
  refine wpAny_pure ⟨Code.quiet_builtin _ (by decide +kernel), codeAny_builtin PySem.F.entry_type_call ?_⟩; rw [Around.under_plain (weight_type_call_type "set" [.ref l] []) rfl]
  have g1 := PySem.F.called_set.notType; have g2 := PySem.F.called_set.canCreate
  have g3 := PySem.F.typeCall_set_1 (.ref l)
  repeat (any_goals (first | assumption | wp_step))
  refine codeAny_mono (code_set_new_1 (.ref l) (E := E) (Q₁ := fun ob s1 => ∃ led : Bool, ob = .ref s.heap.objs.size ∧ s1 = { s with heap := s.heap.push { cls := .type "set", dict := none, data := .set #[] 0 (.fresh 0 0 led) } }) fun led => ⟨led, rfl, rfl⟩) fun res s1 hres => ?_
  cases res with
  | error ex => exact hres
  | ok fl =>
    cases fl with
    | ret ob =>
      obtain ⟨led, rfl, rfl⟩ := hres
      have setAt : (s.heap.push { cls := .type "set", dict := none, data := .set #[] 0 (.fresh 0 0 led) }).get? s.heap.objs.size = some { cls := .type "set", dict := none, data := .set #[] 0 (.fresh 0 0 led) } := Heap.get?_push_size _ rfl
      have isSet : Shared.TypeIs { s with heap := s.heap.push { cls := .type "set", dict := none, data := .set #[] 0 (.fresh 0 0 led) } } (.ref s.heap.objs.size) "set" := ⟨_, setAt, rfl⟩
      have g4 := PySem.F.called_set.init.lookup
      have g5 := PySem.F.called_set.init.bind (.ref s.heap.objs.size)
      repeat (any_goals (first | assumption | wp_step))
      refine codeAny_mono (codeAny_call_builtin (R := wants (fun r s2 => r = .none ∧ ∃ h2 k2, s2 = { s with heap := h2, toks := k2 } ∧ h2.SetOf (strKind prog w) s.heap.objs.size (fun k => decide (k ∈ xs)) (cntD [] xs) ∧ (∀ b o, s.heap.get? b = some o → h2.get? b = some o)) E)
        PySem.F.called_set.init.plain PySem.F.entry_set_init (check_set_init_1 isSet ?_)) fun r2 s2 hr2 => ?_
      · obtain ⟨⟨oc, od, odt, osl⟩, hol, hcl, nl, hdl⟩ := tup
        simp only at hcl hdl
        subst hcl; subst hdl
        have hol2 : (s.heap.push { cls := .type "set", dict := none, data := .set #[] 0 (.fresh 0 0 led) }).get? l = some { cls := .type "tuple", dict := od, data := .seq its nl, slots := osl } := Heap.get?_push_of_some _ hol
        have q1 := PySem.F.sub_tuple_set; have q2 := PySem.F.sub_tuple_frozenset
        have q3 : (Value.type "tuple" == Value.type "dict") = false := by decide
        have tup1 : (s.heap.push { cls := .type "set", dict := none, data := .set #[] 0 (.fresh 0 0 led) }).IsTuple l its := ⟨_, hol2, rfl, nl, rfl⟩
        unfold Builtin.«set.__init__» noKeywords Builtin.Frozenset.updateFrom; generalize hPI : pyIter = PI
        wp_walk
        subst hPI
        refine wpAny_pyIter_tuple tup1 (wpAny_bind (wpAny_runValue ?_))
        have ls : l < s.heap.objs.size := Heap.lt_size hol
        have calm3 : A.in1.in1.in1.handled = none := by simp [calm]
        have sz1 : (s.heap.push { cls := .type "set", dict := none, data := .set #[] 0 (.fresh 0 0 led) }).objs.size = s.heap.objs.size + 1 := Heap.size_push ..
        have apart : l ≠ (s.heap.push { cls := .type "set", dict := none, data := .set #[] 0 (.fresh 0 0 led) }).objs.size := by rw [sz1]; exact Nat.ne_of_lt (Nat.lt_succ_of_lt ls)
        have notIn : s.heap.objs.size ∉ [(s.heap.push { cls := .type "set", dict := none, data := .set #[] 0 (.fresh 0 0 led) }).objs.size, l] := by
          rw [sz1]; simp only [List.mem_cons, List.not_mem_nil, or_false, not_or]
          exact ⟨Nat.ne_of_lt (Nat.lt_succ_self _), Nat.ne_of_gt ls⟩
        have vals : ∀ (i : Nat) (v : Value), its[i]? = some v → ∃ z t, xs[i]? = some z ∧ v = .str z t := fun i v hv => by
          have hl : i < xs.length := by rw [← isz]; exact (Array.getElem?_eq_some_iff.mp hv).1
          obtain ⟨t, e⟩ := SS.strs_at hi i v (by rw [Array.getElem?_toList]; exact hv)
          exact ⟨xs[i], t, List.getElem?_eq_getElem hl, by rw [e, List.getD_eq_getElem?_getD, List.getElem?_eq_getElem hl]; rfl⟩
        have set0 : ((s.heap.push { cls := .type "set", dict := none, data := .set #[] 0 (.fresh 0 0 led) }).push { cls := .type "tuple_iterator", data := .fields #[.ref l, .int 0 0] }).get? s.heap.objs.size = some { cls := .type "set", dict := none, data := .set #[] 0 (.fresh 0 0 led) } := Heap.get?_push_of_some _ setAt
        refine fillTexts ((Walks.tuple calm3 _ l apart its).toS) s.heap.objs.size notIn xs isz hb vals (fun _ _ _ _ _ => True.intro) (its.size - 0) 0 0 _ (by omega) (Nat.zero_le _) ⟨⟨_, Heap.get?_push_size _ rfl, rfl, rfl⟩, tup1.push _⟩
          (SetOf_congr ((setObjOf_fresh (knd := strKind prog w) led).setOf set0 (by unfold scanBound; omega)) (fun _ => by simp) rfl) (by simp) (Nat.le_refl _) fun s5 mv hS5 => ?_
        obtain ⟨h5, gn5, dr5, tk5, os5⟩ := s5
        obtain rfl : gn5 = s.gens := mv.gens
        obtain rfl : dr5 = s.drawn := mv.drawn
        obtain rfl : os5 = s.os := mv.os
        show wpAny _ _ _ _ _ _
        refine wpAny_pure ?_; show wpAny _ _ (ret Value.none) _ _ _
        refine wpAny_pure ⟨rfl, h5, tk5, rfl, hS5, fun b o ho => ?_⟩
        have b0 : b < s.heap.objs.size := Heap.lt_size ho
        refine mv.heap b o ?_ (Heap.get?_push_of_some _ (Heap.get?_push_of_some _ ho))
        rw [sz1]; simp only [List.mem_cons, List.not_mem_nil, or_false, not_or]
        exact ⟨Nat.ne_of_lt b0, Nat.ne_of_lt (Nat.lt_succ_of_lt b0)⟩
      · cases r2 with
        | error ex => exact hr2
        | ok fl2 =>
          cases fl2 with
          | ret r =>
            obtain ⟨rfl, h2, k2, rfl, hS2, hk2⟩ := hr2
            repeat (any_goals (first | assumption | wp_step))
            exact out _ _ hS2 hk2
          | _ => exact hr2.elim
    | _ => exact hres.elim
end
/-- len(set(t)), t a tuple of texts -/
def lenSetD (d : D) : M D := fun st => match d with
  | .tup ds => match strsOf ds with
    | some xs => if xs.length ≤ 20 then .ok (.int (cntD [] xs)) st else .stuck
    | none => .stuck
  | _ => .stuck
theorem de_lenSet {X : Cx} {ca : Nat → Addr} {E : XK} {e : Expr} {f : En → M D} {p p2 q pos : Pos} (hg : Gl X "len") (hg2 : Gl X "set") (hm : X.mg "len" = none) (hc : X.calm = true) (hm2 : X.mg "set" = none) (ha : DE ca E X e f)
    (na : starEach [e] X.env = (false, eval e X.env) :: starEach [] X.env := by rfl) (nb : starEach [.Call (.Name "set" p2) [e] [] q] X.env = (false, eval (.Call (.Name "set" p2) [e] [] q) X.env) :: starEach [] X.env := by rfl) :
    DE ca E X (.Call (.Name "len" p) [.Call (.Name "set" p2) [e] [] q] [] pos) (eUn lenSetD f) := by
  obtain ⟨t, pe, ge⟩ := ha.ex
  have core : PE X (.Call (.Name "len" p) [.Call (.Name "set" p2) [e] [] q] [] pos) (fun σ H Q => t σ H fun x H1 => ∃ l, ∃ xs : List Str, x = .ref l ∧ SqT X.K H1 l (xs.map V.str) ∧ xs.length ≤ 20 ∧ Q (.int (cntD [] xs)) H1) := by
    refine ⟨fun pins s σ H Q I h => Call_ (ld_blt I hg hm PySem.boot_len ?_)⟩
    refine PyProof.Rows.callWith_builtin1 (PyProof.Rows.args_cons ?_ rfl) nb rfl
    refine Call_ (ld_blt I hg2 hm2 boot_set (PyProof.Rows.callWith_type1 (PyProof.Rows.args_cons (thn (pe.run pins s σ H _ I h) ?_) na) na rfl))
    rintro v s1 ⟨x, H1, I1, r1, l, xs, rfl, hq, hl, q1⟩
    refine PyProof.Rows.args_nil ?_
    cases r1
    obtain ⟨its, r, pl, hz⟩ := I1.tuple hq
    refine setOfTexts (I1.ok.hd hc) pl (by simpa using strsAre_of r) (by unfold scanBound; omega) fun h2 k2 hS hk => PyProof.Rows.args_nil ?_
    obtain ⟨o, es, ep, tb, ho, hex, hd, _, _, _, hf, hn⟩ := hS
    have I2 : Inv X pins σ H1 { s1 with heap := h2, toks := k2 } := I1.kept hk
    have := cntD_le xs []
    exact call_len_set ho hex hd hf (by rw [hn]; omega) ⟨.int _, H1, I2.tok _, ⟨_, by rw [hn]⟩, q1⟩
  refine ⟨_, core, fun σ H Q ρ st μ re s h => ?_⟩
  refine ge.bind re s h fun d st1 μ1 H1 x e1 s1 r1 re1 h1 => ?_
  unfold lenSetD at h1
  cases d <;> first | exact elimP h1 | skip
  rename_i ds
  simp only at h1
  split at h1
  · rename_i xs hxs
    split at h1
    · rename_i hl
      obtain ⟨a, vs, rfl, g1, g2⟩ := rep_tup.mp r1
      have e := strs_rep hxs g2
      subst e
      exact ⟨a, xs, rfl, g1.sq, hl, (h1 : KV X.K ca μ H Q _ _) μ1 H1 _ e1 s1 (rep_int.mpr rfl)⟩
    · exact elimP h1
  · exact elimP h1
end DL

set_option Elab.async false
set_option linter.all false
set_option maxRecDepth 100000
set_option maxHeartbeats 4000000
namespace DL
open PySem L2 PySem.Spec PyProof.Rows
theorem boot_isi : bootBuiltins "isinstance" = some (.builtin "isinstance") := by decide +kernel
theorem boot_str : bootBuiltins "str" = some (.type "str") := by decide +kernel
theorem boot_int : bootBuiltins "int" = some (.type "int") := by decide +kernel
theorem boot_bool : bootBuiltins "bool" = some (.type "bool") := by decide +kernel
theorem boot_tuple : bootBuiltins "tuple" = some (.type "tuple") := by decide +kernel
theorem boot_list : bootBuiltins "list" = some (.type "list") := by decide +kernel
theorem boot_all : bootBuiltins "all" = some (.builtin "all") := by decide +kernel
theorem boot_any : bootBuiltins "any" = some (.builtin "any") := by decide +kernel
theorem boot_min : bootBuiltins "min" = some (.builtin "min") := by decide +kernel
theorem boot_len : bootBuiltins "len" = some (.builtin "len") := by decide +kernel
def opIsB (x y : D) : M D := fun st => match x, y with
  | .bl a, .bl b => .ok (.bl (decide (a = b))) st
  | _, _ => .stuck
def opNotB (x y : D) : M D := fun st => match x, y with
  | .bl a, .bl b => .ok (.bl (!decide (a = b))) st
  | _, _ => .stuck
theorem dop_isB {X : Cx} {ca : Nat → Addr} : DOp ca X (compareOp .Is) opIsB := by
  refine ⟨_, op_isBl, fun E x y H Q d e st μ rx ry s h => ?_⟩
  cases d <;> cases e <;> first | exact elimP h | skip
  rw [rep_bl] at rx ry
  exact ⟨_, _, rx, ry, h μ H _ .refl s (rep_bl.mpr rfl)⟩
theorem dop_notB {X : Cx} {ca : Nat → Addr} : DOp ca X (compareOp .IsNot) opNotB := by
  refine ⟨_, op_notBl, fun E x y H Q d e st μ rx ry s h => ?_⟩
  cases d <;> cases e <;> first | exact elimP h | skip
  rw [rep_bl] at rx ry
  exact ⟨_, _, rx, ry, h μ H _ .refl s (rep_bl.mpr rfl)⟩
def opNeg (x : D) : M D := fun st => match x with
  | .int i => .ok (.int (-i)) st
  | _ => .stuck
theorem dun_neg {X : Cx} {ca : Nat → Addr} : DUn ca X (unaryOp .USub) opNeg := by
  refine ⟨_, un_neg, fun E x H Q d st μ rx s h => ?_⟩
  cases d <;> first | exact elimP h | skip
  rw [rep_int] at rx
  exact ⟨_, rx, h μ H _ .refl s (rep_int.mpr rfl)⟩
theorem fn_none {P : Program} {w : World} {K : PySem.W.Frag} {mg : Str → Option Value} {base : Heap} {ca : Nat → Addr} {k : Nat} {f : Addr} {fd : FuncData} {ps : List Str} {m : List D → M D} (h : ∀ ds st, m ds st = .stuck) :
    FnOk P w K mg base (L2.CX P w) k f fd ps (spD K ca m) := by
  have no : ∀ vs H Q E, ¬ spD K ca m vs H Q E := fun vs H Q E ⟨ds, st, μ, _, _, p⟩ => by rw [h] at p; exact p
  exact ⟨fun vs H Q E z => absurd z (no vs H Q E), fun A outer s H args us vs Q E _ _ _ _ z => absurd z (no vs H Q E)⟩
def gSite (ds zs : List D) : List D := ds ++ zs
theorem gSite_rep {K : PySem.W.Frag} : ∀ μ H ds zs vs ws, RepL K μ H ds vs → RepL K μ H zs ws → RepL K μ H (gSite ds zs) (vs ++ ws) := fun _ _ _ _ _ _ h q => h.append q
def gItT (i j l : Nat) : Item → En → M En := fun it ρ => match it with
  | .one (.tup [d, e, f]) => pure (((ρ.set i (some d)).set j (some e)).set l (some f))
  | _ => stuck
theorem RepL.tri {K : PySem.W.Frag} {μ : List Addr} {H : Hp} {d e f : D} {vs : List V} (h : RepL K μ H [d, e, f] vs) : ∃ v w u, vs = [v, w, u] ∧ Rep K μ H d v ∧ Rep K μ H e w ∧ Rep K μ H f u := by
  obtain ⟨v, r, rfl, h1, h2⟩ := repL_cons.mp h
  obtain ⟨w, u, rfl, h3, h4⟩ := h2.pair
  exact ⟨v, w, u, rfl, h1, h3, h4⟩
section
variable {X : Cx} {ca : Nat → Addr} {E : XK} {vs : List Nat} {pos : Pos}
theorem dgi_tri {j l m k : Nat} {x y z : Str} {px py pz : Pos} (hv : j ∈ vs) (hw : l ∈ vs) (hu : m ∈ vs) (hc : X.calm = true) (hN : X.N.Nodup) (hi : X.N[j]? = some x := by rfl) (hx : Loc X.env.scope x := by first | exact .inl rfl | exact .inr rfl) (hf : X.fn x = true ∨ X.env.scope.names.lookup x = some .local := by first | exact .inl rfl | exact .inr rfl)
    (hj : X.N[l]? = some y := by rfl) (hy : Loc X.env.scope y := by first | exact .inl rfl | exact .inr rfl) (hf' : X.fn y = true ∨ X.env.scope.names.lookup y = some .local := by first | exact .inl rfl | exact .inr rfl)
    (hk : X.N[m]? = some z := by rfl) (hz : Loc X.env.scope z := by first | exact .inl rfl | exact .inr rfl) (hf'' : X.fn z = true ∨ X.env.scope.names.lookup z = some .local := by first | exact .inl rfl | exact .inr rfl)
    (hn : (assignEach [.Name x px, .Name y py, .Name z pz] X.env).length = 3 := by rfl) (hst : (assignEach [.Name x px, .Name y py, .Name z pz] X.env).findIdx? (·.1) = none := by rfl)
    (hs1 : (assignEach [.Name x px, .Name y py, .Name z pz] X.env).map (·.2) = assign (.Name x px) X.env :: (assignEach [.Name y py, .Name z pz] X.env).map (·.2) := by rfl) (hs2 : (assignEach [.Name y py, .Name z pz] X.env).map (·.2) = assign (.Name y py) X.env :: (assignEach [.Name z pz] X.env).map (·.2) := by rfl) (hs3 : (assignEach [.Name z pz] X.env).map (·.2) = assign (.Name z pz) X.env :: (assignEach [] X.env).map (·.2) := by rfl) :
    DGI ca E vs X (.Tuple [.Name x px, .Name y py, .Name z pz] k pos) (gItT j l m) := by
  refine ⟨_, pg_tup hc (pgs_cons (pg_name hN hi hx hf) (pgs_cons (pg_name hN hj hy hf') (pgs_cons (pg_name hN hk hz hf'') pgs_nil hs3) hs2) hs1) hn hst, fun σ H Q it x H1 ρ st μ y re s h => ?_⟩
  unfold gItT at h
  split at h
  · rename_i d e f
    obtain ⟨rfl, rv⟩ := y
    obtain ⟨a, us, rfl, h1, h2⟩ := rep_tup.mp rv
    obtain ⟨v, w, u, rfl, g1, g2, g3⟩ := h2.tri
    refine ⟨a, [v, w, u], rfl, h1.sq, rfl, v, [w, u], rfl, w, [u], rfl, u, [], rfl, rfl, ?_⟩
    exact (Post.pure.mp h) μ _ _ .refl s (((re.set j g1).set l g2).set m g3) (by rw [wipe_set hu, wipe_set hw, wipe_set hv])
  · exact elimP h
end
/-! range(i, j, c) -/
def itRange3 (fa : En → M (List D)) : En → M ItD := fun ρ => do
  match ← fa ρ with
  | [.int i, .int j, .int c] => if c ≠ 0 ∧ c.natAbs < 1073741824 ∧ Builtin.Range.small i j c = true ∧ 0 ≤ Builtin.Range.rangeSize i j c then pure ⟨(List.range (Builtin.Range.rangeSize i j c).toNat).map fun (k : Nat) => Item.one (D.int (i + (k : Int) * c)), fun _ => true⟩ else stuck
  | _ => stuck
section
variable {X : Cx} {ca : Nat → Addr} {E : XK} {tg : Expr} {p pos : Pos}
theorem di_range3 {a b c : Expr} {fa : En → M (List D)} (hg : Gl X "range") (hm : X.mg "range" = none) (h : DA ca E X [a, b, c] fa)
    (hs : starEach [a, b, c] X.env = (false, eval a X.env) :: starEach [b, c] X.env := by rfl) (hpl : (backTo pos (starEach [b, c] X.env)).any (·.1) = false := by rfl) : DI ca E X tg (.Call (.Name "range" p) [a, b, c] [] pos) (itRange3 fa) := by
  obtain ⟨t, pe, ge⟩ := h.ex
  refine ⟨_, pi_range3 hg hm pe hs hpl, fun σ H R ρ st μ re s h => ?_⟩
  refine ge.bind re s h fun ds st1 μ1 H1 xs e1 s1 r1 re1 h1 => ?_
  split at h1
  · rename_i i j c
    split at h1
    · rename_i hn
      obtain ⟨v, w, u, rfl, g1, g2, g3⟩ := r1.tri
      refine ⟨i, j, c, (Builtin.Range.rangeSize i j c).toNat, by rw [rep_int.mp g1, rep_int.mp g2, rep_int.mp g3], ⟨hn.1, hn.2.1, hn.2.2.1, (Int.toNat_of_nonneg hn.2.2.2).symm⟩, (Post.pure.mp h1) (Itc i c (Builtin.Range.rangeSize i j c).toNat) μ1 H1 e1 s1 ?_⟩
      intro μ2 H2 st2 e2 s2 _
      refine ⟨fun k it hj => ?_, by show (Builtin.Range.rangeSize i j c).toNat ≤ _; rw [List.length_map, List.length_range]; exact Nat.le_refl _⟩
      rw [List.getElem?_map] at hj
      cases hd : (List.range (Builtin.Range.rangeSize i j c).toNat)[k]? with
      | none => rw [hd] at hj; cases hj
      | some d =>
        rw [hd] at hj; cases hj
        obtain ⟨hl, rfl⟩ := List.getElem?_eq_some_iff.mp hd
        have hl' : k < (Builtin.Range.rangeSize i j c).toNat := by simpa using hl
        refine ⟨hl', fun x H3 y => ⟨y.1, ?_⟩⟩
        rw [rep_int, y.2]
        simp
    · exact elimP h1
  · exact elimP h1
end
/-! defs with defaults -/
def BindsD (K : PySem.W.Frag) (fd : FuncData) (ps : List Str) (dds : List D) : Prop := ∃ (dvs : List V) (ds : List Value), Vals dvs ds ∧ Binds K fd ps ds ∧ ∀ μ H, RepL K μ H dds dvs
theorem de_callD {X : Cx} {ca : Nat → Addr} {E : XK} {CX : CXT} {k : Nat} {f : Addr} {fd : FuncData} {ps : List Str} {m : List D → M D} {dds : List D} {x : Str} {p pos : Pos} {e : Expr} {es : List Expr} {fa : En → M (List D)} (F : FnOk X.prog X.w X.K X.mg X.base CX k f fd ps (spD X.K ca m)) (hr : Room k X.A) (hg : Gl X x) (hm : X.mg x = some (.ref f)) (hk : PySem.W.keepIn X.K (.ref f) = true) (hb : BindsD X.K fd ps dds) (hx : Passes CX X E)
    (ha : DA ca E X (e :: es) fa) (hdb : (x == ("__debug__" : Str)) = false := by decide) (he : starEach (e :: es) X.env = (false, eval e X.env) :: starEach es X.env := by rfl) (hpl : (backTo pos (starEach es X.env)).any (·.1) = false := by rfl) :
    DE ca E X (.Call (.Name x p) (e :: es) [] pos) (eCall (fun ds => m (ds ++ dds)) fa) := by
  obtain ⟨dvs, ds, h1, h2, h3⟩ := hb
  exact de_call F hr hg hm hk h2 h1 h3 hx ha hdb he hpl
theorem fn_okDd {P : Program} {w : World} {K : PySem.W.Frag} {mg : Str → Option Value} {base : Heap} {ca : Nat → Addr} {x qual : Str} {st : Stmt} {f : Addr} {fd : FuncData} {N ps : List Str} {k : Nat} {body : En → M Ctl} {dvs : List V} {kws : List (Str × V)} (F : FunD K x qual (defArgs st) (defBody st) (defScope st) dvs kws f fd) (S : FnScope N ps (defScope st))
    (hb : ∀ (cdv : Value) (A : Around) (outer : List Env) (s : Shared) (H : Hp) (E : XK), Room k (A.deeper (envOfC qual (defScope st) s.heap.objs.size f cdv)) →
      DSs ca E (cxOf (L2.CX P w) P w K mg base N qual (defScope st) f cdv A outer s H E) (defBody st) body) : FnOk P w K mg base (L2.CX P w) (k + 1) f fd ps (spD K ca (fnM ps.length N.length body)) := by
  refine F.ok S (fun vs H Q E h => ?_) fun cdv A outer s H vs Q E hr h => ?_
  · obtain ⟨ds, st', μ, r, s, p⟩ := h
    rw [r.length]
    unfold fnM at p
    split at p
    · rename_i e; exact e
    · exact p.elim
  · obtain ⟨t, ht, g⟩ := (hb cdv A outer s H E hr).ex
    refine ⟨t, ht, ?_⟩
    obtain ⟨ds, st', μ, r, s', p⟩ := h
    unfold fnM at p
    split at p
    · rename_i e
      refine g _ H _ _ st' μ (envR_start r _ N (by rw [r.length, e])) s' ((Post.bind.mp p).imp fun c st1 q => ?_)
      intro μ1 H1 e1 s1
      have q1 := q.mono e1 fun _ _ z => z
      cases c with
      | nx ρ => exact fun σ _ => (q1 : KV K ca μ H Q .non st1) μ1 H1 _ e1 s1 (rep_non.mpr rfl)
      | rt d => exact fun v rv => (q1 : KV K ca μ H Q d st1) μ1 H1 v e1 s1 rv
      | bk ρ => exact q1.elim
      | ct ρ => exact q1.elim
    · exact p.elim
end DL

set_option Elab.async false
set_option linter.all false
set_option maxRecDepth 100000
set_option maxHeartbeats 4000000
namespace DL
open PySem L2 PySem.Spec PyProof.Rows
/-! a walk's target of any number of names -/
def setAll (ρ : En) : List Nat → List D → En
  | i :: is, d :: ds => setAll (ρ.set i (some d)) is ds
  | _, _ => ρ
def gItN (is : List Nat) : Item → En → M En := fun it ρ => match it with
  | .one (.tup ds) => if ds.length = is.length then pure (setAll ρ is ds) else stuck
  | _ => stuck
structure DGN (ca : Nat → Addr) (vs : List Nat) (X : Cx) (es : List Expr) (is : List Nat) : Prop where
  ex : ∃ t, PGs X es t ∧ ∀ σ H Q us ds ρ st μ, RepL X.K μ H ds us → ds.length = is.length → EnvR X.K μ H ρ σ → Sim X.K ca μ st H → (∀ σ', EnvR X.K μ H (setAll ρ is ds) σ' → wipe σ' vs = wipe σ vs → Q σ' H) → t us σ H Q
section
variable {X : Cx} {ca : Nat → Addr} {E : XK} {vs is : List Nat} {pos : Pos} {es : List Expr}
theorem dgn_nil : DGN ca vs X [] [] := by
  refine ⟨_, pgs_nil, fun σ H Q us ds ρ st μ r hl re s h => ?_⟩
  obtain rfl : ds = [] := List.length_eq_zero_iff.mp hl
  exact ⟨repL_nil.mp r, h σ re rfl⟩
theorem dgn_cons {j : Nat} {x : Str} (hv : j ∈ vs) (hN : X.N.Nodup) (hr : DGN ca vs X es is) (hi : X.N[j]? = some x := by rfl) (hx : Loc X.env.scope x := by first | exact .inl rfl | exact .inr rfl) (hf : X.fn x = true ∨ X.env.scope.names.lookup x = some .local := by first | exact .inl rfl | exact .inr rfl)
    (hs : (assignEach (.Name x pos :: es) X.env).map (·.2) = assign (.Name x pos) X.env :: (assignEach es X.env).map (·.2) := by rfl) : DGN ca vs X (.Name x pos :: es) (j :: is) := by
  obtain ⟨t, p, g⟩ := hr.ex
  refine ⟨_, pgs_cons (pg_name hN hi hx hf) p hs, fun σ H Q us ds ρ st μ r hl re s h => ?_⟩
  cases ds with
  | nil => simp at hl
  | cons d ds =>
    obtain ⟨v, w, rfl, r1, r2⟩ := repL_cons.mp r
    refine ⟨v, w, rfl, ?_⟩
    refine g _ H Q w ds _ st μ r2 (by simpa using hl) (re.set j r1) s fun σ' re' hw => ?_
    exact h σ' re' (hw.trans (wipe_set hv))
theorem dgi_tupN {k n : Nat} (hc : X.calm = true) (h : DGN ca vs X es is) (hn : (assignEach es X.env).length = n := by rfl) (hst : (assignEach es X.env).findIdx? (·.1) = none := by rfl) (hl : is.length = n := by rfl) :
    DGI ca E vs X (.Tuple es k pos) (gItN is) := by
  obtain ⟨t, p, g⟩ := h.ex
  refine ⟨_, pg_tup hc p hn hst, fun σ H Q it x H1 ρ st μ y re s hh => ?_⟩
  unfold gItN at hh
  split at hh
  · rename_i ds
    obtain ⟨rfl, rv⟩ := y
    obtain ⟨a, us, rfl, h1, h2⟩ := rep_tup.mp rv
    split at hh
    · rename_i e
      refine ⟨a, us, rfl, h1.sq, by rw [h2.length, e, hl], g σ _ Q us ds ρ st μ h2 e re s fun σ' re' hw => ?_⟩
      exact (Post.pure.mp hh) μ _ _ .refl s re' hw
    · exact elimP hh
  · exact elimP hh
end
end DL

set_option Elab.async false
set_option linter.all false
set_option maxRecDepth 100000
set_option maxHeartbeats 4000000
namespace DL
open PySem L2 PySem.Spec PyProof.Rows

/-! ### an own exception class: its __init__ puts its parameters into its fields -/
/-- the tracked heap behind the __init__ of the exception at a -/
def xFin (H : Hp) (a C dx : Addr) : List (Str × V) → Hp
  | [] => H
  | [p] => upd (upd H dx (exd dx [p])) a (exo a C (some dx))
  | p :: q :: r => upd (xFin H a C dx (q :: r)) dx (exd dx (p :: q :: r))
theorem xFin_dx {H : Hp} {a C dx : Addr} (hne : dx ≠ a) : ∀ {fs : List (Str × V)}, fs ≠ [] → xFin H a C dx fs dx = some (exd dx fs)
  | [], h => absurd rfl h
  | [p], _ => by show upd _ a _ dx = _; rw [upd_ne hne, upd_same]
  | p :: q :: r, _ => upd_same
theorem xFin_a {H : Hp} {a C dx : Addr} (hne : dx ≠ a) : ∀ {fs : List (Str × V)}, fs ≠ [] → xFin H a C dx fs a = some (exo a C (some dx))
  | [], h => absurd rfl h
  | [p], _ => upd_same
  | p :: q :: r, _ => by show upd _ dx _ a = _; rw [upd_ne (Ne.symm hne)]; exact xFin_a hne (by simp)
theorem xFin_ne {H : Hp} {a C dx b : Addr} (h1 : b ≠ a) (h2 : b ≠ dx) : ∀ {fs : List (Str × V)}, xFin H a C dx fs b = H b
  | [] => rfl
  | [p] => by show upd _ a _ b = _; rw [upd_ne h1, upd_ne h2]
  | p :: q :: r => by show upd _ dx _ b = _; rw [upd_ne h2]; exact xFin_ne h1 h2
/-- what such an __init__ keeps -/
def spX (C : Addr) (ns : List Str) : Sp := fun vs H Q _ => ∃ a ys, vs = V.ref a :: ys ∧ ys.length = ns.length ∧ H a = some (exo a C none) ∧ ∀ dx, H dx = none → dx ≠ a → Q .non (xFin H a C dx (ns.zip ys).reverse)
section
variable {P : Program} {w : World} {K : PySem.W.Frag} {mg : Str → Option Value} {base : Heap} {x qual : Str} {st : Stmt} {f C : Addr} {fd : FuncData} {k : Nat} {p0 p1 p2 n1 n2 : Str}
theorem fn_x1 (F : Fun K x qual st f fd) (S : FnScope [p0, p1] [p0, p1] (defScope st)) (T : OexC K C) (h1 : PySem.W.findIn K (.ref C) n1 = some none)
    (hb : ∀ (cdv : Value) (A : Around) (outer : List Env) (s : Shared) (H : Hp) (E : XK), PSs (cxOf (L2.CX P w) P w K mg base [p0, p1] qual (defScope st) f cdv A outer s H E) (defBody st) (tOst K n1 (tVar 0) (tVar 1))) :
    FnOk P w K mg base (L2.CX P w) (k + 1) f fd [p0, p1] (spX C [n1]) := by
  refine F.okX S (fun vs H Q E h => ?_) fun cdv A outer s H vs Q E hr h => ⟨_, hb cdv A outer s H E, ?_⟩
  · obtain ⟨a, ys, rfl, hl, _⟩ := h
    simp only [List.length_cons] at hl ⊢
    rw [hl]
  · obtain ⟨a, ys, rfl, hl, ha, hq⟩ := h
    obtain ⟨y, rfl⟩ : ∃ y, ys = [y] := match ys, hl with | [y], _ => ⟨y, rfl⟩
    exact ⟨y, rfl, .ref a, rfl, a, C, rfl, T, h1, .inl ⟨ha, fun dx e1 e2 => hq dx e1 e2⟩⟩
theorem fn_x2 (F : Fun K x qual st f fd) (S : FnScope [p0, p1, p2] [p0, p1, p2] (defScope st)) (T : OexC K C) (h1 : PySem.W.findIn K (.ref C) n1 = some none) (h2 : PySem.W.findIn K (.ref C) n2 = some none)
    (hb : ∀ (cdv : Value) (A : Around) (outer : List Env) (s : Shared) (H : Hp) (E : XK), PSs (cxOf (L2.CX P w) P w K mg base [p0, p1, p2] qual (defScope st) f cdv A outer s H E) (defBody st) (tSeq (tOst K n1 (tVar 0) (tVar 1)) (tOst K n2 (tVar 0) (tVar 2)))) :
    FnOk P w K mg base (L2.CX P w) (k + 1) f fd [p0, p1, p2] (spX C [n1, n2]) := by
  refine F.okX S (fun vs H Q E h => ?_) fun cdv A outer s H vs Q E hr h => ⟨_, hb cdv A outer s H E, ?_⟩
  · obtain ⟨a, ys, rfl, hl, _⟩ := h
    simp only [List.length_cons] at hl ⊢
    rw [hl]
  · obtain ⟨a, ys, rfl, hl, ha, hq⟩ := h
    obtain ⟨y, z, rfl⟩ : ∃ y z, ys = [y, z] := match ys, hl with | [y, z], _ => ⟨y, z, rfl⟩
    refine ⟨y, rfl, .ref a, rfl, a, C, rfl, T, h1, .inl ⟨ha, fun dx e1 e2 => ?_⟩⟩
    refine ⟨z, rfl, .ref a, rfl, a, C, rfl, T, h2, .inr ⟨dx, [(n1, y)], upd_same, ?_, by simp, hq dx e1 e2⟩⟩
    rw [upd_ne e2, upd_same]
end

/-! ### raise -/
def raiseN (c : Nat) (ns : List Str) (ds : List D) : M Ctl := fun st => if ds.length = ns.length then .raise c (some (ns.zip ds).reverse) st else .stuck
def sRaise (c : Nat) (ns : List Str) (fa : En → M (List D)) : En → M Ctl := fun ρ => do
  let ds ← fa ρ
  raiseN c ns ds
theorem repF_app {K : PySem.W.Frag} {μ : List Addr} {H : Hp} : ∀ {fs gs : List (Str × D)} {us ws : List (Str × V)}, RepF K μ H fs us → RepF K μ H gs ws → RepF K μ H (fs ++ gs) (us ++ ws)
  | [], _, us, ws, h, q => by cases h; exact q
  | (n, d) :: fs, _, us, ws, h, q => by
    obtain ⟨v, r, rfl, h1, h2⟩ := h
    exact ⟨v, _, rfl, h1, repF_app h2 q⟩
theorem repF_rev {K : PySem.W.Frag} {μ : List Addr} {H : Hp} : ∀ {fs : List (Str × D)} {us : List (Str × V)}, RepF K μ H fs us → RepF K μ H fs.reverse us.reverse
  | [], us, h => by cases h; exact rfl
  | (n, d) :: fs, us, h => by
    obtain ⟨v, r, rfl, h1, h2⟩ := h
    rw [List.reverse_cons, List.reverse_cons]
    exact repF_app (repF_rev h2) ⟨v, [], rfl, h1, rfl⟩
theorem repF_zip {K : PySem.W.Frag} {μ : List Addr} {H : Hp} : ∀ (ns : List Str) {ds : List D} {vs : List V}, RepL K μ H ds vs → RepF K μ H (ns.zip ds) (ns.zip vs)
  | [], _, _, _ => rfl
  | n :: ns, [], vs, h => by rw [repL_nil] at h; subst h; exact rfl
  | n :: ns, d :: ds, vs, h => by
    obtain ⟨v, r, rfl, h1, h2⟩ := repL_cons.mp h
    exact ⟨v, _, rfl, h1, repF_zip ns h2⟩
section
variable {X : Cx} {ca : Nat → Addr} {E : XK} {pos p pos' : Pos} {e : Expr} {es : List Expr} {fa : En → M (List D)}
theorem ds_raise {c k : Nat} {ns : List Str} {x : Str} {fI : Addr} {fd : FuncData} {ps : List Str} (hc : X.calm = true) (tk : Takes X (fun cls d _ H => E cls d H)) (T : OexC X.K (ca c)) (iC : PySem.W.findIn X.K (.ref (ca c)) "__init__" = some (some (.ref fI)))
    (tI : PySem.W.typeIn X.K (.ref fI) = some (.type "function")) (F1 : FnOk X.prog X.w X.K X.mg X.base (L2.CX X.prog X.w) k fI fd ps (spX (ca c) ns)) (hr : Room (k + 1) X.A) (hb : Binds X.K fd ps []) (hg : Gl X x) (hm : X.mg x = some (.ref (ca c))) (hne : ns ≠ [] ∧ ns.length ≤ 100) (ha : DA ca E X (e :: es) fa)
    (hdb : (x == ("__debug__" : Str)) = false := by decide) (he : starEach (e :: es) X.env = (false, eval e X.env) :: starEach es X.env := by rfl) (hpl : (backTo pos (starEach es X.env)).any (·.1) = false := by rfl) :
    DS ca E X (.Raise (some (.Call (.Name x p) (e :: es) [] pos)) none pos') (sRaise c ns fa) := by
  obtain ⟨t, pa, ga⟩ := ha.ex
  refine ⟨_, ps_raise hc tk (pmk_oex T iC tI F1 hr hb .nil passL hg hm pa hdb he hpl), fun σ H Q ρ st μ re s h => ?_⟩
  refine ga.bind re s h fun ds st1 μ1 H1 vs e1 s1 r1 re1 h1 => ?_
  unfold raiseN at h1
  split at h1
  · rename_i hl
    have hvl : vs.length = ns.length := by rw [r1.length]; exact hl
    refine ⟨by rw [hvl]; have := hne.2; omega, fun a ha => ⟨a, vs ++ [], rfl, by simpa using hvl, upd_same, fun dx hdx hda => ?_⟩⟩
    rw [List.append_nil]
    have hd1 : H1 dx = none := by rw [upd_ne hda] at hdx; exact hdx
    have hfs : (ns.zip vs).reverse ≠ [] := by
      intro z
      have : ((ns.zip vs).reverse).length = 0 := by rw [z]; rfl
      rw [List.length_reverse, List.length_zip, hvl] at this
      exact hne.1 (List.length_eq_zero_iff.mp (by omega))
    refine ⟨rfl, dx, (ns.zip vs).reverse, xFin_a hda hfs, xFin_dx hda hfs, hd1, ?_⟩
    have eq : upd (del (xFin (upd H1 a (exo a (ca c) none)) a (ca c) dx (ns.zip vs).reverse) a) dx (.xd (ns.zip vs).reverse) = upd H1 dx (.xd (ns.zip vs).reverse) := by
      funext b
      by_cases hb : b = dx
      · rw [hb, upd_same, upd_same]
      · rw [upd_ne hb, upd_ne hb]
        by_cases hba : b = a
        · rw [hba, del_same, ha]
        · rw [del_ne hba, xFin_ne hba hb, upd_ne hba]
    rw [eq]
    have ex : Ext X.K μ1 H1 μ1 (upd H1 dx (.xd (ns.zip vs).reverse)) := .updM (.inl hd1)
    exact h1 μ1 _ (some dx) ex (s1.fresh hd1) ⟨dx, _, rfl, upd_same, (repF_rev (repF_zip ns r1)).mono ex⟩
  · exact h1.elim
end
end DL

set_option Elab.async false
set_option linter.all false
set_option maxRecDepth 100000
set_option maxHeartbeats 4000000
namespace DL
open PySem L2 PySem.Spec PyProof.Rows

/-! ### try: several clauses, each with or without a name -/
abbrev HT' := Addr → Value → Option Addr → TS
def unset (D : Ends) (i : Nat) : Ends :=
  { nx := fun σ' H' => D.nx (σ'.set i none) H', rt := D.rt, bk := fun σ' H' => D.bk (σ'.set i none) H', ct := fun σ' H' => D.ct (σ'.set i none) H' }
def wH (K : PySem.W.Frag) (Wout : WX) (D : Ends) : List (Value × Option Nat × HT') → WX
  | [] => Wout
  | (c, oi, ts) :: r => fun cls d σ H => ∃ b, PySem.W.exmOne K cls c = some b ∧
      (b = true → ∀ a, H a = none → match oi with
        | none => ts a cls d D σ H
        | some i => ts a cls d (unset D i) (σ.set i (some (.ref a))) H) ∧
      (b = false → wH K Wout D r cls d σ H)
abbrev SuiteOk (X : Cx) (ss : List Stmt) (ts : HT') : Prop :=
  ∀ (a : Addr) (oe : Obj) (cls : Value) (d : Option Addr) (pn : List (Addr × Obj)), Zc cls d oe → (∃ vs, oe.data = .fields vs) → PSs (X.suite a ((a, oe) :: pn)) ss (ts a cls d)
inductive HdsA (X : Cx) : List ExceptHandler → List (Value × Option Nat × HT') → Prop
  | nil : HdsA X [] []
  | anon {x : Str} {c : Value} {ts : HT'} {b₀ : Stmt} {ss : List Stmt} {np pos' : Pos} {hds : List ExceptHandler} {l : List (Value × Option Nat × HT')}
      (hc : Names X x c) (hsu : SuiteOk X (b₀ :: ss) ts) (r : HdsA X hds l) : HdsA X (.ExceptHandler (some (.Name x np)) none (b₀ :: ss) pos' :: hds) ((c, none, ts) :: l)
  | named {x n : Str} {i : Nat} {c : Value} {ts : HT'} {b₀ : Stmt} {ss : List Stmt} {np pos' : Pos} {hds : List ExceptHandler} {l : List (Value × Option Nat × HT')}
      (hi : X.N[i]? = some n) (hln : X.env.kindOf n = some .local) (hc : Names X x c) (hsu : SuiteOk X (b₀ :: ss) ts) (r : HdsA X hds l) :
      HdsA X (.ExceptHandler (some (.Name x np)) (some n) (b₀ :: ss) pos' :: hds) ((c, some i, ts) :: l)
section
variable {X : Cx} {body : List Stmt} {h₀ : ExceptHandler} {hds : List ExceptHandler} {l : List (Value × Option Nat × HT')} {pos : Pos} {tb : WX → TS} {Wout : WX}
theorem ps_try_h (hs : X.stack = X.env :: X.outer) (hf : X.env.frame = some X.env.locals) (hN : X.N.Nodup) (tk : Takes X Wout)
    (hb : ∀ (W : WX) (pn : List (Addr × Obj)) (xe : Value → Shared → Prop), Takes (X.tr pn xe) W → PassesOwn (model X.prog X.w) X.A X.env xe → PSs (X.tr pn xe) body (tb W)) (hh : HdsA X (h₀ :: hds) l) :
    PS X (.Try body (h₀ :: hds) [] [] pos) fun D σ H => tb (wH X.K Wout D l) D σ H := by
  refine ⟨fun pins s σ H D I hw => wpAny_Try_except ?_⟩
  have ok := I.ok
  have hfr : X.A.frames = some (X.env :: X.outer) := hs ▸ ok.frames
  let xe0 : Value → Shared → Prop := fun e s1 => wpAny (model X.prog X.w) X.A (noteFrame e X.env) (fun _ s2 => wpAny (model X.prog X.w) X.A (setFlight e none)
      (fun _ s3 => wpAny (model X.prog X.w) X.A (handleBy e X.env (h₀ :: hds)) (SP X pins D) X.xe s3) X.xe s2) X.xe s1
  suffices tk0 : Takes (X.tr (X.pn ++ pins) xe0) (wH X.K Wout D l) by
    refine wpAny_mono ((hb _ (X.pn ++ pins) xe0 tk0 PassesOwn.looking).run [] s σ H D (I.toTry _) hw) (fun fl s1 q => ?_) fun e s1 he => he
    cases fl with
    | next => obtain ⟨σ1, H1, J, q⟩ := q; exact wpAny_execs_nil ⟨σ1, H1, J.ofTry ok, q⟩
    | brk => obtain ⟨σ1, H1, J, q⟩ := q; exact ⟨σ1, H1, J.ofTry ok, q⟩
    | cont => obtain ⟨σ1, H1, J, q⟩ := q; exact ⟨σ1, H1, J.ofTry ok, q⟩
    | ret u => obtain ⟨v, σ1, H1, J, r, q⟩ := q; exact ⟨v, σ1, H1, J.ofTry ok, r, q⟩
  rintro u s' ⟨a, B, sI, p', σ', H', cls, d, rfl, J', nb, up, sky, na, os, ag, hW⟩
  have J := J'.ofTry ok
  rw [show (X.tr (X.pn ++ pins) _).stack = X.env :: X.outer from hs] at sky
  show wpAny (model X.prog X.w) X.A (noteFrame (.ref a) X.env) _ _ _
  refine Sky.land Zc.steady hfr hf sky fun h3 fl3 up3 => ?_
  have J3 : Inv X pins σ' H' { s' with heap := h3 } := J.landed nb fl3.1 (up.trans up3) os ag
  obtain ⟨oe3, vs3, he3, hz3, hd3⟩ := fl3.there
  have notin : a ∉ frs (X.env :: X.outer) := fun hm => by
    obtain ⟨_, o, e, hn⟩ := fl3.2.2.1.mem hm
    rw [he3] at e; cases e; exact hn _ hd3
  have nL : a ≠ X.env.locals := fun z => notin (List.mem_filterMap.mpr ⟨X.env, List.mem_cons_self, z ▸ hf⟩)
  have nF : a ∉ X.fs := fun hm => by
    obtain ⟨e, he, q⟩ := List.mem_filterMap.mp hm
    exact notin (List.mem_filterMap.mpr ⟨e, List.mem_cons_of_mem _ he, q⟩)
  have S3 := J3.suite he3 hd3 na nL nF
  have test : ∀ {x : Str} {c : Value} {np : Pos} {Q : Value → Shared → Prop} {E : Value → Shared → Prop}, Names X x c → Q c { s' with heap := h3 } → wpAny (model X.prog X.w) (X.A.mark (some (.ref a))) (eval (.Name x np) X.env) Q E { s' with heap := h3 } := by
    rintro x c np Q E ⟨hg, hdbg, hm | ⟨hm, hv, hnn⟩⟩ q
    · exact ld_glob (X := X.suite a ((a, oe3) :: (X.pn ++ pins))) S3 hg hm q hdbg
    · exact ld_blt (X := X.suite a ((a, oe3) :: (X.pn ++ pins))) S3 hg hm hv q hnn hdbg
  have LT : PySem.W.Looks (model X.prog X.w) h3 (typeOf (.ref a)) cls := fun A Q E s k q => wpAny_typeOf_ref (k _ _ he3) (hz3.1 ▸ q)
  have go : ∀ {hd : List ExceptHandler} {l' : List (Value × Option Nat × HT')}, HdsA X hd l' → wH X.K Wout D l' cls d σ' H' → wpAny (model X.prog X.w) X.A (handleBy (.ref a) X.env hd) (SP X pins D) X.xe { s' with heap := h3 } := by
    intro hd l' hk
    induction hk with
    | nil =>
      intro w
      refine wpAny_handleBy_nil ?_
      obtain ⟨k1, k2, k3, oe, vs, T, oT, ts', he, hz, hdd, h1, hr⟩ := id fl3
      unfold PySem.passOn
      refine wpAny_bind (wpAny_field he hdd h1 ?_)
      rw [if_neg (by simp : ¬ (Value.ref T == Value.none) = true)]
      have fin : wpAny (model X.prog X.w) X.A (setFlight (.ref a) X.env.frame) (fun _ s4 => wpAny (model X.prog X.w) X.A (throw (.ref a) : Sem Flow) (SP X pins D) X.xe s4) X.xe { s' with heap := h3 } := by
        rw [hf]
        refine HandSPX.setFlight_upZ fl3 fun h4 hh4 up4 => wpAny_throw (tk _ _ ⟨a, B, sI, pins, σ', H', cls, d, rfl, J, nb, (up.trans up3).trans up4, .inr (.inr ?_), na, os, ag, w⟩)
        rw [hs]; exact hh4
      first | exact wpAny_bind (wpAny_pure (wpAny_bind fin)) | exact wpAny_bind fin
    | @anon x c ts b₀ ss np pos' hd2 l2 hc hsu r ih =>
      rintro ⟨b, hb1, hyes, hno⟩
      refine wpAny_handleBy_cons (codeAny_handlers_test (test hc ((PySem.W.exm_one (M := model X.prog X.w) J3.kIn LT hb1).here ?_))) nofun
      cases b with
      | false => exact ih (hno rfl)
      | true =>
        refine codeAny_handlers_suite (HandSPX.lands_againZ fl3 fun h4 fl4 up4 => ?_)
        have J4 : Inv X pins σ' H' { s' with heap := h4 } := J.landed nb fl4.1 ((up.trans up3).trans up4) os ag
        obtain ⟨oe4, vs4, he4, hz4, hd4⟩ := fl4.there
        refine wpAny_mono ((hsu a oe4 cls d (X.pn ++ pins) hz4 ⟨_, hd4⟩).run [] _ _ H' _ (J4.suite he4 hd4 na nL nF) (hyes rfl a na)) (fun fl s6 q => ?_) fun _ _ z => z.elim
        cases fl with
        | next => obtain ⟨σ6, H6, S6, q⟩ := q; exact ⟨σ6, H6, S6.unsuite ok, q⟩
        | brk => obtain ⟨σ6, H6, S6, q⟩ := q; exact ⟨σ6, H6, S6.unsuite ok, q⟩
        | cont => obtain ⟨σ6, H6, S6, q⟩ := q; exact ⟨σ6, H6, S6.unsuite ok, q⟩
        | ret u => obtain ⟨v, σ6, H6, S6, r, q⟩ := q; exact ⟨v, σ6, H6, S6.unsuite ok, r, q⟩
    | @named x n i c ts b₀ ss np pos' hd2 l2 hi hln hc hsu r ih =>
      rintro ⟨b, hb1, hyes, hno⟩
      refine wpAny_handleBy_cons (codeAny_handlers_test (test hc ((PySem.W.exm_one (M := model X.prog X.w) J3.kIn LT hb1).here ?_))) nofun
      cases b with
      | false => exact ih (hno rfl)
      | true =>
        refine codeAny_handlers_suite_as (HandSPX.lands_againZ fl3 fun h4 fl4 up4 => ?_)
        have J4 : Inv X pins σ' H' { s' with heap := h4 } := J.landed nb fl4.1 ((up.trans up3).trans up4) os ag
        obtain ⟨oe4, vs4, he4, hz4, hd4⟩ := fl4.there
        refine store_ok (X := X.suite a ((a, oe4) :: (X.pn ++ pins))) (v := .ref a) (J4.suite he4 hd4 na nL nF) hN hi (.inl hln) rfl (fun s5 S5 => ?_) (.inr hln)
        have away : ∀ {σ6 : L2.St} {H6 : Hp} {s6 : Shared} {Q : Shared → Prop}, Inv (X.suite a ((a, oe4) :: (X.pn ++ pins))) [] σ6 H6 s6 → (∀ s7, Inv X pins (σ6.set i none) H6 s7 → Q s7) →
            wpAny (model X.prog X.w) X.A (do bindName X.env n .none; unbindBehindTheSuite X.env n pos') (fun _ s7 => Q s7) X.xe s6 := fun S6 k => gone_ok (S6.unsuite ok) hN hi hln k
        refine wpAny_mono ((hsu a oe4 cls d (X.pn ++ pins) hz4 ⟨_, hd4⟩).run [] s5 _ H' _ S5 (hyes rfl a na)) (fun fl s6 q => ?_) fun _ _ z => z.elim
        cases fl with
        | next => obtain ⟨σ6, H6, S6, q⟩ := q; exact away S6 fun s7 J7 => ⟨_, _, J7, q⟩
        | brk => obtain ⟨σ6, H6, S6, q⟩ := q; exact away S6 fun s7 J7 => ⟨_, _, J7, q⟩
        | cont => obtain ⟨σ6, H6, S6, q⟩ := q; exact away S6 fun s7 J7 => ⟨_, _, J7, q⟩
        | ret u => obtain ⟨v, σ6, H6, S6, r, q⟩ := q; exact away S6 fun s7 J7 => ⟨_, _, _, J7, r, q⟩
  exact go hh hW
end
end DL

set_option Elab.async false
set_option linter.all false
set_option maxRecDepth 100000
set_option maxHeartbeats 4000000
namespace DL
open PySem L2 PySem.Spec PyProof.Rows

/-! ### what may raise, its wish told at the slots -/
structure DEr (ca : Nat → Addr) (E : L2.St → XK) (X : Cx) (e : Expr) (f : En → M D) : Prop where
  ex : ∃ t, PE X e t ∧ ∀ σ H Q ρ st μ, EnvR X.K μ H ρ σ → Sim X.K ca μ st H → Post X.K ca (E σ) μ H (f ρ st) (KV X.K ca μ H Q) → t σ H Q
structure DAr (ca : Nat → Addr) (E : L2.St → XK) (X : Cx) (es : List Expr) (f : En → M (List D)) : Prop where
  ex : ∃ t, PA X es t ∧ ∀ σ H Q ρ st μ, EnvR X.K μ H ρ σ → Sim X.K ca μ st H → Post X.K ca (E σ) μ H (f ρ st) (KA X.K ca μ H Q) → t σ H Q
structure DSr (ca : Nat → Addr) (E : L2.St → XK) (X : Cx) (s : Stmt) (f : En → M Ctl) : Prop where
  ex : ∃ t, PS X s t ∧ ∀ σ H Q ρ st μ, EnvR X.K μ H ρ σ → Sim X.K ca μ st H → Post X.K ca (E σ) μ H (f ρ st) (KC X.K ca μ H Q) → t Q σ H
structure DSsr (ca : Nat → Addr) (E : L2.St → XK) (X : Cx) (s : List Stmt) (f : En → M Ctl) : Prop where
  ex : ∃ t, PSs X s t ∧ ∀ σ H Q ρ st μ, EnvR X.K μ H ρ σ → Sim X.K ca μ st H → Post X.K ca (E σ) μ H (f ρ st) (KC X.K ca μ H Q) → t Q σ H
section
variable {X : Cx} {ca : Nat → Addr} {E : L2.St → XK} {e a : Expr} {es : List Expr} {pos : Pos} {f g : En → M D} {fa : En → M (List D)}
theorem DE.r (h : DE ca E0 X e f) : DEr ca E X e fun ρ => nr (f ρ) := by
  obtain ⟨t, p, g⟩ := h.ex
  exact ⟨t, p, fun σ H Q ρ st μ re s q => g σ H Q ρ st μ re s (nr_post q)⟩
theorem dar_nil : DAr ca E X [] aNil := ⟨_, pa_nil, fun σ H Q ρ st μ re s h => h μ H _ .refl s (repL_nil.mpr rfl)⟩
theorem dar_cons (ha : DEr ca E X a f) (hr : DAr ca E X es fa) (hs : starEach (a :: es) X.env = (false, eval a X.env) :: starEach es X.env := by rfl) : DAr ca E X (a :: es) (aCons f fa) := by
  obtain ⟨ta, pa, ga⟩ := ha.ex
  obtain ⟨tb, pb, gb⟩ := hr.ex
  refine ⟨_, pa_cons pa pb hs, fun σ H Q ρ st μ re s h => ?_⟩
  refine ga σ H _ ρ st μ re s ((Post.bind.mp h).imp fun d st1 q => ?_)
  intro μ1 H1 x e1 s1 r1
  have h1 := Post.bind.mp (q.mono e1 fun _ _ z => z)
  refine gb σ H1 _ ρ st1 μ1 (re.mono e1) s1 (h1.imp fun ds st2 q2 => ?_)
  intro μ2 H2 xs e2 s2 r2
  have h2 := q2.mono e2 fun _ _ z => z
  exact (Post.pure.mp h2 : KA X.K ca μ H Q (d :: ds) st2) μ2 H2 _ (e1.trans e2) s2 (repL_cons.mpr ⟨x, xs, rfl, r1.mono e2, r2⟩)
theorem der_tup {k : Nat} (h : DAr ca E X es fa) : DEr ca E X (.Tuple es k pos) (eTup fa) := by
  obtain ⟨t, p, g⟩ := h.ex
  refine ⟨_, pe_tupF p, fun σ H Q ρ st μ re s hh => ?_⟩
  refine g σ H _ ρ st μ re s ((Post.bind.mp hh).imp fun ds st1 q => ?_)
  intro μ1 H1 xs e1 s1 r1
  have h1 := q.mono e1 fun _ _ z => z
  unfold newT at h1
  split at h1
  · rename_i hz
    exact ⟨by rw [r1.length]; exact hz, fun p o hp hd => new_tup s1 r1 (KV.mono h1 e1) hp hd⟩
  · exact h1.elim
/-! own calls -/
def eCallR (m : List D → M D) (fa : En → M (List D)) : En → M D := fun ρ => nr (fa ρ) >>= m
def eMethR (c : Nat) (n : Str) (m : List D → M D) (fo : En → M D) (fa : En → M (List D)) : En → M D := fun ρ => nr (fo ρ) >>= fun o => chkO c n o >>= fun _ => nr (fa ρ) >>= fun ds => m (o :: ds)
def eMakeR (c n nk : Nat) (g : List D → List D → List D) (m : List D → M D) (fa fk : En → M (List D)) : En → M D := fun ρ => nr (fa ρ) >>= fun ds => nr (fk ρ) >>= fun zs =>
  if ds.length = n ∧ zs.length = nk then mkM c (fun o => m (g (o :: ds) zs)) else stuck
theorem ga_r {K : PySem.W.Frag} {t : TA} (hg : GA K ca E0 t fa) {E1 : XK} {β : Type} {m : List D → M β} {σ : L2.St} {H : Hp} {ρ : En} {st : Sto} {μ : List Addr} {k : β → Sto → Prop} {Q : List V → Hp → Prop} (r : EnvR K μ H ρ σ) (s : Sim K ca μ st H)
    (h : Post K ca E1 μ H ((nr (fa ρ) >>= m) st) k) (hk : ∀ d st' μ' H' v, Ext K μ H μ' H' → Sim K ca μ' st' H' → RepL K μ' H' d v → EnvR K μ' H' ρ σ → Post K ca E1 μ' H' (m d st') k → Q v H') : t σ H Q :=
  hg σ H Q ρ st μ r s ((nr_post (Post.bind.mp h)).imp fun d st' q μ' H' v e s' rv => hk d st' μ' H' v e s' rv (r.mono e) (q.mono e fun _ _ z => z))
theorem ge_r {K : PySem.W.Frag} {t : TE} (hg : GE K ca E0 t f) {E1 : XK} {β : Type} {m : D → M β} {σ : L2.St} {H : Hp} {ρ : En} {st : Sto} {μ : List Addr} {k : β → Sto → Prop} {Q : VK} (r : EnvR K μ H ρ σ) (s : Sim K ca μ st H)
    (h : Post K ca E1 μ H ((nr (f ρ) >>= m) st) k) (hk : ∀ d st' μ' H' v, Ext K μ H μ' H' → Sim K ca μ' st' H' → Rep K μ' H' d v → EnvR K μ' H' ρ σ → Post K ca E1 μ' H' (m d st') k → Q v H') : t σ H Q :=
  hg σ H Q ρ st μ r s ((nr_post (Post.bind.mp h)).imp fun d st' q μ' H' v e s' rv => hk d st' μ' H' v e s' rv (r.mono e) (q.mono e fun _ _ z => z))
theorem gt_r {K : PySem.W.Frag} {t : TT} {ft : En → M Bool} (hg : GT K ca E0 t ft) {E1 : XK} {β : Type} {m : Bool → M β} {σ : L2.St} {H : Hp} {ρ : En} {st : Sto} {μ : List Addr} {k : β → Sto → Prop} {Q : Bool → Hp → Prop} (r : EnvR K μ H ρ σ) (s : Sim K ca μ st H)
    (h : Post K ca E1 μ H ((nr (ft ρ) >>= m) st) k) (hk : ∀ d st' μ' H', Ext K μ H μ' H' → Sim K ca μ' st' H' → EnvR K μ' H' ρ σ → Post K ca E1 μ' H' (m d st') k → Q d H') : t σ H Q :=
  hg σ H Q ρ st μ r s ((nr_post (Post.bind.mp h)).imp fun d st' q μ' H' e s' => hk d st' μ' H' e s' (r.mono e) (q.mono e fun _ _ z => z))
variable {k : Nat} {fI : Addr} {fd : FuncData} {ps : List Str} {m : List D → M D} {x : Str} {p apos : Pos} {o : Expr} {fo : En → M D}
theorem der_call (F : FnOk X.prog X.w X.K X.mg X.base (L2.CX X.prog X.w) k fI fd ps (spD X.K ca m)) (hr : Room k X.A) (hg : Gl X x) (hm : X.mg x = some (.ref fI)) (hk : PySem.W.keepIn X.K (.ref fI) = true) (hb : Binds X.K fd ps []) (hx : ∀ σ, PassesAt (L2.CX X.prog X.w) X σ (E σ)) (ha : DA ca E0 X (e :: es) fa)
    (hdb : (x == ("__debug__" : Str)) = false := by decide) (he : starEach (e :: es) X.env = (false, eval e X.env) :: starEach es X.env := by rfl) (hpl : (backTo pos (starEach es X.env)).any (·.1) = false := by rfl) :
    DEr ca E X (.Call (.Name x p) (e :: es) [] pos) (eCallR m fa) := by
  obtain ⟨t, pa, ga⟩ := ha.ex
  refine ⟨_, pe_callS F hr hg hm hk hb hx pa hdb he hpl, fun σ H Q ρ st μ re s h => ?_⟩
  refine ga_r ga re s h fun ds st1 μ1 H1 xs e1 s1 r1 re1 g1 => ?_
  exact ⟨ds, st1, μ1, r1, s1, g1.imp fun _ _ z => z.mono e1⟩
def tMethS (C : Addr) (m : Str) (sp : Sp) (E : L2.St → XK) (ta : TE) (t : TA) : TE := fun σ H Q => ta σ H fun x H1 => ∃ a dx fs, x = V.ref a ∧ H1 a = some (.ins C dx fs) ∧ fs.lookup m = none ∧ t σ H1 fun vs H2 => sp (.ref a :: vs) H2 Q (E σ)
theorem pe_methS {pl : Sem Bool} {C : Addr} {n : Str} {sp : Sp} {ta : TE} {t : TA} (he : PE X o ta) (c : Cls X.K C) (hm : Meth X.K C n fI) (F : FnOk X.prog X.w X.K X.mg X.base (L2.CX X.prog X.w) k fI fd ps sp) (hr : Room k X.A) (hb : Binds X.K fd ps []) (hx : ∀ σ, PassesAt (L2.CX X.prog X.w) X σ (E σ)) (ha : PA X (e :: es) t)
    (hst : starEach (e :: es) X.env = (false, eval e X.env) :: starEach es X.env) (hpl : (backTo pos (starEach es X.env)).any (·.1) = false)
    (ht : eval (.Call (.Attribute o n apos) (e :: es) [] pos) X.env = (do
      let ov ← eval o X.env
      standAt apos.atName
      let (g, first) ← holding [ov] (getMethod ov n pl)
      callWith pos g first (backTo pos (starEach (e :: es) X.env)) (backToKw pos (keywordEach [] X.env)))) : PE X (.Call (.Attribute o n apos) (e :: es) [] pos) (tMethS C n sp E ta t) := by
  refine ⟨fun pins s σ H Q I h => PySem.W.methodCall_KW (pl := pl) (thn (he.run pins s σ H _ I h) ?_) ht⟩
  rintro u s1 ⟨x, H1, I1, rx, a, dx, fs, rfl, ea, l, q⟩
  cases rx
  refine getmeth_ok I1 ea c hm l (PySem.W.callWith_K (first := [.ref a]) (h₀ := X.base) I.ok.mod.kin hm.kp (thn (ha.run pos pins s1 σ H1 _ I1 q) ?_) hst hpl)
  rintro us s2 ⟨vs, H2, I2, r, q2⟩
  exact ⟨I2.kIn, run_fnS (us := .ref a :: us) (vs := .ref a :: vs) F hr hb (hx σ) I2 (.cons rfl r) q2⟩
theorem der_meth {c : Nat} {n : Str} {pl : Sem Bool} (ho : DE ca E0 X o fo) (hC : Cls X.K (ca c)) (hm : Meth X.K (ca c) n fI) (F : FnOk X.prog X.w X.K X.mg X.base (L2.CX X.prog X.w) k fI fd ps (spD X.K ca m)) (hr : Room k X.A) (hb : Binds X.K fd ps []) (hx : ∀ σ, PassesAt (L2.CX X.prog X.w) X σ (E σ)) (ha : DA ca E0 X (e :: es) fa)
    (hst : starEach (e :: es) X.env = (false, eval e X.env) :: starEach es X.env := by rfl) (hpl : (backTo pos (starEach es X.env)).any (·.1) = false := by rfl)
    (ht : eval (.Call (.Attribute o n apos) (e :: es) [] pos) X.env = (do
      let ov ← eval o X.env
      standAt apos.atName
      let (g, first) ← holding [ov] (getMethod ov n pl)
      callWith pos g first (backTo pos (starEach (e :: es) X.env)) (backToKw pos (keywordEach [] X.env))) := by rfl) : DEr ca E X (.Call (.Attribute o n apos) (e :: es) [] pos) (eMethR c n m fo fa) := by
  obtain ⟨to, po, go⟩ := ho.ex
  obtain ⟨t, pa, ga⟩ := ha.ex
  refine ⟨_, pe_methS po hC hm F hr hb hx pa hst hpl ht, fun σ H Q ρ st μ re s h => ?_⟩
  refine ge_r go re s h fun d st1 μ1 H1 x e1 s1 r1 re1 h1 => ?_
  rw [Post.bind] at h1
  unfold chkO at h1
  cases d <;> first | exact elimP h1 | skip
  rename_i i
  simp only at h1
  split at h1
  · rename_i c' fs hi
    split at h1
    · rename_i hc
      obtain ⟨rfl, hl⟩ := hc
      obtain ⟨a, dx, gs, rfl, ha', g1, g2⟩ := obj_of s1 hi r1
      refine ⟨a, dx, gs, rfl, g1, (lookF g2).2 hl, ?_⟩
      refine ga_r ga re1 s1 h1 fun ds st2 μ2 H2 vs e2 s2 r2 re2 h2 => ?_
      exact ⟨.loc i :: ds, st2, μ2, repL_cons.mpr ⟨.ref a, _, rfl, r1.mono e2, r2⟩, s2, h2.imp fun _ _ z => z.mono (e1.trans e2)⟩
    · exact elimP h1
  · exact elimP h1
section
variable {n : Nat} {C : Addr} {sp : Sp} {ks : List Str} {kws : List Keyword} {g : List Value → List Value → List Value} {gV : List V → List V → List V}
theorem run_makeKS {E1 : XK} {pins : List (Addr × Obj)} {σ : L2.St} {H : Hp} {s : Shared} {Q : VK} {us ws : List Value} {vs zs : List V} (M : Mk X.K C fI) (F : FnOk X.prog X.w X.K X.mg X.base (L2.CX X.prog X.w) k fI fd ps sp) (hr : Room (k + 1) X.A) (hb : KBn X.K fd ps (n + 1) ks g gV) (hx : PassesAt (L2.CX X.prog X.w) X σ E1)
    (I : Inv X pins σ H s) (r : Vals vs us) (rz : Vals zs ws) (l1 : vs.length = n) (l2 : zs.length = ks.length)
    (h : ∀ x dx, H x = none → H dx = none → dx ≠ x → sp (gV (.ref x :: vs) zs) (upd (upd H dx (.own x)) x (.ins C dx [])) (fun v H2 => v = .non ∧ Q (.ref x) H2) E1) : wpAny (model X.prog X.w) X.A (call (.ref C) us (ks.zip ws)) (EP X pins σ Q) X.xe s := by
  generalize hz : s.heap.objs.size = z
  have hq := h (z + 1) z (I.hok.fresh (by omega)) (I.hok.fresh (by omega)) (Nat.ne_of_lt (Nat.lt_succ_self _))
  have I2 := Inv.made (C := C) I
  rw [hz] at I2
  have r1 : Vals (V.ref (z + 1) :: vs) (Value.ref (z + 1) :: us) := .cons rfl r
  have n1 : (Value.ref (z + 1) :: us).length = n + 1 := by rw [List.length_cons, ← r.length, l1]
  refine wpAny_call (make_map (f := fI) I.kIn M.makes M.init (beq_iff_eq.mp M.fn) ?_)
  rw [hz]
  refine codeAny_mono (F.run _ X.stack _ _ _ _ _ _ E1 (hr.make C us (ks.zip ws)) (I2.env0.make C us (ks.zip ws)) (hb.to _ _ ws I2.kIn n1 (rz.length.symm.trans l2)) (hb.rel r1 rz) hq) fun r s' q => ?_
  cases r with
  | error er => exact hx pins _ _ er s' I2 q
  | ok fl =>
    cases fl with
    | ret u =>
      obtain ⟨v, H', I3, rv, rfl, q3⟩ := I2.after q
      exact ⟨rv, V.ref (z + 1), H', I3, rfl, q3⟩
    | _ => exact q.elim
def tMakeKS (C : Addr) (n m : Nat) (sp : Sp) (gV : List V → List V → List V) (E : L2.St → XK) (t tk : TA) : TE := fun σ H Q => t σ H fun vs H1 => tk σ H1 fun zs H2 => vs.length = n ∧ zs.length = m ∧ ∀ x dx, H2 x = none → H2 dx = none → dx ≠ x →
  sp (gV (.ref x :: vs) zs) (upd (upd H2 dx (.own x)) x (.ins C dx [])) (fun v H3 => v = .non ∧ Q (.ref x) H3) (E σ)
theorem pe_makeKS {t tk : TA} (M : Mk X.K C fI) (F : FnOk X.prog X.w X.K X.mg X.base (L2.CX X.prog X.w) k fI fd ps sp) (hr : Room (k + 1) X.A) (hg : Gl X x) (hm : X.mg x = some (.ref C)) (hb : KBn X.K fd ps (n + 1) ks g gV) (hx : ∀ σ, PassesAt (L2.CX X.prog X.w) X σ (E σ)) (ha : PA X (e :: es) t) (hkw : PK X kws tk)
    (hall : (backToKw pos (keywordEach kws X.env)).all (·.1.isSome) = true) (hks : (backToKw pos (keywordEach kws X.env)).filterMap (·.1) = ks) (hdb : (x == ("__debug__" : Str)) = false)
    (he : starEach (e :: es) X.env = (false, eval e X.env) :: starEach es X.env) (hpl : ((backTo pos (starEach (e :: es) X.env)).any (·.1) || (backToKw pos (keywordEach kws X.env)).any (·.1.isNone)) = false) :
    PE X (.Call (.Name x p) (e :: es) kws pos) (tMakeKS C n ks.length sp gV E t tk) := by
  refine ⟨fun pins s σ H Q I h => wpAny_Call_Name_kw (ld_glob I hg hm ?_ hdb)⟩
  refine PySem.W.callWith_KW (h₀ := X.base) I.ok.mod.kin M.kp hall (thn (ha.run pos pins s σ H _ I h) ?_) hpl he
  rintro us s1 ⟨vs, H1, I1, r, q⟩
  refine thn (hkw.run pos pins s1 σ H1 _ I1 q) ?_
  rintro ws s2 ⟨zs, H2, I2, rz, l1, l2, q2⟩
  rw [hks]
  exact ⟨I2.kIn, run_makeKS M F hr hb (hx σ) I2 r rz l1 l2 q2⟩
end
theorem der_makeK {c n : Nat} {ks : List Str} {g : List Value → List Value → List Value} {gV : List V → List V → List V} {gD : List D → List D → List D} {kws : List Keyword} {fk : En → M (List D)} (M : Mk X.K (ca c) fI) (F : FnOk X.prog X.w X.K X.mg X.base (L2.CX X.prog X.w) k fI fd ps (spD X.K ca m)) (hr : Room (k + 1) X.A) (hg : Gl X x) (hm : X.mg x = some (.ref (ca c)))
    (hb : KBn X.K fd ps (n + 1) ks g gV) (hgD : ∀ μ H ds zs vs ws, RepL X.K μ H ds vs → RepL X.K μ H zs ws → RepL X.K μ H (gD ds zs) (gV vs ws)) (hx : ∀ σ, PassesAt (L2.CX X.prog X.w) X σ (E σ)) (ha : DA ca E0 X (e :: es) fa) (hkw : DK ca E0 X kws fk)
    (hall : (backToKw pos (keywordEach kws X.env)).all (·.1.isSome) = true := by rfl) (hks : (backToKw pos (keywordEach kws X.env)).filterMap (·.1) = ks := by rfl) (hdb : (x == ("__debug__" : Str)) = false := by decide)
    (he : starEach (e :: es) X.env = (false, eval e X.env) :: starEach es X.env := by rfl) (hpl : ((backTo pos (starEach (e :: es) X.env)).any (·.1) || (backToKw pos (keywordEach kws X.env)).any (·.1.isNone)) = false := by rfl) :
    DEr ca E X (.Call (.Name x p) (e :: es) kws pos) (eMakeR c n ks.length gD m fa fk) := by
  obtain ⟨t, pa, ga⟩ := ha.ex
  obtain ⟨tk, pk, gk⟩ := hkw.ex
  refine ⟨_, pe_makeKS M F hr hg hm hb hx pa pk hall hks hdb he hpl, fun σ H Q ρ st μ re s h => ?_⟩
  refine ga_r ga re s h fun ds st1 μ1 H1 vs e1 s1 r1 re1 h1 => ?_
  refine ga_r gk re1 s1 h1 fun zs st2 μ2 H2 ws e2 s2 r2 re2 h2 => ?_
  split at h2
  · rename_i hl
    refine ⟨by rw [r1.length]; exact hl.1, by rw [r2.length]; exact hl.2, fun x dx hx' hdx ne => ?_⟩
    obtain ⟨q1, q2, q3⟩ := made s2 (h2.imp fun _ _ z => z.mono (e1.trans e2)) hx' hdx ne
    exact ⟨gD (.loc st2.length :: ds) zs, st2 ++ [.obj c []], μ2 ++ [x], hgD _ _ _ _ _ _ (repL_cons.mpr ⟨.ref x, vs, rfl, loc_new s2, (r1.mono e2).mono q2⟩) (r2.mono q2), q1, q3⟩
  · exact h2.elim
/-! statements -/
variable {s1 : Stmt} {rest sa sb : List Stmt} {fs gs : En → M Ctl} {ft : En → M Bool} {c : Expr}
def sSetR (f : En → M D) (i : Nat) : En → M Ctl := fun ρ => do let d ← f ρ; pure (.nx (ρ.set i (some d)))
def sIfR (t : En → M Bool) (f g : En → M Ctl) : En → M Ctl := fun ρ => nr (t ρ) >>= fun b => if b then f ρ else g ρ
theorem dsr_expr (h : DEr ca E X e f) (hs : swapsWith e none pos.line X.env = pure false := by rfl) : DSr ca E X (.Expr e pos) (sEx f) := by
  obtain ⟨t, p, ge⟩ := h.ex
  refine ⟨_, ps_expr p hs, fun σ H Q ρ st μ re s h => ?_⟩
  refine ge σ H _ ρ st μ re s ((Post.bind.mp h).imp fun d st1 q => ?_)
  intro μ1 H1 v e1 s1 r1
  exact (Post.pure.mp q : KC X.K ca μ H Q (.nx ρ) st1) μ1 H1 e1 s1 σ (re.mono e1)
theorem dsr_ret (h : DEr ca E X e f) : DSr ca E X (.Return (some e) pos) (sRet f) := by
  obtain ⟨t, p, ge⟩ := h.ex
  refine ⟨_, ps_ret p, fun σ H Q ρ st μ re s h => ?_⟩
  refine ge σ H _ ρ st μ re s ((Post.bind.mp h).imp fun d st1 q => ?_)
  intro μ1 H1 v e1 s1 r1
  exact (Post.pure.mp q : KC X.K ca μ H Q (.rt d) st1) μ1 H1 e1 s1 v r1
theorem dsr_set {i : Nat} {y : Str} {py : Pos} (hN : X.N.Nodup) (he : DEr ca E X e f) (hi : X.N[i]? = some y := by rfl) (hx : Loc X.env.scope y := by first | exact .inl rfl | exact .inr rfl)
    (hs : swapsWith e (some (.Name y py)) pos.line X.env = pure false := by rfl) (hf : X.fn y = true ∨ X.env.scope.names.lookup y = some .local := by first | exact .inl rfl | exact .inr rfl) : DSr ca E X (.Assign [.Name y py] e pos) (sSetR f i) := by
  obtain ⟨t, p, ge⟩ := he.ex
  refine ⟨_, ps_set hN hi hx p hs hf, fun σ H Q ρ st μ re s h => ?_⟩
  refine ge σ H _ ρ st μ re s ((Post.bind.mp h).imp fun d st1 q => ?_)
  intro μ1 H1 v e1 s1 r1
  exact (Post.pure.mp q : KC X.K ca μ H Q (.nx _) st1) μ1 H1 e1 s1 _ ((re.mono e1).set i r1)
theorem dsr_if (hc : DT ca E0 X c ft) (ha : DSsr ca E X sa fs) (hb : DSsr ca E X sb gs) : DSr ca E X (.If c sa sb pos) (sIfR ft fs gs) := by
  obtain ⟨tc, pc, gc⟩ := hc.ex
  obtain ⟨ta, pa, ga⟩ := ha.ex
  obtain ⟨tb, pb, gb⟩ := hb.ex
  refine ⟨_, ps_if pc pa pb, fun σ H Q ρ st μ re s h => ?_⟩
  refine gt_r gc re s h fun k st1 μ1 H1 e1 s1 re1 h1 => ?_
  cases k with
  | true => exact iteT (ga σ H1 Q ρ st1 μ1 re1 s1 (Post.imp h1 fun a st z => z.mono e1))
  | false => exact iteF (gb σ H1 Q ρ st1 μ1 re1 s1 (Post.imp h1 fun a st z => z.mono e1))
theorem dssr_one (h1 : DSr ca E X s1 fs) : DSsr ca E X [s1] fs := let ⟨t, p, gt⟩ := h1.ex; ⟨t, pss_one p, gt⟩
end
end DL

set_option Elab.async false
set_option linter.all false
set_option maxRecDepth 100000
set_option maxHeartbeats 4000000
namespace DL
open PySem L2 PySem.Spec PyProof.Rows

/-! ### the suite of an except clause: by values, no object of the store changes -/
abbrev UE := Nat → Option (List (Str × D)) → En → Option D
abbrev UEs := Nat → Option (List (Str × D)) → En → Option (List D)
abbrev US := Nat → Option (List (Str × D)) → En → Option Ctl
structure InS (K : PySem.W.Frag) (ca : Nat → Addr) (oi : Option Nat) (a : Addr) (cls : Value) (d : Option Addr) (σ : L2.St) (H : Hp) (ρ : En) (st : Sto) (μ : List Addr) (c : Nat) (fs : Option (List (Str × D))) : Prop where
  cls : cls = .ref (ca c)
  xf : XFs K μ H d fs
  nm : ∀ i, oi = some i → σ[i]? = some (some (.ref a))
  env : EnvR K μ H ρ σ
  sim : Sim K ca μ st H
structure DU (ca : Nat → Addr) (oi : Option Nat) (X : Cx) (e : Expr) (g : UE) : Prop where
  ex : ∀ a oe cls d pn, Zc cls d oe → (∃ vs, oe.data = .fields vs) → ∃ t, PE (X.suite a ((a, oe) :: pn)) e t ∧ ∀ σ H Q ρ st μ c fs v, InS X.K ca oi a cls d σ H ρ st μ c fs → g c fs ρ = some v →
    (∀ H' w, Ext X.K μ H μ H' → InS X.K ca oi a cls d σ H' ρ st μ c fs → Rep X.K μ H' v w → Q w H') → t σ H Q
structure DUA (ca : Nat → Addr) (oi : Option Nat) (X : Cx) (es : List Expr) (g : UEs) : Prop where
  ex : ∀ a oe cls d pn, Zc cls d oe → (∃ vs, oe.data = .fields vs) → ∃ t, PA (X.suite a ((a, oe) :: pn)) es t ∧ ∀ σ H Q ρ st μ c fs v, InS X.K ca oi a cls d σ H ρ st μ c fs → g c fs ρ = some v →
    (∀ H' w, Ext X.K μ H μ H' → InS X.K ca oi a cls d σ H' ρ st μ c fs → RepL X.K μ H' v w → Q w H') → t σ H Q
structure DUT (ca : Nat → Addr) (oi : Option Nat) (X : Cx) (e : Expr) (g : UE) : Prop where
  ex : ∀ a oe cls d pn, Zc cls d oe → (∃ vs, oe.data = .fields vs) → ∃ t, PT (X.suite a ((a, oe) :: pn)) e t ∧ ∀ σ H Q ρ st μ c fs b, InS X.K ca oi a cls d σ H ρ st μ c fs → g c fs ρ = some (.bl b) →
    (∀ H', Ext X.K μ H μ H' → InS X.K ca oi a cls d σ H' ρ st μ c fs → Q b H') → t σ H Q
structure DUW (ca : Nat → Addr) (oi : Option Nat) (X : Cx) (e : Expr) (g : UE) : Prop where
  ex : ∀ a oe cls d pn, Zc cls d oe → (∃ vs, oe.data = .fields vs) → ∃ t, PW (X.suite a ((a, oe) :: pn)) e t ∧ ∀ σ H Q ρ st μ c fs b, InS X.K ca oi a cls d σ H ρ st μ c fs → g c fs ρ = some (.bl b) →
    (∀ H', Ext X.K μ H μ H' → InS X.K ca oi a cls d σ H' ρ st μ c fs → Q b H') → t σ H Q
structure DUs (ca : Nat → Addr) (oi : Option Nat) (X : Cx) (ss : List Stmt) (h : US) : Prop where
  ex : ∀ a oe cls d pn, Zc cls d oe → (∃ vs, oe.data = .fields vs) → ∃ t, PSs (X.suite a ((a, oe) :: pn)) ss t ∧ ∀ σ H (Q : Ends) ρ st μ c fs ctl, InS X.K ca oi a cls d σ H ρ st μ c fs → h c fs ρ = some ctl →
    (∀ H', Ext X.K μ H μ H' → Sim X.K ca μ st H' → match ctl with
      | .rt v => ∀ w, Rep X.K μ H' v w → Q.rt w H'
      | .nx ρ' => ∀ σ', EnvR X.K μ H' ρ' σ' → Q.nx σ' H'
      | _ => False) → t Q σ H
theorem InS.fresh {K : PySem.W.Frag} {ca : Nat → Addr} {oi : Option Nat} {a p : Addr} {cls : Value} {d : Option Addr} {σ : L2.St} {H : Hp} {ρ : En} {st : Sto} {μ : List Addr} {c : Nat} {fs : Option (List (Str × D))} {o : HO} (h : InS K ca oi a cls d σ H ρ st μ c fs) (hp : H p = none) :
    InS K ca oi a cls d σ (upd H p o) ρ st μ c fs := by
  have ex : Ext K μ H μ (upd H p o) := .updM (.inl hp)
  refine ⟨h.cls, ?_, h.nm, h.env.mono ex, h.sim.fresh hp⟩
  have := h.xf
  cases fs with
  | none => exact this
  | some fs =>
    obtain ⟨dd, fvs, e, e2, r⟩ := this
    exact ⟨dd, fvs, e, by rw [upd_ne (ne_of_none e2 hp)]; exact e2, r.mono ex⟩
section
variable {X : Cx} {ca : Nat → Addr} {oi : Option Nat} {e f : Expr} {es : List Expr} {pos : Pos} {g h : UE} {ga : UEs}
theorem du_const {d : D} (hp : ∀ a oe pn, ∃ v, PE (X.suite a ((a, oe) :: pn)) e (fun σ H Q => Q v H) ∧ ∀ K μ H, Rep K μ H d v) : DU ca oi X e fun _ _ _ => some d :=
  ⟨fun a oe cls dd pn _ _ => by
    obtain ⟨v, p, r⟩ := hp a oe pn
    refine ⟨_, p, fun σ H Q ρ st μ c fs v' I hg k => ?_⟩
    cases hg
    exact k H v .refl I (r _ _ _)⟩
theorem du_int {i j} : DU ca oi X (.Constant (.int i) j pos) fun _ _ _ => some (.int i) := du_const fun a oe pn => ⟨_, pe_int, fun _ _ _ => rep_int.mpr rfl⟩
theorem du_bl {b j} : DU ca oi X (.Constant (.bool b) j pos) fun _ _ _ => some (.bl b) := du_const fun a oe pn => ⟨_, pe_bl, fun _ _ _ => rep_bl.mpr rfl⟩
theorem du_non {j} : DU ca oi X (.Constant .none j pos) fun _ _ _ => some .non := du_const fun a oe pn => ⟨_, pe_non, fun _ _ _ => rep_non.mpr rfl⟩
theorem du_str {z j} : DU ca oi X (.Constant (.str z) j pos) fun _ _ _ => some (.str z) := du_const fun a oe pn => ⟨_, pe_str, fun _ _ _ => rep_str.mpr rfl⟩
def uVar (i : Nat) : UE := fun _ _ ρ => match ρ[i]? with | some o => o | none => none
theorem du_var (i : Nat) {x : Str} (hN : X.N[i]? = some x := by rfl) (hv : Vis X.env.scope x := by first | exact Or.inl rfl | exact Or.inr (Or.inl rfl) | exact Or.inr (Or.inr rfl)) (hd : (x == ("__debug__" : Str)) = false := by decide)
    (hcd : (x == ("__classdict__" : Str)) = false := by decide) : DU ca oi X (.Name x pos) (uVar i) :=
  ⟨fun a oe cls dd pn _ _ => by
    refine ⟨_, pv (X := X.suite a ((a, oe) :: pn)) i hN hv hd hcd, fun σ H Q ρ st μ c fs v I hg k => ?_⟩
    unfold uVar at hg
    cases hi : ρ[i]? with
    | none => rw [hi] at hg; cases hg
    | some o =>
      rw [hi] at hg
      simp only at hg
      subst hg
      obtain ⟨w, h1, h2⟩ := I.env.2 i v hi
      exact ⟨w, h1, k H w .refl I h2⟩⟩
/-- the error's field -/
def uFld (c0 : Nat) (n : Str) : UE := fun c fs _ => if c = c0 then fs.bind fun l => l.lookup n else none
theorem du_fld {c0 : Nat} {n x : Str} {i : Nat} {p' : Pos} (T : XfC X.K (ca c0)) (hno : PySem.W.findIn X.K (.ref (ca c0)) n = some none) (hoi : oi = some i := by rfl) (hN : X.N[i]? = some x := by rfl)
    (hv : Vis X.env.scope x := by first | exact Or.inl rfl | exact Or.inr (Or.inl rfl) | exact Or.inr (Or.inr rfl)) (hd : (x == ("__debug__" : Str)) = false := by decide) (hcd : (x == ("__classdict__" : Str)) = false := by decide)
    (hb : attributeBase (.Name x p') n X.env (eval (.Name x p') X.env) = eval (.Name x p') X.env := by rfl) : DU ca oi X (.Attribute (.Name x p') n pos) (uFld c0 n) :=
  ⟨fun a oe cls dd pn hz hf => by
    refine ⟨_, pe_xf T hno hz hf (pv (X := X.suite a ((a, oe) :: pn)) i hN hv hd hcd) hb, fun σ H Q ρ st μ c fs v I hg k => ?_⟩
    unfold uFld at hg
    split at hg
    · rename_i hc
      subst hc
      cases fs with
      | none => cases hg
      | some l =>
        have hl : l.lookup n = some v := hg
        obtain ⟨d', fvs, e1, e2, r⟩ := I.xf
        obtain ⟨w, h1, h2⟩ := (lookF r).1 v hl
        exact ⟨.ref a, I.nm i hoi, rfl, I.cls, d', fvs, w, e1, e2, h1, k H w .refl I h2⟩
    · cases hg⟩
/-- isinstance of the error -/
structure ExI (K : PySem.W.Frag) (C : Addr) : Prop where
  ga : PySem.W.findIn K (.ref C) "__getattribute__" = some (some (.builtin "BaseException.__getattribute__"))
  gg : PySem.W.findIn K (.ref C) "__getattr__" = some none
  sb : PySem.W.subIn K (.ref C) (.type "BaseException") = some true
  hd : PySem.W.hasDictIn K C = true
  ty : PySem.W.typeIn K (.ref C) = some (.type "type")
  ac : PySem.W.findIn K (.ref C) "__class__" = some (some (.builtin "object.__class__"))
  sp : PySem.W.specialIn K (.builtin "object.__class__") "__get__" = some (some (.builtin "getset_descriptor.__get__"))
  tk : PySem.W.takesIn K (.builtin "object.__class__") = some true
  ob : PySem.W.mroIn K C (.type "object") = some true
theorem ExI.cl {K : PySem.W.Frag} {C : Addr} (h : ExI K C) : (PySem.W.clsIn K C).isSome = true := by
  obtain ⟨cd, e, _⟩ := PySem.W.any_some h.hd
  rw [e]; rfl
theorem ExI.xf {K : PySem.W.Frag} {C : Addr} (h : ExI K C) : XfC K C := ⟨h.ga, h.gg, h.sb, h.hd⟩
theorem ExI.exm {K : PySem.W.Frag} {C : Addr} {cls : Value} {b : Bool} (h : ExI K C) (s : PySem.W.subIn K cls (.ref C) = some b) : PySem.W.exmOne K cls (.ref C) = some b := PySem.W.exm_ref h.sb h.hd h.ty s
theorem ExI.kit {K : PySem.W.Frag} {C : Addr} {t : Value} {b : Bool} (h : ExI K C) (s : PySem.W.subIn K t (.ref C) = some b) (hn : (t == .ref C) = true → b = true) : PySem.W.kitOne K t (.ref C) = some b := by
  unfold PySem.W.kitOne
  split
  · rename_i e; rw [hn e]
  · unfold PySem.W.kitCls
    simp only
    rw [h.cl, h.ty]
    simpa using s
theorem kit_ty {K : PySem.W.Frag} {T : String} {C : Addr} {b : Bool} (s : PySem.W.subIn K (.ref C) (.type T) = some b) (hm : PySem.W.kitMeta T = true) : PySem.W.kitOne K (.ref C) (.type T) = some b := by
  unfold PySem.W.kitOne PySem.W.kitCls
  rw [if_neg (by intro z; have := beq_iff_eq.mp z; cases this)]
  simp only
  rw [if_pos hm]
  exact s
def rIsX (K : PySem.W.Frag) (C a : Addr) (d : Option Addr) : List V → Hp → VK → Prop := fun xs H Q => ∃ (c : V) (cv : Value) (b : Bool), xs = [.ref a, c] ∧ (∀ u, RelV c u → u = cv) ∧ PySem.W.kitOne K (.ref C) cv = some b ∧ (∀ dd, d = some dd → ∃ fs, H dd = some (.xd fs)) ∧ Q (.bl b) H
theorem inst_at {a C : Addr} {oe : Obj} {d : Option Addr} {pn : List (Addr × Obj)} {pins : List (Addr × Obj)} {σ : L2.St} {H : Hp} {s : Shared} (hz : Zc (.ref C) d oe) (hf : ∃ vs, oe.data = .fields vs) (I : Inv (X.suite a ((a, oe) :: pn)) pins σ H s)
    (hx : ∀ dd, d = some dd → ∃ fs, H dd = some (.xd fs)) : ∃ od, PySem.W.InstAt s.heap a oe C od := by
  obtain ⟨hget, _⟩ := I.pin (a, oe) (List.mem_append.mpr (.inl List.mem_cons_self))
  obtain ⟨vs, hv⟩ := hf
  have hn : PySem.W.notCls oe := by unfold PySem.W.notCls; rw [hv] <;> rfl
  cases d with
  | none => exact ⟨none, hget, hz.1, hn, by rw [hz.2]; exact trivial⟩
  | some dd =>
    obtain ⟨fs, ea⟩ := hx dd rfl
    have ho : ObjOk X.prog X.w H s.heap dd (.xd fs) := I.hok dd _ ea
    obtain ⟨mA, hns, hr⟩ := ho
    obtain ⟨od, e, hl⟩ := lookIn_ns hns
    exact ⟨some od, hget, hz.1, hn, by rw [hz.2]; exact e⟩
theorem call_isX {a C : Addr} {oe : Obj} {d : Option Addr} {pn : List (Addr × Obj)} (T : ExI X.K C) (hz : Zc (.ref C) d oe) (hf : ∃ vs, oe.data = .fields vs) : CallR (X.suite a ((a, oe) :: pn)) (.builtin "isinstance") (rIsX X.K C a d) := by
  rintro pins s σ H xs us Q I r ⟨c, cv, b, rfl, hcv, e, hx, q⟩
  obtain ⟨u1, u2, rfl, r1, r2⟩ := vals2 r
  cases r1
  obtain rfl := hcv _ r2
  obtain ⟨od, J⟩ := inst_at hz hf I hx
  exact PySem.W.kia_one (PySem.W.kitx_exc T.cl T.ga T.gg T.sb T.ac T.sp T.tk T.ob) I.kIn J e nofun fun tk => ⟨.bl b, H, I.tok tk, rfl, q⟩
def uIs (c0 : Nat) (b : Bool) : UE := fun c _ _ => if c = c0 then some (.bl b) else none
theorem XFs.has {K : PySem.W.Frag} {μ : List Addr} {H : Hp} {d : Option Addr} {fs : Option (List (Str × D))} (h : XFs K μ H d fs) : ∀ dd, d = some dd → ∃ gs, H dd = some (.xd gs) := by
  rintro dd rfl
  cases fs with
  | none => cases (show some dd = none from h)
  | some fs => obtain ⟨d', fvs, e, e2, _⟩ := h; cases e; exact ⟨fvs, e2⟩
/-- isinstance(error, a class of the program) -/
theorem du_isi {c0 k : Nat} {b : Bool} {x y : Str} {i : Nat} {p p' py : Pos} (T : ExI X.K (ca c0)) (hk : PySem.W.kitOne X.K (.ref (ca c0)) (.ref (ca k)) = some b) (hg : Gl X "isinstance") (hm : X.mg "isinstance" = none) (hv0 : bootBuiltins "isinstance" = some (.builtin "isinstance"))
    (hgy : Gl X y) (hmy : X.mg y = some (.ref (ca k))) (hoi : oi = some i := by rfl) (hN : X.N[i]? = some x := by rfl) (hv : Vis X.env.scope x := by first | exact Or.inl rfl | exact Or.inr (Or.inl rfl) | exact Or.inr (Or.inr rfl)) (hd : (x == ("__debug__" : Str)) = false := by decide)
    (hcd : (x == ("__classdict__" : Str)) = false := by decide) (hdy : (y == ("__debug__" : Str)) = false := by decide)
    (hs : starEach [.Name x p', .Name y py] X.env = (false, eval (.Name x p') X.env) :: starEach [.Name y py] X.env := by rfl) (hs2 : starEach [.Name y py] X.env = (false, eval (.Name y py) X.env) :: starEach [] X.env := by rfl)
    (hpl : (backTo pos (starEach [.Name y py] X.env)).any (·.1) = false := by rfl) : DU ca oi X (.Call (.Name "isinstance" p) [.Name x p', .Name y py] [] pos) (uIs c0 b) :=
  ⟨fun a oe cls dd pn hz hf => by
    by_cases hcl : cls = .ref (ca c0)
    · subst hcl
      have pe := pe_callB (p := p) (X := X.suite a ((a, oe) :: pn)) (call_isX T hz hf) hg hm hv0 (pa_cons (pv (X := X.suite a ((a, oe) :: pn)) i hN hv hd hcd) (pa_cons (pe_glob (v := .ref (ca k)) hgy hmy rfl hdy) pa_nil hs2) hs) (by decide) (by decide) hs hpl
      refine ⟨_, pe, fun σ H Q ρ st μ c fs v I hg k' => ?_⟩
      unfold uIs at hg
      split at hg
      · cases hg
        exact ⟨.ref a, I.nm i hoi, .ref (ca k), .ref (ca k), b, rfl, fun u hu => hu, hk, I.xf.has, k' H _ .refl I (rep_bl.mpr rfl)⟩
      · cases hg
    · refine ⟨fun _ _ _ => False, ⟨fun _ _ _ _ _ _ z => z.elim⟩, fun σ H Q ρ st μ c fs v I hg k' => ?_⟩
      unfold uIs at hg
      split at hg
      · rename_i hc; subst hc; exact hcl I.cls
      · cases hg⟩
/-- .. and a built-in class -/
theorem du_isb {c0 : Nat} {b : Bool} {x y : Str} {T' : String} {i : Nat} {p p' py : Pos} (T : ExI X.K (ca c0)) (hk : PySem.W.kitOne X.K (.ref (ca c0)) (.type T') = some b) (hg : Gl X "isinstance") (hm : X.mg "isinstance" = none) (hv0 : bootBuiltins "isinstance" = some (.builtin "isinstance"))
    (hgy : Gl X y) (hmy : X.mg y = none) (hvy : bootBuiltins y = some (.type T')) (hn : y ≠ "__name__" := by decide) (hoi : oi = some i := by rfl) (hN : X.N[i]? = some x := by rfl) (hv : Vis X.env.scope x := by first | exact Or.inl rfl | exact Or.inr (Or.inl rfl) | exact Or.inr (Or.inr rfl)) (hd : (x == ("__debug__" : Str)) = false := by decide)
    (hcd : (x == ("__classdict__" : Str)) = false := by decide) (hdy : (y == ("__debug__" : Str)) = false := by decide)
    (hs : starEach [.Name x p', .Name y py] X.env = (false, eval (.Name x p') X.env) :: starEach [.Name y py] X.env := by rfl) (hs2 : starEach [.Name y py] X.env = (false, eval (.Name y py) X.env) :: starEach [] X.env := by rfl)
    (hpl : (backTo pos (starEach [.Name y py] X.env)).any (·.1) = false := by rfl) : DU ca oi X (.Call (.Name "isinstance" p) [.Name x p', .Name y py] [] pos) (uIs c0 b) :=
  ⟨fun a oe cls dd pn hz hf => by
    by_cases hcl : cls = .ref (ca c0)
    · subst hcl
      have pe := pe_callB (p := p) (X := X.suite a ((a, oe) :: pn)) (call_isX T hz hf) hg hm hv0 (pa_cons (pv (X := X.suite a ((a, oe) :: pn)) i hN hv hd hcd) (pa_cons (pe_bltn (v := .ty T') hgy hmy hvy rfl hn hdy) pa_nil hs2) hs) (by decide) (by decide) hs hpl
      refine ⟨_, pe, fun σ H Q ρ st μ c fs v I hg k' => ?_⟩
      unfold uIs at hg
      split at hg
      · cases hg
        exact ⟨.ref a, I.nm i hoi, .ty T', .type T', b, rfl, fun u hu => hu, hk, I.xf.has, k' H _ .refl I (rep_bl.mpr rfl)⟩
      · cases hg
    · refine ⟨fun _ _ _ => False, ⟨fun _ _ _ _ _ _ z => z.elim⟩, fun σ H Q ρ st μ c fs v I hg k' => ?_⟩
      unfold uIs at hg
      split at hg
      · rename_i hc; subst hc; exact hcl I.cls
      · cases hg⟩
end
end DL

set_option Elab.async false
set_option linter.all false
set_option maxRecDepth 100000
set_option maxHeartbeats 4000000
namespace DL
open PySem L2 PySem.Spec PyProof.Rows
def uNot (g : UE) : UE := fun c fs ρ => match g c fs ρ with
  | some (.bl b) => some (.bl (!b))
  | _ => none
def uNil : UEs := fun _ _ _ => some []
def uCons (g : UE) (h : UEs) : UEs := fun c fs ρ => (g c fs ρ).bind fun x => (h c fs ρ).map fun xs => x :: xs
def uTup (h : UEs) : UE := fun c fs ρ => (h c fs ρ).bind fun xs => if xs.length ≤ sizeLine then some (.tup xs) else none
def uOr (g h : UE) : UE := fun c fs ρ => match g c fs ρ with
  | some (.bl true) => some (.bl true)
  | some (.bl false) => h c fs ρ
  | _ => none
section
variable {X : Cx} {ca : Nat → Addr} {oi : Option Nat} {e f c0 : Expr} {es rest : List Expr} {pos : Pos} {g h : UE} {ga : UEs}
theorem du_not (hg : DU ca oi X e g) : DU ca oi X (.UnaryOp .Not e pos) (uNot g) :=
  ⟨fun a oe cls dd pn hz hf => by
    obtain ⟨t, p, q⟩ := hg.ex a oe cls dd pn hz hf
    refine ⟨_, pe_not p, fun σ H Q ρ st μ c fs v I hv k => ?_⟩
    unfold uNot at hv
    split at hv
    · rename_i b hb
      cases hv
      refine q σ H _ ρ st μ c fs _ I hb fun H' w e' I' r => ?_
      exact ⟨b, rep_bl.mp r, k H' _ e' I' (rep_bl.mpr rfl)⟩
    · cases hv⟩
theorem dua_nil : DUA ca oi X [] uNil := ⟨fun a oe cls dd pn _ _ => ⟨_, pa_nil, fun σ H Q ρ st μ c fs v I hv k => by cases hv; exact k H _ .refl I (repL_nil.mpr rfl)⟩⟩
theorem dua_cons (h1 : DU ca oi X e g) (h2 : DUA ca oi X es ga) (hs : starEach (e :: es) X.env = (false, eval e X.env) :: starEach es X.env := by rfl) : DUA ca oi X (e :: es) (uCons g ga) :=
  ⟨fun a oe cls dd pn hz hf => by
    obtain ⟨t, p, q⟩ := h1.ex a oe cls dd pn hz hf
    obtain ⟨u, p2, q2⟩ := h2.ex a oe cls dd pn hz hf
    refine ⟨_, pa_cons p p2 hs, fun σ H Q ρ st μ c fs v I hv k => ?_⟩
    unfold uCons at hv
    obtain ⟨x, hx, hv⟩ := Option.bind_eq_some_iff.mp hv
    obtain ⟨xs, hxs, rfl⟩ := Option.map_eq_some_iff.mp hv
    refine q σ H _ ρ st μ c fs _ I hx fun H1 w e1 I1 r1 => ?_
    refine q2 σ H1 _ ρ st μ c fs _ I1 hxs fun H2 ws e2 I2 r2 => ?_
    exact k H2 _ (e1.trans e2) I2 (repL_cons.mpr ⟨w, ws, rfl, r1.mono e2, r2⟩)⟩
theorem du_tup {kk : Nat} (h1 : DUA ca oi X es ga) : DU ca oi X (.Tuple es kk pos) (uTup ga) :=
  ⟨fun a oe cls dd pn hz hf => by
    obtain ⟨t, p, q⟩ := h1.ex a oe cls dd pn hz hf
    refine ⟨_, pe_tupF p, fun σ H Q ρ st μ c fs v I hv k => ?_⟩
    unfold uTup at hv
    obtain ⟨xs, hxs, hv⟩ := Option.bind_eq_some_iff.mp hv
    split at hv
    · rename_i hz
      cases hv
      refine q σ H _ ρ st μ c fs _ I hxs fun H1 ws e1 I1 r1 => ⟨by rw [r1.length]; exact hz, fun p o hp hd => ?_⟩
      have e2 : Ext X.K μ H1 μ (upd H1 p (.frz o (.tup ws))) := .updM (.inl hp)
      exact k _ _ (e1.trans e2) (I1.fresh hp) (rep_tup.mpr ⟨p, ws, rfl, .inl ⟨o, hd, upd_same⟩, r1.mono e2⟩)
    · cases hv⟩
theorem dut_val (hg : DU ca oi X e g) (he : ∀ (a : Addr) (pn : List (Addr × Obj)) whole, isTrue e X.env whole = (do let v ← whole; standAt e.pos; holding [v] (truthy v)) := by intro _ _ _; rfl) : DUT ca oi X e g :=
  ⟨fun a oe cls dd pn hz hf => by
    obtain ⟨t, p, q⟩ := hg.ex a oe cls dd pn hz hf
    refine ⟨_, pt_val p (he a pn), fun σ H Q ρ st μ c fs b I hv k => ?_⟩
    exact q σ H _ ρ st μ c fs _ I hv fun H' w e' I' r => ⟨b, rep_bl.mp r, k H' e' I'⟩⟩
theorem dut_not (hg : DUT ca oi X e g) : DUT ca oi X (.UnaryOp .Not e pos) (uNot g) :=
  ⟨fun a oe cls dd pn hz hf => by
    obtain ⟨t, p, q⟩ := hg.ex a oe cls dd pn hz hf
    refine ⟨_, pt_not p, fun σ H Q ρ st μ c fs b I hv k => ?_⟩
    unfold uNot at hv
    split at hv
    · rename_i b' hb
      cases hv
      exact q σ H _ ρ st μ c fs _ I hb fun H' e' I' => k H' e' I'
    · cases hv⟩
theorem duw_or1 (hg : DUT ca oi X e g) : DUW ca oi X (.BoolOp .Or [e] pos) g :=
  ⟨fun a oe cls dd pn hz hf => let ⟨t, p, q⟩ := hg.ex a oe cls dd pn hz hf; ⟨t, pw_or1 p, q⟩⟩
theorem duw_or (h1 : DUT ca oi X e g) (h2 : DUW ca oi X (.BoolOp .Or (f :: rest) pos) h) : DUW ca oi X (.BoolOp .Or (e :: f :: rest) pos) (uOr g h) :=
  ⟨fun a oe cls dd pn hz hf => by
    obtain ⟨t, p, q⟩ := h1.ex a oe cls dd pn hz hf
    obtain ⟨u, p2, q2⟩ := h2.ex a oe cls dd pn hz hf
    refine ⟨_, pw_or p p2, fun σ H Q ρ st μ c fs b I hv k => ?_⟩
    unfold uOr at hv
    split at hv
    · rename_i hb
      cases hv
      exact q σ H _ ρ st μ c fs _ I hb fun H' e' I' => iteT (k H' e' I')
    · rename_i hb
      refine q σ H _ ρ st μ c fs _ I hb fun H1 e1 I1 => iteF ?_
      exact q2 σ H1 _ ρ st μ c fs _ I1 hv fun H2 e2 I2 => k H2 (e1.trans e2) I2
    · cases hv⟩
theorem DUW.dt (h : DUW ca oi X e g) : DUT ca oi X e g := ⟨fun a oe cls dd pn hz hf => let ⟨t, p, q⟩ := h.ex a oe cls dd pn hz hf; ⟨t, p.pt, q⟩⟩
/-! statements -/
def uRet (g : UE) : US := fun c fs ρ => (g c fs ρ).map .rt
def uSet (i : Nat) (g : UE) : US := fun c fs ρ => (g c fs ρ).map fun v => .nx (ρ.set i (some v))
def uIfRet (t g : UE) (r : US) : US := fun c fs ρ => match t c fs ρ with
  | some (.bl true) => (g c fs ρ).map .rt
  | some (.bl false) => r c fs ρ
  | _ => none
theorem dus_ret (hg : DU ca oi X e g) : DUs ca oi X [.Return (some e) pos] (uRet g) :=
  ⟨fun a oe cls dd pn hz hf => by
    obtain ⟨t, p, q⟩ := hg.ex a oe cls dd pn hz hf
    refine ⟨_, pss_one (ps_ret p), fun σ H Q ρ st μ c fs ctl I hv k => ?_⟩
    obtain ⟨v, hv', rfl⟩ := Option.map_eq_some_iff.mp hv
    exact q σ H _ ρ st μ c fs _ I hv' fun H' w e' I' r => k H' e' I'.sim w r⟩
theorem dus_set {i : Nat} {y : Str} {py : Pos} (hN : X.N.Nodup) (hg : DU ca oi X e g) (hi : X.N[i]? = some y := by rfl) (hx : Loc X.env.scope y := by first | exact .inl rfl | exact .inr rfl)
    (hs : swapsWith e (some (.Name y py)) pos.line X.env = pure false := by rfl) (hf' : X.fn y = true ∨ X.env.scope.names.lookup y = some .local := by first | exact .inl rfl | exact .inr rfl) : DUs ca oi X [.Assign [.Name y py] e pos] (uSet i g) :=
  ⟨fun a oe cls dd pn hz hf => by
    obtain ⟨t, p, q⟩ := hg.ex a oe cls dd pn hz hf
    refine ⟨_, pss_one (ps_set (X := X.suite a ((a, oe) :: pn)) hN hi hx p hs hf'), fun σ H Q ρ st μ c fs ctl I hv k => ?_⟩
    obtain ⟨v, hv', rfl⟩ := Option.map_eq_some_iff.mp hv
    exact q σ H _ ρ st μ c fs _ I hv' fun H' w e' I' r => k H' e' I'.sim _ (I'.env.set i r)⟩
theorem dus_ifret {tt : UE} {r : US} {p1 : Pos} {ss : List Stmt} (ht : DUT ca oi X c0 tt) (hg : DU ca oi X e g) (hr : DUs ca oi X ss r) : DUs ca oi X (.If c0 [.Return (some e) p1] [] pos :: ss) (uIfRet tt g r) :=
  ⟨fun a oe cls dd pn hz hf => by
    obtain ⟨t1, p1', q1⟩ := ht.ex a oe cls dd pn hz hf
    obtain ⟨t, p, q⟩ := hg.ex a oe cls dd pn hz hf
    obtain ⟨u, p2, q2⟩ := hr.ex a oe cls dd pn hz hf
    refine ⟨_, pss_cons (ps_if p1' (pss_one (ps_ret p)) pss_nil) p2, fun σ H Q ρ st μ c fs ctl I hv k => ?_⟩
    unfold uIfRet at hv
    split at hv
    · rename_i hb
      obtain ⟨v, hv', rfl⟩ := Option.map_eq_some_iff.mp hv
      refine q1 σ H _ ρ st μ c fs _ I hb fun H1 e1 I1 => iteT ?_
      exact q σ H1 _ ρ st μ c fs _ I1 hv' fun H' w e' I' r => k H' (e1.trans e') I'.sim w r
    · rename_i hb
      refine q1 σ H _ ρ st μ c fs _ I hb fun H1 e1 I1 => iteF ?_
      exact q2 σ H1 Q ρ st μ c fs _ I1 hv fun H' e' s' => k H' (e1.trans e') s'
    · cases hv⟩
end

/-! ### try -/
structure HdE where
  k : Nat
  oi : Option Nat
  h : US
def runH (h : HdE) (c : Nat) (fs : Option (List (Str × D))) (ρ : En) : Option Ctl := match h.oi with
  | none => h.h c fs ρ
  | some i => if i < ρ.length then (match h.h c fs (ρ.set i none) with
    | some (.nx ρ') => some (.nx (ρ'.set i none))
    | r => r) else none
def tryH (ex : Nat → Nat → Option Bool) : List HdE → Nat → Option (List (Str × D)) → En → M Ctl
  | [], c, fs, _ => fun st => .raise c fs st
  | h :: r, c, fs, ρ => fun st => match ex c h.k with
    | some true => (match runH h c fs ρ with
      | some (.rt v) => .ok (.rt v) st
      | some (.nx ρ') => .ok (.nx ρ') st
      | _ => .stuck)
    | some false => tryH ex r c fs ρ st
    | none => .stuck
def sTry (ex : Nat → Nat → Option Bool) (hs : List HdE) (b : En → M Ctl) : En → M Ctl := fun ρ st => match b ρ st with
  | .raise c fs st' => tryH ex hs c fs ρ st'
  | r => r
section
variable {X : Cx} {ca : Nat → Addr} {E : XK} {pos : Pos} {body : List Stmt} {fb : En → M Ctl} {ex : Nat → Nat → Option Bool}
inductive HdD (ca : Nat → Addr) (ex : Nat → Nat → Option Bool) (X : Cx) : List ExceptHandler → List HdE → Prop
  | nil : HdD ca ex X [] []
  | anon {x : Str} {k : Nat} {h : US} {b₀ : Stmt} {ss : List Stmt} {np pos' : Pos} {hds : List ExceptHandler} {l : List HdE}
      (hc : Names X x (.ref (ca k))) (he : ∀ c b, ex c k = some b → PySem.W.exmOne X.K (.ref (ca c)) (.ref (ca k)) = some b) (hsu : DUs ca none X (b₀ :: ss) h) (r : HdD ca ex X hds l) :
      HdD ca ex X (.ExceptHandler (some (.Name x np)) none (b₀ :: ss) pos' :: hds) (⟨k, none, h⟩ :: l)
  | named {x n : Str} {i k : Nat} {h : US} {b₀ : Stmt} {ss : List Stmt} {np pos' : Pos} {hds : List ExceptHandler} {l : List HdE}
      (hi : X.N[i]? = some n) (hln : X.env.kindOf n = some .local) (hc : Names X x (.ref (ca k))) (he : ∀ c b, ex c k = some b → PySem.W.exmOne X.K (.ref (ca c)) (.ref (ca k)) = some b) (hsu : DUs ca (some i) X (b₀ :: ss) h) (r : HdD ca ex X hds l) :
      HdD ca ex X (.ExceptHandler (some (.Name x np)) (some n) (b₀ :: ss) pos' :: hds) (⟨k, some i, h⟩ :: l)
theorem envR_none {K : PySem.W.Frag} {μ : List Addr} {H : Hp} {ρ : En} {σ : L2.St} (i : Nat) (v : Option V) (h : EnvR K μ H ρ σ) : EnvR K μ H (ρ.set i none) (σ.set i v) := by
  refine ⟨by simp [h.1], fun j d q => ?_⟩
  by_cases hj : i = j
  · subst hj
    by_cases hl : i < ρ.length
    · rw [List.getElem?_set_self hl] at q; cases q
    · rw [List.getElem?_eq_none (by simpa using hl)] at q; cases q
  · rw [List.getElem?_set_ne hj] at q
    obtain ⟨w, h1, h2⟩ := h.2 j d q
    exact ⟨w, by rw [List.getElem?_set_ne hj]; exact h1, h2⟩
abbrev Wo (E : XK) : WX := fun cls d _ H => E cls d H
theorem hd_ok {hds : List ExceptHandler} {l : List HdE} (hh : HdD ca ex X hds l) : ∃ l', HdsA X hds l' ∧ ∀ (Q : Ends) (c : Nat) (fs : Option (List (Str × D))) (ρ : En) (st : Sto) (σ : L2.St) (μ : List Addr) (H : Hp), Post X.K ca E μ H (tryH ex l c fs ρ st) (KC X.K ca μ H Q) → EnvR X.K μ H ρ σ →
    ∀ μ' H' od, Ext X.K μ H μ' H' → Sim X.K ca μ' st H' → XFs X.K μ' H' od fs → wH X.K (Wo E) Q l' (.ref (ca c)) od σ H' := by
  induction hh with
  | nil => exact ⟨[], .nil, fun Q c fs ρ st σ μ H h re μ' H' od e s x => h μ' H' od e s x⟩
  | @anon x k h b₀ ss np pos' hds l hc he hsu r ih =>
    obtain ⟨l', a1, a2⟩ := ih
    let ts : HT' := fun a cls d D σ H => ∀ oe pn (hz : Zc cls d oe) (hf : ∃ vs, oe.data = .fields vs), (hsu.ex a oe cls d pn hz hf).choose D σ H
    refine ⟨(.ref (ca k), none, ts) :: l', .anon hc (fun a oe cls d pn hz hf => ⟨fun pins s σ H D I q => (hsu.ex a oe cls d pn hz hf).choose_spec.1.run pins s σ H D I (q oe pn hz hf)⟩) a1, fun Q c fs ρ st σ μ H hp re μ' H' od e s xf => ?_⟩
    unfold tryH at hp
    cases q : ex c k with
    | none => simp only [q] at hp; exact hp.elim
    | some b =>
      simp only [q] at hp
      refine ⟨b, he c b q, fun hb a na => ?_, fun hb => ?_⟩
      · subst hb
        simp only at hp
        intro oe pn hz hf
        split at hp
        · rename_i v hctl
          exact (hsu.ex a oe _ od pn hz hf).choose_spec.2 σ H' Q ρ st μ' c fs _ ⟨rfl, xf, nofun, re.mono e, s⟩ hctl fun H2 e2 s2 => (Post.ok.mp hp : KC X.K ca μ H Q (.rt v) st) μ' H2 (e.trans e2) s2
        · rename_i ρ' hctl
          exact (hsu.ex a oe _ od pn hz hf).choose_spec.2 σ H' Q ρ st μ' c fs _ ⟨rfl, xf, nofun, re.mono e, s⟩ hctl fun H2 e2 s2 => (Post.ok.mp hp : KC X.K ca μ H Q (.nx ρ') st) μ' H2 (e.trans e2) s2
        · exact hp.elim
      · subst hb
        exact a2 Q c fs ρ st σ μ H hp re μ' H' od e s xf
  | @named x n i k h b₀ ss np pos' hds l hi hln hc he hsu r ih =>
    obtain ⟨l', a1, a2⟩ := ih
    let ts : HT' := fun a cls d D σ H => ∀ oe pn (hz : Zc cls d oe) (hf : ∃ vs, oe.data = .fields vs), (hsu.ex a oe cls d pn hz hf).choose D σ H
    refine ⟨(.ref (ca k), some i, ts) :: l', .named hi hln hc (fun a oe cls d pn hz hf => ⟨fun pins s σ H D I q => (hsu.ex a oe cls d pn hz hf).choose_spec.1.run pins s σ H D I (q oe pn hz hf)⟩) a1, fun Q c fs ρ st σ μ H hp re μ' H' od e s xf => ?_⟩
    unfold tryH at hp
    cases q : ex c k with
    | none => simp only [q] at hp; exact hp.elim
    | some b =>
      simp only [q] at hp
      refine ⟨b, he c b q, fun hb a na => ?_, fun hb => ?_⟩
      · subst hb
        simp only at hp
        intro oe pn hz hf
        unfold runH at hp
        simp only at hp
        by_cases hl : i < ρ.length
        · simp only [hl, if_true] at hp
          have hl' : i < σ.length := by rw [← re.1]; exact hl
          have ins : InS X.K ca (some i) a (.ref (ca c)) od (σ.set i (some (.ref a))) H' (ρ.set i none) st μ' c fs :=
            ⟨rfl, xf, fun j hj => by cases hj; exact List.getElem?_set_self hl', envR_none i _ (re.mono e), s⟩
          cases hc' : h c fs (ρ.set i none) with
          | none => rw [hc'] at hp; exact hp.elim
          | some ctl =>
            rw [hc'] at hp
            cases ctl with
            | rt v => exact (hsu.ex a oe _ od pn hz hf).choose_spec.2 _ H' (unset Q i) _ st μ' c fs _ ins hc' fun H2 e2 s2 => (Post.ok.mp hp : KC X.K ca μ H Q (.rt v) st) μ' H2 (e.trans e2) s2
            | nx ρ' =>
              refine (hsu.ex a oe _ od pn hz hf).choose_spec.2 _ H' (unset Q i) _ st μ' c fs _ ins hc' fun H2 e2 s2 σ' re' => ?_
              exact (Post.ok.mp hp : KC X.K ca μ H Q (.nx (ρ'.set i none)) st) μ' H2 (e.trans e2) s2 _ (envR_none i none re')
            | bk ρ' => exact hp.elim
            | ct ρ' => exact hp.elim
        · simp only [hl, if_false] at hp
          exact hp.elim
      · subst hb
        exact a2 Q c fs ρ st σ μ H hp re μ' H' od e s xf
theorem ds_try {h₀ : ExceptHandler} {hds : List ExceptHandler} {l : List HdE} (hst : X.stack = X.env :: X.outer) (hf : X.env.frame = some X.env.locals) (hN : X.N.Nodup) (tk : Takes X (Wo E))
    (hb : ∀ (W : WX) (pn : List (Addr × Obj)) (xe : Value → Shared → Prop), Takes (X.tr pn xe) W → PassesOwn (model X.prog X.w) X.A X.env xe → DSsr ca (WE W) (X.tr pn xe) body fb) (hh : HdD ca ex X (h₀ :: hds) l) :
    DS ca E X (.Try body (h₀ :: hds) [] [] pos) (sTry ex l fb) := by
  obtain ⟨l', a1, a2⟩ := hd_ok (E := E) hh
  let tb : WX → TS := fun W D σ H => ∀ pn xe (tk' : Takes (X.tr pn xe) W) (po : PassesOwn (model X.prog X.w) X.A X.env xe), (hb W pn xe tk' po).ex.choose D σ H
  refine ⟨_, ps_try_h (tb := tb) hst hf hN tk (fun W pn xe tk' po => ⟨fun pins s σ H D I q => (hb W pn xe tk' po).ex.choose_spec.1.run pins s σ H D I (q pn xe tk' po)⟩) a1, fun σ H Q ρ st μ re s h => ?_⟩
  intro pn xe tk' po
  refine (hb _ pn xe tk' po).ex.choose_spec.2 σ H Q ρ st μ re s ?_
  unfold sTry at h
  cases q : fb ρ st with
  | ok ctl st' => rw [q] at h; exact h
  | stuck => rw [q] at h; exact h.elim
  | raise c fs st' =>
    rw [q] at h
    exact fun μ' H' od e s' xf => a2 Q c fs ρ st' σ μ H h re μ' H' od e s' xf
end
def nrE (f : En → M D) : En → M D := fun ρ => nr (f ρ)
theorem de_r {X : Cx} {ca : Nat → Addr} {E : L2.St → XK} {e : Expr} {f : En → M D} (h : DE ca E0 X e f) : DEr ca E X e (nrE f) := h.r
theorem BindsD.nil {K : PySem.W.Frag} {fd : FuncData} {ps : List Str} (h : BindsD K fd ps []) : Binds K fd ps [] := by
  obtain ⟨dvs, ds, h1, h2, h3⟩ := h
  have e := repL_nil.mp (h3 [] (fun _ => none))
  subst e
  cases h1
  exact h2
theorem kit_own {K : PySem.W.Frag} {c k : Addr} {b : Bool} (h : ExI K k) (s1 : PySem.W.subIn K (.ref c) (.ref c) = some true) (s2 : PySem.W.subIn K (.ref c) (.ref k) = some b) : PySem.W.kitOne K (.ref c) (.ref k) = some b :=
  h.kit s2 fun z => by
    have e : c = k := Value.ref.inj (beq_iff_eq.mp z)
    subst e
    rw [s1] at s2
    exact (Option.some.inj s2).symm
/-! isinstance(error, (A, B, ..)) -/
inductive KAny (K : PySem.W.Frag) (ca : Nat → Addr) (c0 : Nat) : List Nat → Bool → Prop
  | nil : KAny K ca c0 [] false
  | cons {k : Nat} {ks : List Nat} {b b' : Bool} (h : PySem.W.kitOne K (.ref (ca c0)) (.ref (ca k)) = some b) (r : KAny K ca c0 ks b') : KAny K ca c0 (k :: ks) (b || b')
theorem kitAny_of {K : PySem.W.Frag} {ca : Nat → Addr} {c0 : Nat} {ks : List Nat} {b : Bool} (h : KAny K ca c0 ks b) : PySem.W.kitAny K (.ref (ca c0)) (ks.map fun k => .ref (ca k)) = some b := by
  induction h with
  | nil => rfl
  | @cons k ks b b' h r ih =>
    unfold PySem.W.kitAny
    simp only [List.map_cons, h]
    cases b with
    | true => rfl
    | false => exact ih
inductive GCs (ca : Nat → Addr) (X : Cx) : List Expr → List Nat → Prop
  | nil : GCs ca X [] []
  | cons {y : Str} {py : Pos} {k : Nat} {es : List Expr} {ks : List Nat} (hg : Gl X y) (hm : X.mg y = some (.ref (ca k))) (r : GCs ca X es ks) (hd : (y == ("__debug__" : Str)) = false := by decide)
      (hs : starEach (.Name y py :: es) X.env = (false, eval (.Name y py) X.env) :: starEach es X.env := by rfl) : GCs ca X (.Name y py :: es) (k :: ks)
theorem gcs_nil {ca : Nat → Addr} {X : Cx} : GCs ca X [] [] := .nil
theorem gcs_cons {ca : Nat → Addr} {X : Cx} {y : Str} {py : Pos} {k : Nat} {es : List Expr} {ks : List Nat} (hg : Gl X y) (hm : X.mg y = some (.ref (ca k))) (r : GCs ca X es ks) (hd : (y == ("__debug__" : Str)) = false := by decide)
      (hs : starEach (.Name y py :: es) X.env = (false, eval (.Name y py) X.env) :: starEach es X.env := by rfl) : GCs ca X (.Name y py :: es) (k :: ks) := .cons hg hm r hd hs
theorem GCs.pa {ca : Nat → Addr} {X : Cx} {es : List Expr} {ks : List Nat} (h : GCs ca X es ks) (a : Addr) (pn : List (Addr × Obj)) : ∃ t, PA (X.suite a pn) es t ∧ ∀ σ H (Q : List V → Hp → Prop), Q (ks.map fun k => V.ref (ca k)) H → t σ H Q := by
  induction h with
  | nil => exact ⟨_, pa_nil, fun σ H Q q => q⟩
  | @cons y py k es ks hg hm r hd hs ih =>
    obtain ⟨t, p, q⟩ := ih
    exact ⟨_, pa_cons (pe_glob (X := X.suite a pn) (v := .ref (ca k)) hg hm rfl hd) p hs, fun σ H Q z => q σ H _ z⟩
def rIsT (K : PySem.W.Frag) (C a : Addr) (d : Option Addr) : List V → Hp → VK → Prop := fun xs H Q => ∃ (tp : Addr) (cs : List Addr) (b : Bool), xs = [.ref a, .ref tp] ∧ SqT K H tp (cs.map V.ref) ∧ PySem.W.kitAny K (.ref C) (cs.map Value.ref) = some b ∧ (∀ dd, d = some dd → ∃ fs, H dd = some (.xd fs)) ∧ Q (.bl b) H
theorem vals_refs : ∀ {cs : List Addr} {its : List Value}, Vals (cs.map V.ref) its → its = cs.map Value.ref
  | [], _, h => by cases h; rfl
  | c :: cs, _, h => by
    cases h with
    | cons r rr =>
      cases r
      rw [vals_refs rr]; rfl
section
variable {X : Cx} {ca : Nat → Addr} {oi : Option Nat} {es : List Expr} {pos : Pos}
theorem call_isT {a C : Addr} {oe : Obj} {d : Option Addr} {pn : List (Addr × Obj)} (T : ExI X.K C) (hz : Zc (.ref C) d oe) (hf : ∃ vs, oe.data = .fields vs) : CallR (X.suite a ((a, oe) :: pn)) (.builtin "isinstance") (rIsT X.K C a d) := by
  rintro pins s σ H xs us Q I r ⟨tp, cs, b, rfl, hq, e, hx, q⟩
  obtain ⟨u1, u2, rfl, r1, r2⟩ := vals2 r
  cases r1
  cases r2
  obtain ⟨its, rv, pl, hz'⟩ := I.tuple hq
  have ei := vals_refs rv
  subst ei
  obtain ⟨od, J⟩ := inst_at hz hf I hx
  obtain ⟨⟨oc, od', odt, osl⟩, hol, hcl, nl, hdl⟩ := pl
  simp only at hcl hdl
  subst hcl; subst hdl
  exact PySem.W.kia_tup (PySem.W.kitx_exc T.cl T.ga T.gg T.sb T.ac T.sp T.tk T.ob) I.kIn J hol e nofun fun tk => ⟨.bl b, H, I.tok tk, rfl, q⟩
theorem du_ist {c0 : Nat} {b : Bool} {x : Str} {i kk : Nat} {ks : List Nat} {p p' p2 : Pos} (T : ExI X.K (ca c0)) (hk : PySem.W.kitAny X.K (.ref (ca c0)) (ks.map fun k => .ref (ca k)) = some b) (hg : Gl X "isinstance") (hm : X.mg "isinstance" = none) (hv0 : bootBuiltins "isinstance" = some (.builtin "isinstance"))
    (G : GCs ca X es ks) (hl : ks.length ≤ 100 := by decide) (hoi : oi = some i := by rfl) (hN : X.N[i]? = some x := by rfl) (hv : Vis X.env.scope x := by first | exact Or.inl rfl | exact Or.inr (Or.inl rfl) | exact Or.inr (Or.inr rfl)) (hd : (x == ("__debug__" : Str)) = false := by decide)
    (hcd : (x == ("__classdict__" : Str)) = false := by decide)
    (hs : starEach [.Name x p', .Tuple es kk p2] X.env = (false, eval (.Name x p') X.env) :: starEach [.Tuple es kk p2] X.env := by rfl) (hs2 : starEach [.Tuple es kk p2] X.env = (false, eval (.Tuple es kk p2) X.env) :: starEach [] X.env := by rfl)
    (hpl : (backTo pos (starEach [.Tuple es kk p2] X.env)).any (·.1) = false := by rfl) : DU ca oi X (.Call (.Name "isinstance" p) [.Name x p', .Tuple es kk p2] [] pos) (uIs c0 b) :=
  ⟨fun a oe cls dd pn hz hf => by
    by_cases hcl : cls = .ref (ca c0)
    · subst hcl
      obtain ⟨t, pt, qt⟩ := G.pa a ((a, oe) :: pn)
      have pe := pe_callB (p := p) (X := X.suite a ((a, oe) :: pn)) (call_isT T hz hf) hg hm hv0 (pa_cons (pv (X := X.suite a ((a, oe) :: pn)) i hN hv hd hcd) (pa_cons (pe_tupF pt) pa_nil hs2) hs) (by decide) (by decide) hs hpl
      refine ⟨_, pe, fun σ H Q ρ st μ c fs v I hg k' => ?_⟩
      unfold uIs at hg
      split at hg
      · cases hg
        refine ⟨.ref a, I.nm i hoi, qt σ H _ ⟨by rw [List.length_map]; exact Nat.le_of_lt (Nat.lt_of_le_of_lt hl (by decide)), fun tp o hp ho => ?_⟩⟩
        have I2 := I.fresh (o := .frz o (.tup (ks.map fun k => V.ref (ca k)))) hp
        refine ⟨tp, ks.map ca, b, rfl, ?_, by rw [List.map_map]; exact hk, I2.xf.has, k' _ _ (.updM (.inl hp)) I2 (rep_bl.mpr rfl)⟩
        rw [List.map_map]
        exact .inl (.inr ⟨o, upd_same⟩)
      · cases hg
    · refine ⟨fun _ _ _ => False, ⟨fun _ _ _ _ _ _ z => z.elim⟩, fun σ H Q ρ st μ c fs v I hg k' => ?_⟩
      unfold uIs at hg
      split at hg
      · rename_i hc; subst hc; exact hcl I.cls
      · cases hg⟩
end
end DL

set_option Elab.async false
set_option linter.all false
set_option maxRecDepth 100000
set_option maxHeartbeats 4000000
namespace DL
open PySem L2 PySem.Spec PyProof.Rows
/-! ### in and not in, whatever the items are -/
def memD (st : Sto) (x : D) (ys : List D) : Option Bool := match toPD st 60 x, allO (ys.map (toPD st 60)) with
  | some d, some ds => if SeqAt.shaped d && PyData.canLayAll0 ds && decide (d.depth ≤ 60) then some (ds.any fun z => PyData.eqv z d) else none
  | _, _ => none
def deepIn (neg : Bool) (x y : D) : M D := fun st => match seqOf st y with
  | some ys => (match memD st x ys with
    | some b => .ok (.bl (b != neg)) st
    | none => .stuck)
  | none => .stuck
def orElseM (m n : D → D → M D) (x y : D) : M D := fun st => match m x y st with
  | .stuck => n x y st
  | r => r
abbrev opInX := orElseM opIn (deepIn false)
abbrev opNotInX := orElseM opNotIn (deepIn true)
section
variable {X : Cx} {ca : Nat → Addr}
theorem dop_orElse {o : Value → Value → Sem Value} {m n : D → D → M D} (h1 : DOp ca X o m) (h2 : DOp ca X o n) : DOp ca X o (orElseM m n) := by
  obtain ⟨r, p, g⟩ := h1.ex
  obtain ⟨r', p', g'⟩ := h2.ex
  refine ⟨_, p.or p', fun E x y H Q d e st μ rx ry s h => ?_⟩
  unfold orElseM at h
  split at h
  · exact .inr (g' E x y H Q d e st μ rx ry s h)
  · exact .inl (g E x y H Q d e st μ rx ry s h)
theorem allO_dps {K : PySem.W.Frag} {ca : Nat → Addr} {μ : List Addr} {H : Hp} {st : Sto} {n : Nat} {ys : List D} {vs : List V} {ds : List PyData} (s : Sim K ca μ st H) (h : allO (ys.map (toPD st n)) = some ds) (r : RepL K μ H ys vs) : DpAll K H vs ds := dps_of (fun _ _ _ => dp_of s n) h r
theorem dop_deep (neg : Bool) (hu : X.A.units + 64 < cLine) : DOp ca X (compareOp (if neg then .NotIn else .In)) (deepIn neg) := by
  have rule : OpR X (compareOp (if neg then .NotIn else .In)) (fun x y H Q => ∃ d ds, Dp X.K H x d ∧ (Dp X.K H y (.list ds) ∨ Dp X.K H y (.tuple ds)) ∧ SeqAt.shaped d = true ∧ PyData.canLayAll0 ds = true ∧ d.depth ≤ 60 ∧ Q (.bl ((ds.any fun z => PyData.eqv z d) != neg)) H) := by
    rintro pins s σ H x y v u Q I rx ry ⟨d, ds, hd, he, sd, se, hdd, q⟩
    obtain ⟨as, r1⟩ := Dp.reads I d x v hd rx
    have room : X.A.units + 1 + min (PyData.depthAll ds) d.depth < cLine := by
      have := Nat.min_le_right (PyData.depthAll ds) d.depth
      omega
    rcases he with he | he
    · obtain ⟨bs, r2⟩ := Dp.reads I (.list ds) y u he ry
      cases neg with
      | false => exact SeqAt.in_list_reads r2 r1 se (SeqAt.canLay_of_shaped sd) room ⟨.bl _, H, I, rfl, by simpa using q⟩
      | true => exact SeqAt.notIn_list_reads r2 r1 se (SeqAt.canLay_of_shaped sd) room ⟨.bl _, H, I, rfl, by simpa using q⟩
    · obtain ⟨bs, r2⟩ := Dp.reads I (.tuple ds) y u he ry
      cases neg with
      | false => exact SeqAt.in_tuple_reads r2 r1 se (SeqAt.canLay_of_shaped sd) room ⟨.bl _, H, I, rfl, by simpa using q⟩
      | true => exact SeqAt.notIn_tuple_reads r2 r1 se (SeqAt.canLay_of_shaped sd) room ⟨.bl _, H, I, rfl, by simpa using q⟩
  refine ⟨_, rule, fun E x y H Q d e st μ rx ry s h => ?_⟩
  unfold deepIn memD at h
  split at h
  · rename_i ys hys
    cases q1 : toPD st 60 d with
    | none => rw [q1] at h; exact elimP h
    | some p =>
      cases q2 : allO (ys.map (toPD st 60)) with
      | none => rw [q1, q2] at h; exact elimP h
      | some ds =>
        rw [q1, q2] at h
        simp only at h
        cases sh : SeqAt.shaped p && PyData.canLayAll0 ds && decide (p.depth ≤ 60) with
        | false => rw [sh] at h; exact elimP h
        | true =>
          rw [sh] at h
          rw [Bool.and_eq_true, Bool.and_eq_true] at sh
          refine ⟨p, ds, dp_of s 60 q1 rx, ?_, sh.1.1, sh.1.2, of_decide_eq_true sh.2, h μ H _ .refl s (rep_bl.mpr rfl)⟩
          cases e with
          | tup es =>
            cases hys
            obtain ⟨a, vs, rfl, g1, g2⟩ := rep_tup.mp ry
            exact .inr (.tup g1.sq (allO_dps s q2 g2))
          | loc i =>
            obtain ⟨a, vs, rfl, g1, g2⟩ := sq_of s hys ry
            exact .inl (.lst g1 (allO_dps s q2 g2))
          | _ => cases hys
  · exact elimP h
theorem dop_inX (hu : X.A.units + 64 < cLine) : DOp ca X (compareOp .In) opInX := dop_orElse dop_in (dop_deep false hu)
theorem dop_notInX (hu : X.A.units + 64 < cLine) : DOp ca X (compareOp .NotIn) opNotInX := dop_orElse dop_notIn (dop_deep true hu)
end
end DL

set_option Elab.async false
set_option linter.all false
set_option maxRecDepth 100000
set_option maxHeartbeats 4000000
/-! tuple * int, from 0 on -/
namespace L2
open PySem PySem.Spec PyProof.Rows
theorem tuple_mulW0 (l : Addr) (items : Array Value) (n : Nat) (dd : Option Addr) (sl : Array (Option Value)) (x : Int) (u : Tok) (c0 : (decide (x < -(2 ^ 63)) || decide (x ≥ 2 ^ 63)) = false) (c1 : (items.isEmpty || x == 1) = false) (c2 : (decide (x ≤ 0) || items.isEmpty) = true) :
    Meets (Builtin.«tuple.__mul__» ⟨[.ref l, .int x u], []⟩) (fun _ R s => s.heap.get? l = some { cls := .type "tuple", dict := dd, data := .seq items n, slots := sl } ∧
      R (.ok (.ret (Value.ref s.heap.objs.size))) { s with heap := s.heap.push { cls := Value.type "tuple", data := Data.seq #[] }, toks := s.toks }) :=
  .of_wp fun prog w A R s h => by
    obtain ⟨hp, g, d, tk, os⟩ := s
    obtain ⟨hl, h⟩ := h
    have f1 := AutoSeq1.idx_int
    wp_walk using wpAny_loadPart' hl
    repeat (first
      | (refine wpAny_ite_false (decide_eq_false (by rw [c0]; exact Bool.false_ne_true)) ?_; wp_walk using wpAny_loadPart' hl)
      | (refine wpAny_ite_false (decide_eq_false (by rw [c1]; exact Bool.false_ne_true)) ?_; wp_walk using wpAny_loadPart' hl)
      | (refine wpAny_ite_true (decide_eq_true c2) ?_; wp_walk using wpAny_loadPart' hl))
    exact ⟨_, rfl, h⟩
theorem tuple_mulW1 (l : Addr) (items : Array Value) (n : Nat) (dd : Option Addr) (sl : Array (Option Value)) (x : Int) (u : Tok) (c0 : (decide (x < -(2 ^ 63)) || decide (x ≥ 2 ^ 63)) = false) (c1 : (items.isEmpty || x == 1) = true) :
    Meets (Builtin.«tuple.__mul__» ⟨[.ref l, .int x u], []⟩) (fun _ R s => s.heap.get? l = some { cls := .type "tuple", dict := dd, data := .seq items n, slots := sl } ∧
      R (.ok (.ret (Value.ref l))) s) :=
  .of_wp fun prog w A R s h => by
    obtain ⟨hp, g, d, tk, os⟩ := s
    obtain ⟨hl, h⟩ := h
    have f1 := AutoSeq1.idx_int
    wp_walk using wpAny_loadPart' hl
    repeat (first
      | (refine wpAny_ite_false (decide_eq_false (by rw [c0]; exact Bool.false_ne_true)) ?_; wp_walk using wpAny_loadPart' hl)
      | (refine wpAny_ite_true (decide_eq_true c1) ?_; wp_walk using wpAny_loadPart' hl)
      | (refine wpAny_ite_true (decide_eq_true rfl) ?_; wp_walk using wpAny_loadPart' hl))
    exact ⟨_, rfl, h⟩
end L2
namespace DL
open PySem L2 PySem.Spec PyProof.Rows
section
variable {X : Cx} {ca : Nat → Addr}
theorem op_repT3 : OpR X (binaryOp .Mult) (fun x y H Q => ∃ l k xs, x = V.ref l ∧ y = V.int k ∧ TupR X.K H l xs ∧ xs ≠ [] ∧ 0 ≤ k ∧ k ≤ 1000 ∧ xs.length ≤ 1000 ∧ (k = 1 → Q (.ref l) H) ∧ ∀ (p : Addr) (o : Obj), H p = none → o.dict = none → Q (.ref p) (upd H p (.frz o (.tup (List.replicate k.toNat xs).flatten)))) := by
  intro pins s σ H x y v u Q I rx ry h
  obtain ⟨l, k, xs, rfl, rfl, hT, hne, h1, h2, hz, q1, q⟩ := h
  cases rx
  obtain ⟨t, rfl⟩ := ry
  obtain ⟨its, r, ⟨⟨cls, dd, data, sl⟩, ho, hc, n, hd⟩, hs⟩ := I.tuple hT.sq
  simp only at hc hd
  subst hc hd
  have hle : its.length = xs.length := r.length.symm
  have hn : its ≠ [] := fun e => hne (by
    rw [e] at hle
    exact List.eq_nil_of_length_eq_zero hle.symm)
  have hi : its.toArray.isEmpty = false := by
    cases its with
    | nil => exact absurd rfl hn
    | cons a b => rfl
  have hsz0 : its.toArray.size = xs.length := by rw [List.size_toArray, hle]
  have c0 : (decide (k < -(2 ^ 63)) || decide (k ≥ 2 ^ 63)) = false := by
    rw [decide_eq_false (by omega), decide_eq_false (by omega)] <;> rfl
  by_cases e1 : k = 1
  · have c1 : (its.toArray.isEmpty || k == 1) = true := by rw [e1]; simp
    refine wpAny_binaryOp_repeat_ref (T := "tuple") (U := "int") (by decide) ⟨_, ho, rfl⟩ (fun s' => typeIs_int s' k t) noFill_tuple_mul F.fills_int_mul F.slot_int_rmul repeat_tuple F.slot_int_index.lookup
      (call_meets F.slot_int_rmul (typeIs_int s k t) F.entry_int_rmul (F.args_int_rmul_2 _ _) (int_rmul_tuple k t l its.toArray n dd sl)
        ⟨ho, rfl, ⟨_, ho, rfl⟩, call_meets F.slot_tuple_mul ⟨_, ho, rfl⟩ F.entry_tuple_mul (F.args_tuple_mul_2 _ _) (tuple_mulW1 l its.toArray n dd sl k t c0 c1) ⟨ho, ?_⟩⟩)
    exact ⟨.ref l, H, I, rfl, q1 e1⟩
  have c1 : (its.toArray.isEmpty || k == 1) = false := by
    rw [hi, Bool.false_or]
    exact beq_eq_false_iff_ne.mpr e1
  by_cases e0 : k = 0
  · have c2 : (decide (k ≤ 0) || its.toArray.isEmpty) = true := by rw [e0]; simp
    refine wpAny_binaryOp_repeat_ref (T := "tuple") (U := "int") (by decide) ⟨_, ho, rfl⟩ (fun s' => typeIs_int s' k t) noFill_tuple_mul F.fills_int_mul F.slot_int_rmul repeat_tuple F.slot_int_index.lookup
      (call_meets F.slot_int_rmul (typeIs_int s k t) F.entry_int_rmul (F.args_int_rmul_2 _ _) (int_rmul_tuple k t l its.toArray n dd sl)
        ⟨ho, rfl, ⟨_, ho, rfl⟩, call_meets F.slot_tuple_mul ⟨_, ho, rfl⟩ F.entry_tuple_mul (F.args_tuple_mul_2 _ _) (tuple_mulW0 l its.toArray n dd sl k t c0 c1 c2) ⟨ho, ?_⟩⟩)
    exact laid_tup (its := []) (xs := []) I (by simp) .nil (fun p o hp hd => by have := q p o hp hd; rw [e0] at this; exact this)
  · have hm : ((its.toArray.size : Nat) : Int) * k ≤ 1000000 := by
      rw [hsz0]
      have a1 : ((xs.length : Nat) : Int) * k ≤ 1000 * k := Int.mul_le_mul_of_nonneg_right (by omega) (by omega)
      omega
    have flen : (List.replicate k.toNat its).flatten.length ≤ sizeLine := by
      rw [PyProof.Rows.lm_len_rep_flat, hle, sizeLine_eq]
      have a1 : k.toNat * xs.length ≤ 1000 * 1000 := Nat.mul_le_mul (by omega) hz
      omega
    have flen' : (List.replicate k.toNat xs).flatten.length ≤ sizeLine := by
      rw [PyProof.Rows.lm_len_rep_flat, ← hle, ← PyProof.Rows.lm_len_rep_flat]; exact flen
    have c2 : (decide (k ≤ 0) || its.toArray.isEmpty) = false := by
      rw [hi, Bool.or_false]
      exact decide_eq_false (by omega)
    have c4 : Builtin.Tuple.tupleTooMany (((its.toArray.size : Nat) : Int) * k) = false := by
      unfold Builtin.Tuple.tupleTooMany
      rw [sizeLine_eq]
      exact decide_eq_false (by omega)
    refine wpAny_binaryOp_repeat_ref (T := "tuple") (U := "int") (by decide) ⟨_, ho, rfl⟩ (fun s' => typeIs_int s' k t) noFill_tuple_mul F.fills_int_mul F.slot_int_rmul repeat_tuple F.slot_int_index.lookup
      (call_meets F.slot_int_rmul (typeIs_int s k t) F.entry_int_rmul (F.args_int_rmul_2 _ _) (int_rmul_tuple k t l its.toArray n dd sl)
        ⟨ho, rfl, ⟨_, ho, rfl⟩, call_meets F.slot_tuple_mul ⟨_, ho, rfl⟩ F.entry_tuple_mul (F.args_tuple_mul_2 _ _) (tuple_mulW l its.toArray n dd sl k t c0 c1 c2 (by omega) c4 (by rw [size_rep, List.size_toArray]; exact flen)) ⟨ho, ?_⟩⟩)
    rw [size_rep]
    exact laid_tup I flen' (r.rep k.toNat) q
def opMulT (x y : D) : M D := fun st => match x, y with
  | .tup ds, .int k => if ds ≠ [] ∧ 0 ≤ k ∧ k ≤ 1000 ∧ ds.length ≤ 1000 then .ok (.tup (List.replicate k.toNat ds).flatten) st else .stuck
  | _, _ => .stuck
abbrev opMulX := orElseM opMul opMulT
theorem dop_mulT : DOp ca X (binaryOp .Mult) opMulT := by
  refine ⟨_, op_repT3, fun E x y H Q d e st μ rx ry s h => ?_⟩
  cases d <;> cases e <;> first | exact elimP h | skip
  rename_i ds k
  have rx0 := rx
  rw [rep_int] at ry
  obtain ⟨p, xs, rfl, h1, h2⟩ := rep_tup.mp rx
  unfold opMulT at h
  simp only at h
  split at h
  · rename_i c
    obtain ⟨c1, c2, c3, c4⟩ := c
    refine ⟨p, k, xs, rfl, ry, h1, fun e => c1 (List.eq_nil_of_length_eq_zero (by rw [← h2.length, e]; rfl)), c2, c3, by rw [h2.length]; exact c4, fun e => ?_, fun p o hp hd => new_tup s (h2.rep k.toNat) h hp hd⟩
    subst e
    have : (List.replicate (1 : Int).toNat ds).flatten = ds := by simp
    rw [this] at h
    exact h μ H _ .refl s rx0
  · exact elimP h
theorem dop_mulX : DOp ca X (binaryOp .Mult) opMulX := dop_orElse dop_mul dop_mulT
end
end DL

set_option Elab.async false
set_option linter.all false
set_option maxRecDepth 100000
set_option maxHeartbeats 4000000
namespace DL
open PySem L2 PySem.Spec PyProof.Rows
/-! ### comprehensions of two clauses -/
theorem wipe_wipe {σ : L2.St} (us : List Nat) : wipe (wipe σ us) us = wipe σ us := by
  have key : ∀ (us : List Nat) (τ : L2.St), (∀ v ∈ us, τ[v]? = some none ∨ τ[v]? = none) → wipe τ us = τ := by
    intro us
    induction us with
    | nil => intro τ _; rfl
    | cons v r ih =>
      intro τ ht
      show (wipe τ r).set v none = τ
      rw [ih τ fun v' hv' => ht v' (List.mem_cons_of_mem _ hv')]
      rcases ht v List.mem_cons_self with z | z
      · obtain ⟨hl, ev⟩ := List.getElem?_eq_some_iff.mp z
        apply List.ext_getElem?
        intro j
        by_cases hj : v = j
        · subst hj; rw [List.getElem?_set_self hl, z]
        · rw [List.getElem?_set_ne hj]
      · rw [List.set_eq_of_length_le (List.getElem?_eq_none_iff.mp z)]
  refine key us _ fun v hv => ?_
  have gone : ∀ (us : List Nat) (τ : L2.St), v ∈ us → (wipe τ us)[v]? = some none ∨ (wipe τ us)[v]? = none := by
    intro us
    induction us with
    | nil => intro τ hm; cases hm
    | cons u r ih =>
      intro τ hm
      show ((wipe τ r).set u none)[v]? = some none ∨ ((wipe τ r).set u none)[v]? = none
      by_cases hu : u = v
      · subst hu
        by_cases hl : u < (wipe τ r).length
        · left; rw [List.getElem?_set_self hl]
        · right; rw [List.getElem?_eq_none (by simpa using hl)]
      · rw [List.getElem?_set_ne hu]
        exact ih τ (by cases hm with | head => exact absurd rfl hu | tail _ z => exact z)
  exact gone us σ hv
def lcL2 (ok : Sto → Bool) (g : Item → En → M En) (tt : En → M Bool) (vs1 : List Nat) (f1 : En → M ItD) (g1 : Item → En → M En) (tt1 : En → M Bool) (te : En → M D) (L : Nat) (ρw : En) : List Item → M Unit
  | [] => guardS ok
  | it :: r => do
    guardS ok
    let ρ1 ← nr (g it ρw)
    let b ← nr (tt ρ1)
    if b then do
      let it1 ← nr (f1 ρ1)
      lcL it1.ok g1 tt1 te L (wipeD ρ1 vs1) it1.items
      lcL2 ok g tt vs1 f1 g1 tt1 te L ρw r
    else lcL2 ok g tt vs1 f1 g1 tt1 te L ρw r
def eLc2 (vs vs1 : List Nat) (f : En → M ItD) (g : Item → En → M En) (tt : En → M Bool) (f1 : En → M ItD) (g1 : Item → En → M En) (tt1 : En → M Bool) (te : En → M D) : En → M D := fun ρ => do
  let it ← f ρ
  fun st => (lcL2 it.ok g tt vs1 f1 g1 tt1 te st.length (wipeD ρ vs) it.items >>= fun _ => pure (.loc st.length)) (st ++ [.lst []])
section
variable {ca : Nat → Addr} {E : XK} {g : Item → En → M En} {tt : En → M Bool} {te : En → M D} {vs : List Nat}
/-- the walk of a list of items that puts what it yields into the list at D, then goes on with k -/
theorem lcL_walk {K : PySem.W.Frag} {J : It} {it : ItD} {tgt : TG} {ttt : TT} {tte : TE} {σ : L2.St} {ρ : En} {μ0 : List Addr} {H0 : Hp} {st0 : Sto} {k : Unit → M Unit} {P : Unit → Sto → Prop} {D : Addr} {Ls : Nat} {Nx : Hp → Prop}
    (gg : ∀ σ H Q it x H1 ρ st μ, Yld K μ H x H1 it → EnvR K μ H ρ σ → Sim K ca μ st H → Post K ca E0 μ H (g it ρ st) (fun ρ' st' => ∀ μ' H' σ', Ext K μ H μ' H' → Sim K ca μ' st' H' → EnvR K μ' H' ρ' σ' → wipe σ' vs = wipe σ vs → Q σ' H') → tgt x σ H1 Q)
    (gt : GT K ca E0 ttt tt) (ge : GE K ca E0 tte te) (re : EnvR K μ0 H0 ρ σ) (s : Sim K ca μ0 st0 H0) (hloc : μ0[Ls]? = some D) (wk : WalkOK K ca J it μ0 H0)
    (h : Post K ca E μ0 H0 ((lcL it.ok g tt te Ls (wipeD ρ vs) it.items >>= k) st0) P)
    (nx : ∀ μ' H' st', Ext K μ0 H0 μ' H' → Sim K ca μ' st' H' → Post K ca E μ' H' (k () st') P → Nx H') :
    ∃ W : Nat → Nat → Hp → Prop, (∃ m, W 0 m H0) ∧ ∀ i m H, W i m H →
      (J.stop i H ∧ Nx H) ∨ (J.go i H ∧ ∃ Nx1 : Hp → Prop, (∀ H', Nx1 H' → ∃ m', m' < m ∧ W (i + 1) m' H') ∧ ∀ x H', J.yld i H x H' → tgt x (wipe σ vs) H' fun σ2 H2 => wipe σ2 vs = wipe σ vs ∧ ttt σ2 H2 fun b H3 =>
        if b = true then tte σ2 H3 fun y H4 => ∃ acc, H4 D = some (.lst acc) ∧ acc.length < sizeLine ∧ Nx1 (upd H4 D (.lst (acc ++ [y]))) else Nx1 H3) := by
  let Pv : Nat → Hp → Prop := fun i H' => i ≤ it.items.length ∧ ∃ st' μ', EnvR K μ' H' (wipeD ρ vs) (wipe σ vs) ∧ Sim K ca μ' st' H' ∧ Ext K μ0 H0 μ' H' ∧
    Post K ca E μ' H' ((lcL it.ok g tt te Ls (wipeD ρ vs) (it.items.drop i) >>= k) st') P
  refine ⟨fun i m H' => m = it.items.length - i ∧ Pv i H', ⟨_, rfl, Nat.zero_le _, st0, μ0, wipe_env re vs, s, .refl, ?_⟩, ?_⟩
  · rw [List.drop_zero]; exact h
  rintro i m H' ⟨rfl, hle, st', μ', re', s', e', h'⟩
  have h' := Post.bind.mp h'
  by_cases hlt : i < it.items.length
  · right
    rw [List.drop_eq_getElem_cons hlt] at h'
    unfold lcL at h'
    obtain ⟨ok', h2⟩ := guardS_post h'
    obtain ⟨w1, _⟩ := wk μ' H' st' e' s' ok'
    obtain ⟨go, yl⟩ := w1 i it.items[i] (by simp [hlt])
    refine ⟨go, fun H2 => Pv (i + 1) H2, fun H2 p2 => ⟨it.items.length - (i + 1), by omega, rfl, p2⟩, fun x H2 y => ?_⟩
    refine gg (wipe σ vs) H' _ it.items[i] x H2 (wipeD ρ vs) st' μ' (yl x H2 y) re' s' ((nr_post (Post.bind.mp h2)).imp fun ρ3 st3 h3 => ?_)
    intro μ3 H3 σ3 e3 s3 re3 hw
    refine ⟨by rw [hw, wipe_wipe], ?_⟩
    have h3' := (Post.bind.mp h3).mono e3 fun _ _ z => z
    refine gt σ3 H3 _ ρ3 st3 μ3 re3 s3 ((nr_post h3').imp fun b st4 h4 => ?_)
    intro μ4 H4 e4 s4
    have e14 : Ext K μ0 H0 μ4 H4 := e'.trans (e3.trans e4)
    cases b with
    | true =>
      refine iteT ?_
      have h4' := (Post.bind.mp h4).mono (e3.trans e4) fun _ _ z => z
      refine ge σ3 H4 _ ρ3 st4 μ4 (re3.mono e4) s4 ((nr_post h4').imp fun yv st5 h5 => ?_)
      intro μ5 H5 v e5 s5 rv
      have h5' := (Post.bind.mp h5).mono ((e3.trans e4).trans e5) fun _ _ z => z
      unfold putL at h5'
      split at h5'
      · rename_i acc hacc
        split at h5'
        · rename_i hz
          have e15 := e14.trans e5
          obtain ⟨a, ws, ea, g1, g2, g3, g4⟩ := lst_of s5 hacc (rep_loc.mpr ⟨D, e15.pre _ _ hloc, rfl⟩)
          cases ea
          refine ⟨ws, g3, by rw [g4.length]; exact hz, hlt, ?_⟩
          obtain ⟨s6, e6⟩ := set_lst s5 g1 g2 g3 (g4.append (RepL.one rv))
          exact ⟨_, μ5, re'.mono (((e3.trans e4).trans e5).trans e6), s6, e15.trans e6, Post.bind.mpr ((Post.ok.mp h5').mono (((e3.trans e4).trans e5).trans e6) fun _ _ z => z.mono (((e3.trans e4).trans e5).trans e6) fun _ _ z => z)⟩
        · exact elimP h5'
      · exact elimP h5'
    | false =>
      refine iteF ⟨hlt, st4, μ4, re'.mono (e3.trans e4), s4, e14, Post.bind.mpr (h4.mono (e3.trans e4) fun _ _ z => z.mono (e3.trans e4) fun _ _ z => z)⟩
  · left
    have e00 : it.items.drop i = [] := List.drop_eq_nil_of_le (Nat.le_of_not_lt hlt)
    rw [e00] at h'
    unfold lcL at h'
    have h'' : Post K ca E μ' H' ((guardS it.ok >>= fun u => k u) st') P := by
      rw [Post.bind]; exact h'
    obtain ⟨ok', h2⟩ := guardS_post h''
    obtain ⟨_, w2⟩ := wk μ' H' st' e' s' ok'
    have ei : i = it.items.length := Nat.le_antisymm hle (Nat.le_of_not_lt hlt)
    rw [ei]
    exact ⟨w2, nx μ' H' st' e' s' h2⟩
theorem ge_lc2 {K : PySem.W.Frag} {wi wi1 : TI} {tgt tgt1 : TG} {ttt ttt1 : TT} {tte : TE} {σ : L2.St} {H : Hp} {Q : VK} {ρ : En} {st : Sto} {μ : List Addr} {f f1 : En → M ItD} {g1 : Item → En → M En} {tt1 : En → M Bool} {vs1 : List Nat}
    (gi : ∀ σ H R ρ st μ, EnvR K μ H ρ σ → Sim K ca μ st H → Post K ca E μ H (f ρ st) (fun it st' => ∀ J μ' H', Ext K μ H μ' H' → Sim K ca μ' st' H' → WalkOK K ca J it μ' H' → R J H') → wi σ H R)
    (gg : ∀ σ H Q it x H1 ρ st μ, Yld K μ H x H1 it → EnvR K μ H ρ σ → Sim K ca μ st H → Post K ca E0 μ H (g it ρ st) (fun ρ' st' => ∀ μ' H' σ', Ext K μ H μ' H' → Sim K ca μ' st' H' → EnvR K μ' H' ρ' σ' → wipe σ' vs = wipe σ vs → Q σ' H') → tgt x σ H1 Q)
    (gt : GT K ca E0 ttt tt)
    (gi1 : ∀ σ H R ρ st μ, EnvR K μ H ρ σ → Sim K ca μ st H → Post K ca E0 μ H (f1 ρ st) (fun it st' => ∀ J μ' H', Ext K μ H μ' H' → Sim K ca μ' st' H' → WalkOK K ca J it μ' H' → R J H') → wi1 σ H R)
    (gg1 : ∀ σ H Q it x H1 ρ st μ, Yld K μ H x H1 it → EnvR K μ H ρ σ → Sim K ca μ st H → Post K ca E0 μ H (g1 it ρ st) (fun ρ' st' => ∀ μ' H' σ', Ext K μ H μ' H' → Sim K ca μ' st' H' → EnvR K μ' H' ρ' σ' → wipe σ' vs1 = wipe σ vs1 → Q σ' H') → tgt1 x σ H1 Q)
    (gt1 : GT K ca E0 ttt1 tt1) (ge : GE K ca E0 tte te) (re : EnvR K μ H ρ σ) (s : Sim K ca μ st H) (h : Post K ca E μ H (eLc2 vs vs1 f g tt f1 g1 tt1 te ρ st) (KV K ca μ H Q)) : tLc2 wi tgt ttt wi1 tgt1 ttt1 tte vs vs1 σ H Q := by
  refine gi σ H _ ρ st μ re s ((Post.bind.mp h).imp fun it st1 h1 => ?_)
  intro J μ1 H1 e1 s1 wk L hL
  have h1' := Post.bind.mp h1
  have hloc : (μ1 ++ [L])[st1.length]? = some L := by rw [← s1.len, List.getElem?_append_right (Nat.le_refl _), Nat.sub_self]; rfl
  have s0 : Sim K ca (μ1 ++ [L]) (st1 ++ [.lst []]) (upd H1 L (.lst [])) := s1.push hL ⟨[], upd_same, repL_nil.mpr rfl⟩
  have e0 : Ext K μ1 H1 (μ1 ++ [L]) (upd H1 L (.lst [])) := .push hL
  let Pv : Nat → Hp → Prop := fun i H' => i ≤ it.items.length ∧ ∃ st' μ', EnvR K μ' H' (wipeD ρ vs) (wipe σ vs) ∧ Sim K ca μ' st' H' ∧ Ext K (μ1 ++ [L]) (upd H1 L (.lst [])) μ' H' ∧
    Post K ca E μ' H' (lcL2 it.ok g tt vs1 f1 g1 tt1 te st1.length (wipeD ρ vs) (it.items.drop i) st') (fun _ st2 => KV K ca μ H Q (.loc st1.length) st2)
  refine ⟨fun i m H' => m = it.items.length - i ∧ Pv i H', ⟨_, rfl, Nat.zero_le _, st1 ++ [.lst []], μ1 ++ [L], wipe_env (re.mono (e1.trans e0)) vs, s0, .refl, ?_⟩, ?_⟩
  · rw [List.drop_zero]; exact h1'.mono (e1.trans e0) fun _ _ z => z
  rintro i m H' ⟨rfl, hle, st', μ', re', s', e', h'⟩
  have eB : Ext K μ1 H1 μ' H' := e0.trans e'
  by_cases hlt : i < it.items.length
  · right
    rw [List.drop_eq_getElem_cons hlt] at h'
    unfold lcL2 at h'
    obtain ⟨ok', h2⟩ := guardS_post h'
    obtain ⟨w1, _⟩ := wk μ' H' st' eB s' ok'
    obtain ⟨go, yl⟩ := w1 i it.items[i] (by simp [hlt])
    refine ⟨go, fun H2 => Pv (i + 1) H2, fun H2 p2 => ⟨it.items.length - (i + 1), by omega, rfl, p2⟩, fun x H2 y => ?_⟩
    refine gg (wipe σ vs) H' _ it.items[i] x H2 (wipeD ρ vs) st' μ' (yl x H2 y) re' s' ((nr_post (Post.bind.mp h2)).imp fun ρ3 st3 h3 => ?_)
    intro μ3 H3 σ3 e3 s3 re3 hw
    refine ⟨by rw [hw, wipe_wipe], ?_⟩
    have h3' := (Post.bind.mp h3).mono e3 fun _ _ z => z
    refine gt σ3 H3 _ ρ3 st3 μ3 re3 s3 ((nr_post h3').imp fun b st4 h4 => ?_)
    intro μ4 H4 e4 s4
    have e14 : Ext K (μ1 ++ [L]) (upd H1 L (.lst [])) μ4 H4 := e'.trans (e3.trans e4)
    cases b with
    | true =>
      refine iteT ?_
      have h4' := (Post.bind.mp h4).mono (e3.trans e4) fun _ _ z => z
      refine gi1 σ3 H4 _ ρ3 st4 μ4 (re3.mono e4) s4 ((nr_post h4').imp fun it1 st5 h5 => ?_)
      intro J1 μ5 H5 e5 s5 wk1
      have e15 := e14.trans e5
      have h5' := h5.mono ((e3.trans e4).trans e5) fun _ _ z => z
      refine lcL_walk (vs := vs1) (E := E) (k := fun _ => lcL2 it.ok g tt vs1 f1 g1 tt1 te st1.length (wipeD ρ vs) (it.items.drop (i + 1))) (P := fun _ st2 => KV K ca μ H Q (.loc st1.length) st2) gg1 gt1 ge ((re3.mono e4).mono e5) s5 (e15.pre _ _ hloc) wk1 ?_ (fun μ6 H6 st6 e6 s6 h6 => ⟨hlt, st6, μ6, re'.mono (((e3.trans e4).trans e5).trans e6), s6, e15.trans e6, h6⟩)
      exact h5'
    | false =>
      refine iteF ⟨hlt, st4, μ4, re'.mono (e3.trans e4), s4, e14, h4.mono (e3.trans e4) fun _ _ z => z⟩
  · left
    have e00 : it.items.drop i = [] := List.drop_eq_nil_of_le (Nat.le_of_not_lt hlt)
    rw [e00] at h'
    unfold lcL2 at h'
    have h'' : Post K ca E μ' H' ((guardS it.ok >>= fun u => pure u) st') (fun _ st2 => KV K ca μ H Q (.loc st1.length) st2) := by
      rw [Post.bind]; exact h'.imp fun _ _ z => z
    obtain ⟨ok', h2⟩ := guardS_post h''
    obtain ⟨_, w2⟩ := wk μ' H' st' eB s' ok'
    have ei : i = it.items.length := Nat.le_antisymm hle (Nat.le_of_not_lt hlt)
    rw [ei]
    exact ⟨w2, (h2 : KV K ca μ H Q _ _) μ' H' _ (e1.trans eB) s' (rep_loc.mpr ⟨L, e'.pre _ _ hloc, rfl⟩)⟩
theorem fam_i {ι : Type} {tg iter : Expr} {f : En → M ItD} {K : PySem.W.Frag} {Y : ι → Cx} (hK : ∀ i, (Y i).K = K) (h : ∀ i, DI ca E0 (Y i) tg iter f) : ∃ t, (∀ i, PI (Y i) tg iter t) ∧ ∀ σ H R ρ st μ, EnvR K μ H ρ σ → Sim K ca μ st H →
    Post K ca E0 μ H (f ρ st) (fun it st' => ∀ J μ' H', Ext K μ H μ' H' → Sim K ca μ' st' H' → WalkOK K ca J it μ' H' → R J H') → t σ H R := by
  have h' : ∀ i, ∃ t, PI (Y i) tg iter t ∧ ∀ σ H R ρ st μ, EnvR K μ H ρ σ → Sim K ca μ st H →
    Post K ca E0 μ H (f ρ st) (fun it st' => ∀ J μ' H', Ext K μ H μ' H' → Sim K ca μ' st' H' → WalkOK K ca J it μ' H' → R J H') → t σ H R := fun i => by
    obtain ⟨t, p, q⟩ := (h i).ex
    rw [hK i] at q
    exact ⟨t, p, q⟩
  exact ⟨fun σ H R => ∀ i, (h' i).choose σ H R, fun i => ⟨fun pins s σ H R I q => ((h' i).choose_spec).1.run pins s σ H R I (q i)⟩, fun σ H R ρ st μ re s p i => ((h' i).choose_spec).2 σ H R ρ st μ re s p⟩
variable {X : Cx} {tg iter tg1 iter1 elt : Expr} {ifs ifs1 : List Expr} {pos : Pos} {f f1 : En → M ItD} {g1 : Item → En → M En} {tt1 : En → M Bool}
theorem de_lc2 {scope : Scope} {own : List (Str × Nat)} {vs1 : List Nat} (hc : X.calm = true) (hN : X.N.Nodup) (hi : DI ca E X tg iter f) (ok : BlkOk X.N X.env.scope scope own) (hv : ∀ i ∈ vs1, i ∈ own.map (·.2))
    (hg : ∀ (s : Shared) (H : Hp) (C : Addr) (cl : List (Str × Addr)) (fp : List Addr), DGI ca E0 (own.map (·.2)) (X.blk s H scope (compEnvC scope cl C X.env) fp) tg g)
    (ht : ∀ (s : Shared) (H : Hp) (C : Addr) (cl : List (Str × Addr)) (fp : List Addr), DTs ca E0 (X.blk s H scope (compEnvC scope cl C X.env) fp) ifs tt)
    (hi1 : ∀ (s : Shared) (H : Hp) (C : Addr) (cl : List (Str × Addr)) (fp : List Addr), DI ca E0 (X.blk s H scope (compEnvC scope cl C X.env) fp) tg1 iter1 f1)
    (hg1 : ∀ (s : Shared) (H : Hp) (C : Addr) (cl : List (Str × Addr)) (fp : List Addr), DGI ca E0 vs1 (X.blk s H scope (compEnvC scope cl C X.env) fp) tg1 g1)
    (ht1 : ∀ (s : Shared) (H : Hp) (C : Addr) (cl : List (Str × Addr)) (fp : List Addr), DTs ca E0 (X.blk s H scope (compEnvC scope cl C X.env) fp) ifs1 tt1)
    (he : ∀ (s : Shared) (H : Hp) (C : Addr) (cl : List (Str × Addr)) (fp : List Addr), DE ca E0 (X.blk s H scope (compEnvC scope cl C X.env) fp) elt te) (hs : ∀ x, foldedSetIterable iter X.env x = pure x := by intro _; rfl) (hs1 : ∀ env x, foldedSetIterable iter1 env x = pure x := by intro _ _; rfl) :
    DE ca E X (.ListComp elt [⟨tg, iter, ifs, 0⟩, ⟨tg1, iter1, ifs1, 0⟩] scope pos) (eLc2 (own.map (·.2)) vs1 f g tt f1 g1 tt1 te) := by
  obtain ⟨wi, pi, gi⟩ := hi.ex
  let Y : Shared × Hp × Addr × List (Str × Addr) × List Addr → Cx := fun z => X.blk z.1 z.2.1 scope (compEnvC scope z.2.2.2.1 z.2.2.1 X.env) z.2.2.2.2
  have hK : ∀ z, (Y z).K = X.K := fun _ => rfl
  obtain ⟨t1, p1, q1⟩ := fam_g (Y := Y) hK fun z => hg z.1 z.2.1 z.2.2.1 z.2.2.2.1 z.2.2.2.2
  obtain ⟨t2, p2, q2⟩ := fam_t (Y := Y) hK fun z => ht z.1 z.2.1 z.2.2.1 z.2.2.2.1 z.2.2.2.2
  obtain ⟨t3, p3, q3⟩ := fam_e (Y := Y) hK fun z => he z.1 z.2.1 z.2.2.1 z.2.2.2.1 z.2.2.2.2
  obtain ⟨t4, p4, q4⟩ := fam_i (Y := Y) hK fun z => hi1 z.1 z.2.1 z.2.2.1 z.2.2.2.1 z.2.2.2.2
  obtain ⟨t5, p5, q5⟩ := fam_g (Y := Y) hK fun z => hg1 z.1 z.2.1 z.2.2.1 z.2.2.2.1 z.2.2.2.2
  obtain ⟨t6, p6, q6⟩ := fam_t (Y := Y) hK fun z => ht1 z.1 z.2.1 z.2.2.1 z.2.2.2.1 z.2.2.2.2
  exact ⟨_, pe_lc2 hc hN pi ok hv (fun s H C cl fp => p1 (s, H, C, cl, fp)) (fun s H C cl fp => p2 (s, H, C, cl, fp)) (fun s H C cl fp => p4 (s, H, C, cl, fp)) (fun s H C cl fp => p5 (s, H, C, cl, fp)) (fun s H C cl fp => p6 (s, H, C, cl, fp)) (fun s H C cl fp => p3 (s, H, C, cl, fp)) hs hs1, fun σ H Q ρ st μ re s h => ge_lc2 gi q1 q2 q4 q5 q6 q3 re s h⟩
theorem ds_setLc2 {i : Nat} {y : Str} {py spos : Pos} {scope : Scope} {own : List (Str × Nat)} {vs1 : List Nat} (hc : X.calm = true) (hN : X.N.Nodup) (hi : DI ca E X tg iter f) (ok : BlkOk X.N X.env.scope scope own) (hv : ∀ i ∈ vs1, i ∈ own.map (·.2))
    (hg : ∀ (s : Shared) (H : Hp) (C : Addr) (cl : List (Str × Addr)) (fp : List Addr), DGI ca E0 (own.map (·.2)) (X.blk s H scope (compEnvC scope cl C X.env) fp) tg g)
    (ht : ∀ (s : Shared) (H : Hp) (C : Addr) (cl : List (Str × Addr)) (fp : List Addr), DTs ca E0 (X.blk s H scope (compEnvC scope cl C X.env) fp) ifs tt)
    (hi1 : ∀ (s : Shared) (H : Hp) (C : Addr) (cl : List (Str × Addr)) (fp : List Addr), DI ca E0 (X.blk s H scope (compEnvC scope cl C X.env) fp) tg1 iter1 f1)
    (hg1 : ∀ (s : Shared) (H : Hp) (C : Addr) (cl : List (Str × Addr)) (fp : List Addr), DGI ca E0 vs1 (X.blk s H scope (compEnvC scope cl C X.env) fp) tg1 g1)
    (ht1 : ∀ (s : Shared) (H : Hp) (C : Addr) (cl : List (Str × Addr)) (fp : List Addr), DTs ca E0 (X.blk s H scope (compEnvC scope cl C X.env) fp) ifs1 tt1)
    (he : ∀ (s : Shared) (H : Hp) (C : Addr) (cl : List (Str × Addr)) (fp : List Addr), DE ca E0 (X.blk s H scope (compEnvC scope cl C X.env) fp) elt te)
    (hy : X.N[i]? = some y := by rfl) (hyl : X.env.scope.names.lookup y = some .local := by rfl)
    (hsw : swapsWith (.ListComp elt [⟨tg, iter, ifs, 0⟩, ⟨tg1, iter1, ifs1, 0⟩] scope pos) (some (.Name y py)) spos.line X.env = pure true := by exact sw_true rfl rfl rfl (by decide +kernel)) (hs : ∀ x, foldedSetIterable iter X.env x = pure x := by intro _; rfl) (hs1 : ∀ env x, foldedSetIterable iter1 env x = pure x := by intro _ _; rfl) :
    DS ca E X (.Assign [.Name y py] (.ListComp elt [⟨tg, iter, ifs, 0⟩, ⟨tg1, iter1, ifs1, 0⟩] scope pos) spos) (sAsg (eLc2 (own.map (·.2)) vs1 f g tt f1 g1 tt1 te) (gVar i)) := by
  obtain ⟨wi, pi, gi⟩ := hi.ex
  let Y : Shared × Hp × Addr × List (Str × Addr) × List Addr → Cx := fun z => X.blk z.1 z.2.1 scope (compEnvC scope z.2.2.2.1 z.2.2.1 X.env) z.2.2.2.2
  have hK : ∀ z, (Y z).K = X.K := fun _ => rfl
  obtain ⟨t1, p1, q1⟩ := fam_g (Y := Y) hK fun z => hg z.1 z.2.1 z.2.2.1 z.2.2.2.1 z.2.2.2.2
  obtain ⟨t2, p2, q2⟩ := fam_t (Y := Y) hK fun z => ht z.1 z.2.1 z.2.2.1 z.2.2.2.1 z.2.2.2.2
  obtain ⟨t3, p3, q3⟩ := fam_e (Y := Y) hK fun z => he z.1 z.2.1 z.2.2.1 z.2.2.2.1 z.2.2.2.2
  obtain ⟨t4, p4, q4⟩ := fam_i (Y := Y) hK fun z => hi1 z.1 z.2.1 z.2.2.1 z.2.2.2.1 z.2.2.2.2
  obtain ⟨t5, p5, q5⟩ := fam_g (Y := Y) hK fun z => hg1 z.1 z.2.1 z.2.2.1 z.2.2.2.1 z.2.2.2.2
  obtain ⟨t6, p6, q6⟩ := fam_t (Y := Y) hK fun z => ht1 z.1 z.2.1 z.2.2.1 z.2.2.2.1 z.2.2.2.2
  refine ⟨_, ps_setLc2 hc hN hy hyl hsw pi ok hv (fun s H C cl fp => p1 (s, H, C, cl, fp)) (fun s H C cl fp => p2 (s, H, C, cl, fp)) (fun s H C cl fp => p4 (s, H, C, cl, fp)) (fun s H C cl fp => p5 (s, H, C, cl, fp)) (fun s H C cl fp => p6 (s, H, C, cl, fp)) (fun s H C cl fp => p3 (s, H, C, cl, fp)) hs hs1, fun σ H Q ρ st μ re s h => ?_⟩
  refine ge_lc2 gi q1 q2 q4 q5 q6 q3 re s ((Post.bind.mp h).imp fun d st1 h1 => ?_)
  intro μ1 H1 v e1 s1 r1
  exact (h1 : KC X.K ca μ H Q (.nx _) st1) μ1 H1 e1 s1 _ ((re.mono e1).set i r1)
end
/-! ### a call of a def of the module with keywords -/
def eCallN (n nk : Nat) (m : List D → M D) (fa fk : En → M (List D)) : En → M D := fun ρ => do
  let ds ← fa ρ; let zs ← fk ρ
  if ds.length = n ∧ zs.length = nk then m (ds ++ zs) else stuck
section
variable {X : Cx} {ca : Nat → Addr} {E : XK} {CX : CXT} {k n : Nat} {f : Addr} {fd : FuncData} {ps ks : List Str} {m : List D → M D} {x : Str} {p pos : Pos} {e : Expr} {es : List Expr} {kws : List Keyword} {fa fk : En → M (List D)}
theorem de_callN {g : List Value → List Value → List Value} {gV : List V → List V → List V} (F : FnOk X.prog X.w X.K X.mg X.base CX k f fd ps (spD X.K ca m)) (hr : Room k X.A) (hg : Gl X x) (hm : X.mg x = some (.ref f)) (hk : PySem.W.keepIn X.K (.ref f) = true) (hb : KBn X.K fd ps n ks g gV) (hgV : ∀ vs ws, gV vs ws = vs ++ ws) (hx : Passes CX X E)
    (ha : DA ca E X (e :: es) fa) (hkw : DK ca E X kws fk) (hall : (backToKw pos (keywordEach kws X.env)).all (·.1.isSome) = true := by rfl) (hks : (backToKw pos (keywordEach kws X.env)).filterMap (·.1) = ks := by rfl) (hdb : (x == ("__debug__" : Str)) = false := by decide)
    (he : starEach (e :: es) X.env = (false, eval e X.env) :: starEach es X.env := by rfl) (hpl : ((backTo pos (starEach (e :: es) X.env)).any (·.1) || (backToKw pos (keywordEach kws X.env)).any (·.1.isNone)) = false := by rfl) :
    DE ca E X (.Call (.Name x p) (e :: es) kws pos) (eCallN n ks.length m fa fk) := by
  obtain ⟨t, pa, ga⟩ := ha.ex
  obtain ⟨tk, pk, gk⟩ := hkw.ex
  refine ⟨_, pe_callN F hr hg hm hk hb hx pa pk hall hks hdb he hpl, fun σ H Q ρ st μ re s h => ?_⟩
  refine ga.bind re s h fun ds st1 μ1 H1 vs e1 s1 r1 re1 h1 => ?_
  refine gk.bind re1 s1 h1 fun zs st2 μ2 H2 ws e2 s2 r2 re2 h2 => ?_
  split at h2
  · rename_i hl
    refine ⟨by rw [r1.length]; exact hl.1, by rw [r2.length]; exact hl.2, ds ++ zs, st2, μ2, ?_, s2, h2.imp fun _ _ z => z.mono (e1.trans e2)⟩
    rw [hgV]
    exact (r1.mono e2).append r2
  · exact h2.elim
end
end DL

set_option Elab.async false
set_option linter.all false
set_option maxRecDepth 100000
set_option maxHeartbeats 4000000
namespace DL
open PySem L2 PySem.Spec PyProof.Rows RZ
/-! ### a walk over zip of two tuples -/
def zipD : List D → List D → List Item
  | d :: ds, e :: es => .two d e :: zipD ds es
  | _, _ => []
theorem zipD_get : ∀ {ds es : List D} {i : Nat} {it : Item}, (zipD ds es)[i]? = some it → ∃ d e, ds[i]? = some d ∧ es[i]? = some e ∧ it = .two d e
  | [], _, i, it, h => by simp [zipD] at h
  | _ :: _, [], i, it, h => by simp [zipD] at h
  | d :: ds, e :: es, 0, it, h => by simp [zipD] at h; exact ⟨d, e, rfl, rfl, h.symm⟩
  | d :: ds, e :: es, i + 1, it, h => by
    simp only [zipD, List.getElem?_cons_succ] at h
    obtain ⟨x, y, h1, h2, h3⟩ := zipD_get h
    exact ⟨x, y, by simpa using h1, by simpa using h2, h3⟩
theorem zipD_length : ∀ (ds es : List D), (zipD ds es).length = min ds.length es.length
  | [], _ => by simp [zipD]
  | _ :: _, [] => by simp [zipD]
  | d :: ds, e :: es => by simp [zipD, zipD_length ds es]
def itZipT (fa : En → M (List D)) : En → M ItD := fun ρ => do
  match ← fa ρ with
  | [.tup ds, .tup es] => pure ⟨zipD ds es, fun _ => true⟩
  | _ => stuck
section
variable {X : Cx} {ca : Nat → Addr} {E : XK} {pos p tpos : Pos} {e e2 : Expr} {fa : En → M (List D)} {elts : List Expr} {kk : Nat}
theorem di_zipT (hg : Gl X "zip") (hm : X.mg "zip" = none) (h : DA ca E X [e, e2] fa) (hs : starEach [e, e2] X.env = (false, eval e X.env) :: starEach [e2] X.env := by rfl) (hpl : (backTo pos (starEach [e2] X.env)).any (·.1) = false := by rfl) :
    DI ca E X (.Tuple elts kk tpos) (.Call (.Name "zip" p) [e, e2] [] pos) (itZipT fa) := by
  obtain ⟨t, pa, ga⟩ := h.ex
  refine ⟨_, pi_zipA hg hm pa hs hpl, fun σ H R ρ st μ re s h => ?_⟩
  refine ga.bind re s h fun ds0 st1 μ1 H1 vs e1 s1 r1 re1 h1 => ?_
  split at h1
  · rename_i ds es
    obtain ⟨x, r0, rfl, ra, rr⟩ := repL_cons.mp r1
    obtain ⟨y, r2, rfl, rb, rr⟩ := repL_cons.mp rr
    have := repL_nil.mp rr
    subst this
    obtain ⟨a, xs, rfl, g1, g2⟩ := rep_tup.mp ra
    obtain ⟨b, ys, rfl, k1, k2⟩ := rep_tup.mp rb
    refine ⟨a, b, xs, ys, rfl, .inr ⟨g1.sq, k1.sq, (Post.pure.mp h1) (ItzT X.K a b) μ1 H1 e1 s1 ?_⟩⟩
    intro μ2 H2 st2 ex s2 _
    have q1 := (ex.tup _ _ g1).sq
    have q2 := g2.mono ex
    have p1 := (ex.tup _ _ k1).sq
    have p2 := k2.mono ex
    refine ⟨fun i it hi => ?_, ⟨xs, ys, q1, p1, by rw [zipD_length, ← g2.length, ← k2.length]; omega⟩⟩
    obtain ⟨d, f, hd, hf, rfl⟩ := zipD_get hi
    obtain ⟨v, v1, v2⟩ := q2.get hd
    obtain ⟨w, w1, w2⟩ := p2.get hf
    refine ⟨⟨xs, ys, v, w, q1, p1, v1, w1⟩, fun x H3 yy => ?_⟩
    obtain ⟨T, x1, y1, rfl, hT, rfl, hz1, hz2⟩ := yy
    have z1 := hz1 xs q1
    rw [v1] at z1; cases z1
    have z2 := hz2 ys p1
    rw [w1] at z2; cases z2
    exact ⟨T, v, w, rfl, hT, rfl, v2, w2⟩
  · exact h1.elim
end
end DL

set_option Elab.async false
set_option linter.all false
set_option maxRecDepth 100000
set_option maxHeartbeats 4000000
namespace DL
open PySem L2 PySem.Spec PyProof.Rows
/-! ### == of two instances, by the text's own __eq__ -/
def rOwn (C : Addr) (sp : Sp) (E : XK) : R2 := fun x y H Q => ∃ a b dx dy fs gs, x = V.ref a ∧ y = V.ref b ∧ H a = some (.ins C dx fs) ∧ H b = some (.ins C dy gs) ∧ sp [.ref a, .ref b] H (fun v H' => ∃ t, v = .bl t ∧ Q v H') E
theorem op_own {X : Cx} {CX : CXT} {C f : Addr} {fd : FuncData} {ps : List Str} {n : Nat} {sp : Sp} {E : XK} (F : FnOk X.prog X.w X.K X.mg X.base CX n f fd ps sp) (hr : Room n X.A)
    (hs : PySem.W.findIn X.K (.ref C) "__eq__" = some (some (.ref f))) (hf : PySem.W.isFn X.K (.ref f) = true) (hb : Binds X.K fd ps []) (hx : Passes CX X E) : OpR X (compareOp .Eq) (rOwn C sp E) := by
  intro pins s σ H x y v u Q I rx ry h
  obtain ⟨a, b, dx, dy, fs, gs, rfl, rfl, ha, hb', hsp⟩ := h
  cases rx
  cases ry
  obtain ⟨mA, J, _⟩ := ins_get I.hok ha
  obtain ⟨mB, J', _⟩ := ins_get I.hok hb'
  obtain ⟨od, J, _⟩ := J.look
  obtain ⟨od', J', _⟩ := J'.look
  obtain ⟨m, hF⟩ := I.fr
  show wpAny (model X.prog X.w) X.A (richCompare .Eq (.ref a) (.ref b)) (EP X pins σ Q) X.xe s
  refine PySem.W.cmp_K (op := .Eq) (tb := .ref C) hr.units0 hF I.ok.mod.kin J J'.type (by simp [PySem.W.notFirst]) hs hf ?_
  have hl := F.len _ _ _ _ hsp
  have r2 : Vals [V.ref a, V.ref b] [Value.ref a, Value.ref b] := .cons rfl (.cons rfl .nil)
  refine wpAny_call (codeAny_mono (F.run X.A X.stack s H ⟨[.ref a, .ref b], []⟩ [.ref a, .ref b] [.ref a, .ref b] _ E hr I.env0 (by
    have := hb s [.ref a, .ref b] I.kIn (by simpa using hl)
    simpa using this) r2 hsp) fun r s' hq => ?_)
  cases r with
  | error e => exact hx pins σ H s e s' I hq
  | ok fl =>
    cases fl with
    | ret w =>
      obtain ⟨z, H', I', rz, t, ez, q⟩ := I.after hq
      subst ez
      cases rz
      exact ⟨.bl t, H', I', rfl, q⟩
    | next => exact False.elim hq
    | brk => exact False.elim hq
    | cont => exact False.elim hq
def opEqO (c : Nat) (m : List D → M D) (x y : D) : M D := fun st => match x, y with
  | .loc i, .loc j => match st[i]?, st[j]? with
    | some (.obj c1 _), some (.obj c2 _) => if c1 = c ∧ c2 = c then (nr (m [.loc i, .loc j]) >>= fun d => match d with
      | .bl b => pure (.bl b)
      | _ => stuck) st else .stuck
    | _, _ => .stuck
  | _, _ => .stuck
theorem dop_own {X : Cx} {CX : CXT} {ca : Nat → Addr} {c n : Nat} {f : Addr} {fd : FuncData} {ps : List Str} {m : List D → M D} (F : FnOk X.prog X.w X.K X.mg X.base CX n f fd ps (spD X.K ca m)) (hr : Room n X.A)
    (hs : PySem.W.findIn X.K (.ref (ca c)) "__eq__" = some (some (.ref f))) (hf : PySem.W.isFn X.K (.ref f) = true) (hb : Binds X.K fd ps []) (hx : Passes CX X E0) : DOp ca X (compareOp .Eq) (opEqO c m) := by
  refine ⟨_, op_own F hr hs hf hb hx, fun E x y H Q d e st μ rx ry s h => ?_⟩
  unfold opEqO at h
  split at h
  · rename_i i j
    split at h
    · rename_i c1 fs1 c2 fs2 e1 e2
      split at h
      · rename_i hc
        obtain ⟨rfl, rfl⟩ := hc
        obtain ⟨a, dx, gs, rfl, _, h1, _⟩ := obj_of s e1 rx
        obtain ⟨b, dy, hs', rfl, _, h2, _⟩ := obj_of s e2 ry
        refine ⟨a, b, dx, dy, gs, hs', rfl, rfl, h1, h2, [.loc i, .loc j], st, μ, repL_cons.mpr ⟨_, _, rfl, rx, repL_cons.mpr ⟨_, _, rfl, ry, repL_nil.mpr rfl⟩⟩, s, ?_⟩
        refine (nr_post (Post.bind.mp h)).imp fun d st1 q => ?_
        cases d with
        | bl t =>
          intro μ1 H1 v ex s1 rv
          rw [rep_bl] at rv
          subst rv
          exact ⟨t, rfl, (Post.pure.mp q : KV X.K ca μ H Q (.bl t) st1) μ1 H1 _ ex s1 (rep_bl.mpr rfl)⟩
        | _ => exact (q : False).elim
      · exact elimP h
    · exact elimP h
  · exact elimP h
end DL
namespace DL
open PySem L2 PySem.Spec PyProof.Rows
/-! ### a class called with its keyword-only defaults -/
theorem kbn_ofBinds {K : PySem.W.Frag} {fd : FuncData} {ps : List Str} {n : Nat} {ds : List Value} {dvs : List V} (hb : Binds K fd ps ds) (hv : Vals dvs ds) (hn : n + ds.length = ps.length) : KBn K fd ps n [] (fun us _ => us ++ ds) (fun vs _ => vs ++ dvs) :=
  ⟨fun s us ws hK h1 h2 => hb s us hK (by rw [List.length_append, h1, hn]), fun h1 _ => h1.append hv⟩
theorem de_makeD {X : Cx} {ca : Nat → Addr} {E : XK} {CX : CXT} {k : Nat} {f : Addr} {fd : FuncData} {ps : List Str} {m : List D → M D} {dds : List D} {x : Str} {p pos : Pos} {e : Expr} {es : List Expr} {fa : En → M (List D)} {c n : Nat} (M : Mk X.K (ca c) f) (F : FnOk X.prog X.w X.K X.mg X.base CX k f fd ps (spD X.K ca m)) (hr : Room (k + 1) X.A) (hg : Gl X x) (hm : X.mg x = some (.ref (ca c)))
    (hb : BindsD X.K fd ps dds) (hn : n + 1 + dds.length = ps.length) (hx : Passes CX X E) (ha : DA ca E X (e :: es) fa) (hdb : (x == ("__debug__" : Str)) = false := by decide)
    (he : starEach (e :: es) X.env = (false, eval e X.env) :: starEach es X.env := by rfl) (hall : (backToKw pos (keywordEach [] X.env)).all (·.1.isSome) = true := by rfl) (hks : (backToKw pos (keywordEach [] X.env)).filterMap (·.1) = [] := by rfl)
    (hpl : ((backTo pos (starEach (e :: es) X.env)).any (·.1) || (backToKw pos (keywordEach [] X.env)).any (·.1.isNone)) = false := by rfl) :
    DE ca E X (.Call (.Name x p) (e :: es) [] pos) (eMakeK c n 0 (fun us _ => us ++ dds) m fa aNil) := by
  obtain ⟨dvs, ds, h1, h2, h3⟩ := hb
  have hl : dds.length = ds.length := by
    have a := (h3 [] (fun _ => none)).length
    have b := h1.length
    omega
  exact de_makeK M F hr hg hm (kbn_ofBinds (n := n + 1) h2 h1 (by omega)) (fun μ H ds zs vs ws r _ => r.append (h3 μ H)) hx ha dk_nil hall hks hdb he hpl
end DL
namespace DL
open PySem L2 PySem.Spec PyProof.Rows
/-! ### isinstance(x, a class of the text), x an instance of such a class -/
structure IsC (K : PySem.W.Frag) (C : Addr) : Prop where
  cl : Cls K C
  ac : PySem.W.findIn K (.ref C) "__class__" = some (some (.builtin "object.__class__"))
  sp : PySem.W.specialIn K (.builtin "object.__class__") "__get__" = some (some (.builtin "getset_descriptor.__get__"))
  tk : PySem.W.takesIn K (.builtin "object.__class__") = some true
  ob : PySem.W.mroIn K C (.type "object") = some true
def isiC (c0 : Nat) (b : Bool) (d : D) : M D := fun st => match d with
  | .loc i => match st[i]? with
    | some (.obj c _) => if c = c0 then .ok (.bl b) st else .stuck
    | _ => .stuck
  | _ => .stuck
theorem de_isiC {X : Cx} {ca : Nat → Addr} {E : XK} {e : Expr} {f : En → M D} {c0 k : Nat} {b : Bool} {y : Str} {p py pos : Pos} (hg : Gl X "isinstance") (hm : X.mg "isinstance" = none) (hv : bootBuiltins "isinstance" = some (.builtin "isinstance")) (hgy : Gl X y) (hmy : X.mg y = some (.ref (ca k))) (hC : IsC X.K (ca c0)) (hk : PySem.W.kitOne X.K (.ref (ca c0)) (.ref (ca k)) = some b) (ha : DE ca E X e f)
    (hs : starEach [e, .Name y py] X.env = (false, eval e X.env) :: starEach [.Name y py] X.env := by rfl) (hs2 : starEach [.Name y py] X.env = (false, eval (.Name y py) X.env) :: starEach [] X.env := by rfl)
    (hdb : (y == ("__debug__" : Str)) = false := by decide) (hpl : (backTo pos (starEach [.Name y py] X.env)).any (·.1) = false := by rfl) : DE ca E X (.Call (.Name "isinstance" p) [e, .Name y py] [] pos) (eUn (isiC c0 b) f) := by
  obtain ⟨t, pa, ga⟩ := ha.ex
  refine ⟨_, pe_callB call_isi hg hm hv (pa_cons pa (pa_cons (pe_glob (v := .ref (ca k)) hgy hmy rfl hdb) pa_nil hs2) hs) (by decide) (by decide) hs hpl, fun σ H Q ρ st μ re s h => ?_⟩
  refine ga.bind re s h fun d st1 μ1 H1 x e1 s1 r1 re1 h1 => ?_
  unfold isiC at h1
  split at h1
  · split at h1
    · rename_i i _ c fs q
      split at h1
      · rename_i hc
        subst hc
        obtain ⟨a, dx, gs, rfl, _, g1, _⟩ := obj_of s1 q r1
        exact ⟨.ref a, .ref (ca k), .ref (ca c), .ref (ca k), b, rfl, .own _, .base (.ins g1 hC.cl hC.ac hC.sp hC.tk hC.ob), hk, (h1 : KV X.K ca μ H Q _ _) μ1 H1 _ e1 s1 (rep_bl.mpr rfl)⟩
      · exact elimP h1
    · exact elimP h1
  · exact elimP h1
end DL

set_option Elab.async false
set_option linter.all false
set_option maxRecDepth 100000
set_option maxHeartbeats 4000000
namespace DL
open PySem L2 PySem.Spec PyProof.Rows
/-! ### != of two instances whose class has an own __eq__ and no __ne__ -/
structure NeC (K : PySem.W.Frag) (C f : Addr) : Prop where
  sh : ∃ (nm q : Str) (N : Addr) (bs : List Value) (hdct : Bool) (sn : List Str) (sub : List Value) (ab : Bool) (col : Option Bool) (dd : Option Addr) (k0 k1 k2 k3 k5 : Option Value) (newId : String),
    K.lookup C = some (excClassObj nm q C N bs [.type "object"] hdct sn sub ab col dd k0 k1 k2 k3 k5 newId) ∧ PySem.W.nsOkIn K N = true ∧ PySem.W.nsIn K N "__eq__" = some (some (.ref f)) ∧ PySem.W.nsIn K N "__ne__" = some none
  fn : PySem.W.isFn K (.ref f) = true
theorem NeC.at {K : PySem.W.Frag} {C f a dx : Addr} {h : Heap} {ox : Obj} (T : NeC K C f) (X : K.In h) (ha : h.get? a = some ox) (hc : ox.cls = .ref C) : h.OwnEqNoNe a C f "object" [.type "object"] := by
  obtain ⟨⟨nm, q, N, bs, hdct, sn, sub, ab, col, dd, k0, k1, k2, k3, k5, newId, hl, hn, he, hne⟩, hfn⟩ := T
  obtain ⟨of, hf, hfc⟩ := Option.map_eq_some_iff.mp (beq_iff_eq.mp hfn)
  have G : h.Ns N (h.nsMap N) := .of_isNs (PySem.W.isNs_of_in X hn)
  have e1 : h.nsMap N "__eq__" = some (.ref f) := by
    obtain ⟨o, es, ep, ho, hd, _, hff⟩ := G
    unfold PySem.W.nsIn at he
    split at he
    · rename_i c d es' n' sl q'
      have := X _ _ q'
      rw [ho] at this
      cases this
      cases hd
      split at he
      · rename_i en hx
        have he' := Option.some.inj (Option.some.inj he)
        rw [← hff, ← he']
        unfold nsFind findBy
        rw [← Array.find?_toList, hx]
        rfl
      · split at he <;> cases he
    · cases he
  exact ⟨ox, of, nm, q, N, bs, hdct, sn, sub, ab, col, dd, k0, k1, k2, k3, k5, newId, h.nsMap N, _, ha, hc, X _ _ hl, G, e1, X _ _ hf, hfc, PySem.F.cmp_object.mro, PySem.F.cmp_object.eq.lookup, PySem.W.nsMap_none_of_in X hn hne⟩
def allStr (d : Data) : Bool := match d with
  | .dict es _ => es.toList.all fun e => match e.key with
    | .str _ _ => true
    | _ => false
  | _ => false
theorem nsOk_of {K : PySem.W.Frag} {N : Addr} {c : Value} {d : Option Addr} {dd : Data} {sl : Array (Option Value)} (h : K.lookup N = some ⟨c, d, dd, sl⟩) (q : allStr dd = true) : PySem.W.nsOkIn K N = true := by
  unfold PySem.W.nsOkIn
  rw [h]
  cases dd with
  | dict es n =>
    have q' : es.toList.all (fun e => match e.key with | .str _ _ => true | _ => false) = true := q
    rw [Array.all_toList] at q'
    exact q'
  | _ => cases q
def rOwnNe (C : Addr) (sp : Sp) (E : XK) : R2 := fun x y H Q => ∃ a b dx dy fs gs, x = V.ref a ∧ y = V.ref b ∧ H a = some (.ins C dx fs) ∧ H b = some (.ins C dy gs) ∧ sp [.ref a, .ref b] H (fun v H' => ∃ t, v = .bl t ∧ Q (.bl !t) H') E
theorem op_ownNe {X : Cx} {CX : CXT} {C f : Addr} {fd : FuncData} {ps : List Str} {n : Nat} {sp : Sp} {E : XK} (F : FnOk X.prog X.w X.K X.mg X.base CX n f fd ps sp) (hr : Room (n + 1) X.A)
    (T : NeC X.K C f) (hb : Binds X.K fd ps []) (hx : Passes CX X E) : OpR X (compareOp .NotEq) (rOwnNe C sp E) := by
  intro pins s σ H x y v u Q I rx ry h
  obtain ⟨a, b, dx, dy, fs, gs, rfl, rfl, ha, hb', hsp⟩ := h
  cases rx
  cases ry
  obtain ⟨mA, J, _⟩ := ins_get I.hok ha
  obtain ⟨mB, J', _⟩ := ins_get I.hok hb'
  obtain ⟨od, J, _⟩ := J.look
  obtain ⟨od', J', _⟩ := J'.look
  have hl := F.len _ _ _ _ hsp
  have r2 : Vals [V.ref a, V.ref b] [Value.ref a, Value.ref b] := .cons rfl (.cons rfl .nil)
  have key : wpAny (model X.prog X.w) X.A.in1 (call (.ref f) [.ref a, .ref b]) (fun v s' => ∃ t, v = .bool t ∧ EP X pins σ Q (.bool (!t)) s') X.xe s := by
    refine wpAny_call (codeAny_mono (F.run X.A.in1 X.stack s H ⟨[.ref a, .ref b], []⟩ [.ref a, .ref b] [.ref a, .ref b] _ E hr.in1 I.env0.in1 (by
      have := hb s [.ref a, .ref b] I.kIn (by simpa using hl)
      simpa using this) r2 hsp) fun r s' hq => ?_)
    cases r with
    | error e => exact hx pins σ H s e s' I hq
    | ok fl =>
      cases fl with
      | ret w =>
        obtain ⟨z, H', I', rz, t, ez, q⟩ := I.after hq
        subst ez
        cases rz
        exact ⟨t, rfl, .bl !t, H', I', rfl, q⟩
      | next => exact False.elim hq
      | brk => exact False.elim hq
      | cont => exact False.elim hq
  have hX := T.at (dx := dx) I.kIn J.at_ J.cls
  obtain ⟨hp, g, d, t, os⟩ := s
  exact compareOp_ne_ownEq PySem.F.cmp_object hX J'.at_ J'.cls (by have := hr.un; omega) key
def opNeO (c : Nat) (m : List D → M D) (x y : D) : M D := fun st => match x, y with
  | .loc i, .loc j => match st[i]?, st[j]? with
    | some (.obj c1 _), some (.obj c2 _) => if c1 = c ∧ c2 = c then (nr (m [.loc i, .loc j]) >>= fun d => match d with
      | .bl b => pure (.bl !b)
      | _ => stuck) st else .stuck
    | _, _ => .stuck
  | _, _ => .stuck
theorem dop_ownNe {X : Cx} {CX : CXT} {ca : Nat → Addr} {c n : Nat} {f : Addr} {fd : FuncData} {ps : List Str} {m : List D → M D} (F : FnOk X.prog X.w X.K X.mg X.base CX n f fd ps (spD X.K ca m)) (hr : Room (n + 1) X.A)
    (T : NeC X.K (ca c) f) (hb : Binds X.K fd ps []) (hx : Passes CX X E0) : DOp ca X (compareOp .NotEq) (opNeO c m) := by
  refine ⟨_, op_ownNe F hr T hb hx, fun E x y H Q d e st μ rx ry s h => ?_⟩
  unfold opNeO at h
  split at h
  · rename_i i j
    split at h
    · rename_i c1 fs1 c2 fs2 e1 e2
      split at h
      · rename_i hc
        obtain ⟨rfl, rfl⟩ := hc
        obtain ⟨a, dx, gs, rfl, _, h1, _⟩ := obj_of s e1 rx
        obtain ⟨b, dy, hs', rfl, _, h2, _⟩ := obj_of s e2 ry
        refine ⟨a, b, dx, dy, gs, hs', rfl, rfl, h1, h2, [.loc i, .loc j], st, μ, repL_cons.mpr ⟨_, _, rfl, rx, repL_cons.mpr ⟨_, _, rfl, ry, repL_nil.mpr rfl⟩⟩, s, ?_⟩
        refine (nr_post (Post.bind.mp h)).imp fun d st1 q => ?_
        cases d with
        | bl t =>
          intro μ1 H1 v ex s1 rv
          rw [rep_bl] at rv
          subst rv
          exact ⟨t, rfl, (Post.pure.mp q : KV X.K ca μ H Q (.bl !t) st1) μ1 H1 _ ex s1 (rep_bl.mpr rfl)⟩
        | _ => exact (q : False).elim
      · exact elimP h
    · exact elimP h
  · exact elimP h
end DL

set_option Elab.async false
set_option linter.all false
set_option maxRecDepth 100000
set_option maxHeartbeats 4000000
namespace DL
open PySem L2 PySem.Spec PyProof.Rows
/-! ### dicts with text keys, written in one -/
def keyK (q : Str × V) : Key × V := (Sum.inr q.1, q.2)
def dctAt (st : Sto) (i : Nat) : Option (List (Str × D)) := match st[i]? with
  | some (.dct kvs) => some kvs
  | _ => none
theorem dct_of {K : PySem.W.Frag} {ca : Nat → Addr} {μ : List Addr} {H : Hp} {st : Sto} {i : Nat} {kvs : List (Str × D)} {v : V} (s : Sim K ca μ st H) (h : dctAt st i = some kvs) (r : Rep K μ H (.loc i) v) : ∃ a fvs, v = .ref a ∧ μ[i]? = some a ∧ H a = some (.dK (fvs.map keyK)) ∧ RepF K μ H kvs fvs := by
  obtain ⟨a, ha, rfl⟩ := rep_loc.mp r
  unfold dctAt at h
  cases hi : st[i]? with
  | none => rw [hi] at h; cases h
  | some o =>
    rw [hi] at h
    have q := s.obj i a o ha hi
    cases o with
    | dct es => cases h; obtain ⟨fvs, h1, h2⟩ := q; exact ⟨a, fvs, rfl, ha, h1, h2⟩
    | _ => cases h
theorem valV_look (n : Str) : ∀ fvs : List (Str × V), valV (fvs.map keyK) (Sum.inr n : Key) = fvs.lookup n
  | [] => rfl
  | (m, v) :: r => by
    rw [List.map_cons]
    by_cases e : n = m
    · subst e
      have : valV (keyK (n, v) :: List.map keyK r) (Sum.inr n : Key) = some (keyK (n, v)).2 := valV_pos rfl
      rw [this]
      simp [List.lookup, keyK]
    · have e' : (n == m) = false := by simpa using e
      have : valV (keyK (m, v) :: List.map keyK r) (Sum.inr n : Key) = valV (List.map keyK r) (Sum.inr n) := valV_neg (by intro z; cases z; exact e rfl)
      rw [this, valV_look n r]
      simp [List.lookup, e']
theorem mergeK_new : ∀ (kvs acc : List (Key × V)), ((acc ++ kvs).map (·.1)).Nodup → mergeK acc kvs = acc ++ kvs
  | [], acc, _ => by simp [mergeK]
  | p :: r, acc, h => by
    have hn : valV acc p.1 = none := by
      unfold valV
      rw [Option.map_eq_none_iff, List.find?_eq_none]
      intro x hx z
      have z := of_decide_eq_true z
      rw [List.map_append, List.map_cons, List.nodup_append] at h
      exact h.2.2 x.1 (List.mem_map.mpr ⟨x, hx, rfl⟩) p.1 (by simp) z
    have ih := mergeK_new r (acc ++ [p]) (by simpa using h)
    show mergeK (putK acc p.1 p.2) r = _
    rw [putK_new _ hn, ih]; simp
section
variable {X : Cx} {ca : Nat → Addr} {E : XK}
def rDIn : R2 := fun x y H Q => ∃ a o, y = .ref a ∧ DGet H a x o ∧ Q (.bl o.isSome) H
theorem op_dIn (hu : X.A.units + 64 < cLine) : OpR X (compareOp .In) rDIn := by
  intro pins s σ H x y v u Q I rx ry h
  obtain ⟨a, o, rfl, g, q⟩ := h
  cases ry
  exact d_in (by omega) I g rx fun s' I' => ⟨.bl o.isSome, H, I', rfl, q⟩
def opInDc (x y : D) : M D := fun st => match x, y with
  | .str k, .loc i => (match dctAt st i with
    | some kvs => .ok (.bl (kvs.lookup k).isSome) st
    | none => .stuck)
  | _, _ => .stuck
theorem dop_inDc (hu : X.A.units + 64 < cLine) : DOp ca X (compareOp .In) opInDc := by
  refine ⟨_, op_dIn hu, fun E x y H Q d e st μ rx ry s h => ?_⟩
  unfold opInDc at h
  split at h
  · rename_i k i
    split at h
    · rename_i kvs hk
      obtain ⟨a, fvs, rfl, _, h1, h2⟩ := dct_of s hk ry
      rw [rep_str] at rx
      subst rx
      refine ⟨a, _, rfl, (DGet.k h1 : DGet H a (kV (Sum.inr k)) _), ?_⟩
      rw [valV_look]
      obtain ⟨f1, f2⟩ := lookF (n := k) h2
      have e : (fvs.lookup k).isSome = (kvs.lookup k).isSome := by
        cases q : kvs.lookup k with
        | none => rw [f2 q]; rfl
        | some d => obtain ⟨v, hv, _⟩ := f1 d q; rw [hv]; rfl
      rw [e]
      exact h μ H _ .refl s (rep_bl.mpr rfl)
    · exact elimP h
  · exact elimP h
def opIxDc (x y : D) : M D := fun st => match x, y with
  | .loc i, .str k => (match dctAt st i with
    | some kvs => (match kvs.lookup k with
      | some d => .ok d st
      | none => .stuck)
    | none => .stuck)
  | _, _ => .stuck
theorem de_ixDc {a b : Expr} {f g : En → M D} {pos : Pos} (hu : X.A.units + 64 < cLine) (ha : DE ca E X a f) (hb : DE ca E X b g) (hs : NoSl b := by exact fun _ _ => rfl) : DE ca E X (.Subscript a b pos) (eBin opIxDc f g) := by
  obtain ⟨ta, pa, ga⟩ := ha.ex
  obtain ⟨tb, pb, gb⟩ := hb.ex
  refine ⟨_, pe_dget (by omega) pa pb hs, fun σ H Q ρ st μ re s h => ?_⟩
  unfold eBin at h
  refine ga.bind re s h fun d st1 μ1 H1 x e1 s1 r1 re1 h1 => ?_
  refine gb.bind re1 s1 h1 fun e st2 μ2 H2 y e2 s2 r2 re2 h2 => ?_
  have rx := r1.mono e2
  unfold opIxDc at h2
  split at h2
  · rename_i i k
    split at h2
    · rename_i kvs hk
      split at h2
      · rename_i d hd
        obtain ⟨a, fvs, rfl, _, g1, g2⟩ := dct_of s2 hk rx
        rw [rep_str] at r2
        subst r2
        obtain ⟨v, hv, rv⟩ := (lookF (n := k) g2).1 d hd
        refine ⟨a, v, rfl, ?_, (h2 : KV X.K ca μ H Q _ _) μ2 H2 _ (e1.trans e2) s2 rv⟩
        have := (DGet.k g1 : DGet H2 a (kV (Sum.inr k)) _)
        rw [valV_look, hv] at this
        exact this
      · exact elimP h2
    · exact elimP h2
  · exact elimP h2
/-! the display -/
def GP (K : PySem.W.Frag) (ca : Nat → Addr) (E : XK) (trs : List (TE × TE)) (ks : List Str) (fa : En → M (List D)) : Prop :=
  ∀ σ H (Q : List (V × V) → Hp → Prop) ρ st μ, EnvR K μ H ρ σ → Sim K ca μ st H → Post K ca E μ H (fa ρ st) (KA K ca μ H fun vs H' => vs.length = ks.length → Q ((ks.map V.str).zip vs) H') → tPairs trs σ H Q
structure DPs (ca : Nat → Addr) (E : XK) (X : Cx) (pos : Pos) (keys : List (Option Expr)) (values : List Expr) (ks : List Str) (fa : En → M (List D)) : Prop where
  ex : ∃ trs, PPs X pos keys values trs ∧ GP X.K ca E trs ks fa
theorem dp_nil {pos : Pos} : DPs ca E X pos [] [] [] aNil := ⟨_, pps_nil, fun σ H Q ρ st μ re s h => h μ H [] .refl s (repL_nil.mpr rfl) rfl⟩
theorem dp_cons {pos kp : Pos} {j : Nat} {k : Str} {v : Expr} {f : En → M D} {keys : List (Option Expr)} {values : List Expr} {ks : List Str} {fa : En → M (List D)} (hv : DE ca E X v f) (hr : DPs ca E X pos keys values ks fa) : DPs ca E X pos (some (.Constant (.str k) j kp) :: keys) (v :: values) (k :: ks) (aCons f fa) := by
  obtain ⟨tv, pv, gv⟩ := hv.ex
  obtain ⟨trs, pr, gr⟩ := hr.ex
  refine ⟨_, pps_cons pe_str pv pr, fun σ H Q ρ st μ re s h => ?_⟩
  unfold aCons at h
  refine gv.bind re s h fun d st1 μ1 H1 x e1 s1 r1 re1 h1 => ?_
  refine gr σ H1 _ ρ st1 μ1 re1 s1 ((Post.bind.mp h1).imp fun ds st2 q μ2 H2 vs e2 s2 r2 hl => ?_)
  refine (Post.pure.mp (q.mono e2 fun _ _ z => z) : KA X.K ca μ H _ (d :: ds) st2) μ2 H2 _ (e1.trans e2) s2 (repL_cons.mpr ⟨x, vs, rfl, r1.mono e2, r2⟩) ?_
  simp [hl]
def setDct (i : Nat) (ks : List Str) (ds : List D) : M D := fun st => if st[i]? = some (.dct []) ∧ ds.length = ks.length ∧ ks.Nodup ∧ ks.length ≤ 15 then .ok (.loc i) (st.set i (.dct (ks.zip ds))) else .stuck
def eDct (ks : List Str) (fa : En → M (List D)) : En → M D := fun ρ st => (fa ρ >>= fun ds => setDct st.length ks ds) (st ++ [.dct []])
theorem repFzip {K : PySem.W.Frag} {μ : List Addr} {H : Hp} : ∀ {ks : List Str} {ds : List D} {vs : List V}, RepL K μ H ds vs → ds.length = ks.length → RepF K μ H (ks.zip ds) (ks.zip vs)
  | [], ds, vs, _, _ => rfl
  | k :: ks, [], vs, _, h => by simp at h
  | k :: ks, d :: ds, vs, r, h => by
    obtain ⟨v, ws, rfl, r1, r2⟩ := repL_cons.mp r
    exact ⟨v, ks.zip ws, rfl, r1, repFzip r2 (by simpa using h)⟩
theorem zip_keyK : ∀ {ks : List Str} {vs : List V}, ((ks.zip vs).map keyK).map (fun kv : Key × V => (kV kv.1, kv.2)) = (ks.map V.str).zip vs
  | [], vs => by simp
  | k :: ks, [] => by simp
  | k :: ks, v :: vs => by
    simp only [List.zip_cons_cons, List.map_cons, zip_keyK (ks := ks) (vs := vs)]
    rfl
theorem nodup_keyK : ∀ {ks : List Str} {vs : List V}, vs.length = ks.length → ks.Nodup → (((ks.zip vs).map keyK).map (·.1)).Nodup := by
  intro ks vs hl hn
  have e : ((ks.zip vs).map keyK).map (·.1) = ks.map (fun k => (Sum.inr k : Key)) := by
    rw [List.map_map]
    have : ((fun kv : Key × V => kv.1) ∘ keyK) = (fun k => (Sum.inr k : Key)) ∘ Prod.fst := rfl
    rw [this, ← List.map_map, List.map_fst_zip (by omega)]
  rw [e]
  rw [List.nodup_iff_pairwise_ne, List.pairwise_map]
  exact hn.imp fun h z => h (Sum.inr.inj z)
theorem de_dct {pos : Pos} {keys : List (Option Expr)} {values : List Expr} {ks : List Str} {fa : En → M (List D)} (h : DPs ca E X pos keys values ks fa) (hall : keys.all (·.isSome) = true := by rfl) (hl : keys.length = values.length := by rfl) (h0 : keys ≠ [] := by simp) (h15 : keys.length ≤ 15 := by decide) :
    DE ca E X (.Dict keys values pos) (eDct ks fa) := by
  obtain ⟨trs, pr, gr⟩ := h.ex
  refine ⟨_, pe_disp pr hall hl h0 h15, fun σ H Q ρ st μ re s h => ?_⟩
  intro p hp
  have s1 : Sim X.K ca (μ ++ [p]) (st ++ [.dct []]) (upd H p (.dK [])) := s.push hp ⟨[], upd_same, rfl⟩
  have e1 : Ext X.K μ H (μ ++ [p]) (upd H p (.dK [])) := .push hp
  refine gr σ _ _ ρ _ _ (re.mono e1) s1 ((Post.bind.mp (h.mono e1 fun _ _ z => z)).imp fun ds st2 q μ2 H2 vs e2 s2 r2 hvl => ?_)
  unfold setDct at q
  split at q
  · rename_i hc
    obtain ⟨c1, c2, c3, c4⟩ := hc
    have hμ : μ2[st.length]? = some p := e2.pre _ _ (by rw [← s.len]; simp)
    obtain ⟨fvs, g1, g2⟩ := s2.obj _ p _ hμ c1
    have g2 : fvs = [] := g2
    subst g2
    have g1 : H2 p = some (.dK []) := g1
    have hM : Mut (H2 p) := by rw [g1]; exact True.intro
    have e3 : Ext X.K μ2 H2 μ2 (upd H2 p (.dK ((ks.zip vs).map keyK))) := .updM (.inr hM)
    refine ⟨g1, (ks.zip vs).map keyK, zip_keyK.symm, by simp; omega, ?_⟩
    rw [mergeK_new _ [] (by simpa using nodup_keyK hvl c3), List.nil_append]
    have s3 : Sim X.K ca μ2 (st2.set st.length (.dct (ks.zip ds))) (upd H2 p (.dK ((ks.zip vs).map keyK))) := s2.set hμ c1 rfl hM rfl ⟨ks.zip vs, upd_same, (repFzip r2 c2).mono e3⟩
    exact (q : KV X.K ca μ H Q _ _) μ2 _ _ ((e1.trans e2).trans e3) s3 (rep_loc.mpr ⟨p, hμ, rfl⟩)
  · exact elimP q
end
end DL

set_option Elab.async false
set_option linter.all false
set_option maxRecDepth 100000
set_option maxHeartbeats 4000000
namespace DL
open PySem L2 PySem.Spec PyProof.Rows
abbrev topS (i : Nat) : Stmt := PySem.Challenge.pw_ledelsewhere_k01_site_parts.main.body.getD i (.Pass ⟨0, 0, 0, 0⟩)
def exT (c k : Nat) : Option Bool := match k with

  | _ => none
/-- what the top leaves, as the derivations take it -/
structure Txt (K : PySem.W.Frag) (mg : Str → Option Value) (a : Nat → Addr) (fd : Nat → FuncData) (ca ka : Nat → Addr) (tk : Nat → Tok) : Prop where
  f__law_same : Fun K "_law_same" "_law_same" (topS 48) (a 0) (fd 0)
  b__law_same : Binds K (fd 0) ["_law_told", "_law_due"] []
  g__law_same : mg "_law_same" = some (.ref (a 0))
  f_UnknownPage___init__ : Fun K "__init__" "UnknownPage.__init__" (inClass (topS 6) 0) (a 1) (fd 1)
  b_UnknownPage___init__ : Binds K (fd 1) ["self", "page"] []
  f_find_page : Fun K "find_page" "find_page" (topS 27) (a 2) (fd 2)
  b_find_page : Binds K (fd 2) ["pages", "page"] []
  g_find_page : mg "find_page" = some (.ref (a 2))
  f_Site_loads : Fun K "loads" "Site.loads" (inClass (topS 18) 4) (a 3) (fd 3)
  b_Site_loads : Binds K (fd 3) ["self", "page"] []
  m_Site_loads : Meth K (ca 0) "loads" (a 3)
  f_InvalidSide___init__ : Fun K "__init__" "InvalidSide.__init__" (inClass (topS 5) 0) (a 4) (fd 4)
  b_InvalidSide___init__ : Binds K (fd 4) ["self", "side"] []
  f_Site_guard : Fun K "guard" "Site.guard" (inClass (topS 18) 3) (a 5) (fd 5)
  b_Site_guard : Binds K (fd 5) ["self", "page", "side"] []
  m_Site_guard : Meth K (ca 0) "guard" (a 5)
  f_names_of : Fun K "names_of" "names_of" (topS 26) (a 6) (fd 6)
  b_names_of : Binds K (fd 6) ["pages"] []
  g_names_of : mg "names_of" = some (.ref (a 6))
  f_Site_page_names : Fun K "page_names" "Site.page_names" (inClass (topS 18) 2) (a 7) (fd 7)
  b_Site_page_names : Binds K (fd 7) ["self"] []
  m_Site_page_names : Meth K (ca 0) "page_names" (a 7)
  f__law_tells : Fun K "_law_tells" "_law_tells" (topS 49) (a 8) (fd 8)
  b__law_tells : Binds K (fd 8) ["_law_site", "_law_parts_here"] []
  g__law_tells : mg "_law_tells" = some (.ref (a 8))
  f_Site___eq__ : Fun K "__eq__" "Site.__eq__" (inClass (topS 18) 1) (a 9) (fd 9)
  b_Site___eq__ : Binds K (fd 9) ["self", "other"] []
  m_Site___eq__ : Meth K (ca 0) "__eq__" (a 9)
  f__law_emptied : Fun K "_law_emptied" "_law_emptied" (topS 50) (a 10) (fd 10)
  b__law_emptied : Binds K (fd 10) ["_law_rows_here"] []
  g__law_emptied : mg "_law_emptied" = some (.ref (a 10))
  f__law_mix : Fun K "_law_mix" "_law_mix" (topS 40) (a 11) (fd 11)
  b__law_mix : Binds K (fd 11) ["_law_value", "_law_k"] []
  g__law_mix : mg "_law_mix" = some (.ref (a 11))
  f__law_draw : Fun K "_law_draw" "_law_draw" (topS 42) (a 12) (fd 12)
  b__law_draw : Binds K (fd 12) ["_law_box_here", "_law_many"] []
  g__law_draw : mg "_law_draw" = some (.ref (a 12))
  f__law_others : Fun K "_law_others" "_law_others" (topS 51) (a 13) (fd 13)
  b__law_others : Binds K (fd 13) ["_law_box_here", "_law_parts_here"] []
  g__law_others : mg "_law_others" = some (.ref (a 13))
  f_is_integer : Fun K "is_integer" "is_integer" (topS 19) (a 14) (fd 14)
  b_is_integer : Binds K (fd 14) ["value"] []
  g_is_integer : mg "is_integer" = some (.ref (a 14))
  f_InvalidSite___init__ : Fun K "__init__" "InvalidSite.__init__" (inClass (topS 3) 0) (a 15) (fd 15)
  b_InvalidSite___init__ : Binds K (fd 15) ["self", "part", "path"] []
  f_branches : Fun K "branches" "branches" (topS 32) (a 16) (fd 16)
  b_branches : Binds K (fd 16) ["row"] []
  g_branches : mg "branches" = some (.ref (a 16))
  f_rows_with_positions : Fun K "rows_with_positions" "rows_with_positions" (topS 33) (a 17) (fd 17)
  b_rows_with_positions : Binds K (fd 17) ["rows", "before"] []
  g_rows_with_positions : mg "rows_with_positions" = some (.ref (a 17))
  f_may_branch : Fun K "may_branch" "may_branch" (topS 31) (a 18) (fd 18)
  b_may_branch : Binds K (fd 18) ["position", "row"] []
  g_may_branch : mg "may_branch" = some (.ref (a 18))
  f_is_row : Fun K "is_row" "is_row" (topS 30) (a 19) (fd 19)
  b_is_row : Binds K (fd 19) ["bits", "names", "side", "position", "row"] []
  g_is_row : mg "is_row" = some (.ref (a 19))
  f_first_wrong_row : Fun K "first_wrong_row" "first_wrong_row" (topS 29) (a 20) (fd 20)
  b_first_wrong_row : Binds K (fd 20) ["bits", "names", "side", "rows", "before"] []
  g_first_wrong_row : mg "first_wrong_row" = some (.ref (a 20))
  f_check_guard : Fun K "check_guard" "check_guard" (topS 28) (a 21) (fd 21)
  b_check_guard : Binds K (fd 21) ["bits", "names", "page", "side", "rows"] []
  g_check_guard : mg "check_guard" = some (.ref (a 21))
  f_is_named_page : Fun K "is_named_page" "is_named_page" (topS 25) (a 22) (fd 22)
  b_is_named_page : Binds K (fd 22) ["value"] []
  g_is_named_page : mg "is_named_page" = some (.ref (a 22))
  f_is_name : Fun K "is_name" "is_name" (topS 20) (a 23) (fd 23)
  b_is_name : Binds K (fd 23) ["value"] []
  g_is_name : mg "is_name" = some (.ref (a 23))
  f_are_different_names : Fun K "are_different_names" "are_different_names" (topS 21) (a 24) (fd 24)
  b_are_different_names : Binds K (fd 24) ["values"] []
  g_are_different_names : mg "are_different_names" = some (.ref (a 24))
  f_are_pages : Fun K "are_pages" "are_pages" (topS 24) (a 25) (fd 25)
  b_are_pages : Binds K (fd 25) ["value"] []
  g_are_pages : mg "are_pages" = some (.ref (a 25))
  f_are_bits : Fun K "are_bits" "are_bits" (topS 23) (a 26) (fd 26)
  b_are_bits : Binds K (fd 26) ["value"] []
  g_are_bits : mg "are_bits" = some (.ref (a 26))
  f_check_site : Fun K "check_site" "check_site" (topS 22) (a 27) (fd 27)
  b_check_site : Binds K (fd 27) ["bits", "pages", "start", "keep"] []
  g_check_site : mg "check_site" = some (.ref (a 27))
  f_Site___init__ : ∃ dvs kws, FunD K "__init__" "Site.__init__" (defArgs (inClass (topS 18) 0)) (defBody (inClass (topS 18) 0)) (defScope (inClass (topS 18) 0)) dvs kws (a 28) (fd 28)
  k_Site___init__ : PySem.W.keepIn K (.ref (a 28)) = true
  b_Site___init___4 : BindsD K (fd 28) ["self", "bits", "pages", "start", "keep"] [(.int (4))]
  f__law_word : Fun K "_law_word" "_law_word" (topS 44) (a 29) (fd 29)
  b__law_word : Binds K (fd 29) ["_law_box_here", "_law_bits", "_law_side", "_law_depth"] []
  g__law_word : mg "_law_word" = some (.ref (a 29))
  f__law_row : Fun K "_law_row" "_law_row" (topS 46) (a 30) (fd 30)
  b__law_row : Binds K (fd 30) ["_law_box_here", "_law_bits", "_law_names_here", "_law_side", "_law_depth", "_law_room"] []
  g__law_row : mg "_law_row" = some (.ref (a 30))
  f__law_rows : Fun K "_law_rows" "_law_rows" (topS 45) (a 31) (fd 31)
  b__law_rows : Binds K (fd 31) ["_law_box_here", "_law_bits", "_law_names_here", "_law_side", "_law_depth", "_law_room"] []
  g__law_rows : mg "_law_rows" = some (.ref (a 31))
  f__law_names : Fun K "_law_names" "_law_names" (topS 43) (a 32) (fd 32)
  b__law_names : Binds K (fd 32) ["_law_box_here", "_law_many"] []
  g__law_names : mg "_law_names" = some (.ref (a 32))
  f__law_parts : Fun K "_law_parts" "_law_parts" (topS 47) (a 33) (fd 33)
  b__law_parts : Binds K (fd 33) ["_law_box_here"] []
  g__law_parts : mg "_law_parts" = some (.ref (a 33))
  f__law_box : Fun K "_law_box" "_law_box" (topS 41) (a 34) (fd 34)
  b__law_box : Binds K (fd 34) ["_law_script"] []
  g__law_box : mg "_law_box" = some (.ref (a 34))
  f_law : Fun K "law" "law" (topS 52) (a 35) (fd 35)
  b_law : Binds K (fd 35) ["_law_script"] []
  g_law : mg "law" = some (.ref (a 35))
  z_all : mg "all" = none
  z_bool : mg "bool" = none
  z_enumerate : mg "enumerate" = none
  z_int : mg "int" = none
  z_isinstance : mg "isinstance" = none
  z_len : mg "len" = none
  z_list : mg "list" = none
  z_range : mg "range" = none
  z_set : mg "set" = none
  z_str : mg "str" = none
  z_tuple : mg "tuple" = none
  c_DEEPEST_BRANCHING : mg "DEEPEST_BRANCHING" = some (.int 3 (tk 0))
  c_FEWEST_PAGES : mg "FEWEST_PAGES" = some (.int 2 (tk 1))
  c_GREATEST_KEEP : mg "GREATEST_KEEP" = some (.int 4 (tk 2))
  c_LEAST_KEEP : mg "LEAST_KEEP" = some (.int 2 (tk 3))
  c_LETTERS : mg "LETTERS" = some (.str "abcdefghijklmnopqrstuvwxyz" (tk 4))
  c_LONGEST_NAME : mg "LONGEST_NAME" = some (.int 8 (tk 5))
  c_MOST_BITS : mg "MOST_BITS" = some (.int 3 (tk 6))
  c_MOST_PAGES : mg "MOST_PAGES" = some (.int 5 (tk 7))
  c_MOST_ROWS : mg "MOST_ROWS" = some (.int 8 (tk 8))
  c_SIDES : mg "SIDES" = some (.ref (ka 9))
  d_SIDES : ∀ μ H, Rep K μ H (.tup [(.str "enter"), (.str "leave")]) (.ref (ka 9))
  cl_0 : Cls K (ca 0)
  ic_0 : IsC K (ca 0)
  ki_0 : PySem.W.kitOne K (.ref (ca 0)) (.ref (ca 0)) = some true
  ne_0 : NeC K (ca 0) (a 9)
  na_0_bits : NoAttr K (ca 0) "bits"
  na_0_pages : NoAttr K (ca 0) "pages"
  na_0_start : NoAttr K (ca 0) "start"
  na_0_keep : NoAttr K (ca 0) "keep"
  mk_0 : Mk K (ca 0) (a 28)
  gc_0 : mg "Site" = some (.ref (ca 0))
  kb_0 : KBn K (fd 28) ["self", "bits", "pages", "start", "keep"] 4 ["keep"] (fun us ws => us ++ ws) (fun vs ws => vs ++ ws)
  ei_InvalidSite : ExI K (ca 1)
  ge_InvalidSite : mg "InvalidSite" = some (.ref (ca 1))
  nf_InvalidSite_part : PySem.W.findIn K (.ref (ca 1)) "part" = some none
  nf_InvalidSite_path : PySem.W.findIn K (.ref (ca 1)) "path" = some none
  em_1_1 : PySem.W.subIn K (.ref (ca 1)) (.ref (ca 1)) = some true
  em_1_2 : PySem.W.subIn K (.ref (ca 1)) (.ref (ca 2)) = some false
  em_1_3 : PySem.W.subIn K (.ref (ca 1)) (.ref (ca 3)) = some false
  em_1_4 : PySem.W.subIn K (.ref (ca 1)) (.ref (ca 4)) = some false
  ei_InvalidPath : ExI K (ca 2)
  ge_InvalidPath : mg "InvalidPath" = some (.ref (ca 2))
  nf_InvalidPath_path : PySem.W.findIn K (.ref (ca 2)) "path" = some none
  em_2_1 : PySem.W.subIn K (.ref (ca 2)) (.ref (ca 1)) = some false
  em_2_2 : PySem.W.subIn K (.ref (ca 2)) (.ref (ca 2)) = some true
  em_2_3 : PySem.W.subIn K (.ref (ca 2)) (.ref (ca 3)) = some false
  em_2_4 : PySem.W.subIn K (.ref (ca 2)) (.ref (ca 4)) = some false
  ei_InvalidSide : ExI K (ca 3)
  ge_InvalidSide : mg "InvalidSide" = some (.ref (ca 3))
  nf_InvalidSide_side : PySem.W.findIn K (.ref (ca 3)) "side" = some none
  em_3_1 : PySem.W.subIn K (.ref (ca 3)) (.ref (ca 1)) = some false
  em_3_2 : PySem.W.subIn K (.ref (ca 3)) (.ref (ca 2)) = some false
  em_3_3 : PySem.W.subIn K (.ref (ca 3)) (.ref (ca 3)) = some true
  em_3_4 : PySem.W.subIn K (.ref (ca 3)) (.ref (ca 4)) = some false
  ei_UnknownPage : ExI K (ca 4)
  ge_UnknownPage : mg "UnknownPage" = some (.ref (ca 4))
  nf_UnknownPage_page : PySem.W.findIn K (.ref (ca 4)) "page" = some none
  em_4_1 : PySem.W.subIn K (.ref (ca 4)) (.ref (ca 1)) = some false
  em_4_2 : PySem.W.subIn K (.ref (ca 4)) (.ref (ca 2)) = some false
  em_4_3 : PySem.W.subIn K (.ref (ca 4)) (.ref (ca 3)) = some false
  em_4_4 : PySem.W.subIn K (.ref (ca 4)) (.ref (ca 4)) = some true
  ox_InvalidSide : OexC K (ca 3)
  xi_InvalidSide : PySem.W.findIn K (.ref (ca 3)) "__init__" = some (some (.ref (a 4)))
  ti_InvalidSide : PySem.W.typeIn K (.ref (a 4)) = some (.type "function")
  ox_InvalidSite : OexC K (ca 1)
  xi_InvalidSite : PySem.W.findIn K (.ref (ca 1)) "__init__" = some (some (.ref (a 15)))
  ti_InvalidSite : PySem.W.typeIn K (.ref (a 15)) = some (.type "function")
  ox_UnknownPage : OexC K (ca 4)
  xi_UnknownPage : PySem.W.findIn K (.ref (ca 4)) "__init__" = some (some (.ref (a 1)))
  ti_UnknownPage : PySem.W.typeIn K (.ref (a 1)) = some (.type "function")
namespace Txt
variable {K : PySem.W.Frag} {mg : Str → Option Value} {a : Nat → Addr} {fd : Nat → FuncData} {ca ka : Nat → Addr} {tk : Nat → Tok} (T : Txt K mg a fd ca ka tk)
include T
theorem r_DEEPEST_BRANCHING : RelV (.int 3) (.int 3 (tk 0)) := ⟨_, rfl⟩
theorem d_DEEPEST_BRANCHING : ∀ μ H, Rep K μ H (.int (3)) (.int 3) := fun _ _ => rep_int.mpr rfl
theorem r_FEWEST_PAGES : RelV (.int 2) (.int 2 (tk 1)) := ⟨_, rfl⟩
theorem d_FEWEST_PAGES : ∀ μ H, Rep K μ H (.int (2)) (.int 2) := fun _ _ => rep_int.mpr rfl
theorem r_GREATEST_KEEP : RelV (.int 4) (.int 4 (tk 2)) := ⟨_, rfl⟩
theorem d_GREATEST_KEEP : ∀ μ H, Rep K μ H (.int (4)) (.int 4) := fun _ _ => rep_int.mpr rfl
theorem r_LEAST_KEEP : RelV (.int 2) (.int 2 (tk 3)) := ⟨_, rfl⟩
theorem d_LEAST_KEEP : ∀ μ H, Rep K μ H (.int (2)) (.int 2) := fun _ _ => rep_int.mpr rfl
theorem r_LETTERS : RelV (.str "abcdefghijklmnopqrstuvwxyz") (.str "abcdefghijklmnopqrstuvwxyz" (tk 4)) := ⟨_, rfl⟩
theorem d_LETTERS : ∀ μ H, Rep K μ H (.str "abcdefghijklmnopqrstuvwxyz") (.str "abcdefghijklmnopqrstuvwxyz") := fun _ _ => rep_str.mpr rfl
theorem r_LONGEST_NAME : RelV (.int 8) (.int 8 (tk 5)) := ⟨_, rfl⟩
theorem d_LONGEST_NAME : ∀ μ H, Rep K μ H (.int (8)) (.int 8) := fun _ _ => rep_int.mpr rfl
theorem r_MOST_BITS : RelV (.int 3) (.int 3 (tk 6)) := ⟨_, rfl⟩
theorem d_MOST_BITS : ∀ μ H, Rep K μ H (.int (3)) (.int 3) := fun _ _ => rep_int.mpr rfl
theorem r_MOST_PAGES : RelV (.int 5) (.int 5 (tk 7)) := ⟨_, rfl⟩
theorem d_MOST_PAGES : ∀ μ H, Rep K μ H (.int (5)) (.int 5) := fun _ _ => rep_int.mpr rfl
theorem r_MOST_ROWS : RelV (.int 8) (.int 8 (tk 8)) := ⟨_, rfl⟩
theorem d_MOST_ROWS : ∀ μ H, Rep K μ H (.int (8)) (.int 8) := fun _ _ => rep_int.mpr rfl
theorem r_SIDES : RelV (.ref (ka 9)) (.ref (ka 9)) := rfl
end Txt
theorem sc__law_same : FnScope ["_law_told", "_law_due", "_law_k"] ["_law_told", "_law_due"] (defScope (topS 48)) := ⟨rfl, rfl, rfl, by decide +kernel, rfl, by decide +kernel, by decide +kernel⟩
def m__law_same : Nat → List D → M D
  | 0 => fun _ => stuck
  | n + 1 => fnM 2 3 (sSeq (sIf (tOrD (tVal (eUn (isiB "tuple") (eVar 1))) (tVal (eUn (isiB "list") (eVar 1)))) (sSeq (sIf (tOrD (tVal (eBin opNe (eUn (isiB "tuple") (eVar 1)) (eUn (isiB "tuple") (eVar 0)))) (tVal (eBin opNe (eUn (isiB "list") (eVar 1)) (eUn (isiB "list") (eVar 0))))) (sRet (eC (.bl false))) sNx) (sSeq (sIf (tVal (eBin opNe (eCall bLen (aCons (eVar 0) aNil)) (eCall bLen (aCons (eVar 1) aNil)))) (sRet (eC (.bl false))) sNx) (sRet (eCall bAll (aCons (eLc [2] (itRange (eCall bLen (aCons (eVar 1) aNil))) (gIt 2) tYesD (eCall (fun ds => (m__law_same n) (ds ++ [])) (aCons (eBin opIx (eVar 0) (eVar 2)) (aCons (eBin opIx (eVar 1) (eVar 2)) aNil)))) aNil))))) sNx) (sSeq (sIf (tVal (eBin opIsN (eVar 1) (eC .non))) (sRet (eBin opIsN (eVar 0) (eC .non))) sNx) (sSeq (sIf (tOrD (tVal (eUn (isiB "bool") (eVar 1))) (tVal (eUn (isiB "bool") (eVar 0)))) (sRet (eAnd (eUn (isiB "bool") (eVar 1)) (eAnd (eUn (isiB "bool") (eVar 0)) (eBin opEq (eVar 1) (eVar 0))))) sNx) (sSeq (sIf (tVal (eUn (isiB "int") (eVar 1))) (sRet (eAnd (eUn (isiB "int") (eVar 0)) (eBin opEq (eVar 0) (eVar 1)))) sNx) (sRet (eAnd (eUn (isiB "str") (eVar 0)) (eBin opEq (eVar 0) (eVar 1))))))))
theorem sc_UnknownPage___init__ : FnScope ["self", "page"] ["self", "page"] (defScope (inClass (topS 6) 0)) := ⟨rfl, rfl, rfl, by decide +kernel, rfl, by decide +kernel, by decide +kernel⟩
theorem sc_find_page : FnScope ["pages", "page", "name", "parts"] ["pages", "page"] (defScope (topS 27)) := ⟨rfl, rfl, rfl, by decide +kernel, rfl, by decide +kernel, by decide +kernel⟩
def b_find_page : En → M Ctl := (sSeq (sFor (itSeq (eVar 0)) (gItP 2 3) (sIf (tVal (eBin opEq (eVar 2) (eVar 1))) (sRet (eVar 3)) sNx)) (sRaise 4 ["page"] (aCons (eVar 1) aNil)))
def m_find_page : List D → M D := fnM 2 4 b_find_page
theorem sc_Site_loads : FnScope ["self", "page"] ["self", "page"] (defScope (inClass (topS 18) 4)) := ⟨rfl, rfl, rfl, by decide +kernel, rfl, by decide +kernel, by decide +kernel⟩
def b_Site_loads : En → M Ctl := (sRet (eBin opIx (eCall (fun ds => m_find_page (ds ++ [])) (aCons (eFld 0 "pages" (eVar 0)) (aCons (eVar 1) aNil))) (eC (.int 2))))
def m_Site_loads : List D → M D := fnM 2 2 b_Site_loads
theorem sc_InvalidSide___init__ : FnScope ["self", "side"] ["self", "side"] (defScope (inClass (topS 5) 0)) := ⟨rfl, rfl, rfl, by decide +kernel, rfl, by decide +kernel, by decide +kernel⟩
theorem sc_Site_guard : FnScope ["self", "page", "side", "parts", "at", "known"] ["self", "page", "side"] (defScope (inClass (topS 18) 3)) := ⟨rfl, rfl, rfl, by decide +kernel, rfl, by decide +kernel, by decide +kernel⟩
def b_Site_guard : En → M Ctl := (sSeq (sAsg (eCall (fun ds => m_find_page (ds ++ [])) (aCons (eFld 0 "pages" (eVar 0)) (aCons (eVar 1) aNil))) (gVar 3)) (sSeq (sFor (itEnumT (eC (.tup [(.str "enter"), (.str "leave")]))) (gItP 4 5) (sIf (tVal (eBin opEq (eVar 5) (eVar 2))) (sRet (eBin opIx (eVar 3) (eVar 4))) sNx)) (sRaise 3 ["side"] (aCons (eVar 2) aNil))))
def m_Site_guard : List D → M D := fnM 3 6 b_Site_guard
theorem sc_names_of : FnScope ["pages", "pair"] ["pages"] (defScope (topS 26)) := ⟨rfl, rfl, rfl, by decide +kernel, rfl, by decide +kernel, by decide +kernel⟩
def b_names_of : En → M Ctl := (sRet (eCall bTuple (aCons (eLc [1] (itSeq (eVar 0)) (gIt 1) tYesD (eBin opIx (eVar 1) (eC (.int 0)))) aNil)))
def m_names_of : List D → M D := fnM 1 2 b_names_of
theorem sc_Site_page_names : FnScope ["self"] ["self"] (defScope (inClass (topS 18) 2)) := ⟨rfl, rfl, rfl, by decide +kernel, rfl, by decide +kernel, by decide +kernel⟩
def b_Site_page_names : En → M Ctl := (sRet (eCall (fun ds => m_names_of (ds ++ [])) (aCons (eFld 0 "pages" (eVar 0)) aNil)))
def m_Site_page_names : List D → M D := fnM 1 1 b_Site_page_names
theorem sc__law_tells : FnScope ["_law_site", "_law_parts_here", "_law_names_here", "_law_told", "_law_name", "_law_page", "_law_seen", "_law_pair"] ["_law_site", "_law_parts_here"] (defScope (topS 49)) := ⟨rfl, rfl, rfl, by decide +kernel, rfl, by decide +kernel, by decide +kernel⟩
def b__law_tells : En → M Ctl := (sSeq (sAsg (eCall bTuple (aCons (eLc [7] (itSeq (eBin opIx (eVar 1) (eC (.int 1)))) (gIt 7) tYesD (eBin opIx (eVar 7) (eC (.int 0)))) aNil)) (gVar 2)) (sSeq (sAsg (eTup (aCons (eFld 0 "bits" (eVar 0)) (aCons (eFld 0 "pages" (eVar 0)) (aCons (eFld 0 "start" (eVar 0)) (aCons (eFld 0 "keep" (eVar 0)) (aCons (eMeth 0 "page_names" m_Site_page_names [] (eVar 0) aNil) aNil)))))) (gVar 3)) (sSeq (sIf (tNotD (tVal (eCall (fun ds => (m__law_same 20) (ds ++ [])) (aCons (eVar 3) (aCons (eBin opAdd (eVar 1) (eTup (aCons (eVar 2) aNil))) aNil))))) (sRet (eC (.bl false))) sNx) (sSeq (sFor (itSeq (eBin opIx (eVar 1) (eC (.int 1)))) (gItP 4 5) (sSeq (sAsg (eTup (aCons (eMeth 0 "guard" m_Site_guard [] (eVar 0) (aCons (eVar 4) (aCons (eC (.str "enter")) aNil))) (aCons (eMeth 0 "guard" m_Site_guard [] (eVar 0) (aCons (eVar 4) (aCons (eC (.str "leave")) aNil))) (aCons (eMeth 0 "loads" m_Site_loads [] (eVar 0) (aCons (eVar 4) aNil)) aNil)))) (gVar 6)) (sIf (tNotD (tVal (eCall (fun ds => (m__law_same 20) (ds ++ [])) (aCons (eVar 6) (aCons (eVar 5) aNil))))) (sRet (eC (.bl false))) sNx))) (sRet (eC (.bl true)))))))
def m__law_tells : List D → M D := fnM 2 8 b__law_tells
theorem sc_Site___eq__ : FnScope ["self", "other"] ["self", "other"] (defScope (inClass (topS 18) 1)) := ⟨rfl, rfl, rfl, by decide +kernel, rfl, by decide +kernel, by decide +kernel⟩
def b_Site___eq__ : En → M Ctl := (sRet (eAnd (eUn (isiC 0 true) (eVar 1)) (eAnd (eBin opEq (eFld 0 "bits" (eVar 0)) (eFld 0 "bits" (eVar 1))) (eAnd (eBin opEq (eFld 0 "pages" (eVar 0)) (eFld 0 "pages" (eVar 1))) (eAnd (eBin opEq (eFld 0 "start" (eVar 0)) (eFld 0 "start" (eVar 1))) (eBin opEq (eFld 0 "keep" (eVar 0)) (eFld 0 "keep" (eVar 1))))))))
def m_Site___eq__ : List D → M D := fnM 2 2 b_Site___eq__
theorem sc__law_emptied : FnScope ["_law_rows_here", "_law_k", "_law_row_here"] ["_law_rows_here"] (defScope (topS 50)) := ⟨rfl, rfl, rfl, by decide +kernel, rfl, by decide +kernel, by decide +kernel⟩
def b__law_emptied : En → M Ctl := (sSeq (sFor (itRange (eCall bLen (aCons (eVar 0) aNil))) (gIt 1) (sIf (tVal (eBin opIn (eBin opIx (eBin opIx (eVar 0) (eVar 1)) (eC (.int 0))) (eTup (aCons (eC (.str "if")) (aCons (eC (.str "ask")) aNil))))) (sSeq (sAsg (eBin opIx (eVar 0) (eVar 1)) (gVar 2)) (sRet (eBin opAdd (eBin opAdd (eSl (eVar 0) pNone (pSome (eVar 1))) (eTup (aCons (eBin opAdd (eSl (eVar 2) pNone (pSome (eBin opSub (eCall bLen (aCons (eVar 2) aNil)) (eC (.int 2))))) (eTup (aCons (eTup aNil) (aCons (eTup aNil) aNil)))) aNil))) (eSl (eVar 0) (pSome (eBin opAdd (eVar 1) (eC (.int 1)))) pNone)))) sNx)) (sRet (eVar 0)))
def m__law_emptied : List D → M D := fnM 1 3 b__law_emptied
theorem sc__law_mix : FnScope ["_law_value", "_law_k", "_law_number"] ["_law_value", "_law_k"] (defScope (topS 40)) := ⟨rfl, rfl, rfl, by decide +kernel, rfl, by decide +kernel, by decide +kernel⟩
def b__law_mix : En → M Ctl := (sSeq (sAsg (eBin opMod (eBin opMul (eBin opAdd (eBin opAdd (eCall bInt (aCons (eVar 0) aNil)) (eBin opMul (eC (.int 7919)) (eVar 1))) (eC (.int 1))) (eC (.int 48271))) (eC (.int 2147483647))) (gVar 2)) (sSeq (sAsg (eBin opMod (eBin opMul (eVar 2) (eBin opAdd (eBin opDiv (eVar 2) (eC (.int 1009))) (eC (.int 69621)))) (eC (.int 2147483647))) (gVar 2)) (sRet (eBin opMod (eBin opMul (eVar 2) (eBin opAdd (eBin opDiv (eVar 2) (eC (.int 2003))) (eC (.int 40692)))) (eC (.int 2147483399))))))
def m__law_mix : List D → M D := fnM 2 3 b__law_mix
theorem sc__law_draw : FnScope ["_law_box_here", "_law_many", "_law_digit", "_law_cell"] ["_law_box_here", "_law_many"] (defScope (topS 42)) := ⟨rfl, rfl, rfl, by decide +kernel, rfl, by decide +kernel, by decide +kernel⟩
def b__law_draw : En → M Ctl := (sSeq (sAsg (eBin opAdd (eBin opIx (eVar 0) (eC (.int 4))) (eC (.int 1))) (gSubD (eVar 0) (eC (.int 4)))) (sSeq (sIf (tAndD (tVal (eBin opEq (eBin opIx (eVar 0) (eC (.int 2))) (eC (.int 0)))) (tVal (eBin opLt (eBin opIx (eVar 0) (eC (.int 1))) (eCall bLen (aCons (eBin opIx (eVar 0) (eC (.int 0))) aNil))))) (sSeq (sAsg (eBin opIx (eBin opIx (eVar 0) (eC (.int 0))) (eBin opIx (eVar 0) (eC (.int 1)))) (gVar 3)) (sSeq (sAsg (eBin opAdd (eBin opIx (eVar 0) (eC (.int 1))) (eC (.int 1))) (gSubD (eVar 0) (eC (.int 1)))) (sSeq (sIf (tVal (eBin opLt (eVar 3) (eBin opPow (eC (.int 10)) (eC (.int 18))))) (sRet (eBin opMod (eCall bInt (aCons (eCall (fun ds => m__law_mix (ds ++ [])) (aCons (eVar 3) (aCons (eBin opIx (eVar 0) (eC (.int 4))) aNil))) aNil)) (eVar 1))) sNx) (sAsg (eVar 3) (gSubD (eVar 0) (eC (.int 2))))))) sNx) (sSeq (sIf (tVal (eBin opEq (eBin opIx (eVar 0) (eC (.int 2))) (eC (.int 0)))) (sRet (eBin opMod (eCall bInt (aCons (eCall (fun ds => m__law_mix (ds ++ [])) (aCons (eBin opIx (eVar 0) (eC (.int 3))) (aCons (eBin opIx (eVar 0) (eC (.int 4))) aNil))) aNil)) (eVar 1))) sNx) (sSeq (sAsg (eBin opMod (eCall bInt (aCons (eBin opIx (eVar 0) (eC (.int 2))) aNil)) (eVar 1)) (gVar 2)) (sSeq (sAsg (eBin opDiv (eCall bInt (aCons (eBin opIx (eVar 0) (eC (.int 2))) aNil)) (eVar 1)) (gSubD (eVar 0) (eC (.int 2)))) (sRet (eVar 2)))))))
def m__law_draw : List D → M D := fnM 2 4 b__law_draw
theorem sc__law_others : FnScope ["_law_box_here", "_law_parts_here", "_law_names_here", "_law_at", "_law_turned", "_law_second", "_law_fresh", "_law_more", "_law_found", "_law_half", "_law_bits", "_law_pages", "_law_first", "_law_size", "_law_name", "_law_page", "_law_guards", "_law_parted", "_law_pair", "_law_sign"] ["_law_box_here", "_law_parts_here"] (defScope (topS 51)) := ⟨rfl, rfl, rfl, by decide +kernel, rfl, by decide +kernel, by decide +kernel⟩
def b__law_others : En → M Ctl := (sSeq (sAsg (eVar 1) (gTupD 4 (gConsD (gVar 10) (gConsD (gVar 11) (gConsD (gVar 12) (gConsD (gVar 13) gNilD)))))) (sSeq (sAsg (eLc [18] (itSeq (eVar 11)) (gIt 18) tYesD (eBin opIx (eVar 18) (eC (.int 0)))) (gVar 2)) (sSeq (sAsg (eCall (fun ds => m__law_draw (ds ++ [])) (aCons (eVar 0) (aCons (eCall bLen (aCons (eVar 11) aNil)) aNil))) (gVar 3)) (sSeq (sAsg (eBin opIx (eVar 11) (eVar 3)) (gTupD 2 (gConsD (gVar 14) (gConsD (gVar 15) gNilD)))) (sSeq (sAsg (eBin opAdd (eBin opAdd (eSl (eVar 11) pNone (pSome (eVar 3))) (eTup (aCons (eTup (aCons (eVar 14) (aCons (eTup (aCons (eBin opIx (eVar 15) (eC (.int 0))) (aCons (eBin opIx (eVar 15) (eC (.int 1))) (aCons (eNot (eBin opIx (eVar 15) (eC (.int 2)))) aNil)))) aNil))) aNil))) (eSl (eVar 11) (pSome (eBin opAdd (eVar 3) (eC (.int 1)))) pNone)) (gVar 4)) (sSeq (sAsg (eBin opIx (eVar 2) (eBin opMod (eBin opAdd (eBin opAdd (eMt chkL mIndexL (eVar 2) (aCons (eVar 12) aNil)) (eC (.int 1))) (eCall (fun ds => m__law_draw (ds ++ [])) (aCons (eVar 0) (aCons (eBin opSub (eCall bLen (aCons (eVar 2) aNil)) (eC (.int 1))) aNil)))) (eCall bLen (aCons (eVar 2) aNil)))) (gVar 5)) (sSeq (sAsg (eBin opIx (eLc [19] (itStr (eC (.str "abcdefgh"))) (gIt 19) (tVal (eBin opNotIn (eVar 19) (eVar 10))) (eVar 19)) (eC (.int 0))) (gVar 6)) (sSeq (sAsg (eBin opAdd (eVar 10) (eTup (aCons (eVar 6) aNil))) (gVar 7)) (sSeq (sIf (tVal (eBin opEq (eCall bLen (aCons (eVar 10) aNil)) (eC (.int 3)))) (sAsg (eTup (aCons (eBin opIx (eVar 10) (eC (.int 1))) (aCons (eBin opIx (eVar 10) (eC (.int 2))) (aCons (eBin opIx (eVar 10) (eC (.int 0))) aNil)))) (gVar 7)) sNx) (sSeq (sAsg (eLst (aCons (eTup (aCons (eVar 7) (aCons (eVar 11) (aCons (eVar 12) (aCons (eVar 13) aNil))))) (aCons (eTup (aCons (eVar 10) (aCons (eVar 4) (aCons (eVar 12) (aCons (eVar 13) aNil))))) (aCons (eTup (aCons (eVar 10) (aCons (eVar 11) (aCons (eVar 5) (aCons (eVar 13) aNil))))) aNil)))) (gVar 8)) (sSeq (sEx (eMt chkL mAppend (eVar 8) (aCons (eTup (aCons (eVar 10) (aCons (eVar 11) (aCons (eVar 12) (aCons (eBin opAdd (eC (.int 2)) (eBin opMod (eBin opSub (eVar 13) (eC (.int 1))) (eC (.int 3)))) aNil))))) aNil))) (sSeq (sFor (itRange (eC (.int 2))) (gIt 9) (sSeq (sAsg (eLst (aCons (eBin opIx (eVar 15) (eC (.int 0))) (aCons (eBin opIx (eVar 15) (eC (.int 1))) aNil))) (gVar 16)) (sSeq (sAsg (eBin opMulX (eTup (aCons (eTup (aCons (eC (.str "refuse")) aNil)) aNil)) (eCall bInt (aCons (eBin opEq (eCall bLen (aCons (eBin opIx (eVar 16) (eVar 9)) aNil)) (eC (.int 0))) aNil))) (gSubD (eVar 16) (eVar 9))) (sSeq (sAsg (eBin opAdd (eBin opAdd (eSl (eVar 11) pNone (pSome (eVar 3))) (eTup (aCons (eTup (aCons (eVar 14) (aCons (eTup (aCons (eBin opIx (eVar 16) (eC (.int 0))) (aCons (eBin opIx (eVar 16) (eC (.int 1))) (aCons (eBin opIx (eVar 15) (eC (.int 2))) aNil)))) aNil))) aNil))) (eSl (eVar 11) (pSome (eBin opAdd (eVar 3) (eC (.int 1)))) pNone)) (gVar 17)) (sSeq (sEx (eMt chkL mAppend (eVar 8) (aCons (eTup (aCons (eVar 10) (aCons (eVar 17) (aCons (eVar 12) (aCons (eVar 13) aNil))))) aNil))) (sSeq (sAsg (eLst (aCons (eBin opIx (eVar 15) (eC (.int 0))) (aCons (eBin opIx (eVar 15) (eC (.int 1))) aNil))) (gVar 16)) (sSeq (sAsg (eCall (fun ds => m__law_emptied (ds ++ [])) (aCons (eBin opIx (eVar 16) (eVar 9)) aNil)) (gSubD (eVar 16) (eVar 9))) (sIf (tVal (eBin opNe (eBin opIx (eVar 16) (eVar 9)) (eBin opIx (eVar 15) (eVar 9)))) (sSeq (sAsg (eBin opAdd (eBin opAdd (eSl (eVar 11) pNone (pSome (eVar 3))) (eTup (aCons (eTup (aCons (eVar 14) (aCons (eTup (aCons (eBin opIx (eVar 16) (eC (.int 0))) (aCons (eBin opIx (eVar 16) (eC (.int 1))) (aCons (eBin opIx (eVar 15) (eC (.int 2))) aNil)))) aNil))) aNil))) (eSl (eVar 11) (pSome (eBin opAdd (eVar 3) (eC (.int 1)))) pNone)) (gVar 17)) (sEx (eMt chkL mAppend (eVar 8) (aCons (eTup (aCons (eVar 10) (aCons (eVar 17) (aCons (eVar 12) (aCons (eVar 13) aNil))))) aNil)))) sNx)))))))) (sSeq (sEx (eMt chkL mAppend (eVar 8) (aCons (eTup (aCons (eVar 10) (aCons (eBin opAdd (eSl (eVar 11) (pSome (eC (.int 1))) pNone) (eSl (eVar 11) pNone (pSome (eC (.int 1))))) (aCons (eVar 12) (aCons (eVar 13) aNil))))) aNil))) (sRet (eVar 8)))))))))))))))
def m__law_others : List D → M D := fnM 2 20 b__law_others
theorem sc_is_integer : FnScope ["value"] ["value"] (defScope (topS 19)) := ⟨rfl, rfl, rfl, by decide +kernel, rfl, by decide +kernel, by decide +kernel⟩
def b_is_integer : En → M Ctl := (sRet (eAnd (eUn (isiB "int") (eVar 0)) (eNot (eUn (isiB "bool") (eVar 0)))))
def m_is_integer : List D → M D := fnM 1 1 b_is_integer
theorem sc_InvalidSite___init__ : FnScope ["self", "part", "path"] ["self", "part", "path"] (defScope (inClass (topS 3) 0)) := ⟨rfl, rfl, rfl, by decide +kernel, rfl, by decide +kernel, by decide +kernel⟩
theorem sc_branches : FnScope ["row"] ["row"] (defScope (topS 32)) := ⟨rfl, rfl, rfl, by decide +kernel, rfl, by decide +kernel, by decide +kernel⟩
def b_branches : En → M Ctl := (sSeq (sIf (tOrD (tVal (eBin opEq (eBin opIx (eVar 0) (eC (.int 0))) (eC (.str "if")))) (tVal (eBin opEq (eBin opIx (eVar 0) (eC (.int 0))) (eC (.str "ask"))))) (sRet (eSl (eVar 0) (pSome (eUn opNeg (eC (.int 2)))) pNone)) sNx) (sRet (eTup aNil)))
def m_branches : List D → M D := fnM 1 1 b_branches
theorem sc_rows_with_positions : FnScope ["rows", "before", "found", "index", "row", "position", "branch", "inner"] ["rows", "before"] (defScope (topS 33)) := ⟨rfl, rfl, rfl, by decide +kernel, rfl, by decide +kernel, by decide +kernel⟩
def m_rows_with_positions : Nat → List D → M D
  | 0 => fun _ => stuck
  | n + 1 => fnM 2 8 (sSeq (sAsg (eLst aNil) (gVar 2)) (sSeq (sFor (itEnumT (eVar 0)) (gItP 3 4) (sSeq (sAsg (eBin opAdd (eVar 1) (eTup (aCons (eVar 3) aNil))) (gVar 5)) (sSeq (sEx (eMt chkL mAppend (eVar 2) (aCons (eTup (aCons (eVar 5) (aCons (eVar 4) aNil))) aNil))) (sFor (itEnumT (eCall (fun ds => m_branches (ds ++ [])) (aCons (eVar 4) aNil))) (gItP 6 7) (sEx (eMt chkL mExtend (eVar 2) (aCons (eCall (fun ds => (m_rows_with_positions n) (ds ++ [])) (aCons (eVar 7) (aCons (eBin opAdd (eVar 5) (eTup (aCons (eVar 6) aNil))) aNil))) aNil))))))) (sRet (eVar 2))))
theorem sc_may_branch : FnScope ["position", "row", "depth"] ["position", "row"] (defScope (topS 31)) := ⟨rfl, rfl, rfl, by decide +kernel, rfl, by decide +kernel, by decide +kernel⟩
def b_may_branch : En → M Ctl := (sSeq (sAsg (eBin opDiv (eBin opAdd (eCall bLen (aCons (eVar 0) aNil)) (eC (.int 1))) (eC (.int 2))) (gVar 2)) (sRet (eAnd (eBin opLe (eVar 2) (eC (.int (3)))) (eAnd (eUn (isiB "tuple") (eBin opIx (eVar 1) (eUn opNeg (eC (.int 2))))) (eUn (isiB "tuple") (eBin opIx (eVar 1) (eUn opNeg (eC (.int 1)))))))))
def m_may_branch : List D → M D := fnM 2 3 b_may_branch
theorem sc_is_row : FnScope ["bits", "names", "side", "position", "row", "word"] ["bits", "names", "side", "position", "row"] (defScope (topS 30)) := ⟨rfl, rfl, rfl, by decide +kernel, rfl, by decide +kernel, by decide +kernel⟩
def b_is_row : En → M Ctl := (sSeq (sIf (tOrD (tNotD (tVal (eUn (isiB "tuple") (eVar 4)))) (tVal (eBin opEq (eCall bLen (aCons (eVar 4) aNil)) (eC (.int 0))))) (sRet (eC (.bl false))) sNx) (sSeq (sAsg (eBin opIx (eVar 4) (eC (.int 0))) (gVar 5)) (sSeq (sIf (tVal (eBin opEq (eVar 5) (eC (.str "if")))) (sRet (eAnd (eBin opEq (eCall bLen (aCons (eVar 4) aNil)) (eC (.int 4))) (eAnd (eBin opIn (eBin opIx (eVar 4) (eC (.int 1))) (eVar 0)) (eCall (fun ds => m_may_branch (ds ++ [])) (aCons (eVar 3) (aCons (eVar 4) aNil)))))) sNx) (sSeq (sIf (tVal (eBin opEq (eVar 5) (eC (.str "ask")))) (sRet (eAnd (eBin opEq (eCall bLen (aCons (eVar 4) aNil)) (eC (.int 3))) (eCall (fun ds => m_may_branch (ds ++ [])) (aCons (eVar 3) (aCons (eVar 4) aNil))))) sNx) (sSeq (sIf (tVal (eBin opEq (eVar 5) (eC (.str "set")))) (sRet (eAnd (eBin opEq (eCall bLen (aCons (eVar 4) aNil)) (eC (.int 3))) (eAnd (eBin opIn (eBin opIx (eVar 4) (eC (.int 1))) (eVar 0)) (eUn (isiB "bool") (eBin opIx (eVar 4) (eC (.int 2))))))) sNx) (sSeq (sIf (tVal (eBin opEq (eVar 5) (eC (.str "lead")))) (sRet (eAnd (eBin opEq (eCall bLen (aCons (eVar 4) aNil)) (eC (.int 2))) (eAnd (eBin opIn (eBin opIx (eVar 4) (eC (.int 1))) (eVar 1)) (eBin opEq (eVar 2) (eC (.str "enter")))))) sNx) (sRet (eBin opEq (eVar 4) (eTup (aCons (eC (.str "refuse")) aNil))))))))))
def m_is_row : List D → M D := fnM 5 6 b_is_row
theorem sc_first_wrong_row : FnScope ["bits", "names", "side", "rows", "before", "index", "row", "position", "branch", "inner", "wrong"] ["bits", "names", "side", "rows", "before"] (defScope (topS 29)) := ⟨rfl, rfl, rfl, by decide +kernel, rfl, by decide +kernel, by decide +kernel⟩
def m_first_wrong_row : Nat → List D → M D
  | 0 => fun _ => stuck
  | n + 1 => fnM 5 11 (sSeq (sFor (itEnumT (eVar 3)) (gItP 5 6) (sSeq (sAsg (eBin opAdd (eVar 4) (eTup (aCons (eVar 5) aNil))) (gVar 7)) (sSeq (sIf (tNotD (tVal (eCall (fun ds => m_is_row (ds ++ [])) (aCons (eVar 0) (aCons (eVar 1) (aCons (eVar 2) (aCons (eVar 7) (aCons (eVar 6) aNil)))))))) (sRet (eVar 7)) sNx) (sFor (itEnumT (eCall (fun ds => m_branches (ds ++ [])) (aCons (eVar 6) aNil))) (gItP 8 9) (sSeq (sAsg (eCall (fun ds => (m_first_wrong_row n) (ds ++ [])) (aCons (eVar 0) (aCons (eVar 1) (aCons (eVar 2) (aCons (eVar 9) (aCons (eBin opAdd (eVar 7) (eTup (aCons (eVar 8) aNil))) aNil)))))) (gVar 10)) (sIf (tVal (eBin opNotN (eVar 10) (eC .non))) (sRet (eVar 10)) sNx)))))) (sRet (eC .non)))
theorem sc_check_guard : FnScope ["bits", "names", "page", "side", "rows", "wrong"] ["bits", "names", "page", "side", "rows"] (defScope (topS 28)) := ⟨rfl, rfl, rfl, by decide +kernel, rfl, by decide +kernel, by decide +kernel⟩
def b_check_guard : En → M Ctl := (sSeq (sIf (tNotD (tVal (eUn (isiB "tuple") (eVar 4)))) (sRaise 1 ["part", "path"] (aCons (eC (.str "rows")) (aCons (eTup (aCons (eVar 2) (aCons (eVar 3) (aCons (eTup aNil) aNil)))) aNil))) sNx) (sSeq (sAsg (eCall (fun ds => (m_first_wrong_row 5) (ds ++ [])) (aCons (eVar 0) (aCons (eVar 1) (aCons (eVar 3) (aCons (eVar 4) (aCons (eTup aNil) aNil)))))) (gVar 5)) (sSeq (sIf (tVal (eBin opNotN (eVar 5) (eC .non))) (sRaise 1 ["part", "path"] (aCons (eC (.str "rows")) (aCons (eTup (aCons (eVar 2) (aCons (eVar 3) (aCons (eVar 5) aNil)))) aNil))) sNx) (sIf (tVal (eBin opGt (eCall bLen (aCons (eCall (fun ds => (m_rows_with_positions 5) (ds ++ [])) (aCons (eVar 4) (aCons (eTup aNil) aNil))) aNil)) (eC (.int (8))))) (sRaise 1 ["part", "path"] (aCons (eC (.str "many")) (aCons (eTup (aCons (eVar 2) (aCons (eVar 3) (aCons (eTup aNil) aNil)))) aNil))) sNx))))
def m_check_guard : List D → M D := fnM 5 6 b_check_guard
theorem sc_is_named_page : FnScope ["value", "page"] ["value"] (defScope (topS 25)) := ⟨rfl, rfl, rfl, by decide +kernel, rfl, by decide +kernel, by decide +kernel⟩
def b_is_named_page : En → M Ctl := (sSeq (sIf (tOrD (tNotD (tVal (eUn (isiB "tuple") (eVar 0)))) (tVal (eBin opNe (eCall bLen (aCons (eVar 0) aNil)) (eC (.int 2))))) (sRet (eC (.bl false))) sNx) (sSeq (sAsg (eBin opIx (eVar 0) (eC (.int 1))) (gVar 1)) (sRet (eAnd (eUn (isiB "tuple") (eVar 1)) (eAnd (eBin opEq (eCall bLen (aCons (eVar 1) aNil)) (eC (.int 3))) (eUn (isiB "bool") (eBin opIx (eVar 1) (eC (.int 2)))))))))
def m_is_named_page : List D → M D := fnM 1 2 b_is_named_page
theorem sc_is_name : FnScope ["value", "letter"] ["value"] (defScope (topS 20)) := ⟨rfl, rfl, rfl, by decide +kernel, rfl, by decide +kernel, by decide +kernel⟩
def b_is_name : En → M Ctl := (sSeq (sIf (tOrD (tNotD (tVal (eUn (isiB "str") (eVar 0)))) (tNotD (tVal (eChain opLe opLe (eC (.int 1)) (eCall bLen (aCons (eVar 0) aNil)) (eC (.int (8))))))) (sRet (eC (.bl false))) sNx) (sRet (eCall bAll (aCons (eLc [1] (itSeq (eVar 0)) (gIt 1) tYesD (eBin opIn (eVar 1) (eC (.str "abcdefghijklmnopqrstuvwxyz")))) aNil))))
def m_is_name : List D → M D := fnM 1 2 b_is_name
theorem sc_are_different_names : FnScope ["values", "value"] ["values"] (defScope (topS 21)) := ⟨rfl, rfl, rfl, by decide +kernel, rfl, by decide +kernel, by decide +kernel⟩
def b_are_different_names : En → M Ctl := (sRet (eAnd (eCall bAll (aCons (eLc [1] (itSeq (eVar 0)) (gIt 1) tYesD (eCall (fun ds => m_is_name (ds ++ [])) (aCons (eVar 1) aNil))) aNil)) (eBin opEq (eUn lenSetD (eVar 0)) (eCall bLen (aCons (eVar 0) aNil)))))
def m_are_different_names : List D → M D := fnM 1 2 b_are_different_names
theorem sc_are_pages : FnScope ["value", "pair"] ["value"] (defScope (topS 24)) := ⟨rfl, rfl, rfl, by decide +kernel, rfl, by decide +kernel, by decide +kernel⟩
def b_are_pages : En → M Ctl := (sSeq (sIf (tOrD (tNotD (tVal (eUn (isiB "tuple") (eVar 0)))) (tNotD (tVal (eChain opLe opLe (eC (.int (2))) (eCall bLen (aCons (eVar 0) aNil)) (eC (.int (5))))))) (sRet (eC (.bl false))) sNx) (sRet (eAnd (eCall bAll (aCons (eLc [1] (itSeq (eVar 0)) (gIt 1) tYesD (eCall (fun ds => m_is_named_page (ds ++ [])) (aCons (eVar 1) aNil))) aNil)) (eCall (fun ds => m_are_different_names (ds ++ [])) (aCons (eCall (fun ds => m_names_of (ds ++ [])) (aCons (eVar 0) aNil)) aNil)))))
def m_are_pages : List D → M D := fnM 1 2 b_are_pages
theorem sc_are_bits : FnScope ["value"] ["value"] (defScope (topS 23)) := ⟨rfl, rfl, rfl, by decide +kernel, rfl, by decide +kernel, by decide +kernel⟩
def b_are_bits : En → M Ctl := (sRet (eAnd (eUn (isiB "tuple") (eVar 0)) (eAnd (eBin opLe (eCall bLen (aCons (eVar 0) aNil)) (eC (.int (3)))) (eCall (fun ds => m_are_different_names (ds ++ [])) (aCons (eVar 0) aNil)))))
def m_are_bits : List D → M D := fnM 1 1 b_are_bits
theorem sc_check_site : FnScope ["bits", "pages", "start", "keep", "names", "name", "parts", "at", "side"] ["bits", "pages", "start", "keep"] (defScope (topS 22)) := ⟨rfl, rfl, rfl, by decide +kernel, rfl, by decide +kernel, by decide +kernel⟩
def b_check_site : En → M Ctl := (sSeq (sIf (tNotD (tVal (eCall (fun ds => m_are_bits (ds ++ [])) (aCons (eVar 0) aNil)))) (sRaise 1 ["part", "path"] (aCons (eC (.str "bits")) (aCons (eTup aNil) aNil))) sNx) (sSeq (sIf (tNotD (tVal (eCall (fun ds => m_are_pages (ds ++ [])) (aCons (eVar 1) aNil)))) (sRaise 1 ["part", "path"] (aCons (eC (.str "pages")) (aCons (eTup aNil) aNil))) sNx) (sSeq (sAsg (eCall (fun ds => m_names_of (ds ++ [])) (aCons (eVar 1) aNil)) (gVar 4)) (sSeq (sFor (itSeq (eVar 1)) (gItP 5 6) (sFor (itEnumT (eC (.tup [(.str "enter"), (.str "leave")]))) (gItP 7 8) (sEx (eCall (fun ds => m_check_guard (ds ++ [])) (aCons (eVar 0) (aCons (eVar 4) (aCons (eVar 5) (aCons (eVar 8) (aCons (eBin opIx (eVar 6) (eVar 7)) aNil))))))))) (sSeq (sIf (tVal (eBin opNotIn (eVar 2) (eVar 4))) (sRaise 1 ["part", "path"] (aCons (eC (.str "start")) (aCons (eTup aNil) aNil))) sNx) (sIf (tOrD (tNotD (tVal (eCall (fun ds => m_is_integer (ds ++ [])) (aCons (eVar 3) aNil)))) (tNotD (tVal (eChain opLe opLe (eC (.int (2))) (eVar 3) (eC (.int (4))))))) (sRaise 1 ["part", "path"] (aCons (eC (.str "keep")) (aCons (eTup aNil) aNil))) sNx))))))
def m_check_site : List D → M D := fnM 4 9 b_check_site
theorem sc_Site___init__ : FnScope ["self", "bits", "pages", "start", "keep"] ["self", "bits", "pages", "start", "keep"] (defScope (inClass (topS 18) 0)) := ⟨rfl, rfl, rfl, by decide +kernel, rfl, by decide +kernel, by decide +kernel⟩
def b_Site___init__ : En → M Ctl := (sSeq (sEx (eCall (fun ds => m_check_site (ds ++ [])) (aCons (eVar 1) (aCons (eVar 2) (aCons (eVar 3) (aCons (eVar 4) aNil)))))) (sSeq (sFld 0 "bits" (eVar 1) (eVar 0)) (sSeq (sFld 0 "pages" (eVar 2) (eVar 0)) (sSeq (sFld 0 "start" (eVar 3) (eVar 0)) (sFld 0 "keep" (eVar 4) (eVar 0))))))
def m_Site___init__ : List D → M D := fnM 5 5 b_Site___init__
theorem sc__law_word : FnScope ["_law_box_here", "_law_bits", "_law_side", "_law_depth", "_law_word_here"] ["_law_box_here", "_law_bits", "_law_side", "_law_depth"] (defScope (topS 44)) := ⟨rfl, rfl, rfl, by decide +kernel, rfl, by decide +kernel, by decide +kernel⟩
def b__law_word : En → M Ctl := (sSeq (sAsg (eBin opIx (eLst (aCons (eC (.str "if")) (aCons (eC (.str "ask")) (aCons (eC (.str "set")) (aCons (eC (.str "lead")) (aCons (eC (.str "refuse")) (aCons (eC (.str "ask")) (aCons (eC (.str "if")) (aCons (eC (.str "set")) aNil))))))))) (eCall (fun ds => m__law_draw (ds ++ [])) (aCons (eVar 0) (aCons (eC (.int 8)) aNil)))) (gVar 4)) (sSeq (sIf (tAndD (tVal (eBin opEq (eVar 4) (eC (.str "lead")))) (tVal (eBin opEq (eVar 2) (eC (.str "leave"))))) (sAsg (eC (.str "ask")) (gVar 4)) sNx) (sSeq (sIf (tAndD (tVal (eBin opIn (eVar 4) (eTup (aCons (eC (.str "if")) (aCons (eC (.str "set")) aNil))))) (tVal (eBin opEq (eCall bLen (aCons (eVar 1) aNil)) (eC (.int 0))))) (sAsg (eC (.str "ask")) (gVar 4)) sNx) (sSeq (sIf (tAndD (tVal (eBin opIn (eVar 4) (eTup (aCons (eC (.str "if")) (aCons (eC (.str "ask")) aNil))))) (tVal (eBin opEq (eVar 3) (eC (.int 4))))) (sAsg (eC (.str "refuse")) (gVar 4)) sNx) (sRet (eVar 4))))))
def m__law_word : List D → M D := fnM 4 5 b__law_word
theorem sc__law_row : FnScope ["_law_box_here", "_law_bits", "_law_names_here", "_law_side", "_law_depth", "_law_room", "_law_word_here", "_law_head", "_law_first", "_law_second"] ["_law_box_here", "_law_bits", "_law_names_here", "_law_side", "_law_depth", "_law_room"] (defScope (topS 46)) := ⟨rfl, rfl, rfl, by decide +kernel, rfl, by decide +kernel, by decide +kernel⟩
theorem sc__law_rows : FnScope ["_law_box_here", "_law_bits", "_law_names_here", "_law_side", "_law_depth", "_law_room", "_law_many", "_law_rows_here", "_law_k"] ["_law_box_here", "_law_bits", "_law_names_here", "_law_side", "_law_depth", "_law_room"] (defScope (topS 45)) := ⟨rfl, rfl, rfl, by decide +kernel, rfl, by decide +kernel, by decide +kernel⟩
mutual
def m__law_row : Nat → List D → M D
  | 0 => fun _ => stuck
  | n + 1 => fnM 6 10 (sSeq (sAsg (eCall (fun ds => m__law_word (ds ++ [])) (aCons (eVar 0) (aCons (eVar 1) (aCons (eVar 3) (aCons (eVar 4) aNil))))) (gVar 6)) (sSeq (sIf (tVal (eBin opEq (eVar 6) (eC (.str "refuse")))) (sRet (eTup (aCons (eC (.str "refuse")) aNil))) sNx) (sSeq (sIf (tVal (eBin opEq (eVar 6) (eC (.str "lead")))) (sRet (eTup (aCons (eC (.str "lead")) (aCons (eBin opIx (eVar 2) (eCall (fun ds => m__law_draw (ds ++ [])) (aCons (eVar 0) (aCons (eCall bLen (aCons (eVar 2) aNil)) aNil)))) aNil)))) sNx) (sSeq (sIf (tVal (eBin opEq (eVar 6) (eC (.str "set")))) (sRet (eTup (aCons (eC (.str "set")) (aCons (eBin opIx (eVar 1) (eCall (fun ds => m__law_draw (ds ++ [])) (aCons (eVar 0) (aCons (eCall bLen (aCons (eVar 1) aNil)) aNil)))) (aCons (eBin opEq (eCall (fun ds => m__law_draw (ds ++ [])) (aCons (eVar 0) (aCons (eC (.int 2)) aNil))) (eC (.int 1))) aNil))))) sNx) (sSeq (sAsg (eTup (aCons (eC (.str "ask")) aNil)) (gVar 7)) (sSeq (sIf (tVal (eBin opEq (eVar 6) (eC (.str "if")))) (sAsg (eTup (aCons (eC (.str "if")) (aCons (eBin opIx (eVar 1) (eCall (fun ds => m__law_draw (ds ++ [])) (aCons (eVar 0) (aCons (eCall bLen (aCons (eVar 1) aNil)) aNil)))) aNil))) (gVar 7)) sNx) (sSeq (sAsg (eCall (fun ds => (m__law_rows n) (ds ++ [])) (aCons (eVar 0) (aCons (eVar 1) (aCons (eVar 2) (aCons (eVar 3) (aCons (eBin opAdd (eVar 4) (eC (.int 1))) (aCons (eVar 5) aNil))))))) (gVar 8)) (sSeq (sAsg (eCall (fun ds => (m__law_rows n) (ds ++ [])) (aCons (eVar 0) (aCons (eVar 1) (aCons (eVar 2) (aCons (eVar 3) (aCons (eBin opAdd (eVar 4) (eC (.int 1))) (aCons (eVar 5) aNil))))))) (gVar 9)) (sRet (eBin opAdd (eVar 7) (eTup (aCons (eVar 8) (aCons (eVar 9) aNil)))))))))))))
def m__law_rows : Nat → List D → M D
  | 0 => fun _ => stuck
  | n + 1 => fnM 6 9 (sSeq (sAsg (eCall (fun ds => m__law_draw (ds ++ [])) (aCons (eVar 0) (aCons (eC (.int 12)) aNil))) (gVar 6)) (sSeq (sIf (tVal (eBin opGt (eVar 6) (eC (.int 8)))) (sAsg (eBin opSub (eVar 6) (eC (.int 8))) (gVar 6)) sNx) (sSeq (sAsg (eLst aNil) (gVar 7)) (sSeq (sFor (itRange (eVar 6)) (gIt 8) (sIf (tVal (eBin opGt (eBin opIx (eVar 5) (eC (.int 0))) (eC (.int 0)))) (sSeq (sAsg (eBin opSub (eBin opIx (eVar 5) (eC (.int 0))) (eC (.int 1))) (gSubD (eVar 5) (eC (.int 0)))) (sEx (eMt chkL mAppend (eVar 7) (aCons (eCall (fun ds => (m__law_row n) (ds ++ [])) (aCons (eVar 0) (aCons (eVar 1) (aCons (eVar 2) (aCons (eVar 3) (aCons (eVar 4) (aCons (eVar 5) aNil))))))) aNil)))) sNx)) (sRet (eCall bTuple (aCons (eVar 7) aNil)))))))
end
theorem sc__law_names : FnScope ["_law_box_here", "_law_many", "_law_names_here", "_law_k", "_law_word_here", "_law_at", "_law_free", "_law_sign"] ["_law_box_here", "_law_many"] (defScope (topS 43)) := ⟨rfl, rfl, rfl, by decide +kernel, rfl, by decide +kernel, by decide +kernel⟩
def b__law_names : En → M Ctl := (sSeq (sAsg (eLst aNil) (gVar 2)) (sSeq (sFor (itRange (eVar 1)) (gIt 3) (sSeq (sAsg (eC (.str "")) (gVar 4)) (sSeq (sFor (itRange (eBin opAdd (eC (.int 1)) (eCall (fun ds => m__law_draw (ds ++ [])) (aCons (eVar 0) (aCons (eC (.int 8)) aNil))))) (gIt 5) (sAsg (eBin opAdd (eVar 4) (eBin opIx (eC (.str "abcdefghijklmnopqrstuvwxyz")) (eCall (fun ds => m__law_draw (ds ++ [])) (aCons (eVar 0) (aCons (eC (.int 26)) aNil))))) (gVar 4))) (sSeq (sIf (tVal (eBin opIn (eVar 4) (eVar 2))) (sSeq (sAsg (eLc [7] (itStr (eC (.str "abcdefghijklmnopqrstuvwxyz"))) (gIt 7) (tVal (eBin opNotIn (eBin opAdd (eSl (eVar 4) pNone (pSome (eC (.int 7)))) (eVar 7)) (eVar 2))) (eBin opAdd (eSl (eVar 4) pNone (pSome (eC (.int 7)))) (eVar 7))) (gVar 6)) (sAsg (eBin opIx (eVar 6) (eC (.int 0))) (gVar 4))) sNx) (sEx (eMt chkL mAppend (eVar 2) (aCons (eVar 4) aNil))))))) (sRet (eVar 2))))
def m__law_names : List D → M D := fnM 2 8 b__law_names
theorem sc__law_parts : FnScope ["_law_box_here", "_law_size", "_law_bits", "_law_names_here", "_law_pages", "_law_name", "_law_first", "_law_heavy", "_law_rooms", "_law_enter", "_law_leave"] ["_law_box_here"] (defScope (topS 47)) := ⟨rfl, rfl, rfl, by decide +kernel, rfl, by decide +kernel, by decide +kernel⟩
def b__law_parts : En → M Ctl := (sSeq (sAsg (eBin opAdd (eC (.int 2)) (eCall (fun ds => m__law_draw (ds ++ [])) (aCons (eVar 0) (aCons (eC (.int 3)) aNil)))) (gVar 1)) (sSeq (sAsg (eCall bTuple (aCons (eCall (fun ds => m__law_names (ds ++ [])) (aCons (eVar 0) (aCons (eCall (fun ds => m__law_draw (ds ++ [])) (aCons (eVar 0) (aCons (eC (.int 4)) aNil))) aNil))) aNil)) (gVar 2)) (sSeq (sAsg (eCall (fun ds => m__law_names (ds ++ [])) (aCons (eVar 0) (aCons (eBin opAdd (eC (.int 2)) (eCall (fun ds => m__law_draw (ds ++ [])) (aCons (eVar 0) (aCons (eC (.int 4)) aNil)))) aNil))) (gVar 3)) (sSeq (sIf (tAndD (tVal (eBin opEq (eCall (fun ds => m__law_draw (ds ++ [])) (aCons (eVar 0) (aCons (eC (.int 4)) aNil))) (eC (.int 0)))) (tAndD (tVal (eBin opGt (eCall bLen (aCons (eVar 2) aNil)) (eC (.int 0)))) (tVal (eBin opNotIn (eBin opIx (eVar 2) (eC (.int 0))) (eVar 3))))) (sAsg (eBin opIx (eVar 2) (eC (.int 0))) (gSubD (eVar 3) (eC (.int 0)))) sNx) (sSeq (sAsg (eLst aNil) (gVar 4)) (sSeq (sFor (itSeq (eVar 3)) (gIt 5) (sSeq (sAsg (eBin opEq (eCall (fun ds => m__law_draw (ds ++ [])) (aCons (eVar 0) (aCons (eC (.int 2)) aNil))) (eC (.int 1))) (gVar 7)) (sSeq (sAsg (eLst (aCons (eC (.int 0)) (aCons (eC (.int 1)) (aCons (eC (.int 2)) (aCons (eC (.int 3)) (aCons (eC (.int 8)) (aCons (eC (.int 0)) (aCons (eC (.int 5)) (aCons (eC (.int 1)) aNil))))))))) (gVar 8)) (sSeq (sAsg (eCall (fun ds => (m__law_rows 8) (ds ++ [])) (aCons (eVar 0) (aCons (eVar 2) (aCons (eVar 3) (aCons (eC (.str "enter")) (aCons (eC (.int 1)) (aCons (eLst (aCons (eBin opIx (eVar 8) (eCall (fun ds => m__law_draw (ds ++ [])) (aCons (eVar 0) (aCons (eC (.int 8)) aNil)))) aNil)) aNil))))))) (gVar 9)) (sSeq (sAsg (eCall (fun ds => (m__law_rows 8) (ds ++ [])) (aCons (eVar 0) (aCons (eVar 2) (aCons (eVar 3) (aCons (eC (.str "leave")) (aCons (eC (.int 1)) (aCons (eLst (aCons (eBin opIx (eVar 8) (eCall (fun ds => m__law_draw (ds ++ [])) (aCons (eVar 0) (aCons (eC (.int 8)) aNil)))) aNil)) aNil))))))) (gVar 10)) (sEx (eMt chkL mAppend (eVar 4) (aCons (eTup (aCons (eVar 5) (aCons (eTup (aCons (eVar 9) (aCons (eVar 10) (aCons (eVar 7) aNil)))) aNil))) aNil)))))))) (sSeq (sAsg (eBin opIx (eVar 3) (eCall (fun ds => m__law_draw (ds ++ [])) (aCons (eVar 0) (aCons (eCall bLen (aCons (eVar 3) aNil)) aNil)))) (gVar 6)) (sRet (eTup (aCons (eVar 2) (aCons (eCall bTuple (aCons (eVar 4) aNil)) (aCons (eVar 6) (aCons (eVar 1) aNil)))))))))))))
def m__law_parts : List D → M D := fnM 1 11 b__law_parts
theorem sc__law_box : FnScope ["_law_script", "_law_cells", "_law_seed", "_law_cell"] ["_law_script"] (defScope (topS 41)) := ⟨rfl, rfl, rfl, by decide +kernel, rfl, by decide +kernel, by decide +kernel⟩
def b__law_box : En → M Ctl := (sSeq (sAsg (eLc [3] (itSeq (eSl (eVar 0) pNone (pSome (eC (.int 63))))) (gIt 3) tYesD (eCall bInt (aCons (eVar 3) aNil))) (gVar 1)) (sSeq (sAsg (eC (.int 11)) (gVar 2)) (sSeq (sFor (itSeq (eVar 1)) (gIt 3) (sAsg (eCall (fun ds => m__law_mix (ds ++ [])) (aCons (eBin opAdd (eVar 2) (eVar 3)) (aCons (eC (.int 3)) aNil))) (gVar 2))) (sRet (eLst (aCons (eVar 1) (aCons (eC (.int 0)) (aCons (eC (.int 0)) (aCons (eVar 2) (aCons (eC (.int 0)) aNil))))))))))
def m__law_box : List D → M D := fnM 1 4 b__law_box
theorem sc_law : FnScope ["_law_script", "_law_box_here", "_law_parts_here", "_law_site", "_law_plain", "_law_twin", "_law_other", "_law_unlike"] ["_law_script"] (defScope (topS 52)) := ⟨rfl, rfl, rfl, by decide +kernel, rfl, by decide +kernel, by decide +kernel⟩
def b_law : En → M Ctl := (sSeq (sAsg (eCall (fun ds => m__law_box (ds ++ [])) (aCons (eVar 0) aNil)) (gVar 1)) (sSeq (sAsg (eCall (fun ds => m__law_parts (ds ++ [])) (aCons (eVar 1) aNil)) (gVar 2)) (sSeq (sAsg (eMakeK 0 3 1 gSite m_Site___init__ (aCons (eBin opIx (eVar 2) (eC (.int 0))) (aCons (eBin opIx (eVar 2) (eC (.int 1))) (aCons (eBin opIx (eVar 2) (eC (.int 2))) aNil))) (aCons (eBin opIx (eVar 2) (eC (.int 3))) aNil)) (gVar 3)) (sSeq (sIf (tNotD (tVal (eCall (fun ds => m__law_tells (ds ++ [])) (aCons (eVar 3) (aCons (eVar 2) aNil))))) (sRet (eC (.bl false))) sNx) (sSeq (sAsg (eMakeK 0 3 0 (fun us _ => us ++ [(.int (4))]) m_Site___init__ (aCons (eBin opIx (eVar 2) (eC (.int 0))) (aCons (eBin opIx (eVar 2) (eC (.int 1))) (aCons (eBin opIx (eVar 2) (eC (.int 2))) aNil))) aNil) (gVar 4)) (sSeq (sIf (tNotD (tVal (eCall (fun ds => m__law_tells (ds ++ [])) (aCons (eVar 4) (aCons (eBin opAdd (eSl (eVar 2) pNone (pSome (eC (.int 3)))) (eTup (aCons (eC (.int 4)) aNil))) aNil))))) (sRet (eC (.bl false))) sNx) (sSeq (sAsg (eMakeK 0 3 1 gSite m_Site___init__ (aCons (eBin opIx (eVar 2) (eC (.int 0))) (aCons (eBin opIx (eVar 2) (eC (.int 1))) (aCons (eBin opIx (eVar 2) (eC (.int 2))) aNil))) (aCons (eBin opIx (eVar 2) (eC (.int 3))) aNil)) (gVar 5)) (sSeq (sIf (tOrD (tNotD (tVal (eBin (opEqO 0 m_Site___eq__) (eVar 3) (eVar 5)))) (tOrD (tVal (eBin (opNeO 0 m_Site___eq__) (eVar 3) (eVar 5))) (tVal (eBin opNe (eBin (opEqO 0 m_Site___eq__) (eVar 4) (eVar 3)) (eBin opEq (eBin opIx (eVar 2) (eC (.int 3))) (eC (.int 4))))))) (sRet (eC (.bl false))) sNx) (sSeq (sFor (itSeq (eCall (fun ds => m__law_others (ds ++ [])) (aCons (eVar 1) (aCons (eVar 2) aNil)))) (gIt 6) (sSeq (sAsg (eMakeK 0 3 1 gSite m_Site___init__ (aCons (eBin opIx (eVar 6) (eC (.int 0))) (aCons (eBin opIx (eVar 6) (eC (.int 1))) (aCons (eBin opIx (eVar 6) (eC (.int 2))) aNil))) (aCons (eBin opIx (eVar 6) (eC (.int 3))) aNil)) (gVar 7)) (sIf (tOrD (tVal (eBin (opEqO 0 m_Site___eq__) (eVar 3) (eVar 7))) (tOrD (tVal (eBin (opEqO 0 m_Site___eq__) (eVar 7) (eVar 3))) (tNotD (tVal (eCall (fun ds => m__law_tells (ds ++ [])) (aCons (eVar 7) (aCons (eVar 6) aNil))))))) (sRet (eC (.bl false))) sNx))) (sRet (eAnd (eCall (fun ds => m__law_tells (ds ++ [])) (aCons (eVar 3) (aCons (eVar 2) aNil))) (eBin (opEqO 0 m_Site___eq__) (eVar 3) (eVar 5)))))))))))))
def m_law : List D → M D := fnM 1 8 b_law
end DL

set_option Elab.async false
set_option linter.all false
set_option maxRecDepth 100000
set_option maxHeartbeats 4000000
namespace DL
open PySem L2 PySem.Spec PyProof.Rows
section
variable {P : Program} {w : World} {K : PySem.W.Frag} {mg : Str → Option Value} {base : Heap} {a : Nat → Addr} {fd : Nat → FuncData} {ca ka : Nat → Addr} {tk : Nat → Tok} (T : Txt K mg a fd ca ka tk)
include T in
theorem ok__law_same  : ∀ n : Nat, FnOk P w K mg base (L2.CX P w) (0 + n) (a 0) (fd 0) ["_law_told", "_law_due"] (spD K ca (m__law_same n)) := by
  intro n
  induction n with
  | zero => exact (fn_none (by intro ds st; rfl))
  | succ n ih =>
    have G__law_same := ih
    refine fn_okD (k := 0 + n) T.f__law_same sc__law_same fun cdv A outer s H E hr => ?_
    have hu := hr.units
    have hpo := passes_of (X := cxOf (L2.CX P w) P w K mg base ["_law_told", "_law_due", "_law_k"] "_law_same" (defScope (topS 48)) (a 0) cdv A outer s H E) rfl
    have hps := passes_call (takes_of (X := cxOf (L2.CX P w) P w K mg base ["_law_told", "_law_due", "_law_k"] "_law_same" (defScope (topS 48)) (a 0) cdv A outer s H E) rfl rfl rfl rfl) (fun _ _ _ _ h => h)
    have htk := takes_of (X := cxOf (L2.CX P w) P w K mg base ["_law_told", "_law_due", "_law_k"] "_law_same" (defScope (topS 48)) (a 0) cdv A outer s H E) rfl rfl rfl rfl
    exact (dss_cons (ds_if (dw_or (dt_val (de_isi (by rfl) T.z_isinstance boot_isi (by rfl) T.z_tuple boot_tuple (de_var 1))) (dw_or1 (dt_val (de_isi (by rfl) T.z_isinstance boot_isi (by rfl) T.z_list boot_list (de_var 1))))).dt (dss_cons (ds_if (dw_or (dt_cmp (dop_ne hu) (de_isi (by rfl) T.z_isinstance boot_isi (by rfl) T.z_tuple boot_tuple (de_var 1)) (de_isi (by rfl) T.z_isinstance boot_isi (by rfl) T.z_tuple boot_tuple (de_var 0)) (nomark _)) (dw_or1 (dt_cmp (dop_ne hu) (de_isi (by rfl) T.z_isinstance boot_isi (by rfl) T.z_list boot_list (de_var 1)) (de_isi (by rfl) T.z_isinstance boot_isi (by rfl) T.z_list boot_list (de_var 0)) (nomark _)))).dt (dss_one (ds_ret de_bl)) dss_nil) (dss_cons (ds_if (dt_cmp (dop_ne hu) (de_callB dc_len (by rfl) T.z_len boot_len (da_cons (de_var 0) da_nil)) (de_callB dc_len (by rfl) T.z_len boot_len (da_cons (de_var 1) da_nil)) (nomark _)) (dss_one (ds_ret de_bl)) dss_nil) (dss_one (ds_ret (de_callB (dc_all (by rfl)) (by rfl) T.z_all boot_all (da_cons (de_lc (own := [("_law_k", 2)]) (by rfl) sc__law_same.nd (di_range (by rfl) T.z_range (de_callB dc_len (by rfl) T.z_len boot_len (da_cons (de_var 1) da_nil))) (blkOk_by (N := ["_law_told", "_law_due", "_law_k"]) (sc := defScope (topS 48)) (own := [("_law_k", 2)]) (by decide +kernel)) (fun _ _ _ _ _ => (dgi_var (vs := [2]) (by decide) sc__law_same.nd)) (fun _ _ _ _ _ => dts_nil) (fun _ _ _ _ _ => (de_call G__law_same (hr.mono (by omega)) (by rfl) T.g__law_same T.f__law_same.kp T.b__law_same .nil (fun _ _ => repL_nil.mpr rfl) pass_blk (da_cons (de_ix (de_var 0) (de_var 2)) (da_cons (de_ix (de_var 1) (de_var 2)) da_nil))))) da_nil)))))) dss_nil) (dss_cons (ds_if (dt_cmp dop_isN (de_var 1) de_non (nomark _)) (dss_one (ds_ret (de_cmp dop_isN (de_var 0) de_non (nomark _)))) dss_nil) (dss_cons (ds_if (dw_or (dt_val (de_isi (by rfl) T.z_isinstance boot_isi (by rfl) T.z_bool boot_bool (de_var 1))) (dw_or1 (dt_val (de_isi (by rfl) T.z_isinstance boot_isi (by rfl) T.z_bool boot_bool (de_var 0))))).dt (dss_one (ds_ret (de_and (de_isi (by rfl) T.z_isinstance boot_isi (by rfl) T.z_bool boot_bool (de_var 1)) (de_and (de_isi (by rfl) T.z_isinstance boot_isi (by rfl) T.z_bool boot_bool (de_var 0)) (de_one (de_cmp (dop_eq hu) (de_var 1) (de_var 0) (nomark _))))))) dss_nil) (dss_cons (ds_if (dt_val (de_isi (by rfl) T.z_isinstance boot_isi (by rfl) T.z_int boot_int (de_var 1))) (dss_one (ds_ret (de_and (de_isi (by rfl) T.z_isinstance boot_isi (by rfl) T.z_int boot_int (de_var 0)) (de_one (de_cmp (dop_eq hu) (de_var 0) (de_var 1) (nomark _)))))) dss_nil) (dss_one (ds_ret (de_and (de_isi (by rfl) T.z_isinstance boot_isi (by rfl) T.z_str boot_str (de_var 0)) (de_one (de_cmp (dop_eq hu) (de_var 0) (de_var 1) (nomark _))))))))))
end
section
variable {P : Program} {w : World} {K : PySem.W.Frag} {mg : Str → Option Value} {base : Heap} {a : Nat → Addr} {fd : Nat → FuncData} {ca ka : Nat → Addr} {tk : Nat → Tok} (T : Txt K mg a fd ca ka tk)
include T in
theorem ok_UnknownPage___init__ : FnOk P w K mg base (L2.CX P w) 1 (a 1) (fd 1) ["self", "page"] (spX (ca 4) ["page"]) := fn_x1 (k := 0) T.f_UnknownPage___init__ sc_UnknownPage___init__ T.ox_UnknownPage T.nf_UnknownPage_page fun cdv A outer s H E => pss_one (ps_ost (pv 0) (pv 1))
end
section
variable {P : Program} {w : World} {K : PySem.W.Frag} {mg : Str → Option Value} {base : Heap} {a : Nat → Addr} {fd : Nat → FuncData} {ca ka : Nat → Addr} {tk : Nat → Tok} (T : Txt K mg a fd ca ka tk)
include T in
theorem ok_find_page (G_UnknownPage___init__ : FnOk P w K mg base (L2.CX P w) 1 (a 1) (fd 1) ["self", "page"] (spX (ca 4) ["page"])) : FnOk P w K mg base (L2.CX P w) 3 (a 2) (fd 2) ["pages", "page"] (spD K ca m_find_page) := by
  refine fn_okD T.f_find_page sc_find_page fun cdv A outer s H E hr => ?_
  have hu := hr.units
  have hpo := passes_of (X := cxOf (L2.CX P w) P w K mg base ["pages", "page", "name", "parts"] "find_page" (defScope (topS 27)) (a 2) cdv A outer s H E) rfl
  have hps := passes_call (takes_of (X := cxOf (L2.CX P w) P w K mg base ["pages", "page", "name", "parts"] "find_page" (defScope (topS 27)) (a 2) cdv A outer s H E) rfl rfl rfl rfl) (fun _ _ _ _ h => h)
  have htk := takes_of (X := cxOf (L2.CX P w) P w K mg base ["pages", "page", "name", "parts"] "find_page" (defScope (topS 27)) (a 2) cdv A outer s H E) rfl rfl rfl rfl
  exact (dss_cons (ds_for hpo (by rfl) (di_seq (de_var 0)) (dgi_pair (vs := [2, 3]) (by decide) (by decide) (by rfl) sc_find_page.nd) (dss_one (ds_if (dt_cmp (dop_eq hu) (de_var 2) (de_var 1) (nomark _)) (dss_one (ds_ret (de_var 3))) dss_nil))) (dss_one (ds_raise (by rfl) htk T.ox_UnknownPage T.xi_UnknownPage T.ti_UnknownPage G_UnknownPage___init__ (hr.mono (by decide)) T.b_UnknownPage___init__ (by rfl) T.ge_UnknownPage ⟨by simp, by simp⟩ (da_cons (de_var 1) da_nil))))
end
section
variable {P : Program} {w : World} {K : PySem.W.Frag} {mg : Str → Option Value} {base : Heap} {a : Nat → Addr} {fd : Nat → FuncData} {ca ka : Nat → Addr} {tk : Nat → Tok} (T : Txt K mg a fd ca ka tk)
include T in
theorem ok_Site_loads (G_find_page : FnOk P w K mg base (L2.CX P w) 3 (a 2) (fd 2) ["pages", "page"] (spD K ca m_find_page)) : FnOk P w K mg base (L2.CX P w) 4 (a 3) (fd 3) ["self", "page"] (spD K ca m_Site_loads) := by
  refine fn_okD T.f_Site_loads sc_Site_loads fun cdv A outer s H E hr => ?_
  have hu := hr.units
  have hpo := passes_of (X := cxOf (L2.CX P w) P w K mg base ["self", "page"] "Site.loads" (defScope (inClass (topS 18) 4)) (a 3) cdv A outer s H E) rfl
  have hps := passes_call (takes_of (X := cxOf (L2.CX P w) P w K mg base ["self", "page"] "Site.loads" (defScope (inClass (topS 18) 4)) (a 3) cdv A outer s H E) rfl rfl rfl rfl) (fun _ _ _ _ h => h)
  have htk := takes_of (X := cxOf (L2.CX P w) P w K mg base ["self", "page"] "Site.loads" (defScope (inClass (topS 18) 4)) (a 3) cdv A outer s H E) rfl rfl rfl rfl
  exact (dss_one (ds_ret (de_ix (de_call G_find_page (hr.mono (by decide)) (by rfl) T.g_find_page T.f_find_page.kp T.b_find_page .nil (fun _ _ => repL_nil.mpr rfl) hps (da_cons (de_fld T.cl_0 T.na_0_pages (de_var 0)) (da_cons (de_var 1) da_nil))) de_int)))
end
section
variable {P : Program} {w : World} {K : PySem.W.Frag} {mg : Str → Option Value} {base : Heap} {a : Nat → Addr} {fd : Nat → FuncData} {ca ka : Nat → Addr} {tk : Nat → Tok} (T : Txt K mg a fd ca ka tk)
include T in
theorem ok_InvalidSide___init__ : FnOk P w K mg base (L2.CX P w) 1 (a 4) (fd 4) ["self", "side"] (spX (ca 3) ["side"]) := fn_x1 (k := 0) T.f_InvalidSide___init__ sc_InvalidSide___init__ T.ox_InvalidSide T.nf_InvalidSide_side fun cdv A outer s H E => pss_one (ps_ost (pv 0) (pv 1))
end
section
variable {P : Program} {w : World} {K : PySem.W.Frag} {mg : Str → Option Value} {base : Heap} {a : Nat → Addr} {fd : Nat → FuncData} {ca ka : Nat → Addr} {tk : Nat → Tok} (T : Txt K mg a fd ca ka tk)
include T in
theorem ok_Site_guard (G_InvalidSide___init__ : FnOk P w K mg base (L2.CX P w) 1 (a 4) (fd 4) ["self", "side"] (spX (ca 3) ["side"])) (G_find_page : FnOk P w K mg base (L2.CX P w) 3 (a 2) (fd 2) ["pages", "page"] (spD K ca m_find_page)) : FnOk P w K mg base (L2.CX P w) 4 (a 5) (fd 5) ["self", "page", "side"] (spD K ca m_Site_guard) := by
  refine fn_okD T.f_Site_guard sc_Site_guard fun cdv A outer s H E hr => ?_
  have hu := hr.units
  have hpo := passes_of (X := cxOf (L2.CX P w) P w K mg base ["self", "page", "side", "parts", "at", "known"] "Site.guard" (defScope (inClass (topS 18) 3)) (a 5) cdv A outer s H E) rfl
  have hps := passes_call (takes_of (X := cxOf (L2.CX P w) P w K mg base ["self", "page", "side", "parts", "at", "known"] "Site.guard" (defScope (inClass (topS 18) 3)) (a 5) cdv A outer s H E) rfl rfl rfl rfl) (fun _ _ _ _ h => h)
  have htk := takes_of (X := cxOf (L2.CX P w) P w K mg base ["self", "page", "side", "parts", "at", "known"] "Site.guard" (defScope (inClass (topS 18) 3)) (a 5) cdv A outer s H E) rfl rfl rfl rfl
  exact (dss_cons (ds_set (i := 3) sc_Site_guard.nd (de_call G_find_page (hr.mono (by decide)) (by rfl) T.g_find_page T.f_find_page.kp T.b_find_page .nil (fun _ _ => repL_nil.mpr rfl) hps (da_cons (de_fld T.cl_0 T.na_0_pages (de_var 0)) (da_cons (de_var 1) da_nil)))) (dss_cons (ds_for hpo (by rfl) (di_enumT (by rfl) T.z_enumerate (de_glob (by rfl) T.c_SIDES T.r_SIDES T.d_SIDES)) (dgi_pair (vs := [4, 5]) (by decide) (by decide) (by rfl) sc_Site_guard.nd) (dss_one (ds_if (dt_cmp (dop_eq hu) (de_var 5) (de_var 2) (nomark _)) (dss_one (ds_ret (de_ix (de_var 3) (de_var 4)))) dss_nil))) (dss_one (ds_raise (by rfl) htk T.ox_InvalidSide T.xi_InvalidSide T.ti_InvalidSide G_InvalidSide___init__ (hr.mono (by decide)) T.b_InvalidSide___init__ (by rfl) T.ge_InvalidSide ⟨by simp, by simp⟩ (da_cons (de_var 2) da_nil)))))
end
section
variable {P : Program} {w : World} {K : PySem.W.Frag} {mg : Str → Option Value} {base : Heap} {a : Nat → Addr} {fd : Nat → FuncData} {ca ka : Nat → Addr} {tk : Nat → Tok} (T : Txt K mg a fd ca ka tk)
include T in
theorem ok_names_of  : FnOk P w K mg base (L2.CX P w) 1 (a 6) (fd 6) ["pages"] (spD K ca m_names_of) := by
  refine fn_okD T.f_names_of sc_names_of fun cdv A outer s H E hr => ?_
  have hu := hr.units
  have hpo := passes_of (X := cxOf (L2.CX P w) P w K mg base ["pages", "pair"] "names_of" (defScope (topS 26)) (a 6) cdv A outer s H E) rfl
  have hps := passes_call (takes_of (X := cxOf (L2.CX P w) P w K mg base ["pages", "pair"] "names_of" (defScope (topS 26)) (a 6) cdv A outer s H E) rfl rfl rfl rfl) (fun _ _ _ _ h => h)
  have htk := takes_of (X := cxOf (L2.CX P w) P w K mg base ["pages", "pair"] "names_of" (defScope (topS 26)) (a 6) cdv A outer s H E) rfl rfl rfl rfl
  exact (dss_one (ds_ret (de_callTy dc_tuple (by rfl) T.z_tuple boot_tuple (da_cons (de_lc (own := [("pair", 1)]) (by rfl) sc_names_of.nd (di_seq (de_var 0)) (blkOk_by (N := ["pages", "pair"]) (sc := defScope (topS 26)) (own := [("pair", 1)]) (by decide +kernel)) (fun _ _ _ _ _ => (dgi_var (vs := [1]) (by decide) sc_names_of.nd)) (fun _ _ _ _ _ => dts_nil) (fun _ _ _ _ _ => (de_ix (de_var 1) de_int))) da_nil))))
end
section
variable {P : Program} {w : World} {K : PySem.W.Frag} {mg : Str → Option Value} {base : Heap} {a : Nat → Addr} {fd : Nat → FuncData} {ca ka : Nat → Addr} {tk : Nat → Tok} (T : Txt K mg a fd ca ka tk)
include T in
theorem ok_Site_page_names (G_names_of : FnOk P w K mg base (L2.CX P w) 1 (a 6) (fd 6) ["pages"] (spD K ca m_names_of)) : FnOk P w K mg base (L2.CX P w) 2 (a 7) (fd 7) ["self"] (spD K ca m_Site_page_names) := by
  refine fn_okD T.f_Site_page_names sc_Site_page_names fun cdv A outer s H E hr => ?_
  have hu := hr.units
  have hpo := passes_of (X := cxOf (L2.CX P w) P w K mg base ["self"] "Site.page_names" (defScope (inClass (topS 18) 2)) (a 7) cdv A outer s H E) rfl
  have hps := passes_call (takes_of (X := cxOf (L2.CX P w) P w K mg base ["self"] "Site.page_names" (defScope (inClass (topS 18) 2)) (a 7) cdv A outer s H E) rfl rfl rfl rfl) (fun _ _ _ _ h => h)
  have htk := takes_of (X := cxOf (L2.CX P w) P w K mg base ["self"] "Site.page_names" (defScope (inClass (topS 18) 2)) (a 7) cdv A outer s H E) rfl rfl rfl rfl
  exact (dss_one (ds_ret (de_call G_names_of (hr.mono (by decide)) (by rfl) T.g_names_of T.f_names_of.kp T.b_names_of .nil (fun _ _ => repL_nil.mpr rfl) hps (da_cons (de_fld T.cl_0 T.na_0_pages (de_var 0)) da_nil))))
end
section
variable {P : Program} {w : World} {K : PySem.W.Frag} {mg : Str → Option Value} {base : Heap} {a : Nat → Addr} {fd : Nat → FuncData} {ca ka : Nat → Addr} {tk : Nat → Tok} (T : Txt K mg a fd ca ka tk)
include T in
theorem ok__law_tells (G__law_same : FnOk P w K mg base (L2.CX P w) 20 (a 0) (fd 0) ["_law_told", "_law_due"] (spD K ca (m__law_same 20))) (G_Site_loads : FnOk P w K mg base (L2.CX P w) 4 (a 3) (fd 3) ["self", "page"] (spD K ca m_Site_loads)) (G_Site_guard : FnOk P w K mg base (L2.CX P w) 4 (a 5) (fd 5) ["self", "page", "side"] (spD K ca m_Site_guard)) (G_Site_page_names : FnOk P w K mg base (L2.CX P w) 2 (a 7) (fd 7) ["self"] (spD K ca m_Site_page_names)) : FnOk P w K mg base (L2.CX P w) 22 (a 8) (fd 8) ["_law_site", "_law_parts_here"] (spD K ca m__law_tells) := by
  refine fn_okD T.f__law_tells sc__law_tells fun cdv A outer s H E hr => ?_
  have hu := hr.units
  have hpo := passes_of (X := cxOf (L2.CX P w) P w K mg base ["_law_site", "_law_parts_here", "_law_names_here", "_law_told", "_law_name", "_law_page", "_law_seen", "_law_pair"] "_law_tells" (defScope (topS 49)) (a 8) cdv A outer s H E) rfl
  have hps := passes_call (takes_of (X := cxOf (L2.CX P w) P w K mg base ["_law_site", "_law_parts_here", "_law_names_here", "_law_told", "_law_name", "_law_page", "_law_seen", "_law_pair"] "_law_tells" (defScope (topS 49)) (a 8) cdv A outer s H E) rfl rfl rfl rfl) (fun _ _ _ _ h => h)
  have htk := takes_of (X := cxOf (L2.CX P w) P w K mg base ["_law_site", "_law_parts_here", "_law_names_here", "_law_told", "_law_name", "_law_page", "_law_seen", "_law_pair"] "_law_tells" (defScope (topS 49)) (a 8) cdv A outer s H E) rfl rfl rfl rfl
  exact (dss_cons (ds_set (i := 2) sc__law_tells.nd (de_callTy dc_tuple (by rfl) T.z_tuple boot_tuple (da_cons (de_lc (own := [("_law_pair", 7)]) (by rfl) sc__law_tells.nd (di_seq (de_ix (de_var 1) de_int)) (blkOk_by (N := ["_law_site", "_law_parts_here", "_law_names_here", "_law_told", "_law_name", "_law_page", "_law_seen", "_law_pair"]) (sc := defScope (topS 49)) (own := [("_law_pair", 7)]) (by decide +kernel)) (fun _ _ _ _ _ => (dgi_var (vs := [7]) (by decide) sc__law_tells.nd)) (fun _ _ _ _ _ => dts_nil) (fun _ _ _ _ _ => (de_ix (de_var 7) de_int))) da_nil))) (dss_cons (ds_set (i := 3) sc__law_tells.nd (de_tup (da_cons (de_fld T.cl_0 T.na_0_bits (de_var 0)) (da_cons (de_fld T.cl_0 T.na_0_pages (de_var 0)) (da_cons (de_fld T.cl_0 T.na_0_start (de_var 0)) (da_cons (de_fld T.cl_0 T.na_0_keep (de_var 0)) (da_cons (de_meth0 (de_var 0) T.cl_0 T.m_Site_page_names G_Site_page_names (hr.mono (by decide)) T.b_Site_page_names .nil (fun _ _ => repL_nil.mpr rfl) hps) da_nil))))))) (dss_cons (ds_if (dt_not (dt_val (de_call G__law_same (hr.mono (by decide)) (by rfl) T.g__law_same T.f__law_same.kp T.b__law_same .nil (fun _ _ => repL_nil.mpr rfl) hps (da_cons (de_var 3) (da_cons (de_op dop_add (de_var 1) (de_tup (da_cons (de_var 2) da_nil))) da_nil))))) (dss_one (ds_ret de_bl)) dss_nil) (dss_cons (ds_for hpo (by rfl) (di_seq (de_ix (de_var 1) de_int)) (dgi_pair (vs := [4, 5]) (by decide) (by decide) (by rfl) sc__law_tells.nd) (dss_cons (ds_set (i := 6) sc__law_tells.nd (de_tup (da_cons (de_meth (de_var 0) T.cl_0 T.m_Site_guard G_Site_guard (hr.mono (by decide)) T.b_Site_guard .nil (fun _ _ => repL_nil.mpr rfl) hps (da_cons (de_var 4) (da_cons de_str da_nil))) (da_cons (de_meth (de_var 0) T.cl_0 T.m_Site_guard G_Site_guard (hr.mono (by decide)) T.b_Site_guard .nil (fun _ _ => repL_nil.mpr rfl) hps (da_cons (de_var 4) (da_cons de_str da_nil))) (da_cons (de_meth (de_var 0) T.cl_0 T.m_Site_loads G_Site_loads (hr.mono (by decide)) T.b_Site_loads .nil (fun _ _ => repL_nil.mpr rfl) hps (da_cons (de_var 4) da_nil)) da_nil))))) (dss_one (ds_if (dt_not (dt_val (de_call G__law_same (hr.mono (by decide)) (by rfl) T.g__law_same T.f__law_same.kp T.b__law_same .nil (fun _ _ => repL_nil.mpr rfl) hps (da_cons (de_var 6) (da_cons (de_var 5) da_nil))))) (dss_one (ds_ret de_bl)) dss_nil)))) (dss_one (ds_ret de_bl))))))
end
section
variable {P : Program} {w : World} {K : PySem.W.Frag} {mg : Str → Option Value} {base : Heap} {a : Nat → Addr} {fd : Nat → FuncData} {ca ka : Nat → Addr} {tk : Nat → Tok} (T : Txt K mg a fd ca ka tk)
include T in
theorem ok_Site___eq__  : FnOk P w K mg base (L2.CX P w) 1 (a 9) (fd 9) ["self", "other"] (spD K ca m_Site___eq__) := by
  refine fn_okD T.f_Site___eq__ sc_Site___eq__ fun cdv A outer s H E hr => ?_
  have hu := hr.units
  have hpo := passes_of (X := cxOf (L2.CX P w) P w K mg base ["self", "other"] "Site.__eq__" (defScope (inClass (topS 18) 1)) (a 9) cdv A outer s H E) rfl
  have hps := passes_call (takes_of (X := cxOf (L2.CX P w) P w K mg base ["self", "other"] "Site.__eq__" (defScope (inClass (topS 18) 1)) (a 9) cdv A outer s H E) rfl rfl rfl rfl) (fun _ _ _ _ h => h)
  have htk := takes_of (X := cxOf (L2.CX P w) P w K mg base ["self", "other"] "Site.__eq__" (defScope (inClass (topS 18) 1)) (a 9) cdv A outer s H E) rfl rfl rfl rfl
  exact (dss_one (ds_ret (de_and (de_isiC (by rfl) T.z_isinstance boot_isi (by rfl) T.gc_0 T.ic_0 T.ki_0 (de_var 1)) (de_and (de_cmp (dop_eq hu) (de_fld T.cl_0 T.na_0_bits (de_var 0)) (de_fld T.cl_0 T.na_0_bits (de_var 1)) (nomark _)) (de_and (de_cmp (dop_eq hu) (de_fld T.cl_0 T.na_0_pages (de_var 0)) (de_fld T.cl_0 T.na_0_pages (de_var 1)) (nomark _)) (de_and (de_cmp (dop_eq hu) (de_fld T.cl_0 T.na_0_start (de_var 0)) (de_fld T.cl_0 T.na_0_start (de_var 1)) (nomark _)) (de_one (de_cmp (dop_eq hu) (de_fld T.cl_0 T.na_0_keep (de_var 0)) (de_fld T.cl_0 T.na_0_keep (de_var 1)) (nomark _)))))))))
end
section
variable {P : Program} {w : World} {K : PySem.W.Frag} {mg : Str → Option Value} {base : Heap} {a : Nat → Addr} {fd : Nat → FuncData} {ca ka : Nat → Addr} {tk : Nat → Tok} (T : Txt K mg a fd ca ka tk)
include T in
theorem ok__law_emptied  : FnOk P w K mg base (L2.CX P w) 1 (a 10) (fd 10) ["_law_rows_here"] (spD K ca m__law_emptied) := by
  refine fn_okD T.f__law_emptied sc__law_emptied fun cdv A outer s H E hr => ?_
  have hu := hr.units
  have hpo := passes_of (X := cxOf (L2.CX P w) P w K mg base ["_law_rows_here", "_law_k", "_law_row_here"] "_law_emptied" (defScope (topS 50)) (a 10) cdv A outer s H E) rfl
  have hps := passes_call (takes_of (X := cxOf (L2.CX P w) P w K mg base ["_law_rows_here", "_law_k", "_law_row_here"] "_law_emptied" (defScope (topS 50)) (a 10) cdv A outer s H E) rfl rfl rfl rfl) (fun _ _ _ _ h => h)
  have htk := takes_of (X := cxOf (L2.CX P w) P w K mg base ["_law_rows_here", "_law_k", "_law_row_here"] "_law_emptied" (defScope (topS 50)) (a 10) cdv A outer s H E) rfl rfl rfl rfl
  exact (dss_cons (ds_for hpo (by rfl) (di_range (by rfl) T.z_range (de_callB dc_len (by rfl) T.z_len boot_len (da_cons (de_var 0) da_nil))) (dgi_var (vs := [1]) (by decide) sc__law_emptied.nd) (dss_one (ds_if (dt_cmp dop_in (de_ix (de_ix (de_var 0) (de_var 1)) de_int) (de_tup (da_cons de_str (da_cons de_str da_nil))) rfl) (dss_cons (ds_set (i := 2) sc__law_emptied.nd (de_ix (de_var 0) (de_var 1))) (dss_one (ds_ret (de_op dop_add (de_op dop_add (de_slice (de_var 0) do_none (do_some (de_var 1))) (de_tup (da_cons (de_op dop_add (de_slice (de_var 2) do_none (do_some (de_op dop_sub (de_callB dc_len (by rfl) T.z_len boot_len (da_cons (de_var 2) da_nil)) de_int))) (de_tup (da_cons (de_tup da_nil) (da_cons (de_tup da_nil) da_nil)))) da_nil))) (de_slice (de_var 0) (do_some (de_op dop_add (de_var 1) de_int)) do_none))))) dss_nil))) (dss_one (ds_ret (de_var 0))))
end
section
variable {P : Program} {w : World} {K : PySem.W.Frag} {mg : Str → Option Value} {base : Heap} {a : Nat → Addr} {fd : Nat → FuncData} {ca ka : Nat → Addr} {tk : Nat → Tok} (T : Txt K mg a fd ca ka tk)
include T in
theorem ok__law_mix  : FnOk P w K mg base (L2.CX P w) 1 (a 11) (fd 11) ["_law_value", "_law_k"] (spD K ca m__law_mix) := by
  refine fn_okD T.f__law_mix sc__law_mix fun cdv A outer s H E hr => ?_
  have hu := hr.units
  have hpo := passes_of (X := cxOf (L2.CX P w) P w K mg base ["_law_value", "_law_k", "_law_number"] "_law_mix" (defScope (topS 40)) (a 11) cdv A outer s H E) rfl
  have hps := passes_call (takes_of (X := cxOf (L2.CX P w) P w K mg base ["_law_value", "_law_k", "_law_number"] "_law_mix" (defScope (topS 40)) (a 11) cdv A outer s H E) rfl rfl rfl rfl) (fun _ _ _ _ h => h)
  have htk := takes_of (X := cxOf (L2.CX P w) P w K mg base ["_law_value", "_law_k", "_law_number"] "_law_mix" (defScope (topS 40)) (a 11) cdv A outer s H E) rfl rfl rfl rfl
  exact (dss_cons (ds_set (i := 2) sc__law_mix.nd (de_op dop_mod (de_op dop_mul (de_op dop_add (de_op dop_add (de_callTy dc_int (by rfl) T.z_int boot_int (da_cons (de_var 0) da_nil)) (de_op dop_mul de_int (de_var 1))) de_int) de_int) de_int)) (dss_cons (ds_set (i := 2) sc__law_mix.nd (de_op dop_mod (de_op dop_mul (de_var 2) (de_op dop_add (de_op dop_div (de_var 2) de_int) de_int)) de_int)) (dss_one (ds_ret (de_op dop_mod (de_op dop_mul (de_var 2) (de_op dop_add (de_op dop_div (de_var 2) de_int) de_int)) de_int)))))
end
section
variable {P : Program} {w : World} {K : PySem.W.Frag} {mg : Str → Option Value} {base : Heap} {a : Nat → Addr} {fd : Nat → FuncData} {ca ka : Nat → Addr} {tk : Nat → Tok} (T : Txt K mg a fd ca ka tk)
include T in
theorem ok__law_draw (G__law_mix : FnOk P w K mg base (L2.CX P w) 1 (a 11) (fd 11) ["_law_value", "_law_k"] (spD K ca m__law_mix)) : FnOk P w K mg base (L2.CX P w) 2 (a 12) (fd 12) ["_law_box_here", "_law_many"] (spD K ca m__law_draw) := by
  refine fn_okD T.f__law_draw sc__law_draw fun cdv A outer s H E hr => ?_
  have hu := hr.units
  have hpo := passes_of (X := cxOf (L2.CX P w) P w K mg base ["_law_box_here", "_law_many", "_law_digit", "_law_cell"] "_law_draw" (defScope (topS 42)) (a 12) cdv A outer s H E) rfl
  have hps := passes_call (takes_of (X := cxOf (L2.CX P w) P w K mg base ["_law_box_here", "_law_many", "_law_digit", "_law_cell"] "_law_draw" (defScope (topS 42)) (a 12) cdv A outer s H E) rfl rfl rfl rfl) (fun _ _ _ _ h => h)
  have htk := takes_of (X := cxOf (L2.CX P w) P w K mg base ["_law_box_here", "_law_many", "_law_digit", "_law_cell"] "_law_draw" (defScope (topS 42)) (a 12) cdv A outer s H E) rfl rfl rfl rfl
  exact (dss_cons (ds_asg (de_op dop_add (de_ix (de_var 0) de_int) de_int) (dg_sub (de_var 0) de_int)) (dss_cons (ds_if (dw_and (dt_cmp (dop_eq hu) (de_ix (de_var 0) de_int) de_int (nomark _)) (dw_and1 (dt_cmp dop_lt (de_ix (de_var 0) de_int) (de_callB dc_len (by rfl) T.z_len boot_len (da_cons (de_ix (de_var 0) de_int) da_nil)) (nomark _)))).dt (dss_cons (ds_set (i := 3) sc__law_draw.nd (de_ix (de_ix (de_var 0) de_int) (de_ix (de_var 0) de_int))) (dss_cons (ds_asg (de_op dop_add (de_ix (de_var 0) de_int) de_int) (dg_sub (de_var 0) de_int)) (dss_cons (ds_if (dt_cmp dop_lt (de_var 3) (de_op dop_pow de_int de_int) (nomark _)) (dss_one (ds_ret (de_op dop_mod (de_callTy dc_int (by rfl) T.z_int boot_int (da_cons (de_call G__law_mix (hr.mono (by decide)) (by rfl) T.g__law_mix T.f__law_mix.kp T.b__law_mix .nil (fun _ _ => repL_nil.mpr rfl) hps (da_cons (de_var 3) (da_cons (de_ix (de_var 0) de_int) da_nil))) da_nil)) (de_var 1)))) dss_nil) (dss_one (ds_asg (de_var 3) (dg_sub (de_var 0) de_int)))))) dss_nil) (dss_cons (ds_if (dt_cmp (dop_eq hu) (de_ix (de_var 0) de_int) de_int (nomark _)) (dss_one (ds_ret (de_op dop_mod (de_callTy dc_int (by rfl) T.z_int boot_int (da_cons (de_call G__law_mix (hr.mono (by decide)) (by rfl) T.g__law_mix T.f__law_mix.kp T.b__law_mix .nil (fun _ _ => repL_nil.mpr rfl) hps (da_cons (de_ix (de_var 0) de_int) (da_cons (de_ix (de_var 0) de_int) da_nil))) da_nil)) (de_var 1)))) dss_nil) (dss_cons (ds_set (i := 2) sc__law_draw.nd (de_op dop_mod (de_callTy dc_int (by rfl) T.z_int boot_int (da_cons (de_ix (de_var 0) de_int) da_nil)) (de_var 1))) (dss_cons (ds_asg (de_op dop_div (de_callTy dc_int (by rfl) T.z_int boot_int (da_cons (de_ix (de_var 0) de_int) da_nil)) (de_var 1)) (dg_sub (de_var 0) de_int)) (dss_one (ds_ret (de_var 2))))))))
end
section
variable {P : Program} {w : World} {K : PySem.W.Frag} {mg : Str → Option Value} {base : Heap} {a : Nat → Addr} {fd : Nat → FuncData} {ca ka : Nat → Addr} {tk : Nat → Tok} (T : Txt K mg a fd ca ka tk)
include T in
theorem ok__law_others (G__law_emptied : FnOk P w K mg base (L2.CX P w) 1 (a 10) (fd 10) ["_law_rows_here"] (spD K ca m__law_emptied)) (G__law_draw : FnOk P w K mg base (L2.CX P w) 2 (a 12) (fd 12) ["_law_box_here", "_law_many"] (spD K ca m__law_draw)) : FnOk P w K mg base (L2.CX P w) 3 (a 13) (fd 13) ["_law_box_here", "_law_parts_here"] (spD K ca m__law_others) := by
  refine fn_okD T.f__law_others sc__law_others fun cdv A outer s H E hr => ?_
  have hu := hr.units
  have hpo := passes_of (X := cxOf (L2.CX P w) P w K mg base ["_law_box_here", "_law_parts_here", "_law_names_here", "_law_at", "_law_turned", "_law_second", "_law_fresh", "_law_more", "_law_found", "_law_half", "_law_bits", "_law_pages", "_law_first", "_law_size", "_law_name", "_law_page", "_law_guards", "_law_parted", "_law_pair", "_law_sign"] "_law_others" (defScope (topS 51)) (a 13) cdv A outer s H E) rfl
  have hps := passes_call (takes_of (X := cxOf (L2.CX P w) P w K mg base ["_law_box_here", "_law_parts_here", "_law_names_here", "_law_at", "_law_turned", "_law_second", "_law_fresh", "_law_more", "_law_found", "_law_half", "_law_bits", "_law_pages", "_law_first", "_law_size", "_law_name", "_law_page", "_law_guards", "_law_parted", "_law_pair", "_law_sign"] "_law_others" (defScope (topS 51)) (a 13) cdv A outer s H E) rfl rfl rfl rfl) (fun _ _ _ _ h => h)
  have htk := takes_of (X := cxOf (L2.CX P w) P w K mg base ["_law_box_here", "_law_parts_here", "_law_names_here", "_law_at", "_law_turned", "_law_second", "_law_fresh", "_law_more", "_law_found", "_law_half", "_law_bits", "_law_pages", "_law_first", "_law_size", "_law_name", "_law_page", "_law_guards", "_law_parted", "_law_pair", "_law_sign"] "_law_others" (defScope (topS 51)) (a 13) cdv A outer s H E) rfl rfl rfl rfl
  exact (dss_cons (ds_asg (de_var 1) (dg_tup (by rfl) (dgs_cons (dg_var (j := 10) sc__law_others.nd) (dgs_cons (dg_var (j := 11) sc__law_others.nd) (dgs_cons (dg_var (j := 12) sc__law_others.nd) (dgs_cons (dg_var (j := 13) sc__law_others.nd) dgs_nil)))))) (dss_cons (ds_setLc (i := 2) (own := [("_law_pair", 18)]) (by rfl) sc__law_others.nd (di_seq (de_var 11)) (blkOk_by (N := ["_law_box_here", "_law_parts_here", "_law_names_here", "_law_at", "_law_turned", "_law_second", "_law_fresh", "_law_more", "_law_found", "_law_half", "_law_bits", "_law_pages", "_law_first", "_law_size", "_law_name", "_law_page", "_law_guards", "_law_parted", "_law_pair", "_law_sign"]) (sc := defScope (topS 51)) (own := [("_law_pair", 18)]) (by decide +kernel)) (fun _ _ _ _ _ => (dgi_var (vs := [18]) (by decide) sc__law_others.nd)) (fun _ _ _ _ _ => dts_nil) (fun _ _ _ _ _ => (de_ix (de_var 18) de_int))) (dss_cons (ds_set (i := 3) sc__law_others.nd (de_call G__law_draw (hr.mono (by decide)) (by rfl) T.g__law_draw T.f__law_draw.kp T.b__law_draw .nil (fun _ _ => repL_nil.mpr rfl) hps (da_cons (de_var 0) (da_cons (de_callB dc_len (by rfl) T.z_len boot_len (da_cons (de_var 11) da_nil)) da_nil)))) (dss_cons (ds_asg (de_ix (de_var 11) (de_var 3)) (dg_tup (by rfl) (dgs_cons (dg_var (j := 14) sc__law_others.nd) (dgs_cons (dg_var (j := 15) sc__law_others.nd) dgs_nil)))) (dss_cons (ds_set (i := 4) sc__law_others.nd (de_op dop_add (de_op dop_add (de_slice (de_var 11) do_none (do_some (de_var 3))) (de_tup (da_cons (de_tup (da_cons (de_var 14) (da_cons (de_tup (da_cons (de_ix (de_var 15) de_int) (da_cons (de_ix (de_var 15) de_int) (da_cons (de_not (de_ix (de_var 15) de_int)) da_nil)))) da_nil))) da_nil))) (de_slice (de_var 11) (do_some (de_op dop_add (de_var 3) de_int)) do_none))) (dss_cons (ds_set (i := 5) sc__law_others.nd (de_ix (de_var 2) (de_op dop_mod (de_op dop_add (de_op dop_add (de_mtL PySem.F.plainAttrs_list PySem.F.slot_list_index PySem.F.type_list_index dm_indexL (de_var 2) (da_cons (de_var 12) da_nil)) de_int) (de_call G__law_draw (hr.mono (by decide)) (by rfl) T.g__law_draw T.f__law_draw.kp T.b__law_draw .nil (fun _ _ => repL_nil.mpr rfl) hps (da_cons (de_var 0) (da_cons (de_op dop_sub (de_callB dc_len (by rfl) T.z_len boot_len (da_cons (de_var 2) da_nil)) de_int) da_nil)))) (de_callB dc_len (by rfl) T.z_len boot_len (da_cons (de_var 2) da_nil))))) (dss_cons (ds_set (i := 6) sc__law_others.nd (de_ix (de_lc (own := [("_law_sign", 19)]) (by rfl) sc__law_others.nd (di_str de_str) (blkOk_by (N := ["_law_box_here", "_law_parts_here", "_law_names_here", "_law_at", "_law_turned", "_law_second", "_law_fresh", "_law_more", "_law_found", "_law_half", "_law_bits", "_law_pages", "_law_first", "_law_size", "_law_name", "_law_page", "_law_guards", "_law_parted", "_law_pair", "_law_sign"]) (sc := defScope (topS 51)) (own := [("_law_sign", 19)]) (by decide +kernel)) (fun _ _ _ _ _ => (dgi_var (vs := [19]) (by decide) sc__law_others.nd)) (fun _ _ _ _ _ => (dts_one (dt_cmp dop_notIn (de_var 19) (de_var 10) rfl))) (fun _ _ _ _ _ => (de_var 19))) de_int)) (dss_cons (ds_set (i := 7) sc__law_others.nd (de_op dop_add (de_var 10) (de_tup (da_cons (de_var 6) da_nil)))) (dss_cons (ds_if (dt_cmp (dop_eq hu) (de_callB dc_len (by rfl) T.z_len boot_len (da_cons (de_var 10) da_nil)) de_int (nomark _)) (dss_one (ds_set (i := 7) sc__law_others.nd (de_tup (da_cons (de_ix (de_var 10) de_int) (da_cons (de_ix (de_var 10) de_int) (da_cons (de_ix (de_var 10) de_int) da_nil)))))) dss_nil) (dss_cons (ds_set (i := 8) sc__law_others.nd (de_lst (da_cons (de_tup (da_cons (de_var 7) (da_cons (de_var 11) (da_cons (de_var 12) (da_cons (de_var 13) da_nil))))) (da_cons (de_tup (da_cons (de_var 10) (da_cons (de_var 4) (da_cons (de_var 12) (da_cons (de_var 13) da_nil))))) (da_cons (de_tup (da_cons (de_var 10) (da_cons (de_var 11) (da_cons (de_var 5) (da_cons (de_var 13) da_nil))))) da_nil))))) (dss_cons (ds_expr (de_mtL PySem.F.plainAttrs_list PySem.F.slot_list_append PySem.F.type_list_append dm_append (de_var 8) (da_cons (de_tup (da_cons (de_var 10) (da_cons (de_var 11) (da_cons (de_var 12) (da_cons (de_op dop_add de_int (de_op dop_mod (de_op dop_sub (de_var 13) de_int) de_int)) da_nil))))) da_nil))) (dss_cons (ds_for hpo (by rfl) (di_range (by rfl) T.z_range de_int) (dgi_var (vs := [9]) (by decide) sc__law_others.nd) (dss_cons (ds_set (i := 16) sc__law_others.nd (de_lst (da_cons (de_ix (de_var 15) de_int) (da_cons (de_ix (de_var 15) de_int) da_nil)))) (dss_cons (ds_asg (de_op dop_mulX (de_tup (da_cons (de_tup (da_cons de_str da_nil)) da_nil)) (de_callTy dc_int (by rfl) T.z_int boot_int (da_cons (de_cmp (dop_eq hu) (de_callB dc_len (by rfl) T.z_len boot_len (da_cons (de_ix (de_var 16) (de_var 9)) da_nil)) de_int (nomark _)) da_nil))) (dg_sub (de_var 16) (de_var 9))) (dss_cons (ds_set (i := 17) sc__law_others.nd (de_op dop_add (de_op dop_add (de_slice (de_var 11) do_none (do_some (de_var 3))) (de_tup (da_cons (de_tup (da_cons (de_var 14) (da_cons (de_tup (da_cons (de_ix (de_var 16) de_int) (da_cons (de_ix (de_var 16) de_int) (da_cons (de_ix (de_var 15) de_int) da_nil)))) da_nil))) da_nil))) (de_slice (de_var 11) (do_some (de_op dop_add (de_var 3) de_int)) do_none))) (dss_cons (ds_expr (de_mtL PySem.F.plainAttrs_list PySem.F.slot_list_append PySem.F.type_list_append dm_append (de_var 8) (da_cons (de_tup (da_cons (de_var 10) (da_cons (de_var 17) (da_cons (de_var 12) (da_cons (de_var 13) da_nil))))) da_nil))) (dss_cons (ds_set (i := 16) sc__law_others.nd (de_lst (da_cons (de_ix (de_var 15) de_int) (da_cons (de_ix (de_var 15) de_int) da_nil)))) (dss_cons (ds_asg (de_call G__law_emptied (hr.mono (by decide)) (by rfl) T.g__law_emptied T.f__law_emptied.kp T.b__law_emptied .nil (fun _ _ => repL_nil.mpr rfl) hps (da_cons (de_ix (de_var 16) (de_var 9)) da_nil)) (dg_sub (de_var 16) (de_var 9))) (dss_one (ds_if (dt_cmp (dop_ne hu) (de_ix (de_var 16) (de_var 9)) (de_ix (de_var 15) (de_var 9)) (nomark _)) (dss_cons (ds_set (i := 17) sc__law_others.nd (de_op dop_add (de_op dop_add (de_slice (de_var 11) do_none (do_some (de_var 3))) (de_tup (da_cons (de_tup (da_cons (de_var 14) (da_cons (de_tup (da_cons (de_ix (de_var 16) de_int) (da_cons (de_ix (de_var 16) de_int) (da_cons (de_ix (de_var 15) de_int) da_nil)))) da_nil))) da_nil))) (de_slice (de_var 11) (do_some (de_op dop_add (de_var 3) de_int)) do_none))) (dss_one (ds_expr (de_mtL PySem.F.plainAttrs_list PySem.F.slot_list_append PySem.F.type_list_append dm_append (de_var 8) (da_cons (de_tup (da_cons (de_var 10) (da_cons (de_var 17) (da_cons (de_var 12) (da_cons (de_var 13) da_nil))))) da_nil))))) dss_nil))))))))) (dss_cons (ds_expr (de_mtL PySem.F.plainAttrs_list PySem.F.slot_list_append PySem.F.type_list_append dm_append (de_var 8) (da_cons (de_tup (da_cons (de_var 10) (da_cons (de_op dop_add (de_slice (de_var 11) (do_some de_int) do_none) (de_slice (de_var 11) do_none (do_some de_int))) (da_cons (de_var 12) (da_cons (de_var 13) da_nil))))) da_nil))) (dss_one (ds_ret (de_var 8))))))))))))))))
end
section
variable {P : Program} {w : World} {K : PySem.W.Frag} {mg : Str → Option Value} {base : Heap} {a : Nat → Addr} {fd : Nat → FuncData} {ca ka : Nat → Addr} {tk : Nat → Tok} (T : Txt K mg a fd ca ka tk)
include T in
theorem ok_is_integer  : FnOk P w K mg base (L2.CX P w) 1 (a 14) (fd 14) ["value"] (spD K ca m_is_integer) := by
  refine fn_okD T.f_is_integer sc_is_integer fun cdv A outer s H E hr => ?_
  have hu := hr.units
  have hpo := passes_of (X := cxOf (L2.CX P w) P w K mg base ["value"] "is_integer" (defScope (topS 19)) (a 14) cdv A outer s H E) rfl
  have hps := passes_call (takes_of (X := cxOf (L2.CX P w) P w K mg base ["value"] "is_integer" (defScope (topS 19)) (a 14) cdv A outer s H E) rfl rfl rfl rfl) (fun _ _ _ _ h => h)
  have htk := takes_of (X := cxOf (L2.CX P w) P w K mg base ["value"] "is_integer" (defScope (topS 19)) (a 14) cdv A outer s H E) rfl rfl rfl rfl
  exact (dss_one (ds_ret (de_and (de_isi (by rfl) T.z_isinstance boot_isi (by rfl) T.z_int boot_int (de_var 0)) (de_one (de_not (de_isi (by rfl) T.z_isinstance boot_isi (by rfl) T.z_bool boot_bool (de_var 0)))))))
end
section
variable {P : Program} {w : World} {K : PySem.W.Frag} {mg : Str → Option Value} {base : Heap} {a : Nat → Addr} {fd : Nat → FuncData} {ca ka : Nat → Addr} {tk : Nat → Tok} (T : Txt K mg a fd ca ka tk)
include T in
theorem ok_InvalidSite___init__ : FnOk P w K mg base (L2.CX P w) 1 (a 15) (fd 15) ["self", "part", "path"] (spX (ca 1) ["part", "path"]) := fn_x2 (k := 0) T.f_InvalidSite___init__ sc_InvalidSite___init__ T.ox_InvalidSite T.nf_InvalidSite_part T.nf_InvalidSite_path fun cdv A outer s H E => pss_cons (ps_ost (pv 0) (pv 1)) (pss_one (ps_ost (pv 0) (pv 2)))
end
section
variable {P : Program} {w : World} {K : PySem.W.Frag} {mg : Str → Option Value} {base : Heap} {a : Nat → Addr} {fd : Nat → FuncData} {ca ka : Nat → Addr} {tk : Nat → Tok} (T : Txt K mg a fd ca ka tk)
include T in
theorem ok_branches  : FnOk P w K mg base (L2.CX P w) 1 (a 16) (fd 16) ["row"] (spD K ca m_branches) := by
  refine fn_okD T.f_branches sc_branches fun cdv A outer s H E hr => ?_
  have hu := hr.units
  have hpo := passes_of (X := cxOf (L2.CX P w) P w K mg base ["row"] "branches" (defScope (topS 32)) (a 16) cdv A outer s H E) rfl
  have hps := passes_call (takes_of (X := cxOf (L2.CX P w) P w K mg base ["row"] "branches" (defScope (topS 32)) (a 16) cdv A outer s H E) rfl rfl rfl rfl) (fun _ _ _ _ h => h)
  have htk := takes_of (X := cxOf (L2.CX P w) P w K mg base ["row"] "branches" (defScope (topS 32)) (a 16) cdv A outer s H E) rfl rfl rfl rfl
  exact (dss_cons (ds_if (dw_or (dt_cmp (dop_eq hu) (de_ix (de_var 0) de_int) de_str (nomark _)) (dw_or1 (dt_cmp (dop_eq hu) (de_ix (de_var 0) de_int) de_str (nomark _)))).dt (dss_one (ds_ret (de_slice (de_var 0) (do_some (de_un dun_neg de_int)) do_none))) dss_nil) (dss_one (ds_ret (de_tup da_nil))))
end
section
variable {P : Program} {w : World} {K : PySem.W.Frag} {mg : Str → Option Value} {base : Heap} {a : Nat → Addr} {fd : Nat → FuncData} {ca ka : Nat → Addr} {tk : Nat → Tok} (T : Txt K mg a fd ca ka tk)
include T in
theorem ok_rows_with_positions (G_branches : FnOk P w K mg base (L2.CX P w) 1 (a 16) (fd 16) ["row"] (spD K ca m_branches)) : ∀ n : Nat, FnOk P w K mg base (L2.CX P w) (1 + n) (a 17) (fd 17) ["rows", "before"] (spD K ca (m_rows_with_positions n)) := by
  intro n
  induction n with
  | zero => exact (fn_none (by intro ds st; rfl))
  | succ n ih =>
    have G_rows_with_positions := ih
    refine fn_okD (k := 1 + n) T.f_rows_with_positions sc_rows_with_positions fun cdv A outer s H E hr => ?_
    have hu := hr.units
    have hpo := passes_of (X := cxOf (L2.CX P w) P w K mg base ["rows", "before", "found", "index", "row", "position", "branch", "inner"] "rows_with_positions" (defScope (topS 33)) (a 17) cdv A outer s H E) rfl
    have hps := passes_call (takes_of (X := cxOf (L2.CX P w) P w K mg base ["rows", "before", "found", "index", "row", "position", "branch", "inner"] "rows_with_positions" (defScope (topS 33)) (a 17) cdv A outer s H E) rfl rfl rfl rfl) (fun _ _ _ _ h => h)
    have htk := takes_of (X := cxOf (L2.CX P w) P w K mg base ["rows", "before", "found", "index", "row", "position", "branch", "inner"] "rows_with_positions" (defScope (topS 33)) (a 17) cdv A outer s H E) rfl rfl rfl rfl
    exact (dss_cons (ds_set (i := 2) sc_rows_with_positions.nd (de_lst da_nil)) (dss_cons (ds_for hpo (by rfl) (di_enumT (by rfl) T.z_enumerate (de_var 0)) (dgi_pair (vs := [3, 4]) (by decide) (by decide) (by rfl) sc_rows_with_positions.nd) (dss_cons (ds_set (i := 5) sc_rows_with_positions.nd (de_op dop_add (de_var 1) (de_tup (da_cons (de_var 3) da_nil)))) (dss_cons (ds_expr (de_mtL PySem.F.plainAttrs_list PySem.F.slot_list_append PySem.F.type_list_append dm_append (de_var 2) (da_cons (de_tup (da_cons (de_var 5) (da_cons (de_var 4) da_nil))) da_nil))) (dss_one (ds_for hpo (by rfl) (di_enumT (by rfl) T.z_enumerate (de_call G_branches (hr.mono (by omega)) (by rfl) T.g_branches T.f_branches.kp T.b_branches .nil (fun _ _ => repL_nil.mpr rfl) hps (da_cons (de_var 4) da_nil))) (dgi_pair (vs := [6, 7]) (by decide) (by decide) (by rfl) sc_rows_with_positions.nd) (dss_one (ds_expr (de_mtL PySem.F.plainAttrs_list PySem.F.slot_list_extend PySem.F.type_list_extend dm_extend (de_var 2) (da_cons (de_call G_rows_with_positions (hr.mono (by omega)) (by rfl) T.g_rows_with_positions T.f_rows_with_positions.kp T.b_rows_with_positions .nil (fun _ _ => repL_nil.mpr rfl) hps (da_cons (de_var 7) (da_cons (de_op dop_add (de_var 5) (de_tup (da_cons (de_var 6) da_nil))) da_nil))) da_nil))))))))) (dss_one (ds_ret (de_var 2)))))
end
section
variable {P : Program} {w : World} {K : PySem.W.Frag} {mg : Str → Option Value} {base : Heap} {a : Nat → Addr} {fd : Nat → FuncData} {ca ka : Nat → Addr} {tk : Nat → Tok} (T : Txt K mg a fd ca ka tk)
include T in
theorem ok_may_branch  : FnOk P w K mg base (L2.CX P w) 1 (a 18) (fd 18) ["position", "row"] (spD K ca m_may_branch) := by
  refine fn_okD T.f_may_branch sc_may_branch fun cdv A outer s H E hr => ?_
  have hu := hr.units
  have hpo := passes_of (X := cxOf (L2.CX P w) P w K mg base ["position", "row", "depth"] "may_branch" (defScope (topS 31)) (a 18) cdv A outer s H E) rfl
  have hps := passes_call (takes_of (X := cxOf (L2.CX P w) P w K mg base ["position", "row", "depth"] "may_branch" (defScope (topS 31)) (a 18) cdv A outer s H E) rfl rfl rfl rfl) (fun _ _ _ _ h => h)
  have htk := takes_of (X := cxOf (L2.CX P w) P w K mg base ["position", "row", "depth"] "may_branch" (defScope (topS 31)) (a 18) cdv A outer s H E) rfl rfl rfl rfl
  exact (dss_cons (ds_set (i := 2) sc_may_branch.nd (de_op dop_div (de_op dop_add (de_callB dc_len (by rfl) T.z_len boot_len (da_cons (de_var 0) da_nil)) de_int) de_int)) (dss_one (ds_ret (de_and (de_cmp dop_le (de_var 2) (de_glob (by rfl) T.c_DEEPEST_BRANCHING T.r_DEEPEST_BRANCHING T.d_DEEPEST_BRANCHING) (nomark _)) (de_and (de_isi (by rfl) T.z_isinstance boot_isi (by rfl) T.z_tuple boot_tuple (de_ix (de_var 1) (de_un dun_neg de_int))) (de_one (de_isi (by rfl) T.z_isinstance boot_isi (by rfl) T.z_tuple boot_tuple (de_ix (de_var 1) (de_un dun_neg de_int)))))))))
end
section
variable {P : Program} {w : World} {K : PySem.W.Frag} {mg : Str → Option Value} {base : Heap} {a : Nat → Addr} {fd : Nat → FuncData} {ca ka : Nat → Addr} {tk : Nat → Tok} (T : Txt K mg a fd ca ka tk)
include T in
theorem ok_is_row (G_may_branch : FnOk P w K mg base (L2.CX P w) 1 (a 18) (fd 18) ["position", "row"] (spD K ca m_may_branch)) : FnOk P w K mg base (L2.CX P w) 2 (a 19) (fd 19) ["bits", "names", "side", "position", "row"] (spD K ca m_is_row) := by
  refine fn_okD T.f_is_row sc_is_row fun cdv A outer s H E hr => ?_
  have hu := hr.units
  have hpo := passes_of (X := cxOf (L2.CX P w) P w K mg base ["bits", "names", "side", "position", "row", "word"] "is_row" (defScope (topS 30)) (a 19) cdv A outer s H E) rfl
  have hps := passes_call (takes_of (X := cxOf (L2.CX P w) P w K mg base ["bits", "names", "side", "position", "row", "word"] "is_row" (defScope (topS 30)) (a 19) cdv A outer s H E) rfl rfl rfl rfl) (fun _ _ _ _ h => h)
  have htk := takes_of (X := cxOf (L2.CX P w) P w K mg base ["bits", "names", "side", "position", "row", "word"] "is_row" (defScope (topS 30)) (a 19) cdv A outer s H E) rfl rfl rfl rfl
  exact (dss_cons (ds_if (dw_or (dt_not (dt_val (de_isi (by rfl) T.z_isinstance boot_isi (by rfl) T.z_tuple boot_tuple (de_var 4)))) (dw_or1 (dt_cmp (dop_eq hu) (de_callB dc_len (by rfl) T.z_len boot_len (da_cons (de_var 4) da_nil)) de_int (nomark _)))).dt (dss_one (ds_ret de_bl)) dss_nil) (dss_cons (ds_set (i := 5) sc_is_row.nd (de_ix (de_var 4) de_int)) (dss_cons (ds_if (dt_cmp (dop_eq hu) (de_var 5) de_str (nomark _)) (dss_one (ds_ret (de_and (de_cmp (dop_eq hu) (de_callB dc_len (by rfl) T.z_len boot_len (da_cons (de_var 4) da_nil)) de_int (nomark _)) (de_and (de_cmp dop_in (de_ix (de_var 4) de_int) (de_var 0) rfl) (de_one (de_call G_may_branch (hr.mono (by decide)) (by rfl) T.g_may_branch T.f_may_branch.kp T.b_may_branch .nil (fun _ _ => repL_nil.mpr rfl) hps (da_cons (de_var 3) (da_cons (de_var 4) da_nil)))))))) dss_nil) (dss_cons (ds_if (dt_cmp (dop_eq hu) (de_var 5) de_str (nomark _)) (dss_one (ds_ret (de_and (de_cmp (dop_eq hu) (de_callB dc_len (by rfl) T.z_len boot_len (da_cons (de_var 4) da_nil)) de_int (nomark _)) (de_one (de_call G_may_branch (hr.mono (by decide)) (by rfl) T.g_may_branch T.f_may_branch.kp T.b_may_branch .nil (fun _ _ => repL_nil.mpr rfl) hps (da_cons (de_var 3) (da_cons (de_var 4) da_nil))))))) dss_nil) (dss_cons (ds_if (dt_cmp (dop_eq hu) (de_var 5) de_str (nomark _)) (dss_one (ds_ret (de_and (de_cmp (dop_eq hu) (de_callB dc_len (by rfl) T.z_len boot_len (da_cons (de_var 4) da_nil)) de_int (nomark _)) (de_and (de_cmp dop_in (de_ix (de_var 4) de_int) (de_var 0) rfl) (de_one (de_isi (by rfl) T.z_isinstance boot_isi (by rfl) T.z_bool boot_bool (de_ix (de_var 4) de_int))))))) dss_nil) (dss_cons (ds_if (dt_cmp (dop_eq hu) (de_var 5) de_str (nomark _)) (dss_one (ds_ret (de_and (de_cmp (dop_eq hu) (de_callB dc_len (by rfl) T.z_len boot_len (da_cons (de_var 4) da_nil)) de_int (nomark _)) (de_and (de_cmp dop_in (de_ix (de_var 4) de_int) (de_var 1) rfl) (de_one (de_cmp (dop_eq hu) (de_var 2) de_str (nomark _))))))) dss_nil) (dss_one (ds_ret (de_cmp (dop_eq hu) (de_var 4) (de_tup (da_cons de_str da_nil)) (nomark _))))))))))
end
section
variable {P : Program} {w : World} {K : PySem.W.Frag} {mg : Str → Option Value} {base : Heap} {a : Nat → Addr} {fd : Nat → FuncData} {ca ka : Nat → Addr} {tk : Nat → Tok} (T : Txt K mg a fd ca ka tk)
include T in
theorem ok_first_wrong_row (G_branches : FnOk P w K mg base (L2.CX P w) 1 (a 16) (fd 16) ["row"] (spD K ca m_branches)) (G_is_row : FnOk P w K mg base (L2.CX P w) 2 (a 19) (fd 19) ["bits", "names", "side", "position", "row"] (spD K ca m_is_row)) : ∀ n : Nat, FnOk P w K mg base (L2.CX P w) (2 + n) (a 20) (fd 20) ["bits", "names", "side", "rows", "before"] (spD K ca (m_first_wrong_row n)) := by
  intro n
  induction n with
  | zero => exact (fn_none (by intro ds st; rfl))
  | succ n ih =>
    have G_first_wrong_row := ih
    refine fn_okD (k := 2 + n) T.f_first_wrong_row sc_first_wrong_row fun cdv A outer s H E hr => ?_
    have hu := hr.units
    have hpo := passes_of (X := cxOf (L2.CX P w) P w K mg base ["bits", "names", "side", "rows", "before", "index", "row", "position", "branch", "inner", "wrong"] "first_wrong_row" (defScope (topS 29)) (a 20) cdv A outer s H E) rfl
    have hps := passes_call (takes_of (X := cxOf (L2.CX P w) P w K mg base ["bits", "names", "side", "rows", "before", "index", "row", "position", "branch", "inner", "wrong"] "first_wrong_row" (defScope (topS 29)) (a 20) cdv A outer s H E) rfl rfl rfl rfl) (fun _ _ _ _ h => h)
    have htk := takes_of (X := cxOf (L2.CX P w) P w K mg base ["bits", "names", "side", "rows", "before", "index", "row", "position", "branch", "inner", "wrong"] "first_wrong_row" (defScope (topS 29)) (a 20) cdv A outer s H E) rfl rfl rfl rfl
    exact (dss_cons (ds_for hpo (by rfl) (di_enumT (by rfl) T.z_enumerate (de_var 3)) (dgi_pair (vs := [5, 6]) (by decide) (by decide) (by rfl) sc_first_wrong_row.nd) (dss_cons (ds_set (i := 7) sc_first_wrong_row.nd (de_op dop_add (de_var 4) (de_tup (da_cons (de_var 5) da_nil)))) (dss_cons (ds_if (dt_not (dt_val (de_call G_is_row (hr.mono (by omega)) (by rfl) T.g_is_row T.f_is_row.kp T.b_is_row .nil (fun _ _ => repL_nil.mpr rfl) hps (da_cons (de_var 0) (da_cons (de_var 1) (da_cons (de_var 2) (da_cons (de_var 7) (da_cons (de_var 6) da_nil)))))))) (dss_one (ds_ret (de_var 7))) dss_nil) (dss_one (ds_for hpo (by rfl) (di_enumT (by rfl) T.z_enumerate (de_call G_branches (hr.mono (by omega)) (by rfl) T.g_branches T.f_branches.kp T.b_branches .nil (fun _ _ => repL_nil.mpr rfl) hps (da_cons (de_var 6) da_nil))) (dgi_pair (vs := [8, 9]) (by decide) (by decide) (by rfl) sc_first_wrong_row.nd) (dss_cons (ds_set (i := 10) sc_first_wrong_row.nd (de_call G_first_wrong_row (hr.mono (by omega)) (by rfl) T.g_first_wrong_row T.f_first_wrong_row.kp T.b_first_wrong_row .nil (fun _ _ => repL_nil.mpr rfl) hps (da_cons (de_var 0) (da_cons (de_var 1) (da_cons (de_var 2) (da_cons (de_var 9) (da_cons (de_op dop_add (de_var 7) (de_tup (da_cons (de_var 8) da_nil))) da_nil))))))) (dss_one (ds_if (dt_cmp dop_notN (de_var 10) de_non (nomark _)) (dss_one (ds_ret (de_var 10))) dss_nil)))))))) (dss_one (ds_ret de_non)))
end
section
variable {P : Program} {w : World} {K : PySem.W.Frag} {mg : Str → Option Value} {base : Heap} {a : Nat → Addr} {fd : Nat → FuncData} {ca ka : Nat → Addr} {tk : Nat → Tok} (T : Txt K mg a fd ca ka tk)
include T in
theorem ok_check_guard (G_rows_with_positions : FnOk P w K mg base (L2.CX P w) 6 (a 17) (fd 17) ["rows", "before"] (spD K ca (m_rows_with_positions 5))) (G_InvalidSite___init__ : FnOk P w K mg base (L2.CX P w) 1 (a 15) (fd 15) ["self", "part", "path"] (spX (ca 1) ["part", "path"])) (G_first_wrong_row : FnOk P w K mg base (L2.CX P w) 7 (a 20) (fd 20) ["bits", "names", "side", "rows", "before"] (spD K ca (m_first_wrong_row 5))) : FnOk P w K mg base (L2.CX P w) 9 (a 21) (fd 21) ["bits", "names", "page", "side", "rows"] (spD K ca m_check_guard) := by
  refine fn_okD T.f_check_guard sc_check_guard fun cdv A outer s H E hr => ?_
  have hu := hr.units
  have hpo := passes_of (X := cxOf (L2.CX P w) P w K mg base ["bits", "names", "page", "side", "rows", "wrong"] "check_guard" (defScope (topS 28)) (a 21) cdv A outer s H E) rfl
  have hps := passes_call (takes_of (X := cxOf (L2.CX P w) P w K mg base ["bits", "names", "page", "side", "rows", "wrong"] "check_guard" (defScope (topS 28)) (a 21) cdv A outer s H E) rfl rfl rfl rfl) (fun _ _ _ _ h => h)
  have htk := takes_of (X := cxOf (L2.CX P w) P w K mg base ["bits", "names", "page", "side", "rows", "wrong"] "check_guard" (defScope (topS 28)) (a 21) cdv A outer s H E) rfl rfl rfl rfl
  exact (dss_cons (ds_if (dt_not (dt_val (de_isi (by rfl) T.z_isinstance boot_isi (by rfl) T.z_tuple boot_tuple (de_var 4)))) (dss_one (ds_raise (by rfl) htk T.ox_InvalidSite T.xi_InvalidSite T.ti_InvalidSite G_InvalidSite___init__ (hr.mono (by decide)) T.b_InvalidSite___init__ (by rfl) T.ge_InvalidSite ⟨by simp, by simp⟩ (da_cons de_str (da_cons (de_tup (da_cons (de_var 2) (da_cons (de_var 3) (da_cons (de_tup da_nil) da_nil)))) da_nil)))) dss_nil) (dss_cons (ds_set (i := 5) sc_check_guard.nd (de_call G_first_wrong_row (hr.mono (by decide)) (by rfl) T.g_first_wrong_row T.f_first_wrong_row.kp T.b_first_wrong_row .nil (fun _ _ => repL_nil.mpr rfl) hps (da_cons (de_var 0) (da_cons (de_var 1) (da_cons (de_var 3) (da_cons (de_var 4) (da_cons (de_tup da_nil) da_nil))))))) (dss_cons (ds_if (dt_cmp dop_notN (de_var 5) de_non (nomark _)) (dss_one (ds_raise (by rfl) htk T.ox_InvalidSite T.xi_InvalidSite T.ti_InvalidSite G_InvalidSite___init__ (hr.mono (by decide)) T.b_InvalidSite___init__ (by rfl) T.ge_InvalidSite ⟨by simp, by simp⟩ (da_cons de_str (da_cons (de_tup (da_cons (de_var 2) (da_cons (de_var 3) (da_cons (de_var 5) da_nil)))) da_nil)))) dss_nil) (dss_one (ds_if (dt_cmp dop_gt (de_callB dc_len (by rfl) T.z_len boot_len (da_cons (de_call G_rows_with_positions (hr.mono (by decide)) (by rfl) T.g_rows_with_positions T.f_rows_with_positions.kp T.b_rows_with_positions .nil (fun _ _ => repL_nil.mpr rfl) hps (da_cons (de_var 4) (da_cons (de_tup da_nil) da_nil))) da_nil)) (de_glob (by rfl) T.c_MOST_ROWS T.r_MOST_ROWS T.d_MOST_ROWS) (nomark _)) (dss_one (ds_raise (by rfl) htk T.ox_InvalidSite T.xi_InvalidSite T.ti_InvalidSite G_InvalidSite___init__ (hr.mono (by decide)) T.b_InvalidSite___init__ (by rfl) T.ge_InvalidSite ⟨by simp, by simp⟩ (da_cons de_str (da_cons (de_tup (da_cons (de_var 2) (da_cons (de_var 3) (da_cons (de_tup da_nil) da_nil)))) da_nil)))) dss_nil)))))
end
section
variable {P : Program} {w : World} {K : PySem.W.Frag} {mg : Str → Option Value} {base : Heap} {a : Nat → Addr} {fd : Nat → FuncData} {ca ka : Nat → Addr} {tk : Nat → Tok} (T : Txt K mg a fd ca ka tk)
include T in
theorem ok_is_named_page  : FnOk P w K mg base (L2.CX P w) 1 (a 22) (fd 22) ["value"] (spD K ca m_is_named_page) := by
  refine fn_okD T.f_is_named_page sc_is_named_page fun cdv A outer s H E hr => ?_
  have hu := hr.units
  have hpo := passes_of (X := cxOf (L2.CX P w) P w K mg base ["value", "page"] "is_named_page" (defScope (topS 25)) (a 22) cdv A outer s H E) rfl
  have hps := passes_call (takes_of (X := cxOf (L2.CX P w) P w K mg base ["value", "page"] "is_named_page" (defScope (topS 25)) (a 22) cdv A outer s H E) rfl rfl rfl rfl) (fun _ _ _ _ h => h)
  have htk := takes_of (X := cxOf (L2.CX P w) P w K mg base ["value", "page"] "is_named_page" (defScope (topS 25)) (a 22) cdv A outer s H E) rfl rfl rfl rfl
  exact (dss_cons (ds_if (dw_or (dt_not (dt_val (de_isi (by rfl) T.z_isinstance boot_isi (by rfl) T.z_tuple boot_tuple (de_var 0)))) (dw_or1 (dt_cmp (dop_ne hu) (de_callB dc_len (by rfl) T.z_len boot_len (da_cons (de_var 0) da_nil)) de_int (nomark _)))).dt (dss_one (ds_ret de_bl)) dss_nil) (dss_cons (ds_set (i := 1) sc_is_named_page.nd (de_ix (de_var 0) de_int)) (dss_one (ds_ret (de_and (de_isi (by rfl) T.z_isinstance boot_isi (by rfl) T.z_tuple boot_tuple (de_var 1)) (de_and (de_cmp (dop_eq hu) (de_callB dc_len (by rfl) T.z_len boot_len (da_cons (de_var 1) da_nil)) de_int (nomark _)) (de_one (de_isi (by rfl) T.z_isinstance boot_isi (by rfl) T.z_bool boot_bool (de_ix (de_var 1) de_int)))))))))
end
section
variable {P : Program} {w : World} {K : PySem.W.Frag} {mg : Str → Option Value} {base : Heap} {a : Nat → Addr} {fd : Nat → FuncData} {ca ka : Nat → Addr} {tk : Nat → Tok} (T : Txt K mg a fd ca ka tk)
include T in
theorem ok_is_name  : FnOk P w K mg base (L2.CX P w) 1 (a 23) (fd 23) ["value"] (spD K ca m_is_name) := by
  refine fn_okD T.f_is_name sc_is_name fun cdv A outer s H E hr => ?_
  have hu := hr.units
  have hpo := passes_of (X := cxOf (L2.CX P w) P w K mg base ["value", "letter"] "is_name" (defScope (topS 20)) (a 23) cdv A outer s H E) rfl
  have hps := passes_call (takes_of (X := cxOf (L2.CX P w) P w K mg base ["value", "letter"] "is_name" (defScope (topS 20)) (a 23) cdv A outer s H E) rfl rfl rfl rfl) (fun _ _ _ _ h => h)
  have htk := takes_of (X := cxOf (L2.CX P w) P w K mg base ["value", "letter"] "is_name" (defScope (topS 20)) (a 23) cdv A outer s H E) rfl rfl rfl rfl
  exact (dss_cons (ds_if (dw_or (dt_not (dt_val (de_isi (by rfl) T.z_isinstance boot_isi (by rfl) T.z_str boot_str (de_var 0)))) (dw_or1 (dt_not (dt_chain dop_le dop_le de_int (de_callB dc_len (by rfl) T.z_len boot_len (da_cons (de_var 0) da_nil)) (de_glob (by rfl) T.c_LONGEST_NAME T.r_LONGEST_NAME T.d_LONGEST_NAME))))).dt (dss_one (ds_ret de_bl)) dss_nil) (dss_one (ds_ret (de_callB (dc_all (by rfl)) (by rfl) T.z_all boot_all (da_cons (de_lc (own := [("letter", 1)]) (by rfl) sc_is_name.nd (di_seq (de_var 0)) (blkOk_by (N := ["value", "letter"]) (sc := defScope (topS 20)) (own := [("letter", 1)]) (by decide +kernel)) (fun _ _ _ _ _ => (dgi_var (vs := [1]) (by decide) sc_is_name.nd)) (fun _ _ _ _ _ => dts_nil) (fun _ _ _ _ _ => (de_cmp dop_in (de_var 1) (de_glob (by rfl) T.c_LETTERS T.r_LETTERS T.d_LETTERS) rfl))) da_nil)))))
end
section
variable {P : Program} {w : World} {K : PySem.W.Frag} {mg : Str → Option Value} {base : Heap} {a : Nat → Addr} {fd : Nat → FuncData} {ca ka : Nat → Addr} {tk : Nat → Tok} (T : Txt K mg a fd ca ka tk)
include T in
theorem ok_are_different_names (G_is_name : FnOk P w K mg base (L2.CX P w) 1 (a 23) (fd 23) ["value"] (spD K ca m_is_name)) : FnOk P w K mg base (L2.CX P w) 2 (a 24) (fd 24) ["values"] (spD K ca m_are_different_names) := by
  refine fn_okD T.f_are_different_names sc_are_different_names fun cdv A outer s H E hr => ?_
  have hu := hr.units
  have hpo := passes_of (X := cxOf (L2.CX P w) P w K mg base ["values", "value"] "are_different_names" (defScope (topS 21)) (a 24) cdv A outer s H E) rfl
  have hps := passes_call (takes_of (X := cxOf (L2.CX P w) P w K mg base ["values", "value"] "are_different_names" (defScope (topS 21)) (a 24) cdv A outer s H E) rfl rfl rfl rfl) (fun _ _ _ _ h => h)
  have htk := takes_of (X := cxOf (L2.CX P w) P w K mg base ["values", "value"] "are_different_names" (defScope (topS 21)) (a 24) cdv A outer s H E) rfl rfl rfl rfl
  exact (dss_one (ds_ret (de_and (de_callB (dc_all (by rfl)) (by rfl) T.z_all boot_all (da_cons (de_lc (own := [("value", 1)]) (by rfl) sc_are_different_names.nd (di_seq (de_var 0)) (blkOk_by (N := ["values", "value"]) (sc := defScope (topS 21)) (own := [("value", 1)]) (by decide +kernel)) (fun _ _ _ _ _ => (dgi_var (vs := [1]) (by decide) sc_are_different_names.nd)) (fun _ _ _ _ _ => dts_nil) (fun _ _ _ _ _ => (de_call G_is_name (hr.mono (by decide)) (by rfl) T.g_is_name T.f_is_name.kp T.b_is_name .nil (fun _ _ => repL_nil.mpr rfl) pass_blk (da_cons (de_var 1) da_nil)))) da_nil)) (de_one (de_cmp (dop_eq hu) (de_lenSet (by rfl) (by rfl) T.z_len (by rfl) T.z_set (de_var 0)) (de_callB dc_len (by rfl) T.z_len boot_len (da_cons (de_var 0) da_nil)) (nomark _))))))
end
section
variable {P : Program} {w : World} {K : PySem.W.Frag} {mg : Str → Option Value} {base : Heap} {a : Nat → Addr} {fd : Nat → FuncData} {ca ka : Nat → Addr} {tk : Nat → Tok} (T : Txt K mg a fd ca ka tk)
include T in
theorem ok_are_pages (G_is_named_page : FnOk P w K mg base (L2.CX P w) 1 (a 22) (fd 22) ["value"] (spD K ca m_is_named_page)) (G_are_different_names : FnOk P w K mg base (L2.CX P w) 2 (a 24) (fd 24) ["values"] (spD K ca m_are_different_names)) (G_names_of : FnOk P w K mg base (L2.CX P w) 1 (a 6) (fd 6) ["pages"] (spD K ca m_names_of)) : FnOk P w K mg base (L2.CX P w) 3 (a 25) (fd 25) ["value"] (spD K ca m_are_pages) := by
  refine fn_okD T.f_are_pages sc_are_pages fun cdv A outer s H E hr => ?_
  have hu := hr.units
  have hpo := passes_of (X := cxOf (L2.CX P w) P w K mg base ["value", "pair"] "are_pages" (defScope (topS 24)) (a 25) cdv A outer s H E) rfl
  have hps := passes_call (takes_of (X := cxOf (L2.CX P w) P w K mg base ["value", "pair"] "are_pages" (defScope (topS 24)) (a 25) cdv A outer s H E) rfl rfl rfl rfl) (fun _ _ _ _ h => h)
  have htk := takes_of (X := cxOf (L2.CX P w) P w K mg base ["value", "pair"] "are_pages" (defScope (topS 24)) (a 25) cdv A outer s H E) rfl rfl rfl rfl
  exact (dss_cons (ds_if (dw_or (dt_not (dt_val (de_isi (by rfl) T.z_isinstance boot_isi (by rfl) T.z_tuple boot_tuple (de_var 0)))) (dw_or1 (dt_not (dt_chain dop_le dop_le (de_glob (by rfl) T.c_FEWEST_PAGES T.r_FEWEST_PAGES T.d_FEWEST_PAGES) (de_callB dc_len (by rfl) T.z_len boot_len (da_cons (de_var 0) da_nil)) (de_glob (by rfl) T.c_MOST_PAGES T.r_MOST_PAGES T.d_MOST_PAGES))))).dt (dss_one (ds_ret de_bl)) dss_nil) (dss_one (ds_ret (de_and (de_callB (dc_all (by rfl)) (by rfl) T.z_all boot_all (da_cons (de_lc (own := [("pair", 1)]) (by rfl) sc_are_pages.nd (di_seq (de_var 0)) (blkOk_by (N := ["value", "pair"]) (sc := defScope (topS 24)) (own := [("pair", 1)]) (by decide +kernel)) (fun _ _ _ _ _ => (dgi_var (vs := [1]) (by decide) sc_are_pages.nd)) (fun _ _ _ _ _ => dts_nil) (fun _ _ _ _ _ => (de_call G_is_named_page (hr.mono (by decide)) (by rfl) T.g_is_named_page T.f_is_named_page.kp T.b_is_named_page .nil (fun _ _ => repL_nil.mpr rfl) pass_blk (da_cons (de_var 1) da_nil)))) da_nil)) (de_one (de_call G_are_different_names (hr.mono (by decide)) (by rfl) T.g_are_different_names T.f_are_different_names.kp T.b_are_different_names .nil (fun _ _ => repL_nil.mpr rfl) hps (da_cons (de_call G_names_of (hr.mono (by decide)) (by rfl) T.g_names_of T.f_names_of.kp T.b_names_of .nil (fun _ _ => repL_nil.mpr rfl) hps (da_cons (de_var 0) da_nil)) da_nil)))))))
end
section
variable {P : Program} {w : World} {K : PySem.W.Frag} {mg : Str → Option Value} {base : Heap} {a : Nat → Addr} {fd : Nat → FuncData} {ca ka : Nat → Addr} {tk : Nat → Tok} (T : Txt K mg a fd ca ka tk)
include T in
theorem ok_are_bits (G_are_different_names : FnOk P w K mg base (L2.CX P w) 2 (a 24) (fd 24) ["values"] (spD K ca m_are_different_names)) : FnOk P w K mg base (L2.CX P w) 3 (a 26) (fd 26) ["value"] (spD K ca m_are_bits) := by
  refine fn_okD T.f_are_bits sc_are_bits fun cdv A outer s H E hr => ?_
  have hu := hr.units
  have hpo := passes_of (X := cxOf (L2.CX P w) P w K mg base ["value"] "are_bits" (defScope (topS 23)) (a 26) cdv A outer s H E) rfl
  have hps := passes_call (takes_of (X := cxOf (L2.CX P w) P w K mg base ["value"] "are_bits" (defScope (topS 23)) (a 26) cdv A outer s H E) rfl rfl rfl rfl) (fun _ _ _ _ h => h)
  have htk := takes_of (X := cxOf (L2.CX P w) P w K mg base ["value"] "are_bits" (defScope (topS 23)) (a 26) cdv A outer s H E) rfl rfl rfl rfl
  exact (dss_one (ds_ret (de_and (de_isi (by rfl) T.z_isinstance boot_isi (by rfl) T.z_tuple boot_tuple (de_var 0)) (de_and (de_cmp dop_le (de_callB dc_len (by rfl) T.z_len boot_len (da_cons (de_var 0) da_nil)) (de_glob (by rfl) T.c_MOST_BITS T.r_MOST_BITS T.d_MOST_BITS) (nomark _)) (de_one (de_call G_are_different_names (hr.mono (by decide)) (by rfl) T.g_are_different_names T.f_are_different_names.kp T.b_are_different_names .nil (fun _ _ => repL_nil.mpr rfl) hps (da_cons (de_var 0) da_nil)))))))
end
section
variable {P : Program} {w : World} {K : PySem.W.Frag} {mg : Str → Option Value} {base : Heap} {a : Nat → Addr} {fd : Nat → FuncData} {ca ka : Nat → Addr} {tk : Nat → Tok} (T : Txt K mg a fd ca ka tk)
include T in
theorem ok_check_site (G_is_integer : FnOk P w K mg base (L2.CX P w) 1 (a 14) (fd 14) ["value"] (spD K ca m_is_integer)) (G_InvalidSite___init__ : FnOk P w K mg base (L2.CX P w) 1 (a 15) (fd 15) ["self", "part", "path"] (spX (ca 1) ["part", "path"])) (G_check_guard : FnOk P w K mg base (L2.CX P w) 9 (a 21) (fd 21) ["bits", "names", "page", "side", "rows"] (spD K ca m_check_guard)) (G_names_of : FnOk P w K mg base (L2.CX P w) 1 (a 6) (fd 6) ["pages"] (spD K ca m_names_of)) (G_are_pages : FnOk P w K mg base (L2.CX P w) 3 (a 25) (fd 25) ["value"] (spD K ca m_are_pages)) (G_are_bits : FnOk P w K mg base (L2.CX P w) 3 (a 26) (fd 26) ["value"] (spD K ca m_are_bits)) : FnOk P w K mg base (L2.CX P w) 10 (a 27) (fd 27) ["bits", "pages", "start", "keep"] (spD K ca m_check_site) := by
  refine fn_okD T.f_check_site sc_check_site fun cdv A outer s H E hr => ?_
  have hu := hr.units
  have hpo := passes_of (X := cxOf (L2.CX P w) P w K mg base ["bits", "pages", "start", "keep", "names", "name", "parts", "at", "side"] "check_site" (defScope (topS 22)) (a 27) cdv A outer s H E) rfl
  have hps := passes_call (takes_of (X := cxOf (L2.CX P w) P w K mg base ["bits", "pages", "start", "keep", "names", "name", "parts", "at", "side"] "check_site" (defScope (topS 22)) (a 27) cdv A outer s H E) rfl rfl rfl rfl) (fun _ _ _ _ h => h)
  have htk := takes_of (X := cxOf (L2.CX P w) P w K mg base ["bits", "pages", "start", "keep", "names", "name", "parts", "at", "side"] "check_site" (defScope (topS 22)) (a 27) cdv A outer s H E) rfl rfl rfl rfl
  exact (dss_cons (ds_if (dt_not (dt_val (de_call G_are_bits (hr.mono (by decide)) (by rfl) T.g_are_bits T.f_are_bits.kp T.b_are_bits .nil (fun _ _ => repL_nil.mpr rfl) hps (da_cons (de_var 0) da_nil)))) (dss_one (ds_raise (by rfl) htk T.ox_InvalidSite T.xi_InvalidSite T.ti_InvalidSite G_InvalidSite___init__ (hr.mono (by decide)) T.b_InvalidSite___init__ (by rfl) T.ge_InvalidSite ⟨by simp, by simp⟩ (da_cons de_str (da_cons (de_tup da_nil) da_nil)))) dss_nil) (dss_cons (ds_if (dt_not (dt_val (de_call G_are_pages (hr.mono (by decide)) (by rfl) T.g_are_pages T.f_are_pages.kp T.b_are_pages .nil (fun _ _ => repL_nil.mpr rfl) hps (da_cons (de_var 1) da_nil)))) (dss_one (ds_raise (by rfl) htk T.ox_InvalidSite T.xi_InvalidSite T.ti_InvalidSite G_InvalidSite___init__ (hr.mono (by decide)) T.b_InvalidSite___init__ (by rfl) T.ge_InvalidSite ⟨by simp, by simp⟩ (da_cons de_str (da_cons (de_tup da_nil) da_nil)))) dss_nil) (dss_cons (ds_set (i := 4) sc_check_site.nd (de_call G_names_of (hr.mono (by decide)) (by rfl) T.g_names_of T.f_names_of.kp T.b_names_of .nil (fun _ _ => repL_nil.mpr rfl) hps (da_cons (de_var 1) da_nil))) (dss_cons (ds_for hpo (by rfl) (di_seq (de_var 1)) (dgi_pair (vs := [5, 6]) (by decide) (by decide) (by rfl) sc_check_site.nd) (dss_one (ds_for hpo (by rfl) (di_enumT (by rfl) T.z_enumerate (de_glob (by rfl) T.c_SIDES T.r_SIDES T.d_SIDES)) (dgi_pair (vs := [7, 8]) (by decide) (by decide) (by rfl) sc_check_site.nd) (dss_one (ds_expr (de_call G_check_guard (hr.mono (by decide)) (by rfl) T.g_check_guard T.f_check_guard.kp T.b_check_guard .nil (fun _ _ => repL_nil.mpr rfl) hps (da_cons (de_var 0) (da_cons (de_var 4) (da_cons (de_var 5) (da_cons (de_var 8) (da_cons (de_ix (de_var 6) (de_var 7)) da_nil))))))))))) (dss_cons (ds_if (dt_cmp dop_notIn (de_var 2) (de_var 4) rfl) (dss_one (ds_raise (by rfl) htk T.ox_InvalidSite T.xi_InvalidSite T.ti_InvalidSite G_InvalidSite___init__ (hr.mono (by decide)) T.b_InvalidSite___init__ (by rfl) T.ge_InvalidSite ⟨by simp, by simp⟩ (da_cons de_str (da_cons (de_tup da_nil) da_nil)))) dss_nil) (dss_one (ds_if (dw_or (dt_not (dt_val (de_call G_is_integer (hr.mono (by decide)) (by rfl) T.g_is_integer T.f_is_integer.kp T.b_is_integer .nil (fun _ _ => repL_nil.mpr rfl) hps (da_cons (de_var 3) da_nil)))) (dw_or1 (dt_not (dt_chain dop_le dop_le (de_glob (by rfl) T.c_LEAST_KEEP T.r_LEAST_KEEP T.d_LEAST_KEEP) (de_var 3) (de_glob (by rfl) T.c_GREATEST_KEEP T.r_GREATEST_KEEP T.d_GREATEST_KEEP))))).dt (dss_one (ds_raise (by rfl) htk T.ox_InvalidSite T.xi_InvalidSite T.ti_InvalidSite G_InvalidSite___init__ (hr.mono (by decide)) T.b_InvalidSite___init__ (by rfl) T.ge_InvalidSite ⟨by simp, by simp⟩ (da_cons de_str (da_cons (de_tup da_nil) da_nil)))) dss_nil)))))))
end
section
variable {P : Program} {w : World} {K : PySem.W.Frag} {mg : Str → Option Value} {base : Heap} {a : Nat → Addr} {fd : Nat → FuncData} {ca ka : Nat → Addr} {tk : Nat → Tok} (T : Txt K mg a fd ca ka tk)
include T in
theorem ok_Site___init__ (G_check_site : FnOk P w K mg base (L2.CX P w) 10 (a 27) (fd 27) ["bits", "pages", "start", "keep"] (spD K ca m_check_site)) : FnOk P w K mg base (L2.CX P w) 11 (a 28) (fd 28) ["self", "bits", "pages", "start", "keep"] (spD K ca m_Site___init__) := by
  obtain ⟨dvs, kws, FF⟩ := T.f_Site___init__
  refine fn_okDd FF sc_Site___init__ fun cdv A outer s H E hr => ?_
  have hu := hr.units
  have hpo := passes_of (X := cxOf (L2.CX P w) P w K mg base ["self", "bits", "pages", "start", "keep"] "Site.__init__" (defScope (inClass (topS 18) 0)) (a 28) cdv A outer s H E) rfl
  have hps := passes_call (takes_of (X := cxOf (L2.CX P w) P w K mg base ["self", "bits", "pages", "start", "keep"] "Site.__init__" (defScope (inClass (topS 18) 0)) (a 28) cdv A outer s H E) rfl rfl rfl rfl) (fun _ _ _ _ h => h)
  have htk := takes_of (X := cxOf (L2.CX P w) P w K mg base ["self", "bits", "pages", "start", "keep"] "Site.__init__" (defScope (inClass (topS 18) 0)) (a 28) cdv A outer s H E) rfl rfl rfl rfl
  exact (dss_cons (ds_expr (de_call G_check_site (hr.mono (by decide)) (by rfl) T.g_check_site T.f_check_site.kp T.b_check_site .nil (fun _ _ => repL_nil.mpr rfl) hps (da_cons (de_var 1) (da_cons (de_var 2) (da_cons (de_var 3) (da_cons (de_var 4) da_nil)))))) (dss_cons (ds_fld T.cl_0 T.na_0_bits (de_var 0) (de_var 1)) (dss_cons (ds_fld T.cl_0 T.na_0_pages (de_var 0) (de_var 2)) (dss_cons (ds_fld T.cl_0 T.na_0_start (de_var 0) (de_var 3)) (dss_one (ds_fld T.cl_0 T.na_0_keep (de_var 0) (de_var 4)))))))
end
section
variable {P : Program} {w : World} {K : PySem.W.Frag} {mg : Str → Option Value} {base : Heap} {a : Nat → Addr} {fd : Nat → FuncData} {ca ka : Nat → Addr} {tk : Nat → Tok} (T : Txt K mg a fd ca ka tk)
include T in
theorem ok__law_word (G__law_draw : FnOk P w K mg base (L2.CX P w) 2 (a 12) (fd 12) ["_law_box_here", "_law_many"] (spD K ca m__law_draw)) : FnOk P w K mg base (L2.CX P w) 3 (a 29) (fd 29) ["_law_box_here", "_law_bits", "_law_side", "_law_depth"] (spD K ca m__law_word) := by
  refine fn_okD T.f__law_word sc__law_word fun cdv A outer s H E hr => ?_
  have hu := hr.units
  have hpo := passes_of (X := cxOf (L2.CX P w) P w K mg base ["_law_box_here", "_law_bits", "_law_side", "_law_depth", "_law_word_here"] "_law_word" (defScope (topS 44)) (a 29) cdv A outer s H E) rfl
  have hps := passes_call (takes_of (X := cxOf (L2.CX P w) P w K mg base ["_law_box_here", "_law_bits", "_law_side", "_law_depth", "_law_word_here"] "_law_word" (defScope (topS 44)) (a 29) cdv A outer s H E) rfl rfl rfl rfl) (fun _ _ _ _ h => h)
  have htk := takes_of (X := cxOf (L2.CX P w) P w K mg base ["_law_box_here", "_law_bits", "_law_side", "_law_depth", "_law_word_here"] "_law_word" (defScope (topS 44)) (a 29) cdv A outer s H E) rfl rfl rfl rfl
  exact (dss_cons (ds_set (i := 4) sc__law_word.nd (de_ix (de_lst (da_cons de_str (da_cons de_str (da_cons de_str (da_cons de_str (da_cons de_str (da_cons de_str (da_cons de_str (da_cons de_str da_nil))))))))) (de_call G__law_draw (hr.mono (by decide)) (by rfl) T.g__law_draw T.f__law_draw.kp T.b__law_draw .nil (fun _ _ => repL_nil.mpr rfl) hps (da_cons (de_var 0) (da_cons de_int da_nil))))) (dss_cons (ds_if (dw_and (dt_cmp (dop_eq hu) (de_var 4) de_str (nomark _)) (dw_and1 (dt_cmp (dop_eq hu) (de_var 2) de_str (nomark _)))).dt (dss_one (ds_set (i := 4) sc__law_word.nd de_str)) dss_nil) (dss_cons (ds_if (dw_and (dt_cmp dop_in (de_var 4) (de_tup (da_cons de_str (da_cons de_str da_nil))) rfl) (dw_and1 (dt_cmp (dop_eq hu) (de_callB dc_len (by rfl) T.z_len boot_len (da_cons (de_var 1) da_nil)) de_int (nomark _)))).dt (dss_one (ds_set (i := 4) sc__law_word.nd de_str)) dss_nil) (dss_cons (ds_if (dw_and (dt_cmp dop_in (de_var 4) (de_tup (da_cons de_str (da_cons de_str da_nil))) rfl) (dw_and1 (dt_cmp (dop_eq hu) (de_var 3) de_int (nomark _)))).dt (dss_one (ds_set (i := 4) sc__law_word.nd de_str)) dss_nil) (dss_one (ds_ret (de_var 4)))))))
end
section
variable {P : Program} {w : World} {K : PySem.W.Frag} {mg : Str → Option Value} {base : Heap} {a : Nat → Addr} {fd : Nat → FuncData} {ca ka : Nat → Addr} {tk : Nat → Tok} (T : Txt K mg a fd ca ka tk)
include T in
theorem ok__law_row (G__law_draw : FnOk P w K mg base (L2.CX P w) 2 (a 12) (fd 12) ["_law_box_here", "_law_many"] (spD K ca m__law_draw)) (G__law_word : FnOk P w K mg base (L2.CX P w) 3 (a 29) (fd 29) ["_law_box_here", "_law_bits", "_law_side", "_law_depth"] (spD K ca m__law_word)) : ∀ n : Nat, FnOk P w K mg base (L2.CX P w) (3 + n) (a 30) (fd 30) ["_law_box_here", "_law_bits", "_law_names_here", "_law_side", "_law_depth", "_law_room"] (spD K ca (m__law_row n)) ∧ FnOk P w K mg base (L2.CX P w) (3 + n) (a 31) (fd 31) ["_law_box_here", "_law_bits", "_law_names_here", "_law_side", "_law_depth", "_law_room"] (spD K ca (m__law_rows n)) := by
  intro n
  induction n with
  | zero => exact ⟨(fn_none (by intro ds st; rfl)), (fn_none (by intro ds st; rfl))⟩
  | succ n ih =>
    obtain ⟨G__law_row, G__law_rows⟩ := ih
    refine ⟨?_, ?_⟩
    · refine fn_okD (k := 3 + n) T.f__law_row sc__law_row fun cdv A outer s H E hr => ?_
      have hu := hr.units
      have hpo := passes_of (X := cxOf (L2.CX P w) P w K mg base ["_law_box_here", "_law_bits", "_law_names_here", "_law_side", "_law_depth", "_law_room", "_law_word_here", "_law_head", "_law_first", "_law_second"] "_law_row" (defScope (topS 46)) (a 30) cdv A outer s H E) rfl
      have hps := passes_call (takes_of (X := cxOf (L2.CX P w) P w K mg base ["_law_box_here", "_law_bits", "_law_names_here", "_law_side", "_law_depth", "_law_room", "_law_word_here", "_law_head", "_law_first", "_law_second"] "_law_row" (defScope (topS 46)) (a 30) cdv A outer s H E) rfl rfl rfl rfl) (fun _ _ _ _ h => h)
      have htk := takes_of (X := cxOf (L2.CX P w) P w K mg base ["_law_box_here", "_law_bits", "_law_names_here", "_law_side", "_law_depth", "_law_room", "_law_word_here", "_law_head", "_law_first", "_law_second"] "_law_row" (defScope (topS 46)) (a 30) cdv A outer s H E) rfl rfl rfl rfl
      exact (dss_cons (ds_set (i := 6) sc__law_row.nd (de_call G__law_word (hr.mono (by omega)) (by rfl) T.g__law_word T.f__law_word.kp T.b__law_word .nil (fun _ _ => repL_nil.mpr rfl) hps (da_cons (de_var 0) (da_cons (de_var 1) (da_cons (de_var 3) (da_cons (de_var 4) da_nil)))))) (dss_cons (ds_if (dt_cmp (dop_eq hu) (de_var 6) de_str (nomark _)) (dss_one (ds_ret (de_tup (da_cons de_str da_nil)))) dss_nil) (dss_cons (ds_if (dt_cmp (dop_eq hu) (de_var 6) de_str (nomark _)) (dss_one (ds_ret (de_tup (da_cons de_str (da_cons (de_ix (de_var 2) (de_call G__law_draw (hr.mono (by omega)) (by rfl) T.g__law_draw T.f__law_draw.kp T.b__law_draw .nil (fun _ _ => repL_nil.mpr rfl) hps (da_cons (de_var 0) (da_cons (de_callB dc_len (by rfl) T.z_len boot_len (da_cons (de_var 2) da_nil)) da_nil)))) da_nil))))) dss_nil) (dss_cons (ds_if (dt_cmp (dop_eq hu) (de_var 6) de_str (nomark _)) (dss_one (ds_ret (de_tup (da_cons de_str (da_cons (de_ix (de_var 1) (de_call G__law_draw (hr.mono (by omega)) (by rfl) T.g__law_draw T.f__law_draw.kp T.b__law_draw .nil (fun _ _ => repL_nil.mpr rfl) hps (da_cons (de_var 0) (da_cons (de_callB dc_len (by rfl) T.z_len boot_len (da_cons (de_var 1) da_nil)) da_nil)))) (da_cons (de_cmp (dop_eq hu) (de_call G__law_draw (hr.mono (by omega)) (by rfl) T.g__law_draw T.f__law_draw.kp T.b__law_draw .nil (fun _ _ => repL_nil.mpr rfl) hps (da_cons (de_var 0) (da_cons de_int da_nil))) de_int (nomark _)) da_nil)))))) dss_nil) (dss_cons (ds_set (i := 7) sc__law_row.nd (de_tup (da_cons de_str da_nil))) (dss_cons (ds_if (dt_cmp (dop_eq hu) (de_var 6) de_str (nomark _)) (dss_one (ds_set (i := 7) sc__law_row.nd (de_tup (da_cons de_str (da_cons (de_ix (de_var 1) (de_call G__law_draw (hr.mono (by omega)) (by rfl) T.g__law_draw T.f__law_draw.kp T.b__law_draw .nil (fun _ _ => repL_nil.mpr rfl) hps (da_cons (de_var 0) (da_cons (de_callB dc_len (by rfl) T.z_len boot_len (da_cons (de_var 1) da_nil)) da_nil)))) da_nil))))) dss_nil) (dss_cons (ds_set (i := 8) sc__law_row.nd (de_call G__law_rows (hr.mono (by omega)) (by rfl) T.g__law_rows T.f__law_rows.kp T.b__law_rows .nil (fun _ _ => repL_nil.mpr rfl) hps (da_cons (de_var 0) (da_cons (de_var 1) (da_cons (de_var 2) (da_cons (de_var 3) (da_cons (de_op dop_add (de_var 4) de_int) (da_cons (de_var 5) da_nil)))))))) (dss_cons (ds_set (i := 9) sc__law_row.nd (de_call G__law_rows (hr.mono (by omega)) (by rfl) T.g__law_rows T.f__law_rows.kp T.b__law_rows .nil (fun _ _ => repL_nil.mpr rfl) hps (da_cons (de_var 0) (da_cons (de_var 1) (da_cons (de_var 2) (da_cons (de_var 3) (da_cons (de_op dop_add (de_var 4) de_int) (da_cons (de_var 5) da_nil)))))))) (dss_one (ds_ret (de_op dop_add (de_var 7) (de_tup (da_cons (de_var 8) (da_cons (de_var 9) da_nil))))))))))))))
    · refine fn_okD (k := 3 + n) T.f__law_rows sc__law_rows fun cdv A outer s H E hr => ?_
      have hu := hr.units
      have hpo := passes_of (X := cxOf (L2.CX P w) P w K mg base ["_law_box_here", "_law_bits", "_law_names_here", "_law_side", "_law_depth", "_law_room", "_law_many", "_law_rows_here", "_law_k"] "_law_rows" (defScope (topS 45)) (a 31) cdv A outer s H E) rfl
      have hps := passes_call (takes_of (X := cxOf (L2.CX P w) P w K mg base ["_law_box_here", "_law_bits", "_law_names_here", "_law_side", "_law_depth", "_law_room", "_law_many", "_law_rows_here", "_law_k"] "_law_rows" (defScope (topS 45)) (a 31) cdv A outer s H E) rfl rfl rfl rfl) (fun _ _ _ _ h => h)
      have htk := takes_of (X := cxOf (L2.CX P w) P w K mg base ["_law_box_here", "_law_bits", "_law_names_here", "_law_side", "_law_depth", "_law_room", "_law_many", "_law_rows_here", "_law_k"] "_law_rows" (defScope (topS 45)) (a 31) cdv A outer s H E) rfl rfl rfl rfl
      exact (dss_cons (ds_set (i := 6) sc__law_rows.nd (de_call G__law_draw (hr.mono (by omega)) (by rfl) T.g__law_draw T.f__law_draw.kp T.b__law_draw .nil (fun _ _ => repL_nil.mpr rfl) hps (da_cons (de_var 0) (da_cons de_int da_nil)))) (dss_cons (ds_if (dt_cmp dop_gt (de_var 6) de_int (nomark _)) (dss_one (ds_set (i := 6) sc__law_rows.nd (de_op dop_sub (de_var 6) de_int))) dss_nil) (dss_cons (ds_set (i := 7) sc__law_rows.nd (de_lst da_nil)) (dss_cons (ds_for hpo (by rfl) (di_range (by rfl) T.z_range (de_var 6)) (dgi_var (vs := [8]) (by decide) sc__law_rows.nd) (dss_one (ds_if (dt_cmp dop_gt (de_ix (de_var 5) de_int) de_int (nomark _)) (dss_cons (ds_asg (de_op dop_sub (de_ix (de_var 5) de_int) de_int) (dg_sub (de_var 5) de_int)) (dss_one (ds_expr (de_mtL PySem.F.plainAttrs_list PySem.F.slot_list_append PySem.F.type_list_append dm_append (de_var 7) (da_cons (de_call G__law_row (hr.mono (by omega)) (by rfl) T.g__law_row T.f__law_row.kp T.b__law_row .nil (fun _ _ => repL_nil.mpr rfl) hps (da_cons (de_var 0) (da_cons (de_var 1) (da_cons (de_var 2) (da_cons (de_var 3) (da_cons (de_var 4) (da_cons (de_var 5) da_nil))))))) da_nil))))) dss_nil))) (dss_one (ds_ret (de_callTy dc_tuple (by rfl) T.z_tuple boot_tuple (da_cons (de_var 7) da_nil))))))))
end
section
variable {P : Program} {w : World} {K : PySem.W.Frag} {mg : Str → Option Value} {base : Heap} {a : Nat → Addr} {fd : Nat → FuncData} {ca ka : Nat → Addr} {tk : Nat → Tok} (T : Txt K mg a fd ca ka tk)
include T in
theorem ok__law_names (G__law_draw : FnOk P w K mg base (L2.CX P w) 2 (a 12) (fd 12) ["_law_box_here", "_law_many"] (spD K ca m__law_draw)) : FnOk P w K mg base (L2.CX P w) 3 (a 32) (fd 32) ["_law_box_here", "_law_many"] (spD K ca m__law_names) := by
  refine fn_okD T.f__law_names sc__law_names fun cdv A outer s H E hr => ?_
  have hu := hr.units
  have hpo := passes_of (X := cxOf (L2.CX P w) P w K mg base ["_law_box_here", "_law_many", "_law_names_here", "_law_k", "_law_word_here", "_law_at", "_law_free", "_law_sign"] "_law_names" (defScope (topS 43)) (a 32) cdv A outer s H E) rfl
  have hps := passes_call (takes_of (X := cxOf (L2.CX P w) P w K mg base ["_law_box_here", "_law_many", "_law_names_here", "_law_k", "_law_word_here", "_law_at", "_law_free", "_law_sign"] "_law_names" (defScope (topS 43)) (a 32) cdv A outer s H E) rfl rfl rfl rfl) (fun _ _ _ _ h => h)
  have htk := takes_of (X := cxOf (L2.CX P w) P w K mg base ["_law_box_here", "_law_many", "_law_names_here", "_law_k", "_law_word_here", "_law_at", "_law_free", "_law_sign"] "_law_names" (defScope (topS 43)) (a 32) cdv A outer s H E) rfl rfl rfl rfl
  exact (dss_cons (ds_set (i := 2) sc__law_names.nd (de_lst da_nil)) (dss_cons (ds_for hpo (by rfl) (di_range (by rfl) T.z_range (de_var 1)) (dgi_var (vs := [3]) (by decide) sc__law_names.nd) (dss_cons (ds_set (i := 4) sc__law_names.nd de_str) (dss_cons (ds_for hpo (by rfl) (di_range (by rfl) T.z_range (de_op dop_add de_int (de_call G__law_draw (hr.mono (by decide)) (by rfl) T.g__law_draw T.f__law_draw.kp T.b__law_draw .nil (fun _ _ => repL_nil.mpr rfl) hps (da_cons (de_var 0) (da_cons de_int da_nil))))) (dgi_var (vs := [5]) (by decide) sc__law_names.nd) (dss_one (ds_set (i := 4) sc__law_names.nd (de_op dop_add (de_var 4) (de_ix de_str (de_call G__law_draw (hr.mono (by decide)) (by rfl) T.g__law_draw T.f__law_draw.kp T.b__law_draw .nil (fun _ _ => repL_nil.mpr rfl) hps (da_cons (de_var 0) (da_cons de_int da_nil)))))))) (dss_cons (ds_if (dt_cmp dop_in (de_var 4) (de_var 2) rfl) (dss_cons (ds_setLc (i := 6) (own := [("_law_sign", 7)]) (by rfl) sc__law_names.nd (di_str de_str) (blkOk_by (N := ["_law_box_here", "_law_many", "_law_names_here", "_law_k", "_law_word_here", "_law_at", "_law_free", "_law_sign"]) (sc := defScope (topS 43)) (own := [("_law_sign", 7)]) (by decide +kernel)) (fun _ _ _ _ _ => (dgi_var (vs := [7]) (by decide) sc__law_names.nd)) (fun _ _ _ _ _ => (dts_one (dt_cmp dop_notIn (de_op dop_add (de_slice (de_var 4) do_none (do_some de_int)) (de_var 7)) (de_var 2) rfl))) (fun _ _ _ _ _ => (de_op dop_add (de_slice (de_var 4) do_none (do_some de_int)) (de_var 7)))) (dss_one (ds_set (i := 4) sc__law_names.nd (de_ix (de_var 6) de_int)))) dss_nil) (dss_one (ds_expr (de_mtL PySem.F.plainAttrs_list PySem.F.slot_list_append PySem.F.type_list_append dm_append (de_var 2) (da_cons (de_var 4) da_nil)))))))) (dss_one (ds_ret (de_var 2)))))
end
section
variable {P : Program} {w : World} {K : PySem.W.Frag} {mg : Str → Option Value} {base : Heap} {a : Nat → Addr} {fd : Nat → FuncData} {ca ka : Nat → Addr} {tk : Nat → Tok} (T : Txt K mg a fd ca ka tk)
include T in
theorem ok__law_parts (G__law_draw : FnOk P w K mg base (L2.CX P w) 2 (a 12) (fd 12) ["_law_box_here", "_law_many"] (spD K ca m__law_draw)) (G__law_rows : FnOk P w K mg base (L2.CX P w) 11 (a 31) (fd 31) ["_law_box_here", "_law_bits", "_law_names_here", "_law_side", "_law_depth", "_law_room"] (spD K ca (m__law_rows 8))) (G__law_names : FnOk P w K mg base (L2.CX P w) 3 (a 32) (fd 32) ["_law_box_here", "_law_many"] (spD K ca m__law_names)) : FnOk P w K mg base (L2.CX P w) 22 (a 33) (fd 33) ["_law_box_here"] (spD K ca m__law_parts) := by
  refine fn_okD T.f__law_parts sc__law_parts fun cdv A outer s H E hr => ?_
  have hu := hr.units
  have hpo := passes_of (X := cxOf (L2.CX P w) P w K mg base ["_law_box_here", "_law_size", "_law_bits", "_law_names_here", "_law_pages", "_law_name", "_law_first", "_law_heavy", "_law_rooms", "_law_enter", "_law_leave"] "_law_parts" (defScope (topS 47)) (a 33) cdv A outer s H E) rfl
  have hps := passes_call (takes_of (X := cxOf (L2.CX P w) P w K mg base ["_law_box_here", "_law_size", "_law_bits", "_law_names_here", "_law_pages", "_law_name", "_law_first", "_law_heavy", "_law_rooms", "_law_enter", "_law_leave"] "_law_parts" (defScope (topS 47)) (a 33) cdv A outer s H E) rfl rfl rfl rfl) (fun _ _ _ _ h => h)
  have htk := takes_of (X := cxOf (L2.CX P w) P w K mg base ["_law_box_here", "_law_size", "_law_bits", "_law_names_here", "_law_pages", "_law_name", "_law_first", "_law_heavy", "_law_rooms", "_law_enter", "_law_leave"] "_law_parts" (defScope (topS 47)) (a 33) cdv A outer s H E) rfl rfl rfl rfl
  exact (dss_cons (ds_set (i := 1) sc__law_parts.nd (de_op dop_add de_int (de_call G__law_draw (hr.mono (by decide)) (by rfl) T.g__law_draw T.f__law_draw.kp T.b__law_draw .nil (fun _ _ => repL_nil.mpr rfl) hps (da_cons (de_var 0) (da_cons de_int da_nil))))) (dss_cons (ds_set (i := 2) sc__law_parts.nd (de_callTy dc_tuple (by rfl) T.z_tuple boot_tuple (da_cons (de_call G__law_names (hr.mono (by decide)) (by rfl) T.g__law_names T.f__law_names.kp T.b__law_names .nil (fun _ _ => repL_nil.mpr rfl) hps (da_cons (de_var 0) (da_cons (de_call G__law_draw (hr.mono (by decide)) (by rfl) T.g__law_draw T.f__law_draw.kp T.b__law_draw .nil (fun _ _ => repL_nil.mpr rfl) hps (da_cons (de_var 0) (da_cons de_int da_nil))) da_nil))) da_nil))) (dss_cons (ds_set (i := 3) sc__law_parts.nd (de_call G__law_names (hr.mono (by decide)) (by rfl) T.g__law_names T.f__law_names.kp T.b__law_names .nil (fun _ _ => repL_nil.mpr rfl) hps (da_cons (de_var 0) (da_cons (de_op dop_add de_int (de_call G__law_draw (hr.mono (by decide)) (by rfl) T.g__law_draw T.f__law_draw.kp T.b__law_draw .nil (fun _ _ => repL_nil.mpr rfl) hps (da_cons (de_var 0) (da_cons de_int da_nil)))) da_nil)))) (dss_cons (ds_if (dw_and (dt_cmp (dop_eq hu) (de_call G__law_draw (hr.mono (by decide)) (by rfl) T.g__law_draw T.f__law_draw.kp T.b__law_draw .nil (fun _ _ => repL_nil.mpr rfl) hps (da_cons (de_var 0) (da_cons de_int da_nil))) de_int (nomark _)) (dw_and (dt_cmp dop_gt (de_callB dc_len (by rfl) T.z_len boot_len (da_cons (de_var 2) da_nil)) de_int (nomark _)) (dw_and1 (dt_cmp dop_notIn (de_ix (de_var 2) de_int) (de_var 3) rfl)))).dt (dss_one (ds_asg (de_ix (de_var 2) de_int) (dg_sub (de_var 3) de_int))) dss_nil) (dss_cons (ds_set (i := 4) sc__law_parts.nd (de_lst da_nil)) (dss_cons (ds_for hpo (by rfl) (di_seq (de_var 3)) (dgi_var (vs := [5]) (by decide) sc__law_parts.nd) (dss_cons (ds_set (i := 7) sc__law_parts.nd (de_cmp (dop_eq hu) (de_call G__law_draw (hr.mono (by decide)) (by rfl) T.g__law_draw T.f__law_draw.kp T.b__law_draw .nil (fun _ _ => repL_nil.mpr rfl) hps (da_cons (de_var 0) (da_cons de_int da_nil))) de_int (nomark _))) (dss_cons (ds_set (i := 8) sc__law_parts.nd (de_lst (da_cons de_int (da_cons de_int (da_cons de_int (da_cons de_int (da_cons de_int (da_cons de_int (da_cons de_int (da_cons de_int da_nil)))))))))) (dss_cons (ds_set (i := 9) sc__law_parts.nd (de_call G__law_rows (hr.mono (by decide)) (by rfl) T.g__law_rows T.f__law_rows.kp T.b__law_rows .nil (fun _ _ => repL_nil.mpr rfl) hps (da_cons (de_var 0) (da_cons (de_var 2) (da_cons (de_var 3) (da_cons de_str (da_cons de_int (da_cons (de_lst (da_cons (de_ix (de_var 8) (de_call G__law_draw (hr.mono (by decide)) (by rfl) T.g__law_draw T.f__law_draw.kp T.b__law_draw .nil (fun _ _ => repL_nil.mpr rfl) hps (da_cons (de_var 0) (da_cons de_int da_nil)))) da_nil)) da_nil)))))))) (dss_cons (ds_set (i := 10) sc__law_parts.nd (de_call G__law_rows (hr.mono (by decide)) (by rfl) T.g__law_rows T.f__law_rows.kp T.b__law_rows .nil (fun _ _ => repL_nil.mpr rfl) hps (da_cons (de_var 0) (da_cons (de_var 2) (da_cons (de_var 3) (da_cons de_str (da_cons de_int (da_cons (de_lst (da_cons (de_ix (de_var 8) (de_call G__law_draw (hr.mono (by decide)) (by rfl) T.g__law_draw T.f__law_draw.kp T.b__law_draw .nil (fun _ _ => repL_nil.mpr rfl) hps (da_cons (de_var 0) (da_cons de_int da_nil)))) da_nil)) da_nil)))))))) (dss_one (ds_expr (de_mtL PySem.F.plainAttrs_list PySem.F.slot_list_append PySem.F.type_list_append dm_append (de_var 4) (da_cons (de_tup (da_cons (de_var 5) (da_cons (de_tup (da_cons (de_var 9) (da_cons (de_var 10) (da_cons (de_var 7) da_nil)))) da_nil))) da_nil))))))))) (dss_cons (ds_set (i := 6) sc__law_parts.nd (de_ix (de_var 3) (de_call G__law_draw (hr.mono (by decide)) (by rfl) T.g__law_draw T.f__law_draw.kp T.b__law_draw .nil (fun _ _ => repL_nil.mpr rfl) hps (da_cons (de_var 0) (da_cons (de_callB dc_len (by rfl) T.z_len boot_len (da_cons (de_var 3) da_nil)) da_nil))))) (dss_one (ds_ret (de_tup (da_cons (de_var 2) (da_cons (de_callTy dc_tuple (by rfl) T.z_tuple boot_tuple (da_cons (de_var 4) da_nil)) (da_cons (de_var 6) (da_cons (de_var 1) da_nil))))))))))))))
end
section
variable {P : Program} {w : World} {K : PySem.W.Frag} {mg : Str → Option Value} {base : Heap} {a : Nat → Addr} {fd : Nat → FuncData} {ca ka : Nat → Addr} {tk : Nat → Tok} (T : Txt K mg a fd ca ka tk)
include T in
theorem ok__law_box (G__law_mix : FnOk P w K mg base (L2.CX P w) 1 (a 11) (fd 11) ["_law_value", "_law_k"] (spD K ca m__law_mix)) : FnOk P w K mg base (L2.CX P w) 2 (a 34) (fd 34) ["_law_script"] (spD K ca m__law_box) := by
  refine fn_okD T.f__law_box sc__law_box fun cdv A outer s H E hr => ?_
  have hu := hr.units
  have hpo := passes_of (X := cxOf (L2.CX P w) P w K mg base ["_law_script", "_law_cells", "_law_seed", "_law_cell"] "_law_box" (defScope (topS 41)) (a 34) cdv A outer s H E) rfl
  have hps := passes_call (takes_of (X := cxOf (L2.CX P w) P w K mg base ["_law_script", "_law_cells", "_law_seed", "_law_cell"] "_law_box" (defScope (topS 41)) (a 34) cdv A outer s H E) rfl rfl rfl rfl) (fun _ _ _ _ h => h)
  have htk := takes_of (X := cxOf (L2.CX P w) P w K mg base ["_law_script", "_law_cells", "_law_seed", "_law_cell"] "_law_box" (defScope (topS 41)) (a 34) cdv A outer s H E) rfl rfl rfl rfl
  exact (dss_cons (ds_setLc (i := 1) (own := [("_law_cell", 3)]) (by rfl) sc__law_box.nd (di_seq (de_slice (de_var 0) do_none (do_some de_int))) (blkOk_by (N := ["_law_script", "_law_cells", "_law_seed", "_law_cell"]) (sc := defScope (topS 41)) (own := [("_law_cell", 3)]) (by decide +kernel)) (fun _ _ _ _ _ => (dgi_var (vs := [3]) (by decide) sc__law_box.nd)) (fun _ _ _ _ _ => dts_nil) (fun _ _ _ _ _ => (de_callTy dc_int (by rfl) T.z_int boot_int (da_cons (de_var 3) da_nil)))) (dss_cons (ds_set (i := 2) sc__law_box.nd de_int) (dss_cons (ds_for hpo (by rfl) (di_seq (de_var 1)) (dgi_var (vs := [3]) (by decide) sc__law_box.nd) (dss_one (ds_set (i := 2) sc__law_box.nd (de_call G__law_mix (hr.mono (by decide)) (by rfl) T.g__law_mix T.f__law_mix.kp T.b__law_mix .nil (fun _ _ => repL_nil.mpr rfl) hps (da_cons (de_op dop_add (de_var 2) (de_var 3)) (da_cons de_int da_nil)))))) (dss_one (ds_ret (de_lst (da_cons (de_var 1) (da_cons de_int (da_cons de_int (da_cons (de_var 2) (da_cons de_int da_nil)))))))))))
end
section
variable {P : Program} {w : World} {K : PySem.W.Frag} {mg : Str → Option Value} {base : Heap} {a : Nat → Addr} {fd : Nat → FuncData} {ca ka : Nat → Addr} {tk : Nat → Tok} (T : Txt K mg a fd ca ka tk)
include T in
theorem ok_law (G__law_tells : FnOk P w K mg base (L2.CX P w) 22 (a 8) (fd 8) ["_law_site", "_law_parts_here"] (spD K ca m__law_tells)) (G_Site___eq__ : FnOk P w K mg base (L2.CX P w) 1 (a 9) (fd 9) ["self", "other"] (spD K ca m_Site___eq__)) (G__law_others : FnOk P w K mg base (L2.CX P w) 3 (a 13) (fd 13) ["_law_box_here", "_law_parts_here"] (spD K ca m__law_others)) (G_Site___init__ : FnOk P w K mg base (L2.CX P w) 11 (a 28) (fd 28) ["self", "bits", "pages", "start", "keep"] (spD K ca m_Site___init__)) (G__law_parts : FnOk P w K mg base (L2.CX P w) 22 (a 33) (fd 33) ["_law_box_here"] (spD K ca m__law_parts)) (G__law_box : FnOk P w K mg base (L2.CX P w) 2 (a 34) (fd 34) ["_law_script"] (spD K ca m__law_box)) : FnOk P w K mg base (L2.CX P w) 23 (a 35) (fd 35) ["_law_script"] (spD K ca m_law) := by
  refine fn_okD T.f_law sc_law fun cdv A outer s H E hr => ?_
  have hu := hr.units
  have hpo := passes_of (X := cxOf (L2.CX P w) P w K mg base ["_law_script", "_law_box_here", "_law_parts_here", "_law_site", "_law_plain", "_law_twin", "_law_other", "_law_unlike"] "law" (defScope (topS 52)) (a 35) cdv A outer s H E) rfl
  have hps := passes_call (takes_of (X := cxOf (L2.CX P w) P w K mg base ["_law_script", "_law_box_here", "_law_parts_here", "_law_site", "_law_plain", "_law_twin", "_law_other", "_law_unlike"] "law" (defScope (topS 52)) (a 35) cdv A outer s H E) rfl rfl rfl rfl) (fun _ _ _ _ h => h)
  have htk := takes_of (X := cxOf (L2.CX P w) P w K mg base ["_law_script", "_law_box_here", "_law_parts_here", "_law_site", "_law_plain", "_law_twin", "_law_other", "_law_unlike"] "law" (defScope (topS 52)) (a 35) cdv A outer s H E) rfl rfl rfl rfl
  exact (dss_cons (ds_set (i := 1) sc_law.nd (de_call G__law_box (hr.mono (by decide)) (by rfl) T.g__law_box T.f__law_box.kp T.b__law_box .nil (fun _ _ => repL_nil.mpr rfl) hps (da_cons (de_var 0) da_nil))) (dss_cons (ds_set (i := 2) sc_law.nd (de_call G__law_parts (hr.mono (by decide)) (by rfl) T.g__law_parts T.f__law_parts.kp T.b__law_parts .nil (fun _ _ => repL_nil.mpr rfl) hps (da_cons (de_var 1) da_nil))) (dss_cons (ds_set (i := 3) sc_law.nd (de_makeK T.mk_0 G_Site___init__ (hr.mono (by decide)) (by rfl) T.gc_0 T.kb_0 gSite_rep hps (da_cons (de_ix (de_var 2) de_int) (da_cons (de_ix (de_var 2) de_int) (da_cons (de_ix (de_var 2) de_int) da_nil))) (dk_cons (de_ix (de_var 2) de_int) dk_nil))) (dss_cons (ds_if (dt_not (dt_val (de_call G__law_tells (hr.mono (by decide)) (by rfl) T.g__law_tells T.f__law_tells.kp T.b__law_tells .nil (fun _ _ => repL_nil.mpr rfl) hps (da_cons (de_var 3) (da_cons (de_var 2) da_nil))))) (dss_one (ds_ret de_bl)) dss_nil) (dss_cons (ds_set (i := 4) sc_law.nd (de_makeD (n := 3) T.mk_0 G_Site___init__ (hr.mono (by decide)) (by rfl) T.gc_0 T.b_Site___init___4 (by rfl) hps (da_cons (de_ix (de_var 2) de_int) (da_cons (de_ix (de_var 2) de_int) (da_cons (de_ix (de_var 2) de_int) da_nil))))) (dss_cons (ds_if (dt_not (dt_val (de_call G__law_tells (hr.mono (by decide)) (by rfl) T.g__law_tells T.f__law_tells.kp T.b__law_tells .nil (fun _ _ => repL_nil.mpr rfl) hps (da_cons (de_var 4) (da_cons (de_op dop_add (de_slice (de_var 2) do_none (do_some de_int)) (de_tup (da_cons de_int da_nil))) da_nil))))) (dss_one (ds_ret de_bl)) dss_nil) (dss_cons (ds_set (i := 5) sc_law.nd (de_makeK T.mk_0 G_Site___init__ (hr.mono (by decide)) (by rfl) T.gc_0 T.kb_0 gSite_rep hps (da_cons (de_ix (de_var 2) de_int) (da_cons (de_ix (de_var 2) de_int) (da_cons (de_ix (de_var 2) de_int) da_nil))) (dk_cons (de_ix (de_var 2) de_int) dk_nil))) (dss_cons (ds_if (dw_or (dt_not (dt_cmp (dop_own G_Site___eq__ (hr.mono (by decide)) T.m_Site___eq__.at_ T.m_Site___eq__.fn T.b_Site___eq__ pass_blk) (de_var 3) (de_var 5) (nomark _))) (dw_or (dt_cmp (dop_ownNe G_Site___eq__ (hr.mono (by decide)) T.ne_0 T.b_Site___eq__ pass_blk) (de_var 3) (de_var 5) (nomark _)) (dw_or1 (dt_cmp (dop_ne hu) (de_cmp (dop_own G_Site___eq__ (hr.mono (by decide)) T.m_Site___eq__.at_ T.m_Site___eq__.fn T.b_Site___eq__ pass_blk) (de_var 4) (de_var 3) (nomark _)) (de_cmp (dop_eq hu) (de_ix (de_var 2) de_int) de_int (nomark _)) (nomark _))))).dt (dss_one (ds_ret de_bl)) dss_nil) (dss_cons (ds_for hpo (by rfl) (di_seq (de_call G__law_others (hr.mono (by decide)) (by rfl) T.g__law_others T.f__law_others.kp T.b__law_others .nil (fun _ _ => repL_nil.mpr rfl) hps (da_cons (de_var 1) (da_cons (de_var 2) da_nil)))) (dgi_var (vs := [6]) (by decide) sc_law.nd) (dss_cons (ds_set (i := 7) sc_law.nd (de_makeK T.mk_0 G_Site___init__ (hr.mono (by decide)) (by rfl) T.gc_0 T.kb_0 gSite_rep hps (da_cons (de_ix (de_var 6) de_int) (da_cons (de_ix (de_var 6) de_int) (da_cons (de_ix (de_var 6) de_int) da_nil))) (dk_cons (de_ix (de_var 6) de_int) dk_nil))) (dss_one (ds_if (dw_or (dt_cmp (dop_own G_Site___eq__ (hr.mono (by decide)) T.m_Site___eq__.at_ T.m_Site___eq__.fn T.b_Site___eq__ pass_blk) (de_var 3) (de_var 7) (nomark _)) (dw_or (dt_cmp (dop_own G_Site___eq__ (hr.mono (by decide)) T.m_Site___eq__.at_ T.m_Site___eq__.fn T.b_Site___eq__ pass_blk) (de_var 7) (de_var 3) (nomark _)) (dw_or1 (dt_not (dt_val (de_call G__law_tells (hr.mono (by decide)) (by rfl) T.g__law_tells T.f__law_tells.kp T.b__law_tells .nil (fun _ _ => repL_nil.mpr rfl) hps (da_cons (de_var 7) (da_cons (de_var 6) da_nil)))))))).dt (dss_one (ds_ret de_bl)) dss_nil)))) (dss_one (ds_ret (de_and (de_call G__law_tells (hr.mono (by decide)) (by rfl) T.g__law_tells T.f__law_tells.kp T.b__law_tells .nil (fun _ _ => repL_nil.mpr rfl) hps (da_cons (de_var 3) (da_cons (de_var 2) da_nil))) (de_one (de_cmp (dop_own G_Site___eq__ (hr.mono (by decide)) T.m_Site___eq__.at_ T.m_Site___eq__.fn T.b_Site___eq__ pass_blk) (de_var 3) (de_var 5) (nomark _)))))))))))))))
end
end DL

set_option Elab.async false
set_option linter.all false
set_option maxRecDepth 100000
set_option maxHeartbeats 4000000
namespace DL
open PySem L2 PySem.Spec PyProof.Rows
@[irreducible] def Runs {α : Type} (m : M α) (st : Sto) (Q : α → Sto → Prop) : Prop := match m st with
  | .ok a st' => Q a st'
  | _ => False
section
variable {α β : Type} {st : Sto} {Q : α → Sto → Prop}
theorem Runs.get {m : M α} (h : Runs m st Q) : ∃ a st', m st = .ok a st' ∧ Q a st' := by
  with_unfolding_all
    unfold Runs at h
    cases q : m st with
    | ok a st' => rw [q] at h; exact ⟨a, st', rfl, h⟩
    | raise c fs st' => rw [q] at h; exact h.elim
    | stuck => rw [q] at h; exact h.elim
theorem Runs.of {m : M α} {a : α} {st' : Sto} (e : m st = .ok a st') (q : Q a st') : Runs m st Q := by with_unfolding_all (unfold Runs; rw [e]; exact q)
theorem Runs.imp {m : M α} {Q' : α → Sto → Prop} (h : Runs m st Q) (k : ∀ a st', Q a st' → Q' a st') : Runs m st Q' := by
  with_unfolding_all
    obtain ⟨a, st', e, q⟩ := h.get
    exact .of e (k a st' q)
theorem runs_bind {m : M β} {f : β → M α} : Runs (m >>= f) st Q ↔ Runs m st fun b st' => Runs (f b) st' Q := by
  with_unfolding_all
    unfold Runs
    rw [bind_run]
    cases m st <;> exact Iff.rfl
theorem runs_pure {a : α} : Runs (pure a : M α) st Q ↔ Q a st := by with_unfolding_all exact Iff.rfl
theorem runs_stuck : Runs (stuck : M α) st Q ↔ False := by with_unfolding_all exact Iff.rfl
theorem runs_ite {c : Prop} [Decidable c] {m n : M α} : Runs (if c then m else n) st Q ↔ if c then Runs m st Q else Runs n st Q := by with_unfolding_all (split <;> exact Iff.rfl)
end
section
variable {st : Sto} {ρ : En} {Q : D → Sto → Prop} {f g h : En → M D} {ft gt : En → M Bool} {QB : Bool → Sto → Prop} {QA : List D → Sto → Prop} {QC : Ctl → Sto → Prop}
theorem r_var {i : Nat} {d : D} (e : ρ[i]? = some (some d)) : Runs (eVar i ρ) st Q ↔ Q d st := by with_unfolding_all (unfold Runs eVar; rw [e])
@[simp] theorem r_c {d : D} : Runs (eC d ρ) st Q ↔ Q d st := by with_unfolding_all exact Iff.rfl
@[simp] theorem r_bin {op : D → D → M D} : Runs (eBin op f g ρ) st Q ↔ Runs (f ρ) st fun x st1 => Runs (g ρ) st1 fun y st2 => Runs (op x y) st2 Q := by with_unfolding_all (unfold eBin; rw [runs_bind]; simp only [runs_bind])
@[simp] theorem r_un {op : D → M D} : Runs (eUn op f ρ) st Q ↔ Runs (f ρ) st fun x st1 => Runs (op x) st1 Q := by with_unfolding_all (unfold eUn; rw [runs_bind])
@[simp] theorem r_tup {fa : En → M (List D)} : Runs (eTup fa ρ) st Q ↔ Runs (fa ρ) st fun ds st1 => Runs (newT ds) st1 Q := by with_unfolding_all (unfold eTup; rw [runs_bind])
@[simp] theorem r_lst {fa : En → M (List D)} : Runs (eLst fa ρ) st Q ↔ Runs (fa ρ) st fun ds st1 => Runs (newL ds) st1 Q := by with_unfolding_all (unfold eLst; rw [runs_bind])
@[simp] theorem r_call {m : List D → M D} {fa : En → M (List D)} : Runs (eCall m fa ρ) st Q ↔ Runs (fa ρ) st fun ds st1 => Runs (m ds) st1 Q := by with_unfolding_all (unfold eCall; rw [runs_bind])
@[simp] theorem r_mt {chk : D → M Unit} {op : D → List D → M D} {fa : En → M (List D)} : Runs (eMt chk op f fa ρ) st Q ↔ Runs (f ρ) st fun o st1 => Runs (chk o) st1 fun _ st2 => Runs (fa ρ) st2 fun ds st3 => Runs (op o ds) st3 Q := by
  with_unfolding_all
    unfold eMt; simp only [runs_bind]
@[simp] theorem r_nil : Runs (aNil ρ) st QA ↔ QA [] st := by with_unfolding_all exact Iff.rfl
@[simp] theorem r_cons {fa : En → M (List D)} : Runs (aCons f fa ρ) st QA ↔ Runs (f ρ) st fun x st1 => Runs (fa ρ) st1 fun xs st2 => QA (x :: xs) st2 := by with_unfolding_all (unfold aCons; simp only [runs_bind, runs_pure])
@[simp] theorem r_and : Runs (eAnd f g ρ) st Q ↔ Runs (f ρ) st fun x st1 => match x with | .bl b => if b = true then Runs (g ρ) st1 Q else Q (.bl false) st1 | _ => False := by
  with_unfolding_all
    unfold eAnd; rw [runs_bind]
    constructor <;> intro z <;> refine z.imp fun x st1 q => ?_ <;> (cases x <;> first | exact q | (rename_i b; cases b <;> simpa [runs_pure] using q))
@[simp] theorem r_or : Runs (eOr f g ρ) st Q ↔ Runs (f ρ) st fun x st1 => match x with | .bl b => if b = true then Q (.bl true) st1 else Runs (g ρ) st1 Q | _ => False := by
  with_unfolding_all
    unfold eOr; rw [runs_bind]
    constructor <;> intro z <;> refine z.imp fun x st1 q => ?_ <;> (cases x <;> first | exact q | (rename_i b; cases b <;> simpa [runs_pure] using q))
@[simp] theorem r_not : Runs (eNot f ρ) st Q ↔ Runs (f ρ) st fun x st1 => match x with | .bl b => Q (.bl (!b)) st1 | _ => False := by
  with_unfolding_all
    unfold eNot; rw [runs_bind]
    constructor <;> intro z <;> refine z.imp fun x st1 q => ?_ <;> (cases x <;> exact q)
@[simp] theorem r_if : Runs (eIf ft f g ρ) st Q ↔ Runs (ft ρ) st fun b st1 => if b = true then Runs (f ρ) st1 Q else Runs (g ρ) st1 Q := by
  with_unfolding_all
    unfold eIf; rw [runs_bind]
    constructor <;> intro z <;> refine z.imp fun b st1 q => ?_ <;> (cases b <;> exact q)
@[simp] theorem r_chain {op op' : D → D → M D} : Runs (eChain op op' f g h ρ) st Q ↔ Runs (f ρ) st fun x st1 => Runs (g ρ) st1 fun y st2 => Runs (op x y) st2 fun z st3 => match z with
    | .bl b => if b = true then (Runs (h ρ) st3 fun w st4 => Runs (op' y w) st4 Q) else Q (.bl false) st3
    | _ => False := by
  with_unfolding_all
    unfold eChain; simp only [runs_bind]
    constructor <;> intro z <;> refine z.imp fun x st1 q => q.imp fun y st2 q => q.imp fun w st3 q => ?_ <;> (cases w <;> first | exact q | (rename_i b; cases b <;> first | exact q | (simpa only [toB, runs_pure, Bool.false_eq_true, if_false, if_true, runs_bind] using q)))
@[simp] theorem r_val : Runs (tVal f ρ) st QB ↔ Runs (f ρ) st fun x st1 => match x with | .bl b => QB b st1 | _ => False := by
  with_unfolding_all
    unfold tVal; rw [runs_bind]
    constructor <;> intro z <;> refine z.imp fun x st1 q => ?_ <;> (cases x <;> exact q)
@[simp] theorem r_tnot : Runs (tNotD ft ρ) st QB ↔ Runs (ft ρ) st fun b st1 => QB (!b) st1 := by with_unfolding_all (unfold tNotD; simp only [runs_bind, runs_pure])
@[simp] theorem r_tand : Runs (tAndD ft gt ρ) st QB ↔ Runs (ft ρ) st fun b st1 => if b = true then Runs (gt ρ) st1 QB else QB false st1 := by
  with_unfolding_all
    unfold tAndD; rw [runs_bind]
    constructor <;> intro z <;> refine z.imp fun b st1 q => ?_ <;> (cases b <;> exact q)
@[simp] theorem r_tor : Runs (tOrD ft gt ρ) st QB ↔ Runs (ft ρ) st fun b st1 => if b = true then QB true st1 else Runs (gt ρ) st1 QB := by
  with_unfolding_all
    unfold tOrD; rw [runs_bind]
    constructor <;> intro z <;> refine z.imp fun b st1 q => ?_ <;> (cases b <;> exact q)
@[simp] theorem r_sl {lo hi : En → M (Option Int)} : Runs (eSl f lo hi ρ) st Q ↔ Runs (f ρ) st fun x st1 => Runs (lo ρ) st1 fun l st2 => Runs (hi ρ) st2 fun u st3 => Runs (opSl x l u) st3 Q := by with_unfolding_all (unfold eSl; simp only [runs_bind])
@[simp] theorem r_pnone {QO : Option Int → Sto → Prop} : Runs (pNone ρ) st QO ↔ QO none st := by with_unfolding_all exact Iff.rfl
@[simp] theorem r_psome {QO : Option Int → Sto → Prop} : Runs (pSome f ρ) st QO ↔ Runs (f ρ) st fun x st1 => match x with | .int i => QO (some i) st1 | _ => False := by
  with_unfolding_all
    unfold pSome; rw [runs_bind]
    constructor <;> intro z <;> refine z.imp fun x st1 q => ?_ <;> (cases x <;> exact q)
/-! statements -/
variable {a b : En → M Ctl}
@[simp] theorem r_nx : Runs (sNx ρ) st QC ↔ QC (.nx ρ) st := by with_unfolding_all exact Iff.rfl
@[simp] theorem r_seq : Runs (sSeq a b ρ) st QC ↔ Runs (a ρ) st fun c st1 => match c with | .nx ρ1 => Runs (b ρ1) st1 QC | c => QC c st1 := by
  with_unfolding_all
    unfold sSeq; rw [runs_bind]
    constructor <;> intro z <;> refine z.imp fun c st1 q => ?_ <;> (cases c <;> exact q)
@[simp] theorem r_asg {gd : D → En → M En} : Runs (sAsg f gd ρ) st QC ↔ Runs (f ρ) st fun d st1 => Runs (gd d ρ) st1 fun ρ1 st2 => QC (.nx ρ1) st2 := by with_unfolding_all (unfold sAsg; simp only [runs_bind, runs_pure])
@[simp] theorem r_ex : Runs (sEx f ρ) st QC ↔ Runs (f ρ) st fun _ st1 => QC (.nx ρ) st1 := by with_unfolding_all (unfold sEx; simp only [runs_bind, runs_pure])
@[simp] theorem r_ret : Runs (sRet f ρ) st QC ↔ Runs (f ρ) st fun d st1 => QC (.rt d) st1 := by with_unfolding_all (unfold sRet; simp only [runs_bind, runs_pure])
@[simp] theorem r_retN : Runs (sRetN ρ) st QC ↔ QC (.rt .non) st := by with_unfolding_all exact Iff.rfl
@[simp] theorem r_sif : Runs (sIf ft a b ρ) st QC ↔ Runs (ft ρ) st fun k st1 => if k = true then Runs (a ρ) st1 QC else Runs (b ρ) st1 QC := by
  with_unfolding_all
    unfold sIf; rw [runs_bind]
    constructor <;> intro z <;> refine z.imp fun b st1 q => ?_ <;> (cases b <;> exact q)
theorem r_never : Runs (sNever ρ) st QC ↔ False := by with_unfolding_all exact Iff.rfl
variable {QE : En → Sto → Prop}
@[simp] theorem r_gvar {i : Nat} {d : D} : Runs (gVar i d ρ) st QE ↔ QE (ρ.set i (some d)) st := by with_unfolding_all exact Iff.rfl
@[simp] theorem r_gtup {n : Nat} {gs : List D → En → M En} {ds : List D} : Runs (gTupD n gs (.tup ds) ρ) st QE ↔ ds.length = n ∧ Runs (gs ds ρ) st QE := by
  with_unfolding_all
    unfold gTupD; simp only
    by_cases e : ds.length = n
    · rw [if_pos e]; simp [e]
    · rw [if_neg e]; simp [e, runs_stuck]
@[simp] theorem r_gnil : Runs (gNilD [] ρ) st QE ↔ QE ρ st := by with_unfolding_all exact Iff.rfl
@[simp] theorem r_gcons {gd : D → En → M En} {gs : List D → En → M En} {d : D} {r : List D} : Runs (gConsD gd gs (d :: r) ρ) st QE ↔ Runs (gd d ρ) st fun ρ1 st1 => Runs (gs r ρ1) st1 QE := by
  with_unfolding_all
    show Runs (gd d ρ >>= fun ρ1 => gs r ρ1) st QE ↔ _
    rw [runs_bind]
@[simp] theorem r_gsub {fo fi : En → M D} {d : D} : Runs (gSubD fo fi d ρ) st QE ↔ Runs (fo ρ) st fun o st1 => Runs (fi ρ) st1 fun i st2 => Runs (opSet o i d) st2 fun _ st3 => QE ρ st3 := by with_unfolding_all (unfold gSubD; simp only [runs_bind, runs_pure])
@[simp] theorem r_git {i : Nat} {d : D} : Runs (gIt i (.one d) ρ) st QE ↔ QE (ρ.set i (some d)) st := by with_unfolding_all exact Iff.rfl
@[simp] theorem r_gitp2 {i j : Nat} {d e : D} : Runs (gItP i j (.two d e) ρ) st QE ↔ QE ((ρ.set i (some d)).set j (some e)) st := by with_unfolding_all exact Iff.rfl
@[simp] theorem r_gitp1 {i j : Nat} {d e : D} : Runs (gItP i j (.one (.tup [d, e])) ρ) st QE ↔ QE ((ρ.set i (some d)).set j (some e)) st := by with_unfolding_all exact Iff.rfl
@[simp] theorem r_for {fi : En → M ItD} {gi : Item → En → M En} : Runs (sFor fi gi b ρ) st QC ↔ Runs (fi ρ) st fun it st1 => Runs (forL it.ok gi b it.items ρ) st1 QC := by with_unfolding_all (unfold sFor; rw [runs_bind])
theorem r_fn {n N : Nat} {body : En → M Ctl} {ds : List D} : Runs (fnM n N body ds) st Q ↔ ds.length = n ∧ Runs (body (ds.map some ++ List.replicate (N - n) none)) st fun c st1 => match c with | .rt d => Q d st1 | .nx _ => Q .non st1 | _ => False := by
  with_unfolding_all
    unfold fnM
    by_cases e : ds.length = n
    · rw [if_pos e]
      unfold runB
      rw [runs_bind]
      constructor
      · intro z
        refine ⟨e, z.imp fun c st1 q => ?_⟩
        cases c <;> exact q
      · intro ⟨_, z⟩
        refine z.imp fun c st1 q => ?_
        cases c <;> exact q
    · rw [if_neg e]; simp [e, runs_stuck]
theorem runs_forL {ok : Sto → Bool} {gi : Item → En → M En} {items : List Item} (Inv : Nat → En → Sto → Prop) (h0 : Inv 0 ρ st)
    (hs : ∀ i it ρ st, items[i]? = some it → Inv i ρ st → ok st = true ∧ Runs (gi it ρ) st fun ρ1 st1 => Runs (b ρ1) st1 fun c st2 => match c with
      | .nx ρ2 => Inv (i + 1) ρ2 st2
      | .ct ρ2 => Inv (i + 1) ρ2 st2
      | .bk ρ2 => QC (.nx ρ2) st2
      | .rt d => QC (.rt d) st2)
    (hd : ∀ ρ st, Inv items.length ρ st → ok st = true ∧ QC (.nx ρ) st) : Runs (forL ok gi b items ρ) st QC := by
  with_unfolding_all
    have go : ∀ (r : List Item) (i : Nat) (ρ : En) (st : Sto), items.drop i = r → i ≤ items.length → Inv i ρ st → Runs (forL ok gi b r ρ) st QC := by
      intro r
      induction r with
      | nil =>
        intro i ρ st e hi h
        have : items.length ≤ i := List.drop_eq_nil_iff.mp e
        obtain rfl : i = items.length := Nat.le_antisymm hi this
        obtain ⟨h1, h2⟩ := hd ρ st h
        unfold forL
        rw [runs_bind]
        exact .of (a := ()) (st' := st) (by unfold guardS; rw [h1]; rfl) h2
      | cons it r ih =>
        intro i ρ st e hi h
        have hlt : i < items.length := by
          rcases Nat.lt_or_ge i items.length with z | z
          · exact z
          · rw [List.drop_eq_nil_of_le z] at e; cases e
        rw [List.drop_eq_getElem_cons hlt] at e
        injection e with e1 e2
        obtain ⟨h1, h2⟩ := hs i it ρ st (by rw [← e1]; simp [hlt]) h
        unfold forL
        rw [runs_bind]
        refine .of (a := ()) (st' := st) (by unfold guardS; rw [h1]; rfl) ?_
        rw [runs_bind]
        refine h2.imp fun ρ1 st1 h3 => ?_
        rw [runs_bind]
        refine h3.imp fun c st2 h4 => ?_
        cases c with
        | nx ρ2 => exact ih (i + 1) ρ2 st2 e2 hlt h4
        | ct ρ2 => exact ih (i + 1) ρ2 st2 e2 hlt h4
        | bk ρ2 => exact h4
        | rt d => exact h4
    exact go items 0 ρ st rfl (Nat.zero_le _) h0
def lcK (vs : List Nat) (gi : Item → En → M En) (tt : En → M Bool) (te : En → M D) (ρ : En) (it : ItD) : M D := fun st => (lcL it.ok gi tt te st.length (wipeD ρ vs) it.items >>= fun _ => (pure (.loc st.length) : M D)) (st ++ [.lst []])
theorem runs_lcK {vs : List Nat} {gi : Item → En → M En} {tt : En → M Bool} {te : En → M D} {it : ItD} : Runs (lcK vs gi tt te ρ it) st Q ↔ Runs (lcL it.ok gi tt te st.length (wipeD ρ vs) it.items) (st ++ [.lst []]) fun _ st2 => Q (.loc st.length) st2 := by with_unfolding_all exact runs_bind (m := lcL it.ok gi tt te st.length (wipeD ρ vs) it.items) (f := fun _ => (pure (D.loc st.length) : M D)) (st := st ++ [SO.lst []])
@[simp] theorem r_lc {vs : List Nat} {fi : En → M ItD} {gi : Item → En → M En} {tt : En → M Bool} {te : En → M D} : Runs (eLc vs fi gi tt te ρ) st Q ↔ Runs (fi ρ) st fun it st1 => Runs (lcL it.ok gi tt te st1.length (wipeD ρ vs) it.items) (st1 ++ [.lst []]) fun _ st2 => Q (.loc st1.length) st2 := by
  with_unfolding_all
    have e : eLc vs fi gi tt te ρ = (fi ρ >>= lcK vs gi tt te ρ) := rfl
    rw [e, runs_bind]
    simp only [runs_lcK]
theorem nr_runs {α : Type} {m : M α} {st : Sto} {Q : α → Sto → Prop} (h : Runs m st Q) : Runs (nr m) st Q := by
  with_unfolding_all
    obtain ⟨a, st', e, q⟩ := h.get
    exact .of (by unfold nr; rw [e]) q
/-- a comprehension by an invariant: what the new list holds at each turn -/
theorem runs_lcL {ok : Sto → Bool} {gi : Item → En → M En} {tt : En → M Bool} {te : En → M D} {L : Nat} {ρw : En} {items : List Item} {QU : Unit → Sto → Prop} (Inv : Nat → Sto → Prop) (h0 : Inv 0 st)
    (hs : ∀ i it st, items[i]? = some it → Inv i st → ok st = true ∧ Runs (gi it ρw) st fun ρ1 st1 => Runs (tt ρ1) st1 fun k st2 => if k = true then
      Runs (te ρ1) st2 fun y st3 => ∃ acc, lstAt st3 L = some acc ∧ acc.length < sizeLine ∧ Inv (i + 1) (st3.set L (.lst (acc ++ [y]))) else Inv (i + 1) st2)
    (hd : ∀ st, Inv items.length st → ok st = true ∧ QU () st) : Runs (lcL ok gi tt te L ρw items) st QU := by
  with_unfolding_all
    have go : ∀ (r : List Item) (i : Nat) (st : Sto), items.drop i = r → i ≤ items.length → Inv i st → Runs (lcL ok gi tt te L ρw r) st QU := by
      intro r
      induction r with
      | nil =>
        intro i st e hi h
        have : items.length ≤ i := List.drop_eq_nil_iff.mp e
        obtain rfl : i = items.length := Nat.le_antisymm hi this
        obtain ⟨h1, h2⟩ := hd st h
        unfold lcL
        exact .of (a := ()) (st' := st) (by unfold guardS; rw [h1]; rfl) h2
      | cons it r ih =>
        intro i st e hi h
        have hlt : i < items.length := by
          rcases Nat.lt_or_ge i items.length with z | z
          · exact z
          · rw [List.drop_eq_nil_of_le z] at e; cases e
        rw [List.drop_eq_getElem_cons hlt] at e
        injection e with e1 e2
        obtain ⟨h1, h2⟩ := hs i it st (by rw [← e1]; simp [hlt]) h
        unfold lcL
        rw [runs_bind]
        refine .of (a := ()) (st' := st) (by unfold guardS; rw [h1]; rfl) ?_
        rw [runs_bind]
        refine (nr_runs h2).imp fun ρ1 st1 h3 => ?_
        rw [runs_bind]
        refine (nr_runs h3).imp fun k st2 h4 => ?_
        cases k with
        | true =>
          have h4' := (if_pos rfl).mp h4
          show Runs (nr (te ρ1) >>= fun y => putL L y >>= fun _ => lcL ok gi tt te L ρw r) st2 QU
          rw [runs_bind]
          refine (nr_runs h4').imp fun y st3 h5 => ?_
          obtain ⟨acc, g1, g2, g3⟩ := h5
          rw [runs_bind]
          refine .of (a := ()) (st' := st3.set L (.lst (acc ++ [y]))) (by unfold putL; rw [g1]; simp only [if_pos g2]) ?_
          exact ih (i + 1) _ e2 hlt g3
        | false => exact ih (i + 1) st2 e2 hlt ((if_neg Bool.false_ne_true).mp h4)
    exact go items 0 st rfl (Nat.zero_le _) h0
end
end DL

set_option Elab.async false
set_option linter.all false
set_option maxRecDepth 100000
set_option maxHeartbeats 4000000
namespace DL
open PySem L2 PySem.Spec PyProof.Rows
/-! ### runs that may raise -/
abbrev QXT := Nat → Option (List (Str × D)) → Sto → Prop
@[irreducible] def RunsX {α : Type} (m : M α) (st : Sto) (Q : α → Sto → Prop) (QX : QXT) : Prop := match m st with
  | .ok a st' => Q a st'
  | .raise c fs st' => QX c fs st'
  | .stuck => False
def NoX {α : Type} (m : M α) : Prop := ∀ st c fs st', m st ≠ .raise c fs st'
section
variable {α β : Type} {st : Sto} {Q : α → Sto → Prop} {QX : QXT}
theorem Runs.x {m : M α} (h : Runs m st Q) : RunsX m st Q QX := by
  obtain ⟨a, st', e, q⟩ := h.get
  with_unfolding_all (unfold RunsX; rw [e]; exact q)
theorem RunsX.imp {m : M α} {Q' : α → Sto → Prop} {QX' : QXT} (h : RunsX m st Q QX) (k : ∀ a st', Q a st' → Q' a st') (kx : ∀ c fs st', QX c fs st' → QX' c fs st') : RunsX m st Q' QX' := by
  with_unfolding_all
    unfold RunsX at h ⊢
    cases q : m st with
    | ok a st' => rw [q] at h; exact k a st' h
    | raise c fs st' => rw [q] at h; exact kx c fs st' h
    | stuck => rw [q] at h; exact h.elim
theorem RunsX.impX {m : M α} {QX' : QXT} (h : RunsX m st (fun _ _ => False) QX) (kx : ∀ c fs st', QX c fs st' → QX' c fs st') : RunsX m st Q QX' := h.imp (fun _ _ z => z.elim) kx
theorem RunsX.runs {m : M α} (h : RunsX m st Q fun _ _ _ => False) : Runs m st Q := by
  with_unfolding_all
    unfold RunsX at h; unfold Runs
    cases q : m st with
    | ok a st' => rw [q] at h; exact h
    | raise c fs st' => rw [q] at h; exact h.elim
    | stuck => rw [q] at h; exact h.elim
theorem runsX_bind {m : M β} {f : β → M α} : RunsX (m >>= f) st Q QX ↔ RunsX m st (fun b st' => RunsX (f b) st' Q QX) QX := by
  with_unfolding_all
    unfold RunsX
    rw [bind_run]
    cases m st <;> exact Iff.rfl
@[simp] theorem runsX_pure {a : α} : RunsX (pure a : M α) st Q QX ↔ Q a st := by with_unfolding_all exact Iff.rfl
theorem runsX_stuck : RunsX (stuck : M α) st Q QX ↔ False := by with_unfolding_all exact Iff.rfl
theorem runsX_nox {m : M α} (h : NoX m) : RunsX m st Q QX ↔ Runs m st Q := by
  with_unfolding_all
    unfold RunsX Runs
    cases q : m st with
    | ok a st' => exact Iff.rfl
    | raise c fs st' => exact absurd q (h st c fs st')
    | stuck => exact Iff.rfl
@[simp] theorem rx_nr {m : M α} : RunsX (nr m) st Q QX ↔ Runs m st Q := by
  with_unfolding_all
    unfold RunsX Runs nr
    cases q : m st <;> exact Iff.rfl
@[simp] theorem r_nr {m : M α} : Runs (nr m) st Q ↔ Runs m st Q := by
  with_unfolding_all
    unfold Runs nr
    cases q : m st <;> exact Iff.rfl
end
section
variable {st : Sto} {ρ : En} {Q : D → Sto → Prop} {QX : QXT} {f g h : En → M D} {ft gt : En → M Bool} {QB : Bool → Sto → Prop} {QA : List D → Sto → Prop} {QC : Ctl → Sto → Prop} {QE : En → Sto → Prop} {fa fk : En → M (List D)} {a b : En → M Ctl}
@[simp] theorem rx_var {i : Nat} : RunsX (eVar i ρ) st Q QX ↔ Runs (eVar i ρ) st Q := runsX_nox fun st c fs st' z => by unfold eVar at z; split at z <;> cases z
@[simp] theorem rx_c {d : D} : RunsX (eC d ρ) st Q QX ↔ Q d st := by with_unfolding_all exact Iff.rfl
@[simp] theorem rx_bin {op : D → D → M D} : RunsX (eBin op f g ρ) st Q QX ↔ RunsX (f ρ) st (fun x st1 => RunsX (g ρ) st1 (fun y st2 => RunsX (op x y) st2 Q QX) QX) QX := by with_unfolding_all (unfold eBin; simp only [runsX_bind])
@[simp] theorem rx_un {op : D → M D} : RunsX (eUn op f ρ) st Q QX ↔ RunsX (f ρ) st (fun x st1 => RunsX (op x) st1 Q QX) QX := by with_unfolding_all (unfold eUn; simp only [runsX_bind])
@[simp] theorem rx_tup : RunsX (eTup fa ρ) st Q QX ↔ RunsX (fa ρ) st (fun ds st1 => Runs (newT ds) st1 Q) QX := by
  have e : ∀ ds, NoX (newT ds) := fun ds st c fs st' z => by unfold newT at z; split at z <;> cases z
  with_unfolding_all (unfold eTup; simp only [runsX_bind, runsX_nox (e _)])
@[simp] theorem rx_lst : RunsX (eLst fa ρ) st Q QX ↔ RunsX (fa ρ) st (fun ds st1 => Runs (newL ds) st1 Q) QX := by
  have e : ∀ ds, NoX (newL ds) := fun ds st c fs st' z => by unfold newL at z; split at z <;> cases z
  with_unfolding_all (unfold eLst; simp only [runsX_bind, runsX_nox (e _)])
@[simp] theorem rx_call {m : List D → M D} : RunsX (eCall m fa ρ) st Q QX ↔ RunsX (fa ρ) st (fun ds st1 => RunsX (m ds) st1 Q QX) QX := by with_unfolding_all (unfold eCall; simp only [runsX_bind])
@[simp] theorem rx_callR {m : List D → M D} : RunsX (eCallR m fa ρ) st Q QX ↔ Runs (fa ρ) st fun ds st1 => RunsX (m ds) st1 Q QX := by with_unfolding_all (unfold eCallR; simp only [runsX_bind, rx_nr])
@[simp] theorem rx_nrE : RunsX (nrE f ρ) st Q QX ↔ Runs (f ρ) st Q := by with_unfolding_all exact rx_nr
theorem nox_chkO {c : Nat} {n : Str} {o : D} : NoX (chkO c n o) := fun st c' fs st' z => by
  unfold chkO at z
  split at z
  · split at z
    · split at z <;> cases z
    · cases z
  · cases z
@[simp] theorem rx_meth {c : Nat} {n : Str} {m : List D → M D} {dds : List D} : RunsX (eMeth c n m dds f fa ρ) st Q QX ↔ RunsX (f ρ) st (fun o st1 => Runs (chkO c n o) st1 fun _ st2 => RunsX (fa ρ) st2 (fun ds st3 => RunsX (m (o :: (ds ++ dds))) st3 Q QX) QX) QX := by
  with_unfolding_all (unfold eMeth; simp only [runsX_bind, runsX_nox nox_chkO])
@[simp] theorem rx_methR {c : Nat} {n : Str} {m : List D → M D} : RunsX (eMethR c n m f fa ρ) st Q QX ↔ Runs (f ρ) st fun o st1 => Runs (chkO c n o) st1 fun _ st2 => Runs (fa ρ) st2 fun ds st3 => RunsX (m (o :: ds)) st3 Q QX := by
  with_unfolding_all (unfold eMethR; simp only [runsX_bind, rx_nr, runsX_nox nox_chkO])
@[simp] theorem rx_nil : RunsX (aNil ρ) st QA QX ↔ QA [] st := by with_unfolding_all exact Iff.rfl
@[simp] theorem rx_cons : RunsX (aCons f fa ρ) st QA QX ↔ RunsX (f ρ) st (fun x st1 => RunsX (fa ρ) st1 (fun xs st2 => QA (x :: xs) st2) QX) QX := by with_unfolding_all (unfold aCons; simp only [runsX_bind, runsX_pure])
theorem nox_toB {d : D} : NoX (toB d) := fun st c fs st' z => by unfold toB at z; split at z <;> cases z
@[simp] theorem rx_val : RunsX (tVal f ρ) st QB QX ↔ RunsX (f ρ) st (fun x st1 => match x with | .bl b => QB b st1 | _ => False) QX := by
  with_unfolding_all
    unfold tVal; rw [runsX_bind]
    constructor <;> intro z <;> refine z.imp (fun x st1 q => ?_) (fun _ _ _ q => q) <;> (cases x <;> exact q)
@[simp] theorem rx_tnot : RunsX (tNotD ft ρ) st QB QX ↔ RunsX (ft ρ) st (fun b st1 => QB (!b) st1) QX := by with_unfolding_all (unfold tNotD; simp only [runsX_bind, runsX_pure])
@[simp] theorem rx_tand : RunsX (tAndD ft gt ρ) st QB QX ↔ RunsX (ft ρ) st (fun b st1 => if b = true then RunsX (gt ρ) st1 QB QX else QB false st1) QX := by
  with_unfolding_all
    unfold tAndD; rw [runsX_bind]
    constructor <;> intro z <;> refine z.imp (fun b st1 q => ?_) (fun _ _ _ q => q) <;> (cases b <;> exact q)
@[simp] theorem rx_tor : RunsX (tOrD ft gt ρ) st QB QX ↔ RunsX (ft ρ) st (fun b st1 => if b = true then QB true st1 else RunsX (gt ρ) st1 QB QX) QX := by
  with_unfolding_all
    unfold tOrD; rw [runsX_bind]
    constructor <;> intro z <;> refine z.imp (fun b st1 q => ?_) (fun _ _ _ q => q) <;> (cases b <;> exact q)
@[simp] theorem rx_nx : RunsX (sNx ρ) st QC QX ↔ QC (.nx ρ) st := by with_unfolding_all exact Iff.rfl
@[simp] theorem rx_ct : RunsX (sCt ρ) st QC QX ↔ QC (.ct ρ) st := by with_unfolding_all exact Iff.rfl
@[simp] theorem rx_seq : RunsX (sSeq a b ρ) st QC QX ↔ RunsX (a ρ) st (fun c st1 => match c with | .nx ρ1 => RunsX (b ρ1) st1 QC QX | c => QC c st1) QX := by
  with_unfolding_all
    unfold sSeq; rw [runsX_bind]
    constructor <;> intro z <;> refine z.imp (fun c st1 q => ?_) (fun _ _ _ q => q) <;> (cases c <;> exact q)
@[simp] theorem rx_asg {gd : D → En → M En} : RunsX (sAsg f gd ρ) st QC QX ↔ RunsX (f ρ) st (fun d st1 => RunsX (gd d ρ) st1 (fun ρ1 st2 => QC (.nx ρ1) st2) QX) QX := by with_unfolding_all (unfold sAsg; simp only [runsX_bind, runsX_pure])
@[simp] theorem rx_setR {i : Nat} : RunsX (sSetR f i ρ) st QC QX ↔ RunsX (f ρ) st (fun d st1 => QC (.nx (ρ.set i (some d))) st1) QX := by with_unfolding_all (unfold sSetR; simp only [runsX_bind, runsX_pure])
@[simp] theorem rx_ex : RunsX (sEx f ρ) st QC QX ↔ RunsX (f ρ) st (fun _ st1 => QC (.nx ρ) st1) QX := by with_unfolding_all (unfold sEx; simp only [runsX_bind, runsX_pure])
@[simp] theorem rx_ret : RunsX (sRet f ρ) st QC QX ↔ RunsX (f ρ) st (fun d st1 => QC (.rt d) st1) QX := by with_unfolding_all (unfold sRet; simp only [runsX_bind, runsX_pure])
@[simp] theorem rx_retN : RunsX (sRetN ρ) st QC QX ↔ QC (.rt .non) st := by with_unfolding_all exact Iff.rfl
@[simp] theorem rx_sif : RunsX (sIf ft a b ρ) st QC QX ↔ RunsX (ft ρ) st (fun k st1 => if k = true then RunsX (a ρ) st1 QC QX else RunsX (b ρ) st1 QC QX) QX := by
  with_unfolding_all
    unfold sIf; rw [runsX_bind]
    constructor <;> intro z <;> refine z.imp (fun b st1 q => ?_) (fun _ _ _ q => q) <;> (cases b <;> exact q)
@[simp] theorem rx_sifR : RunsX (sIfR ft a b ρ) st QC QX ↔ Runs (ft ρ) st fun k st1 => if k = true then RunsX (a ρ) st1 QC QX else RunsX (b ρ) st1 QC QX := by
  with_unfolding_all
    unfold sIfR; rw [runsX_bind, rx_nr]
    constructor <;> intro z <;> refine z.imp fun b st1 q => ?_ <;> (cases b <;> exact q)
@[simp] theorem rx_raise {c : Nat} {ns : List Str} : RunsX (sRaise c ns fa ρ) st QC QX ↔ RunsX (fa ρ) st (fun ds st1 => ds.length = ns.length ∧ QX c (some (ns.zip ds).reverse) st1) QX := by
  with_unfolding_all
    unfold sRaise; rw [runsX_bind]
    constructor <;> intro z <;> refine z.imp (fun ds st1 q => ?_) (fun _ _ _ q => q)
    · unfold RunsX raiseN at q
      by_cases e : ds.length = ns.length
      · rw [if_pos e] at q; exact ⟨e, q⟩
      · rw [if_neg e] at q; exact q.elim
    · unfold RunsX raiseN
      rw [if_pos q.1]; exact q.2
@[simp] theorem rx_gvar {i : Nat} {d : D} : RunsX (gVar i d ρ) st QE QX ↔ QE (ρ.set i (some d)) st := by with_unfolding_all exact Iff.rfl
@[simp] theorem rx_gtup {n : Nat} {gs : List D → En → M En} {ds : List D} : RunsX (gTupD n gs (.tup ds) ρ) st QE QX ↔ ds.length = n ∧ RunsX (gs ds ρ) st QE QX := by
  with_unfolding_all
    unfold gTupD; simp only
    by_cases e : ds.length = n
    · rw [if_pos e]; simp [e]
    · rw [if_neg e]; simp [e, runsX_stuck]
@[simp] theorem rx_gnil : RunsX (gNilD [] ρ) st QE QX ↔ QE ρ st := by with_unfolding_all exact Iff.rfl
@[simp] theorem rx_gcons {gd : D → En → M En} {gs : List D → En → M En} {d : D} {r : List D} : RunsX (gConsD gd gs (d :: r) ρ) st QE QX ↔ RunsX (gd d ρ) st (fun ρ1 st1 => RunsX (gs r ρ1) st1 QE QX) QX := by
  with_unfolding_all
    show RunsX (gd d ρ >>= fun ρ1 => gs r ρ1) st QE QX ↔ _
    rw [runsX_bind]
@[simp] theorem rx_git {i : Nat} {d : D} : RunsX (gIt i (.one d) ρ) st QE QX ↔ QE (ρ.set i (some d)) st := by with_unfolding_all exact Iff.rfl
@[simp] theorem rx_gitp1 {i j : Nat} {d e : D} : RunsX (gItP i j (.one (.tup [d, e])) ρ) st QE QX ↔ QE ((ρ.set i (some d)).set j (some e)) st := by with_unfolding_all exact Iff.rfl
@[simp] theorem rx_gitp2 {i j : Nat} {d e : D} : RunsX (gItP i j (.two d e) ρ) st QE QX ↔ QE ((ρ.set i (some d)).set j (some e)) st := by with_unfolding_all exact Iff.rfl
@[simp] theorem rx_for {fi : En → M ItD} {gi : Item → En → M En} : RunsX (sFor fi gi b ρ) st QC QX ↔ RunsX (fi ρ) st (fun it st1 => RunsX (forL it.ok gi b it.items ρ) st1 QC QX) QX := by with_unfolding_all (unfold sFor; rw [runsX_bind])
theorem rx_fn {n N : Nat} {body : En → M Ctl} {ds : List D} : RunsX (fnM n N body ds) st Q QX ↔ ds.length = n ∧ RunsX (body (ds.map some ++ List.replicate (N - n) none)) st (fun c st1 => match c with | .rt d => Q d st1 | .nx _ => Q .non st1 | _ => False) QX := by
  with_unfolding_all
    unfold fnM
    by_cases e : ds.length = n
    · rw [if_pos e]
      unfold runB
      rw [runsX_bind]
      constructor
      · intro z
        refine ⟨e, z.imp (fun c st1 q => ?_) fun _ _ _ q => q⟩
        cases c <;> exact q
      · intro ⟨_, z⟩
        refine z.imp (fun c st1 q => ?_) fun _ _ _ q => q
        cases c <;> exact q
    · rw [if_neg e]; simp [e, runsX_stuck]
theorem runsX_forL {ok : Sto → Bool} {gi : Item → En → M En} {items : List Item} (Inv : Nat → En → Sto → Prop) (h0 : Inv 0 ρ st)
    (hs : ∀ i it ρ st, items[i]? = some it → Inv i ρ st → ok st = true ∧ RunsX (gi it ρ) st (fun ρ1 st1 => RunsX (b ρ1) st1 (fun c st2 => match c with
      | .nx ρ2 => Inv (i + 1) ρ2 st2
      | .ct ρ2 => Inv (i + 1) ρ2 st2
      | .bk ρ2 => QC (.nx ρ2) st2
      | .rt d => QC (.rt d) st2) QX) QX)
    (hd : ∀ ρ st, Inv items.length ρ st → ok st = true ∧ QC (.nx ρ) st) : RunsX (forL ok gi b items ρ) st QC QX := by
  have go : ∀ (r : List Item) (i : Nat) (ρ : En) (st : Sto), items.drop i = r → i ≤ items.length → Inv i ρ st → RunsX (forL ok gi b r ρ) st QC QX := by
    intro r
    induction r with
    | nil =>
      intro i ρ st e hi h
      have : items.length ≤ i := List.drop_eq_nil_iff.mp e
      obtain rfl : i = items.length := Nat.le_antisymm hi this
      obtain ⟨h1, h2⟩ := hd ρ st h
      have : Runs (forL ok gi b [] ρ) st QC := by
        with_unfolding_all
          unfold forL
          rw [runs_bind]
          exact .of (a := ()) (st' := st) (by unfold guardS; rw [h1]; rfl) h2
      exact this.x
    | cons it r ih =>
      intro i ρ st e hi h
      have hlt : i < items.length := by
        rcases Nat.lt_or_ge i items.length with z | z
        · exact z
        · rw [List.drop_eq_nil_of_le z] at e; cases e
      rw [List.drop_eq_getElem_cons hlt] at e
      injection e with e1 e2
      obtain ⟨h1, h2⟩ := hs i it ρ st (by rw [← e1]; simp [hlt]) h
      with_unfolding_all
        unfold forL
        rw [runsX_bind]
        refine Runs.x (.of (a := ()) (st' := st) (by unfold guardS; rw [h1]; rfl) ?_)
        rw [runsX_bind]
        refine h2.imp (fun ρ1 st1 h3 => ?_) fun _ _ _ q => q
        rw [runsX_bind]
        refine h3.imp (fun c st2 h4 => ?_) fun _ _ _ q => q
        cases c with
        | nx ρ2 => exact ih (i + 1) ρ2 st2 e2 hlt h4
        | ct ρ2 => exact ih (i + 1) ρ2 st2 e2 hlt h4
        | bk ρ2 => exact h4
        | rt d => exact h4
  exact go items 0 ρ st rfl (Nat.zero_le _) h0
/-! try -/
theorem r_try {ex : Nat → Nat → Option Bool} {hs : List HdE} : Runs (sTry ex hs b ρ) st QC ↔ RunsX (b ρ) st QC fun c fs st' => Runs (tryH ex hs c fs ρ) st' QC := by
  with_unfolding_all
    unfold Runs RunsX sTry
    cases q : b ρ st <;> exact Iff.rfl
theorem r_tryH {ex : Nat → Nat → Option Bool} {h : HdE} {r : List HdE} {c : Nat} {fs : Option (List (Str × D))} : Runs (tryH ex (h :: r) c fs ρ) st QC ↔ match ex c h.k with
    | some true => (match runH h c fs ρ with
      | some (.rt v) => QC (.rt v) st
      | some (.nx ρ') => QC (.nx ρ') st
      | _ => False)
    | some false => Runs (tryH ex r c fs ρ) st QC
    | none => False := by
  with_unfolding_all
    unfold Runs
    cases q : ex c h.k with
    | none =>
      have e : tryH ex (h :: r) c fs ρ st = .stuck := by unfold tryH; simp [q]
      rw [e]
    | some b =>
      cases b with
      | false =>
        have e : tryH ex (h :: r) c fs ρ st = tryH ex r c fs ρ st := by conv => lhs; unfold tryH; simp [q]
        rw [e]
      | true =>
        cases k : runH h c fs ρ with
        | none =>
          have e : tryH ex (h :: r) c fs ρ st = .stuck := by unfold tryH; simp [q, k]
          rw [e]
        | some ctl =>
          cases ctl with
          | rt v =>
            have e : tryH ex (h :: r) c fs ρ st = .ok (.rt v) st := by unfold tryH; simp [q, k]
            rw [e]
          | nx v =>
            have e : tryH ex (h :: r) c fs ρ st = .ok (.nx v) st := by unfold tryH; simp [q, k]
            rw [e]
          | bk v =>
            have e : tryH ex (h :: r) c fs ρ st = .stuck := by unfold tryH; simp [q, k]
            rw [e]
          | ct v =>
            have e : tryH ex (h :: r) c fs ρ st = .stuck := by unfold tryH; simp [q, k]
            rw [e]
end
end DL

set_option Elab.async false
set_option linter.all false
set_option maxRecDepth 100000
set_option maxHeartbeats 4000000
namespace DL
open PySem L2 PySem.Spec PyProof.Rows
def lc2K (vs vs1 : List Nat) (g : Item → En → M En) (tt : En → M Bool) (f1 : En → M ItD) (g1 : Item → En → M En) (tt1 : En → M Bool) (te : En → M D) (ρ : En) (it : ItD) : M D := fun st => (lcL2 it.ok g tt vs1 f1 g1 tt1 te st.length (wipeD ρ vs) it.items >>= fun _ => pure (.loc st.length)) (st ++ [.lst []])
theorem runs_lc2K {st : Sto} {ρ : En} {Q : D → Sto → Prop} {vs vs1 : List Nat} {f1 : En → M ItD} {g g1 : Item → En → M En} {tt tt1 : En → M Bool} {te : En → M D} {it : ItD} : Runs (lc2K vs vs1 g tt f1 g1 tt1 te ρ it) st Q ↔ Runs (lcL2 it.ok g tt vs1 f1 g1 tt1 te st.length (wipeD ρ vs) it.items) (st ++ [.lst []]) fun _ st2 => Q (.loc st.length) st2 := by with_unfolding_all exact runs_bind (m := lcL2 it.ok g tt vs1 f1 g1 tt1 te st.length (wipeD ρ vs) it.items) (f := fun _ => (pure (D.loc st.length) : M D)) (st := st ++ [SO.lst []])
@[simp] theorem r_lc2 {st : Sto} {ρ : En} {Q : D → Sto → Prop} {vs vs1 : List Nat} {f f1 : En → M ItD} {g g1 : Item → En → M En} {tt tt1 : En → M Bool} {te : En → M D} : Runs (eLc2 vs vs1 f g tt f1 g1 tt1 te ρ) st Q ↔ Runs (f ρ) st fun it st1 => Runs (lcL2 it.ok g tt vs1 f1 g1 tt1 te st1.length (wipeD ρ vs) it.items) (st1 ++ [.lst []]) fun _ st2 => Q (.loc st1.length) st2 := by
  with_unfolding_all
    have e : eLc2 vs vs1 f g tt f1 g1 tt1 te ρ = (f ρ >>= lc2K vs vs1 g tt f1 g1 tt1 te ρ) := rfl
    rw [e, runs_bind]
    simp only [runs_lc2K]
theorem lcL2_nil {st : Sto} {ok : Sto → Bool} {vs1 : List Nat} {f1 : En → M ItD} {g g1 : Item → En → M En} {tt tt1 : En → M Bool} {te : En → M D} {L : Nat} {ρw : En} {QU : Unit → Sto → Prop} (h : ok st = true) (q : QU () st) : Runs (lcL2 ok g tt vs1 f1 g1 tt1 te L ρw []) st QU := by
  with_unfolding_all
    unfold lcL2
    exact .of (a := ()) (st' := st) (by unfold guardS; rw [h]; rfl) q
theorem lcL2_cons {st : Sto} {ok : Sto → Bool} {vs1 : List Nat} {f1 : En → M ItD} {g g1 : Item → En → M En} {tt1 : En → M Bool} {te : En → M D} {L : Nat} {ρw : En} {QU : Unit → Sto → Prop} {it : Item} {r : List Item} (h : ok st = true)
    (q : Runs (g it ρw) st fun ρ1 st1 => Runs (f1 ρ1) st1 fun it1 st2 => Runs (lcL it1.ok g1 tt1 te L (wipeD ρ1 vs1) it1.items) st2 fun _ st3 => Runs (lcL2 ok g tYesD vs1 f1 g1 tt1 te L ρw r) st3 QU) : Runs (lcL2 ok g tYesD vs1 f1 g1 tt1 te L ρw (it :: r)) st QU := by
  with_unfolding_all
    unfold lcL2
    rw [runs_bind]
    refine .of (a := ()) (st' := st) (by unfold guardS; rw [h]; rfl) ?_
    rw [runs_bind]
    refine (nr_runs q).imp fun ρ1 st1 h3 => ?_
    rw [runs_bind]
    refine .of (a := true) (st' := st1) rfl ?_
    simp only [if_true]
    rw [runs_bind]
    refine (nr_runs h3).imp fun it1 st2 h4 => ?_
    rw [runs_bind]
    exact h4
end DL

namespace DL
open PySem L2 PySem.Spec PyProof.Rows
section
section
variable {st : Sto} {ρ : En} {Q : D → Sto → Prop} {QU : Unit → Sto → Prop}
@[simp] theorem x_var {i : Nat} : Runs (eVar i ρ) st Q ↔ match ρ[i]? with | some (some d) => Q d st | _ => False := by
  with_unfolding_all
    unfold Runs eVar
    rcases ρ[i]? with _ | _ | d <;> exact Iff.rfl
@[simp] theorem x_add {i j : Int} : Runs (opAdd (.int i) (.int j)) st Q ↔ Q (.int (i + j)) st := by with_unfolding_all exact Iff.rfl
@[simp] theorem x_adds {a b : Str} : Runs (opAdd (.str a) (.str b)) st Q ↔ a.length + b.length ≤ sizeLine ∧ Q (.str (a ++ b)) st := by
  with_unfolding_all
    show Runs (fun st => if a.length + b.length ≤ sizeLine then .ok (.str (a ++ b)) st else .stuck) st Q ↔ _
    unfold Runs; by_cases h : a.length + b.length ≤ sizeLine <;> simp [h]
@[simp] theorem x_addt {a b : List D} : Runs (opAdd (.tup a) (.tup b)) st Q ↔ a.length + b.length ≤ sizeLine ∧ Q (.tup (a ++ b)) st := by
  with_unfolding_all
    show Runs (fun st => if a.length + b.length ≤ sizeLine then .ok (.tup (a ++ b)) st else .stuck) st Q ↔ _
    unfold Runs; by_cases h : a.length + b.length ≤ sizeLine <;> simp [h]
@[simp] theorem x_addl {i j : Nat} : Runs (opAdd (.loc i) (.loc j)) st Q ↔ ∃ a, lstAt st i = some a ∧ ∃ b, lstAt st j = some b ∧ a.length + b.length ≤ sizeLine ∧ Q (.loc st.length) (st ++ [.lst (a ++ b)]) := by
  with_unfolding_all
    unfold Runs; simp only [opAdd]
    rcases lstAt st i with _ | a <;> rcases lstAt st j with _ | b <;> simp
    by_cases h : a.length + b.length ≤ sizeLine <;> simp [h]
@[simp] theorem x_sub {i j : Int} : Runs (opSub (.int i) (.int j)) st Q ↔ Q (.int (i - j)) st := by with_unfolding_all exact Iff.rfl
@[simp] theorem x_neg {i : Int} : Runs (opNeg (.int i)) st Q ↔ Q (.int (-i)) st := by with_unfolding_all exact Iff.rfl
@[simp] theorem x_mul {i j : Int} : Runs (opMul (.int i) (.int j)) st Q ↔ (i.natAbs < 2 ^ 63 ∨ j.natAbs < 2 ^ 63) ∧ Q (.int (i * j)) st := by
  with_unfolding_all
    show Runs (fun st => if i.natAbs < 2 ^ 63 ∨ j.natAbs < 2 ^ 63 then .ok (.int (i * j)) st else .stuck) st Q ↔ _
    unfold Runs; by_cases h : i.natAbs < 2 ^ 63 ∨ j.natAbs < 2 ^ 63
    · simp only [if_pos h]; exact ⟨fun z => ⟨h, z⟩, fun z => z.2⟩
    · simp only [if_neg h]; exact ⟨False.elim, fun z => h z.1⟩
@[simp] theorem x_div {i j : Int} : Runs (opDiv (.int i) (.int j)) st Q ↔ (0 < j ∧ j < 1073741824) ∧ Q (.int (i / j)) st := by
  with_unfolding_all
    show Runs (fun st => if 0 < j ∧ j < 1073741824 then .ok (.int (i / j)) st else .stuck) st Q ↔ _
    unfold Runs; by_cases h : 0 < j ∧ j < 1073741824 <;> simp [h]
@[simp] theorem x_mod {i j : Int} : Runs (opMod (.int i) (.int j)) st Q ↔ 0 < j ∧ Q (.int (i % j)) st := by
  with_unfolding_all
    show Runs (fun st => if 0 < j then .ok (.int (i % j)) st else .stuck) st Q ↔ _
    unfold Runs; by_cases h : 0 < j <;> simp [h]
@[simp] theorem x_pow {i j : Int} : Runs (opPow (.int i) (.int j)) st Q ↔ (0 ≤ j ∧ j ≤ 1000 ∧ i.natAbs < 2 ^ 64) ∧ Q (.int (i ^ j.toNat)) st := by
  with_unfolding_all
    show Runs (fun st => if 0 ≤ j ∧ j ≤ 1000 ∧ i.natAbs < 2 ^ 64 then .ok (.int (i ^ j.toNat)) st else .stuck) st Q ↔ _
    unfold Runs; by_cases h : 0 ≤ j ∧ j ≤ 1000 ∧ i.natAbs < 2 ^ 64
    · simp only [if_pos h]; exact ⟨fun z => ⟨h, z⟩, fun z => z.2⟩
    · simp only [if_neg h]; exact ⟨False.elim, fun z => h z.1⟩
@[simp] theorem x_i {p : Int → Int → Bool} {i j : Int} : Runs (opI p (.int i) (.int j)) st Q ↔ Q (.bl (p i j)) st := by with_unfolding_all exact Iff.rfl
@[simp] theorem x_isn {x : D} : Runs (opIsN x .non) st Q ↔ Q (.bl x.isNon) st := by with_unfolding_all exact Iff.rfl
@[simp] theorem x_notn {x : D} : Runs (opNotN x .non) st Q ↔ Q (.bl (!x.isNon)) st := by with_unfolding_all exact Iff.rfl
@[simp] theorem x_isb {a b : Bool} : Runs (opIsB (.bl a) (.bl b)) st Q ↔ Q (.bl (decide (a = b))) st := by with_unfolding_all exact Iff.rfl
@[simp] theorem x_newT {ds : List D} : Runs (newT ds) st Q ↔ ds.length ≤ sizeLine ∧ Q (.tup ds) st := by
  with_unfolding_all
    unfold Runs newT; by_cases h : ds.length ≤ sizeLine <;> simp [h]
@[simp] theorem x_newL {ds : List D} : Runs (newL ds) st Q ↔ ds.length ≤ sizeLine ∧ Q (.loc st.length) (st ++ [.lst ds]) := by
  with_unfolding_all
    unfold Runs newL; by_cases h : ds.length ≤ sizeLine <;> simp [h]
@[simp] theorem x_ixt {ds : List D} {i : Int} : Runs (opIx (.tup ds) (.int i)) st Q ↔ ∃ d, atI ds i = some d ∧ Q d st := by
  with_unfolding_all
    unfold Runs; simp only [opIx, seqOf]
    rcases atI ds i with _ | ds <;> simp
@[simp] theorem x_ixl {l : Nat} {i : Int} : Runs (opIx (.loc l) (.int i)) st Q ↔ ∃ ds, seqAt st l = some ds ∧ ∃ d, atI ds i = some d ∧ Q d st := by
  with_unfolding_all
    unfold Runs; simp only [opIx, seqOf]
    rcases seqAt st l with _ | ds
    · simp
    · simp only [Option.some.injEq, exists_eq_left']
      rcases atI ds i with _ | d <;> simp
@[simp] theorem x_ixs {z : Str} {i : Int} : Runs (opIx (.str z) (.int i)) st Q ↔ z.length ≤ sizeLine ∧ ∃ c, atI z.cps.toList i = some c ∧ Q (.str ⟨#[c]⟩) st := by
  with_unfolding_all
    unfold Runs; simp only [opIx]
    by_cases h : z.length ≤ sizeLine
    · simp only [if_pos h, h, true_and]
      rcases atI z.cps.toList i with _ | d <;> simp
    · simp [h]
@[simp] theorem x_set {l : Nat} {k : Int} {d : D} : Runs (opSet (.loc l) (.int k) d) st QU ↔ ∃ ds, lstAt st l = some ds ∧ ∃ j, ixN ds.length k = some j ∧ QU () (st.set l (.lst (ds.set j d))) := by
  with_unfolding_all
    unfold Runs; simp only [opSet, seqOf]
    rcases lstAt st l with _ | ds
    · simp
    · simp only [Option.some.injEq, exists_eq_left']
      rcases ixN ds.length k with _ | d <;> simp
@[simp] theorem x_slt {ds : List D} {lo hi : Option Int} : Runs (opSl (.tup ds) lo hi) st Q ↔ Q (.tup (cutD ds lo hi)) st := by with_unfolding_all exact Iff.rfl
@[simp] theorem x_sll {l : Nat} {lo hi : Option Int} : Runs (opSl (.loc l) lo hi) st Q ↔ ∃ ds, seqAt st l = some ds ∧ Q (.loc st.length) (st ++ [.lst (cutD ds lo hi)]) := by
  with_unfolding_all
    unfold Runs; simp only [opSl, seqOf]
    rcases seqAt st l with _ | ds <;> simp
@[simp] theorem x_sls {z : Str} {lo hi : Option Int} : Runs (opSl (.str z) lo hi) st Q ↔ z.length ≤ sizeLine ∧ Q (.str (cutS z lo hi)) st := by
  with_unfolding_all
    show Runs (fun st => if z.length ≤ sizeLine then .ok (.str (cutS z lo hi)) st else .stuck) st Q ↔ _
    unfold Runs; by_cases h : z.length ≤ sizeLine <;> simp [h]
@[simp] theorem x_lent {ds : List D} : Runs (bLen [.tup ds]) st Q ↔ Q (.int ds.length) st := by with_unfolding_all exact Iff.rfl
@[simp] theorem x_lenl {l : Nat} : Runs (bLen [.loc l]) st Q ↔ ∃ ds, seqAt st l = some ds ∧ Q (.int ds.length) st := by
  with_unfolding_all
    unfold Runs; simp only [bLen, seqOf]
    rcases seqAt st l with _ | ds <;> simp
@[simp] theorem x_lens {z : Str} : Runs (bLen [.str z]) st Q ↔ z.length ≤ sizeLine ∧ Q (.int z.length) st := by
  with_unfolding_all
    show Runs (fun st => if z.length ≤ sizeLine then .ok (.int z.length) st else .stuck) st Q ↔ _
    unfold Runs; by_cases h : z.length ≤ sizeLine <;> simp [h]
@[simp] theorem x_int {i : Int} : Runs (bInt [.int i]) st Q ↔ Q (.int i) st := by with_unfolding_all exact Iff.rfl
@[simp] theorem x_tupl {l : Nat} : Runs (bTuple [.loc l]) st Q ↔ ∃ ds, seqAt st l = some ds ∧ Q (.tup ds) st := by
  with_unfolding_all
    unfold Runs; simp only [bTuple, seqOf]
    rcases seqAt st l with _ | ds <;> simp
@[simp] theorem x_listt {ds : List D} : Runs (bList [.tup ds]) st Q ↔ Q (.loc st.length) (st ++ [.lst ds]) := by with_unfolding_all exact Iff.rfl
@[simp] theorem x_chkl {l : Nat} : Runs (chkL (.loc l)) st QU ↔ (seqAt st l).isSome ∧ QU () st := by
  with_unfolding_all
    show Runs (fun st => if (seqAt st l).isSome then .ok () st else .stuck) st QU ↔ _
    unfold Runs; by_cases h : (seqAt st l).isSome <;> simp [h]
@[simp] theorem x_app {l : Nat} {d : D} : Runs (mAppend (.loc l) [d]) st Q ↔ ∃ ds, lstAt st l = some ds ∧ ds.length < sizeLine ∧ Q .non (st.set l (.lst (ds ++ [d]))) := by
  with_unfolding_all
    unfold Runs; simp only [mAppend]
    rcases lstAt st l with _ | ds
    · simp
    · simp only [Option.some.injEq, exists_eq_left']
      by_cases h : ds.length < sizeLine <;> simp [h]
@[simp] theorem x_ext {l j : Nat} : Runs (mExtend (.loc l) [.loc j]) st Q ↔ ∃ ds, lstAt st l = some ds ∧ ∃ es, lstAt st j = some es ∧ ds.length + es.length ≤ sizeLine ∧ Q .non (st.set l (.lst (ds ++ es))) := by
  with_unfolding_all
    unfold Runs; simp only [mExtend]
    rcases lstAt st l with _ | ds <;> rcases lstAt st j with _ | es <;> simp
    by_cases h : ds.length + es.length ≤ sizeLine <;> simp [h]
@[simp] theorem x_eqi {i j : Int} : Runs (opEq (.int i) (.int j)) st Q ↔ Q (.bl (decide (i = j))) st := by
  with_unfolding_all
    have : eqData st (.int i) (.int j) = some (decide (i = j)) := by
      show some (i == j) = _
      by_cases h : i = j <;> simp [h]
    unfold Runs opEq; rw [this]
@[simp] theorem x_eqs {i j : Str} : Runs (opEq (.str i) (.str j)) st Q ↔ (PyData.strOk i = true ∧ PyData.strOk j = true) ∧ Q (.bl (decide (i = j))) st := by
  with_unfolding_all
    have : eqData st (.str i) (.str j) = if PyData.strOk i = true ∧ PyData.strOk j = true then some (decide (i = j)) else none := by
      show (if (PyData.strOk i && decide (0 ≤ 64)) && (PyData.strOk j && decide (0 ≤ 64)) then some (i == j) else none) = _
      have e : (i == j) = decide (i = j) := rfl
      rw [e]; simp
    unfold Runs; simp only [opEq]; rw [this]
    by_cases h : PyData.strOk i = true ∧ PyData.strOk j = true
    · simp [h]
    · simp only [if_neg h]; exact ⟨False.elim, fun z => h z.1⟩
@[simp] theorem x_eqb {i j : Bool} : Runs (opEq (.bl i) (.bl j)) st Q ↔ Q (.bl (decide (i = j))) st := by
  with_unfolding_all
    have : eqData st (.bl i) (.bl j) = some (decide (i = j)) := by
      show some (PyData.eqv (.bool i) (.bool j)) = _
      cases i <;> cases j <;> rfl
    unfold Runs opEq; rw [this]
@[simp] theorem x_nes {i j : Str} : Runs (opNe (.str i) (.str j)) st Q ↔ (PyData.strOk i = true ∧ PyData.strOk j = true) ∧ Q (.bl (!decide (i = j))) st := by
  with_unfolding_all
    have : eqData st (.str i) (.str j) = if PyData.strOk i = true ∧ PyData.strOk j = true then some (decide (i = j)) else none := by
      show (if (PyData.strOk i && decide (0 ≤ 64)) && (PyData.strOk j && decide (0 ≤ 64)) then some (i == j) else none) = _
      have e : (i == j) = decide (i = j) := rfl
      rw [e]; simp
    unfold Runs; simp only [opNe]; rw [this]
    by_cases h : PyData.strOk i = true ∧ PyData.strOk j = true
    · simp [h]
    · simp only [if_neg h]; exact ⟨False.elim, fun z => h z.1⟩
@[simp] theorem x_int_t {x : D} {ys : List D} : Runs (opIn x (.tup ys)) st Q ↔ (x.flat && ys.all D.flat) = true ∧ Q (.bl (x.inF ys)) st := by
  with_unfolding_all
    show Runs (fun st => if x.flat && ys.all D.flat then .ok (.bl (x.inF ys)) st else .stuck) st Q ↔ _
    unfold Runs; by_cases h : (x.flat && ys.all D.flat) = true
    · simp only [h, if_true, true_and]
    · simp only [h, if_false, Bool.false_eq_true, false_and]
@[simp] theorem x_in_l {x : D} {l : Nat} : Runs (opIn x (.loc l)) st Q ↔ ∃ ys, seqAt st l = some ys ∧ (x.flat && ys.all D.flat) = true ∧ Q (.bl (x.inF ys)) st := by
  with_unfolding_all
    unfold Runs; simp only [opIn, seqOf]
    rcases seqAt st l with _ | ys
    · cases x <;> simp
    · simp only [Option.some.injEq, exists_eq_left']
      by_cases h : (x.flat && ys.all D.flat) = true
      · simp only [h, if_true, true_and]
      · simp only [h, if_false, Bool.false_eq_true, false_and]
@[simp] theorem x_nin_l {x : D} {l : Nat} : Runs (opNotIn x (.loc l)) st Q ↔ ∃ ys, seqAt st l = some ys ∧ (x.flat && ys.all D.flat) = true ∧ Q (.bl (!x.inF ys)) st := by
  with_unfolding_all
    unfold Runs; simp only [opNotIn, seqOf]
    rcases seqAt st l with _ | ys
    · cases x <;> simp
    · simp only [Option.some.injEq, exists_eq_left']
      by_cases h : (x.flat && ys.all D.flat) = true
      · simp only [h, if_true, true_and]
      · simp only [h, if_false, Bool.false_eq_true, false_and]
@[simp] theorem x_nin_t {x : D} {ys : List D} : Runs (opNotIn x (.tup ys)) st Q ↔ (x.flat && ys.all D.flat) = true ∧ Q (.bl (!x.inF ys)) st := by
  with_unfolding_all
    show Runs (fun st => if x.flat && ys.all D.flat then .ok (.bl (!x.inF ys)) st else .stuck) st Q ↔ _
    unfold Runs; by_cases h : (x.flat && ys.all D.flat) = true
    · simp only [h, if_true, true_and]
    · simp only [h, if_false, Bool.false_eq_true, false_and]
theorem rOpNotInX {x : D} {ys : List D} (h : (x.flat && ys.all D.flat) = true) : Runs (opNotInX x (.tup ys)) st Q ↔ Q (.bl (!x.inF ys)) st := by
  with_unfolding_all
    have e : opNotInX x (.tup ys) st = opNotIn x (.tup ys) st := by
      simp only [orElseM, opNotIn, seqOf]
      rw [if_pos h]
    unfold Runs; rw [e]
    simp only [opNotIn, seqOf]
    rw [if_pos h]
@[simp] theorem x_in_s {c : Nat} {z : Str} : Runs (opIn (.str ⟨#[c]⟩) (.str z)) st Q ↔ Q (.bl (decide (c ∈ z.cps.toList))) st := by with_unfolding_all exact Iff.rfl
@[simp] theorem x_all {l : Nat} : Runs (bAll [.loc l]) st Q ↔ ∃ bs, (seqAt st l).bind blsOf = some bs ∧ Q (.bl (bs.all _root_.id)) st := by
  with_unfolding_all
    unfold Runs; simp only [bAll, seqOf]
    rcases (seqAt st l).bind blsOf with _ | ds <;> simp
@[simp] theorem x_any {l : Nat} : Runs (bAny [.loc l]) st Q ↔ ∃ bs, (seqAt st l).bind blsOf = some bs ∧ Q (.bl (bs.any _root_.id)) st := by
  with_unfolding_all
    unfold Runs; simp only [bAny, seqOf]
    rcases (seqAt st l).bind blsOf with _ | ds <;> simp
theorem x_isi {T t : String} {d : D} {b : Bool} (h1 : d.ty st = some t) (h2 : kitB t T = some b) : Runs (isiB T d) st Q ↔ Q (.bl b) st := by with_unfolding_all (unfold Runs isiB; rw [h1]; simp only [h2])
end
section
variable {st : Sto} {ρ : En} {f : En → M D} {QI : ItD → Sto → Prop}
@[simp] theorem x_itRange : Runs (itRange f ρ) st QI ↔ Runs (f ρ) st fun d st' => match d with | .int n => (n < 2 ^ 62 ∧ -(2 ^ 62) ≤ n) ∧ QI ⟨(List.range n.toNat).map fun (i : Nat) => Item.one (D.int (i : Int)), fun _ => true⟩ st' | _ => False := by
  with_unfolding_all
    unfold itRange; rw [runs_bind]
    constructor <;> intro z <;> refine z.imp fun d st1 q => ?_ <;> cases d <;> try exact q
    · rename_i n
      by_cases h : n < 2 ^ 62 ∧ -(2 ^ 62) ≤ n
      · simp only [h, if_true] at q; exact ⟨by simpa using h, q⟩
      · simp only [h, if_false] at q; exact q.elim
    · rename_i n
      have := q.1
      simp only [this, if_true]; exact q.2
@[simp] theorem x_itEnum : Runs (itEnumT f ρ) st QI ↔ Runs (f ρ) st fun d st' => match d with | .tup ds => QI ⟨enumD 0 ds, fun _ => true⟩ st' | _ => False := by
  with_unfolding_all
    unfold itEnumT; rw [runs_bind]
    constructor <;> intro z <;> refine z.imp fun d st1 q => ?_ <;> cases d <;> exact q
@[simp] theorem x_itStr : Runs (itStr f ρ) st QI ↔ Runs (f ρ) st fun d st' => match d with | .str z => QI ⟨z.cps.toList.map fun c => .one (.str ⟨#[c]⟩), fun _ => true⟩ st' | _ => False := by
  with_unfolding_all
    unfold itStr; rw [runs_bind]
    constructor <;> intro z <;> refine z.imp fun d st1 q => ?_ <;> cases d <;> exact q
@[simp] theorem x_itSeq : Runs (itSeq f ρ) st QI ↔ Runs (f ρ) st fun d st' => match d with
    | .tup ds => QI ⟨ds.map .one, fun _ => true⟩ st'
    | .str z => QI ⟨z.cps.toList.map fun c => .one (.str ⟨#[c]⟩), fun _ => true⟩ st'
    | .loc i => ∃ ds, seqAt st' i = some ds ∧ QI ⟨ds.map .one, fun st' => decide (seqAt st' i = some ds)⟩ st'
    | _ => False := by
  with_unfolding_all
    unfold itSeq; rw [runs_bind]
    constructor <;> intro z <;> refine z.imp fun d st1 q => ?_ <;> cases d <;> try exact q
    · rename_i i
      have q' : Runs (fun st => match seqAt st i with | some ds => .ok ⟨ds.map .one, fun st' => decide (seqAt st' i = some ds)⟩ st | none => .stuck) st1 QI := q
      clear q; unfold Runs at q'
      show ∃ ds, _
      rcases h : seqAt st1 i with _ | ds
      · simp only [h] at q'
      · simp only [h] at q'; exact ⟨ds, rfl, q'⟩
    · rename_i i
      obtain ⟨ds, h, q⟩ := q
      show Runs (fun st => match seqAt st i with | some ds => .ok ⟨ds.map .one, fun st' => decide (seqAt st' i = some ds)⟩ st | none => .stuck) st1 QI
      unfold Runs
      simp only [h]; exact q
@[simp] theorem x_tyes {QB : Bool → Sto → Prop} : Runs (tYesD ρ) st QB ↔ QB true st := by with_unfolding_all exact Iff.rfl
end
end
section
/-! stores -/
section
variable {st st' st'' : Sto} {i j b : Nat} {o : SO} {ds : List D} {ex ex' : List Nat}
theorem sq_lst (h : lstAt st i = some ds) : seqAt st i = some ds := by
  unfold lstAt at h; unfold seqAt
  split at h <;> simp_all
theorem lst_lt (h : lstAt st i = some ds) : i < st.length := by
  rcases Nat.lt_or_ge i st.length with z | z
  · exact z
  · unfold lstAt at h; rw [List.getElem?_eq_none z] at h; cases h
theorem lst_set (h : i < st.length) : lstAt (st.set i (.lst ds)) i = some ds := by unfold lstAt; simp [h]
theorem lst_set_ne (h : i ≠ j) : lstAt (st.set i o) j = lstAt st j := by unfold lstAt; rw [List.getElem?_set_ne h]
theorem seq_set_ne (h : i ≠ j) : seqAt (st.set i o) j = seqAt st j := by unfold seqAt; rw [List.getElem?_set_ne h]
theorem lst_new : lstAt (st ++ [.lst ds]) st.length = some ds := by unfold lstAt; simp
theorem lst_old (h : i < st.length) : lstAt (st ++ [o]) i = lstAt st i := by unfold lstAt; rw [List.getElem?_append_left h]
theorem seq_old (h : i < st.length) : seqAt (st ++ [o]) i = seqAt st i := by unfold seqAt; rw [List.getElem?_append_left h]
structure Fr (ex : List Nat) (st st' : Sto) : Prop where
  le : st.length ≤ st'.length
  eq : ∀ i, i < st.length → i ∉ ex → st'[i]? = st[i]?
theorem Fr.refl : Fr ex st st := ⟨Nat.le_refl _, fun _ _ _ => rfl⟩
theorem Fr.trans (h : Fr ex st st') (k : Fr ex st' st'') : Fr ex st st'' := ⟨Nat.le_trans h.le k.le, fun i a e => (k.eq i (Nat.lt_of_lt_of_le a h.le) e).trans (h.eq i a e)⟩
theorem Fr.sub (h : Fr ex st st') (k : ∀ i, i < st.length → i ∈ ex → i ∈ ex') : Fr ex' st st' := ⟨h.le, fun i a e => h.eq i a fun z => e (k i a z)⟩
theorem Fr.lst (h : Fr ex st st') (e : lstAt st i = some ds) (n : i ∉ ex) : lstAt st' i = some ds := by
  have := h.eq i (lst_lt e) n
  unfold lstAt at e ⊢; rw [this]; exact e
theorem seq_lt (h : seqAt st i = some ds) : i < st.length := by
  rcases Nat.lt_or_ge i st.length with z | z
  · exact z
  · unfold seqAt at h; rw [List.getElem?_eq_none z] at h; cases h
theorem Fr.seq (h : Fr ex st st') (e : seqAt st i = some ds) (n : i ∉ ex) : seqAt st' i = some ds := by
  have := h.eq i (seq_lt e) n
  unfold seqAt at e ⊢; rw [this]; exact e
theorem Fr.set (h : i ∈ ex) : Fr ex st (st.set i o) := ⟨by simp, fun j _ n => by rw [List.getElem?_set_ne]; rintro rfl; exact n h⟩
theorem Fr.new : Fr ex st (st ++ [o]) := ⟨by simp, fun j a _ => List.getElem?_append_left a⟩
theorem Fr.setNew (h : Fr ex st st') (k : st.length ≤ i) : Fr ex st (st'.set i o) := ⟨by simpa using h.le, fun j a n => by rw [List.getElem?_set_ne (by omega)]; exact h.eq j a n⟩
end
/-! the box -/
structure BoxAt (st : Sto) (b c : Nat) (ns : List Int) (p q s n : Int) : Prop where
  ne : b ≠ c
  b : lstAt st b = some [.loc c, .int p, .int q, .int s, .int n]
  c : lstAt st c = some (ns.map D.int)
  p : 0 ≤ p
def Box (st : Sto) (b c : Nat) : Prop := ∃ ns p q s n, BoxAt st b c ns p q s n
theorem Box.lt {st : Sto} {b c : Nat} (h : Box st b c) : b < st.length := by
  obtain ⟨ns, p, q, s, n, h⟩ := h
  exact lst_lt h.b
theorem Box.ltc {st : Sto} {b c : Nat} (h : Box st b c) : c < st.length := by
  obtain ⟨ns, p, q, s, n, h⟩ := h
  exact lst_lt h.c
theorem Box.fr {st st' : Sto} {b c : Nat} {ex : List Nat} (h : Box st b c) (f : Fr ex st st') (h1 : b ∉ ex) (h2 : c ∉ ex) : Box st' b c := by
  obtain ⟨ns, p, q, s, n, h⟩ := h
  exact ⟨ns, p, q, s, n, h.ne, f.lst h.b h1, f.lst h.c h2, h.p⟩
theorem Box.app {st : Sto} {b c : Nat} {o : SO} (h : Box st b c) : Box (st ++ [o]) b c := h.fr (ex := []) .new (by simp) (by simp)
theorem Box.set {st : Sto} {b c i : Nat} {o : SO} (h : Box st b c) (h1 : i ≠ b) (h2 : i ≠ c) : Box (st.set i o) b c := h.fr (ex := [i]) (.set (by simp)) (by simp; omega) (by simp; omega)
theorem BoxAt.set {st : Sto} {b c : Nat} {ns : List Int} {p q s n p' q' s' n' : Int} (h : BoxAt st b c ns p q s n) (hp : 0 ≤ p') : BoxAt (st.set b (.lst [.loc c, .int p', .int q', .int s', .int n'])) b c ns p' q' s' n' :=
  ⟨h.ne, lst_set (lst_lt h.b), by rw [lst_set_ne h.ne]; exact h.c, hp⟩
theorem mix_spec {st : Sto} {v k : Int} : Runs (m__law_mix [.int v, .int k]) st fun d st' => st' = st ∧ ∃ r, d = .int r := by
  unfold m__law_mix b__law_mix
  rw [r_fn]
  simp
  have h0 : ∀ x : Int, 0 ≤ x % 2147483647 := fun x => Int.emod_nonneg _ (by omega)
  have h1 : ∀ x : Int, x % 2147483647 < 2147483647 := fun x => Int.emod_lt_of_pos _ (by omega)
  refine ⟨?_, ?_⟩
  · left; have := h0 ((v + 7919 * k + 1) * 48271); have := h1 ((v + 7919 * k + 1) * 48271); omega
  · left
    generalize (v + 7919 * k + 1) * 48271 % 2147483647 * _ = z
    have := h0 z; have := h1 z; omega
end
section
theorem atI_ints {ns : List Int} {p : Int} (h0 : 0 ≤ p) (h1 : p < ns.length) : ∃ v, atI (ns.map D.int) p = some (.int v) := by
  refine ⟨ns[p.toNat]'(by omega), ?_⟩
  unfold atI ixN
  simp only [List.length_map, if_pos h0, if_pos h1, Option.bind_some]
  rw [List.getElem?_map, List.getElem?_eq_getElem (by omega)]; rfl
theorem seq_set {st : Sto} {i : Nat} {ds : List D} (h : i < st.length) : seqAt (st.set i (.lst ds)) i = some ds := sq_lst (lst_set h)
def DrawQ (st : Sto) (b c : Nat) (many : Int) (d : D) (st' : Sto) : Prop := ∃ k, d = .int k ∧ 0 ≤ k ∧ k < many ∧ Fr [b] st st' ∧ Box st' b c
theorem drawQ_mk {st : Sto} {b c : Nat} {ns : List Int} {p q s n p' q' s' n' : Int} (h : BoxAt st b c ns p q s n) (hp : 0 ≤ p') {many k : Int} (h0 : 0 ≤ k) (h1 : k < many) : DrawQ st b c many (.int k) (st.set b (.lst [.loc c, .int p', .int q', .int s', .int n'])) :=
  ⟨k, rfl, h0, h1, .set (by simp), ns, p', q', s', n', h.set hp⟩
section
variable {α : Type} {a0 a1 a2 a3 a4 : α} {r : List α}
@[simp] theorem at0 : atI (a0 :: r) 0 = some a0 := by
  unfold atI ixN; rw [if_pos (by decide), if_pos (by simp only [List.length_cons]; omega)]; rfl
@[simp] theorem at1 : atI (a0 :: a1 :: r) 1 = some a1 := by
  unfold atI ixN; rw [if_pos (by decide), if_pos (by simp only [List.length_cons]; omega)]; rfl
@[simp] theorem at2 : atI (a0 :: a1 :: a2 :: r) 2 = some a2 := by
  unfold atI ixN; rw [if_pos (by decide), if_pos (by simp only [List.length_cons]; omega)]; rfl
@[simp] theorem at3 : atI (a0 :: a1 :: a2 :: a3 :: r) 3 = some a3 := by
  unfold atI ixN; rw [if_pos (by decide), if_pos (by simp only [List.length_cons]; omega)]; rfl
@[simp] theorem at4 : atI (a0 :: a1 :: a2 :: a3 :: a4 :: r) 4 = some a4 := by
  unfold atI ixN; rw [if_pos (by decide), if_pos (by simp only [List.length_cons]; omega)]; rfl
end
theorem draw_spec {st : Sto} {b c : Nat} {many : Int} (hB : Box st b c) (h0 : 0 < many) (h1 : many < 1000) : Runs (m__law_draw [.loc b, .int many]) st (DrawQ st b c many) := by
  obtain ⟨ns, p, q, s, n, h⟩ := hB
  have hb := lst_lt h.b
  have hm : ∀ x : Int, 0 ≤ x % many ∧ x % many < many := fun x => ⟨Int.emod_nonneg _ (by omega), Int.emod_lt_of_pos _ h0⟩
  have hbound : many < 1073741824 := by omega
  unfold m__law_draw b__law_draw
  rw [r_fn]
  refine ⟨rfl, ?_⟩
  have e1 := sq_lst h.b
  have e2 := sq_lst h.c
  have e3 : ∀ o, seqAt (st.set b o) c = some (ns.map D.int) := fun o => by rw [seq_set_ne h.ne]; exact e2
  have fin : ∀ (p' q' s' n' x : Int), 0 ≤ p' → DrawQ st b c many (.int (x % many)) (st.set b (.lst [.loc c, .int p', .int q', .int s', .int n'])) := fun p' q' s' n' x hp => drawQ_mk h hp (hm x).1 (hm x).2
  have e4 := h.p
  have mx : ∀ (v k : Int) (st : Sto) (Q : D → Sto → Prop), (∀ r, Q (.int r) st) → Runs (m__law_mix [.int v, .int k]) st Q := fun v k st Q z => mix_spec.imp fun d st' ⟨e, r, e'⟩ => by subst e; subst e'; exact z r
  by_cases hq : q = 0
  · by_cases hp : p < ns.length
    · obtain ⟨v, hv⟩ := atI_ints h.p hp
      by_cases hl : v < 1000000000000000000
      · simp [e1, e2, e3, h.b, hb, hq, hp, hv, hl, ixN, seq_set, lst_set, List.set_set]
        refine mx _ _ _ _ fun r => ?_
        simp [h0]
        exact fin _ _ _ _ _ (by omega)
      · by_cases hv0 : v = 0
        · omega
        · simp [e1, e2, e3, h.b, hb, hq, hp, hv, hl, hv0, ixN, seq_set, lst_set, List.set_set, h0, hbound]
          exact fin _ _ _ _ _ (by omega)
    · simp [e1, e2, e3, h.b, hb, hq, hp, ixN, seq_set, lst_set, List.set_set]
      refine mx _ _ _ _ fun r => ?_
      simp [h0]
      exact fin _ _ _ _ _ (by omega)
  · simp [e1, e2, e3, h.b, hb, hq, ixN, seq_set, lst_set, List.set_set, h0, hbound]
    exact fin _ _ _ _ _ (by omega)
end
section
theorem cutD_ints {ns : List Int} {lo hi : Option Int} : ∃ ms : List Int, cutD (ns.map D.int) lo hi = ms.map D.int ∧ ms.length ≤ ns.length := by
  refine ⟨(ns.drop (HT.sIx ns.length 0 lo)).take (HT.sIx ns.length ns.length hi - HT.sIx ns.length 0 lo), ?_, ?_⟩
  · unfold cutD; simp only [List.length_map, List.map_take, List.map_drop]
  · simp only [List.length_take, List.length_drop]; omega
theorem map_item {α : Type} {f : α → D} {xs : List α} {i : Nat} {it : Item} (h : ((xs.map f).map Item.one)[i]? = some it) : ∃ (hi : i < xs.length), it = .one (f xs[i]) := by
  rw [List.getElem?_map, List.getElem?_map] at h
  rcases Nat.lt_or_ge i xs.length with z | z
  · rw [List.getElem?_eq_getElem z] at h; exact ⟨z, (Option.some.inj h).symm⟩
  · rw [List.getElem?_eq_none z] at h; cases h
theorem range_item {n i : Nat} {it : Item} (h : ((List.range n).map fun (i : Nat) => Item.one (D.int (i : Int)))[i]? = some it) : i < n ∧ it = .one (.int (i : Int)) := by
  rw [List.getElem?_map] at h
  rcases Nat.lt_or_ge i n with z | z
  · rw [List.getElem?_range z] at h; exact ⟨z, (Option.some.inj h).symm⟩
  · rw [List.getElem?_eq_none (by simpa using z)] at h; cases h
theorem mx {v k : Int} {st : Sto} {Q : D → Sto → Prop} (z : ∀ r, Q (.int r) st) : Runs (m__law_mix [.int v, .int k]) st Q := mix_spec.imp fun d st' ⟨e, r, e'⟩ => by subst e; subst e'; exact z r
theorem sz63 (n : Nat) (h : n ≤ 63) : n < sizeLine := Nat.lt_of_le_of_lt h (by decide)
theorem box_spec {ns : List Int} (h : ns.length ≤ 63) : Runs (m__law_box [.loc 0]) [.frz (ns.map .int)] fun d st' => ∃ b c, d = .loc b ∧ Box st' b c := by
  obtain ⟨ms, e, hms⟩ := cutD_ints (ns := ns) (lo := none) (hi := some 63)
  unfold m__law_box b__law_box
  rw [r_fn]
  refine ⟨rfl, ?_⟩
  simp [seqAt]
  rw [e]
  have h1 : ∀ k, k ≤ ms.length → ((ms.take k).map D.int).length < sizeLine := fun k hk => sz63 _ (by simp; omega)
  refine runs_lcL (fun k st => st = [.frz (ns.map .int), .lst (ms.map .int), .lst ((ms.take k).map .int)]) (by simp) ?_ ?_
  · rintro i it st hi rfl
    obtain ⟨hlt, rfl⟩ := map_item hi
    refine ⟨by simp, ?_⟩
    simp [lstAt, wipeD]
    exact ⟨by have := h1 i (by omega); simpa using this, by rw [← List.map_take, ← List.map_take, ← List.take_append_getElem hlt, List.map_append]; rfl⟩
  · rintro st rfl
    refine ⟨by simp, ?_⟩
    simp
    refine runs_forL (fun k ρ st => (∃ s : Int, ∃ a3, ρ = [some (.loc 0), some (.loc 2), some (.int s), a3]) ∧ st = [.frz (ns.map .int), .lst (ms.map .int), .lst (ms.map .int)]) ⟨⟨11, _, rfl⟩, by simp⟩ ?_ ?_
    · rintro i it ρ st hi ⟨⟨s, a3, rfl⟩, rfl⟩
      obtain ⟨hlt, rfl⟩ := map_item (by rw [List.map_map]; exact hi)
      refine ⟨by simp, ?_⟩
      simp
      refine mx fun r => ?_
      simp
    · rintro ρ st ⟨⟨s, a3, rfl⟩, rfl⟩
      refine ⟨by simp, ?_⟩
      simp
      exact ⟨by decide, 2, ms, 0, 0, s, 0, by decide, rfl, by simp [lstAt], by decide⟩
/-! names -/
def lets : List Nat := (Str.ofString "abcdefghijklmnopqrstuvwxyz").cps.toList
theorem lets_len : lets.length = 26 := by decide +kernel
theorem lets_nodup : lets.Nodup := by decide +kernel
theorem lets_lt : ∀ c ∈ lets, c < 1114112 := by decide +kernel
def Lts (s : Str) : Prop := ∀ c ∈ s.cps.toList, c ∈ lets
def NameOK (s : Str) : Prop := 1 ≤ s.length ∧ s.length ≤ 8 ∧ Lts s
theorem NameOK.ok {s : Str} (h : NameOK s) : PyData.strOk s = true := by
  unfold PyData.strOk
  rw [← Array.all_toList, List.all_eq_true]
  intro c hc
  exact decide_eq_true (lets_lt c (h.2.2 c hc))
def NamesOK (xs : List Str) : Prop := (∀ x ∈ xs, NameOK x) ∧ xs.Nodup
theorem inF_str {x : Str} {xs : List Str} : (D.str x).inF (xs.map D.str) = decide (x ∈ xs) := by
  unfold D.inF
  rw [List.any_map]
  induction xs with
  | nil => simp
  | cons y ys ih =>
    rw [List.any_cons, ih]
    have e : (D.str y).eqF (D.str x) = decide (y = x) := rfl
    simp only [Function.comp, e, List.mem_cons]
    by_cases h : y = x
    · subst h; simp
    · have h' : ¬ x = y := fun z => h z.symm
      simp [h, h']
theorem flat_str {xs : List Str} : (xs.map D.str).all D.flat = true := by
  rw [List.all_map, List.all_eq_true]; intro x _; rfl
theorem nodup_le {α : Type} [DecidableEq α] : ∀ {xs ys : List α}, xs.Nodup → (∀ x ∈ xs, x ∈ ys) → xs.length ≤ ys.length
  | [], _, _, _ => Nat.zero_le _
  | x :: xs, ys, h, k => by
    rw [List.nodup_cons] at h
    have hx := k x (by simp)
    have : xs.length ≤ (ys.erase x).length := nodup_le h.2 fun z hz => by
      have hzx : z ≠ x := by rintro rfl; exact h.1 hz
      exact (List.mem_erase_of_ne hzx).mpr (k z (by simp [hz]))
    rw [List.length_erase_of_mem hx] at this
    have := List.length_pos_of_mem hx
    simp only [List.length_cons]; omega
def sign (c : Nat) : Str := ⟨#[c]⟩
theorem app_len (a b : Str) : (a ++ b).length = a.length + b.length := Array.size_append
theorem app_cps (a b : Str) : (a ++ b).cps.toList = a.cps.toList ++ b.cps.toList := Array.toList_append
def cut7 (w : Str) : Str := cutS w none (some 7)
theorem cut7_cps (w : Str) : (cut7 w).cps.toList = w.cps.toList.take 7 := by
  have : (cut7 w).cps.toList = (w.cps.toList.drop 0).take (min 7 w.length - 0) := by
    unfold cut7 cutS HT.sIx; simp
  rw [this]
  simp only [List.drop_zero, Nat.sub_zero]
  have e : w.length = w.cps.toList.length := rfl
  rw [e, Nat.min_comm, ← List.take_take]
  exact List.take_of_length_le (by rw [List.length_take]; omega)
theorem cut_ok {w : Str} (h : NameOK w) {c : Nat} (hc : c ∈ lets) : NameOK (cut7 w ++ sign c) := by
  have e : (cut7 w ++ sign c).cps.toList = w.cps.toList.take 7 ++ [c] := by rw [app_cps, cut7_cps]; rfl
  have l : (cut7 w ++ sign c).length = (w.cps.toList.take 7 ++ [c]).length := by rw [← e]; rfl
  have l2 : (w.cps.toList.take 7 ++ [c]).length ≤ 8 := by simp; omega
  refine ⟨?_, by omega, ?_⟩
  · rw [l]; simp
  · unfold Lts; rw [e]; intro d hd
    rcases List.mem_append.mp hd with z | z
    · exact h.2.2 d (List.mem_of_mem_take z)
    · simp at z; rw [z]; exact hc
theorem cut_inj {w : Str} {c d : Nat} (h : cut7 w ++ sign c = cut7 w ++ sign d) : c = d := by
  have : (cut7 w ++ sign c).cps.toList = (cut7 w ++ sign d).cps.toList := by rw [h]
  rw [app_cps, app_cps] at this
  have := List.append_cancel_left this
  injection this
theorem free_ne {w : Str} {xs : List Str} (h : xs.length < 26) : lets.filter (fun c => !decide (cut7 w ++ sign c ∈ xs)) ≠ [] := by
  intro e
  have : (lets.map fun c => cut7 w ++ sign c).length ≤ xs.length := nodup_le (by
    rw [List.nodup_iff_pairwise_ne, List.pairwise_map]
    exact lets_nodup.imp fun hne he => hne (cut_inj he)) (fun x hx => by
    obtain ⟨c, hc, rfl⟩ := List.mem_map.mp hx
    have := List.filter_eq_nil_iff.mp e c hc
    simpa using this)
  rw [List.length_map, lets_len] at this
  omega
theorem lets_at {x : Int} (h0 : 0 ≤ x) (h1 : x < 26) : ∃ c, atI (Str.ofString "abcdefghijklmnopqrstuvwxyz").cps.toList x = some c ∧ c ∈ lets := by
  have hl : (Str.ofString "abcdefghijklmnopqrstuvwxyz").cps.toList.length = 26 := lets_len
  refine ⟨lets[x.toNat]'(by rw [lets_len]; omega), ?_, List.getElem_mem _⟩
  unfold atI ixN
  rw [if_pos h0, hl, if_pos (by omega)]
  show lets[x.toNat]? = _
  rw [List.getElem?_eq_getElem]
theorem lets_sz : (Str.ofString "abcdefghijklmnopqrstuvwxyz").length ≤ sizeLine := by
  have : (Str.ofString "abcdefghijklmnopqrstuvwxyz").length = lets.length := rfl
  rw [this, lets_len]; decide
theorem emp_cps : (Str.ofString "").cps.toList = [] := by decide +kernel
theorem emp_len : (Str.ofString "").length = 0 := by decide +kernel
theorem Lts.emp : Lts (Str.ofString "") := by unfold Lts; rw [emp_cps]; simp
theorem Lts.push {w : Str} {c : Nat} (h : Lts w) (hc : c ∈ lets) : Lts (w ++ ⟨#[c]⟩) := by
  intro d hd
  rw [app_cps] at hd
  rcases List.mem_append.mp hd with z | z
  · exact h d z
  · have : d = c := by simpa using z
    rw [this]; exact hc
theorem set_new {st : Sto} {o o' : SO} : (st ++ [o]).set st.length o' = st ++ [o'] := by simp
theorem cut7_len (w : Str) : (cut7 w).length ≤ 7 := by
  have : (cut7 w).length = (cut7 w).cps.toList.length := rfl
  rw [this, cut7_cps, List.length_take]; omega
end
section
structure NamesAt (st : Sto) (b c : Nat) (n : Nat) (L : Nat) (st' : Sto) (xs : List Str) : Prop where
  new : st.length ≤ L
  at_ : lstAt st' L = some (xs.map .str)
  len : xs.length = n
  ok : NamesOK xs
  fr : Fr [b] st st'
  box : Box st' b c
theorem NamesAt.push {st st1 st3 : Sto} {b c k L : Nat} {xs : List Str} {w : Str} (h : NamesAt st b c k L st1 xs) (hb : b < st.length) (hc : c < st.length) (F : Fr [b] st1 st3) (B : Box st3 b c) (hw : NameOK w) (hn : w ∉ xs) : NamesAt st b c (k + 1) L (st3.set L (.lst (xs.map .str ++ [.str w]))) (xs ++ [w]) := by
  have hL := h.new
  have hl : lstAt st3 L = some (xs.map .str) := F.lst h.at_ (by simp; omega)
  refine ⟨h.new, ?_, by simp [h.len], ⟨?_, ?_⟩, ((h.fr.trans F).setNew hL), B.set (by omega) (by omega)⟩
  · rw [lst_set (lst_lt hl), List.map_append]; rfl
  · intro x hx
    rcases List.mem_append.mp hx with z | z
    · exact h.ok.1 x z
    · simp at z; rw [z]; exact hw
  · rw [List.nodup_append]
    refine ⟨h.ok.2, by simp, ?_⟩
    rintro a ha y hy rfl
    simp at hy; subst hy; exact hn ha
theorem names_spec {st : Sto} {b c : Nat} {n : Nat} (hB : Box st b c) (h1 : n ≤ 5) : Runs (m__law_names [.loc b, .int n]) st fun d st' => ∃ L, d = .loc L ∧ ∃ xs, NamesAt st b c n L st' xs := by
  have hb := hB.lt
  have hc := hB.ltc
  have hbs : st.length ≠ b := by omega
  have hbs' : b ≠ st.length := by omega
  have big : ∀ n : Nat, n < 100 → n < sizeLine := fun n h => Nat.lt_trans h (by decide)
  unfold m__law_names b__law_names
  rw [r_fn]
  refine ⟨rfl, ?_⟩
  simp
  refine ⟨by omega, runs_forL (fun k ρ st1 => ∃ xs a3 a4 a5 a6 a7, ρ = [some (.loc b), some (.int n), some (.loc st.length), a3, a4, a5, a6, a7] ∧ NamesAt st b c k st.length st1 xs) ⟨[], _, _, _, _, _, rfl, Nat.le_refl _, lst_new, rfl, ⟨by simp, List.nodup_nil⟩, Fr.new, hB.app⟩ ?_ ?_⟩
  · rintro k it ρ st1 hi ⟨xs, a3, a4, a5, a6, a7, rfl, hN⟩
    obtain ⟨hk, rfl⟩ := range_item hi
    refine ⟨rfl, ?_⟩
    simp
    refine (draw_spec hN.box (by decide) (by decide)).imp ?_
    rintro _ st2 ⟨m, rfl, m0, m1, F2, B2⟩
    simp
    refine ⟨⟨by omega, by omega⟩, runs_forL (fun j ρ st3 => ∃ w a5, ρ = [some (.loc b), some (.int n), some (.loc st.length), some (.int k), some (.str w), a5, a6, a7] ∧ w.length = j ∧ Lts w ∧ Fr [b] st1 st3 ∧ Box st3 b c) ⟨_, _, rfl, emp_len, Lts.emp, F2, B2⟩ ?_ ?_⟩
    · rintro j it ρ st3 hj ⟨w, a5, rfl, wl, wc, F3, B3⟩
      obtain ⟨hj, rfl⟩ := range_item hj
      refine ⟨rfl, ?_⟩
      simp
      refine (draw_spec B3 (by decide) (by decide)).imp ?_
      rintro _ st4 ⟨x, rfl, x0, x1, F4, B4⟩
      simp
      obtain ⟨ch, hch, hcl⟩ := lets_at x0 x1
      refine ⟨lets_sz, ch, hch, ?_, ?_, wc.push hcl, F3.trans F4, B4⟩
      · rw [wl]; show j + 1 ≤ _; have := big (j + 1) (by omega); omega
      · rw [app_len, wl]; rfl
    · rintro ρ st3 ⟨w, a5, rfl, wl, wc, F3, B3⟩
      refine ⟨rfl, ?_⟩
      have hL3 : lstAt st3 st.length = some (xs.map .str) := F3.lst hN.at_ (by simp; omega)
      have hlen : xs.length < sizeLine := big _ (by rw [hN.len]; omega)
      have hw : NameOK w := ⟨by simp at wl; omega, by simp at wl; omega, wc⟩
      by_cases hin : w ∈ xs
      · simp [sq_lst hL3, flat_str, inF_str, hin, D.flat]
        have hL3l := lst_lt hL3
        have hp : ∀ c, (⟨#[c]⟩ : Str) = sign c := fun _ => rfl
        have hwl : w.length ≤ sizeLine := by have := big w.length (by have := hw.2.1; omega); omega
        have hcl : (cutS w none (some 7)).length + 1 ≤ sizeLine := by
          have := cut7_len w; have := big ((cut7 w).length + 1) (by omega); show (cut7 w).length + 1 ≤ _; omega
        refine runs_lcL (fun i st => st = st3 ++ [.lst (((lets.take i).filter fun c => !decide (cut7 w ++ sign c ∈ xs)).map fun c => .str (cut7 w ++ sign c))]) (by simp) ?_ ?_
        · rintro i it st hi rfl
          have hi' : ((lets.map fun c => D.str ⟨#[c]⟩).map Item.one)[i]? = some it := by rw [List.map_map]; exact hi
          obtain ⟨hlt, rfl⟩ := map_item hi'
          have hs : ∀ o, seqAt (st3 ++ [o]) st.length = some (xs.map .str) := fun o => by rw [seq_old hL3l]; exact sq_lst hL3
          refine ⟨rfl, ?_⟩
          simp [wipeD, hwl]
          have h1 : (cutS w none (some 7)).length + (⟨#[lets[i]]⟩ : Str).length ≤ sizeLine := hcl
          have ht : lets.take (i + 1) = lets.take i ++ [lets[i]] := (List.take_append_getElem hlt).symm
          have hF : (D.str (cutS w none (some 7) ++ ⟨#[lets[i]]⟩)).inF (xs.map D.str) = decide (cut7 w ++ sign lets[i] ∈ xs) := inF_str
          have hlets := lets_len
          refine ⟨h1, _, hs _, ⟨rfl, ?_⟩, ?_⟩
          · intro x hx
            obtain ⟨y, _, rfl⟩ := List.mem_map.mp hx
            rfl
          rw [hF, ht, List.filter_append, List.map_append]
          by_cases hz : cut7 w ++ sign lets[i] ∈ xs
          · simp [hz]
          · simp [hz]
            refine ⟨h1, _, lst_new, ?_, ?_⟩
            · rw [List.length_map]
              have h3 := List.length_filter_le (fun c => !decide (cut7 w ++ sign c ∈ xs)) (lets.take i)
              rw [List.length_take] at h3
              exact big _ (by omega)
            · exact ⟨rfl, rfl⟩
        · rintro st rfl
          refine ⟨rfl, ?_⟩
          have hall : lets.take (List.map (fun c => Item.one (D.str { cps := #[c] })) (Str.ofString "abcdefghijklmnopqrstuvwxyz").cps.toList).length = lets := by
            rw [List.length_map]; exact List.take_length
          rw [hall]
          obtain ⟨ch, rest, hf⟩ : ∃ ch rest, lets.filter (fun c => !decide (cut7 w ++ sign c ∈ xs)) = ch :: rest := by
            have := free_ne (w := w) (xs := xs) (by rw [hN.len]; omega)
            cases hq : lets.filter (fun c => !decide (cut7 w ++ sign c ∈ xs)) with
            | nil => exact absurd hq this
            | cons a r => exact ⟨a, r, rfl⟩
          have hm : ch ∈ lets ∧ cut7 w ++ sign ch ∉ xs := by
            have : ch ∈ lets.filter (fun c => !decide (cut7 w ++ sign c ∈ xs)) := by rw [hf]; simp
            have := List.mem_filter.mp this
            exact ⟨this.1, by simpa using this.2⟩
          rw [hf]
          have hs : ∀ o, seqAt (st3 ++ [o]) st.length = some (xs.map .str) := fun o => by rw [seq_old hL3l]; exact sq_lst hL3
          have hs' : ∀ o, lstAt (st3 ++ [o]) st.length = some (xs.map .str) := fun o => by rw [lst_old hL3l]; exact hL3
          refine ⟨_, sq_lst lst_new, _, at0, ?_, _, hs' _, ?_, ?_⟩
          · rw [hs]; rfl
          · rw [List.length_map]; exact hlen
          · exact ⟨_, hN.push hb hc (F3.trans .new) B3.app (cut_ok hw hm.1) hm.2⟩
      · simp [sq_lst hL3, flat_str, inF_str, hin, D.flat, hL3, hlen]
        exact ⟨_, hN.push hb hc F3 B3 hw hin⟩
  · rintro ρ st1 ⟨xs, a3, a4, a5, a6, a7, rfl, hN⟩
    refine ⟨rfl, ?_⟩
    simp
    simp at hN
    exact ⟨_, hN⟩
end
section
inductive Row where
  | refuse | lead (s : Str) | set (b : Str) (v : Bool) | br (h : Option Str) (t e : List Row)
def hdD : Option Str → List D
  | none => [.str "ask"]
  | some b => [.str "if", .str b]
mutual
def Row.d : Row → D
  | .refuse => .tup [.str "refuse"]
  | .lead s => .tup [.str "lead", .str s]
  | .set b v => .tup [.str "set", .str b, .bl v]
  | .br h t e => .tup (hdD h ++ [.tup (rowsD t), .tup (rowsD e)])
def rowsD : List Row → List D
  | [] => []
  | r :: rs => r.d :: rowsD rs
end
theorem rowsD_map : ∀ rs, rowsD rs = rs.map Row.d
  | [] => by rw [rowsD]; rfl
  | r :: rs => by rw [rowsD, rowsD_map rs]; rfl
mutual
def Row.cnt : Row → Nat
  | .br _ t e => 1 + cntL t + cntL e
  | _ => 1
def cntL : List Row → Nat
  | [] => 0
  | r :: rs => r.cnt + cntL rs
end
theorem cntL_app : ∀ xs ys, cntL (xs ++ ys) = cntL xs + cntL ys
  | [], ys => by simp [cntL]
  | x :: xs, ys => by simp only [List.cons_append, cntL, cntL_app xs ys]; omega
def ROk (bits names : List Str) (ent : Bool) : Nat → Row → Prop
  | _, .refuse => True
  | _, .lead s => s ∈ names ∧ ent = true
  | _, .set b _ => b ∈ bits
  | 0, .br _ _ _ => False
  | n + 1, .br h t e => (∀ b, h = some b → b ∈ bits) ∧ (∀ r ∈ t, ROk bits names ent n r) ∧ ∀ r ∈ e, ROk bits names ent n r
def sideS (ent : Bool) : Str := if ent then "enter" else "leave"
def toNats (s : String) : List Nat := (Str.ofString s).cps.toList
@[simp] theorem ok_if : PyData.strOk (Str.ofString "if") = true := by decide +kernel
@[simp] theorem ok_ask : PyData.strOk (Str.ofString "ask") = true := by decide +kernel
@[simp] theorem ok_set : PyData.strOk (Str.ofString "set") = true := by decide +kernel
@[simp] theorem ok_lead : PyData.strOk (Str.ofString "lead") = true := by decide +kernel
@[simp] theorem ok_refuse : PyData.strOk (Str.ofString "refuse") = true := by decide +kernel
@[simp] theorem ok_enter : PyData.strOk (Str.ofString "enter") = true := by decide +kernel
@[simp] theorem ok_leave : PyData.strOk (Str.ofString "leave") = true := by decide +kernel
@[simp] theorem n1 : (Str.ofString "if" = Str.ofString "ask") = False := by simp; decide +kernel
@[simp] theorem n2 : (Str.ofString "if" = Str.ofString "set") = False := by simp; decide +kernel
@[simp] theorem n3 : (Str.ofString "if" = Str.ofString "lead") = False := by simp; decide +kernel
@[simp] theorem n4 : (Str.ofString "if" = Str.ofString "refuse") = False := by simp; decide +kernel
@[simp] theorem n5 : (Str.ofString "ask" = Str.ofString "if") = False := by simp; decide +kernel
@[simp] theorem n6 : (Str.ofString "ask" = Str.ofString "set") = False := by simp; decide +kernel
@[simp] theorem n7 : (Str.ofString "ask" = Str.ofString "lead") = False := by simp; decide +kernel
@[simp] theorem n8 : (Str.ofString "ask" = Str.ofString "refuse") = False := by simp; decide +kernel
@[simp] theorem n9 : (Str.ofString "set" = Str.ofString "if") = False := by simp; decide +kernel
@[simp] theorem n10 : (Str.ofString "set" = Str.ofString "ask") = False := by simp; decide +kernel
@[simp] theorem n11 : (Str.ofString "set" = Str.ofString "lead") = False := by simp; decide +kernel
@[simp] theorem n12 : (Str.ofString "set" = Str.ofString "refuse") = False := by simp; decide +kernel
@[simp] theorem n13 : (Str.ofString "lead" = Str.ofString "if") = False := by simp; decide +kernel
@[simp] theorem n14 : (Str.ofString "lead" = Str.ofString "ask") = False := by simp; decide +kernel
@[simp] theorem n15 : (Str.ofString "lead" = Str.ofString "set") = False := by simp; decide +kernel
@[simp] theorem n16 : (Str.ofString "lead" = Str.ofString "refuse") = False := by simp; decide +kernel
@[simp] theorem n17 : (Str.ofString "refuse" = Str.ofString "if") = False := by simp; decide +kernel
@[simp] theorem n18 : (Str.ofString "refuse" = Str.ofString "ask") = False := by simp; decide +kernel
@[simp] theorem n19 : (Str.ofString "refuse" = Str.ofString "set") = False := by simp; decide +kernel
@[simp] theorem n20 : (Str.ofString "refuse" = Str.ofString "lead") = False := by simp; decide +kernel
@[simp] theorem n21 : (Str.ofString "enter" = Str.ofString "leave") = False := by simp; decide +kernel
@[simp] theorem n22 : (Str.ofString "leave" = Str.ofString "enter") = False := by simp; decide +kernel
theorem inF2 {x a b : Str} : (D.str x).inF [.str a, .str b] = (decide (a = x) || decide (b = x)) := by
  have := inF_str (x := x) (xs := [a, b])
  rw [show [D.str a, D.str b] = [a, b].map D.str from rfl, this]
  by_cases h1 : a = x
  · subst h1; simp
  · by_cases h2 : b = x
    · subst h2; simp
    · have h1' : ¬ x = a := fun z => h1 z.symm
      have h2' : ¬ x = b := fun z => h2 z.symm
      simp [h1, h2, h1', h2']
theorem fl {s : Str} : (D.str s).flat = true := rfl
@[simp] theorem at5 {α : Type} {a0 a1 a2 a3 a4 a5 : α} {r : List α} : atI (a0 :: a1 :: a2 :: a3 :: a4 :: a5 :: r) 5 = some a5 := by
  unfold atI ixN; rw [if_pos (by decide), if_pos (by simp only [List.length_cons]; omega)]; rfl
@[simp] theorem at6 {α : Type} {a0 a1 a2 a3 a4 a5 a6 : α} {r : List α} : atI (a0 :: a1 :: a2 :: a3 :: a4 :: a5 :: a6 :: r) 6 = some a6 := by
  unfold atI ixN; rw [if_pos (by decide), if_pos (by simp only [List.length_cons]; omega)]; rfl
@[simp] theorem at7 {α : Type} {a0 a1 a2 a3 a4 a5 a6 a7 : α} {r : List α} : atI (a0 :: a1 :: a2 :: a3 :: a4 :: a5 :: a6 :: a7 :: r) 7 = some a7 := by
  unfold atI ixN; rw [if_pos (by decide), if_pos (by simp only [List.length_cons]; omega)]; rfl
@[simp] theorem sz8 {n : Nat} (h : n ≤ 1000) : n ≤ sizeLine := Nat.le_trans h (by decide)
structure WordQ (bits : List Str) (ent : Bool) (dep : Int) (w : Str) : Prop where
  one : w = "if" ∨ w = "ask" ∨ w = "set" ∨ w = "lead" ∨ w = "refuse"
  lead : w = "lead" → ent = true
  bits : (w = "if" ∨ w = "set") → bits ≠ []
  dep : (w = "if" ∨ w = "ask") → dep ≠ 4
theorem word_spec {st : Sto} {b c : Nat} {bits : List Str} {ent : Bool} {dep : Int} (hB : Box st b c) : Runs (m__law_word [.loc b, .tup (bits.map .str), .str (sideS ent), .int dep]) st fun d st' => ∃ w, d = .str w ∧ WordQ bits ent dep w ∧ Fr [b] st st' ∧ Box st' b c := by
  unfold m__law_word b__law_word
  rw [r_fn]
  refine ⟨rfl, ?_⟩
  simp [sz8]
  refine (draw_spec hB.app (by decide) (by decide)).imp ?_
  rintro _ st2 ⟨x, rfl, x0, x1, F2, B2⟩
  have hs : seqAt st2 st.length = some [.str "if", .str "ask", .str "set", .str "lead", .str "refuse", .str "ask", .str "if", .str "set"] := F2.seq (sq_lst lst_new) (by have := hB.lt; simp; omega)
  have hF : Fr [b] st st2 := Fr.trans .new F2
  simp [hs]
  have hx : x = 0 ∨ x = 1 ∨ x = 2 ∨ x = 3 ∨ x = 4 ∨ x = 5 ∨ x = 6 ∨ x = 7 := by omega
  clear F2 hB
  by_cases hb : bits = [] <;> by_cases hd : dep = 4 <;> cases ent <;> rcases hx with rfl | rfl | rfl | rfl | rfl | rfl | rfl | rfl <;> simp [hb, hd, sideS, inF2, fl, hF, B2] <;> constructor <;> simp [hb, hd]
end
section
theorem atI_map {α : Type} {f : α → D} {xs : List α} {x : Int} (h0 : 0 ≤ x) (h1 : x < xs.length) : ∃ y ∈ xs, atI (xs.map f) x = some (f y) := by
  refine ⟨xs[x.toNat]'(by omega), List.getElem_mem _, ?_⟩
  unfold atI ixN
  simp only [List.length_map, if_pos h0, if_pos h1, Option.bind_some]
  rw [List.getElem?_map, List.getElem?_eq_getElem (by omega)]; rfl
/-- what stands while rows are drawn -/
structure RCtx (st : Sto) (b c N R : Nat) (names : List Str) (room : Int) : Prop where
  box : Box st b c
  nm : lstAt st N = some (names.map .str)
  rm : lstAt st R = some [.int room]
  pos : 0 ≤ room
  ne : names ≠ []
  nl : names.length ≤ 5
  nb : N ≠ b
  rb : R ≠ b
  rc : R ≠ c
  nr : N ≠ R
theorem RCtx.fr {st st' : Sto} {b c N R : Nat} {names : List Str} {room : Int} (h : RCtx st b c N R names room) (F : Fr [b] st st') (B : Box st' b c) : RCtx st' b c N R names room :=
  { h with box := B, nm := F.lst h.nm (by simpa using h.nb), rm := F.lst h.rm (by simpa using h.rb) }
theorem RCtx.app {st : Sto} {b c N R : Nat} {names : List Str} {room : Int} {o : SO} (h : RCtx st b c N R names room) : RCtx (st ++ [o]) b c N R names room := h.fr .new h.box.app
structure RowsQ (bits names : List Str) (ent : Bool) (n : Nat) (st : Sto) (b c N R : Nat) (room : Int) (st' : Sto) (k : Nat) (room' : Int) : Prop where
  ctx : RCtx st' b c N R names room'
  cnt : (k : Int) + room' = room
  fr : Fr [b, R] st st'
def RowsSpec (bits names : List Str) (ent : Bool) (b c N R : Nat) (n : Nat) : Prop := ∀ st room, RCtx st b c N R names room →
  Runs (m__law_rows (2 * n + 2) [.loc b, .tup (bits.map .str), .loc N, .str (sideS ent), .int (4 - n), .loc R]) st fun d st' => ∃ rs room', d = .tup (rowsD rs) ∧ (∀ r ∈ rs, ROk bits names ent n r) ∧ rs.length ≤ 8 ∧ RowsQ bits names ent n st b c N R room st' (cntL rs) room'
def RowSpec (bits names : List Str) (ent : Bool) (b c N R : Nat) (n : Nat) : Prop := ∀ st room, RCtx st b c N R names room →
  Runs (m__law_row (2 * n + 1) [.loc b, .tup (bits.map .str), .loc N, .str (sideS ent), .int (4 - n), .loc R]) st fun d st' => ∃ r room', d = Row.d r ∧ ROk bits names ent n r ∧ RowsQ bits names ent n st b c N R room st' (r.cnt - 1) room'
theorem Fr.up {b R : Nat} {st st' : Sto} (h : Fr [b] st st') : Fr [b, R] st st' := h.sub (by simp; intros; simp [*])
theorem cnt_pos (r : Row) : 1 ≤ r.cnt := by cases r <;> simp [Row.cnt] <;> omega
theorem rows_of_row {bits names : List Str} {ent : Bool} {b c N R n : Nat} (ih : RowSpec bits names ent b c N R n) : RowsSpec bits names ent b c N R n := by
  intro st room hC
  show Runs (m__law_rows (2 * n + 1 + 1) _) _ _
  rw [m__law_rows, r_fn]
  refine ⟨rfl, ?_⟩
  simp
  refine (draw_spec hC.box (by decide) (by decide)).imp ?_
  rintro _ st1 ⟨x, rfl, x0, x1, F1, B1⟩
  have hC1 := hC.fr F1 B1
  simp
  have hb := hC1.box.lt
  have hRl := lst_lt hC1.rm
  have hNl := lst_lt hC1.nm
  by_cases hx : 8 < x <;> simp [hx] <;> refine ⟨by omega, runs_forL (fun k ρ st2 => ∃ rs room', (∃ y a8, ρ = [some (.loc b), some (.tup (bits.map .str)), some (.loc N), some (.str (sideS ent)), some (.int (4 - n)), some (.loc R), some (.int y), some (.loc st1.length), a8]) ∧ rs.length ≤ k ∧ (∀ r ∈ rs, ROk bits names ent n r) ∧ lstAt st2 st1.length = some (rowsD rs) ∧ RowsQ bits names ent n st b c N R room st2 (cntL rs) room') ⟨[], room, ⟨_, _, rfl⟩, by simp, by simp, by rw [rowsD]; exact lst_new, hC1.app, by simp [cntL], (F1.trans .new).up⟩ ?_ ?_⟩
  all_goals first
    | (rintro k it ρ st2 hi ⟨rs, room', ⟨y, a8, rfl⟩, hl, hok, hL, hQ⟩
       obtain ⟨hk, rfl⟩ := range_item hi
       refine ⟨rfl, ?_⟩
       have hR := hQ.ctx.rm
       have hpos := hQ.ctx.pos
       have hL2 := lst_lt hL
       by_cases hr : 0 < room'
       · have hne : R ≠ st1.length := by omega
         have hne' : st1.length ≠ R := by omega
         have hLs : seqAt (st2.set R (.lst [.int (room' - 1)])) st1.length = some (rowsD rs) := by rw [seq_set_ne hne]; exact sq_lst hL
         simp [sq_lst hR, hR, hr, ixN, hLs]
         have ctx' : RCtx (st2.set R (.lst [.int (room' - 1)])) b c N R names (room' - 1) := { hQ.ctx with
           box := hQ.ctx.box.set hQ.ctx.rb hQ.ctx.rc
           nm := by rw [lst_set_ne (fun z => hQ.ctx.nr z.symm)]; exact hQ.ctx.nm
           rm := lst_set (lst_lt hR)
           pos := by omega }
         refine (ih _ _ ctx').imp ?_
         rintro _ st3 ⟨r, room3, rfl, hr3, hQ3⟩
         have hL3 : lstAt st3 st1.length = some (rowsD rs) := hQ3.fr.lst (by rw [lst_set_ne hne]; exact hL) (by simp; omega)
         have hcp := cnt_pos r
         have hq3 := hQ3.cnt
         have hq := hQ.cnt
         simp [hL3]
         refine ⟨?_, rs ++ [r], by simp; omega, ?_, ?_, room3, ?_, ?_, ?_⟩
         · rw [rowsD_map, List.length_map]; exact Nat.lt_of_le_of_lt (show rs.length ≤ 100 by omega) (by decide)
         · intro z hz
           rcases List.mem_append.mp hz with h | h
           · exact hok z h
           · simp at h; rw [h]; exact hr3
         · rw [lst_set (lst_lt hL3), rowsD_map, rowsD_map, List.map_append]; rfl
         · exact { hQ3.ctx with
             box := hQ3.ctx.box.set (by omega) (by have := hC1.box.ltc; omega)
             nm := by rw [lst_set_ne (by omega)]; exact hQ3.ctx.nm
             rm := by rw [lst_set_ne hne']; exact hQ3.ctx.rm }
         · rw [cntL_app]; simp only [cntL]; omega
         · exact ((hQ.fr.trans (Fr.set (by simp))).trans hQ3.fr).setNew F1.le
       · simp [sq_lst hR, hr]
         exact ⟨rs, by omega, hok, hL, room', hQ⟩)
    | (rintro ρ st2 ⟨rs, room', ⟨y, a8, rfl⟩, hl, hok, hL, hQ⟩
       refine ⟨rfl, ?_⟩
       simp [sq_lst hL]
       exact ⟨rs, rfl, hok, by simp at hl; omega, room', hQ⟩)
end
section
theorem row_of_rows {bits names : List Str} {ent : Bool} {b c N R n : Nat} (hbl : bits.length ≤ 3) (hn : n ≤ 3) (ih : ∀ m, n = m + 1 → RowsSpec bits names ent b c N R m) : RowSpec bits names ent b c N R n := by
  intro st room hC
  rw [m__law_row, r_fn]
  refine ⟨rfl, ?_⟩
  simp
  refine (word_spec hC.box).imp ?_
  rintro _ st1 ⟨w, rfl, hW, F1, B1⟩
  have hC1 := hC.fr F1 B1
  have mk : ∀ {r : Row} {st2 : Sto}, r.cnt = 1 → Fr [b] st1 st2 → Box st2 b c → RowsQ bits names ent n st b c N R room st2 (r.cnt - 1) room := fun e F B => ⟨hC1.fr F B, by rw [e]; simp, (F1.trans F).up⟩
  have two : ∀ (m : Nat), n = m + 1 → ∀ (st2 : Sto), Fr [b] st1 st2 → Box st2 b c → Runs (m__law_rows (2 * m + 2) [.loc b, .tup (bits.map .str), .loc N, .str (sideS ent), .int (4 - m), .loc R]) st2 fun d st3 => Runs (m__law_rows (2 * m + 2) [.loc b, .tup (bits.map .str), .loc N, .str (sideS ent), .int (4 - m), .loc R]) st3 fun d1 st4 =>
      ∃ rs rs' room', d = .tup (rowsD rs) ∧ d1 = .tup (rowsD rs') ∧ (∀ r ∈ rs, ROk bits names ent m r) ∧ (∀ r ∈ rs', ROk bits names ent m r) ∧ RowsQ bits names ent n st b c N R room st4 (cntL rs + cntL rs') room' := by
    intro m hm st2 F B
    have hC2 := hC1.fr F B
    refine (ih m hm _ _ hC2).imp ?_
    rintro _ st3 ⟨rs, room3, rfl, hok, _, hQ⟩
    refine (ih m hm _ _ hQ.ctx).imp ?_
    rintro _ st4 ⟨rs', room4, rfl, hok', _, hQ'⟩
    have := hQ.cnt
    have := hQ'.cnt
    exact ⟨rs, rs', room4, rfl, rfl, hok, hok', hQ'.ctx, by omega, ((F1.trans F).up.trans hQ.fr).trans hQ'.fr⟩
  have e4 : ∀ m : Nat, ((4 : Int) - ((m : Int) + 1) + 1) = 4 - m := fun m => by omega
  rcases hW.one with rfl | rfl | rfl | rfl | rfl
  · -- if
    obtain ⟨m, rfl⟩ : ∃ m, n = m + 1 := by
      rcases n with _ | m
      · exact absurd rfl (hW.dep (.inl rfl))
      · exact ⟨m, rfl⟩
    simp [sz8, e4]
    have hbits := hW.bits (.inl rfl)
    have hbl0 : 0 < bits.length := List.length_pos_iff.mpr hbits
    refine (draw_spec hC1.box (by omega) (by omega)).imp ?_
    rintro _ st2 ⟨x, rfl, x0, x1, F2, B2⟩
    obtain ⟨bt, hbt, hat⟩ := atI_map (f := D.str) x0 x1
    simp [hat, sz8]
    refine (two m rfl st2 F2 B2).imp fun d st3 q => q.imp ?_
    rintro d1 st4 ⟨rs, rs', room', rfl, rfl, h1, h2, hQ⟩
    exact ⟨.br (some bt) rs rs', rfl, ⟨fun z hz => by injection hz with hz; rw [← hz]; exact hbt, h1, h2⟩, room', hQ.ctx, by rw [Row.cnt]; have := hQ.cnt; omega, hQ.fr⟩
  · -- ask
    obtain ⟨m, rfl⟩ : ∃ m, n = m + 1 := by
      rcases n with _ | m
      · exact absurd rfl (hW.dep (.inr rfl))
      · exact ⟨m, rfl⟩
    simp [sz8, e4]
    refine (two m rfl st1 .refl B1).imp fun d st3 q => q.imp ?_
    rintro d1 st4 ⟨rs, rs', room', rfl, rfl, h1, h2, hQ⟩
    exact ⟨.br none rs rs', rfl, ⟨fun z hz => (nomatch hz), h1, h2⟩, room', hQ.ctx, by rw [Row.cnt]; have := hQ.cnt; omega, hQ.fr⟩
  · -- set
    simp
    have hbits := hW.bits (.inr rfl)
    have hbl0 : 0 < bits.length := List.length_pos_iff.mpr hbits
    refine (draw_spec hC1.box (by omega) (by omega)).imp ?_
    rintro _ st2 ⟨x, rfl, x0, x1, F2, B2⟩
    obtain ⟨bt, hbt, hat⟩ := atI_map (f := D.str) x0 x1
    simp [hat]
    refine (draw_spec B2 (by omega) (by omega)).imp ?_
    rintro _ st3 ⟨y, rfl, y0, y1, F3, B3⟩
    simp [sz8]
    exact ⟨.set bt (decide (y = 1)), rfl, by cases n <;> exact hbt, room, mk rfl (F2.trans F3) B3⟩
  · -- lead
    simp [sq_lst hC1.nm]
    have hl := hC1.nl
    have hl0 : 0 < names.length := List.length_pos_iff.mpr hC1.ne
    refine (draw_spec hC1.box (by omega) (by omega)).imp ?_
    rintro _ st2 ⟨x, rfl, x0, x1, F2, B2⟩
    obtain ⟨nm, hnm, hat⟩ := atI_map (f := D.str) x0 x1
    simp [sq_lst (hC1.fr F2 B2).nm, hat, sz8]
    exact ⟨.lead nm, rfl, by cases n <;> exact ⟨hnm, hW.lead rfl⟩, room, mk rfl F2 B2⟩
  · -- refuse
    simp [sz8]
    exact ⟨.refuse, rfl, by cases n <;> trivial, room, mk rfl .refl B1⟩
theorem rows_all {bits names : List Str} {ent : Bool} {b c N R : Nat} (hbl : bits.length ≤ 3) : ∀ n, n ≤ 3 → RowsSpec bits names ent b c N R n
  | 0, h => rows_of_row (row_of_rows hbl h (fun m z => by omega))
  | n + 1, h => rows_of_row (row_of_rows hbl h (fun m z => by
      obtain rfl : n = m := by omega
      exact rows_all hbl n (by omega)))
end
section
structure Pg where
  name : Str
  ent : List Row
  lea : List Row
  heavy : Bool
def Pg.d (p : Pg) : D := .tup [.str p.name, .tup [.tup (rowsD p.ent), .tup (rowsD p.lea), .bl p.heavy]]
structure Pg.OK (bits names : List Str) (p : Pg) : Prop where
  e : ∀ r ∈ p.ent, ROk bits names true 3 r
  l : ∀ r ∈ p.lea, ROk bits names false 3 r
  ec : cntL p.ent ≤ 8
  lc : cntL p.lea ≤ 8
structure PS where
  bits : List Str
  pages : List Pg
  start : Str
  keep : Int
def PS.names (S : PS) : List Str := S.pages.map Pg.name
structure PS.OK (S : PS) : Prop where
  bl : S.bits.length ≤ 3
  bo : NamesOK S.bits
  p2 : 2 ≤ S.pages.length
  p5 : S.pages.length ≤ 5
  no : NamesOK S.names
  pg : ∀ p ∈ S.pages, p.OK S.bits S.names
  st : S.start ∈ S.names
  k2 : 2 ≤ S.keep
  k4 : S.keep ≤ 4
def bitsD (S : PS) : D := .tup (S.bits.map .str)
def pagesD (S : PS) : D := .tup (S.pages.map Pg.d)
def partsRest : En → M Ctl := (sSeq (sAsg (eLst aNil) (gVar 4)) (sSeq (sFor (itSeq (eVar 3)) (gIt 5) (sSeq (sAsg (eBin opEq (eCall (fun ds => m__law_draw (ds ++ [])) (aCons (eVar 0) (aCons (eC (.int 2)) aNil))) (eC (.int 1))) (gVar 7)) (sSeq (sAsg (eLst (aCons (eC (.int 0)) (aCons (eC (.int 1)) (aCons (eC (.int 2)) (aCons (eC (.int 3)) (aCons (eC (.int 8)) (aCons (eC (.int 0)) (aCons (eC (.int 5)) (aCons (eC (.int 1)) aNil))))))))) (gVar 8)) (sSeq (sAsg (eCall (fun ds => (m__law_rows 8) (ds ++ [])) (aCons (eVar 0) (aCons (eVar 2) (aCons (eVar 3) (aCons (eC (.str "enter")) (aCons (eC (.int 1)) (aCons (eLst (aCons (eBin opIx (eVar 8) (eCall (fun ds => m__law_draw (ds ++ [])) (aCons (eVar 0) (aCons (eC (.int 8)) aNil)))) aNil)) aNil))))))) (gVar 9)) (sSeq (sAsg (eCall (fun ds => (m__law_rows 8) (ds ++ [])) (aCons (eVar 0) (aCons (eVar 2) (aCons (eVar 3) (aCons (eC (.str "leave")) (aCons (eC (.int 1)) (aCons (eLst (aCons (eBin opIx (eVar 8) (eCall (fun ds => m__law_draw (ds ++ [])) (aCons (eVar 0) (aCons (eC (.int 8)) aNil)))) aNil)) aNil))))))) (gVar 10)) (sEx (eMt chkL mAppend (eVar 4) (aCons (eTup (aCons (eVar 5) (aCons (eTup (aCons (eVar 9) (aCons (eVar 10) (aCons (eVar 7) aNil)))) aNil))) aNil)))))))) (sSeq (sAsg (eBin opIx (eVar 3) (eCall (fun ds => m__law_draw (ds ++ [])) (aCons (eVar 0) (aCons (eCall bLen (aCons (eVar 3) aNil)) aNil)))) (gVar 6)) (sRet (eTup (aCons (eVar 2) (aCons (eCall bTuple (aCons (eVar 4) aNil)) (aCons (eVar 6) (aCons (eVar 1) aNil)))))))))
theorem Fr.tr {b R : Nat} {st st' st'' : Sto} (h : Fr [b] st st') (k : Fr [b, R] st' st'') (l : st.length ≤ R) : Fr [b] st st'' :=
  ⟨Nat.le_trans h.le k.le, fun i a n => (k.eq i (Nat.lt_of_lt_of_le a h.le) (by simp at n ⊢; omega)).trans (h.eq i a n)⟩
theorem rest_spec {st : Sto} {b c N : Nat} {bits names : List Str} {keep : Int} (hB : Box st b c) (hN : lstAt st N = some (names.map .str)) (hNb : N ≠ b) (hbl : bits.length ≤ 3) (hbo : NamesOK bits) (h2 : 2 ≤ names.length) (h5 : names.length ≤ 5) (hno : NamesOK names) (k2 : 2 ≤ keep) (k4 : keep ≤ 4) :
    Runs (partsRest [some (.loc b), some (.int keep), some (.tup (bits.map .str)), some (.loc N), none, none, none, none, none, none, none]) st fun c0 st' => ∃ S : PS, c0 = .rt (.tup [bitsD S, pagesD S, .str S.start, .int S.keep]) ∧ S.OK ∧ Fr [b] st st' ∧ Box st' b c := by
  have hb := hB.lt
  have hc := hB.ltc
  have hNl := lst_lt hN
  have hne : names ≠ [] := by rintro rfl; simp at h2
  unfold partsRest
  have hs0 : seqAt (st ++ [.lst []]) N = some (names.map .str) := by rw [seq_old hNl]; exact sq_lst hN
  simp [hs0]
  refine runs_forL (fun k ρ st1 => ∃ pgs : List Pg, (∃ a5 a6 a7 a8 a9 a10, ρ = [some (.loc b), some (.int keep), some (.tup (bits.map .str)), some (.loc N), some (.loc st.length), a5, a6, a7, a8, a9, a10]) ∧ pgs.map Pg.name = names.take k ∧ (∀ p ∈ pgs, p.OK bits names) ∧ lstAt st1 st.length = some (pgs.map Pg.d) ∧ Fr [b] st st1 ∧ Box st1 b c) ⟨[], ⟨_, _, _, _, _, _, rfl⟩, by simp, by simp, lst_new, .new, hB.app⟩ ?_ ?_
  · rintro k it ρ st1 hi ⟨pgs, ⟨a5, a6, a7, a8, a9, a10, rfl⟩, hnm, hpo, hP, F1, B1⟩
    obtain ⟨hk, rfl⟩ := map_item (by rw [List.map_map]; exact hi)
    have hN1 := F1.lst hN (by simpa using hNb)
    have hPl := lst_lt hP
    refine ⟨by simp [sq_lst hN1], ?_⟩
    simp [sz8]
    refine (draw_spec B1 (by omega) (by omega)).imp ?_
    rintro _ st2 ⟨x, rfl, x0, x1, F2, B2⟩
    simp [sz8]
    refine (draw_spec B2.app (by omega) (by omega)).imp ?_
    rintro _ st3 ⟨y, rfl, y0, y1, F3, B3⟩
    have hl8 : atI ([0, 1, 2, 3, 8, 0, 5, 1].map D.int) y = atI [D.int 0, .int 1, .int 2, .int 3, .int 8, .int 0, .int 5, .int 1] y := rfl
    obtain ⟨room, hroom, hat⟩ := atI_map (f := D.int) (xs := [0, 1, 2, 3, 8, 0, 5, 1]) y0 (by simpa using y1)
    rw [hl8] at hat
    have hroom' : 0 ≤ room ∧ room ≤ 8 := by simp at hroom; omega
    have hs3 : seqAt st3 st2.length = some [D.int 0, .int 1, .int 2, .int 3, .int 8, .int 0, .int 5, .int 1] := F3.seq (sq_lst lst_new) (by have := B2.lt; simp; omega)
    have F03 : Fr [b] st1 st3 := (F2.trans .new).trans F3
    have hB2l := B2.lt
    have hB2c := B2.ltc
    have hl2 := F2.le
    have hl3 := F3.le
    simp at hl3
    simp [hs3, hat, sz8]
    have c1 : RCtx (st3 ++ [.lst [.int room]]) b c N st3.length names room := ⟨B3.app, Fr.lst (ex := []) .new (F03.lst hN1 (by simpa using hNb)) (by simp), lst_new, hroom'.1, hne, h5, hNb, by have := B3.lt; omega, by have := B3.ltc; omega, by have := lst_lt hN1; omega⟩
    refine (rows_all (bits := bits) (ent := true) hbl 3 (by omega) _ _ c1).imp ?_
    rintro _ st4 ⟨rs, room4, rfl, hok4, _, hQ4⟩
    have F14 : Fr [b] st1 st4 := (F03.trans .new).tr hQ4.fr (by omega)
    have B4 := hQ4.ctx.box
    refine (draw_spec B4 (by omega) (by omega)).imp ?_
    rintro _ st5 ⟨z, rfl, z0, z1, F5, B5⟩
    have hl8' : atI ([0, 1, 2, 3, 8, 0, 5, 1].map D.int) z = atI [D.int 0, .int 1, .int 2, .int 3, .int 8, .int 0, .int 5, .int 1] z := rfl
    obtain ⟨rm2, hrm2, hat2⟩ := atI_map (f := D.int) (xs := [0, 1, 2, 3, 8, 0, 5, 1]) z0 (by simpa using z1)
    rw [hl8'] at hat2
    have hrm2' : 0 ≤ rm2 ∧ rm2 ≤ 8 := by simp at hrm2; omega
    have hs5 : seqAt st5 st2.length = some [D.int 0, .int 1, .int 2, .int 3, .int 8, .int 0, .int 5, .int 1] := F5.seq (hQ4.fr.seq (by rw [seq_old (seq_lt hs3)]; exact hs3) (by simp; omega)) (by simp; omega)
    have F15 := F14.trans F5
    simp [hs5, hat2]
    have hl15 := F15.le
    have c2 : RCtx (st5 ++ [.lst [.int rm2]]) b c N st5.length names rm2 := ⟨B5.app, Fr.lst (ex := []) .new (F15.lst hN1 (by simpa using hNb)) (by simp), lst_new, hrm2'.1, hne, h5, hNb, by have := B5.lt; omega, by have := B5.ltc; omega, by have := lst_lt hN1; omega⟩
    refine (rows_all (bits := bits) (ent := false) hbl 3 (by omega) _ _ c2).imp ?_
    rintro _ st6 ⟨rs', room6, rfl, hok6, _, hQ6⟩
    have F16 : Fr [b] st1 st6 := (F15.trans .new).tr hQ6.fr (by omega)
    have hP6 : lstAt st6 st.length = some (pgs.map Pg.d) := F16.lst hP (by simp; omega)
    have hpl : pgs.length ≤ names.length := by
      have : (pgs.map Pg.name).length = (names.take k).length := by rw [hnm]
      simp at this; omega
    have q4 := hQ4.cnt
    have q4' := hQ4.ctx.pos
    have q6 := hQ6.cnt
    have q6' := hQ6.ctx.pos
    refine ⟨by rw [sq_lst hP6]; rfl, _, hP6, by rw [List.length_map]; exact Nat.lt_of_le_of_lt (show pgs.length ≤ 100 by omega) (by decide), pgs ++ [⟨names[k], rs, rs', decide (x = 1)⟩], ?_, ?_, ?_, ?_, ?_⟩
    · rw [List.map_append, hnm, ← List.take_append_getElem hk]; rfl
    · intro p hp
      rcases List.mem_append.mp hp with h | h
      · exact hpo p h
      · simp at h; rw [h]; exact ⟨hok4, hok6, by show cntL rs ≤ 8; omega, by show cntL rs' ≤ 8; omega⟩
    · rw [lst_set (lst_lt hP6), List.map_append]; rfl
    · exact (F1.trans F16).setNew (Nat.le_refl _)
    · exact hQ6.ctx.box.set (by omega) (by omega)
  · rintro ρ st1 ⟨pgs, ⟨a5, a6, a7, a8, a9, a10, rfl⟩, hnm, hpo, hP, F1, B1⟩
    have hN1 := F1.lst hN (by simpa using hNb)
    refine ⟨by simp [sq_lst hN1], ?_⟩
    simp [sq_lst hN1]
    refine (draw_spec B1 (by omega) (by omega)).imp ?_
    rintro _ st2 ⟨x, rfl, x0, x1, F2, B2⟩
    obtain ⟨nm, hnm2, hat⟩ := atI_map (f := D.str) x0 x1
    have hP2 : lstAt st2 st.length = some (pgs.map Pg.d) := F2.lst hP (by simp; omega)
    have hN2 := F2.lst hN1 (by simpa using hNb)
    simp [sq_lst hN2, hat, sq_lst hP2, sz8]
    simp at hnm
    have hlen : pgs.length = names.length := by rw [← hnm, List.length_map]
    exact ⟨⟨bits, pgs, nm, keep⟩, ⟨rfl, rfl, rfl, rfl⟩, ⟨hbl, hbo, by show 2 ≤ pgs.length; omega, by show pgs.length ≤ 5; omega, by unfold PS.names; rw [hnm]; exact hno, by unfold PS.names; rw [hnm]; exact hpo, by unfold PS.names; rw [hnm]; exact hnm2, k2, k4⟩, F1.trans F2, B2⟩
theorem partsSplit : b__law_parts = (sSeq (sAsg (eBin opAdd (eC (.int 2)) (eCall (fun ds => m__law_draw (ds ++ [])) (aCons (eVar 0) (aCons (eC (.int 3)) aNil)))) (gVar 1)) (sSeq (sAsg (eCall bTuple (aCons (eCall (fun ds => m__law_names (ds ++ [])) (aCons (eVar 0) (aCons (eCall (fun ds => m__law_draw (ds ++ [])) (aCons (eVar 0) (aCons (eC (.int 4)) aNil))) aNil))) aNil)) (gVar 2)) (sSeq (sAsg (eCall (fun ds => m__law_names (ds ++ [])) (aCons (eVar 0) (aCons (eBin opAdd (eC (.int 2)) (eCall (fun ds => m__law_draw (ds ++ [])) (aCons (eVar 0) (aCons (eC (.int 4)) aNil)))) aNil))) (gVar 3)) (sSeq (sIf (tAndD (tVal (eBin opEq (eCall (fun ds => m__law_draw (ds ++ [])) (aCons (eVar 0) (aCons (eC (.int 4)) aNil))) (eC (.int 0)))) (tAndD (tVal (eBin opGt (eCall bLen (aCons (eVar 2) aNil)) (eC (.int 0)))) (tVal (eBin opNotIn (eBin opIx (eVar 2) (eC (.int 0))) (eVar 3))))) (sAsg (eBin opIx (eVar 2) (eC (.int 0))) (gSubD (eVar 3) (eC (.int 0)))) sNx) partsRest)))) := rfl
theorem parts_spec {st : Sto} {b c : Nat} (hB : Box st b c) : Runs (m__law_parts [.loc b]) st fun d st' => ∃ S : PS, d = .tup [bitsD S, pagesD S, .str S.start, .int S.keep] ∧ S.OK ∧ Fr [b] st st' ∧ Box st' b c := by
  have hb := hB.lt
  have hc := hB.ltc
  have ends : ∀ {bits names : List Str} {keep : Int} {N : Nat} {st5 : Sto}, Box st5 b c → Fr [b] st st5 → lstAt st5 N = some (names.map .str) → N ≠ b → bits.length ≤ 3 → NamesOK bits → 2 ≤ names.length → names.length ≤ 5 → NamesOK names → 2 ≤ keep → keep ≤ 4 →
      Runs (partsRest [some (.loc b), some (.int keep), some (.tup (bits.map .str)), some (.loc N), none, none, none, none, none, none, none]) st5 fun c0 st' => match c0 with | .rt d => (∃ S : PS, d = .tup [bitsD S, pagesD S, .str S.start, .int S.keep] ∧ S.OK ∧ Fr [b] st st' ∧ Box st' b c) | .nx _ => False | _ => False := by
    intro bits names keep N st5 B5 F5 h1 h2 h3 h4 h5 h6 h7 h8 h9
    refine (rest_spec B5 h1 h2 h3 h4 h5 h6 h7 h8 h9).imp ?_
    rintro _ st6 ⟨S, rfl, hS, F6, B6⟩
    exact ⟨S, rfl, hS, F5.trans F6, B6⟩
  unfold m__law_parts
  rw [r_fn]
  refine ⟨rfl, ?_⟩
  rw [partsSplit]
  simp
  refine (draw_spec hB (by omega) (by omega)).imp ?_
  rintro _ st1 ⟨x, rfl, x0, x1, F1, B1⟩
  simp
  refine (draw_spec B1 (by omega) (by omega)).imp ?_
  rintro _ st2 ⟨y, rfl, y0, y1, F2, B2⟩
  obtain ⟨m, rfl⟩ := Int.eq_ofNat_of_zero_le y0
  have hm5 : m ≤ 5 := by clear ends; omega
  have hnm := names_spec B2 hm5
  refine hnm.imp ?_
  rintro _ st3 ⟨L, rfl, bits, hbits⟩
  simp [sq_lst hbits.at_]
  refine (draw_spec hbits.box (by omega) (by omega)).imp ?_
  rintro _ st4 ⟨z, rfl, z0, z1, F4, B4⟩
  obtain ⟨k, rfl⟩ := Int.eq_ofNat_of_zero_le z0
  simp
  refine (show (2 : Int) + (k : Int) = ((2 + k : Nat) : Int) by omega) ▸ (names_spec B4 (n := 2 + k) (by omega)).imp ?_
  rintro _ st5 ⟨N, rfl, names, hn⟩
  simp
  refine (draw_spec hn.box (by omega) (by omega)).imp ?_
  rintro _ st6 ⟨w, rfl, w0, w1, F6, B6⟩
  have g1 := F1.le
  have g2 := F2.le
  have g3 := hbits.fr.le
  have g4 := F4.le
  have g5 := hn.new
  have hNb : N ≠ b := by omega
  have hNc : N ≠ c := by omega
  have hN6 := F6.lst hn.at_ (by simpa using hNb)
  have F05 : Fr [b] st st4 := ((F1.trans F2).trans hbits.fr).trans F4
  have FF : Fr [b] st st6 := (F05.trans hn.fr).trans F6
  have hbl := hbits.len
  have hnl := hn.len
  have base := @ends bits names (2 + x) N st6 B6 FF hN6 hNb (by omega) hbits.ok (by omega) (by omega) hn.ok (by omega) (by omega)
  by_cases hw : w = 0
  · simp [hw]
    cases bits with
    | nil => simp; exact base
    | cons b0 br =>
      have hfl : ∀ x : D, x ∈ names.map D.str → x.flat = true := fun x hx => by
        obtain ⟨y, _, rfl⟩ := List.mem_map.mp hx; rfl
      simp [sq_lst hN6, inF_str, fl]
      by_cases hin : b0 ∈ names
      · simp [hin]; exact base
      · simp [hin, hN6]
        obtain ⟨nm0, nr, rfl⟩ : ∃ nm0 nr, names = nm0 :: nr := by
          cases names with
          | nil => simp at hnl; omega
          | cons a r => exact ⟨a, r, rfl⟩
        have hno := hn.ok
        have hL := lst_lt hN6
        refine ⟨0, by simp [ixN], ?_⟩
        refine @ends (b0 :: br) (b0 :: nr) (2 + x) N _ (B6.set hNb hNc) (FF.setNew (by omega)) ?_ hNb (by omega) hbits.ok (by simp at hnl ⊢; omega) (by simp at hnl ⊢; omega) ?_ (by omega) (by omega)
        · rw [lst_set hL]; rfl
        · refine ⟨fun z hz => ?_, ?_⟩
          · rcases List.mem_cons.mp hz with rfl | h
            · exact hbits.ok.1 _ (by simp)
            · exact hno.1 _ (by simp [h])
          · have := hno.2
            rw [List.nodup_cons] at this ⊢
            exact ⟨fun h => hin (by simp [h]), this.2⟩
  · simp [hw]; exact base
end
section
section
variable {st : Sto} {Q : D → Sto → Prop}
@[simp] theorem y_ss {s : Str} : Runs (isiB "str" (.str s)) st Q ↔ Q (.bl true) st := x_isi rfl (by decide +kernel)
@[simp] theorem y_tt {s : List D} : Runs (isiB "tuple" (.tup s)) st Q ↔ Q (.bl true) st := x_isi rfl (by decide +kernel)
@[simp] theorem y_bb {s : Bool} : Runs (isiB "bool" (.bl s)) st Q ↔ Q (.bl true) st := x_isi rfl (by decide +kernel)
@[simp] theorem y_ii {s : Int} : Runs (isiB "int" (.int s)) st Q ↔ Q (.bl true) st := x_isi rfl (by decide +kernel)
@[simp] theorem y_bi {s : Int} : Runs (isiB "bool" (.int s)) st Q ↔ Q (.bl false) st := x_isi rfl (by decide +kernel)
end
@[simp] theorem x_nei {st : Sto} {Q : D → Sto → Prop} {i j : Int} : Runs (opNe (.int i) (.int j)) st Q ↔ Q (.bl (!decide (i = j))) st := by
  have : eqData st (.int i) (.int j) = some (decide (i = j)) := by
    show some (i == j) = _
    by_cases h : i = j <;> simp [h]
  unfold Runs opNe; rw [this]
/-- runs to d, and all that stood stands -/
def Pu (m : M D) (st : Sto) (d : D) : Prop := Runs m st fun d' st' => d' = d ∧ Fr [] st st'
theorem Pu.go {m : M D} {st : Sto} {d : D} {Q : D → Sto → Prop} (h : Pu m st d) (k : ∀ st', Fr [] st st' → Q d st') : Runs m st Q := Runs.imp h fun d' st' ⟨e, F⟩ => by subst e; exact k st' F
theorem is_integer_p {st : Sto} {k : Int} : Pu (m_is_integer [.int k]) st (.bl true) := by
  unfold Pu m_is_integer b_is_integer
  rw [r_fn]
  refine ⟨rfl, ?_⟩
  simp
  exact .refl
theorem blsOf_map (bs : List Bool) : blsOf (bs.map D.bl) = some bs := by
  induction bs with
  | nil => rfl
  | cons b r ih => simp [blsOf, ih]
theorem blsOf_true (n : Nat) : blsOf (List.replicate n (D.bl true)) = some (List.replicate n true) := by
  have := blsOf_map (List.replicate n true)
  rwa [List.map_replicate] at this
theorem all_true (n : Nat) : (List.replicate n true).all _root_.id = true := by simp
theorem letters_in {c : Nat} (h : c ∈ lets) : (c ∈ (Str.ofString "abcdefghijklmnopqrstuvwxyz").cps.toList) := h
/-- a comprehension whose items all come out True -/
theorem lc_true {st : Sto} {gi : Item → En → M En} {te : En → M D} {L : Nat} {ρw : En} {items : List Item} {QU : Unit → Sto → Prop} {ok : Sto → Bool}
    (hL : lstAt st L = some []) (hlen : items.length ≤ 100) (hok : ∀ st', Fr [L] st st' → ok st' = true)
    (hs : ∀ it ∈ items, ∀ st', Fr [L] st st' → lstAt st' L = lstAt st' L → Runs (gi it ρw) st' fun ρ1 st1 => Runs (te ρ1) st1 fun y st2 => y = .bl true ∧ Fr [] st' st2)
    (hd : ∀ st', Fr [L] st st' → lstAt st' L = some (List.replicate items.length (.bl true)) → QU () st') : Runs (lcL ok gi tYesD te L ρw items) st QU := by
  refine runs_lcL (fun i st' => Fr [L] st st' ∧ lstAt st' L = some (List.replicate i (.bl true))) ⟨.refl, hL⟩ ?_ ?_
  · rintro i it st1 hi ⟨F, h⟩
    refine ⟨hok _ F, ?_⟩
    have hlt : i < items.length := by
      rcases Nat.lt_or_ge i items.length with z | z
      · exact z
      · rw [List.getElem?_eq_none z] at hi; cases hi
    refine (hs it (List.mem_of_getElem? hi) st1 F rfl).imp fun ρ1 st2 q => ?_
    rw [x_tyes]
    simp only [if_true]
    refine q.imp ?_
    rintro _ st3 ⟨rfl, F3⟩
    have h3 := F3.lst h (by simp)
    refine ⟨_, h3, by rw [List.length_replicate]; exact Nat.lt_of_le_of_lt (show i ≤ 100 by omega) (by decide), (F.trans (F3.sub (by simp))).trans (.set (by simp)), ?_⟩
    rw [lst_set (lst_lt h3), List.replicate_succ']
  · rintro st1 ⟨F, h⟩
    exact ⟨hok _ F, hd _ F h⟩
theorem Fr.fin {st st' : Sto} {o : SO} (k : Fr [st.length] (st ++ [o]) st') : Fr [] st st' :=
  ⟨by have := k.le; simp at this; omega, fun i a _ => (k.eq i (by simp; omega) (by simp; omega)).trans (List.getElem?_append_left a)⟩
theorem bind_bls {st : Sto} {L n : Nat} (h : lstAt st L = some (List.replicate n (D.bl true))) : (seqAt st L).bind blsOf = some (List.replicate n true) := by
  rw [sq_lst h]; exact blsOf_true n
theorem nofalse (n : Nat) : ¬ false ∈ List.replicate n true := by
  intro h; have := List.eq_of_mem_replicate h; cases this
theorem is_name_p {st : Sto} {s : Str} (h : NameOK s) : Pu (m_is_name [.str s]) st (.bl true) := by
  have h1 := h.1
  have h2 := h.2.1
  unfold Pu m_is_name b_is_name
  rw [r_fn]
  refine ⟨rfl, ?_⟩
  simp [sz8 (show s.length ≤ 1000 by omega)]
  refine ⟨by omega, by omega, lc_true lst_new ?_ (fun _ _ => rfl) ?_ ?_⟩
  · rw [List.length_map]; show s.length ≤ 100; omega
  · intro it hit st1 F _
    obtain ⟨c, hc, rfl⟩ := List.mem_map.mp hit
    simp [wipeD]
    exact ⟨by simpa using letters_in (h.2.2 c hc), .refl⟩
  · intro st1 F hL
    exact ⟨_, bind_bls hL, nofalse _, F.fin⟩
theorem cntD_nodup : ∀ (xs pre : List Str), xs.Nodup → (∀ x ∈ xs, x ∉ pre) → cntD pre xs = xs.length
  | [], _, _, _ => rfl
  | x :: r, pre, h, k => by
    rw [List.nodup_cons] at h
    unfold cntD
    rw [if_neg (k x (by simp)), cntD_nodup r _ h.2 (fun y hy => by
      intro z
      rcases List.mem_append.mp z with z | z
      · exact k y (by simp [hy]) z
      · simp at z; subst z; exact h.1 hy)]
    simp only [List.length_cons]; omega
theorem strsOf_map : ∀ xs : List Str, strsOf (xs.map D.str) = some xs
  | [] => rfl
  | x :: r => by simp [strsOf, strsOf_map r]
theorem lenSet_p {st : Sto} {xs : List Str} {Q : D → Sto → Prop} (h : xs.Nodup) (hl : xs.length ≤ 20) (q : Q (.int xs.length) st) : Runs (lenSetD (.tup (xs.map .str))) st Q := by
  refine Runs.of (a := .int xs.length) (st' := st) ?_ q
  unfold lenSetD
  simp only [strsOf_map, if_pos hl, cntD_nodup xs [] h (by simp)]
theorem are_names_p {st : Sto} {xs : List Str} (h : NamesOK xs) (hl : xs.length ≤ 5) : Pu (m_are_different_names [.tup (xs.map .str)]) st (.bl true) := by
  unfold Pu m_are_different_names b_are_different_names
  rw [r_fn]
  refine ⟨rfl, ?_⟩
  simp
  refine lc_true lst_new ?_ (fun _ _ => rfl) ?_ ?_
  · rw [List.length_map]; omega
  · intro it hit st1 F _
    obtain ⟨s, hs, rfl⟩ := List.mem_map.mp hit
    simp [wipeD]
    exact Pu.go (is_name_p (h.1 s hs)) fun st2 F2 => ⟨rfl, F2⟩
  · intro st1 F hL
    refine ⟨_, bind_bls hL, ?_⟩
    simp
    exact lenSet_p h.2 (by omega) (by simp; exact F.fin)
theorem are_bits_p {st : Sto} {xs : List Str} (h : NamesOK xs) (hl : xs.length ≤ 3) : Pu (m_are_bits [.tup (xs.map .str)]) st (.bl true) := by
  unfold Pu m_are_bits b_are_bits
  rw [r_fn]
  refine ⟨rfl, ?_⟩
  simp
  exact ⟨by omega, Pu.go (are_names_p h (by omega)) fun st2 F2 => ⟨rfl, F2⟩⟩
theorem named_p {st : Sto} {p : Pg} : Pu (m_is_named_page [p.d]) st (.bl true) := by
  unfold Pu m_is_named_page b_is_named_page Pg.d
  rw [r_fn]
  refine ⟨rfl, ?_⟩
  simp
  exact .refl
theorem names_of_p {st : Sto} {ps : List Pg} (hl : ps.length ≤ 5) : Pu (m_names_of [.tup (ps.map Pg.d)]) st (.tup ((ps.map Pg.name).map .str)) := by
  unfold Pu m_names_of b_names_of
  rw [r_fn]
  refine ⟨rfl, ?_⟩
  simp
  refine runs_lcL (fun i st' => st' = st ++ [.lst ((ps.take i).map fun p => .str p.name)]) (by simp) ?_ ?_
  · rintro i it st1 hi rfl
    obtain ⟨hk, rfl⟩ := map_item (f := Pg.d) (by rw [List.map_map]; exact hi)
    refine ⟨rfl, ?_⟩
    simp [wipeD, Pg.d]
    refine ⟨_, lst_new, ?_, ?_⟩
    · rw [← List.map_take, List.length_map, List.length_take]; exact Nat.lt_of_le_of_lt (show min i ps.length ≤ 100 by omega) (by decide)
    · rw [← List.map_take, ← List.map_take, ← List.take_append_getElem hk, List.map_append]; rfl
  · rintro st1 rfl
    refine ⟨rfl, _, sq_lst lst_new, ?_, .new⟩
    rw [List.take_of_length_le (by simp)]; rfl
theorem are_pages_p {st : Sto} {ps : List Pg} (h2 : 2 ≤ ps.length) (hl : ps.length ≤ 5) (hn : NamesOK (ps.map Pg.name)) : Pu (m_are_pages [.tup (ps.map Pg.d)]) st (.bl true) := by
  unfold Pu m_are_pages b_are_pages
  rw [r_fn]
  refine ⟨rfl, ?_⟩
  simp
  refine ⟨by omega, by omega, lc_true lst_new ?_ (fun _ _ => rfl) ?_ ?_⟩
  · rw [List.length_map]; omega
  · intro it hit st1 F _
    obtain ⟨s, hs, rfl⟩ := List.mem_map.mp hit
    simp [wipeD]
    exact Pu.go named_p fun st2 F2 => ⟨rfl, F2⟩
  · intro st1 F hL
    refine ⟨_, bind_bls hL, ?_⟩
    simp
    refine Pu.go (names_of_p hl) fun st2 F2 => ?_
    exact Pu.go (are_names_p hn (by simpa using hl)) fun st3 F3 => ⟨rfl, (F.fin.trans F2).trans F3⟩
end
section
def brD : Row → List D
  | .br _ t e => [.tup (rowsD t), .tup (rowsD e)]
  | _ => []
@[simp] theorem cut3 {x a b : D} : cutD [x, a, b] (some (-2)) none = [a, b] := rfl
@[simp] theorem cut4 {x y a b : D} : cutD [x, y, a, b] (some (-2)) none = [a, b] := rfl
@[simp] theorem am31 {x a b : D} : atI [x, a, b] (-1) = some b := rfl
@[simp] theorem am32 {x a b : D} : atI [x, a, b] (-2) = some a := rfl
@[simp] theorem am41 {x y a b : D} : atI [x, y, a, b] (-1) = some b := rfl
@[simp] theorem am42 {x y a b : D} : atI [x, y, a, b] (-2) = some a := rfl
theorem branches_p {st : Sto} {r : Row} : Pu (m_branches [r.d]) st (.tup (brD r)) := by
  unfold Pu m_branches b_branches
  rw [r_fn]
  refine ⟨rfl, ?_⟩
  cases r with
  | br h t e => cases h <;> simp [Row.d, hdD, brD] <;> exact .refl
  | _ => simp [Row.d, brD] <;> exact .refl
theorem may_p {st : Sto} {pos : List D} {h : Option Str} {t e : List Row} {n : Nat} (hp : pos.length + 2 * n = 7) (hn : 1 ≤ n) : Pu (m_may_branch [.tup pos, (Row.br h t e).d]) st (.bl true) := by
  unfold Pu m_may_branch b_may_branch
  rw [r_fn]
  refine ⟨rfl, ?_⟩
  cases h <;> simp [Row.d, hdD] <;> exact ⟨by omega, .refl⟩
theorem enum_item : ∀ {ds : List D} {n i : Nat} {it : Item}, (enumD n ds)[i]? = some it → ∃ h : i < ds.length, it = .two (.int ((n + i : Nat) : Int)) ds[i]
  | [], n, i, it, h => by simp [enumD] at h
  | d :: r, n, 0, it, h => by simp [enumD] at h; exact ⟨by simp, by simp [h]⟩
  | d :: r, n, i + 1, it, h => by
    rw [enumD, List.getElem?_cons_succ] at h
    obtain ⟨q, e⟩ := enum_item h
    refine ⟨by simp; omega, ?_⟩
    rw [e]; simp; omega
theorem eqRef0 : eqData [] (.tup [.str "refuse"]) (.tup [.str "refuse"]) = some true := by decide +kernel
theorem eqRef {st : Sto} : eqData st (.tup [.str "refuse"]) (.tup [.str "refuse"]) = some true := eqRef0
@[simp] theorem x_eqref {st : Sto} {Q : D → Sto → Prop} : Runs (opEq (.tup [.str "refuse"]) (.tup [.str "refuse"])) st Q ↔ Q (.bl true) st := by
  unfold Runs opEq; rw [eqRef]
theorem is_row_p {st : Sto} {bits names : List Str} {ent : Bool} {pos : List D} {r : Row} {n : Nat} (h : ROk bits names ent n r) (hp : pos.length + 2 * n = 7) : Pu (m_is_row [.tup (bits.map .str), .tup (names.map .str), .str (sideS ent), .tup pos, r.d]) st (.bl true) := by
  unfold Pu m_is_row b_is_row
  rw [r_fn]
  refine ⟨rfl, ?_⟩
  have hfl : ∀ (xs : List Str) (x : D), x ∈ xs.map D.str → x.flat = true := fun xs x hx => by
    obtain ⟨y, _, rfl⟩ := List.mem_map.mp hx; rfl
  cases r with
  | refuse =>
    simp [Row.d]
    exact .refl
  | lead s =>
    have h' : s ∈ names ∧ ent = true := by cases n <;> exact h
    simp [Row.d, fl, inF_str, h'.1, h'.2, sideS]
    exact .refl
  | set b v =>
    have h' : b ∈ bits := by cases n <;> exact h
    simp [Row.d, fl, inF_str, h']
    exact .refl
  | br hd t e =>
    cases n with
    | zero => exact h.elim
    | succ n =>
      cases hd with
      | none =>
        have := @may_p st pos none t e (n + 1) hp (by omega)
        simp [Row.d, hdD] at this ⊢
        exact Pu.go this fun st2 F2 => ⟨rfl, F2⟩
      | some b =>
        have h' : b ∈ bits := h.1 b rfl
        have := @may_p st pos (some b) t e (n + 1) hp (by omega)
        simp [Row.d, hdD, fl, inF_str, h'] at this ⊢
        exact Pu.go this fun st2 F2 => ⟨rfl, F2⟩
theorem rowsD_get {rs : List Row} {i : Nat} (h : i < (rowsD rs).length) : ∃ h' : i < rs.length, (rowsD rs)[i] = rs[i].d := by
  have e := rowsD_map rs
  have h' : i < rs.length := by rw [e, List.length_map] at h; exact h
  refine ⟨h', ?_⟩
  have : (rowsD rs)[i]? = some (rs[i].d) := by rw [e, List.getElem?_map, List.getElem?_eq_getElem h']; rfl
  rw [List.getElem?_eq_getElem h] at this
  exact Option.some.inj this
def Row.ins : Row → List (List Row)
  | .br _ t e => [t, e]
  | _ => []
theorem brD_item {bits names : List Str} {ent : Bool} {n j : Nat} {r : Row} (h : ROk bits names ent n r) (hj : j < (brD r).length) : ∃ m rs', n = m + 1 ∧ (brD r)[j] = .tup (rowsD rs') ∧ (∀ r' ∈ rs', ROk bits names ent m r') ∧ r.ins[j]? = some rs' := by
  cases r with
  | br hd t e =>
    cases n with
    | zero => exact h.elim
    | succ n =>
      rcases j with _ | _ | j
      · exact ⟨n, t, rfl, rfl, h.2.1, rfl⟩
      · exact ⟨n, e, rfl, rfl, h.2.2, rfl⟩
      · simp [brD] at hj; omega
  | _ => simp [brD] at hj
theorem first_p {bits names : List Str} {ent : Bool} : ∀ (n : Nat) {st : Sto} {rs : List Row} {bef : List D}, (∀ r ∈ rs, ROk bits names ent n r) → bef.length + 2 * n = 6 → Pu (m_first_wrong_row (n + 2) [.tup (bits.map .str), .tup (names.map .str), .str (sideS ent), .tup (rowsD rs), .tup bef]) st .non := by
  intro n
  have all : ∀ n, (∀ m, n = m + 1 → ∀ {st : Sto} {rs : List Row} {bef : List D}, (∀ r ∈ rs, ROk bits names ent m r) → bef.length + 2 * m = 6 → Pu (m_first_wrong_row (m + 2) [.tup (bits.map .str), .tup (names.map .str), .str (sideS ent), .tup (rowsD rs), .tup bef]) st .non) → ∀ {st : Sto} {rs : List Row} {bef : List D}, (∀ r ∈ rs, ROk bits names ent n r) → bef.length + 2 * n = 6 → Pu (m_first_wrong_row (n + 2) [.tup (bits.map .str), .tup (names.map .str), .str (sideS ent), .tup (rowsD rs), .tup bef]) st .non := by
    intro n ih st rs bef hok hb
    unfold Pu
    rw [m_first_wrong_row, r_fn]
    refine ⟨rfl, ?_⟩
    simp
    refine runs_forL (fun i ρ st' => (∃ a5 a6 a7 a8 a9 a10, ρ = [some (.tup (bits.map .str)), some (.tup (names.map .str)), some (.str (sideS ent)), some (.tup (rowsD rs)), some (.tup bef), a5, a6, a7, a8, a9, a10]) ∧ Fr [] st st') ⟨⟨_, _, _, _, _, _, rfl⟩, .refl⟩ ?_ ?_
    · rintro i it ρ st1 hi ⟨⟨a5, a6, a7, a8, a9, a10, rfl⟩, F1⟩
      obtain ⟨hlt, rfl⟩ := enum_item hi
      obtain ⟨hlt', he⟩ := rowsD_get hlt
      have hr := hok _ (List.getElem_mem hlt')
      rw [he]
      refine ⟨rfl, ?_⟩
      simp [sz8 (show bef.length + 1 ≤ 1000 by omega)]
      refine Pu.go (is_row_p hr (by simp; omega)) fun st2 F2 => ?_
      simp
      refine Pu.go branches_p fun st3 F3 => ?_
      simp
      refine runs_forL (fun j ρ st' => (∃ a8 a9 a10, ρ = [some (.tup (bits.map .str)), some (.tup (names.map .str)), some (.str (sideS ent)), some (.tup (rowsD rs)), some (.tup bef), some (.int i), some (rs[i].d), some (.tup (bef ++ [.int i])), a8, a9, a10]) ∧ Fr [] st st') ⟨⟨_, _, _, rfl⟩, (F1.trans F2).trans F3⟩ ?_ ?_
      · rintro j it ρ st4 hj ⟨⟨a8, a9, a10, rfl⟩, F4⟩
        obtain ⟨hjl, rfl⟩ := enum_item hj
        obtain ⟨m, rs', hm, e2, hok', _⟩ := brD_item hr hjl
        rw [e2]
        refine ⟨rfl, ?_⟩
        simp [sz8 (show bef.length + 1 + 1 ≤ 1000 by omega)]
        subst hm
        refine Pu.go (ih m rfl hok' (by simp; omega)) fun st5 F5 => ?_
        simp [D.isNon]
        exact F4.trans F5
      · rintro ρ st4 ⟨⟨a8, a9, a10, rfl⟩, F4⟩
        refine ⟨rfl, ?_⟩
        simp
        exact F4
    · rintro ρ st1 ⟨⟨a5, a6, a7, a8, a9, a10, rfl⟩, F1⟩
      refine ⟨rfl, ?_⟩
      simp
      exact F1
  induction n with
  | zero => exact all 0 (fun m h => by cases h)
  | succ n ih => exact all (n + 1) (fun m h => by injection h with h; subst h; exact ih)
end
section
def Row.isSet : Row → Bool
  | .set _ _ => true
  | _ => false
mutual
def Row.hs : Row → Bool
  | .set _ _ => true
  | .br _ t e => hsL t || hsL e
  | _ => false
def hsL : List Row → Bool
  | [] => false
  | r :: rs => r.hs || hsL rs
end
theorem hsL_app : ∀ xs ys, hsL (xs ++ ys) = (hsL xs || hsL ys)
  | [], ys => by simp [hsL]
  | x :: xs, ys => by simp only [List.cons_append, hsL, hsL_app xs ys, Bool.or_assoc]
/-- rows with their positions -/
structure PR (rs : List Row) (es : List D) (prs : List (List D × Row)) : Prop where
  es : es = prs.map fun p => D.tup [.tup p.1, p.2.d]
  len : prs.length = cntL rs
  hs : prs.any (fun p => p.2.isSet) = hsL rs
theorem brD_ins (r : Row) : brD r = r.ins.map fun t => .tup (rowsD t) := by cases r <;> rfl
theorem cnt_ins (r : Row) : r.cnt = 1 + (r.ins.map cntL).sum := by
  cases r <;> simp [Row.cnt, Row.ins] <;> omega
theorem hs_ins (r : Row) : r.hs = (r.isSet || r.ins.any hsL) := by
  cases r <;> simp [Row.hs, Row.ins, Row.isSet]
theorem enumD_len : ∀ (ds : List D) (n : Nat), (enumD n ds).length = ds.length
  | [], _ => rfl
  | d :: r, n => by simp [enumD, enumD_len r]
def RwpQ (rs : List Row) (st : Sto) (d : D) (st' : Sto) : Prop := ∃ L es prs, d = .loc L ∧ lstAt st' L = some es ∧ PR rs es prs ∧ st.length ≤ L ∧ Fr [] st st'
theorem rwp_p {bits names : List Str} {ent : Bool} : ∀ (n : Nat) {st : Sto} {rs : List Row} {bef : List D}, (∀ r ∈ rs, ROk bits names ent n r) → bef.length + 2 * n = 6 → cntL rs ≤ 1000 → Runs (m_rows_with_positions (n + 2) [.tup (rowsD rs), .tup bef]) st (RwpQ rs st) := by
  intro n
  have all : ∀ n, (∀ m, n = m + 1 → ∀ {st : Sto} {rs : List Row} {bef : List D}, (∀ r ∈ rs, ROk bits names ent m r) → bef.length + 2 * m = 6 → cntL rs ≤ 1000 → Runs (m_rows_with_positions (m + 2) [.tup (rowsD rs), .tup bef]) st (RwpQ rs st)) → ∀ {st : Sto} {rs : List Row} {bef : List D}, (∀ r ∈ rs, ROk bits names ent n r) → bef.length + 2 * n = 6 → cntL rs ≤ 1000 → Runs (m_rows_with_positions (n + 2) [.tup (rowsD rs), .tup bef]) st (RwpQ rs st) := by
    intro n ih st rs bef hok hb hc
    rw [m_rows_with_positions, r_fn]
    refine ⟨rfl, ?_⟩
    simp
    refine runs_forL (fun i ρ st' => (∃ a3 a4 a5 a6 a7, ρ = [some (.tup (rowsD rs)), some (.tup bef), some (.loc st.length), a3, a4, a5, a6, a7]) ∧ ∃ es prs, lstAt st' st.length = some es ∧ PR (rs.take i) es prs ∧ Fr [] st st') ⟨⟨_, _, _, _, _, rfl⟩, [], [], lst_new, ⟨rfl, rfl, rfl⟩, .new⟩ ?_ ?_
    · rintro i it ρ st1 hi ⟨⟨a3, a4, a5, a6, a7, rfl⟩, es, prs, hL, hP, F1⟩
      obtain ⟨hlt, rfl⟩ := enum_item hi
      obtain ⟨hlt', he⟩ := rowsD_get hlt
      have hr := hok _ (List.getElem_mem hlt')
      have htk : rs.take (i + 1) = rs.take i ++ [rs[i]] := (List.take_append_getElem hlt').symm
      have hcs : cntL (rs.take i) + rs[i].cnt ≤ 1000 := by
        have : cntL rs = cntL (rs.take (i + 1)) + cntL (rs.drop (i + 1)) := by rw [← cntL_app, List.take_append_drop]
        rw [htk, cntL_app] at this
        simp only [cntL] at this
        omega
      rw [he]
      refine ⟨rfl, ?_⟩
      have hlen : es.length = cntL (rs.take i) := by rw [hP.es, List.length_map, hP.len]
      simp [sz8 (show bef.length + 1 ≤ 1000 by omega), sq_lst hL, hL]
      have hcp := cnt_pos rs[i]
      refine ⟨by rw [hlen]; exact Nat.lt_of_le_of_lt (show cntL (rs.take i) ≤ 1000 by omega) (by decide), ?_⟩
      have hLl := lst_lt hL
      refine Pu.go branches_p fun st3 F3 => ?_
      simp
      have hL3 : lstAt st3 st.length = some (es ++ [.tup [.tup (bef ++ [.int i]), rs[i].d]]) := F3.lst (lst_set hLl) (by simp)
      have F13 : Fr [] st st3 := (F1.setNew (Nat.le_refl _)).trans F3
      refine runs_forL (fun j ρ st' => (∃ a6 a7, ρ = [some (.tup (rowsD rs)), some (.tup bef), some (.loc st.length), some (.int i), some (rs[i].d), some (.tup (bef ++ [.int i])), a6, a7]) ∧ ∃ es' prs', lstAt st' st.length = some es' ∧ es' = prs'.map (fun p => D.tup [.tup p.1, p.2.d]) ∧ prs'.length = cntL (rs.take i) + 1 + ((rs[i].ins.take j).map cntL).sum ∧ prs'.any (fun p => p.2.isSet) = (hsL (rs.take i) || rs[i].isSet || (rs[i].ins.take j).any hsL) ∧ Fr [] st st') ⟨⟨_, _, rfl⟩, _, prs ++ [(bef ++ [.int i], rs[i])], hL3, by rw [hP.es, List.map_append]; rfl, by simp [hP.len], by simp [List.any_append, hP.hs], F13⟩ ?_ ?_
      · rintro j it ρ st4 hj ⟨⟨a6, a7, rfl⟩, es', prs', hL4, he4, hl4, hs4, F4⟩
        obtain ⟨hjl, rfl⟩ := enum_item hj
        obtain ⟨m, rs', hm, e2, hok', hin⟩ := brD_item hr hjl
        have hji : j < rs[i].ins.length := by rw [brD_ins, List.length_map] at hjl; exact hjl
        have hjt : rs[i].ins.take (j + 1) = rs[i].ins.take j ++ [rs[i].ins[j]] := (List.take_append_getElem hji).symm
        have hrs' : rs' = rs[i].ins[j] := by
          rw [List.getElem?_eq_getElem hji] at hin
          injection hin with hin; exact hin.symm
        have hrc : cntL rs' = cntL rs[i].ins[j] := by rw [hrs']
        have hrh : hsL rs' = hsL rs[i].ins[j] := by rw [hrs']
        have hcb : cntL (rs.take i) + 1 + ((rs[i].ins.take j).map cntL).sum + cntL rs' ≤ 1000 := by
          have h1 := cnt_ins rs[i]
          have h2 : (rs[i].ins.map cntL).sum = ((rs[i].ins.take (j + 1)).map cntL).sum + ((rs[i].ins.drop (j + 1)).map cntL).sum := by
            rw [← List.sum_append, ← List.map_append, List.take_append_drop]
          rw [hjt, List.map_append, List.sum_append] at h2
          simp only [List.map_cons, List.map_nil, List.sum_cons, List.sum_nil] at h2
          omega
        rw [e2]
        refine ⟨rfl, ?_⟩
        simp [sz8 (show bef.length + 1 + 1 ≤ 1000 by omega), sq_lst hL4]
        subst hm
        refine (ih m rfl hok' (by simp; omega) (by omega)).imp ?_
        rintro _ st5 ⟨L5, es5, prs5, rfl, hL5, hP5, hn5, F5⟩
        have hL45 := F5.lst hL4 (by simp)
        have hl5 : es5.length = cntL rs' := by rw [hP5.es, List.length_map, hP5.len]
        have hl4' : es'.length = cntL (rs.take i) + 1 + ((rs[i].ins.take j).map cntL).sum := by rw [he4, List.length_map, hl4]
        simp [hL45, hL5]
        refine ⟨?_, _, lst_set (lst_lt hL45), prs' ++ prs5, ?_, ?_, ?_, (F4.trans F5).setNew (Nat.le_refl _)⟩
        · rw [hl5, hl4']; exact sz8 (by omega)
        · rw [he4, hP5.es, List.map_append]
        · rw [List.length_append, hl4, hP5.len, ← List.map_take, hjt, List.map_append, List.sum_append]; simp; omega
        · rw [List.any_append, hs4, hP5.hs, hjt, List.any_append, hrh]; simp [Bool.or_assoc]
      · rintro ρ st4 ⟨⟨a6, a7, rfl⟩, es', prs', hL4, he4, hl4, hs4, F4⟩
        refine ⟨rfl, ?_⟩
        simp
        have hall : rs[i].ins.take (enumD 0 (brD rs[i])).length = rs[i].ins := List.take_of_length_le (by rw [enumD_len, brD_ins, List.length_map]; omega)
        rw [hall] at hl4 hs4
        refine ⟨es', hL4, ⟨prs', he4, ?_, ?_⟩, F4⟩
        · rw [hl4, htk, cntL_app]; simp only [cntL]; rw [cnt_ins]; omega
        · rw [hs4, htk, hsL_app]; simp only [hsL]; rw [hs_ins, Bool.or_false, Bool.or_assoc]
    · rintro ρ st1 ⟨⟨a3, a4, a5, a6, a7, rfl⟩, es, prs, hL, hP, F1⟩
      refine ⟨rfl, ?_⟩
      simp
      have : rs.take (enumD 0 (rowsD rs)).length = rs := List.take_of_length_le (by rw [enumD_len, rowsD_map, List.length_map]; omega)
      rw [this] at hP
      exact ⟨_, es, prs, rfl, hL, hP, Nat.le_refl _, F1⟩
  induction n with
  | zero => exact all 0 (fun m h => by cases h)
  | succ n ih => exact all (n + 1) (fun m h => by injection h with h; subst h; exact ih)
end
section
@[simp] theorem r_fld {st : Sto} {ρ : En} {Q : D → Sto → Prop} {c : Nat} {n : Str} {f : En → M D} : Runs (eFld c n f ρ) st Q ↔ Runs (f ρ) st fun x st1 => match x with | .loc i => ∃ fs, st1[i]? = some (.obj c fs) ∧ ∃ d, fs.lookup n = some d ∧ Q d st1 | _ => False := by
  with_unfolding_all
    unfold eFld; rw [runs_bind]
    constructor <;> intro z <;> refine z.imp fun x st1 q => ?_ <;> cases x <;> try exact q
    · rename_i i
      unfold Runs at q
      show ∃ fs, _
      rcases h : st1[i]? with _ | o
      · simp [h] at q
      · cases o with
        | obj c' fs =>
          simp only [h] at q
          by_cases hc : c' = c
          · subst hc
            simp only [if_true] at q
            rcases hl : fs.lookup n with _ | d
            · simp [hl] at q
            · simp only [hl] at q; exact ⟨fs, rfl, d, hl, q⟩
          · simp [hc] at q
        | _ => simp [h] at q
    · rename_i i
      obtain ⟨fs, h, d, hl, q⟩ := q
      unfold Runs
      simp only [h, if_true, hl]; exact q
@[simp] theorem r_sfld {st : Sto} {ρ : En} {Q : Ctl → Sto → Prop} {c : Nat} {n : Str} {fv fo : En → M D} : Runs (sFld c n fv fo ρ) st Q ↔ Runs (fv ρ) st fun d st1 => Runs (fo ρ) st1 fun o st2 => Runs (setFld c n d o) st2 fun _ st3 => Q (.nx ρ) st3 := by
  unfold sFld; simp only [runs_bind, runs_pure]
theorem x_setf {st : Sto} {Q : Unit → Sto → Prop} {c i : Nat} {n : Str} {d : D} {fs : List (Str × D)} (h : st[i]? = some (.obj c fs)) (hl : fs.length < 1000) (q : Q () (st.set i (.obj c (putFD n d fs)))) : Runs (setFld c n d (.loc i)) st Q := by
  refine Runs.of (a := ()) (st' := st.set i (.obj c (putFD n d fs))) ?_ q
  unfold setFld; simp only [h, and_self, hl, if_true]
theorem f_nil {st : Sto} {ρ : En} {QC : Ctl → Sto → Prop} {ok : Sto → Bool} {gi : Item → En → M En} {b : En → M Ctl} : Runs (forL ok gi b [] ρ) st QC ↔ ok st = true ∧ QC (.nx ρ) st := by
  with_unfolding_all
    rw [forL, runs_bind]
    unfold Runs guardS
    by_cases h : ok st = true
    · simp only [h, if_true, true_and]; exact Iff.rfl
    · simp [h]
theorem f_cons {st : Sto} {ρ : En} {QC : Ctl → Sto → Prop} {ok : Sto → Bool} {gi : Item → En → M En} {b : En → M Ctl} {it : Item} {r : List Item} : Runs (forL ok gi b (it :: r) ρ) st QC ↔ ok st = true ∧ Runs (gi it ρ) st fun ρ1 st1 => Runs (b ρ1) st1 fun c st2 => match c with
    | .nx ρ2 => Runs (forL ok gi b r ρ2) st2 QC
    | .ct ρ2 => Runs (forL ok gi b r ρ2) st2 QC
    | .bk ρ2 => QC (.nx ρ2) st2
    | .rt d => QC (.rt d) st2 := by
  with_unfolding_all
    rw [forL, runs_bind]
    have : ∀ {QU : Unit → Sto → Prop}, Runs (guardS ok) st QU ↔ ok st = true ∧ QU () st := by
      intro QU
      unfold Runs guardS
      by_cases h : ok st = true
      · simp only [h, if_true, true_and]
      · simp [h]
    rw [this]
    refine and_congr Iff.rfl ?_
    rw [runs_bind]
    constructor <;> intro z <;> refine z.imp fun ρ1 st1 q => ?_
    · rw [runs_bind] at q; refine q.imp fun c st2 q => ?_; cases c <;> exact q
    · rw [runs_bind]; refine q.imp fun c st2 q => ?_; cases c <;> exact q
theorem x_mk {st : Sto} {Q : D → Sto → Prop} {c : Nat} {m : D → M D} : (Runs (m (.loc st.length)) (st ++ [.obj c []]) fun d st' => d = .non ∧ Q (.loc st.length) st') → Runs (mkM c m) st Q := by
  intro z
  obtain ⟨a, st', e, rfl, q⟩ := z.get
  exact Runs.of (by unfold mkM; rw [e]) q
theorem chk_guard_p {st : Sto} {bits names : List Str} {ent : Bool} {rs : List Row} {page : Str} (hok : ∀ r ∈ rs, ROk bits names ent 3 r) (hc : cntL rs ≤ 8) : Pu (m_check_guard [.tup (bits.map .str), .tup (names.map .str), .str page, .str (sideS ent), .tup (rowsD rs)]) st .non := by
  unfold Pu m_check_guard b_check_guard
  rw [r_fn]
  refine ⟨rfl, ?_⟩
  simp
  refine Pu.go (first_p 3 hok rfl) fun st2 F2 => ?_
  simp [D.isNon]
  refine (rwp_p 3 hok rfl (by omega)).imp ?_
  rintro _ st3 ⟨L, es, prs, rfl, hL, hP, hn, F3⟩
  have hl : es.length = cntL rs := by rw [hP.es, List.length_map, hP.len]
  have hl8 : ¬ (8 < es.length) := by omega
  have hl8' : ¬ ((8 : Int) < es.length) := by omega
  simp [sq_lst hL, hl8, hl8', r_never]
  first | exact F2.trans F3 | exact ⟨by omega, F2.trans F3⟩
theorem chk_site_p {st : Sto} {S : PS} (h : S.OK) : Pu (m_check_site [bitsD S, pagesD S, .str S.start, .int S.keep]) st .non := by
  unfold Pu m_check_site b_check_site bitsD pagesD
  rw [r_fn]
  refine ⟨rfl, ?_⟩
  simp
  refine Pu.go (are_bits_p h.bo h.bl) fun st1 F1 => ?_
  simp
  refine Pu.go (are_pages_p h.p2 h.p5 h.no) fun st2 F2 => ?_
  simp
  refine Pu.go (names_of_p h.p5) fun st3 F3 => ?_
  simp
  refine runs_forL (fun i ρ st' => (∃ a5 a6 a7 a8, ρ = [some (.tup (S.bits.map .str)), some (.tup (S.pages.map Pg.d)), some (.str S.start), some (.int S.keep), some (.tup (S.names.map .str)), a5, a6, a7, a8]) ∧ Fr [] st st') ⟨⟨none, none, none, none, by unfold PS.names; simp⟩, (F1.trans F2).trans F3⟩ ?_ ?_
  · rintro i it ρ st4 hi ⟨⟨a5, a6, a7, a8, rfl⟩, F4⟩
    obtain ⟨hk, rfl⟩ := map_item (f := Pg.d) (by rw [List.map_map]; exact hi)
    have hp := h.pg _ (List.getElem_mem hk)
    refine ⟨rfl, ?_⟩
    simp [Pg.d, enumD, f_cons, f_nil]
    refine Pu.go (chk_guard_p (ent := true) hp.e hp.ec) fun st5 F5 => ?_
    refine Pu.go (chk_guard_p (ent := false) hp.l hp.lc) fun st6 F6 => ?_
    try simp [f_nil]
    exact (F4.trans F5).trans F6
  · rintro ρ st4 ⟨⟨a5, a6, a7, a8, rfl⟩, F4⟩
    refine ⟨rfl, ?_⟩
    have hst : S.start ∈ S.names := h.st
    have h2 := h.k2
    have h4 := h.k4
    have hfl : ∀ (xs : List Str) (x : D), x ∈ xs.map D.str → x.flat = true := fun xs x hx => by
      obtain ⟨y, _, rfl⟩ := List.mem_map.mp hx; rfl
    simp [inF_str, hst, fl]
    refine Pu.go is_integer_p fun st5 F5 => ?_
    simp [h2, h4]
    exact F4.trans F5
def siteO (S : PS) : SO := .obj 0 [("bits", bitsD S), ("pages", pagesD S), ("start", .str S.start), ("keep", .int S.keep)]
structure SiteAt (st : Sto) (o : Nat) (S : PS) : Prop where
  at_ : st[o]? = some (siteO S)
  ok : S.OK
theorem SiteAt.fr {st st' : Sto} {o : Nat} {S : PS} {ex : List Nat} (h : SiteAt st o S) (F : Fr ex st st') (n : o ∉ ex) : SiteAt st' o S := by
  have : o < st.length := by
    rcases Nat.lt_or_ge o st.length with z | z
    · exact z
    · have := h.at_; rw [List.getElem?_eq_none z] at this; cases this
  exact ⟨(F.eq o this n).trans h.at_, h.ok⟩
theorem fn1 : ((Str.ofString "bits" : Str) = Str.ofString "pages") = False := by simp; decide +kernel
theorem fn2 : ((Str.ofString "bits" : Str) = Str.ofString "start") = False := by simp; decide +kernel
theorem fn3 : ((Str.ofString "bits" : Str) = Str.ofString "keep") = False := by simp; decide +kernel
theorem fn4 : ((Str.ofString "pages" : Str) = Str.ofString "start") = False := by simp; decide +kernel
theorem fn5 : ((Str.ofString "pages" : Str) = Str.ofString "keep") = False := by simp; decide +kernel
theorem fn6 : ((Str.ofString "start" : Str) = Str.ofString "keep") = False := by simp; decide +kernel
theorem mk_site {st : Sto} {S : PS} {Q : D → Sto → Prop} (h : S.OK) (q : ∀ st', SiteAt st' st.length S → Fr [] st st' → Q (.loc st.length) st') : Runs (mkM 0 fun o => m_Site___init__ [o, bitsD S, pagesD S, .str S.start, .int S.keep]) st Q := by
  refine x_mk ?_
  unfold m_Site___init__ b_Site___init__
  rw [r_fn]
  refine ⟨rfl, ?_⟩
  simp
  refine Pu.go (chk_site_p h) fun st1 F1 => ?_
  have hl : st.length < st1.length := by have := F1.le; simp at this; omega
  have ho : st1[st.length]? = some (.obj 0 []) := by rw [F1.eq st.length (by simp) (by simp)]; simp
  refine x_setf ho (by decide) ?_
  try simp
  refine x_setf (fs := [("bits", bitsD S)]) (by simp [hl, putFD]) (by simp) ?_
  simp
  refine x_setf (fs := [("bits", bitsD S), ("pages", pagesD S)]) (by simp [hl, putFD, fn1]) (by simp) ?_
  simp
  refine x_setf (fs := [("bits", bitsD S), ("pages", pagesD S), ("start", .str S.start)]) (by simp [hl, putFD, fn1, fn2, fn4]) (by simp) ?_
  simp [putFD, fn3, fn5, fn6]
  exact q _ ⟨by simp [hl, siteO], h⟩ ((Fr.trans .new F1).setNew (Nat.le_refl _))
end
section
@[simp] theorem r_meth {st : Sto} {ρ : En} {Q : D → Sto → Prop} {c : Nat} {n : Str} {m : List D → M D} {dds : List D} {fo : En → M D} {fa : En → M (List D)} : Runs (eMeth c n m dds fo fa ρ) st Q ↔ Runs (fo ρ) st fun o st1 => Runs (chkO c n o) st1 fun _ st2 => Runs (fa ρ) st2 fun ds st3 => Runs (m (o :: (ds ++ dds))) st3 Q := by
  unfold eMeth; simp only [runs_bind]
@[simp] theorem r_make {st : Sto} {ρ : En} {Q : D → Sto → Prop} {c n nk : Nat} {g : List D → List D → List D} {m : List D → M D} {fa fk : En → M (List D)} : Runs (eMakeK c n nk g m fa fk ρ) st Q ↔ Runs (fa ρ) st fun ds st1 => Runs (fk ρ) st1 fun zs st2 => (ds.length = n ∧ zs.length = nk) ∧ Runs (mkM c fun o => m (g (o :: ds) zs)) st2 Q := by
  unfold eMakeK; simp only [runs_bind]
  constructor <;> intro z <;> refine z.imp fun ds st1 q => q.imp fun zs st2 q => ?_
  · by_cases h : ds.length = n ∧ zs.length = nk
    · rw [if_pos h] at q; exact ⟨h, q⟩
    · rw [if_neg h] at q; exact (runs_stuck.mp q).elim
  · rw [if_pos q.1]; exact q.2
theorem x_chkO {st : Sto} {QU : Unit → Sto → Prop} {c i : Nat} {n : Str} {fs : List (Str × D)} (h : st[i]? = some (.obj c fs)) (hl : fs.lookup n = none) (q : QU () st) : Runs (chkO c n (.loc i)) st QU := by
  refine Runs.of (a := ()) (st' := st) ?_ q
  unfold chkO; simp only [h, and_self, hl, if_true]
@[simp] theorem x_chkT {st : Sto} {QU : Unit → Sto → Prop} {ds : List D} : Runs (chkT (.tup ds)) st QU ↔ QU () st := by with_unfolding_all exact Iff.rfl
theorem sd1 : (Str.ofString "enter" = Str.ofString "leave") = False := n21
@[simp] theorem x_idx {st : Sto} {Q : D → Sto → Prop} {ent : Bool} : Runs (mIndexT (.tup [.str "enter", .str "leave"]) [.str (sideS ent)]) st Q ↔ Q (.int (if ent then 0 else 1)) st := by
  have : mIndexT (.tup [.str "enter", .str "leave"]) [.str (sideS ent)] st = .ok (.int (if ent then 0 else 1)) st := by
    cases ent <;> simp [mIndexT, strsOf, placeS, sideS]
  unfold Runs; rw [this]
def Pg.parts (p : Pg) : D := .tup [.tup (rowsD p.ent), .tup (rowsD p.lea), .bl p.heavy]
def Pg.rows (p : Pg) (ent : Bool) : List Row := if ent then p.ent else p.lea
theorem pg_inj : ∀ {ps : List Pg} {p q : Pg}, (ps.map Pg.name).Nodup → p ∈ ps → q ∈ ps → p.name = q.name → p = q
  | [], _, _, _, h, _, _ => by cases h
  | x :: r, p, q, hn, hp, hq, e => by
    rw [List.map_cons, List.nodup_cons] at hn
    rcases List.mem_cons.mp hp with rfl | hp' <;> rcases List.mem_cons.mp hq with rfl | hq'
    · rfl
    · exact (hn.1 (List.mem_map.mpr ⟨q, hq', e.symm⟩)).elim
    · exact (hn.1 (List.mem_map.mpr ⟨p, hp', e⟩)).elim
    · exact pg_inj hn.2 hp' hq' e
theorem NamesOK.sok {xs : List Str} (h : NamesOK xs) {x : Str} (hx : x ∈ xs) : PyData.strOk x = true := (h.1 x hx).ok
theorem inSides {ent : Bool} : (D.str (sideS ent)).inF [.str "enter", .str "leave"] = true := by cases ent <;> rw [inF2] <;> simp [sideS]
section
variable {b p s k : D}
theorem lkB : List.lookup (Str.ofString "bits") [(Str.ofString "bits", b), (Str.ofString "pages", p), (Str.ofString "start", s), (Str.ofString "keep", k)] = some b := by
  simp [List.lookup]
theorem lkP : List.lookup (Str.ofString "pages") [(Str.ofString "bits", b), (Str.ofString "pages", p), (Str.ofString "start", s), (Str.ofString "keep", k)] = some p := by
  have e1 : (Str.ofString "pages" == Str.ofString "bits") = false := by decide +kernel
  simp [List.lookup, e1]
theorem lkS : List.lookup (Str.ofString "start") [(Str.ofString "bits", b), (Str.ofString "pages", p), (Str.ofString "start", s), (Str.ofString "keep", k)] = some s := by
  have e1 : (Str.ofString "start" == Str.ofString "bits") = false := by decide +kernel
  have e2 : (Str.ofString "start" == Str.ofString "pages") = false := by decide +kernel
  simp [List.lookup, e1, e2]
theorem lkK : List.lookup (Str.ofString "keep") [(Str.ofString "bits", b), (Str.ofString "pages", p), (Str.ofString "start", s), (Str.ofString "keep", k)] = some k := by
  have e1 : (Str.ofString "keep" == Str.ofString "bits") = false := by decide +kernel
  have e2 : (Str.ofString "keep" == Str.ofString "pages") = false := by decide +kernel
  have e3 : (Str.ofString "keep" == Str.ofString "start") = false := by decide +kernel
  simp [List.lookup, e1, e2, e3]
theorem lkN {n : Str} (e1 : (n == Str.ofString "bits") = false) (e2 : (n == Str.ofString "pages") = false) (e3 : (n == Str.ofString "start") = false) (e4 : (n == Str.ofString "keep") = false) : List.lookup n [(Str.ofString "bits", b), (Str.ofString "pages", p), (Str.ofString "start", s), (Str.ofString "keep", k)] = none := by
  simp [List.lookup, e1, e2, e3, e4]
end
theorem ixN_mod {n : Nat} {k : Int} (h : 0 < n) : ∃ i : Nat, i < n ∧ k % (n : Int) = i ∧ ixN n (k % (n : Int)) = some i := by
  have h0 : 0 ≤ k % (n : Int) := Int.emod_nonneg _ (by omega)
  have h1 : k % (n : Int) < n := Int.emod_lt_of_pos _ (by omega)
  refine ⟨(k % (n : Int)).toNat, by omega, by omega, ?_⟩
  unfold ixN; rw [if_pos h0, if_pos h1]
theorem atI_nat {α : Type} {f : α → D} {xs : List α} {i : Nat} (h : i < xs.length) : atI (xs.map f) (i : Int) = some (f xs[i]) := by
  unfold atI ixN
  simp only [List.length_map, if_pos (Int.natCast_nonneg i), Option.bind_some]
  rw [if_pos (by omega), Option.bind_some, List.getElem?_map]
  simp only [Int.toNat_natCast]
  rw [List.getElem?_eq_getElem h]; rfl
end
section
theorem find_p {st : Sto} {S : PS} {p : Pg} (h : S.OK) (hp : p ∈ S.pages) : Pu (m_find_page [pagesD S, .str p.name]) st p.parts := by
  have hno := h.no
  have hps : PyData.strOk p.name = true := hno.sok (List.mem_map.mpr ⟨p, hp, rfl⟩)
  unfold Pu m_find_page b_find_page pagesD
  rw [r_fn]
  refine ⟨rfl, ?_⟩
  simp
  refine runs_forL (fun i ρ st' => (∃ a2 a3, ρ = [some (.tup (S.pages.map Pg.d)), some (.str p.name), a2, a3]) ∧ st' = st ∧ p ∉ S.pages.take i) ⟨⟨_, _, rfl⟩, rfl, by simp⟩ ?_ ?_
  · rintro i it ρ st4 hi ⟨⟨a2, a3, rfl⟩, rfl, hni⟩
    obtain ⟨hk, rfl⟩ := map_item (f := Pg.d) (by rw [List.map_map]; exact hi)
    refine ⟨rfl, ?_⟩
    have hqs : PyData.strOk S.pages[i].name = true := hno.sok (List.mem_map.mpr ⟨_, List.getElem_mem hk, rfl⟩)
    simp [Pg.d, hps, hqs]
    by_cases e : S.pages[i].name = p.name
    · have := pg_inj hno.2 (List.getElem_mem hk) hp e
      simp [e]
      rw [← this]
      exact ⟨rfl, .refl⟩
    · simp [e]
      intro hm
      rw [← List.take_append_getElem hk] at hm
      rcases List.mem_append.mp hm with z | z
      · exact hni z
      · simp at z; rw [← z] at e; exact e rfl
  · rintro ρ st4 ⟨⟨a2, a3, rfl⟩, rfl, hni⟩
    exact absurd hp (by simpa using hni)
theorem guard_p {st : Sto} {S : PS} {p : Pg} {o : Nat} {ent : Bool} (h : SiteAt st o S) (hp : p ∈ S.pages) : Pu (m_Site_guard [.loc o, .str p.name, .str (sideS ent)]) st (.tup (rowsD (p.rows ent))) := by
  unfold Pu m_Site_guard b_Site_guard
  rw [r_fn]
  refine ⟨rfl, ?_⟩
  simp [h.at_, siteO, lkP]
  refine Pu.go (find_p h.ok hp) fun st1 F1 => ?_
  simp [enumD, f_cons, f_nil, Pg.parts]
  cases ent <;> simp [sideS, Pg.rows] <;> exact F1
end
section
/-! `_law_same` says True of values that are the same -/
section
variable {st : Sto} {Q : D → Sto → Prop}
@[simp] theorem y_tn : Runs (isiB "tuple" .non) st Q ↔ Q (.bl false) st := x_isi rfl (by decide +kernel)
@[simp] theorem y_tb {b : Bool} : Runs (isiB "tuple" (.bl b)) st Q ↔ Q (.bl false) st := x_isi rfl (by decide +kernel)
@[simp] theorem y_ti {b : Int} : Runs (isiB "tuple" (.int b)) st Q ↔ Q (.bl false) st := x_isi rfl (by decide +kernel)
@[simp] theorem y_ts {b : Str} : Runs (isiB "tuple" (.str b)) st Q ↔ Q (.bl false) st := x_isi rfl (by decide +kernel)
@[simp] theorem y_ln : Runs (isiB "list" .non) st Q ↔ Q (.bl false) st := x_isi rfl (by decide +kernel)
@[simp] theorem y_lb {b : Bool} : Runs (isiB "list" (.bl b)) st Q ↔ Q (.bl false) st := x_isi rfl (by decide +kernel)
@[simp] theorem y_li {b : Int} : Runs (isiB "list" (.int b)) st Q ↔ Q (.bl false) st := x_isi rfl (by decide +kernel)
@[simp] theorem y_ls {b : Str} : Runs (isiB "list" (.str b)) st Q ↔ Q (.bl false) st := x_isi rfl (by decide +kernel)
@[simp] theorem y_lt {b : List D} : Runs (isiB "list" (.tup b)) st Q ↔ Q (.bl false) st := x_isi rfl (by decide +kernel)
@[simp] theorem y_bs {b : Str} : Runs (isiB "bool" (.str b)) st Q ↔ Q (.bl false) st := x_isi rfl (by decide +kernel)
@[simp] theorem y_is {b : Str} : Runs (isiB "int" (.str b)) st Q ↔ Q (.bl false) st := x_isi rfl (by decide +kernel)
theorem y_ll {i : Nat} {xs : List D} (h : seqAt st i = some xs) : Runs (isiB "list" (.loc i)) st Q ↔ Q (.bl true) st := x_isi (t := "list") (by simp [D.ty, h]) (by decide +kernel)
theorem y_tl {i : Nat} {xs : List D} (h : seqAt st i = some xs) : Runs (isiB "tuple" (.loc i)) st Q ↔ Q (.bl false) st := x_isi (t := "list") (by simp [D.ty, h]) (by decide +kernel)
@[simp] theorem x_neb {i j : Bool} : Runs (opNe (.bl i) (.bl j)) st Q ↔ Q (.bl (!decide (i = j))) st := by
  have : eqData st (.bl i) (.bl j) = some (decide (i = j)) := by
    show some (PyData.eqv (.bool i) (.bool j)) = _
    cases i <;> cases j <;> rfl
  unfold Runs opNe; rw [this]
end
@[simp] theorem r_gitt {i j l : Nat} {d e f : D} {ρ : En} {st : Sto} {QE : En → Sto → Prop} : Runs (gItT i j l (.one (.tup [d, e, f])) ρ) st QE ↔ QE (((ρ.set i (some d)).set j (some e)).set l (some f)) st := by with_unfolding_all exact Iff.rfl
def SameD (st : Sto) : Nat → D → D → Prop
  | 0 => fun _ _ => False
  | n + 1 => fun x y => match x, y with
    | .non, .non => True
    | .bl a, .bl b => a = b
    | .int a, .int b => a = b
    | .str a, .str b => a = b ∧ PyData.strOk a = true
    | .tup xs, .tup ys => xs.length = ys.length ∧ xs.length ≤ 100 ∧ ∀ (k : Nat) x y, xs[k]? = some x → ys[k]? = some y → SameD st n x y
    | .loc i, .loc j => ∃ xs ys, seqAt st i = some xs ∧ seqAt st j = some ys ∧ xs.length = ys.length ∧ xs.length ≤ 100 ∧ ∀ (k : Nat) x y, xs[k]? = some x → ys[k]? = some y → SameD st n x y
    | _, _ => False
theorem SameD.fr {st st' : Sto} (F : Fr [] st st') : ∀ {n : Nat} {x y : D}, SameD st n x y → SameD st' n x y
  | 0, _, _, h => h.elim
  | n + 1, x, y, h => by
    unfold SameD at h ⊢
    cases x <;> cases y <;> try exact h
    · exact ⟨h.1, h.2.1, fun k x y h1 h2 => SameD.fr F (h.2.2 k x y h1 h2)⟩
    · obtain ⟨xs, ys, e1, e2, h1, h2, h3⟩ := h
      exact ⟨xs, ys, F.seq e1 (by simp), F.seq e2 (by simp), h1, h2, fun k x y h1 h2 => SameD.fr F (h3 k x y h1 h2)⟩
@[simp] theorem x_listl {st : Sto} {Q : D → Sto → Prop} {l : Nat} : Runs (bList [.loc l]) st Q ↔ ∃ ds, seqAt st l = some ds ∧ Q (.loc st.length) (st ++ [.lst ds]) := by
  unfold Runs; simp only [bList, seqOf]
  rcases seqAt st l with _ | ds <;> simp
theorem lst_app {st os : Sto} {j : Nat} {ds : List D} (h : os[j]? = some (.lst ds)) : lstAt (st ++ os) (st.length + j) = some ds := by
  unfold lstAt
  rw [List.getElem?_append_right (by omega), Nat.add_sub_cancel_left, h]
theorem Fr.apps {ex : List Nat} {st os : Sto} : Fr ex st (st ++ os) := ⟨by simp, fun i a _ => List.getElem?_append_left a⟩
theorem le_line {n : Nat} (h : n ≤ 1000) : n ≤ sizeLine := Nat.le_of_lt (Nat.lt_of_le_of_lt h (by decide))
def Plain : Nat → D → Prop
  | 0 => fun _ => False
  | n + 1 => fun x => match x with
    | .non => True
    | .bl _ => True
    | .int _ => True
    | .str s => PyData.strOk s = true
    | .tup xs => xs.length ≤ 100 ∧ ∀ x ∈ xs, Plain n x
    | .loc _ => False
theorem Plain.same {st : Sto} : ∀ {n : Nat} {x : D}, Plain n x → SameD st n x x
  | 0, _, h => h.elim
  | n + 1, x, h => by
    unfold Plain at h
    unfold SameD
    cases x with
    | loc i => exact h.elim
    | str s => exact ⟨rfl, h⟩
    | tup xs => exact ⟨rfl, h.1, fun k x y h1 h2 => by
        have e : x = y := Option.some.inj (h1.symm.trans h2)
        subst e
        exact Plain.same (h.2 x (List.mem_of_getElem? h1))⟩
    | _ => first | trivial | rfl
theorem plain_strs {xs : List Str} {n : Nat} (h : ∀ x ∈ xs, PyData.strOk x = true) (hl : xs.length ≤ 100) : Plain (n + 2) (.tup (xs.map .str)) := by
  unfold Plain
  refine ⟨by simpa using hl, fun x hx => ?_⟩
  obtain ⟨y, hy, rfl⟩ := List.mem_map.mp hx
  exact h y hy
theorem atI_get {ds : List D} {i : Nat} {d : D} (h : ds[i]? = some d) : atI ds (i : Int) = some d := by
  have hi : i < ds.length := by
    rcases Nat.lt_or_ge i ds.length with z | z
    · exact z
    · rw [List.getElem?_eq_none z] at h; cases h
  unfold atI ixN
  rw [if_pos (Int.natCast_nonneg i), if_pos (by omega), Option.bind_some]
  simpa using h
theorem same_p : ∀ {n : Nat} {st : Sto} {x y : D}, SameD st n x y → Pu (m__law_same n [x, y]) st (.bl true) := by
  intro n
  induction n with
  | zero => intro st x y h; exact h.elim
  | succ n ih =>
    intro st x y h
    unfold Pu m__law_same
    rw [r_fn]
    refine ⟨rfl, ?_⟩
    unfold SameD at h
    cases x <;> cases y <;> try exact h.elim
    · simp [D.isNon]; exact .refl
    · rename_i a b
      simp at h; subst h
      simp [D.isNon]; exact .refl
    · rename_i a b
      simp at h; subst h
      simp [D.isNon]; exact .refl
    · rename_i a b
      obtain ⟨h, hs⟩ := h; subst h
      simp [D.isNon, hs]; exact .refl
    · rename_i xs ys
      obtain ⟨h1, h2, h3⟩ := h
      have h2' : ys.length ≤ 100 := by omega
      simp [h1]
      refine ⟨by omega, lc_true lst_new ?_ (fun _ _ => rfl) ?_ ?_⟩
      · simpa using h2'
      · intro it hit st1 F _
        obtain ⟨k, hk, rfl⟩ := List.mem_map.mp hit
        have hk' : k < ys.length := by simpa using hk
        have e1 := atI_get (List.getElem?_eq_getElem (l := xs) (i := k) (by omega))
        have e2 := atI_get (List.getElem?_eq_getElem (l := ys) (i := k) hk')
        simp [wipeD, e1, e2]
        have hsame := h3 k _ _ (List.getElem?_eq_getElem (l := xs) (i := k) (by omega)) (List.getElem?_eq_getElem (l := ys) (i := k) hk')
        exact Pu.go (ih (hsame.fr F.fin)) fun st2 F2 => ⟨rfl, F2⟩
      · intro st1 F hL
        exact ⟨_, bind_bls hL, nofalse _, F.fin⟩
    · rename_i i j
      obtain ⟨xs, ys, e1, e2, h1, h2, h3⟩ := h
      have h2' : ys.length ≤ 100 := by omega
      simp [y_ll e1, y_ll e2, y_tl e1, y_tl e2, e1, e2, h1]
      refine ⟨by omega, lc_true lst_new ?_ (fun _ _ => rfl) ?_ ?_⟩
      · simpa using h2'
      · intro it hit st1 F _
        obtain ⟨k, hk, rfl⟩ := List.mem_map.mp hit
        have hk' : k < ys.length := by simpa using hk
        have g1 := atI_get (List.getElem?_eq_getElem (l := xs) (i := k) (by omega))
        have g2 := atI_get (List.getElem?_eq_getElem (l := ys) (i := k) hk')
        have f1 := F.fin.seq e1 (by simp)
        have f2 := F.fin.seq e2 (by simp)
        simp [wipeD, g1, g2, f1, f2]
        have hsame := h3 k _ _ (List.getElem?_eq_getElem (l := xs) (i := k) (by omega)) (List.getElem?_eq_getElem (l := ys) (i := k) hk')
        exact Pu.go (ih (hsame.fr F.fin)) fun st2 F2 => ⟨rfl, F2⟩
      · intro st1 F hL
        exact ⟨_, bind_bls hL, nofalse _, F.fin⟩
theorem cutD_to (ds : List D) (k : Nat) : cutD ds none (some (k : Int)) = ds.take k := by
  unfold cutD
  rw [HT.sIx_none, HT.sIx_nat, List.drop_zero, Nat.sub_zero]
  rcases Nat.le_total k ds.length with h | h
  · rw [Nat.min_eq_left h]
  · rw [Nat.min_eq_right h, List.take_of_length_le (Nat.le_refl _), List.take_of_length_le h]
theorem cutD_from (ds : List D) (k : Nat) : cutD ds (some (k : Int)) none = ds.drop k := by
  unfold cutD
  rw [HT.sIx_none, HT.sIx_nat]
  rcases Nat.le_total k ds.length with h | h
  · rw [Nat.min_eq_left h, List.take_of_length_le (by simp)]
  · rw [Nat.min_eq_right h, List.drop_eq_nil_of_le (Nat.le_refl _), List.drop_eq_nil_of_le h]; simp
theorem cutD_from1 (ds : List D) : cutD ds (some 1) none = ds.drop 1 := cutD_from ds 1
theorem cutD_to1 (ds : List D) (k : Nat) : cutD ds none (some ((k : Int) + 1)) = ds.take (k + 1) := by rw [← cutD_to]; rfl
theorem cutD_from2 (ds : List D) (k : Nat) : cutD ds (some ((k : Int) + 1)) none = ds.drop (k + 1) := by rw [← cutD_from]; rfl
end
section
/-! == of values without numbers -/
def Ni : Nat → D → Prop
  | 0 => fun _ => False
  | n + 1 => fun x => match x with
    | .bl _ => True
    | .str s => PyData.strOk s = true
    | .tup xs => xs.length ≤ 100 ∧ ∀ x ∈ xs, Ni n x
    | _ => False
theorem ni_str {n : Nat} {s : Str} (h : PyData.strOk s = true) : Ni (n + 1) (.str s) := by unfold Ni; exact h
theorem ni_bl {n : Nat} {b : Bool} : Ni (n + 1) (.bl b) := by unfold Ni; trivial
theorem ni_tup {n : Nat} {xs : List D} (h : xs.length ≤ 100) (k : ∀ x ∈ xs, Ni n x) : Ni (n + 1) (.tup xs) := by unfold Ni; exact ⟨h, k⟩
theorem Ni.up : ∀ {n : Nat} {x : D}, Ni n x → Ni (n + 1) x
  | 0, _, h => h.elim
  | n + 1, x, h => by
    unfold Ni at h ⊢
    cases x with
    | tup xs => exact ⟨h.1, fun y hy => Ni.up (h.2 y hy)⟩
    | _ => exact h
theorem Ni.le {n m : Nat} {x : D} (h : Ni n x) (l : n ≤ m) : Ni m x := by
  induction l with
  | refl => exact h
  | step _ ih => exact ih.up
theorem Ni.plain : ∀ {n : Nat} {x : D}, Ni n x → Plain n x
  | 0, _, h => h.elim
  | n + 1, x, h => by
    unfold Ni at h
    unfold Plain
    cases x with
    | tup xs => exact ⟨h.1, fun y hy => (h.2 y hy).plain⟩
    | bl _ => trivial
    | str _ => exact h
    | _ => exact h.elim
theorem ni_pds {st : Sto} {n m : Nat} (H : ∀ t, Ni n t → ∃ p, toPD st m t = some p ∧ p.canLay0 = true ∧ p.depth ≤ n) : ∀ ds : List D, (∀ x ∈ ds, Ni n x) → ∃ ps, allO (ds.map (toPD st m)) = some ps ∧ PyData.canLayAll0 ps = true ∧ PyData.depthAll ps ≤ n
  | [], _ => ⟨[], rfl, rfl, Nat.zero_le _⟩
  | x :: ds, h => by
    obtain ⟨p, e1, c1, d1⟩ := H x (h x (by simp))
    obtain ⟨ps, e2, c2, d2⟩ := ni_pds H ds fun y hy => h y (by simp [hy])
    refine ⟨p :: ps, ?_, ?_, ?_⟩
    · rw [List.map_cons, e1]; unfold allO; rw [e2]
    · unfold PyData.canLayAll0; rw [c1, c2]; rfl
    · unfold PyData.depthAll; omega
theorem ni_pd {st : Sto} : ∀ (n : Nat) (t : D), Ni n t → ∀ m, n ≤ m → ∃ p, toPD st m t = some p ∧ p.canLay0 = true ∧ p.depth ≤ n
  | 0, _, h, _, _ => h.elim
  | n + 1, t, h, 0, hm => by omega
  | n + 1, t, h, m + 1, hm => by
    unfold Ni at h
    cases t with
    | bl b => exact ⟨_, rfl, rfl, Nat.zero_le _⟩
    | str b => exact ⟨_, rfl, h, Nat.zero_le _⟩
    | tup ds =>
      obtain ⟨ps, e, c, d⟩ := ni_pds (fun t ht => ni_pd n t ht m (by omega)) ds h.2
      exact ⟨.tuple ps, by unfold toPD; simp only; rw [e]; rfl, by unfold PyData.canLay0; exact c, by unfold PyData.depth; omega⟩
    | _ => exact h.elim
theorem allO_cons {a : Option PyData} {r : List (Option PyData)} {ps : List PyData} (h : allO (a :: r) = some ps) : ∃ p q, a = some p ∧ allO r = some q ∧ ps = p :: q := by
  cases a with
  | none => unfold allO at h; cases h
  | some p =>
    unfold allO at h
    cases e : allO r with
    | none => rw [e] at h; cases h
    | some q => rw [e] at h; cases h; exact ⟨p, q, rfl, rfl, rfl⟩
theorem ni_all {st : Sto} {m m' : Nat} : ∀ (xs ys : List D) (ps qs : List PyData), (∀ x ∈ xs, ∀ y ∈ ys, ∀ p q, toPD st m x = some p → toPD st m' y = some q → PyData.eqv p q = decide (x = y)) → allO (xs.map (toPD st m)) = some ps → allO (ys.map (toPD st m')) = some qs → PyData.eqvAll ps qs = decide (xs = ys)
  | [], [], ps, qs, _, h1, h2 => by cases h1; cases h2; rfl
  | [], y :: ys, ps, qs, _, h1, h2 => by
    obtain ⟨p, q, _, _, rfl⟩ := allO_cons h2
    cases h1; rfl
  | x :: xs, [], ps, qs, _, h1, h2 => by
    obtain ⟨p, q, _, _, rfl⟩ := allO_cons h1
    cases h2; rfl
  | x :: xs, y :: ys, ps, qs, H, h1, h2 => by
    obtain ⟨p, ps', e1, e2, rfl⟩ := allO_cons h1
    obtain ⟨q, qs', e3, e4, rfl⟩ := allO_cons h2
    rw [PyData.eqvAll, H x (by simp) y (by simp) p q e1 e3, ni_all xs ys ps' qs' (fun a ha b hb => H a (by simp [ha]) b (by simp [hb])) e2 e4]
    by_cases a : x = y <;> by_cases b : xs = ys <;> simp [a, b]
theorem toPD_tup {st : Sto} {m : Nat} {ds : List D} {p : PyData} (h : toPD st (m + 1) (.tup ds) = some p) : ∃ ps, allO (ds.map (toPD st m)) = some ps ∧ p = .tuple ps := by
  unfold toPD at h
  simp only at h
  cases e : allO (ds.map (toPD st m)) with
  | none => rw [e] at h; cases h
  | some ps => rw [e] at h; cases h; exact ⟨ps, rfl, rfl⟩
theorem ni_eqv {st : Sto} : ∀ (n : Nat) (x : D), Ni n x → ∀ (k : Nat) (y : D), Ni k y → ∀ m m' p q, n ≤ m → k ≤ m' → toPD st m x = some p → toPD st m' y = some q → PyData.eqv p q = decide (x = y)
  | 0, _, h, _, _, _, _, _, _, _, _, _, _, _ => h.elim
  | n + 1, _, _, 0, _, h, _, _, _, _, _, _, _, _ => h.elim
  | n + 1, _, _, k + 1, _, _, 0, _, _, _, h, _, _, _ => by omega
  | n + 1, _, _, k + 1, _, _, m + 1, 0, _, _, _, h, _, _ => by omega
  | n + 1, x, hx, k + 1, y, hy, m + 1, m' + 1, p, q, l1, l2, e1, e2 => by
    unfold Ni at hx hy
    cases x with
    | bl a =>
      cases e1
      cases y with
      | bl b => cases e2; cases a <;> cases b <;> rfl
      | str b => cases e2; rfl
      | tup ys => obtain ⟨ps, _, rfl⟩ := toPD_tup e2; rw [PyData.eqv]; rfl
      | _ => exact hy.elim
    | str a =>
      cases e1
      cases y with
      | bl b => cases e2; rfl
      | str b =>
        cases e2
        show (a == b) = _
        by_cases e : a = b <;> simp [e]
      | tup ys => obtain ⟨ps, _, rfl⟩ := toPD_tup e2; rw [PyData.eqv]; rfl
      | _ => exact hy.elim
    | tup xs =>
      obtain ⟨ps, f1, rfl⟩ := toPD_tup e1
      cases y with
      | bl b => cases e2; rw [PyData.eqv]; rfl
      | str b => cases e2; rw [PyData.eqv]; rfl
      | tup ys =>
        obtain ⟨qs, f2, rfl⟩ := toPD_tup e2
        rw [PyData.eqv, ni_all xs ys ps qs (fun a ha b hb p q g1 g2 => ni_eqv n a (hx.2 a ha) k b (hy.2 b hb) m m' p q (by omega) (by omega) g1 g2) f1 f2]
        by_cases e : xs = ys <;> simp [e]
      | _ => exact hy.elim
    | _ => exact hx.elim
theorem ni_data {st : Sto} {n k : Nat} {x y : D} (hx : Ni n x) (hy : Ni k y) (hn : n ≤ 60) (hk : k ≤ 60) : eqData st x y = some (decide (x = y)) := by
  obtain ⟨p, a1, a2, a3⟩ := ni_pd (st := st) n x hx 64 (by omega)
  obtain ⟨q, b1, b2, b3⟩ := ni_pd (st := st) k y hy 64 (by omega)
  have s1 : SeqAt.shaped p = true := by unfold SeqAt.shaped; rw [a2]; simp; omega
  have s2 : SeqAt.shaped q = true := by unfold SeqAt.shaped; rw [b2]; simp; omega
  unfold eqData
  rw [a1, b1]
  simp only [s1, s2, Bool.and_self, if_true]
  rw [ni_eqv n x hx k y hy 64 64 p q (by omega) (by omega) a1 b1]
theorem eq_ni {st : Sto} {n k : Nat} {x y : D} {Q : D → Sto → Prop} (hx : Ni n x) (hy : Ni k y) (hn : n ≤ 60) (hk : k ≤ 60) : Runs (opEq x y) st Q ↔ Q (.bl (decide (x = y))) st := by
  unfold Runs opEq; rw [ni_data hx hy hn hk]
theorem ne_ni {st : Sto} {n k : Nat} {x y : D} {Q : D → Sto → Prop} (hx : Ni n x) (hy : Ni k y) (hn : n ≤ 60) (hk : k ≤ 60) : Runs (opNe x y) st Q ↔ Q (.bl (!decide (x = y))) st := by
  unfold Runs opNe; rw [ni_data hx hy hn hk]
/-! rows, pages, sites -/
theorem rows_len : ∀ rs : List Row, rs.length ≤ cntL rs
  | [] => by simp [cntL]
  | r :: rs => by
    have := rows_len rs
    have h1 : 1 ≤ r.cnt := by cases r <;> simp [Row.cnt]; omega
    simp only [List.length_cons, cntL]; omega
theorem cnt_mem : ∀ {rs : List Row} {r : Row}, r ∈ rs → r.cnt ≤ cntL rs
  | r' :: rs, r, h => by
    rcases List.mem_cons.mp h with rfl | h
    · simp only [cntL]; omega
    · have := cnt_mem h; simp only [cntL]; omega
theorem row_ni {bits names : List Str} {ent : Bool} (hb : ∀ b ∈ bits, PyData.strOk b = true) (hn : ∀ b ∈ names, PyData.strOk b = true) : ∀ (d : Nat) (r : Row), ROk bits names ent d r → r.cnt ≤ 90 → Ni (2 * d + 2) r.d := by
  intro d
  induction d with
  | zero =>
    intro r h _
    cases r with
    | refuse => rw [Row.d]; exact ni_tup (by simp) fun x hx => by rw [List.mem_singleton.mp hx]; exact ni_str ok_refuse
    | lead s =>
      rw [Row.d]
      refine ni_tup (by simp) fun x hx => ?_
      simp only [List.mem_cons, List.not_mem_nil, or_false] at hx
      rcases hx with rfl | rfl
      · exact ni_str ok_lead
      · exact ni_str (hn _ h.1)
    | set b v =>
      rw [Row.d]
      refine ni_tup (by simp) fun x hx => ?_
      simp only [List.mem_cons, List.not_mem_nil, or_false] at hx
      rcases hx with rfl | rfl | rfl
      · exact ni_str ok_set
      · exact ni_str (hb _ h)
      · exact ni_bl
    | br _ _ _ => exact (h : False).elim
  | succ d ih =>
    intro r h hc
    cases r with
    | refuse => rw [Row.d]; exact (ni_tup (n := 1) (by simp) fun x hx => by rw [List.mem_singleton.mp hx]; exact ni_str ok_refuse).le (by omega)
    | lead s =>
      rw [Row.d]
      refine (ni_tup (n := 1) (by simp) fun x hx => ?_).le (by omega)
      simp only [List.mem_cons, List.not_mem_nil, or_false] at hx
      rcases hx with rfl | rfl
      · exact ni_str ok_lead
      · exact ni_str (hn _ h.1)
    | set b v =>
      rw [Row.d]
      refine (ni_tup (n := 1) (by simp) fun x hx => ?_).le (by omega)
      simp only [List.mem_cons, List.not_mem_nil, or_false] at hx
      rcases hx with rfl | rfl | rfl
      · exact ni_str ok_set
      · exact ni_str (hb _ h)
      · exact ni_bl
    | br o t e =>
      obtain ⟨h0, h1, h2⟩ := h
      simp only [Row.cnt] at hc
      have lt := rows_len t
      have le := rows_len e
      have K : ∀ rs : List Row, (∀ r ∈ rs, ROk bits names ent d r) → cntL rs ≤ 90 → Ni (2 * d + 2 + 1) (.tup (rowsD rs)) := fun rs hr hcc => by
        rw [rowsD_map]
        refine ni_tup (by have := rows_len rs; simp; omega) fun x hx => ?_
        obtain ⟨r, hr', rfl⟩ := List.mem_map.mp hx
        exact ih r (hr r hr') (by have := cnt_mem hr'; omega)
      rw [Row.d]
      show Ni ((2 * d + 3) + 1) _
      refine ni_tup (by cases o <;> simp [hdD]) fun x hx => ?_
      rcases List.mem_append.mp hx with hx | hx
      · cases o with
        | none => rw [List.mem_singleton.mp hx]; exact ni_str ok_ask
        | some b =>
          simp only [hdD, List.mem_cons, List.not_mem_nil, or_false] at hx
          rcases hx with rfl | rfl
          · exact ni_str ok_if
          · exact ni_str (hb _ (h0 b rfl))
      · simp only [List.mem_cons, List.not_mem_nil, or_false] at hx
        rcases hx with rfl | rfl
        · exact K t h1 (by omega)
        · exact K e h2 (by omega)
theorem rows_ni {bits names : List Str} {ent : Bool} {rs : List Row} (hb : ∀ b ∈ bits, PyData.strOk b = true) (hn : ∀ b ∈ names, PyData.strOk b = true) (h : ∀ r ∈ rs, ROk bits names ent 3 r) (hc : cntL rs ≤ 8) : Ni 9 (.tup (rowsD rs)) := by
  rw [rowsD_map]
  refine ni_tup (by have := rows_len rs; simp; omega) fun x hx => ?_
  obtain ⟨r, hr, rfl⟩ := List.mem_map.mp hx
  exact row_ni hb hn 3 r (h r hr) (by have := cnt_mem hr; omega)
theorem PS.OK.bok {S : PS} (h : S.OK) : ∀ b ∈ S.bits, PyData.strOk b = true := fun b hb => h.bo.sok hb
theorem PS.OK.nok {S : PS} (h : S.OK) : ∀ b ∈ S.names, PyData.strOk b = true := fun b hb => h.no.sok hb
theorem parts_ni {S : PS} {p : Pg} (h : S.OK) (hp : p.OK S.bits S.names) : Ni 10 p.parts := by
  unfold Pg.parts
  refine ni_tup (by simp) fun x hx => ?_
  simp only [List.mem_cons, List.not_mem_nil, or_false] at hx
  rcases hx with rfl | rfl | rfl
  · exact rows_ni h.bok h.nok hp.e hp.ec
  · exact rows_ni h.bok h.nok hp.l hp.lc
  · exact ni_bl
theorem pages_ni {S : PS} (h : S.OK) : Ni 12 (pagesD S) := by
  unfold pagesD
  have := h.p5
  refine ni_tup (by simp; omega) fun x hx => ?_
  obtain ⟨p, hp, rfl⟩ := List.mem_map.mp hx
  unfold Pg.d
  refine ni_tup (by simp) fun x hx => ?_
  simp only [List.mem_cons, List.not_mem_nil, or_false] at hx
  rcases hx with rfl | rfl
  · exact ni_str (h.nok _ (List.mem_map.mpr ⟨p, hp, rfl⟩))
  · exact parts_ni h (h.pg p hp)
theorem strs_ni {xs : List Str} (h : ∀ x ∈ xs, PyData.strOk x = true) (hl : xs.length ≤ 100) : Ni 2 (.tup (xs.map .str)) := by
  refine ni_tup (by simpa using hl) fun x hx => ?_
  obtain ⟨y, hy, rfl⟩ := List.mem_map.mp hx
  exact ni_str (h y hy)
theorem bits_ni {S : PS} (h : S.OK) : Ni 2 (bitsD S) := strs_ni h.bok (by have := h.bl; omega)
def eqS (S T : PS) : Bool := decide (bitsD S = bitsD T) && (decide (pagesD S = pagesD T) && (decide (S.start = T.start) && decide (S.keep = T.keep)))
theorem x_isiC {st : Sto} {Q : D → Sto → Prop} {c i : Nat} {b : Bool} {fs : List (Str × D)} (h : st[i]? = some (.obj c fs)) : Runs (isiC c b (.loc i)) st Q ↔ Q (.bl b) st := by
  with_unfolding_all
    unfold Runs isiC
    simp only [h, if_true]
theorem site_eq {st : Sto} {o p : Nat} {S T : PS} (h1 : SiteAt st o S) (h2 : SiteAt st p T) : Pu (m_Site___eq__ [.loc o, .loc p]) st (.bl (eqS S T)) := by
  unfold Pu m_Site___eq__ b_Site___eq__
  rw [r_fn]
  refine ⟨rfl, ?_⟩
  have a1 := h1.at_
  have a2 := h2.at_
  unfold siteO at a1 a2
  have s1 : PyData.strOk S.start = true := h1.ok.nok _ h1.ok.st
  have s2 : PyData.strOk T.start = true := h2.ok.nok _ h2.ok.st
  simp [r_var, x_isiC a2, a1, a2, lkB, lkP, lkS, lkK, eq_ni (bits_ni h1.ok) (bits_ni h2.ok) (by omega) (by omega), eq_ni (pages_ni h1.ok) (pages_ni h2.ok) (by omega) (by omega), s1, s2]
  unfold eqS
  by_cases e1 : bitsD S = bitsD T <;> by_cases e2 : pagesD S = pagesD T <;> by_cases e3 : S.start = T.start <;> simp [e1, e2, e3, s1, s2] <;> exact .refl
theorem eqS_refl {S : PS} : eqS S S = true := by unfold eqS; simp
end
section
/-! a site tells its parts -/
def partsT (S : PS) : D := .tup [bitsD S, pagesD S, .str S.start, .int S.keep]
theorem loads_p {st : Sto} {S : PS} {p : Pg} {o : Nat} (h : SiteAt st o S) (hp : p ∈ S.pages) : Pu (m_Site_loads [.loc o, .str p.name]) st (.bl p.heavy) := by
  unfold Pu m_Site_loads b_Site_loads
  rw [r_fn]
  refine ⟨rfl, ?_⟩
  simp [h.at_, siteO, lkP]
  refine Pu.go (find_p h.ok hp) fun st1 F1 => ?_
  simp [Pg.parts]
  exact F1
theorem pnames_p {st : Sto} {S : PS} {o : Nat} (h : SiteAt st o S) : Pu (m_Site_page_names [.loc o]) st (.tup (S.names.map .str)) := by
  unfold Pu m_Site_page_names b_Site_page_names
  rw [r_fn]
  refine ⟨rfl, ?_⟩
  simp [h.at_, siteO, lkP]
  have := h.ok.p5
  exact Pu.go (names_of_p this) fun st1 F1 => ⟨rfl, F1⟩
theorem chk_m {st : Sto} {o : Nat} {S : PS} {n : Str} {QU : Unit → Sto → Prop} (h : SiteAt st o S) (e1 : (n == Str.ofString "bits") = false) (e2 : (n == Str.ofString "pages") = false) (e3 : (n == Str.ofString "start") = false) (e4 : (n == Str.ofString "keep") = false) (q : QU () st) : Runs (chkO 0 n (.loc o)) st QU := x_chkO h.at_ (lkN e1 e2 e3 e4) q
/-- a comprehension that makes one value of each item -/
theorem lc_map {α : Type} {st : Sto} {gi : Item → En → M En} {te : En → M D} {ρw : En} {xs : List α} {f g : α → D} {ok : Sto → Bool} {QU : Unit → Sto → Prop} (hn : xs.length ≤ 100) (hok : ∀ st', Fr [] st st' → ok st' = true)
    (hs : ∀ x ∈ xs, ∀ st', Fr [] st st' → Runs (gi (.one (f x)) ρw) st' fun ρ1 st1 => Runs (te ρ1) st1 fun y st2 => y = g x ∧ st2 = st')
    (q : ∀ st', lstAt st' st.length = some (xs.map g) → Fr [] st st' → QU () st') :
    Runs (lcL ok gi tYesD te st.length ρw ((xs.map f).map Item.one)) (st ++ [.lst []]) QU := by
  refine runs_lcL (fun i st' => lstAt st' st.length = some ((xs.take i).map g) ∧ Fr [] st st') ⟨by simp [lst_new], .new⟩ ?_ ?_
  · rintro i it st2 hi ⟨hL, F2⟩
    refine ⟨hok _ F2, ?_⟩
    obtain ⟨hk, rfl⟩ := map_item hi
    refine (hs _ (List.getElem_mem hk) st2 F2).imp fun ρ1 st3 q1 => ?_
    rw [x_tyes]
    simp only [if_true]
    refine q1.imp ?_
    rintro y st4 ⟨rfl, rfl⟩
    refine ⟨_, hL, Nat.lt_of_le_of_lt (show _ ≤ 100 by simp; omega) (by decide), ?_, F2.setNew (Nat.le_refl _)⟩
    rw [lst_set (lst_lt hL), ← List.take_append_getElem hk, List.map_append]; rfl
  · rintro st2 ⟨hL, F2⟩
    exact ⟨hok _ F2, q _ (by simpa using hL) F2⟩
theorem tells_p {st : Sto} {S : PS} {o : Nat} (h : SiteAt st o S) : Pu (m__law_tells [.loc o, partsT S]) st (.bl true) := by
  have hz : ∀ n : Nat, n ≤ 1000 → n ≤ sizeLine := fun n h => le_line h
  have p5 := h.ok.p5
  unfold Pu m__law_tells b__law_tells partsT pagesD
  rw [r_fn]
  refine ⟨rfl, ?_⟩
  simp [r_var]
  rw [← List.map_map]
  refine lc_map (xs := S.pages) (f := Pg.d) (g := fun p : Pg => D.str p.name) (by omega) (fun _ _ => rfl) (fun p hp st' F => by simp [wipeD, r_var, Pg.d]) fun st1 hL F1 => ?_
  have h1 := h.fr F1 (by simp)
  have a1 := h1.at_
  unfold siteO at a1
  simp [r_var, sq_lst hL, a1, lkB, lkP, lkS, lkK]
  refine chk_m h1 (by decide +kernel) (by decide +kernel) (by decide +kernel) (by decide +kernel) ?_
  refine Pu.go (pnames_p h1) fun st2 F2 => ?_
  have F02 := F1.trans F2
  have e : List.map (fun p : Pg => D.str p.name) S.pages = S.names.map .str := by unfold PS.names; rw [List.map_map]; rfl
  simp [r_var, hz, e]
  have nm : Ni 13 (.tup (S.names.map .str)) := (strs_ni h.ok.nok (by unfold PS.names; simp; omega)).le (by omega)
  refine Pu.go (same_p (n := 20) (Plain.same ?_)) fun st3 F3 => ?_
  · have : Plain 14 (.tup [bitsD S, pagesD S, .str S.start, .int S.keep, .tup (S.names.map .str)]) := by
      unfold Plain
      refine ⟨by simp, fun x hx => ?_⟩
      simp only [List.mem_cons, List.not_mem_nil, or_false] at hx
      rcases hx with rfl | rfl | rfl | rfl | rfl
      · exact ((bits_ni h.ok).le (m := 13) (by omega)).plain
      · exact ((pages_ni h.ok).le (m := 13) (by omega)).plain
      · unfold Plain; exact h.ok.nok _ h.ok.st
      · unfold Plain; trivial
      · exact nm.plain
    have up : ∀ {n : Nat} {x : D}, Plain n x → Plain (n + 1) x := by
      intro n
      induction n with
      | zero => intro x h; exact h.elim
      | succ n ih =>
        intro x h
        unfold Plain at h ⊢
        cases x with
        | tup xs => exact ⟨h.1, fun y hy => ih (h.2 y hy)⟩
        | _ => exact h
    exact up (up (up (up (up (up this)))))
  have F03 := F02.trans F3
  simp
  refine runs_forL (fun i ρ st' => (∃ a2 a3 a4 a5 a6 a7, ρ = [some (.loc o), some (.tup [bitsD S, .tup (S.pages.map Pg.d), .str S.start, .int S.keep]), a2, a3, a4, a5, a6, a7]) ∧ Fr [] st st') ⟨⟨_, _, _, _, _, _, rfl⟩, F03⟩ ?_ ?_
  · rintro i it ρ st4 hi ⟨⟨a2, a3, a4, a5, a6, a7, rfl⟩, F4⟩
    obtain ⟨hk, rfl⟩ := map_item (f := Pg.d) (by rw [List.map_map]; exact hi)
    have hp := List.getElem_mem hk
    generalize S.pages[i] = p at hp
    refine ⟨rfl, ?_⟩
    have h4 := h.fr F4 (by simp)
    simp [Pg.d, r_var]
    refine chk_m h4 (by decide +kernel) (by decide +kernel) (by decide +kernel) (by decide +kernel) ?_
    refine Pu.go (guard_p (ent := true) h4 hp) fun st5 F5 => ?_
    have h5 := h4.fr F5 (by simp)
    try simp [r_var]
    refine chk_m h5 (by decide +kernel) (by decide +kernel) (by decide +kernel) (by decide +kernel) ?_
    refine Pu.go (guard_p (ent := false) h5 hp) fun st6 F6 => ?_
    have h6 := h5.fr F6 (by simp)
    try simp [r_var]
    refine chk_m h6 (by decide +kernel) (by decide +kernel) (by decide +kernel) (by decide +kernel) ?_
    refine Pu.go (loads_p h6 hp) fun st7 F7 => ?_
    simp [hz, Pg.rows]
    have hni : Ni 20 (.tup [.tup (rowsD p.ent), .tup (rowsD p.lea), .bl p.heavy]) := (parts_ni h.ok (h.ok.pg p hp)).le (by omega)
    refine Pu.go (same_p hni.plain.same) fun st8 F8 => ?_
    try simp
    exact F4.trans (F5.trans (F6.trans (F7.trans F8)))
  · rintro ρ st4 ⟨⟨a2, a3, a4, a5, a6, a7, rfl⟩, F4⟩
    refine ⟨rfl, ?_⟩
    first | exact F4 | (simp; exact F4)
end
section
/-! sites that differ in one part -/
theorem ROk.mono {bits bits' names names' : List Str} {ent : Bool} (hb : ∀ b ∈ bits, b ∈ bits') (hn : ∀ b ∈ names, b ∈ names') : ∀ (d : Nat) (r : Row), ROk bits names ent d r → ROk bits' names' ent d r := by
  intro d
  induction d with
  | zero =>
    intro r h
    cases r with
    | refuse => trivial
    | lead s => exact ⟨hn _ h.1, h.2⟩
    | set b v => exact hb _ h
    | br _ _ _ => exact h
  | succ d ih =>
    intro r h
    cases r with
    | refuse => trivial
    | lead s => exact ⟨hn _ h.1, h.2⟩
    | set b v => exact hb _ h
    | br o t e => exact ⟨fun b e => hb _ (h.1 b e), fun r hr => ih r (h.2.1 r hr), fun r hr => ih r (h.2.2 r hr)⟩
theorem Pg.OK.mono {bits bits' names names' : List Str} {p : Pg} (hb : ∀ b ∈ bits, b ∈ bits') (hn : ∀ b ∈ names, b ∈ names') (h : p.OK bits names) : p.OK bits' names' :=
  ⟨fun r hr => (h.e r hr).mono hb hn, fun r hr => (h.l r hr).mono hb hn, h.ec, h.lc⟩
def OthQ (S : PS) (d : D) : Prop := ∃ T : PS, d = partsT T ∧ T.OK ∧ eqS S T = false ∧ eqS T S = false
theorem eqS_comm {S T : PS} : eqS S T = eqS T S := by
  unfold eqS
  rw [show decide (bitsD S = bitsD T) = decide (bitsD T = bitsD S) from decide_eq_decide.mpr eq_comm, show decide (pagesD S = pagesD T) = decide (pagesD T = pagesD S) from decide_eq_decide.mpr eq_comm, show decide (S.start = T.start) = decide (T.start = S.start) from decide_eq_decide.mpr eq_comm, show decide (S.keep = T.keep) = decide (T.keep = S.keep) from decide_eq_decide.mpr eq_comm]
theorem oth {S T : PS} {d : D} (e : d = partsT T) (h : T.OK) (n : bitsD S ≠ bitsD T ∨ pagesD S ≠ pagesD T ∨ S.start ≠ T.start ∨ S.keep ≠ T.keep) : OthQ S d := by
  have : eqS S T = false := by
    unfold eqS
    rcases n with n | n | n | n <;> simp [n]
  exact ⟨T, e, h, this, by rw [← eqS_comm]; exact this⟩
theorem oth_bits {S : PS} {bs : List Str} (h : S.OK) (h1 : bs.length ≤ 3) (h2 : NamesOK bs) (h3 : ∀ b ∈ S.bits, b ∈ bs) (n : S.bits ≠ bs) : OthQ S (.tup [.tup (bs.map .str), pagesD S, .str S.start, .int S.keep]) := by
  refine oth (T := { S with bits := bs }) rfl ⟨h1, h2, h.p2, h.p5, h.no, fun p hp => (h.pg p hp).mono h3 (fun _ z => z), h.st, h.k2, h.k4⟩ (.inl fun z => n ?_)
  have z : (S.bits.map D.str) = bs.map D.str := D.tup.inj z
  exact List.map_inj_right (fun a b e => D.str.inj e) |>.mp z
theorem oth_start {S : PS} {s : Str} (h : S.OK) (hs : s ∈ S.names) (n : S.start ≠ s) : OthQ S (.tup [bitsD S, pagesD S, .str s, .int S.keep]) :=
  oth (T := { S with start := s }) rfl ⟨h.bl, h.bo, h.p2, h.p5, h.no, h.pg, hs, h.k2, h.k4⟩ (.inr (.inr (.inl n)))
theorem oth_keep {S : PS} {k : Int} (h : S.OK) (h2 : 2 ≤ k) (h4 : k ≤ 4) (n : S.keep ≠ k) : OthQ S (.tup [bitsD S, pagesD S, .str S.start, .int k]) :=
  oth (T := { S with keep := k }) rfl ⟨h.bl, h.bo, h.p2, h.p5, h.no, h.pg, h.st, h2, h4⟩ (.inr (.inr (.inr n)))
theorem page_split {S : PS} {k : Nat} (hk : k < S.pages.length) : S.pages = (S.pages.take k ++ [S.pages[k]]) ++ S.pages.drop (k + 1) := by
  rw [List.take_append_getElem hk, List.take_append_drop]
def setP (S : PS) (k : Nat) (q : Pg) : List Pg := (S.pages.take k ++ [q]) ++ S.pages.drop (k + 1)
theorem setP_names {S : PS} {k : Nat} {q : Pg} (hk : k < S.pages.length) (hn : q.name = S.pages[k].name) : (setP S k q).map Pg.name = S.names := by
  unfold PS.names
  conv => rhs; rw [page_split hk]
  unfold setP
  simp only [List.map_append, List.map_cons, List.map_nil, hn]
theorem oth_page {S : PS} {k : Nat} {q : Pg} (h : S.OK) (hk : k < S.pages.length) (hn : q.name = S.pages[k].name) (hq : q.OK S.bits S.names) (n : q.d ≠ S.pages[k].d) :
    OthQ S (.tup [bitsD S, .tup ((setP S k q).map Pg.d), .str S.start, .int S.keep]) := by
  have e := setP_names hk hn
  have hl : (setP S k q).length = S.pages.length := by
    have := congrArg List.length e
    unfold PS.names at this
    simpa using this
  refine oth (T := { S with pages := setP S k q }) rfl ⟨h.bl, h.bo, by show 2 ≤ (setP S k q).length; rw [hl]; exact h.p2, by show (setP S k q).length ≤ 5; rw [hl]; exact h.p5, by show NamesOK ((setP S k q).map Pg.name); rw [e]; exact h.no, fun p hp => ?_, by show S.start ∈ (setP S k q).map Pg.name; rw [e]; exact h.st, h.k2, h.k4⟩ (.inr (.inl fun z => n ?_))
  · have hs : ∀ b ∈ S.names, b ∈ PS.names { S with pages := setP S k q } := fun b hb => by show b ∈ (setP S k q).map Pg.name; rw [e]; exact hb
    have hp : p ∈ setP S k q := hp
    unfold setP at hp
    rcases List.mem_append.mp hp with hp | hp
    · rcases List.mem_append.mp hp with hp | hp
      · exact (h.pg p (List.mem_of_mem_take hp)).mono (fun _ z => z) hs
      · rw [List.mem_singleton.mp hp]; exact hq.mono (fun _ z => z) hs
    · exact (h.pg p (List.mem_of_mem_drop hp)).mono (fun _ z => z) hs
  · have z : S.pages.map Pg.d = (setP S k q).map Pg.d := D.tup.inj z
    rw [page_split hk] at z
    unfold setP at z
    simp only [List.map_append, List.append_assoc] at z
    have z := List.append_cancel_left z
    simp only [List.map_cons, List.map_nil, List.cons_append, List.nil_append] at z
    injection z with z1 z2
    exact z1.symm
theorem oth_turn {S : PS} (h : S.OK) : OthQ S (.tup [bitsD S, .tup ((S.pages.drop 1 ++ S.pages.take 1).map Pg.d), .str S.start, .int S.keep]) := by
  have p2 := h.p2
  have hno := h.no
  cases hp : S.pages with
  | nil => rw [hp] at p2; simp at p2
  | cons p r =>
    cases r with
    | nil => rw [hp] at p2; simp at p2
    | cons q r =>
      have en : S.names = p.name :: q.name :: r.map Pg.name := by unfold PS.names; rw [hp]; rfl
      have hmem : ∀ b, b ∈ S.names ↔ b ∈ q.name :: (r.map Pg.name ++ [p.name]) := by
        intro b; rw [en]; simp only [List.mem_cons, List.mem_append, List.mem_singleton]
        constructor
        · rintro (h | h | h)
          · exact .inr (.inr (.inl h))
          · exact .inl h
          · exact .inr (.inl h)
        · rintro (h | h | h | h)
          · exact .inr (.inl h)
          · exact .inr (.inr h)
          · exact .inl h
          · cases h
      have hnames : PS.names { S with pages := q :: (r ++ [p]) } = q.name :: (r.map Pg.name ++ [p.name]) := by unfold PS.names; simp
      refine oth (T := { S with pages := q :: (r ++ [p]) }) ?_ ⟨h.bl, h.bo, by simp, by have := h.p5; rw [hp] at this; simpa using this, ?_, fun x hx => ?_, by rw [hnames]; exact (hmem _).mp h.st, h.k2, h.k4⟩ (.inr (.inl fun z => ?_))
      · unfold partsT pagesD bitsD; simp
      · rw [hnames]
        refine ⟨fun x hx => hno.1 x ((hmem x).mpr hx), ?_⟩
        have hd := hno.2
        rw [en] at hd
        have : (q.name :: (r.map Pg.name ++ [p.name])) = (q.name :: r.map Pg.name) ++ [p.name] := rfl
        rw [this, List.nodup_append]
        rw [List.nodup_cons] at hd
        refine ⟨hd.2, by simp, fun a ha b hb e => ?_⟩
        rw [List.mem_singleton.mp hb] at e
        exact hd.1 (e ▸ ha)
      · have hx' : x ∈ S.pages := by
          have hx : x ∈ q :: (r ++ [p]) := hx
          rw [hp]
          simp only [List.mem_cons, List.mem_append, List.mem_singleton, List.not_mem_nil, or_false] at hx ⊢
          rcases hx with h | h | h
          · exact .inr (.inl h)
          · exact .inr (.inr h)
          · exact .inl h
        exact (h.pg x hx').mono (fun _ z => z) (fun b hb => by rw [hnames]; exact (hmem b).mp hb)
      · have z : S.pages.map Pg.d = (q :: (r ++ [p])).map Pg.d := D.tup.inj z
        rw [hp] at z
        simp only [List.map_cons] at z
        injection z with z1 _
        unfold Pg.d at z1
        have z1 := D.tup.inj z1
        injection z1 with z1 _
        have z1 := D.str.inj z1
        have hd := hno.2
        rw [en, List.nodup_cons] at hd
        exact hd.1 (by rw [z1]; simp)
/-! rows emptied -/
def emptied : List Row → List Row
  | [] => []
  | .br h t e :: r => .br h [] [] :: r
  | x :: r => x :: emptied r
theorem emptied_ok {bits names : List Str} {ent : Bool} {d : Nat} : ∀ rs : List Row, (∀ r ∈ rs, ROk bits names ent d r) → ∀ r ∈ emptied rs, ROk bits names ent d r
  | [], _, r, h => by cases h
  | x :: rs, H, r, h => by
    have ih := emptied_ok rs fun y hy => H y (List.mem_cons_of_mem _ hy)
    have hx := H x (List.mem_cons_self ..)
    cases x with
    | br o t e =>
      rw [emptied] at h
      rcases List.mem_cons.mp h with rfl | h
      · cases d with
        | zero => exact hx
        | succ d =>
          unfold ROk at hx ⊢
          exact ⟨hx.1, (fun r z => nomatch z), (fun r z => nomatch z)⟩
      · exact H r (List.mem_cons_of_mem _ h)
    | _ =>
      rw [emptied] at h
      · rcases List.mem_cons.mp h with rfl | h
        · exact hx
        · exact ih r h
      all_goals simp
theorem emptied_cnt : ∀ rs : List Row, cntL (emptied rs) ≤ cntL rs
  | [] => Nat.le_refl _
  | x :: rs => by
    have ih := emptied_cnt rs
    cases x with
    | br o t e => rw [emptied]; simp only [cntL, Row.cnt]; omega
    | _ =>
      rw [emptied]
      · simp only [cntL]; omega
      all_goals simp
end
section
theorem inS_if {x : Str} : (D.str x).inF [.str "if", .str "ask"] = decide (x ∈ [Str.ofString "if", Str.ofString "ask"]) := inF_str (xs := [Str.ofString "if", Str.ofString "ask"])
def isBr : Row → Bool
  | .br _ _ _ => true
  | _ => false
theorem emptied_at {o : Option Str} {t e : List Row} : ∀ {rs : List Row} {i : Nat}, (∀ j r, j < i → rs[j]? = some r → isBr r = false) → rs[i]? = some (.br o t e) → emptied rs = rs.take i ++ .br o [] [] :: rs.drop (i + 1)
  | [], i, _, h => by simp at h
  | x :: rs, 0, _, h => by
    simp at h; subst h; rw [emptied]; rfl
  | x :: rs, i + 1, hj, h => by
    have hx := hj 0 x (by omega) rfl
    have ih := emptied_at (rs := rs) (i := i) (fun j r a b => hj (j + 1) r (by omega) (by simpa using b)) (by simpa using h)
    cases x with
    | br _ _ _ => cases hx
    | _ =>
      rw [emptied, ih]
      · rfl
      all_goals simp
theorem emptied_no : ∀ {rs : List Row}, (∀ r ∈ rs, isBr r = false) → emptied rs = rs
  | [], _ => rfl
  | x :: rs, h => by
    have hx := h x (by simp)
    have ih := emptied_no fun r hr => h r (List.mem_cons_of_mem _ hr)
    cases x with
    | br _ _ _ => cases hx
    | _ =>
      rw [emptied, ih]
      all_goals simp
theorem ne_if : ¬ (Str.ofString "refuse" ∈ [Str.ofString "if", Str.ofString "ask"]) ∧ ¬ (Str.ofString "lead" ∈ [Str.ofString "if", Str.ofString "ask"]) ∧ ¬ (Str.ofString "set" ∈ [Str.ofString "if", Str.ofString "ask"]) ∧ (Str.ofString "if" ∈ [Str.ofString "if", Str.ofString "ask"]) ∧ (Str.ofString "ask" ∈ [Str.ofString "if", Str.ofString "ask"]) := by decide +kernel
theorem cutD_toM (ds : List D) (k : Int) (n : Nat) (h : k = n) : cutD ds none (some k) = ds.take n := by subst h; exact cutD_to ds n
theorem emptied_p {st : Sto} {rs : List Row} (hl : rs.length ≤ 100) : Pu (m__law_emptied [.tup (rowsD rs)]) st (.tup (rowsD (emptied rs))) := by
  have hz : ∀ n : Nat, n ≤ 1000 → n ≤ sizeLine := fun n h => le_line h
  unfold Pu m__law_emptied b__law_emptied
  rw [r_fn]
  refine ⟨rfl, ?_⟩
  rw [rowsD_map]
  simp [r_var]
  refine ⟨by omega, ?_⟩
  refine runs_forL (fun i ρ st' => (∃ a1 a2, ρ = [some (.tup (rs.map Row.d)), a1, a2]) ∧ (∀ j r, j < i → rs[j]? = some r → isBr r = false) ∧ st' = st) ⟨⟨_, _, rfl⟩, (fun j r h => by omega), rfl⟩ ?_ ?_
  · rintro i it ρ st1 hi ⟨⟨a1, a2, rfl⟩, hj, rfl⟩
    obtain ⟨hk, rfl⟩ := range_item hi
    refine ⟨rfl, ?_⟩
    have hg : rs[i]? = some rs[i] := List.getElem?_eq_getElem hk
    have ha : atI (rs.map Row.d) (i : Int) = some rs[i].d := atI_nat hk
    generalize hr : rs[i] = r at hg ha
    simp [r_var, ha]
    cases r with
    | refuse =>
      simp [Row.d, D.flat, inS_if, ne_if]
      intro j r hji hrj
      rcases Nat.lt_or_ge j i with z | z
      · exact hj j r z hrj
      · have : j = i := by omega
        subst this; rw [hg] at hrj; cases hrj; rfl
    | lead s =>
      simp [Row.d, D.flat, inS_if, ne_if]
      intro j r hji hrj
      rcases Nat.lt_or_ge j i with z | z
      · exact hj j r z hrj
      · have : j = i := by omega
        subst this; rw [hg] at hrj; cases hrj; rfl
    | set b v =>
      simp [Row.d, D.flat, inS_if, ne_if]
      intro j r hji hrj
      rcases Nat.lt_or_ge j i with z | z
      · exact hj j r z hrj
      · have : j = i := by omega
        subst this; rw [hg] at hrj; cases hrj; rfl
    | br o t e =>
      have em := emptied_at hj hg
      have e1 : rowsD (emptied rs) = (rs.map Row.d).take i ++ [D.tup (hdD o ++ [.tup [], .tup []])] ++ (rs.map Row.d).drop (i + 1) := by
        rw [em, rowsD_map]
        simp only [List.map_append, List.map_cons, List.map_take, List.map_drop, Row.d, rowsD, List.append_assoc, List.cons_append, List.nil_append]
      rw [e1]
      cases o with
      | none =>
        simp [Row.d, hdD, D.flat, inS_if, ne_if, r_var, ha, cutD_to, cutD_from2, cutD_toM _ 1 1 rfl]
        try simp [cutD_toM _ (1 + 1 + 1 - 2) 1 rfl]
        repeat' (first | exact Fr.refl | exact hz _ (by first | omega | (simp; omega)) | apply And.intro)
      | some b =>
        simp [Row.d, hdD, D.flat, inS_if, ne_if, r_var, ha, cutD_to, cutD_from2, cutD_toM _ 2 2 rfl]
        repeat' (first | exact Fr.refl | exact hz _ (by first | omega | (simp; omega)) | apply And.intro)
  · rintro ρ st1 ⟨⟨a1, a2, rfl⟩, hj, rfl⟩
    refine ⟨rfl, ?_⟩
    have hno : emptied rs = rs := emptied_no fun r hr => by
      obtain ⟨j, hj', rfl⟩ := List.getElem_of_mem hr
      exact hj j _ (by simpa using hj') (List.getElem?_eq_getElem hj')
    rw [hno, rowsD_map]
    simp [r_var]
    exact .refl
end
section
def lb11u : En → M Ctl := (sSeq (sAsg (eLst (aCons (eBin opIx (eVar 15) (eC (.int 0))) (aCons (eBin opIx (eVar 15) (eC (.int 1))) aNil))) (gVar 16)) (sSeq (sAsg (eCall (fun ds => m__law_emptied (ds ++ [])) (aCons (eBin opIx (eVar 16) (eVar 9)) aNil)) (gSubD (eVar 16) (eVar 9))) (sIf (tVal (eBin opNe (eBin opIx (eVar 16) (eVar 9)) (eBin opIx (eVar 15) (eVar 9)))) (sSeq (sAsg (eBin opAdd (eBin opAdd (eSl (eVar 11) pNone (pSome (eVar 3))) (eTup (aCons (eTup (aCons (eVar 14) (aCons (eTup (aCons (eBin opIx (eVar 16) (eC (.int 0))) (aCons (eBin opIx (eVar 16) (eC (.int 1))) (aCons (eBin opIx (eVar 15) (eC (.int 2))) aNil)))) aNil))) aNil))) (eSl (eVar 11) (pSome (eBin opAdd (eVar 3) (eC (.int 1)))) pNone)) (gVar 17)) (sEx (eMt chkL mAppend (eVar 8) (aCons (eTup (aCons (eVar 10) (aCons (eVar 17) (aCons (eVar 12) (aCons (eVar 13) aNil))))) aNil)))) sNx)))
def lb11 : En → M Ctl := (sSeq (sAsg (eLst (aCons (eBin opIx (eVar 15) (eC (.int 0))) (aCons (eBin opIx (eVar 15) (eC (.int 1))) aNil))) (gVar 16)) (sSeq (sAsg (eBin opMulX (eTup (aCons (eTup (aCons (eC (.str "refuse")) aNil)) aNil)) (eCall bInt (aCons (eBin opEq (eCall bLen (aCons (eBin opIx (eVar 16) (eVar 9)) aNil)) (eC (.int 0))) aNil))) (gSubD (eVar 16) (eVar 9))) (sSeq (sAsg (eBin opAdd (eBin opAdd (eSl (eVar 11) pNone (pSome (eVar 3))) (eTup (aCons (eTup (aCons (eVar 14) (aCons (eTup (aCons (eBin opIx (eVar 16) (eC (.int 0))) (aCons (eBin opIx (eVar 16) (eC (.int 1))) (aCons (eBin opIx (eVar 15) (eC (.int 2))) aNil)))) aNil))) aNil))) (eSl (eVar 11) (pSome (eBin opAdd (eVar 3) (eC (.int 1)))) pNone)) (gVar 17)) (sSeq (sEx (eMt chkL mAppend (eVar 8) (aCons (eTup (aCons (eVar 10) (aCons (eVar 17) (aCons (eVar 12) (aCons (eVar 13) aNil))))) aNil))) lb11u))))
def t12_others : En → M Ctl := (sSeq (sEx (eMt chkL mAppend (eVar 8) (aCons (eTup (aCons (eVar 10) (aCons (eBin opAdd (eSl (eVar 11) (pSome (eC (.int 1))) pNone) (eSl (eVar 11) pNone (pSome (eC (.int 1))))) (aCons (eVar 12) (aCons (eVar 13) aNil))))) aNil))) (sRet (eVar 8)))
def t11_others : En → M Ctl := (sSeq (sFor (itRange (eC (.int 2))) (gIt 9) lb11) t12_others)
def t9_others : En → M Ctl := (sSeq (sAsg (eLst (aCons (eTup (aCons (eVar 7) (aCons (eVar 11) (aCons (eVar 12) (aCons (eVar 13) aNil))))) (aCons (eTup (aCons (eVar 10) (aCons (eVar 4) (aCons (eVar 12) (aCons (eVar 13) aNil))))) (aCons (eTup (aCons (eVar 10) (aCons (eVar 11) (aCons (eVar 5) (aCons (eVar 13) aNil))))) aNil)))) (gVar 8)) (sSeq (sEx (eMt chkL mAppend (eVar 8) (aCons (eTup (aCons (eVar 10) (aCons (eVar 11) (aCons (eVar 12) (aCons (eBin opAdd (eC (.int 2)) (eBin opMod (eBin opSub (eVar 13) (eC (.int 1))) (eC (.int 3)))) aNil))))) aNil))) t11_others))
def t6_others : En → M Ctl := (sSeq (sAsg (eBin opIx (eLc [19] (itStr (eC (.str "abcdefgh"))) (gIt 19) (tVal (eBin opNotIn (eVar 19) (eVar 10))) (eVar 19)) (eC (.int 0))) (gVar 6)) (sSeq (sAsg (eBin opAdd (eVar 10) (eTup (aCons (eVar 6) aNil))) (gVar 7)) (sSeq (sIf (tVal (eBin opEq (eCall bLen (aCons (eVar 10) aNil)) (eC (.int 3)))) (sAsg (eTup (aCons (eBin opIx (eVar 10) (eC (.int 1))) (aCons (eBin opIx (eVar 10) (eC (.int 2))) (aCons (eBin opIx (eVar 10) (eC (.int 0))) aNil)))) (gVar 7)) sNx) t9_others)))
def t4_others : En → M Ctl := (sSeq (sAsg (eBin opAdd (eBin opAdd (eSl (eVar 11) pNone (pSome (eVar 3))) (eTup (aCons (eTup (aCons (eVar 14) (aCons (eTup (aCons (eBin opIx (eVar 15) (eC (.int 0))) (aCons (eBin opIx (eVar 15) (eC (.int 1))) (aCons (eNot (eBin opIx (eVar 15) (eC (.int 2)))) aNil)))) aNil))) aNil))) (eSl (eVar 11) (pSome (eBin opAdd (eVar 3) (eC (.int 1)))) pNone)) (gVar 4)) (sSeq (sAsg (eBin opIx (eVar 2) (eBin opMod (eBin opAdd (eBin opAdd (eMt chkL mIndexL (eVar 2) (aCons (eVar 12) aNil)) (eC (.int 1))) (eCall (fun ds => m__law_draw (ds ++ [])) (aCons (eVar 0) (aCons (eBin opSub (eCall bLen (aCons (eVar 2) aNil)) (eC (.int 1))) aNil)))) (eCall bLen (aCons (eVar 2) aNil)))) (gVar 5)) t6_others))
theorem s_others : b__law_others = (sSeq (sAsg (eVar 1) (gTupD 4 (gConsD (gVar 10) (gConsD (gVar 11) (gConsD (gVar 12) (gConsD (gVar 13) gNilD)))))) (sSeq (sAsg (eLc [18] (itSeq (eVar 11)) (gIt 18) tYesD (eBin opIx (eVar 18) (eC (.int 0)))) (gVar 2)) (sSeq (sAsg (eCall (fun ds => m__law_draw (ds ++ [])) (aCons (eVar 0) (aCons (eCall bLen (aCons (eVar 11) aNil)) aNil))) (gVar 3)) (sSeq (sAsg (eBin opIx (eVar 11) (eVar 3)) (gTupD 2 (gConsD (gVar 14) (gConsD (gVar 15) gNilD)))) t4_others)))) := rfl
structure OS (st0 st : Sto) (b c Lf : Nat) (S : PS) (m : Nat) : Prop where
  box : Box st b c
  fr : Fr [b] st0 st
  lf : ∃ ds, lstAt st Lf = some ds ∧ (∀ x ∈ ds, OthQ S x) ∧ ds.length ≤ m
  le : st0.length ≤ Lf
  n1 : Lf ≠ b
  n2 : Lf ≠ c
theorem OS.frr {st0 st st' : Sto} {b c Lf m : Nat} {S : PS} {ex : List Nat} (h : OS st0 st b c Lf S m) (F : Fr ex st st') (hx : ∀ i ∈ ex, st0.length ≤ i ∧ i ≠ b ∧ i ≠ c ∧ i ≠ Lf) : OS st0 st' b c Lf S m := by
  obtain ⟨ds, h1, h2, h3⟩ := h.lf
  refine ⟨h.box.fr F (fun z => (hx _ z).2.1 rfl) (fun z => (hx _ z).2.2.1 rfl), ?_, ⟨ds, F.lst h1 (fun z => (hx _ z).2.2.2 rfl), h2, h3⟩, h.le, h.n1, h.n2⟩
  refine ⟨Nat.le_trans h.fr.le F.le, fun i h4 h5 => ?_⟩
  have := h.fr.le
  rw [F.eq i (by omega) (fun z => by have := (hx i z).1; omega), h.fr.eq i h4 h5]
theorem OS.up {st0 st : Sto} {b c Lf m m' : Nat} {S : PS} (h : OS st0 st b c Lf S m) (l : m ≤ m') : OS st0 st b c Lf S m' := by
  obtain ⟨ds, h1, h2, h3⟩ := h.lf
  exact ⟨h.box, h.fr, ⟨ds, h1, h2, by omega⟩, h.le, h.n1, h.n2⟩
theorem app_p {st0 st : Sto} {b c Lf m : Nat} {S : PS} {d : D} {Q : Sto → Prop} (h : OS st0 st b c Lf S m) (hm : m ≤ 100) (hd : OthQ S d) (q : ∀ st', OS st0 st' b c Lf S (m + 1) → Q st') : ∃ ds, lstAt st Lf = some ds ∧ ds.length < sizeLine ∧ Q (st.set Lf (.lst (ds ++ [d]))) := by
  obtain ⟨ds, h1, h2, h3⟩ := h.lf
  refine ⟨ds, h1, Nat.lt_of_le_of_lt (show _ ≤ 100 by omega) (by decide), q _ ?_⟩
  exact ⟨h.box.set h.n1 h.n2, h.fr.setNew h.le, ⟨_, lst_set (lst_lt h1), fun x hx => by
    rcases List.mem_append.mp hx with hx | hx
    · exact h2 x hx
    · rw [List.mem_singleton.mp hx]; exact hd, by simp; omega⟩, h.le, h.n1, h.n2⟩
theorem app_step {st0 st : Sto} {b c Lf m : Nat} {S : PS} {d : D} (h : OS st0 st b c Lf S m) (hm : m ≤ 100) (hd : OthQ S d) : ∃ ds, lstAt st Lf = some ds ∧ ds.length < sizeLine ∧ OS st0 (st.set Lf (.lst (ds ++ [d]))) b c Lf S (m + 1) := app_p (Q := fun st' => OS st0 st' b c Lf S (m + 1)) h hm hd fun _ h => h
@[simp] theorem x_intb {st : Sto} {Q : D → Sto → Prop} {b : Bool} : Runs (bInt [.bl b]) st Q ↔ Q (.int (if b then 1 else 0)) st := by with_unfolding_all exact Iff.rfl
theorem rOpMulX {st : Sto} {Q : D → Sto → Prop} {ds : List D} {k : Int} (h : ds ≠ [] ∧ 0 ≤ k ∧ k ≤ 1000 ∧ ds.length ≤ 1000) : Runs (opMulX (.tup ds) (.int k)) st Q ↔ Q (.tup (List.replicate k.toNat ds).flatten) st := by
  with_unfolding_all
    have e : opMulX (.tup ds) (.int k) st = .ok (.tup (List.replicate k.toNat ds).flatten) st := by
      simp only [orElseM, opMul, opMulT]
      rw [if_pos h]
    unfold Runs; rw [e]
theorem OS.seq {st0 st : Sto} {b c Lf m : Nat} {S : PS} (h : OS st0 st b c Lf S m) : (seqAt st Lf).isSome = true := by
  obtain ⟨ds, h1, _⟩ := h.lf
  rw [sq_lst h1]; rfl
theorem OS.lt {st0 st : Sto} {b c Lf m : Nat} {S : PS} (h : OS st0 st b c Lf S m) : Lf < st.length ∧ b < st.length ∧ c < st.length ∧ st0.length ≤ st.length := by
  obtain ⟨ds, h1, _⟩ := h.lf
  exact ⟨lst_lt h1, h.box.lt, h.box.ltc, h.fr.le⟩
/-- the locals of the function -/
def E20 (b : Nat) (S : PS) (p : Pg) (k Lf : Nat) (a2 a4 a5 a6 a7 a9 a16 a17 a18 a19 : Option D) : En :=
  [some (.loc b), some (partsT S), a2, some (.int k), a4, a5, a6, a7, some (.loc Lf), a9, some (bitsD S), some (.tup (S.pages.map Pg.d)), some (.str S.start), some (.int S.keep), some (.str p.name), some p.parts, a16, a17, a18, a19]
def OthEnd (st0 : Sto) (b c : Nat) (S : PS) (ctl : Ctl) (st' : Sto) : Prop := ∃ L ds, ctl = .rt (.loc L) ∧ lstAt st' L = some ds ∧ (∀ x ∈ ds, OthQ S x) ∧ ds.length ≤ 100 ∧ Fr [b] st0 st' ∧ Box st' b c
theorem t12_p {st0 st : Sto} {b c Lf m k : Nat} {S : PS} {p : Pg} {a2 a4 a5 a6 a7 a9 a16 a17 a18 a19 : Option D} (h : OS st0 st b c Lf S m) (hm : m ≤ 90) (hS : S.OK) :
    Runs (t12_others (E20 b S p k Lf a2 a4 a5 a6 a7 a9 a16 a17 a18 a19)) st (OthEnd st0 b c S) := by
  have hz : ∀ n : Nat, n ≤ 1000 → n ≤ sizeLine := fun n h => le_line h
  have p5 := hS.p5
  unfold t12_others E20
  simp [r_var, h.seq, hz, cutD_from1, cutD_toM _ 1 1 rfl]
  refine ⟨hz _ (by omega), ?_⟩
  refine app_p h (by omega) ?_ fun st1 h1 => ?_
  · have := oth_turn hS
    rw [List.map_append, List.map_drop, List.map_take] at this
    simpa using this
  · obtain ⟨ds, e1, e2, e3⟩ := h1.lf
    exact ⟨Lf, ds, rfl, e1, e2, by omega, h1.fr, h1.box⟩
def setG (ent : Bool) (p : Pg) (rs : List Row) : Pg := if ent then { p with ent := rs } else { p with lea := rs }
theorem oth_guard {S : PS} {p : Pg} {k : Nat} {ent : Bool} {rs : List Row} (h : S.OK) (hk : k < S.pages.length) (hp : S.pages[k] = p) (h1 : ∀ r ∈ rs, ROk S.bits S.names ent 3 r) (h2 : cntL rs ≤ 8) (n : rowsD rs ≠ rowsD (p.rows ent)) :
    OthQ S (.tup [bitsD S, .tup ((setP S k (setG ent p rs)).map Pg.d), .str S.start, .int S.keep]) := by
  have hpo := h.pg p (hp ▸ List.getElem_mem hk)
  refine oth_page h hk (by rw [hp]; cases ent <;> rfl) ?_ (fun z => n ?_)
  · cases ent
    · exact ⟨hpo.e, h1, hpo.ec, h2⟩
    · exact ⟨h1, hpo.l, h2, hpo.lc⟩
  · rw [hp] at z
    cases ent
    · unfold setG Pg.d at z
      simp at z
      exact z
    · unfold setG Pg.d at z
      simp at z
      exact z
def flipR (rs : List Row) : List Row := if rowsD rs = [] then [.refuse] else []
theorem flip_ne {rs : List Row} : rowsD (flipR rs) ≠ rowsD rs := by
  unfold flipR
  intro z
  split at z
  · rename_i h; rw [h] at z; simp [rowsD] at z
  · rename_i h; rw [rowsD] at z; exact h z.symm
theorem flip_D {rs : List Row} : D.tup (List.replicate (if rowsD rs = [] then (1 : Int) else 0).toNat [D.tup [D.str (Str.ofString "refuse")]]).flatten = .tup (rowsD (flipR rs)) := by
  unfold flipR
  split <;> simp [rowsD, Row.d]
theorem setP_D {S : PS} {k : Nat} {q : Pg} : (setP S k q).map Pg.d = ((S.pages.map Pg.d).take k ++ [q.d]) ++ (S.pages.map Pg.d).drop (k + 1) := by
  unfold setP
  simp only [List.map_append, List.map_cons, List.map_nil, List.map_take, List.map_drop]

def HalfQ (st0 : Sto) (b c Lf : Nat) (S : PS) (p : Pg) (k : Nat) (a2 a4 a5 a6 a7 a9 a18 a19 : Option D) (m : Nat) (ctl : Ctl) (st' : Sto) : Prop := (∃ a16 a17, ctl = .nx (E20 b S p k Lf a2 a4 a5 a6 a7 a9 a16 a17 a18 a19)) ∧ OS st0 st' b c Lf S m

theorem half0_p {st0 st : Sto} {b c Lf m k : Nat} {S : PS} {p : Pg} {a2 a4 a5 a6 a7 a16 a17 a18 a19 : Option D} (h : OS st0 st b c Lf S m) (hm : m ≤ 80) (hS : S.OK) (hk : k < S.pages.length) (hp : S.pages[k] = p) :
    Runs (lb11 (E20 b S p k Lf a2 a4 a5 a6 a7 (some (.int 0)) a16 a17 a18 a19)) st (HalfQ st0 b c Lf S p k a2 a4 a5 a6 a7 (some (.int 0)) a18 a19 (m + 2)) := by
  have hz : ∀ n : Nat, n ≤ 1000 → n ≤ sizeLine := fun n h => le_line h
  have p5 := hS.p5
  have hlt := h.lt
  have hpo := hS.pg p (hp ▸ List.getElem_mem hk)
  have hd : OthQ S (.tup [bitsD S, .tup ((setP S k (setG true p (flipR p.ent))).map Pg.d), .str S.start, .int S.keep]) :=
    oth_guard hS hk hp (fun r hr => by
      unfold flipR at hr
      split at hr
      · rw [List.mem_singleton.mp hr]; trivial
      · cases hr) (by unfold flipR; split <;> simp [cntL, Row.cnt]) flip_ne
  rw [setP_D] at hd
  have F1 : Fr [] st (st ++ [SO.lst [D.tup (rowsD p.ent), D.tup (rowsD p.lea)]]) := .new
  have h1 := h.frr F1 (by simp)
  have L1 : lstAt (st ++ [SO.lst [D.tup (rowsD p.ent), D.tup (rowsD p.lea)]]) st.length = some [D.tup (rowsD p.ent), D.tup (rowsD p.lea)] := lst_new
  have i0 : ixN 2 0 = some 0 := rfl
  have i1 : ixN 2 1 = some 1 := rfl
  unfold lb11 E20
  simp [r_var, Pg.parts, hz, sq_lst L1]
  rw [rOpMulX ⟨by simp, by split <;> omega, by split <;> omega, by simp⟩, flip_D]
  refine ⟨_, L1, 0, by simp [i0, i1], ?_⟩
  have F2 : Fr [st.length] (st ++ [SO.lst [D.tup (rowsD p.ent), D.tup (rowsD p.lea)]]) ((st ++ [SO.lst [D.tup (rowsD p.ent), D.tup (rowsD p.lea)]]).set st.length (.lst ([D.tup (rowsD p.ent), D.tup (rowsD p.lea)].set 0 (.tup (rowsD (flipR p.ent)))))) := .set (by simp)
  have h2 := h1.frr F2 (by simp; omega)
  have L2 : lstAt ((st ++ [SO.lst [D.tup (rowsD p.ent), D.tup (rowsD p.lea)]]).set st.length (.lst ([D.tup (rowsD p.ent), D.tup (rowsD p.lea)].set 0 (.tup (rowsD (flipR p.ent)))))) st.length = some ([D.tup (rowsD p.ent), D.tup (rowsD p.lea)].set 0 (.tup (rowsD (flipR p.ent)))) := lst_set (by simp)
  generalize ((st ++ [SO.lst [D.tup (rowsD p.ent), D.tup (rowsD p.lea)]]).set st.length (.lst ([D.tup (rowsD p.ent), D.tup (rowsD p.lea)].set 0 (.tup (rowsD (flipR p.ent)))))) = st2 at h2 L2
  simp only [List.set_cons_zero, List.set_cons_succ] at L2
  simp [sq_lst L2, cutD_to, cutD_from2, h2.seq]
  have hd' := hd
  simp [setG, Pg.d] at hd'
  obtain ⟨ds, g1, g2, h3⟩ := app_step h2 (by omega) hd'
  refine ⟨hz _ (by omega), hz _ (by omega), ds, g1, g2, ?_⟩
  generalize List.set st2 Lf _ = st3 at h3 ⊢
  have hlt3 := h3.lt
  have F4 : Fr [] st3 (st3 ++ [SO.lst [D.tup (rowsD p.ent), D.tup (rowsD p.lea)]]) := .new
  have h4 := h3.frr F4 (by simp)
  have L4 : lstAt (st3 ++ [SO.lst [D.tup (rowsD p.ent), D.tup (rowsD p.lea)]]) st3.length = some [D.tup (rowsD p.ent), D.tup (rowsD p.lea)] := lst_new
  unfold lb11u
  simp [r_var, hz, sq_lst L4]
  have hrl : p.ent.length ≤ 100 := by have := rows_len p.ent; have := hpo.ec; omega
  refine Pu.go (emptied_p hrl) fun st5 F5 => ?_
  have h5 := h4.frr F5 (by simp)
  have L5 := F5.lst L4 (by simp)
  refine ⟨_, L5, 0, by simp [i0, i1], ?_⟩
  have hlt5 := lst_lt L5
  have F6 : Fr [st3.length] st5 (st5.set st3.length (.lst ([D.tup (rowsD p.ent), D.tup (rowsD p.lea)].set 0 (.tup (rowsD (emptied p.ent)))))) := .set (by simp)
  have h6 := h5.frr F6 (by simp; omega)
  have L6 : lstAt (st5.set st3.length (.lst ([D.tup (rowsD p.ent), D.tup (rowsD p.lea)].set 0 (.tup (rowsD (emptied p.ent)))))) st3.length = some ([D.tup (rowsD p.ent), D.tup (rowsD p.lea)].set 0 (.tup (rowsD (emptied p.ent)))) := lst_set hlt5
  generalize (st5.set st3.length (.lst ([D.tup (rowsD p.ent), D.tup (rowsD p.lea)].set 0 (.tup (rowsD (emptied p.ent)))))) = st6 at h6 L6
  simp only [List.set_cons_zero, List.set_cons_succ] at L6
  have ek : ∀ r ∈ emptied p.ent, ROk S.bits S.names true 3 r := emptied_ok p.ent hpo.e
  have ec : cntL (emptied p.ent) ≤ 8 := Nat.le_trans (emptied_cnt p.ent) hpo.ec
  have n1 := rows_ni hS.bok hS.nok ek ec
  have n2 := rows_ni hS.bok hS.nok hpo.e hpo.ec
  simp [sq_lst L6, ne_ni n1 n2 (by omega) (by omega)]
  by_cases e : rowsD (emptied p.ent) = rowsD p.ent
  · simp [e]
    exact ⟨⟨_, _, rfl⟩, h6.up (by omega)⟩
  · have hd2 : OthQ S (.tup [bitsD S, .tup ((setP S k (setG true p (emptied p.ent))).map Pg.d), .str S.start, .int S.keep]) := oth_guard hS hk hp ek ec e
    rw [setP_D] at hd2
    simp [e, cutD_to, cutD_from2, h6.seq, r_var, sq_lst L6, hz]
    simp [setG, Pg.d] at hd2
    obtain ⟨ds2, k1, k2, h7⟩ := app_step h6 (by omega) hd2
    refine ⟨hz _ (by omega), hz _ (by omega), ds2, k1, k2, ⟨_, _, rfl⟩, h7⟩

theorem half1_p {st0 st : Sto} {b c Lf m k : Nat} {S : PS} {p : Pg} {a2 a4 a5 a6 a7 a16 a17 a18 a19 : Option D} (h : OS st0 st b c Lf S m) (hm : m ≤ 80) (hS : S.OK) (hk : k < S.pages.length) (hp : S.pages[k] = p) :
    Runs (lb11 (E20 b S p k Lf a2 a4 a5 a6 a7 (some (.int 1)) a16 a17 a18 a19)) st (HalfQ st0 b c Lf S p k a2 a4 a5 a6 a7 (some (.int 1)) a18 a19 (m + 2)) := by
  have hz : ∀ n : Nat, n ≤ 1000 → n ≤ sizeLine := fun n h => le_line h
  have p5 := hS.p5
  have hlt := h.lt
  have hpo := hS.pg p (hp ▸ List.getElem_mem hk)
  have hd : OthQ S (.tup [bitsD S, .tup ((setP S k (setG false p (flipR p.lea))).map Pg.d), .str S.start, .int S.keep]) :=
    oth_guard hS hk hp (fun r hr => by
      unfold flipR at hr
      split at hr
      · rw [List.mem_singleton.mp hr]; trivial
      · cases hr) (by unfold flipR; split <;> simp [cntL, Row.cnt]) flip_ne
  rw [setP_D] at hd
  have F1 : Fr [] st (st ++ [SO.lst [D.tup (rowsD p.ent), D.tup (rowsD p.lea)]]) := .new
  have h1 := h.frr F1 (by simp)
  have L1 : lstAt (st ++ [SO.lst [D.tup (rowsD p.ent), D.tup (rowsD p.lea)]]) st.length = some [D.tup (rowsD p.ent), D.tup (rowsD p.lea)] := lst_new
  have i0 : ixN 2 0 = some 0 := rfl
  have i1 : ixN 2 1 = some 1 := rfl
  unfold lb11 E20
  simp [r_var, Pg.parts, hz, sq_lst L1]
  rw [rOpMulX ⟨by simp, by split <;> omega, by split <;> omega, by simp⟩, flip_D]
  refine ⟨_, L1, 1, by simp [i0, i1], ?_⟩
  have F2 : Fr [st.length] (st ++ [SO.lst [D.tup (rowsD p.ent), D.tup (rowsD p.lea)]]) ((st ++ [SO.lst [D.tup (rowsD p.ent), D.tup (rowsD p.lea)]]).set st.length (.lst ([D.tup (rowsD p.ent), D.tup (rowsD p.lea)].set 1 (.tup (rowsD (flipR p.lea)))))) := .set (by simp)
  have h2 := h1.frr F2 (by simp; omega)
  have L2 : lstAt ((st ++ [SO.lst [D.tup (rowsD p.ent), D.tup (rowsD p.lea)]]).set st.length (.lst ([D.tup (rowsD p.ent), D.tup (rowsD p.lea)].set 1 (.tup (rowsD (flipR p.lea)))))) st.length = some ([D.tup (rowsD p.ent), D.tup (rowsD p.lea)].set 1 (.tup (rowsD (flipR p.lea)))) := lst_set (by simp)
  generalize ((st ++ [SO.lst [D.tup (rowsD p.ent), D.tup (rowsD p.lea)]]).set st.length (.lst ([D.tup (rowsD p.ent), D.tup (rowsD p.lea)].set 1 (.tup (rowsD (flipR p.lea)))))) = st2 at h2 L2
  simp only [List.set_cons_zero, List.set_cons_succ] at L2
  simp [sq_lst L2, cutD_to, cutD_from2, h2.seq]
  have hd' := hd
  simp [setG, Pg.d] at hd'
  obtain ⟨ds, g1, g2, h3⟩ := app_step h2 (by omega) hd'
  refine ⟨hz _ (by omega), hz _ (by omega), ds, g1, g2, ?_⟩
  generalize List.set st2 Lf _ = st3 at h3 ⊢
  have hlt3 := h3.lt
  have F4 : Fr [] st3 (st3 ++ [SO.lst [D.tup (rowsD p.ent), D.tup (rowsD p.lea)]]) := .new
  have h4 := h3.frr F4 (by simp)
  have L4 : lstAt (st3 ++ [SO.lst [D.tup (rowsD p.ent), D.tup (rowsD p.lea)]]) st3.length = some [D.tup (rowsD p.ent), D.tup (rowsD p.lea)] := lst_new
  unfold lb11u
  simp [r_var, hz, sq_lst L4]
  have hrl : p.lea.length ≤ 100 := by have := rows_len p.lea; have := hpo.lc; omega
  refine Pu.go (emptied_p hrl) fun st5 F5 => ?_
  have h5 := h4.frr F5 (by simp)
  have L5 := F5.lst L4 (by simp)
  refine ⟨_, L5, 1, by simp [i0, i1], ?_⟩
  have hlt5 := lst_lt L5
  have F6 : Fr [st3.length] st5 (st5.set st3.length (.lst ([D.tup (rowsD p.ent), D.tup (rowsD p.lea)].set 1 (.tup (rowsD (emptied p.lea)))))) := .set (by simp)
  have h6 := h5.frr F6 (by simp; omega)
  have L6 : lstAt (st5.set st3.length (.lst ([D.tup (rowsD p.ent), D.tup (rowsD p.lea)].set 1 (.tup (rowsD (emptied p.lea)))))) st3.length = some ([D.tup (rowsD p.ent), D.tup (rowsD p.lea)].set 1 (.tup (rowsD (emptied p.lea)))) := lst_set hlt5
  generalize (st5.set st3.length (.lst ([D.tup (rowsD p.ent), D.tup (rowsD p.lea)].set 1 (.tup (rowsD (emptied p.lea)))))) = st6 at h6 L6
  simp only [List.set_cons_zero, List.set_cons_succ] at L6
  have ek : ∀ r ∈ emptied p.lea, ROk S.bits S.names false 3 r := emptied_ok p.lea hpo.l
  have ec : cntL (emptied p.lea) ≤ 8 := Nat.le_trans (emptied_cnt p.lea) hpo.lc
  have n1 := rows_ni hS.bok hS.nok ek ec
  have n2 := rows_ni hS.bok hS.nok hpo.l hpo.lc
  simp [sq_lst L6, ne_ni n1 n2 (by omega) (by omega)]
  by_cases e : rowsD (emptied p.lea) = rowsD p.lea
  · simp [e]
    exact ⟨⟨_, _, rfl⟩, h6.up (by omega)⟩
  · have hd2 : OthQ S (.tup [bitsD S, .tup ((setP S k (setG false p (emptied p.lea))).map Pg.d), .str S.start, .int S.keep]) := oth_guard hS hk hp ek ec e
    rw [setP_D] at hd2
    simp [e, cutD_to, cutD_from2, h6.seq, r_var, sq_lst L6, hz]
    simp [setG, Pg.d] at hd2
    obtain ⟨ds2, k1, k2, h7⟩ := app_step h6 (by omega) hd2
    refine ⟨hz _ (by omega), hz _ (by omega), ds2, k1, k2, ⟨_, _, rfl⟩, h7⟩
end
section
/-- a comprehension that keeps some items, and changes nothing -/
theorem lc_keep {α : Type} {st : Sto} {gi : Item → En → M En} {tt : En → M Bool} {te : En → M D} {ρw : En} {xs : List α} {f : α → D} {p : α → Bool} {ok : Sto → Bool} {QU : Unit → Sto → Prop} (hn : xs.length ≤ 100) (hok : ∀ st', Fr [] st st' → ok st' = true)
    (hs : ∀ x ∈ xs, ∀ st', Fr [] st st' → Runs (gi (.one (f x)) ρw) st' fun ρ1 st1 => Runs (tt ρ1) st1 fun k st2 => k = p x ∧ st2 = st' ∧ Runs (te ρ1) st2 fun y st3 => y = f x ∧ st3 = st')
    (q : ∀ st', lstAt st' st.length = some ((xs.filter p).map f) → Fr [] st st' → QU () st') :
    Runs (lcL ok gi tt te st.length ρw ((xs.map f).map Item.one)) (st ++ [.lst []]) QU := by
  refine runs_lcL (fun i st' => lstAt st' st.length = some (((xs.take i).filter p).map f) ∧ Fr [] st st') ⟨by simp [lst_new], .new⟩ ?_ ?_
  · rintro i it st2 hi ⟨hL, F2⟩
    refine ⟨hok _ F2, ?_⟩
    obtain ⟨hk, rfl⟩ := map_item hi
    refine (hs _ (List.getElem_mem hk) st2 F2).imp fun ρ1 st3 q1 => q1.imp ?_
    rintro k st4 ⟨rfl, rfl, q2⟩
    have hle : ((xs.take i).filter p).length ≤ 100 := Nat.le_trans (List.length_filter_le _ _) (by simp; omega)
    cases hp : p xs[i] with
    | true =>
      simp only [if_true]
      refine q2.imp ?_
      rintro y st5 ⟨rfl, rfl⟩
      refine ⟨_, hL, Nat.lt_of_le_of_lt (show _ ≤ 100 by simpa using hle) (by decide), ?_, F2.setNew (Nat.le_refl _)⟩
      rw [lst_set (lst_lt hL), ← List.take_append_getElem hk, List.filter_append, List.map_append]
      simp [hp]
    | false =>
      simp only [Bool.false_eq_true, if_false]
      refine ⟨?_, F2⟩
      rw [hL, ← List.take_append_getElem hk, List.filter_append]
      simp [hp]
  · rintro st2 ⟨hL, F2⟩
    refine ⟨hok _ ?_, q _ ?_ ?_⟩
    · exact F2
    · simpa using hL
    · exact F2
theorem t11_p {st0 st : Sto} {b c Lf m k : Nat} {S : PS} {p : Pg} {a2 a4 a5 a6 a7 a9 a16 a17 a18 a19 : Option D} (h : OS st0 st b c Lf S m) (hm : m ≤ 60) (hS : S.OK) (hk : k < S.pages.length) (hp : S.pages[k] = p) :
    Runs (t11_others (E20 b S p k Lf a2 a4 a5 a6 a7 a9 a16 a17 a18 a19)) st (OthEnd st0 b c S) := by
  unfold t11_others
  rw [r_seq, r_for, x_itRange, r_c]
  simp only []
  refine ⟨by decide, ?_⟩
  refine runs_forL (fun i ρ st' => (∃ a9 a16 a17, ρ = E20 b S p k Lf a2 a4 a5 a6 a7 a9 a16 a17 a18 a19) ∧ OS st0 st' b c Lf S (m + 2 * i)) ⟨⟨_, _, _, rfl⟩, h⟩ ?_ ?_
  · rintro i it ρ st1 hi ⟨⟨b9, b16, b17, rfl⟩, h1⟩
    obtain ⟨hi2, rfl⟩ := range_item hi
    refine ⟨rfl, ?_⟩
    rw [r_git]
    have hi2 : i < 2 := hi2
    match i, hi2 with
    | 0, _ =>
      refine (half0_p (a16 := b16) (a17 := b17) h1 (by omega) hS hk hp).imp ?_
      rintro ctl st2 ⟨⟨x, y, rfl⟩, h2⟩
      exact ⟨⟨_, _, _, rfl⟩, h2⟩
    | 1, _ =>
      refine (half1_p (a16 := b16) (a17 := b17) h1 (by omega) hS hk hp).imp ?_
      rintro ctl st2 ⟨⟨x, y, rfl⟩, h2⟩
      exact ⟨⟨_, _, _, rfl⟩, h2⟩
  · rintro ρ st1 ⟨⟨b9, b16, b17, rfl⟩, h1⟩
    refine ⟨rfl, ?_⟩
    exact t12_p h1 (by simp; omega) hS
/-- the same before the list is made -/
def F20 (b : Nat) (S : PS) (p : Pg) (k : Nat) (a2 a4 a5 a6 a7 : Option D) : En :=
  [some (.loc b), some (partsT S), a2, some (.int k), a4, a5, a6, a7, none, none, some (bitsD S), some (.tup (S.pages.map Pg.d)), some (.str S.start), some (.int S.keep), some (.str p.name), some p.parts, none, none, none, none]
theorem t9_p {st0 st : Sto} {b c k : Nat} {S : PS} {p : Pg} {a2 a6 : Option D} {d4 d5 d7 : D} (B : Box st b c) (F : Fr [b] st0 st) (hS : S.OK) (hk : k < S.pages.length) (hp : S.pages[k] = p)
    (h4 : OthQ S (.tup [bitsD S, d4, .str S.start, .int S.keep])) (h5 : OthQ S (.tup [bitsD S, pagesD S, d5, .int S.keep])) (h7 : OthQ S (.tup [d7, pagesD S, .str S.start, .int S.keep])) :
    Runs (t9_others (F20 b S p k a2 (some d4) (some d5) a6 (some d7))) st (OthEnd st0 b c S) := by
  have hz : ∀ n : Nat, n ≤ 1000 → n ≤ sizeLine := fun n h => le_line h
  have hlb := B.lt
  have hlc := B.ltc
  have hk2 := hS.k2
  have hk4 := hS.k4
  unfold t9_others F20
  simp [r_var, hz]
  have h0 : OS st0 (st ++ [SO.lst [.tup [d7, pagesD S, .str S.start, .int S.keep], .tup [bitsD S, d4, .str S.start, .int S.keep], .tup [bitsD S, pagesD S, d5, .int S.keep]]]) b c st.length S 3 := by
    refine ⟨B.app, F.trans .new, ⟨_, lst_new, fun x hx => ?_, by simp⟩, F.le, by omega, by omega⟩
    simp only [List.mem_cons, List.not_mem_nil, or_false] at hx
    rcases hx with rfl | rfl | rfl
    · exact h7
    · exact h4
    · exact h5
  have hd : OthQ S (.tup [bitsD S, pagesD S, .str S.start, .int (2 + (S.keep - 1) % 3)]) := by
    refine oth_keep hS (by omega) (by omega) (by omega)
  obtain ⟨ds, g1, g2, h1⟩ := app_step h0 (by omega) hd
  have hsq := h0.seq
  unfold pagesD at hsq g1
  rw [set_new] at h1
  refine ⟨hsq, ds, g1, g2, ?_⟩
  exact t11_p (m := 4) h1 (by omega) hS hk hp
theorem chs_f : (Str.ofString "abcdefgh").cps.toList.length = 8 ∧ (Str.ofString "abcdefgh").cps.toList.Nodup ∧ ∀ c ∈ (Str.ofString "abcdefgh").cps.toList, c ∈ lets := by decide +kernel
theorem sign_inj {c d : Nat} (h : sign c = sign d) : c = d := by
  have : (sign c).cps.toList = (sign d).cps.toList := by rw [h]
  simpa [sign] using this
theorem fresh_ne {S : PS} (h : S.OK) : (Str.ofString "abcdefgh").cps.toList.filter (fun c => !decide (sign c ∈ S.bits)) ≠ [] := by
  intro e
  obtain ⟨f1, f2, _⟩ := chs_f
  have hh := List.filter_eq_nil_iff.mp e
  have : ((Str.ofString "abcdefgh").cps.toList.map sign).length ≤ S.bits.length := nodup_le (by
    rw [List.nodup_iff_pairwise_ne, List.pairwise_map]
    exact f2.imp fun hne he => hne (sign_inj he)) fun x hx => by
    obtain ⟨c, hc, rfl⟩ := List.mem_map.mp hx
    have := hh c hc
    simpa using this
  rw [List.length_map, f1] at this
  have := h.bl
  omega
theorem t6_p {st0 st : Sto} {b c k : Nat} {S : PS} {p : Pg} {a2 : Option D} {d4 d5 : D} (B : Box st b c) (F : Fr [b] st0 st) (hS : S.OK) (hk : k < S.pages.length) (hp : S.pages[k] = p)
    (h4 : OthQ S (.tup [bitsD S, d4, .str S.start, .int S.keep])) (h5 : OthQ S (.tup [bitsD S, pagesD S, d5, .int S.keep])) :
    Runs (t6_others (F20 b S p k a2 (some d4) (some d5) none none)) st (OthEnd st0 b c S) := by
  have hz : ∀ n : Nat, n ≤ 1000 → n ≤ sizeLine := fun n h => le_line h
  have hbl := hS.bl
  have hlb := B.lt
  have hlc := B.ltc
  unfold t6_others F20
  rw [r_seq, r_asg, r_bin, r_lc, x_itStr, r_c]
  simp only []
  have e : ((Str.ofString "abcdefgh").cps.toList.map fun c => Item.one (.str ⟨#[c]⟩)) = (((Str.ofString "abcdefgh").cps.toList.map fun c => D.str ⟨#[c]⟩).map Item.one) := by rw [List.map_map]; rfl
  rw [e]
  refine lc_keep (p := fun c => !decide (sign c ∈ S.bits)) (by rw [chs_f.1]; omega) (fun _ _ => rfl) (fun x hx st' F' => ?_) fun st1 hL F1 => ?_
  · simp only [wipeD, r_git]
    simp [r_var, bitsD, D.flat, fl]
    have := inF_str (x := ⟨#[x]⟩) (xs := S.bits)
    rw [this]
    rfl
  · have hne := fresh_ne hS
    cases hf : (Str.ofString "abcdefgh").cps.toList.filter (fun c => !decide (sign c ∈ S.bits)) with
    | nil => exact absurd hf hne
    | cons ch r =>
      have hmem : ch ∈ (Str.ofString "abcdefgh").cps.toList.filter (fun c => !decide (sign c ∈ S.bits)) := by rw [hf]; simp
      obtain ⟨m1, m2⟩ := List.mem_filter.mp hmem
      have hnb : sign ch ∉ S.bits := by simpa using m2
      rw [hf] at hL
      have B1 := B.fr F1 (by simp) (by simp)
      have F01 := F.trans (F1.sub (by simp))
      simp [sq_lst hL, r_var, bitsD, hz]
      refine ⟨hz _ (by omega), ?_⟩
      by_cases h3 : S.bits.length = 3
      · have h3' : ((S.bits.length : Int) = 3) := by omega
        obtain ⟨x, y, z, exyz⟩ : ∃ x y z, S.bits = [x, y, z] := by
          match hb : S.bits, h3 with
          | [x, y, z], _ => exact ⟨x, y, z, rfl⟩
        have hno := hS.bo
        rw [exyz] at hno
        have hrot : OthQ S (.tup [.tup ([y, z, x].map .str), pagesD S, .str S.start, .int S.keep]) := by
          have hn := hno.2
          simp only [List.nodup_cons, List.mem_cons, List.not_mem_nil, or_false, not_or, not_false_eq_true, and_true, List.nodup_nil] at hn
          refine oth_bits hS (by simp) ⟨fun a ha => hno.1 a ?_, ?_⟩ (fun a ha => ?_) ?_
          · simp only [List.mem_cons, List.not_mem_nil, or_false] at ha ⊢
            rcases ha with h | h | h
            · exact .inr (.inl h)
            · exact .inr (.inr h)
            · exact .inl h
          · simp only [List.nodup_cons, List.mem_cons, List.not_mem_nil, or_false, not_or, not_false_eq_true, and_true, List.nodup_nil]
            exact ⟨⟨hn.2, fun e => hn.1.1 e.symm⟩, fun e => hn.1.2 e.symm⟩
          · rw [exyz] at ha
            simp only [List.mem_cons, List.not_mem_nil, or_false] at ha ⊢
            rcases ha with h | h | h
            · exact .inr (.inr h)
            · exact .inl h
            · exact .inr (.inl h)
          · rw [exyz]
            intro e
            injection e with e _
            exact hn.1.1 e
        simp [h3', exyz, hz]
        have := t9_p (a2 := a2) (a6 := some (.str ⟨#[ch]⟩)) (k := k) (p := p) B1 F01 hS hk hp h4 h5 hrot
        unfold F20 bitsD at this
        rw [exyz] at this
        exact this
      · have h3' : ¬ ((S.bits.length : Int) = 3) := by omega
        have hmore : OthQ S (.tup [.tup ((S.bits ++ [sign ch]).map .str), pagesD S, .str S.start, .int S.keep]) := by
          refine oth_bits hS (by simp; omega) ⟨fun a ha => ?_, ?_⟩ (fun a ha => List.mem_append_left _ ha) ?_
          · rcases List.mem_append.mp ha with ha | ha
            · exact hS.bo.1 a ha
            · rw [List.mem_singleton.mp ha]
              refine ⟨by show 1 ≤ 1; omega, by show 1 ≤ 8; omega, fun d hd => ?_⟩
              have : d = ch := by simpa [sign] using hd
              rw [this]; exact chs_f.2.2 ch m1
          · rw [List.nodup_append]
            refine ⟨hS.bo.2, by simp, fun a ha b' hb e => ?_⟩
            rw [List.mem_singleton.mp hb] at e
            exact hnb (e ▸ ha)
          · intro e
            have := congrArg List.length e
            simp at this
        simp [h3']
        have := t9_p (a2 := a2) (a6 := some (.str ⟨#[ch]⟩)) (k := k) (p := p) B1 F01 hS hk hp h4 h5 hmore
        unfold F20 bitsD at this
        rw [List.map_append] at this
        exact this
end
section
theorem place_str {s : Str} : ∀ {xs : List Str}, s ∈ xs → ∃ j, D.place (.str s) (xs.map .str) = some j ∧ xs[j]? = some s
  | [], h => by cases h
  | x :: xs, h => by
    rw [List.map_cons]
    unfold D.place
    have e : (D.str x).eqF (D.str s) = decide (x = s) := rfl
    rw [e]
    by_cases hx : x = s
    · subst hx
      exact ⟨0, by simp, rfl⟩
    · have hs : s ∈ xs := by
        rcases List.mem_cons.mp h with h | h
        · exact absurd h.symm hx
        · exact h
      obtain ⟨j, h1, h2⟩ := place_str hs
      exact ⟨j + 1, by simp [hx, h1], by simpa using h2⟩
theorem x_idxL {st : Sto} {Q : D → Sto → Prop} {i j : Nat} {s : Str} {xs : List Str} (h : seqAt st i = some (xs.map .str)) (hp : D.place (.str s) (xs.map .str) = some j) : Runs (mIndexL (.loc i) [.str s]) st Q ↔ Q (.int j) st := by
  have e : mIndexL (.loc i) [.str s] st = .ok (.int j) st := by
    unfold mIndexL
    have hf : ((D.str s).flat && (xs.map D.str).all D.flat) = true := by rw [flat_str]; rfl
    simp only [h, hf, if_true, hp]
  unfold Runs; rw [e]
theorem nodup_at {xs : List Str} (h : xs.Nodup) {i j : Nat} {s : Str} (h1 : xs[i]? = some s) (h2 : xs[j]? = some s) : i = j := by
  have hi : i < xs.length := (List.getElem?_eq_some_iff.mp h1).1
  exact (List.getElem?_inj hi h).mp (h1.trans h2.symm)
theorem t4_p {st0 st : Sto} {b c k Ln : Nat} {S : PS} {p : Pg} (B : Box st b c) (F : Fr [b] st0 st) (hS : S.OK) (hk : k < S.pages.length) (hp : S.pages[k] = p) (hn : lstAt st Ln = some (S.names.map .str)) (hnb : Ln ≠ b) :
    Runs (t4_others (F20 b S p k (some (.loc Ln)) none none none none)) st (OthEnd st0 b c S) := by
  have hz : ∀ n : Nat, n ≤ 1000 → n ≤ sizeLine := fun n h => le_line h
  have p5 := hS.p5
  have p2 := hS.p2
  have hlen : S.names.length = S.pages.length := by unfold PS.names; simp
  obtain ⟨j, hj, hjs⟩ := place_str hS.st
  have hjl : j < S.names.length := (List.getElem?_eq_some_iff.mp hjs).1
  have hpo := hS.pg p (hp ▸ List.getElem_mem hk)
  have h4 : OthQ S (.tup [bitsD S, .tup ((setP S k { p with heavy := !p.heavy }).map Pg.d), .str S.start, .int S.keep]) :=
    oth_page hS hk (by rw [hp]) ⟨hpo.e, hpo.l, hpo.ec, hpo.lc⟩ (by
      rw [hp]; unfold Pg.d; intro z
      simp at z)
  rw [setP_D] at h4
  unfold t4_others F20
  simp [r_var, Pg.parts, hz, cutD_to, cutD_from2, sq_lst hn]
  refine ⟨hz _ (by omega), hz _ (by omega), ?_⟩
  rw [x_idxL (sq_lst hn) hj]
  simp [sq_lst hn]
  refine (draw_spec B (by omega) (by omega)).imp ?_
  rintro _ st1 ⟨y, rfl, y0, y1, F1, B1⟩
  have hn1 := F1.lst hn (by simpa using hnb)
  simp [sq_lst hn1]
  refine ⟨by omega, ?_⟩
  obtain ⟨y, rfl⟩ : ∃ n : Nat, y = (n : Int) := ⟨y.toNat, by omega⟩
  have hv : ∃ v : Nat, v < S.names.length ∧ ((j : Int) + 1 + y) % (S.names.length : Int) = (v : Int) ∧ v ≠ j := by
    rcases Nat.lt_or_ge (j + 1 + y) S.names.length with z | z
    · refine ⟨j + 1 + y, z, ?_, by omega⟩
      rw [Int.emod_eq_of_lt (by omega) (by omega)]; omega
    · refine ⟨j + 1 + y - S.names.length, by omega, ?_, by omega⟩
      have : ((j : Int) + 1 + y) = ((j : Int) + 1 + y - S.names.length) + S.names.length := by omega
      rw [this, Int.add_emod_right, Int.emod_eq_of_lt (by omega) (by omega)]; omega
  obtain ⟨v, hv1, hv2, hv3⟩ := hv
  have hlen' : ((S.names.length : Int)) = S.names.length := rfl
  have hgv : S.names[v]? = some S.names[v] := List.getElem?_eq_getElem hv1
  have h5 : OthQ S (.tup [bitsD S, pagesD S, .str S.names[v], .int S.keep]) := oth_start hS (List.getElem_mem hv1) fun e => hv3 (nodup_at hS.no.2 hgv (e ▸ hjs))
  rw [hv2]
  refine ⟨.str S.names[v], atI_nat hv1, ?_⟩
  have h4' := h4
  simp [Pg.d] at h4'
  have := t6_p (a2 := some (.loc Ln)) (k := k) (p := p) B1 (F.trans F1) hS hk hp h4' h5
  unfold F20 Pg.parts at this
  exact this
theorem others_p {st : Sto} {b c : Nat} {S : PS} (B : Box st b c) (hS : S.OK) : Runs (m__law_others [.loc b, partsT S]) st fun d st' => ∃ L ds, d = .loc L ∧ lstAt st' L = some ds ∧ (∀ x ∈ ds, OthQ S x) ∧ ds.length ≤ 100 ∧ Fr [b] st st' ∧ Box st' b c := by
  have hz : ∀ n : Nat, n ≤ 1000 → n ≤ sizeLine := fun n h => le_line h
  have p5 := hS.p5
  have p2 := hS.p2
  have hlb := B.lt
  have hlc := B.ltc
  unfold m__law_others
  rw [r_fn, s_others]
  refine ⟨rfl, ?_⟩
  unfold partsT pagesD
  simp [r_var]
  rw [← List.map_map]
  refine lc_map (xs := S.pages) (f := Pg.d) (g := fun p : Pg => D.str p.name) (by omega) (fun _ _ => rfl) (fun p hp st' F => by simp [wipeD, r_var, Pg.d]) fun st1 hL F1 => ?_
  have e : List.map (fun p : Pg => D.str p.name) S.pages = S.names.map .str := by unfold PS.names; rw [List.map_map]; rfl
  rw [e] at hL
  refine (draw_spec (B.fr F1 (by simp) (by simp)) (by omega) (by omega)).imp ?_
  rintro _ st2 ⟨y, rfl, y0, y1, F2, B2⟩
  obtain ⟨k, rfl⟩ : ∃ n : Nat, y = (n : Int) := ⟨y.toNat, by omega⟩
  have hk : k < S.pages.length := by omega
  have hL2 := F2.lst hL (by simp; omega)
  have ha : atI (S.pages.map Pg.d) (k : Int) = some (S.pages[k]).d := atI_nat hk
  simp [r_var, ha]
  generalize hp : S.pages[k] = p
  unfold Pg.d
  simp
  have := t4_p (p := p) (Ln := st.length) B2 ((F1.sub (by simp)).trans F2) hS hk hp hL2 (by omega)
  unfold F20 partsT pagesD Pg.parts at this
  refine Runs.imp this ?_
  rintro ctl st3 ⟨L, ds, rfl, h1, h2, h3, h4, h5⟩
  exact ⟨L, rfl, ds, h1, h2, h3, h4, h5⟩
def lb8 : En → M Ctl := (sSeq (sAsg (eMakeK 0 3 1 gSite m_Site___init__ (aCons (eBin opIx (eVar 6) (eC (.int 0))) (aCons (eBin opIx (eVar 6) (eC (.int 1))) (aCons (eBin opIx (eVar 6) (eC (.int 2))) aNil))) (aCons (eBin opIx (eVar 6) (eC (.int 3))) aNil)) (gVar 7)) (sIf (tOrD (tVal (eBin (opEqO 0 m_Site___eq__) (eVar 3) (eVar 7))) (tOrD (tVal (eBin (opEqO 0 m_Site___eq__) (eVar 7) (eVar 3))) (tNotD (tVal (eCall (fun ds => m__law_tells (ds ++ [])) (aCons (eVar 7) (aCons (eVar 6) aNil))))))) (sRet (eC (.bl false))) sNx))
def t9_law : En → M Ctl := (sRet (eAnd (eCall (fun ds => m__law_tells (ds ++ [])) (aCons (eVar 3) (aCons (eVar 2) aNil))) (eBin (opEqO 0 m_Site___eq__) (eVar 3) (eVar 5))))
def t8_law : En → M Ctl := (sSeq (sFor (itSeq (eCall (fun ds => m__law_others (ds ++ [])) (aCons (eVar 1) (aCons (eVar 2) aNil)))) (gIt 6) lb8) t9_law)
def t7_law : En → M Ctl := (sSeq (sIf (tOrD (tNotD (tVal (eBin (opEqO 0 m_Site___eq__) (eVar 3) (eVar 5)))) (tOrD (tVal (eBin (opNeO 0 m_Site___eq__) (eVar 3) (eVar 5))) (tVal (eBin opNe (eBin (opEqO 0 m_Site___eq__) (eVar 4) (eVar 3)) (eBin opEq (eBin opIx (eVar 2) (eC (.int 3))) (eC (.int 4))))))) (sRet (eC (.bl false))) sNx) t8_law)
def t6_law : En → M Ctl := (sSeq (sAsg (eMakeK 0 3 1 gSite m_Site___init__ (aCons (eBin opIx (eVar 2) (eC (.int 0))) (aCons (eBin opIx (eVar 2) (eC (.int 1))) (aCons (eBin opIx (eVar 2) (eC (.int 2))) aNil))) (aCons (eBin opIx (eVar 2) (eC (.int 3))) aNil)) (gVar 5)) t7_law)
def t4_law : En → M Ctl := (sSeq (sAsg (eMakeK 0 3 0 (fun us _ => us ++ [(.int (4))]) m_Site___init__ (aCons (eBin opIx (eVar 2) (eC (.int 0))) (aCons (eBin opIx (eVar 2) (eC (.int 1))) (aCons (eBin opIx (eVar 2) (eC (.int 2))) aNil))) aNil) (gVar 4)) (sSeq (sIf (tNotD (tVal (eCall (fun ds => m__law_tells (ds ++ [])) (aCons (eVar 4) (aCons (eBin opAdd (eSl (eVar 2) pNone (pSome (eC (.int 3)))) (eTup (aCons (eC (.int 4)) aNil))) aNil))))) (sRet (eC (.bl false))) sNx) t6_law))
def t2_law : En → M Ctl := (sSeq (sAsg (eMakeK 0 3 1 gSite m_Site___init__ (aCons (eBin opIx (eVar 2) (eC (.int 0))) (aCons (eBin opIx (eVar 2) (eC (.int 1))) (aCons (eBin opIx (eVar 2) (eC (.int 2))) aNil))) (aCons (eBin opIx (eVar 2) (eC (.int 3))) aNil)) (gVar 3)) (sSeq (sIf (tNotD (tVal (eCall (fun ds => m__law_tells (ds ++ [])) (aCons (eVar 3) (aCons (eVar 2) aNil))))) (sRet (eC (.bl false))) sNx) t4_law))
theorem s_law : b_law = (sSeq (sAsg (eCall (fun ds => m__law_box (ds ++ [])) (aCons (eVar 0) aNil)) (gVar 1)) (sSeq (sAsg (eCall (fun ds => m__law_parts (ds ++ [])) (aCons (eVar 1) aNil)) (gVar 2)) t2_law)) := rfl
/-! the law -/
theorem eqO {st : Sto} {o p : Nat} {S T : PS} {Q : D → Sto → Prop} (h1 : SiteAt st o S) (h2 : SiteAt st p T) (q : ∀ st', Fr [] st st' → Q (.bl (eqS S T)) st') : Runs (opEqO 0 m_Site___eq__ (.loc o) (.loc p)) st Q := by
  have a1 := h1.at_
  have a2 := h2.at_
  unfold siteO at a1 a2
  have e : opEqO 0 m_Site___eq__ (.loc o) (.loc p) st = (nr (m_Site___eq__ [.loc o, .loc p]) >>= fun d => match d with
      | .bl b => (pure (.bl b) : M D)
      | _ => stuck) st := by unfold opEqO; simp only [a1, a2, and_self, if_true] <;> rfl
  have e2 : Runs (opEqO 0 m_Site___eq__ (.loc o) (.loc p)) st Q ↔ Runs (nr (m_Site___eq__ [.loc o, .loc p]) >>= fun d => match d with
      | .bl b => (pure (.bl b) : M D)
      | _ => stuck) st Q := by with_unfolding_all (unfold Runs; rw [e])
  rw [e2, runs_bind, r_nr]
  exact Pu.go (site_eq h1 h2) fun st' F => runs_pure.mpr (q st' F)
theorem neO {st : Sto} {o p : Nat} {S T : PS} {Q : D → Sto → Prop} (h1 : SiteAt st o S) (h2 : SiteAt st p T) (q : ∀ st', Fr [] st st' → Q (.bl (!eqS S T)) st') : Runs (opNeO 0 m_Site___eq__ (.loc o) (.loc p)) st Q := by
  have a1 := h1.at_
  have a2 := h2.at_
  unfold siteO at a1 a2
  have e : opNeO 0 m_Site___eq__ (.loc o) (.loc p) st = (nr (m_Site___eq__ [.loc o, .loc p]) >>= fun d => match d with
      | .bl b => (pure (.bl !b) : M D)
      | _ => stuck) st := by unfold opNeO; simp only [a1, a2, and_self, if_true] <;> rfl
  have e2 : Runs (opNeO 0 m_Site___eq__ (.loc o) (.loc p)) st Q ↔ Runs (nr (m_Site___eq__ [.loc o, .loc p]) >>= fun d => match d with
      | .bl b => (pure (.bl !b) : M D)
      | _ => stuck) st Q := by with_unfolding_all (unfold Runs; rw [e])
  rw [e2, runs_bind, r_nr]
  exact Pu.go (site_eq h1 h2) fun st' F => runs_pure.mpr (q st' F)
/-- a site made of the parts that a variable holds -/
theorem make_s {st : Sto} {ρ : En} {i : Nat} {T : PS} {Q : D → Sto → Prop} (e : ρ[i]? = some (some (partsT T))) (hT : T.OK) (q : ∀ st', SiteAt st' st.length T → Fr [] st st' → Q (.loc st.length) st') :
    Runs (eMakeK 0 3 1 gSite m_Site___init__ (aCons (eBin opIx (eVar i) (eC (.int 0))) (aCons (eBin opIx (eVar i) (eC (.int 1))) (aCons (eBin opIx (eVar i) (eC (.int 2))) aNil))) (aCons (eBin opIx (eVar i) (eC (.int 3))) aNil) ρ) st Q := by
  unfold partsT at e
  simp [r_var e, gSite]
  exact mk_site hT q
theorem eqS_keep {S : PS} {k : Int} : eqS { S with keep := k } S = decide (S.keep = k) := by
  unfold eqS
  have : (bitsD { S with keep := k } = bitsD S) := rfl
  have h2 : (pagesD { S with keep := k } = pagesD S) := rfl
  simp [this, h2]
  constructor <;> intro h <;> exact h.symm

def Q1 (c : Ctl) (_ : Sto) : Prop := c = .rt (.bl true)
theorem t9_p' {st : Sto} {o w : Nat} {S : PS} {a0 a1 a4 a6 a7 : Option D} (h1 : SiteAt st o S) (h2 : SiteAt st w S) : Runs (t9_law [a0, a1, some (partsT S), some (.loc o), a4, some (.loc w), a6, a7]) st Q1 := by
  unfold t9_law
  simp [r_var]
  refine Pu.go (tells_p h1) fun st1 F1 => ?_
  simp [r_var]
  refine eqO (h1.fr F1 (by simp)) (h2.fr F1 (by simp)) fun st2 F2 => ?_
  rw [eqS_refl]
  rfl
theorem lb8_p {st : Sto} {o : Nat} {S : PS} {d : D} {a0 a1 a2 a4 a5 a7 : Option D} (h : SiteAt st o S) (hd : OthQ S d) : Runs (lb8 [a0, a1, a2, some (.loc o), a4, a5, some d, a7]) st fun ctl st' => (∃ b7, ctl = .nx [a0, a1, a2, some (.loc o), a4, a5, some d, b7]) ∧ Fr [] st st' := by
  obtain ⟨T, rfl, hT, e1, e2⟩ := hd
  unfold lb8
  rw [r_seq, r_asg]
  refine make_s rfl hT fun st1 R1 F1 => ?_
  rw [r_gvar]
  simp only [List.set_cons_succ, List.set_cons_zero]
  have h1 := h.fr F1 (by simp)
  simp [r_var]
  refine eqO h1 R1 fun st2 F2 => ?_
  simp [e1, r_var]
  refine eqO (R1.fr F2 (by simp)) (h1.fr F2 (by simp)) fun st3 F3 => ?_
  simp [e2, r_var]
  refine Pu.go (tells_p ((R1.fr F2 (by simp)).fr F3 (by simp))) fun st4 F4 => ?_
  simp
  exact F1.trans (F2.trans (F3.trans F4))
theorem t8_p {st : Sto} {b c o w : Nat} {S : PS} {a0 a4 a6 a7 : Option D} (B : Box st b c) (h1 : SiteAt st o S) (h2 : SiteAt st w S) (n1 : o ≠ b) (n2 : w ≠ b) : Runs (t8_law [a0, some (.loc b), some (partsT S), some (.loc o), a4, some (.loc w), a6, a7]) st Q1 := by
  unfold t8_law
  rw [r_seq, r_for, x_itSeq, r_call]
  simp [r_var]
  refine (others_p B h1.ok).imp ?_
  rintro _ st1 ⟨L, ds, rfl, hL, hO, hl, F1, B1⟩
  refine ⟨ds, sq_lst hL, ?_⟩
  have g1 := h1.fr F1 (by simpa using n1)
  have g2 := h2.fr F1 (by simpa using n2)
  refine runs_forL (fun i ρ st' => (∃ a6 a7, ρ = [a0, some (.loc b), some (partsT S), some (.loc o), a4, some (.loc w), a6, a7]) ∧ Fr [] st1 st') ⟨⟨_, _, rfl⟩, .refl⟩ ?_ ?_
  · rintro i it ρ st2 hi ⟨⟨b6, b7, rfl⟩, F2⟩
    refine ⟨by simp [F2.seq (sq_lst hL) (by simp)], ?_⟩
    rw [List.getElem?_map] at hi
    obtain ⟨hk, rfl⟩ : ∃ hk : i < ds.length, it = .one ds[i] := by
      rcases Nat.lt_or_ge i ds.length with z | z
      · rw [List.getElem?_eq_getElem z] at hi; exact ⟨z, (Option.some.inj hi).symm⟩
      · rw [List.getElem?_eq_none z] at hi; cases hi
    rw [r_git]
    refine (lb8_p (d := ds[i]) (a7 := b7) (g1.fr F2 (by simp)) (hO _ (List.getElem_mem hk))).imp ?_
    rintro ctl st3 ⟨⟨c7, rfl⟩, F3⟩
    exact ⟨⟨_, _, rfl⟩, F2.trans F3⟩
  · rintro ρ st2 ⟨⟨b6, b7, rfl⟩, F2⟩
    refine ⟨by simp [F2.seq (sq_lst hL) (by simp)], ?_⟩
    exact t9_p' (g1.fr F2 (by simp)) (g2.fr F2 (by simp))
theorem t7_p {st : Sto} {b c o w q : Nat} {S : PS} {a0 a6 a7 : Option D} (B : Box st b c) (h1 : SiteAt st o S) (h2 : SiteAt st w S) (h3 : SiteAt st q { S with keep := 4 }) (n1 : o ≠ b) (n2 : w ≠ b) : Runs (t7_law [a0, some (.loc b), some (partsT S), some (.loc o), some (.loc q), some (.loc w), a6, a7]) st Q1 := by
  unfold t7_law
  simp [r_var]
  refine eqO h1 h2 fun st1 F1 => ?_
  simp [eqS_refl, r_var]
  refine neO (h1.fr F1 (by simp)) (h2.fr F1 (by simp)) fun st2 F2 => ?_
  have F02 := F1.trans F2
  simp [eqS_refl, r_var]
  refine eqO (h3.fr F02 (by simp)) (h1.fr F02 (by simp)) fun st3 F3 => ?_
  have F03 := F02.trans F3
  rw [eqS_keep]
  simp [partsT]
  exact t8_p (B.fr F03 (by simp) (by simp)) (h1.fr F03 (by simp)) (h2.fr F03 (by simp)) n1 n2
theorem ok4 {S : PS} (hS : S.OK) : PS.OK { S with keep := 4 } := ⟨hS.bl, hS.bo, hS.p2, hS.p5, hS.no, hS.pg, hS.st, by show (2 : Int) ≤ 4; omega, by show (4 : Int) ≤ 4; omega⟩
theorem t6_p' {st : Sto} {b c o q : Nat} {S : PS} {a0 a5 a6 a7 : Option D} (B : Box st b c) (h1 : SiteAt st o S) (h3 : SiteAt st q { S with keep := 4 }) (n1 : o ≠ b) : Runs (t6_law [a0, some (.loc b), some (partsT S), some (.loc o), some (.loc q), a5, a6, a7]) st Q1 := by
  have hlb := B.lt
  unfold t6_law
  rw [r_seq, r_asg]
  refine make_s (T := S) rfl h1.ok fun st5 R5 F5 => ?_
  rw [r_gvar]
  simp only [List.set_cons_succ, List.set_cons_zero]
  exact t7_p (B.fr F5 (by simp) (by simp)) (h1.fr F5 (by simp)) R5 (h3.fr F5 (by simp)) n1 (by omega)
theorem t4_p' {st : Sto} {b c o : Nat} {S : PS} {a0 a4 a5 a6 a7 : Option D} (B : Box st b c) (h1 : SiteAt st o S) (n1 : o ≠ b) : Runs (t4_law [a0, some (.loc b), some (partsT S), some (.loc o), a4, a5, a6, a7]) st Q1 := by
  have hz : ∀ n : Nat, n ≤ 1000 → n ≤ sizeLine := fun n h => le_line h
  have hm : ∀ {st : Sto} {Q : D → Sto → Prop}, (∀ st', SiteAt st' st.length { S with keep := 4 } → Fr [] st st' → Q (.loc st.length) st') → Runs (mkM 0 fun o => m_Site___init__ [o, bitsD S, pagesD S, .str S.start, .int 4]) st Q := fun q => mk_site (S := { S with keep := 4 }) (ok4 h1.ok) q
  have ht : ∀ {st : Sto} {q : Nat}, SiteAt st q { S with keep := 4 } → Pu (m__law_tells [.loc q, .tup [bitsD S, pagesD S, .str S.start, .int 4]]) st (.bl true) := fun h => tells_p (S := { S with keep := 4 }) h
  have hcut : cutD [bitsD S, pagesD S, .str S.start, .int S.keep] none (some 3) = [bitsD S, pagesD S, .str S.start] := cutD_to _ 3
  have key : ∀ st' q, Box st' b c → SiteAt st' o S → SiteAt st' q { S with keep := 4 } → Runs (t6_law [a0, some (.loc b), some (.tup [bitsD S, pagesD S, .str S.start, .int S.keep]), some (.loc o), some (.loc q), a5, a6, a7]) st' Q1 := fun st' q B h1 h3 => t6_p' B h1 h3 n1
  unfold t4_law partsT
  simp [r_var]
  refine hm fun st3 R3 F3 => ?_
  simp only [hcut]
  simp [hz]
  refine Pu.go (ht R3) fun st4 F4 => ?_
  simp
  have F34 := F3.trans F4
  exact key st4 _ (B.fr F34 (by simp) (by simp)) (h1.fr F34 (by simp)) (R3.fr F4 (by simp))
theorem t2_p {st : Sto} {b c : Nat} {S : PS} {a0 a3 a4 a5 a6 a7 : Option D} (B : Box st b c) (hS : S.OK) : Runs (t2_law [a0, some (.loc b), some (partsT S), a3, a4, a5, a6, a7]) st Q1 := by
  have hlb := B.lt
  unfold t2_law
  rw [r_seq, r_asg]
  refine make_s rfl hS fun st1 R1 F1 => ?_
  rw [r_gvar]
  simp only [List.set_cons_succ, List.set_cons_zero]
  simp [r_var]
  refine Pu.go (tells_p R1) fun st2 F2 => ?_
  have F02 := F1.trans F2
  have R2 := R1.fr F2 (by simp)
  simp
  exact t4_p' (B.fr F02 (by simp) (by simp)) R2 (by omega)
theorem law_runs (ns : List Int) (h : ns.length ≤ 63) : Runs (m_law [.loc 0]) [.frz (ns.map .int)] fun d _ => d = .bl true := by
  unfold m_law
  rw [r_fn]
  refine ⟨rfl, ?_⟩
  rw [s_law]
  simp [r_var]
  refine (box_spec h).imp ?_
  rintro _ st1 ⟨b, c, rfl, B1⟩
  refine (parts_spec B1).imp ?_
  rintro _ st2 ⟨S, rfl, hS, F2, B2⟩
  refine (t2_p (S := S) (a0 := some (.loc 0)) (a3 := none) (a4 := none) (a5 := none) (a6 := none) (a7 := none) B2 hS).imp ?_
  rintro ctl st3 rfl
  rfl
theorem law_true' (ns : List Int) (h : ns.length ≤ 63) : ∃ st, m_law [.loc 0] [.frz (ns.map .int)] = .ok (.bl true) st := by
  obtain ⟨d, st', e, rfl⟩ := (law_runs ns h).get
  exact ⟨st', e⟩
end
end DL
set_option Elab.async false
set_option linter.all false
set_option maxRecDepth 100000
set_option maxHeartbeats 4000000
namespace DL
open PySem L2 PySem.Spec PyProof.Rows
def spLaw (K : PySem.W.Frag) : Sp := fun vs H Q _ => ∃ (x : Addr) (ns : List Int), vs = [.ref x] ∧ SqL K H x (ns.map V.int) ∧ ns.length ≤ 63 ∧ Only H ∧ ∀ H2, Q (.bl true) H2

theorem ints_rep {K : PySem.W.Frag} {μ : List Addr} {H : Hp} : ∀ ns : List Int, RepL K μ H (ns.map D.int) (ns.map V.int)
  | [] => repL_nil.mpr rfl
  | n :: r => repL_cons.mpr ⟨.int n, _, rfl, rep_int.mpr rfl, ints_rep r⟩
theorem law_imp {P : Program} {w : World} {K : PySem.W.Frag} {mg : Str → Option Value} {base : Heap} {ca : Nat → Addr} {k : Nat} {f : Addr} {fd : FuncData} (F : FnOk P w K mg base (L2.CX P w) k f fd ["_law_script"] (spD K ca m_law)) : FnOk P w K mg base (L2.CX P w) k f fd ["_law_script"] (spLaw K) := by
  refine F.imp fun vs H Q E h => ?_
  obtain ⟨x, ns, rfl, hS, hl, ho, hQ⟩ := h
  obtain ⟨st, hst⟩ := law_true' ns hl
  refine ⟨[.loc 0], [.frz (ns.map .int)], [x], RepL.one (rep_loc.mpr ⟨x, rfl, rfl⟩), ⟨rfl, fun i a o h1 h2 => ?_, fun i j a o u h1 h2 h3 h4 m1 m2 => ?_⟩, ?_⟩
  · cases i with
    | zero =>
      cases h1; cases h2
      refine ⟨ns.map V.int, ?_, ints_rep ns⟩
      rcases hS with (hS | ⟨o, hS⟩) | hS
      · rcases ho x with z | ⟨o, u, z⟩
        · rw [hS] at z; cases z
        · rw [hS] at z; cases z
      · exact .inl ⟨o, hS⟩
      · exact .inr hS
    | succ i => cases h1
  · cases i with
    | zero => cases h3; cases m1
    | succ i => cases h1
  · rw [hst]
    intro μ' H' v e s r
    rw [rep_bl.mp r]
    exact hQ H'
theorem all_mk {l : PySem.W.OpenLaw} {w : World} {K : PySem.W.Frag} {h : Heap} {mg : Str → Option Value} {fa C0 C1 C2 C3 C4 f0 f1 f2 f3 f4 f5 f6 f7 f8 f9 f10 f11 f12 f13 f14 f15 f16 f17 f18 f19 f20 f21 f22 f23 f24 f25 f26 f27 f28 kd28 f29 f30 f31 f32 f33 f34 f35 ka9 : Addr} (X : K.In h) (G : h.Ns mainGlobals mg) (hfa : mg "law" = some (.ref fa))
    {od0 an0 od1 an1 od2 an2 od3 an3 od4 an4 od5 an5 od6 an6 od7 an7 od8 an8 od9 an9 od10 an10 od11 an11 od12 an12 od13 an13 od14 an14 od15 an15 od16 an16 od17 an17 od18 an18 od19 an19 od20 an20 od21 an21 od22 an22 od23 an23 od24 an24 od25 an25 od26 an26 od27 an27 od28 an28 od29 an29 od30 an30 od31 an31 od32 an32 od33 an33 od34 an34 od35 an35 : Option Addr} {sl0 sl1 sl2 sl3 sl4 sl5 sl6 sl7 sl8 sl9 sl10 sl11 sl12 sl13 sl14 sl15 sl16 sl17 sl18 sl19 sl20 sl21 sl22 sl23 sl24 sl25 sl26 sl27 sl28 sl29 sl30 sl31 sl32 sl33 sl34 sl35 ks9 : Array (Option Value)} {oc0 kV0 dc0 pm0 cd0 ct0 oc1 kV1 dc1 pm1 cd1 ct1 oc2 kV2 dc2 pm2 cd2 ct2 oc3 kV3 dc3 pm3 cd3 ct3 oc4 kV4 dc4 pm4 cd4 ct4 oc5 kV5 dc5 pm5 cd5 ct5 oc6 kV6 dc6 pm6 cd6 ct6 oc7 kV7 dc7 pm7 cd7 ct7 oc8 kV8 dc8 pm8 cd8 ct8 oc9 kV9 dc9 pm9 cd9 ct9 oc10 kV10 dc10 pm10 cd10 ct10 oc11 kV11 dc11 pm11 cd11 ct11 oc12 kV12 dc12 pm12 cd12 ct12 oc13 kV13 dc13 pm13 cd13 ct13 oc14 kV14 dc14 pm14 cd14 ct14 oc15 kV15 dc15 pm15 cd15 ct15 oc16 kV16 dc16 pm16 cd16 ct16 oc17 kV17 dc17 pm17 cd17 ct17 oc18 kV18 dc18 pm18 cd18 ct18 oc19 kV19 dc19 pm19 cd19 ct19 oc20 kV20 dc20 pm20 cd20 ct20 oc21 kV21 dc21 pm21 cd21 ct21 oc22 kV22 dc22 pm22 cd22 ct22 oc23 kV23 dc23 pm23 cd23 ct23 oc24 kV24 dc24 pm24 cd24 ct24 oc25 kV25 dc25 pm25 cd25 ct25 oc26 kV26 dc26 pm26 cd26 ct26 oc27 kV27 dc27 pm27 cd27 ct27 oc28 dc28 pm28 cd28 ct28 oc29 kV29 dc29 pm29 cd29 ct29 oc30 kV30 dc30 pm30 cd30 ct30 oc31 kV31 dc31 pm31 cd31 ct31 oc32 kV32 dc32 pm32 cd32 ct32 oc33 kV33 dc33 pm33 cd33 ct33 oc34 kV34 dc34 pm34 cd34 ct34 oc35 kV35 dc35 pm35 cd35 ct35 : Value} {kt28_0 t0 t1 t2 t3 t4 t5 t6 t7 t8 t9_0 t9_1 : Tok} {nn9 : Nat} {nm3 qn3 : Str} {Na3 CL3 : Addr} {bs3 sub3 : List Value} {sn3 : List Str} {ab3 : Bool} {col3 : Option Bool} {dd3 : Option Addr} {xa3 xb3 xc3 xd3 xe3 : Option Value} {nm1 qn1 : Str} {Na1 CL1 : Addr} {bs1 sub1 : List Value} {sn1 : List Str} {ab1 : Bool} {col1 : Option Bool} {dd1 : Option Addr} {xa1 xb1 xc1 xd1 xe1 : Option Value} {nm4 qn4 : Str} {Na4 CL4 : Addr} {bs4 sub4 : List Value} {sn4 : List Str} {ab4 : Bool} {col4 : Option Bool} {dd4 : Option Addr} {xa4 xb4 xc4 xd4 xe4 : Option Value} {nm0 qn0 : Str} {Na0 : Addr} {bs0 sub0 : List Value} {hd0 : Bool} {sn0 : List Str} {ab0 : Bool} {col0 : Option Bool} {dd0 : Option Addr} {xa0 xb0 xc0 xd0 xe0 : Option Value} {nw0 : String} {nc0 : Value} {nd0 : Option Addr} {ndd0 : Data} {nsl0 : Array (Option Value)}
    (q0_gc : PySem.W.nsIn K mainGlobals "Site" = some (some (.ref C0)))
    (q0_pg : PySem.W.plainGet K C0 Str.empty = true)
    (q0_hd : PySem.W.hasDictIn K C0 = true)
    (q0_po : PySem.W.plainOver K C0 = true)
    (q0_sa : PySem.W.findIn K (.ref C0) "__setattr__" = some (some (.builtin "object.__setattr__")))
    (q0_mk : PySem.W.makesIn K C0 = true)
    (q0_kc : PySem.W.keepIn K (.ref C0) = true)
    (q0_ac : PySem.W.findIn K (.ref C0) "__class__" = some (some (.builtin "object.__class__")))
    (q0_ob : PySem.W.mroIn K C0 (.type "object") = some true)
    (q0_sp : PySem.W.specialIn K (.builtin "object.__class__") "__get__" = some (some (.builtin "getset_descriptor.__get__")))
    (q0_tk : PySem.W.takesIn K (.builtin "object.__class__") = some true)
    (q0_lk : K.lookup C0 = some (excClassObj nm0 qn0 C0 Na0 bs0 [.type "object"] hd0 sn0 sub0 ab0 col0 dd0 xa0 xb0 xc0 xd0 xe0 nw0))
    (q0_nl : K.lookup Na0 = some ⟨nc0, nd0, ndd0, nsl0⟩)
    (q0_no : allStr ndd0 = true)
    (q0_ne : PySem.W.nsIn K Na0 "__eq__" = some (some (.ref f9)))
    (q0_nn : PySem.W.nsIn K Na0 "__ne__" = some none)
    (q0_na_bits : PySem.W.findIn K (.ref C0) "bits" = some none)
    (q0_na_pages : PySem.W.findIn K (.ref C0) "pages" = some none)
    (q0_na_start : PySem.W.findIn K (.ref C0) "start" = some none)
    (q0_na_keep : PySem.W.findIn K (.ref C0) "keep" = some none)
    (x1_gc : PySem.W.nsIn K mainGlobals "InvalidSite" = some (some (.ref C1)))
    (x1_ga : PySem.W.findIn K (.ref C1) "__getattribute__" = some (some (.builtin "BaseException.__getattribute__")))
    (x1_gg : PySem.W.findIn K (.ref C1) "__getattr__" = some none)
    (x1_sb : PySem.W.subIn K (.ref C1) (.type "BaseException") = some true)
    (x1_hd : PySem.W.hasDictIn K C1 = true)
    (x1_ty : PySem.W.typeIn K (.ref C1) = some (.type "type"))
    (x1_ac : PySem.W.findIn K (.ref C1) "__class__" = some (some (.builtin "object.__class__")))
    (x1_ob : PySem.W.mroIn K C1 (.type "object") = some true)
    (x1_nf_part : PySem.W.findIn K (.ref C1) "part" = some none)
    (x1_nf_path : PySem.W.findIn K (.ref C1) "path" = some none)
    (x2_gc : PySem.W.nsIn K mainGlobals "InvalidPath" = some (some (.ref C2)))
    (x2_ga : PySem.W.findIn K (.ref C2) "__getattribute__" = some (some (.builtin "BaseException.__getattribute__")))
    (x2_gg : PySem.W.findIn K (.ref C2) "__getattr__" = some none)
    (x2_sb : PySem.W.subIn K (.ref C2) (.type "BaseException") = some true)
    (x2_hd : PySem.W.hasDictIn K C2 = true)
    (x2_ty : PySem.W.typeIn K (.ref C2) = some (.type "type"))
    (x2_ac : PySem.W.findIn K (.ref C2) "__class__" = some (some (.builtin "object.__class__")))
    (x2_ob : PySem.W.mroIn K C2 (.type "object") = some true)
    (x2_nf_path : PySem.W.findIn K (.ref C2) "path" = some none)
    (x3_gc : PySem.W.nsIn K mainGlobals "InvalidSide" = some (some (.ref C3)))
    (x3_ga : PySem.W.findIn K (.ref C3) "__getattribute__" = some (some (.builtin "BaseException.__getattribute__")))
    (x3_gg : PySem.W.findIn K (.ref C3) "__getattr__" = some none)
    (x3_sb : PySem.W.subIn K (.ref C3) (.type "BaseException") = some true)
    (x3_hd : PySem.W.hasDictIn K C3 = true)
    (x3_ty : PySem.W.typeIn K (.ref C3) = some (.type "type"))
    (x3_ac : PySem.W.findIn K (.ref C3) "__class__" = some (some (.builtin "object.__class__")))
    (x3_ob : PySem.W.mroIn K C3 (.type "object") = some true)
    (x3_nf_side : PySem.W.findIn K (.ref C3) "side" = some none)
    (x4_gc : PySem.W.nsIn K mainGlobals "UnknownPage" = some (some (.ref C4)))
    (x4_ga : PySem.W.findIn K (.ref C4) "__getattribute__" = some (some (.builtin "BaseException.__getattribute__")))
    (x4_gg : PySem.W.findIn K (.ref C4) "__getattr__" = some none)
    (x4_sb : PySem.W.subIn K (.ref C4) (.type "BaseException") = some true)
    (x4_hd : PySem.W.hasDictIn K C4 = true)
    (x4_ty : PySem.W.typeIn K (.ref C4) = some (.type "type"))
    (x4_ac : PySem.W.findIn K (.ref C4) "__class__" = some (some (.builtin "object.__class__")))
    (x4_ob : PySem.W.mroIn K C4 (.type "object") = some true)
    (x4_nf_page : PySem.W.findIn K (.ref C4) "page" = some none)
    (xm_1_1 : PySem.W.subIn K (.ref C1) (.ref C1) = some true)
    (xm_1_2 : PySem.W.subIn K (.ref C1) (.ref C2) = some false)
    (xm_1_3 : PySem.W.subIn K (.ref C1) (.ref C3) = some false)
    (xm_1_4 : PySem.W.subIn K (.ref C1) (.ref C4) = some false)
    (xm_2_1 : PySem.W.subIn K (.ref C2) (.ref C1) = some false)
    (xm_2_2 : PySem.W.subIn K (.ref C2) (.ref C2) = some true)
    (xm_2_3 : PySem.W.subIn K (.ref C2) (.ref C3) = some false)
    (xm_2_4 : PySem.W.subIn K (.ref C2) (.ref C4) = some false)
    (xm_3_1 : PySem.W.subIn K (.ref C3) (.ref C1) = some false)
    (xm_3_2 : PySem.W.subIn K (.ref C3) (.ref C2) = some false)
    (xm_3_3 : PySem.W.subIn K (.ref C3) (.ref C3) = some true)
    (xm_3_4 : PySem.W.subIn K (.ref C3) (.ref C4) = some false)
    (xm_4_1 : PySem.W.subIn K (.ref C4) (.ref C1) = some false)
    (xm_4_2 : PySem.W.subIn K (.ref C4) (.ref C2) = some false)
    (xm_4_3 : PySem.W.subIn K (.ref C4) (.ref C3) = some false)
    (xm_4_4 : PySem.W.subIn K (.ref C4) (.ref C4) = some true)
    (x3_lk : K.lookup C3 = some (excClassObj nm3 qn3 C3 Na3 bs3 (.ref CL3 :: PySem.HandSPX.veTail) true sn3 sub3 ab3 col3 dd3 xa3 xb3 xc3 xd3 xe3 "ValueError.__new__"))
    (x3_sa : PySem.W.findIn K (.ref C3) "__setattr__" = some (some (.builtin "object.__setattr__")))
    (x3_kc : PySem.W.keepIn K (.ref C3) = true)
    (x1_lk : K.lookup C1 = some (excClassObj nm1 qn1 C1 Na1 bs1 (.ref CL1 :: PySem.HandSPX.veTail) true sn1 sub1 ab1 col1 dd1 xa1 xb1 xc1 xd1 xe1 "ValueError.__new__"))
    (x1_sa : PySem.W.findIn K (.ref C1) "__setattr__" = some (some (.builtin "object.__setattr__")))
    (x1_kc : PySem.W.keepIn K (.ref C1) = true)
    (x4_lk : K.lookup C4 = some (excClassObj nm4 qn4 C4 Na4 bs4 (.ref CL4 :: PySem.HandSPX.veTail) true sn4 sub4 ab4 col4 dd4 xa4 xb4 xc4 xd4 xe4 "ValueError.__new__"))
    (x4_sa : PySem.W.findIn K (.ref C4) "__setattr__" = some (some (.builtin "object.__setattr__")))
    (x4_kc : PySem.W.keepIn K (.ref C4) = true)
    (x_sp : PySem.W.specialIn K (.builtin "object.__class__") "__get__" = some (some (.builtin "getset_descriptor.__get__")))
    (x_tk : PySem.W.takesIn K (.builtin "object.__class__") = some true)
    (a0 : PySem.W.nsIn K mainGlobals "_law_same" = some (some (.ref f0)))
    (l0 : K.lookup f0 = some ⟨oc0, od0, .func (PySem.W.fnOf "_law_same" "_law_same" (defArgs (topS 48)) (defBody (topS 48)) (defScope (topS 48)) .none kV0 dc0 pm0 an0 cd0 ct0), sl0⟩)
    (c0 : PySem.W.codeIn K cd0 "_law_same" = true)
    (k0 : PySem.W.keepIn K (.ref f0) = true)
    (a1 : PySem.W.findIn K (.ref C4) "__init__" = some (some (.ref f1)))
    (i1 : PySem.W.typeIn K (.ref f1) = some (.type "function"))
    (l1 : K.lookup f1 = some ⟨oc1, od1, .func (PySem.W.fnOf "__init__" "UnknownPage.__init__" (defArgs (inClass (topS 6) 0)) (defBody (inClass (topS 6) 0)) (defScope (inClass (topS 6) 0)) .none kV1 dc1 pm1 an1 cd1 ct1), sl1⟩)
    (c1 : PySem.W.codeIn K cd1 "UnknownPage.__init__" = true)
    (k1 : PySem.W.keepIn K (.ref f1) = true)
    (a2 : PySem.W.nsIn K mainGlobals "find_page" = some (some (.ref f2)))
    (l2 : K.lookup f2 = some ⟨oc2, od2, .func (PySem.W.fnOf "find_page" "find_page" (defArgs (topS 27)) (defBody (topS 27)) (defScope (topS 27)) .none kV2 dc2 pm2 an2 cd2 ct2), sl2⟩)
    (c2 : PySem.W.codeIn K cd2 "find_page" = true)
    (k2 : PySem.W.keepIn K (.ref f2) = true)
    (a3 : PySem.W.findIn K (.ref C0) "loads" = some (some (.ref f3)))
    (i3 : PySem.W.isFn K (.ref f3) = true)
    (l3 : K.lookup f3 = some ⟨oc3, od3, .func (PySem.W.fnOf "loads" "Site.loads" (defArgs (inClass (topS 18) 4)) (defBody (inClass (topS 18) 4)) (defScope (inClass (topS 18) 4)) .none kV3 dc3 pm3 an3 cd3 ct3), sl3⟩)
    (c3 : PySem.W.codeIn K cd3 "Site.loads" = true)
    (k3 : PySem.W.keepIn K (.ref f3) = true)
    (a4 : PySem.W.findIn K (.ref C3) "__init__" = some (some (.ref f4)))
    (i4 : PySem.W.typeIn K (.ref f4) = some (.type "function"))
    (l4 : K.lookup f4 = some ⟨oc4, od4, .func (PySem.W.fnOf "__init__" "InvalidSide.__init__" (defArgs (inClass (topS 5) 0)) (defBody (inClass (topS 5) 0)) (defScope (inClass (topS 5) 0)) .none kV4 dc4 pm4 an4 cd4 ct4), sl4⟩)
    (c4 : PySem.W.codeIn K cd4 "InvalidSide.__init__" = true)
    (k4 : PySem.W.keepIn K (.ref f4) = true)
    (a5 : PySem.W.findIn K (.ref C0) "guard" = some (some (.ref f5)))
    (i5 : PySem.W.isFn K (.ref f5) = true)
    (l5 : K.lookup f5 = some ⟨oc5, od5, .func (PySem.W.fnOf "guard" "Site.guard" (defArgs (inClass (topS 18) 3)) (defBody (inClass (topS 18) 3)) (defScope (inClass (topS 18) 3)) .none kV5 dc5 pm5 an5 cd5 ct5), sl5⟩)
    (c5 : PySem.W.codeIn K cd5 "Site.guard" = true)
    (k5 : PySem.W.keepIn K (.ref f5) = true)
    (a6 : PySem.W.nsIn K mainGlobals "names_of" = some (some (.ref f6)))
    (l6 : K.lookup f6 = some ⟨oc6, od6, .func (PySem.W.fnOf "names_of" "names_of" (defArgs (topS 26)) (defBody (topS 26)) (defScope (topS 26)) .none kV6 dc6 pm6 an6 cd6 ct6), sl6⟩)
    (c6 : PySem.W.codeIn K cd6 "names_of" = true)
    (k6 : PySem.W.keepIn K (.ref f6) = true)
    (a7 : PySem.W.findIn K (.ref C0) "page_names" = some (some (.ref f7)))
    (i7 : PySem.W.isFn K (.ref f7) = true)
    (l7 : K.lookup f7 = some ⟨oc7, od7, .func (PySem.W.fnOf "page_names" "Site.page_names" (defArgs (inClass (topS 18) 2)) (defBody (inClass (topS 18) 2)) (defScope (inClass (topS 18) 2)) .none kV7 dc7 pm7 an7 cd7 ct7), sl7⟩)
    (c7 : PySem.W.codeIn K cd7 "Site.page_names" = true)
    (k7 : PySem.W.keepIn K (.ref f7) = true)
    (a8 : PySem.W.nsIn K mainGlobals "_law_tells" = some (some (.ref f8)))
    (l8 : K.lookup f8 = some ⟨oc8, od8, .func (PySem.W.fnOf "_law_tells" "_law_tells" (defArgs (topS 49)) (defBody (topS 49)) (defScope (topS 49)) .none kV8 dc8 pm8 an8 cd8 ct8), sl8⟩)
    (c8 : PySem.W.codeIn K cd8 "_law_tells" = true)
    (k8 : PySem.W.keepIn K (.ref f8) = true)
    (a9 : PySem.W.findIn K (.ref C0) "__eq__" = some (some (.ref f9)))
    (i9 : PySem.W.isFn K (.ref f9) = true)
    (l9 : K.lookup f9 = some ⟨oc9, od9, .func (PySem.W.fnOf "__eq__" "Site.__eq__" (defArgs (inClass (topS 18) 1)) (defBody (inClass (topS 18) 1)) (defScope (inClass (topS 18) 1)) .none kV9 dc9 pm9 an9 cd9 ct9), sl9⟩)
    (c9 : PySem.W.codeIn K cd9 "Site.__eq__" = true)
    (k9 : PySem.W.keepIn K (.ref f9) = true)
    (a10 : PySem.W.nsIn K mainGlobals "_law_emptied" = some (some (.ref f10)))
    (l10 : K.lookup f10 = some ⟨oc10, od10, .func (PySem.W.fnOf "_law_emptied" "_law_emptied" (defArgs (topS 50)) (defBody (topS 50)) (defScope (topS 50)) .none kV10 dc10 pm10 an10 cd10 ct10), sl10⟩)
    (c10 : PySem.W.codeIn K cd10 "_law_emptied" = true)
    (k10 : PySem.W.keepIn K (.ref f10) = true)
    (a11 : PySem.W.nsIn K mainGlobals "_law_mix" = some (some (.ref f11)))
    (l11 : K.lookup f11 = some ⟨oc11, od11, .func (PySem.W.fnOf "_law_mix" "_law_mix" (defArgs (topS 40)) (defBody (topS 40)) (defScope (topS 40)) .none kV11 dc11 pm11 an11 cd11 ct11), sl11⟩)
    (c11 : PySem.W.codeIn K cd11 "_law_mix" = true)
    (k11 : PySem.W.keepIn K (.ref f11) = true)
    (a12 : PySem.W.nsIn K mainGlobals "_law_draw" = some (some (.ref f12)))
    (l12 : K.lookup f12 = some ⟨oc12, od12, .func (PySem.W.fnOf "_law_draw" "_law_draw" (defArgs (topS 42)) (defBody (topS 42)) (defScope (topS 42)) .none kV12 dc12 pm12 an12 cd12 ct12), sl12⟩)
    (c12 : PySem.W.codeIn K cd12 "_law_draw" = true)
    (k12 : PySem.W.keepIn K (.ref f12) = true)
    (a13 : PySem.W.nsIn K mainGlobals "_law_others" = some (some (.ref f13)))
    (l13 : K.lookup f13 = some ⟨oc13, od13, .func (PySem.W.fnOf "_law_others" "_law_others" (defArgs (topS 51)) (defBody (topS 51)) (defScope (topS 51)) .none kV13 dc13 pm13 an13 cd13 ct13), sl13⟩)
    (c13 : PySem.W.codeIn K cd13 "_law_others" = true)
    (k13 : PySem.W.keepIn K (.ref f13) = true)
    (a14 : PySem.W.nsIn K mainGlobals "is_integer" = some (some (.ref f14)))
    (l14 : K.lookup f14 = some ⟨oc14, od14, .func (PySem.W.fnOf "is_integer" "is_integer" (defArgs (topS 19)) (defBody (topS 19)) (defScope (topS 19)) .none kV14 dc14 pm14 an14 cd14 ct14), sl14⟩)
    (c14 : PySem.W.codeIn K cd14 "is_integer" = true)
    (k14 : PySem.W.keepIn K (.ref f14) = true)
    (a15 : PySem.W.findIn K (.ref C1) "__init__" = some (some (.ref f15)))
    (i15 : PySem.W.typeIn K (.ref f15) = some (.type "function"))
    (l15 : K.lookup f15 = some ⟨oc15, od15, .func (PySem.W.fnOf "__init__" "InvalidSite.__init__" (defArgs (inClass (topS 3) 0)) (defBody (inClass (topS 3) 0)) (defScope (inClass (topS 3) 0)) .none kV15 dc15 pm15 an15 cd15 ct15), sl15⟩)
    (c15 : PySem.W.codeIn K cd15 "InvalidSite.__init__" = true)
    (k15 : PySem.W.keepIn K (.ref f15) = true)
    (a16 : PySem.W.nsIn K mainGlobals "branches" = some (some (.ref f16)))
    (l16 : K.lookup f16 = some ⟨oc16, od16, .func (PySem.W.fnOf "branches" "branches" (defArgs (topS 32)) (defBody (topS 32)) (defScope (topS 32)) .none kV16 dc16 pm16 an16 cd16 ct16), sl16⟩)
    (c16 : PySem.W.codeIn K cd16 "branches" = true)
    (k16 : PySem.W.keepIn K (.ref f16) = true)
    (a17 : PySem.W.nsIn K mainGlobals "rows_with_positions" = some (some (.ref f17)))
    (l17 : K.lookup f17 = some ⟨oc17, od17, .func (PySem.W.fnOf "rows_with_positions" "rows_with_positions" (defArgs (topS 33)) (defBody (topS 33)) (defScope (topS 33)) .none kV17 dc17 pm17 an17 cd17 ct17), sl17⟩)
    (c17 : PySem.W.codeIn K cd17 "rows_with_positions" = true)
    (k17 : PySem.W.keepIn K (.ref f17) = true)
    (a18 : PySem.W.nsIn K mainGlobals "may_branch" = some (some (.ref f18)))
    (l18 : K.lookup f18 = some ⟨oc18, od18, .func (PySem.W.fnOf "may_branch" "may_branch" (defArgs (topS 31)) (defBody (topS 31)) (defScope (topS 31)) .none kV18 dc18 pm18 an18 cd18 ct18), sl18⟩)
    (c18 : PySem.W.codeIn K cd18 "may_branch" = true)
    (k18 : PySem.W.keepIn K (.ref f18) = true)
    (a19 : PySem.W.nsIn K mainGlobals "is_row" = some (some (.ref f19)))
    (l19 : K.lookup f19 = some ⟨oc19, od19, .func (PySem.W.fnOf "is_row" "is_row" (defArgs (topS 30)) (defBody (topS 30)) (defScope (topS 30)) .none kV19 dc19 pm19 an19 cd19 ct19), sl19⟩)
    (c19 : PySem.W.codeIn K cd19 "is_row" = true)
    (k19 : PySem.W.keepIn K (.ref f19) = true)
    (a20 : PySem.W.nsIn K mainGlobals "first_wrong_row" = some (some (.ref f20)))
    (l20 : K.lookup f20 = some ⟨oc20, od20, .func (PySem.W.fnOf "first_wrong_row" "first_wrong_row" (defArgs (topS 29)) (defBody (topS 29)) (defScope (topS 29)) .none kV20 dc20 pm20 an20 cd20 ct20), sl20⟩)
    (c20 : PySem.W.codeIn K cd20 "first_wrong_row" = true)
    (k20 : PySem.W.keepIn K (.ref f20) = true)
    (a21 : PySem.W.nsIn K mainGlobals "check_guard" = some (some (.ref f21)))
    (l21 : K.lookup f21 = some ⟨oc21, od21, .func (PySem.W.fnOf "check_guard" "check_guard" (defArgs (topS 28)) (defBody (topS 28)) (defScope (topS 28)) .none kV21 dc21 pm21 an21 cd21 ct21), sl21⟩)
    (c21 : PySem.W.codeIn K cd21 "check_guard" = true)
    (k21 : PySem.W.keepIn K (.ref f21) = true)
    (a22 : PySem.W.nsIn K mainGlobals "is_named_page" = some (some (.ref f22)))
    (l22 : K.lookup f22 = some ⟨oc22, od22, .func (PySem.W.fnOf "is_named_page" "is_named_page" (defArgs (topS 25)) (defBody (topS 25)) (defScope (topS 25)) .none kV22 dc22 pm22 an22 cd22 ct22), sl22⟩)
    (c22 : PySem.W.codeIn K cd22 "is_named_page" = true)
    (k22 : PySem.W.keepIn K (.ref f22) = true)
    (a23 : PySem.W.nsIn K mainGlobals "is_name" = some (some (.ref f23)))
    (l23 : K.lookup f23 = some ⟨oc23, od23, .func (PySem.W.fnOf "is_name" "is_name" (defArgs (topS 20)) (defBody (topS 20)) (defScope (topS 20)) .none kV23 dc23 pm23 an23 cd23 ct23), sl23⟩)
    (c23 : PySem.W.codeIn K cd23 "is_name" = true)
    (k23 : PySem.W.keepIn K (.ref f23) = true)
    (a24 : PySem.W.nsIn K mainGlobals "are_different_names" = some (some (.ref f24)))
    (l24 : K.lookup f24 = some ⟨oc24, od24, .func (PySem.W.fnOf "are_different_names" "are_different_names" (defArgs (topS 21)) (defBody (topS 21)) (defScope (topS 21)) .none kV24 dc24 pm24 an24 cd24 ct24), sl24⟩)
    (c24 : PySem.W.codeIn K cd24 "are_different_names" = true)
    (k24 : PySem.W.keepIn K (.ref f24) = true)
    (a25 : PySem.W.nsIn K mainGlobals "are_pages" = some (some (.ref f25)))
    (l25 : K.lookup f25 = some ⟨oc25, od25, .func (PySem.W.fnOf "are_pages" "are_pages" (defArgs (topS 24)) (defBody (topS 24)) (defScope (topS 24)) .none kV25 dc25 pm25 an25 cd25 ct25), sl25⟩)
    (c25 : PySem.W.codeIn K cd25 "are_pages" = true)
    (k25 : PySem.W.keepIn K (.ref f25) = true)
    (a26 : PySem.W.nsIn K mainGlobals "are_bits" = some (some (.ref f26)))
    (l26 : K.lookup f26 = some ⟨oc26, od26, .func (PySem.W.fnOf "are_bits" "are_bits" (defArgs (topS 23)) (defBody (topS 23)) (defScope (topS 23)) .none kV26 dc26 pm26 an26 cd26 ct26), sl26⟩)
    (c26 : PySem.W.codeIn K cd26 "are_bits" = true)
    (k26 : PySem.W.keepIn K (.ref f26) = true)
    (a27 : PySem.W.nsIn K mainGlobals "check_site" = some (some (.ref f27)))
    (l27 : K.lookup f27 = some ⟨oc27, od27, .func (PySem.W.fnOf "check_site" "check_site" (defArgs (topS 22)) (defBody (topS 22)) (defScope (topS 22)) .none kV27 dc27 pm27 an27 cd27 ct27), sl27⟩)
    (c27 : PySem.W.codeIn K cd27 "check_site" = true)
    (k27 : PySem.W.keepIn K (.ref f27) = true)
    (a28 : PySem.W.findIn K (.ref C0) "__init__" = some (some (.ref f28)))
    (i28 : PySem.W.isFn K (.ref f28) = true)
    (l28 : K.lookup f28 = some ⟨oc28, od28, .func (PySem.W.fnOf "__init__" "Site.__init__" (defArgs (inClass (topS 18) 0)) (defBody (inClass (topS 18) 0)) (defScope (inClass (topS 18) 0)) .none (.ref kd28) dc28 pm28 an28 cd28 ct28), sl28⟩)
    (kdl28_0 : PySem.W.nsIn K kd28 "keep" = some (some (.int 4 kt28_0)))
    (c28 : PySem.W.codeIn K cd28 "Site.__init__" = true)
    (k28 : PySem.W.keepIn K (.ref f28) = true)
    (a29 : PySem.W.nsIn K mainGlobals "_law_word" = some (some (.ref f29)))
    (l29 : K.lookup f29 = some ⟨oc29, od29, .func (PySem.W.fnOf "_law_word" "_law_word" (defArgs (topS 44)) (defBody (topS 44)) (defScope (topS 44)) .none kV29 dc29 pm29 an29 cd29 ct29), sl29⟩)
    (c29 : PySem.W.codeIn K cd29 "_law_word" = true)
    (k29 : PySem.W.keepIn K (.ref f29) = true)
    (a30 : PySem.W.nsIn K mainGlobals "_law_row" = some (some (.ref f30)))
    (l30 : K.lookup f30 = some ⟨oc30, od30, .func (PySem.W.fnOf "_law_row" "_law_row" (defArgs (topS 46)) (defBody (topS 46)) (defScope (topS 46)) .none kV30 dc30 pm30 an30 cd30 ct30), sl30⟩)
    (c30 : PySem.W.codeIn K cd30 "_law_row" = true)
    (k30 : PySem.W.keepIn K (.ref f30) = true)
    (a31 : PySem.W.nsIn K mainGlobals "_law_rows" = some (some (.ref f31)))
    (l31 : K.lookup f31 = some ⟨oc31, od31, .func (PySem.W.fnOf "_law_rows" "_law_rows" (defArgs (topS 45)) (defBody (topS 45)) (defScope (topS 45)) .none kV31 dc31 pm31 an31 cd31 ct31), sl31⟩)
    (c31 : PySem.W.codeIn K cd31 "_law_rows" = true)
    (k31 : PySem.W.keepIn K (.ref f31) = true)
    (a32 : PySem.W.nsIn K mainGlobals "_law_names" = some (some (.ref f32)))
    (l32 : K.lookup f32 = some ⟨oc32, od32, .func (PySem.W.fnOf "_law_names" "_law_names" (defArgs (topS 43)) (defBody (topS 43)) (defScope (topS 43)) .none kV32 dc32 pm32 an32 cd32 ct32), sl32⟩)
    (c32 : PySem.W.codeIn K cd32 "_law_names" = true)
    (k32 : PySem.W.keepIn K (.ref f32) = true)
    (a33 : PySem.W.nsIn K mainGlobals "_law_parts" = some (some (.ref f33)))
    (l33 : K.lookup f33 = some ⟨oc33, od33, .func (PySem.W.fnOf "_law_parts" "_law_parts" (defArgs (topS 47)) (defBody (topS 47)) (defScope (topS 47)) .none kV33 dc33 pm33 an33 cd33 ct33), sl33⟩)
    (c33 : PySem.W.codeIn K cd33 "_law_parts" = true)
    (k33 : PySem.W.keepIn K (.ref f33) = true)
    (a34 : PySem.W.nsIn K mainGlobals "_law_box" = some (some (.ref f34)))
    (l34 : K.lookup f34 = some ⟨oc34, od34, .func (PySem.W.fnOf "_law_box" "_law_box" (defArgs (topS 41)) (defBody (topS 41)) (defScope (topS 41)) .none kV34 dc34 pm34 an34 cd34 ct34), sl34⟩)
    (c34 : PySem.W.codeIn K cd34 "_law_box" = true)
    (k34 : PySem.W.keepIn K (.ref f34) = true)
    (a35 : PySem.W.nsIn K mainGlobals "law" = some (some (.ref f35)))
    (l35 : K.lookup f35 = some ⟨oc35, od35, .func (PySem.W.fnOf "law" "law" (defArgs (topS 52)) (defBody (topS 52)) (defScope (topS 52)) .none kV35 dc35 pm35 an35 cd35 ct35), sl35⟩)
    (c35 : PySem.W.codeIn K cd35 "law" = true)
    (k35 : PySem.W.keepIn K (.ref f35) = true)
    (z_all : PySem.W.nsIn K mainGlobals "all" = some none)
    (z_bool : PySem.W.nsIn K mainGlobals "bool" = some none)
    (z_enumerate : PySem.W.nsIn K mainGlobals "enumerate" = some none)
    (z_int : PySem.W.nsIn K mainGlobals "int" = some none)
    (z_isinstance : PySem.W.nsIn K mainGlobals "isinstance" = some none)
    (z_len : PySem.W.nsIn K mainGlobals "len" = some none)
    (z_list : PySem.W.nsIn K mainGlobals "list" = some none)
    (z_range : PySem.W.nsIn K mainGlobals "range" = some none)
    (z_set : PySem.W.nsIn K mainGlobals "set" = some none)
    (z_str : PySem.W.nsIn K mainGlobals "str" = some none)
    (z_tuple : PySem.W.nsIn K mainGlobals "tuple" = some none)
    (n0 : PySem.W.nsIn K mainGlobals "DEEPEST_BRANCHING" = some (some (.int 3 t0)))
    (n1 : PySem.W.nsIn K mainGlobals "FEWEST_PAGES" = some (some (.int 2 t1)))
    (n2 : PySem.W.nsIn K mainGlobals "GREATEST_KEEP" = some (some (.int 4 t2)))
    (n3 : PySem.W.nsIn K mainGlobals "LEAST_KEEP" = some (some (.int 2 t3)))
    (n4 : PySem.W.nsIn K mainGlobals "LETTERS" = some (some (.str "abcdefghijklmnopqrstuvwxyz" t4)))
    (n5 : PySem.W.nsIn K mainGlobals "LONGEST_NAME" = some (some (.int 8 t5)))
    (n6 : PySem.W.nsIn K mainGlobals "MOST_BITS" = some (some (.int 3 t6)))
    (n7 : PySem.W.nsIn K mainGlobals "MOST_PAGES" = some (some (.int 5 t7)))
    (n8 : PySem.W.nsIn K mainGlobals "MOST_ROWS" = some (some (.int 8 t8)))
    (n9 : PySem.W.nsIn K mainGlobals "SIDES" = some (some (.ref ka9)))
    (o9 : K.lookup ka9 = some ⟨.type "tuple", none, .seq #[(.str "enter" t9_0), (.str "leave" t9_1)] nn9, ks9⟩)
    : ∃ fd : FuncData, (∀ (s : Shared) (v : Value), BindsTo s fd ⟨[v], []⟩ [("_law_script", v)]) ∧ ∀ base : Heap, K.In base → base.Ns mainGlobals mg → FnOk l.prog w K mg base (L2.CX l.prog w) 23 fa fd ["_law_script"] (spLaw K) := by
  have e := hfa.symm.trans (PySem.W.mg_of X G a35)
  cases e
  let A : Nat → Addr := fun i => [f0, f1, f2, f3, f4, f5, f6, f7, f8, f9, f10, f11, f12, f13, f14, f15, f16, f17, f18, f19, f20, f21, f22, f23, f24, f25, f26, f27, f28, f29, f30, f31, f32, f33, f34, fa].getD i 0
  let CA : Nat → Addr := fun i => [C0, C1, C2, C3, C4].getD i 0
  let KA : Nat → Addr := fun i => [0, 0, 0, 0, 0, 0, 0, 0, 0, ka9].getD i 0
  let TK : Nat → Tok := fun i => [t0, t1, t2, t3, t4, t5, t6, t7, t8, 0].getD i 0
  have F0 := fun_mk (st := (topS 48)) l0 c0 k0
  have F1 := fun_mk (st := (inClass (topS 6) 0)) l1 c1 k1
  have F2 := fun_mk (st := (topS 27)) l2 c2 k2
  have F3 := fun_mk (st := (inClass (topS 18) 4)) l3 c3 k3
  have F4 := fun_mk (st := (inClass (topS 5) 0)) l4 c4 k4
  have F5 := fun_mk (st := (inClass (topS 18) 3)) l5 c5 k5
  have F6 := fun_mk (st := (topS 26)) l6 c6 k6
  have F7 := fun_mk (st := (inClass (topS 18) 2)) l7 c7 k7
  have F8 := fun_mk (st := (topS 49)) l8 c8 k8
  have F9 := fun_mk (st := (inClass (topS 18) 1)) l9 c9 k9
  have F10 := fun_mk (st := (topS 50)) l10 c10 k10
  have F11 := fun_mk (st := (topS 40)) l11 c11 k11
  have F12 := fun_mk (st := (topS 42)) l12 c12 k12
  have F13 := fun_mk (st := (topS 51)) l13 c13 k13
  have F14 := fun_mk (st := (topS 19)) l14 c14 k14
  have F15 := fun_mk (st := (inClass (topS 3) 0)) l15 c15 k15
  have F16 := fun_mk (st := (topS 32)) l16 c16 k16
  have F17 := fun_mk (st := (topS 33)) l17 c17 k17
  have F18 := fun_mk (st := (topS 31)) l18 c18 k18
  have F19 := fun_mk (st := (topS 30)) l19 c19 k19
  have F20 := fun_mk (st := (topS 29)) l20 c20 k20
  have F21 := fun_mk (st := (topS 28)) l21 c21 k21
  have F22 := fun_mk (st := (topS 25)) l22 c22 k22
  have F23 := fun_mk (st := (topS 20)) l23 c23 k23
  have F24 := fun_mk (st := (topS 21)) l24 c24 k24
  have F25 := fun_mk (st := (topS 24)) l25 c25 k25
  have F26 := fun_mk (st := (topS 23)) l26 c26 k26
  have F27 := fun_mk (st := (topS 22)) l27 c27 k27
  have F28 : FunD K "__init__" "Site.__init__" (defArgs (inClass (topS 18) 0)) (defBody (inClass (topS 18) 0)) (defScope (inClass (topS 18) 0)) [] [("keep", .int (4))] f28 (PySem.W.fnOf "__init__" "Site.__init__" (defArgs (inClass (topS 18) 0)) (defBody (inClass (topS 18) 0)) (defScope (inClass (topS 18) 0)) .none (.ref kd28) dc28 pm28 an28 cd28 ct28) := ⟨⟨_, _, _, _, _, _, _, _, _, _, rfl, l28, c28, .inl ⟨rfl, rfl⟩, .inr ⟨kd28, rfl, fun q hq => by cases hq with | head => exact ⟨_, kdl28_0, ⟨_, rfl⟩⟩ | tail _ hq => exact (fun q hq => nomatch hq) q hq⟩⟩, k28⟩
  have F29 := fun_mk (st := (topS 44)) l29 c29 k29
  have F30 := fun_mk (st := (topS 46)) l30 c30 k30
  have F31 := fun_mk (st := (topS 45)) l31 c31 k31
  have F32 := fun_mk (st := (topS 43)) l32 c32 k32
  have F33 := fun_mk (st := (topS 47)) l33 c33 k33
  have F34 := fun_mk (st := (topS 41)) l34 c34 k34
  have F35 := fun_mk (st := (topS 52)) l35 c35 k35
  let FD : Nat → FuncData := fun i => [PySem.W.fnOf "_law_same" "_law_same" (defArgs (topS 48)) (defBody (topS 48)) (defScope (topS 48)) .none kV0 dc0 pm0 an0 cd0 ct0, PySem.W.fnOf "__init__" "UnknownPage.__init__" (defArgs (inClass (topS 6) 0)) (defBody (inClass (topS 6) 0)) (defScope (inClass (topS 6) 0)) .none kV1 dc1 pm1 an1 cd1 ct1, PySem.W.fnOf "find_page" "find_page" (defArgs (topS 27)) (defBody (topS 27)) (defScope (topS 27)) .none kV2 dc2 pm2 an2 cd2 ct2, PySem.W.fnOf "loads" "Site.loads" (defArgs (inClass (topS 18) 4)) (defBody (inClass (topS 18) 4)) (defScope (inClass (topS 18) 4)) .none kV3 dc3 pm3 an3 cd3 ct3, PySem.W.fnOf "__init__" "InvalidSide.__init__" (defArgs (inClass (topS 5) 0)) (defBody (inClass (topS 5) 0)) (defScope (inClass (topS 5) 0)) .none kV4 dc4 pm4 an4 cd4 ct4, PySem.W.fnOf "guard" "Site.guard" (defArgs (inClass (topS 18) 3)) (defBody (inClass (topS 18) 3)) (defScope (inClass (topS 18) 3)) .none kV5 dc5 pm5 an5 cd5 ct5, PySem.W.fnOf "names_of" "names_of" (defArgs (topS 26)) (defBody (topS 26)) (defScope (topS 26)) .none kV6 dc6 pm6 an6 cd6 ct6, PySem.W.fnOf "page_names" "Site.page_names" (defArgs (inClass (topS 18) 2)) (defBody (inClass (topS 18) 2)) (defScope (inClass (topS 18) 2)) .none kV7 dc7 pm7 an7 cd7 ct7, PySem.W.fnOf "_law_tells" "_law_tells" (defArgs (topS 49)) (defBody (topS 49)) (defScope (topS 49)) .none kV8 dc8 pm8 an8 cd8 ct8, PySem.W.fnOf "__eq__" "Site.__eq__" (defArgs (inClass (topS 18) 1)) (defBody (inClass (topS 18) 1)) (defScope (inClass (topS 18) 1)) .none kV9 dc9 pm9 an9 cd9 ct9, PySem.W.fnOf "_law_emptied" "_law_emptied" (defArgs (topS 50)) (defBody (topS 50)) (defScope (topS 50)) .none kV10 dc10 pm10 an10 cd10 ct10, PySem.W.fnOf "_law_mix" "_law_mix" (defArgs (topS 40)) (defBody (topS 40)) (defScope (topS 40)) .none kV11 dc11 pm11 an11 cd11 ct11, PySem.W.fnOf "_law_draw" "_law_draw" (defArgs (topS 42)) (defBody (topS 42)) (defScope (topS 42)) .none kV12 dc12 pm12 an12 cd12 ct12, PySem.W.fnOf "_law_others" "_law_others" (defArgs (topS 51)) (defBody (topS 51)) (defScope (topS 51)) .none kV13 dc13 pm13 an13 cd13 ct13, PySem.W.fnOf "is_integer" "is_integer" (defArgs (topS 19)) (defBody (topS 19)) (defScope (topS 19)) .none kV14 dc14 pm14 an14 cd14 ct14, PySem.W.fnOf "__init__" "InvalidSite.__init__" (defArgs (inClass (topS 3) 0)) (defBody (inClass (topS 3) 0)) (defScope (inClass (topS 3) 0)) .none kV15 dc15 pm15 an15 cd15 ct15, PySem.W.fnOf "branches" "branches" (defArgs (topS 32)) (defBody (topS 32)) (defScope (topS 32)) .none kV16 dc16 pm16 an16 cd16 ct16, PySem.W.fnOf "rows_with_positions" "rows_with_positions" (defArgs (topS 33)) (defBody (topS 33)) (defScope (topS 33)) .none kV17 dc17 pm17 an17 cd17 ct17, PySem.W.fnOf "may_branch" "may_branch" (defArgs (topS 31)) (defBody (topS 31)) (defScope (topS 31)) .none kV18 dc18 pm18 an18 cd18 ct18, PySem.W.fnOf "is_row" "is_row" (defArgs (topS 30)) (defBody (topS 30)) (defScope (topS 30)) .none kV19 dc19 pm19 an19 cd19 ct19, PySem.W.fnOf "first_wrong_row" "first_wrong_row" (defArgs (topS 29)) (defBody (topS 29)) (defScope (topS 29)) .none kV20 dc20 pm20 an20 cd20 ct20, PySem.W.fnOf "check_guard" "check_guard" (defArgs (topS 28)) (defBody (topS 28)) (defScope (topS 28)) .none kV21 dc21 pm21 an21 cd21 ct21, PySem.W.fnOf "is_named_page" "is_named_page" (defArgs (topS 25)) (defBody (topS 25)) (defScope (topS 25)) .none kV22 dc22 pm22 an22 cd22 ct22, PySem.W.fnOf "is_name" "is_name" (defArgs (topS 20)) (defBody (topS 20)) (defScope (topS 20)) .none kV23 dc23 pm23 an23 cd23 ct23, PySem.W.fnOf "are_different_names" "are_different_names" (defArgs (topS 21)) (defBody (topS 21)) (defScope (topS 21)) .none kV24 dc24 pm24 an24 cd24 ct24, PySem.W.fnOf "are_pages" "are_pages" (defArgs (topS 24)) (defBody (topS 24)) (defScope (topS 24)) .none kV25 dc25 pm25 an25 cd25 ct25, PySem.W.fnOf "are_bits" "are_bits" (defArgs (topS 23)) (defBody (topS 23)) (defScope (topS 23)) .none kV26 dc26 pm26 an26 cd26 ct26, PySem.W.fnOf "check_site" "check_site" (defArgs (topS 22)) (defBody (topS 22)) (defScope (topS 22)) .none kV27 dc27 pm27 an27 cd27 ct27, PySem.W.fnOf "__init__" "Site.__init__" (defArgs (inClass (topS 18) 0)) (defBody (inClass (topS 18) 0)) (defScope (inClass (topS 18) 0)) .none (.ref kd28) dc28 pm28 an28 cd28 ct28, PySem.W.fnOf "_law_word" "_law_word" (defArgs (topS 44)) (defBody (topS 44)) (defScope (topS 44)) .none kV29 dc29 pm29 an29 cd29 ct29, PySem.W.fnOf "_law_row" "_law_row" (defArgs (topS 46)) (defBody (topS 46)) (defScope (topS 46)) .none kV30 dc30 pm30 an30 cd30 ct30, PySem.W.fnOf "_law_rows" "_law_rows" (defArgs (topS 45)) (defBody (topS 45)) (defScope (topS 45)) .none kV31 dc31 pm31 an31 cd31 ct31, PySem.W.fnOf "_law_names" "_law_names" (defArgs (topS 43)) (defBody (topS 43)) (defScope (topS 43)) .none kV32 dc32 pm32 an32 cd32 ct32, PySem.W.fnOf "_law_parts" "_law_parts" (defArgs (topS 47)) (defBody (topS 47)) (defScope (topS 47)) .none kV33 dc33 pm33 an33 cd33 ct33, PySem.W.fnOf "_law_box" "_law_box" (defArgs (topS 41)) (defBody (topS 41)) (defScope (topS 41)) .none kV34 dc34 pm34 an34 cd34 ct34, PySem.W.fnOf "law" "law" (defArgs (topS 52)) (defBody (topS 52)) (defScope (topS 52)) .none kV35 dc35 pm35 an35 cd35 ct35].getD i (PySem.W.fnOf "law" "law" (defArgs (topS 52)) (defBody (topS 52)) (defScope (topS 52)) .none kV35 dc35 pm35 an35 cd35 ct35)
  have T : Txt K mg A FD CA KA TK := {
    f__law_same := F0
    b__law_same := F0.binds (ps := ["_law_told", "_law_due"]) fun _ _ _ _ _ _ us hl => match us, hl with | [_, _], _ => rfl
    g__law_same := PySem.W.mg_of X G a0
    f_UnknownPage___init__ := F1
    b_UnknownPage___init__ := F1.binds (ps := ["self", "page"]) fun _ _ _ _ _ _ us hl => match us, hl with | [_, _], _ => rfl
    f_find_page := F2
    b_find_page := F2.binds (ps := ["pages", "page"]) fun _ _ _ _ _ _ us hl => match us, hl with | [_, _], _ => rfl
    g_find_page := PySem.W.mg_of X G a2
    f_Site_loads := F3
    b_Site_loads := F3.binds (ps := ["self", "page"]) fun _ _ _ _ _ _ us hl => match us, hl with | [_, _], _ => rfl
    m_Site_loads := ⟨a3, i3, k3⟩
    f_InvalidSide___init__ := F4
    b_InvalidSide___init__ := F4.binds (ps := ["self", "side"]) fun _ _ _ _ _ _ us hl => match us, hl with | [_, _], _ => rfl
    f_Site_guard := F5
    b_Site_guard := F5.binds (ps := ["self", "page", "side"]) fun _ _ _ _ _ _ us hl => match us, hl with | [_, _, _], _ => rfl
    m_Site_guard := ⟨a5, i5, k5⟩
    f_names_of := F6
    b_names_of := F6.binds (ps := ["pages"]) fun _ _ _ _ _ _ us hl => match us, hl with | [_], _ => rfl
    g_names_of := PySem.W.mg_of X G a6
    f_Site_page_names := F7
    b_Site_page_names := F7.binds (ps := ["self"]) fun _ _ _ _ _ _ us hl => match us, hl with | [_], _ => rfl
    m_Site_page_names := ⟨a7, i7, k7⟩
    f__law_tells := F8
    b__law_tells := F8.binds (ps := ["_law_site", "_law_parts_here"]) fun _ _ _ _ _ _ us hl => match us, hl with | [_, _], _ => rfl
    g__law_tells := PySem.W.mg_of X G a8
    f_Site___eq__ := F9
    b_Site___eq__ := F9.binds (ps := ["self", "other"]) fun _ _ _ _ _ _ us hl => match us, hl with | [_, _], _ => rfl
    m_Site___eq__ := ⟨a9, i9, k9⟩
    f__law_emptied := F10
    b__law_emptied := F10.binds (ps := ["_law_rows_here"]) fun _ _ _ _ _ _ us hl => match us, hl with | [_], _ => rfl
    g__law_emptied := PySem.W.mg_of X G a10
    f__law_mix := F11
    b__law_mix := F11.binds (ps := ["_law_value", "_law_k"]) fun _ _ _ _ _ _ us hl => match us, hl with | [_, _], _ => rfl
    g__law_mix := PySem.W.mg_of X G a11
    f__law_draw := F12
    b__law_draw := F12.binds (ps := ["_law_box_here", "_law_many"]) fun _ _ _ _ _ _ us hl => match us, hl with | [_, _], _ => rfl
    g__law_draw := PySem.W.mg_of X G a12
    f__law_others := F13
    b__law_others := F13.binds (ps := ["_law_box_here", "_law_parts_here"]) fun _ _ _ _ _ _ us hl => match us, hl with | [_, _], _ => rfl
    g__law_others := PySem.W.mg_of X G a13
    f_is_integer := F14
    b_is_integer := F14.binds (ps := ["value"]) fun _ _ _ _ _ _ us hl => match us, hl with | [_], _ => rfl
    g_is_integer := PySem.W.mg_of X G a14
    f_InvalidSite___init__ := F15
    b_InvalidSite___init__ := F15.binds (ps := ["self", "part", "path"]) fun _ _ _ _ _ _ us hl => match us, hl with | [_, _, _], _ => rfl
    f_branches := F16
    b_branches := F16.binds (ps := ["row"]) fun _ _ _ _ _ _ us hl => match us, hl with | [_], _ => rfl
    g_branches := PySem.W.mg_of X G a16
    f_rows_with_positions := F17
    b_rows_with_positions := F17.binds (ps := ["rows", "before"]) fun _ _ _ _ _ _ us hl => match us, hl with | [_, _], _ => rfl
    g_rows_with_positions := PySem.W.mg_of X G a17
    f_may_branch := F18
    b_may_branch := F18.binds (ps := ["position", "row"]) fun _ _ _ _ _ _ us hl => match us, hl with | [_, _], _ => rfl
    g_may_branch := PySem.W.mg_of X G a18
    f_is_row := F19
    b_is_row := F19.binds (ps := ["bits", "names", "side", "position", "row"]) fun _ _ _ _ _ _ us hl => match us, hl with | [_, _, _, _, _], _ => rfl
    g_is_row := PySem.W.mg_of X G a19
    f_first_wrong_row := F20
    b_first_wrong_row := F20.binds (ps := ["bits", "names", "side", "rows", "before"]) fun _ _ _ _ _ _ us hl => match us, hl with | [_, _, _, _, _], _ => rfl
    g_first_wrong_row := PySem.W.mg_of X G a20
    f_check_guard := F21
    b_check_guard := F21.binds (ps := ["bits", "names", "page", "side", "rows"]) fun _ _ _ _ _ _ us hl => match us, hl with | [_, _, _, _, _], _ => rfl
    g_check_guard := PySem.W.mg_of X G a21
    f_is_named_page := F22
    b_is_named_page := F22.binds (ps := ["value"]) fun _ _ _ _ _ _ us hl => match us, hl with | [_], _ => rfl
    g_is_named_page := PySem.W.mg_of X G a22
    f_is_name := F23
    b_is_name := F23.binds (ps := ["value"]) fun _ _ _ _ _ _ us hl => match us, hl with | [_], _ => rfl
    g_is_name := PySem.W.mg_of X G a23
    f_are_different_names := F24
    b_are_different_names := F24.binds (ps := ["values"]) fun _ _ _ _ _ _ us hl => match us, hl with | [_], _ => rfl
    g_are_different_names := PySem.W.mg_of X G a24
    f_are_pages := F25
    b_are_pages := F25.binds (ps := ["value"]) fun _ _ _ _ _ _ us hl => match us, hl with | [_], _ => rfl
    g_are_pages := PySem.W.mg_of X G a25
    f_are_bits := F26
    b_are_bits := F26.binds (ps := ["value"]) fun _ _ _ _ _ _ us hl => match us, hl with | [_], _ => rfl
    g_are_bits := PySem.W.mg_of X G a26
    f_check_site := F27
    b_check_site := F27.binds (ps := ["bits", "pages", "start", "keep"]) fun _ _ _ _ _ _ us hl => match us, hl with | [_, _, _, _], _ => rfl
    g_check_site := PySem.W.mg_of X G a27
    f_Site___init__ := ⟨_, _, F28⟩
    k_Site___init__ := k28
    b_Site___init___4 := by
      obtain ⟨ds, h1, h2⟩ := FunD.binds0 F28 (ps := ["self", "bits", "pages", "start", "keep"]) 4 (by simp) rfl (fun D doc pm an cdv ct us ks hl hi => match us, hl, ks, hi with | [_, _, _, _], _, [_], _ => ⟨_, _, _, _, _, _, rfl, rfl, rfl⟩)
      exact ⟨[.int (4)], ds, h1, h2, fun _ _ => repL_cons.mpr ⟨_, _, rfl, rep_int.mpr rfl, repL_nil.mpr rfl⟩⟩
    f__law_word := F29
    b__law_word := F29.binds (ps := ["_law_box_here", "_law_bits", "_law_side", "_law_depth"]) fun _ _ _ _ _ _ us hl => match us, hl with | [_, _, _, _], _ => rfl
    g__law_word := PySem.W.mg_of X G a29
    f__law_row := F30
    b__law_row := F30.binds (ps := ["_law_box_here", "_law_bits", "_law_names_here", "_law_side", "_law_depth", "_law_room"]) fun _ _ _ _ _ _ us hl => match us, hl with | [_, _, _, _, _, _], _ => rfl
    g__law_row := PySem.W.mg_of X G a30
    f__law_rows := F31
    b__law_rows := F31.binds (ps := ["_law_box_here", "_law_bits", "_law_names_here", "_law_side", "_law_depth", "_law_room"]) fun _ _ _ _ _ _ us hl => match us, hl with | [_, _, _, _, _, _], _ => rfl
    g__law_rows := PySem.W.mg_of X G a31
    f__law_names := F32
    b__law_names := F32.binds (ps := ["_law_box_here", "_law_many"]) fun _ _ _ _ _ _ us hl => match us, hl with | [_, _], _ => rfl
    g__law_names := PySem.W.mg_of X G a32
    f__law_parts := F33
    b__law_parts := F33.binds (ps := ["_law_box_here"]) fun _ _ _ _ _ _ us hl => match us, hl with | [_], _ => rfl
    g__law_parts := PySem.W.mg_of X G a33
    f__law_box := F34
    b__law_box := F34.binds (ps := ["_law_script"]) fun _ _ _ _ _ _ us hl => match us, hl with | [_], _ => rfl
    g__law_box := PySem.W.mg_of X G a34
    f_law := F35
    b_law := F35.binds (ps := ["_law_script"]) fun _ _ _ _ _ _ us hl => match us, hl with | [_], _ => rfl
    g_law := PySem.W.mg_of X G a35
    z_all := PySem.W.mg_none_of X G z_all
    z_bool := PySem.W.mg_none_of X G z_bool
    z_enumerate := PySem.W.mg_none_of X G z_enumerate
    z_int := PySem.W.mg_none_of X G z_int
    z_isinstance := PySem.W.mg_none_of X G z_isinstance
    z_len := PySem.W.mg_none_of X G z_len
    z_list := PySem.W.mg_none_of X G z_list
    z_range := PySem.W.mg_none_of X G z_range
    z_set := PySem.W.mg_none_of X G z_set
    z_str := PySem.W.mg_none_of X G z_str
    z_tuple := PySem.W.mg_none_of X G z_tuple
    c_DEEPEST_BRANCHING := PySem.W.mg_of X G n0
    c_FEWEST_PAGES := PySem.W.mg_of X G n1
    c_GREATEST_KEEP := PySem.W.mg_of X G n2
    c_LEAST_KEEP := PySem.W.mg_of X G n3
    c_LETTERS := PySem.W.mg_of X G n4
    c_LONGEST_NAME := PySem.W.mg_of X G n5
    c_MOST_BITS := PySem.W.mg_of X G n6
    c_MOST_PAGES := PySem.W.mg_of X G n7
    c_MOST_ROWS := PySem.W.mg_of X G n8
    c_SIDES := PySem.W.mg_of X G n9
    d_SIDES := fun _ _ => rep_tup.mpr ⟨ka9, [(.str "enter"), (.str "leave")], rfl, .inr ⟨_, _, _, o9, rfl, rfl, rfl, (by show 2 ≤ sizeLine; decide), .cons ⟨_, rfl⟩ (.cons ⟨_, rfl⟩ (.nil))⟩, repL_cons.mpr ⟨_, _, rfl, rep_str.mpr rfl, repL_cons.mpr ⟨_, _, rfl, rep_str.mpr rfl, repL_nil.mpr rfl⟩⟩⟩
    cl_0 := ⟨q0_pg, q0_hd, q0_po, q0_sa⟩
    ic_0 := ⟨⟨q0_pg, q0_hd, q0_po, q0_sa⟩, q0_ac, q0_sp, q0_tk, q0_ob⟩
    ki_0 := by unfold PySem.W.kitOne; simp
    ne_0 := ⟨⟨_, _, _, _, _, _, _, _, _, _, _, _, _, _, _, _, q0_lk, nsOk_of q0_nl q0_no, q0_ne, q0_nn⟩, i9⟩
    na_0_bits := q0_na_bits
    na_0_pages := q0_na_pages
    na_0_start := q0_na_start
    na_0_keep := q0_na_keep
    mk_0 := ⟨q0_mk, a28, i28, q0_kc⟩
    gc_0 := PySem.W.mg_of X G q0_gc
    kb_0 := ⟨fun s us ws _ h1 h2 => .of_eq (match us, ws, h1, h2 with | [_, _, _, _], [_], _, _ => rfl), fun h1 h2 => h1.append h2⟩
    ei_InvalidSite := ⟨x1_ga, x1_gg, x1_sb, x1_hd, x1_ty, x1_ac, x_sp, x_tk, x1_ob⟩
    ge_InvalidSite := PySem.W.mg_of X G x1_gc
    nf_InvalidSite_part := x1_nf_part
    nf_InvalidSite_path := x1_nf_path
    em_1_1 := xm_1_1
    em_1_2 := xm_1_2
    em_1_3 := xm_1_3
    em_1_4 := xm_1_4
    ei_InvalidPath := ⟨x2_ga, x2_gg, x2_sb, x2_hd, x2_ty, x2_ac, x_sp, x_tk, x2_ob⟩
    ge_InvalidPath := PySem.W.mg_of X G x2_gc
    nf_InvalidPath_path := x2_nf_path
    em_2_1 := xm_2_1
    em_2_2 := xm_2_2
    em_2_3 := xm_2_3
    em_2_4 := xm_2_4
    ei_InvalidSide := ⟨x3_ga, x3_gg, x3_sb, x3_hd, x3_ty, x3_ac, x_sp, x_tk, x3_ob⟩
    ge_InvalidSide := PySem.W.mg_of X G x3_gc
    nf_InvalidSide_side := x3_nf_side
    em_3_1 := xm_3_1
    em_3_2 := xm_3_2
    em_3_3 := xm_3_3
    em_3_4 := xm_3_4
    ei_UnknownPage := ⟨x4_ga, x4_gg, x4_sb, x4_hd, x4_ty, x4_ac, x_sp, x_tk, x4_ob⟩
    ge_UnknownPage := PySem.W.mg_of X G x4_gc
    nf_UnknownPage_page := x4_nf_page
    em_4_1 := xm_4_1
    em_4_2 := xm_4_2
    em_4_3 := xm_4_3
    em_4_4 := xm_4_4
    ox_InvalidSide := ⟨⟨_, _, _, _, _, _, _, _, _, _, _, _, _, _, _, x3_lk, rfl⟩, x3_sa, x3_sb, x3_ty, x3_kc⟩
    xi_InvalidSide := a4
    ti_InvalidSide := i4
    ox_InvalidSite := ⟨⟨_, _, _, _, _, _, _, _, _, _, _, _, _, _, _, x1_lk, rfl⟩, x1_sa, x1_sb, x1_ty, x1_kc⟩
    xi_InvalidSite := a15
    ti_InvalidSite := i15
    ox_UnknownPage := ⟨⟨_, _, _, _, _, _, _, _, _, _, _, _, _, _, _, x4_lk, rfl⟩, x4_sa, x4_sb, x4_ty, x4_kc⟩
    xi_UnknownPage := a1
    ti_UnknownPage := i1
  }
  refine ⟨PySem.W.fnOf "law" "law" (defArgs (topS 52)) (defBody (topS 52)) (defScope (topS 52)) .none kV35 dc35 pm35 an35 cd35 ct35, fun s v => .of_eq rfl, fun base _ _ => ?_⟩
  have R__law_same := ok__law_same (P := l.prog) (w := w) (base := base) T  20
  have G__law_same := R__law_same
  have G_UnknownPage___init__ := ok_UnknownPage___init__ (P := l.prog) (w := w) (base := base) T 
  have G_find_page := ok_find_page (P := l.prog) (w := w) (base := base) T G_UnknownPage___init__
  have G_Site_loads := ok_Site_loads (P := l.prog) (w := w) (base := base) T G_find_page
  have G_InvalidSide___init__ := ok_InvalidSide___init__ (P := l.prog) (w := w) (base := base) T 
  have G_Site_guard := ok_Site_guard (P := l.prog) (w := w) (base := base) T G_InvalidSide___init__ G_find_page
  have G_names_of := ok_names_of (P := l.prog) (w := w) (base := base) T 
  have G_Site_page_names := ok_Site_page_names (P := l.prog) (w := w) (base := base) T G_names_of
  have G__law_tells := ok__law_tells (P := l.prog) (w := w) (base := base) T G__law_same G_Site_loads G_Site_guard G_Site_page_names
  have G_Site___eq__ := ok_Site___eq__ (P := l.prog) (w := w) (base := base) T 
  have G__law_emptied := ok__law_emptied (P := l.prog) (w := w) (base := base) T 
  have G__law_mix := ok__law_mix (P := l.prog) (w := w) (base := base) T 
  have G__law_draw := ok__law_draw (P := l.prog) (w := w) (base := base) T G__law_mix
  have G__law_others := ok__law_others (P := l.prog) (w := w) (base := base) T G__law_emptied G__law_draw
  have G_is_integer := ok_is_integer (P := l.prog) (w := w) (base := base) T 
  have G_InvalidSite___init__ := ok_InvalidSite___init__ (P := l.prog) (w := w) (base := base) T 
  have G_branches := ok_branches (P := l.prog) (w := w) (base := base) T 
  have R_rows_with_positions := ok_rows_with_positions (P := l.prog) (w := w) (base := base) T G_branches 5
  have G_rows_with_positions := R_rows_with_positions
  have G_may_branch := ok_may_branch (P := l.prog) (w := w) (base := base) T 
  have G_is_row := ok_is_row (P := l.prog) (w := w) (base := base) T G_may_branch
  have R_first_wrong_row := ok_first_wrong_row (P := l.prog) (w := w) (base := base) T G_branches G_is_row 5
  have G_first_wrong_row := R_first_wrong_row
  have G_check_guard := ok_check_guard (P := l.prog) (w := w) (base := base) T G_rows_with_positions G_InvalidSite___init__ G_first_wrong_row
  have G_is_named_page := ok_is_named_page (P := l.prog) (w := w) (base := base) T 
  have G_is_name := ok_is_name (P := l.prog) (w := w) (base := base) T 
  have G_are_different_names := ok_are_different_names (P := l.prog) (w := w) (base := base) T G_is_name
  have G_are_pages := ok_are_pages (P := l.prog) (w := w) (base := base) T G_is_named_page G_are_different_names G_names_of
  have G_are_bits := ok_are_bits (P := l.prog) (w := w) (base := base) T G_are_different_names
  have G_check_site := ok_check_site (P := l.prog) (w := w) (base := base) T G_is_integer G_InvalidSite___init__ G_check_guard G_names_of G_are_pages G_are_bits
  have G_Site___init__ := ok_Site___init__ (P := l.prog) (w := w) (base := base) T G_check_site
  have G__law_word := ok__law_word (P := l.prog) (w := w) (base := base) T G__law_draw
  have R__law_row := ok__law_row (P := l.prog) (w := w) (base := base) T G__law_draw G__law_word 8
  obtain ⟨G__law_row, G__law_rows⟩ := R__law_row
  have G__law_names := ok__law_names (P := l.prog) (w := w) (base := base) T G__law_draw
  have G__law_parts := ok__law_parts (P := l.prog) (w := w) (base := base) T G__law_draw G__law_rows G__law_names
  have G__law_box := ok__law_box (P := l.prog) (w := w) (base := base) T G__law_mix
  have G_law := ok_law (P := l.prog) (w := w) (base := base) T G__law_tells G_Site___eq__ G__law_others G_Site___init__ G__law_parts G__law_box
  exact law_imp G_law
theorem walk {l : PySem.W.OpenLaw} {q : Program} {loose : List Str} {XP : (Str → Option Value) → Heap → Prop} {YP : World → Heap → Prop} {d : DefRec} {K : Params → PySem.W.Frag} (hn : l.most = some 63) (hdf : d.params.defaults = [])
    (hY : ∀ (w : World) (h : Heap), YP w h → (K w.params).In h) (F : ∀ (w : World) (mg : Str → Option Value) (fa : Addr) (h : Heap), (K w.params).In h → h.Ns mainGlobals mg → mg d.name = some (.ref fa) →
      ∃ fd : FuncData, (∀ (s : Shared) (u : Value), BindsTo s fd ⟨[u], []⟩ [("_law_script", u)]) ∧ ∀ base : Heap, (K w.params).In base → base.Ns mainGlobals mg → FnOk l.prog w (K w.params) mg base (L2.CX l.prog w) 23 fa fd ["_law_script"] (spLaw (K w.params))) :
    PySem.W.WalkO q loose XP YP l.row.toRowW d [] (fun f vs => PySem.call f vs) :=
  L2.walk_of (n := 63) (k := 23) (x := "_law_script") (CX := fun w => L2.CX l.prog w) (sp := fun w => spLaw (K w.params)) hn (by decide) hdf ⟨rfl, by decide, by decide⟩ hY F (fun w H x ns hl ho hS => ⟨x, ns, rfl, hS, hl, ho, fun _ => rfl⟩) fun w H s e s2 z => by
    obtain ⟨_, _, _, _, _, _, _, _, _, _, _, _, z⟩ := z; exact z.elim
end DL
open PySem PySem.W PyProof.Rows
set_option maxRecDepth 100000 in
set_option maxHeartbeats 0 in
theorem PySem.Challenge.cw_ledelsewhere_k01_site_parts_holds : PySem.Challenge.rw_ledelsewhere_k01_site_parts.Holds := by
  w_on; o_law; k_head; (case hw => w_witness2)
  k_fill
  refine DL.walk (l := PySem.Challenge.rw_ledelsewhere_k01_site_parts) rfl rfl (fun w h Y => PySem.W.kIn_of Y) ?F
  case F =>
    intro w mg fa h KX G hmg
    refine' DL.all_mk KX G hmg ?q0_gc ?q0_pg ?q0_hd ?q0_po ?q0_sa ?q0_mk ?q0_kc ?q0_ac ?q0_ob ?q0_sp ?q0_tk ?q0_lk ?q0_nl ?q0_no ?q0_ne ?q0_nn ?q0_na_bits ?q0_na_pages ?q0_na_start ?q0_na_keep ?x1_gc ?x1_ga ?x1_gg ?x1_sb ?x1_hd ?x1_ty ?x1_ac ?x1_ob ?x1_nf_part ?x1_nf_path ?x2_gc ?x2_ga ?x2_gg ?x2_sb ?x2_hd ?x2_ty ?x2_ac ?x2_ob ?x2_nf_path ?x3_gc ?x3_ga ?x3_gg ?x3_sb ?x3_hd ?x3_ty ?x3_ac ?x3_ob ?x3_nf_side ?x4_gc ?x4_ga ?x4_gg ?x4_sb ?x4_hd ?x4_ty ?x4_ac ?x4_ob ?x4_nf_page ?xm_1_1 ?xm_1_2 ?xm_1_3 ?xm_1_4 ?xm_2_1 ?xm_2_2 ?xm_2_3 ?xm_2_4 ?xm_3_1 ?xm_3_2 ?xm_3_3 ?xm_3_4 ?xm_4_1 ?xm_4_2 ?xm_4_3 ?xm_4_4 ?x3_lk ?x3_sa ?x3_kc ?x1_lk ?x1_sa ?x1_kc ?x4_lk ?x4_sa ?x4_kc ?x_sp ?x_tk ?a0 ?l0 ?c0 ?k0 ?a1 ?i1 ?l1 ?c1 ?k1 ?a2 ?l2 ?c2 ?k2 ?a3 ?i3 ?l3 ?c3 ?k3 ?a4 ?i4 ?l4 ?c4 ?k4 ?a5 ?i5 ?l5 ?c5 ?k5 ?a6 ?l6 ?c6 ?k6 ?a7 ?i7 ?l7 ?c7 ?k7 ?a8 ?l8 ?c8 ?k8 ?a9 ?i9 ?l9 ?c9 ?k9 ?a10 ?l10 ?c10 ?k10 ?a11 ?l11 ?c11 ?k11 ?a12 ?l12 ?c12 ?k12 ?a13 ?l13 ?c13 ?k13 ?a14 ?l14 ?c14 ?k14 ?a15 ?i15 ?l15 ?c15 ?k15 ?a16 ?l16 ?c16 ?k16 ?a17 ?l17 ?c17 ?k17 ?a18 ?l18 ?c18 ?k18 ?a19 ?l19 ?c19 ?k19 ?a20 ?l20 ?c20 ?k20 ?a21 ?l21 ?c21 ?k21 ?a22 ?l22 ?c22 ?k22 ?a23 ?l23 ?c23 ?k23 ?a24 ?l24 ?c24 ?k24 ?a25 ?l25 ?c25 ?k25 ?a26 ?l26 ?c26 ?k26 ?a27 ?l27 ?c27 ?k27 ?a28 ?i28 ?l28 ?kdl28_0 ?c28 ?k28 ?a29 ?l29 ?c29 ?k29 ?a30 ?l30 ?c30 ?k30 ?a31 ?l31 ?c31 ?k31 ?a32 ?l32 ?c32 ?k32 ?a33 ?l33 ?c33 ?k33 ?a34 ?l34 ?c34 ?k34 ?a35 ?l35 ?c35 ?k35 ?z_all ?z_bool ?z_enumerate ?z_int ?z_isinstance ?z_len ?z_list ?z_range ?z_set ?z_str ?z_tuple ?n0 ?n1 ?n2 ?n3 ?n4 ?n5 ?n6 ?n7 ?n8 ?n9 ?o9
    (case q0_gc => k_is)
    (case q0_pg => k_is)
    (case q0_hd => k_is)
    (case q0_po => k_is)
    (case q0_sa => k_is)
    (case q0_mk => k_is)
    (case q0_kc => k_is)
    (case q0_ac => k_is)
    (case q0_ob => k_is)
    (case q0_sp => k_is)
    (case q0_tk => k_is)
    (case q0_lk => k_is)
    (case q0_nl => k_is)
    (case q0_no => rfl)
    (case q0_ne => k_is)
    (case q0_nn => k_is)
    (case q0_na_bits => k_is)
    (case q0_na_pages => k_is)
    (case q0_na_start => k_is)
    (case q0_na_keep => k_is)
    (case x1_gc => k_is)
    (case x1_ga => k_is)
    (case x1_gg => k_is)
    (case x1_sb => k_is)
    (case x1_hd => k_is)
    (case x1_ty => k_is)
    (case x1_ac => k_is)
    (case x1_ob => k_is)
    (case x1_nf_part => k_is)
    (case x1_nf_path => k_is)
    (case x2_gc => k_is)
    (case x2_ga => k_is)
    (case x2_gg => k_is)
    (case x2_sb => k_is)
    (case x2_hd => k_is)
    (case x2_ty => k_is)
    (case x2_ac => k_is)
    (case x2_ob => k_is)
    (case x2_nf_path => k_is)
    (case x3_gc => k_is)
    (case x3_ga => k_is)
    (case x3_gg => k_is)
    (case x3_sb => k_is)
    (case x3_hd => k_is)
    (case x3_ty => k_is)
    (case x3_ac => k_is)
    (case x3_ob => k_is)
    (case x3_nf_side => k_is)
    (case x4_gc => k_is)
    (case x4_ga => k_is)
    (case x4_gg => k_is)
    (case x4_sb => k_is)
    (case x4_hd => k_is)
    (case x4_ty => k_is)
    (case x4_ac => k_is)
    (case x4_ob => k_is)
    (case x4_nf_page => k_is)
    (case xm_1_1 => k_is)
    (case xm_1_2 => k_is)
    (case xm_1_3 => k_is)
    (case xm_1_4 => k_is)
    (case xm_2_1 => k_is)
    (case xm_2_2 => k_is)
    (case xm_2_3 => k_is)
    (case xm_2_4 => k_is)
    (case xm_3_1 => k_is)
    (case xm_3_2 => k_is)
    (case xm_3_3 => k_is)
    (case xm_3_4 => k_is)
    (case xm_4_1 => k_is)
    (case xm_4_2 => k_is)
    (case xm_4_3 => k_is)
    (case xm_4_4 => k_is)
    (case x3_lk => k_is)
    (case x3_sa => k_is)
    (case x3_kc => k_is)
    (case x1_lk => k_is)
    (case x1_sa => k_is)
    (case x1_kc => k_is)
    (case x4_lk => k_is)
    (case x4_sa => k_is)
    (case x4_kc => k_is)
    (case x_sp => k_is)
    (case x_tk => k_is)
    (case a0 => k_is)
    (case l0 => k_is)
    (case c0 => k_is)
    (case k0 => k_is)
    (case a1 => k_is)
    (case i1 => k_is)
    (case l1 => k_is)
    (case c1 => k_is)
    (case k1 => k_is)
    (case a2 => k_is)
    (case l2 => k_is)
    (case c2 => k_is)
    (case k2 => k_is)
    (case a3 => k_is)
    (case i3 => k_is)
    (case l3 => k_is)
    (case c3 => k_is)
    (case k3 => k_is)
    (case a4 => k_is)
    (case i4 => k_is)
    (case l4 => k_is)
    (case c4 => k_is)
    (case k4 => k_is)
    (case a5 => k_is)
    (case i5 => k_is)
    (case l5 => k_is)
    (case c5 => k_is)
    (case k5 => k_is)
    (case a6 => k_is)
    (case l6 => k_is)
    (case c6 => k_is)
    (case k6 => k_is)
    (case a7 => k_is)
    (case i7 => k_is)
    (case l7 => k_is)
    (case c7 => k_is)
    (case k7 => k_is)
    (case a8 => k_is)
    (case l8 => k_is)
    (case c8 => k_is)
    (case k8 => k_is)
    (case a9 => k_is)
    (case i9 => k_is)
    (case l9 => k_is)
    (case c9 => k_is)
    (case k9 => k_is)
    (case a10 => k_is)
    (case l10 => k_is)
    (case c10 => k_is)
    (case k10 => k_is)
    (case a11 => k_is)
    (case l11 => k_is)
    (case c11 => k_is)
    (case k11 => k_is)
    (case a12 => k_is)
    (case l12 => k_is)
    (case c12 => k_is)
    (case k12 => k_is)
    (case a13 => k_is)
    (case l13 => k_is)
    (case c13 => k_is)
    (case k13 => k_is)
    (case a14 => k_is)
    (case l14 => k_is)
    (case c14 => k_is)
    (case k14 => k_is)
    (case a15 => k_is)
    (case i15 => k_is)
    (case l15 => k_is)
    (case c15 => k_is)
    (case k15 => k_is)
    (case a16 => k_is)
    (case l16 => k_is)
    (case c16 => k_is)
    (case k16 => k_is)
    (case a17 => k_is)
    (case l17 => k_is)
    (case c17 => k_is)
    (case k17 => k_is)
    (case a18 => k_is)
    (case l18 => k_is)
    (case c18 => k_is)
    (case k18 => k_is)
    (case a19 => k_is)
    (case l19 => k_is)
    (case c19 => k_is)
    (case k19 => k_is)
    (case a20 => k_is)
    (case l20 => k_is)
    (case c20 => k_is)
    (case k20 => k_is)
    (case a21 => k_is)
    (case l21 => k_is)
    (case c21 => k_is)
    (case k21 => k_is)
    (case a22 => k_is)
    (case l22 => k_is)
    (case c22 => k_is)
    (case k22 => k_is)
    (case a23 => k_is)
    (case l23 => k_is)
    (case c23 => k_is)
    (case k23 => k_is)
    (case a24 => k_is)
    (case l24 => k_is)
    (case c24 => k_is)
    (case k24 => k_is)
    (case a25 => k_is)
    (case l25 => k_is)
    (case c25 => k_is)
    (case k25 => k_is)
    (case a26 => k_is)
    (case l26 => k_is)
    (case c26 => k_is)
    (case k26 => k_is)
    (case a27 => k_is)
    (case l27 => k_is)
    (case c27 => k_is)
    (case k27 => k_is)
    (case a28 => k_is)
    (case i28 => k_is)
    (case l28 => k_is)
    (case kdl28_0 => k_is)
    (case c28 => k_is)
    (case k28 => k_is)
    (case a29 => k_is)
    (case l29 => k_is)
    (case c29 => k_is)
    (case k29 => k_is)
    (case a30 => k_is)
    (case l30 => k_is)
    (case c30 => k_is)
    (case k30 => k_is)
    (case a31 => k_is)
    (case l31 => k_is)
    (case c31 => k_is)
    (case k31 => k_is)
    (case a32 => k_is)
    (case l32 => k_is)
    (case c32 => k_is)
    (case k32 => k_is)
    (case a33 => k_is)
    (case l33 => k_is)
    (case c33 => k_is)
    (case k33 => k_is)
    (case a34 => k_is)
    (case l34 => k_is)
    (case c34 => k_is)
    (case k34 => k_is)
    (case a35 => k_is)
    (case l35 => k_is)
    (case c35 => k_is)
    (case k35 => k_is)
    (case z_all => k_is)
    (case z_bool => k_is)
    (case z_enumerate => k_is)
    (case z_int => k_is)
    (case z_isinstance => k_is)
    (case z_len => k_is)
    (case z_list => k_is)
    (case z_range => k_is)
    (case z_set => k_is)
    (case z_str => k_is)
    (case z_tuple => k_is)
    (case n0 => k_is)
    (case n1 => k_is)
    (case n2 => k_is)
    (case n3 => k_is)
    (case n4 => k_is)
    (case n5 => k_is)
    (case n6 => k_is)
    (case n7 => k_is)
    (case n8 => k_is)
    (case n9 => k_is)
    (case o9 => k_is)

