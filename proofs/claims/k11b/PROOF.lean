import PyProof.Rows.All
import Wide.All
import OpenK.AllK
import Wide.FinOn
import HandS.ForMost
import HandS.Evl
import HandS.TupAny
import HandS.TupMul
import HandS.WideBits
import HandS.IsInst
import HandS.Conv
import PyProof.ReprRoads
import HandS.Codes
import HandS.Walk
import HandS.Zip
import HandS.ExcInit
import HandS.ExcField
import HandS.ExcIs
import HandS.ExcValue
import HandS.TryOnly
import KE.KExcIs
import HandS.WordsExc
import HandS.ExcOwn
import PyProof.CallFns
import HandS.SortInts
import HandS.SetFor
import KE.GoesMore
import KE.GoesEnum
import HandS.Style
import PyProof.Rows.ReprOcc
import KE.KOpsOwn
import PyProof.ListMulRight
import HandS.SlotsOwn
import HandS.Defaults
import PySem.Challenge.RW_addnests_k11_programs_added
set_option Elab.async false
set_option linter.all false
set_option maxRecDepth 100000
set_option maxHeartbeats 4000000
/-! DL1: data as trees over the abstract heap; readings lifted to data. -/
namespace DL
open PySem PySem.Spec PyProof.Rows L2
open Evl (Ex ex_rd ex_l ex_t fresh_back)

/-- data: what a value is as a tree; val: an opaque value (a def, a class, an address of a thing that changes); any: whatever a word holds of -/
inductive D where
  | non | bl (b : Bool) | int (i : Int) | str (x : Str)
  | lst (xs : List D) | tup (xs : List D) | dct (kvs : List (Key × D))
  | ins (C : Addr) (fs : List (Str × D))
  | val (v : V)
  | any (P : Hp → V → Prop)

mutual
inductive Dt (H : Hp) : V → D → Prop
  | non : Dt H .non .non
  | bl (b) : Dt H (.bl b) (.bl b)
  | int (i) : Dt H (.int i) (.int i)
  | str (x) : Dt H (.str x) (.str x)
  | lst {a vs ds} : H a = some (.lst vs) → DtAll H vs ds → Dt H (.ref a) (.lst ds)
  | tup {a vs ds} : H a = some (.tup vs) → DtAll H vs ds → Dt H (.ref a) (.tup ds)
  | dct {a kvs ds} : H a = some (.dK kvs) → kvs.map (·.1) = ds.map (·.1) → DtAll H (kvs.map (·.2)) (ds.map (·.2)) → Dt H (.ref a) (.dct ds)
  | ins {a C dx fvs fs} : H a = some (.ins C dx fvs) → fvs.map (·.1) = fs.map (·.1) → DtAll H (fvs.map (·.2)) (fs.map (·.2)) → Dt H (.ref a) (.ins C fs)
  | val (v) : Dt H v (.val v)
  | any {v P} : P H v → (∀ H1 H2 u, Ex H1 H2 → P H1 u → P H2 u) → Dt H v (.any P)
inductive DtAll (H : Hp) : List V → List D → Prop
  | nil : DtAll H [] []
  | cons {v d vs ds} : Dt H v d → DtAll H vs ds → DtAll H (v :: vs) (d :: ds)
end

mutual
theorem Dt.mono {H H' : Hp} (e : Ex H H') : ∀ {v : V} {d : D}, Dt H v d → Dt H' v d
  | _, _, .non => .non
  | _, _, .bl b => .bl b
  | _, _, .int i => .int i
  | _, _, .str x => .str x
  | _, _, .lst r t => .lst (e _ _ r) (DtAll.mono e t)
  | _, _, .tup r t => .tup (e _ _ r) (DtAll.mono e t)
  | _, _, .dct r k t => .dct (e _ _ r) k (DtAll.mono e t)
  | _, _, .ins r k t => .ins (e _ _ r) k (DtAll.mono e t)
  | _, _, .val v => .val v
  | _, _, .any p m => .any (m _ _ _ e p) m
theorem DtAll.mono {H H' : Hp} (e : Ex H H') : ∀ {vs : List V} {ds : List D}, DtAll H vs ds → DtAll H' vs ds
  | _, _, .nil => .nil
  | _, _, .cons r t => .cons (Dt.mono e r) (DtAll.mono e t)
end
theorem DtAll.length {H : Hp} : ∀ {vs : List V} {ds : List D}, DtAll H vs ds → vs.length = ds.length
  | _, _, .nil => rfl
  | _, _, .cons _ t => congrArg (· + 1) (DtAll.length t)
theorem DtAll.append {H : Hp} : ∀ {vs ws : List V} {ds es : List D}, DtAll H vs ds → DtAll H ws es → DtAll H (vs ++ ws) (ds ++ es)
  | _, _, _, _, .nil, s => s
  | _, _, _, _, .cons r t, s => .cons r (DtAll.append t s)
theorem DtAll.get {H : Hp} : ∀ {vs : List V} {ds : List D} {i : Nat} {d : D}, DtAll H vs ds → ds[i]? = some d → ∃ v, vs[i]? = some v ∧ Dt H v d
  | _, _, _, _, .nil, e => by simp at e
  | _, _, 0, _, .cons r _, e => by simp at e; subst e; exact ⟨_, rfl, r⟩
  | _, _, i + 1, d, .cons _ t, e => by
    obtain ⟨v, h1, h2⟩ := DtAll.get (i := i) (d := d) t (by simpa using e)
    exact ⟨v, by simpa using h1, h2⟩
theorem DtAll.getV {H : Hp} : ∀ {vs : List V} {ds : List D} {i : Nat} {v : V}, DtAll H vs ds → vs[i]? = some v → ∃ d, ds[i]? = some d ∧ Dt H v d
  | _, _, _, _, .nil, e => by simp at e
  | _, _, 0, _, .cons r _, e => by simp at e; subst e; exact ⟨_, rfl, r⟩
  | _, _, i + 1, v, .cons _ t, e => by
    obtain ⟨d, h1, h2⟩ := DtAll.getV (i := i) (v := v) t (by simpa using e)
    exact ⟨d, by simpa using h1, h2⟩
theorem DtAll.take {H : Hp} : ∀ {vs : List V} {ds : List D} (n : Nat), DtAll H vs ds → DtAll H (vs.take n) (ds.take n)
  | _, _, 0, _ => .nil
  | _, _, _ + 1, .nil => .nil
  | _, _, n + 1, .cons r t => .cons r (DtAll.take n t)
theorem DtAll.drop {H : Hp} : ∀ {vs : List V} {ds : List D} (n : Nat), DtAll H vs ds → DtAll H (vs.drop n) (ds.drop n)
  | _, _, 0, r => r
  | _, _, _ + 1, .nil => .nil
  | _, _, n + 1, .cons _ t => DtAll.drop n t

/-! ### the state: data in H0, things that change by μ, the heap H1 -/
inductive MO where
  | lst (ds : List D)
  | ins (C : Addr) (fs : List (Str × D))
abbrev Mu := Addr → Option MO
def mup (μ : Mu) (a : Addr) (m : MO) : Mu := fun b => if b = a then some m else μ b
theorem mup_same {μ : Mu} {a : Addr} {m : MO} : mup μ a m a = some m := by unfold mup; rw [if_pos rfl]
theorem mup_ne {μ : Mu} {a b : Addr} {m : MO} (h : b ≠ a) : mup μ a m b = μ b := by unfold mup; rw [if_neg h]
def MoOk (H0 H1 : Hp) (a : Addr) : MO → Prop
  | .lst ds => ∃ vs, H1 a = some (.lst vs) ∧ DtAll H0 vs ds
  | .ins C fs => ∃ dx fvs, H1 a = some (.ins C dx fvs) ∧ fvs.map (·.1) = fs.map (·.1) ∧ DtAll H0 (fvs.map (·.2)) (fs.map (·.2))
/-- the modules' dict stands where nothing new will: so a list is never it -/
def Sys (H : Hp) : Prop := ∃ o : Obj, H sysModules = some (.frz o (.own 0))
theorem Sys.upd {H : Hp} {p : Addr} {o : HO} (s : Sys H) (h : ∀ φ, H p ≠ some (.frz φ (.own 0))) : Sys (upd H p o) := by
  obtain ⟨φ, e⟩ := s
  refine ⟨φ, ?_⟩
  rw [upd_ne]
  · exact e
  · intro z
    rw [z] at e
    exact h φ e
/-- what holds of the data's heap wherever one stands (a def's entry: it extends that of the entry) -/
class Amb where
  P : Hp → Prop
  mono : ∀ H H', Ex H H' → P H → P H'
structure Rw0 (μ : Mu) (H0 H1 : Hp) : Prop where
  ex : Ex H0 H1
  sys : Sys H1
  mu : ∀ a m, μ a = some m → H0 a = none ∧ MoOk H0 H1 a m
variable [AM : Amb]
structure Rw (μ : Mu) (H0 H1 : Hp) : Prop extends Rw0 μ H0 H1 where
  am : Amb.P H0
abbrev Ro := List (Option D)
structure Sl (ρ : Ro) (σ : L2.St) (H0 : Hp) : Prop where
  len : σ.length = ρ.length
  at_ : ∀ (i : Nat) (d : D), ρ[i]? = some (some d) → ∃ v, σ[i]? = some (some v) ∧ Dt H0 v d
theorem Sl.mono {ρ : Ro} {σ : L2.St} {H0 H0' : Hp} (e : Ex H0 H0') (s : Sl ρ σ H0) : Sl ρ σ H0' :=
  ⟨s.len, fun i d h => let ⟨v, a, b⟩ := s.at_ i d h; ⟨v, a, b.mono e⟩⟩
theorem Sl.set {ρ : Ro} {σ : L2.St} {H0 : Hp} (s : Sl ρ σ H0) (i : Nat) {v : V} {d : D} (r : Dt H0 v d) : Sl (ρ.set i (some d)) (σ.set i (some v)) H0 :=
  ⟨by simp [s.len], fun j e h => by
    by_cases hj : i = j
    · subst hj
      by_cases hi : i < ρ.length
      · rw [List.getElem?_set_self hi] at h
        cases h
        exact ⟨v, by rw [List.getElem?_set_self (by rw [s.len]; exact hi)], r⟩
      · rw [List.getElem?_eq_none (by simpa using hi)] at h
        cases h
    · rw [List.getElem?_set_ne hj] at h ⊢
      exact s.at_ j e h⟩
/-- a new object of data -/
theorem Rw0.new {μ : Mu} {H0 H1 : Hp} {p : Addr} {o : HO} (r : Rw0 μ H0 H1) (hp : H1 p = none) : Ex H0 (upd H0 p o) ∧ Rw0 μ (upd H0 p o) (upd H1 p o) := by
  have h0 : H0 p = none := fresh_back r.ex hp
  refine ⟨Ex.new h0, ⟨fun a u h => ?_, r.sys.upd (fun φ z => by rw [hp] at z; cases z), fun a m h => ?_⟩⟩
  · by_cases ha : a = p
    · subst ha; rw [upd_same] at h ⊢; exact h
    · rw [upd_ne ha] at h ⊢; exact r.ex a u h
  · obtain ⟨q1, q2⟩ := r.mu a m h
    have ha : a ≠ p := by
      rintro rfl
      cases m with
      | lst ds => obtain ⟨vs, e, _⟩ := q2; rw [hp] at e; cases e
      | ins C fs => obtain ⟨_, _, e, _⟩ := q2; rw [hp] at e; cases e
    refine ⟨by rw [upd_ne ha]; exact q1, ?_⟩
    cases m with
    | lst ds =>
      obtain ⟨vs, e, t⟩ := q2
      exact ⟨vs, by rw [upd_ne ha]; exact e, t.mono (Ex.new h0)⟩
    | ins C fs =>
      obtain ⟨dx, fvs, e, k, t⟩ := q2
      exact ⟨dx, fvs, by rw [upd_ne ha]; exact e, k, t.mono (Ex.new h0)⟩
theorem Rw.new {μ : Mu} {H0 H1 : Hp} {p : Addr} {o : HO} (r : Rw μ H0 H1) (hp : H1 p = none) : Ex H0 (upd H0 p o) ∧ Rw μ (upd H0 p o) (upd H1 p o) :=
  let ⟨e, r2⟩ := r.toRw0.new (o := o) hp
  ⟨e, ⟨r2, Amb.mono _ _ e r.am⟩⟩

/-! ### readings over data -/
abbrev KD := D → Mu → Prop
abbrev DE := Ro → Mu → KD → Prop
abbrev DT := Ro → Mu → (Bool → Mu → Prop) → Prop
abbrev DA := Ro → Mu → (List D → Mu → Prop) → Prop
def Lift (te : TE) (de : DE) : Prop := ∀ ρ μ K, de ρ μ K → ∀ σ H0 H1, Sl ρ σ H0 → Rw μ H0 H1 → ∀ Q : VK,
  (∀ d v μ' H0' H1', Ex H0 H0' → Rw μ' H0' H1' → Dt H0' v d → K d μ' → Q v H1') → te σ H1 Q
def LiftT (te : TT) (de : DT) : Prop := ∀ ρ μ K, de ρ μ K → ∀ σ H0 H1, Sl ρ σ H0 → Rw μ H0 H1 → ∀ Q : Bool → Hp → Prop,
  (∀ b μ' H0' H1', Ex H0 H0' → Rw μ' H0' H1' → K b μ' → Q b H1') → te σ H1 Q
def LiftA (te : TA) (de : DA) : Prop := ∀ ρ μ K, de ρ μ K → ∀ σ H0 H1, Sl ρ σ H0 → Rw μ H0 H1 → ∀ Q : List V → Hp → Prop,
  (∀ ds vs μ' H0' H1', Ex H0 H0' → Rw μ' H0' H1' → DtAll H0' vs ds → K ds μ' → Q vs H1') → te σ H1 Q

/-! operations on values -/
abbrev DO2 := D → D → Mu → KD → Prop
abbrev DOn := List D → Mu → KD → Prop
def Lift2 (r : R2) (f : DO2) : Prop := ∀ x y μ K, f x y μ K → ∀ u v H0 H1, Dt H0 u x → Dt H0 v y → Rw μ H0 H1 → ∀ Q : VK,
  (∀ d v μ' H0' H1', Ex H0 H0' → Rw μ' H0' H1' → Dt H0' v d → K d μ' → Q v H1') → r u v H1 Q
def Lift1 (r : V → Hp → VK → Prop) (f : D → Mu → KD → Prop) : Prop := ∀ x μ K, f x μ K → ∀ u H0 H1, Dt H0 u x → Rw μ H0 H1 → ∀ Q : VK,
  (∀ d v μ' H0' H1', Ex H0 H0' → Rw μ' H0' H1' → Dt H0' v d → K d μ' → Q v H1') → r u H1 Q
def LiftC (r : List V → Hp → VK → Prop) (f : DOn) : Prop := ∀ xs μ K, f xs μ K → ∀ us H0 H1, DtAll H0 us xs → Rw μ H0 H1 → ∀ Q : VK,
  (∀ d v μ' H0' H1', Ex H0 H0' → Rw μ' H0' H1' → Dt H0' v d → K d μ' → Q v H1') → r us H1 Q

theorem exr (H : Hp) : Ex H H := Evl.Ex.refl H

def dVar (i : Nat) : DE := fun ρ μ K => ∃ d : D, ρ[i]? = some (some d) ∧ K d μ
def dC (d : D) : DE := fun _ μ K => K d μ
def dOp (f : DO2) (da db : DE) : DE := fun ρ μ K => da ρ μ fun x μ1 => db ρ μ1 fun y μ2 => f x y μ2 K
def dUn (f : D → Mu → KD → Prop) (da : DE) : DE := fun ρ μ K => da ρ μ fun x μ1 => f x μ1 K
def dNil : DA := fun _ μ K => K [] μ
def dCons (da : DE) (dr : DA) : DA := fun ρ μ K => da ρ μ fun x μ1 => dr ρ μ1 fun xs μ2 => K (x :: xs) μ2
def dCB (f : DOn) (da : DA) : DE := fun ρ μ K => da ρ μ fun xs μ1 => f xs μ1 K
def dTup (da : DA) : DE := fun ρ μ K => da ρ μ fun xs μ1 => xs.length ≤ 100000 ∧ K (.tup xs) μ1
def dLst (da : DA) : DE := fun ρ μ K => da ρ μ fun xs μ1 => xs.length ≤ 100000 ∧ K (.lst xs) μ1
def dIf (dc : DT) (da db : DE) : DE := fun ρ μ K => dc ρ μ fun b μ1 => if b = true then da ρ μ1 K else db ρ μ1 K
def dTest (da : DE) : DT := fun ρ μ K => da ρ μ fun x μ1 => ∃ b, x = .bl b ∧ K b μ1
def dAnd (t u : DT) : DT := fun ρ μ K => t ρ μ fun c μ1 => if c = true then u ρ μ1 K else K false μ1
def dOr (t u : DT) : DT := fun ρ μ K => t ρ μ fun c μ1 => if c = true then K true μ1 else u ρ μ1 K
def dNot (t : DT) : DT := fun ρ μ K => t ρ μ fun c μ1 => K (!c) μ1
def dAndV (da db : DE) : DE := fun ρ μ K => da ρ μ fun x μ1 => ∃ c, x = .bl c ∧ if c = true then db ρ μ1 K else K (.bl false) μ1
def dOrV (da db : DE) : DE := fun ρ μ K => da ρ μ fun x μ1 => ∃ c, x = .bl c ∧ if c = true then K (.bl true) μ1 else db ρ μ1 K
def dNotV (da : DE) : DE := fun ρ μ K => da ρ μ fun x μ1 => ∃ c, x = .bl c ∧ K (.bl (!c)) μ1

section
variable {te ta tb : TE} {de da db : DE} {t u : TT} {dt du : DT} {i : Nat}
theorem l_var : Lift (tVar i) (dVar i) := fun ρ μ K ⟨d, h, k⟩ σ H0 H1 sl rw Q q => by
  obtain ⟨v, e, r⟩ := sl.at_ i d h
  exact ⟨v, e, q d v μ H0 H1 (exr _) rw r k⟩
theorem l_c {v : V} {d : D} (h : ∀ H, Dt H v d) : Lift (tC v) (dC d) := fun ρ μ K k σ H0 H1 sl rw Q q => q d v μ H0 H1 (exr _) rw (h _) k
theorem l_int {i : Int} : Lift (tC (.int i)) (dC (.int i)) := l_c fun _ => .int i
theorem l_bl {b : Bool} : Lift (tC (.bl b)) (dC (.bl b)) := l_c fun _ => .bl b
theorem l_str {x : Str} : Lift (tC (.str x)) (dC (.str x)) := l_c fun _ => .str x
theorem l_non : Lift (tC .non) (dC .non) := l_c fun _ => .non
theorem l_val {v : V} : Lift (tC v) (dC (.val v)) := l_c fun _ => .val v
theorem l_op {r : R2} {f : DO2} (hr : Lift2 r f) (ha : Lift ta da) (hb : Lift tb db) : Lift (tOp r ta tb) (dOp f da db) := fun ρ μ K h σ H0 H1 sl rw Q q =>
  ha ρ μ _ h σ H0 H1 sl rw _ fun x u μ1 H01 H11 e1 rw1 r1 h1 => hb ρ μ1 _ h1 σ H01 H11 (sl.mono e1) rw1 _ fun y v μ2 H02 H12 e2 rw2 r2 h2 =>
    hr x y μ2 K h2 u v H02 H12 (r1.mono e2) r2 rw2 Q fun d v' μ' H0' H1' e3 => q d v' μ' H0' H1' ((e1.trans e2).trans e3)
theorem l_un {r : V → Hp → VK → Prop} {f : D → Mu → KD → Prop} (hr : Lift1 r f) (ha : Lift ta da) : Lift (tUn r ta) (dUn f da) := fun ρ μ K h σ H0 H1 sl rw Q q =>
  ha ρ μ _ h σ H0 H1 sl rw _ fun x u μ1 H01 H11 e1 rw1 r1 h1 => hr x μ1 K h1 u H01 H11 r1 rw1 Q fun d v' μ' H0' H1' e3 => q d v' μ' H0' H1' (e1.trans e3)
theorem l_nil : LiftA tNil dNil := fun ρ μ K h σ H0 H1 sl rw Q q => q [] [] μ H0 H1 (exr _) rw .nil h
theorem l_cons {tr : TA} {dr : DA} (ha : Lift ta da) (hr : LiftA tr dr) : LiftA (tCons ta tr) (dCons da dr) := fun ρ μ K h σ H0 H1 sl rw Q q =>
  ha ρ μ _ h σ H0 H1 sl rw _ fun x u μ1 H01 H11 e1 rw1 r1 h1 => hr ρ μ1 _ h1 σ H01 H11 (sl.mono e1) rw1 _ fun xs us μ2 H02 H12 e2 rw2 r2 h2 =>
    q (x :: xs) (u :: us) μ2 H02 H12 (e1.trans e2) rw2 (.cons (r1.mono e2) r2) h2
theorem l_tup {tr : TA} {dr : DA} (hr : LiftA tr dr) : Lift (tTup tr) (dTup dr) := fun ρ μ K h σ H0 H1 sl rw Q q =>
  hr ρ μ _ h σ H0 H1 sl rw _ fun xs us μ1 H01 H11 e1 rw1 r1 ⟨hz, h1⟩ => ⟨Evl.sz_of (by rw [r1.length]; exact hz), fun p hp => by
    obtain ⟨e2, rw2⟩ := rw1.new (o := .tup us) hp
    exact q (.tup xs) (.ref p) μ1 _ _ (e1.trans e2) rw2 (.tup upd_same (r1.mono e2)) h1⟩
theorem l_lst {tr : TA} {dr : DA} (hr : LiftA tr dr) : Lift (tLst tr) (dLst dr) := fun ρ μ K h σ H0 H1 sl rw Q q =>
  hr ρ μ _ h σ H0 H1 sl rw _ fun xs us μ1 H01 H11 e1 rw1 r1 ⟨hz, h1⟩ => ⟨Evl.sz_of (by rw [r1.length]; exact hz), fun p hp => by
    obtain ⟨e2, rw2⟩ := rw1.new (o := .lst us) hp
    exact q (.lst xs) (.ref p) μ1 _ _ (e1.trans e2) rw2 (.lst upd_same (r1.mono e2)) h1⟩
theorem l_cb {r : List V → Hp → VK → Prop} {f : DOn} {tr : TA} {dr : DA} (hr : LiftC r f) (ha : LiftA tr dr) : Lift (tCB r tr) (dCB f dr) := fun ρ μ K h σ H0 H1 sl rw Q q =>
  ha ρ μ _ h σ H0 H1 sl rw _ fun xs us μ1 H01 H11 e1 rw1 r1 h1 => hr xs μ1 K h1 us H01 H11 r1 rw1 Q fun d v' μ' H0' H1' e3 => q d v' μ' H0' H1' (e1.trans e3)
theorem l_if (hc : LiftT t dt) (ha : Lift ta da) (hb : Lift tb db) : Lift (tIf t ta tb) (dIf dt da db) := fun ρ μ K h σ H0 H1 sl rw Q q =>
  hc ρ μ _ h σ H0 H1 sl rw _ fun b μ1 H01 H11 e1 rw1 h1 => by
    cases b with
    | true => exact ha ρ μ1 K h1 σ H01 H11 (sl.mono e1) rw1 Q fun d v' μ' H0' H1' e3 => q d v' μ' H0' H1' (e1.trans e3)
    | false => exact hb ρ μ1 K h1 σ H01 H11 (sl.mono e1) rw1 Q fun d v' μ' H0' H1' e3 => q d v' μ' H0' H1' (e1.trans e3)
/-- a Boolean out of data -/
theorem Dt.bl_of {H : Hp} {v : V} {b : Bool} (h : Dt H v (.bl b)) : v = .bl b := by cases h; rfl
theorem Dt.int_of {H : Hp} {v : V} {i : Int} (h : Dt H v (.int i)) : v = .int i := by cases h; rfl
theorem Dt.str_of {H : Hp} {v : V} {x : Str} (h : Dt H v (.str x)) : v = .str x := by cases h; rfl
theorem Dt.non_of {H : Hp} {v : V} (h : Dt H v .non) : v = .non := by cases h; rfl
theorem Dt.val_of {H : Hp} {v w : V} (h : Dt H v (.val w)) : v = w := by cases h; rfl
theorem Dt.lst_of {H : Hp} {v : V} {xs : List D} (h : Dt H v (.lst xs)) : ∃ a vs, v = .ref a ∧ H a = some (.lst vs) ∧ DtAll H vs xs := by
  cases h with | lst r t => exact ⟨_, _, rfl, r, t⟩
theorem Dt.tup_of {H : Hp} {v : V} {xs : List D} (h : Dt H v (.tup xs)) : ∃ a vs, v = .ref a ∧ H a = some (.tup vs) ∧ DtAll H vs xs := by
  cases h with | tup r t => exact ⟨_, _, rfl, r, t⟩
theorem l_test (ha : Lift te de) : LiftT (tTest te) (dTest de) := fun ρ μ K h σ H0 H1 sl rw Q q =>
  ha ρ μ _ h σ H0 H1 sl rw _ fun x u μ1 H01 H11 e1 rw1 r1 ⟨b, eb, h1⟩ => by subst eb; exact ⟨b, r1.bl_of, q b μ1 H01 H11 e1 rw1 h1⟩
theorem l_tB (ha : Lift te de) : LiftT (tB te) (dTest de) := fun ρ μ K h σ H0 H1 sl rw Q q =>
  ha ρ μ _ h σ H0 H1 sl rw _ fun x u μ1 H01 H11 e1 rw1 r1 ⟨b, eb, h1⟩ => by subst eb; exact ⟨b, r1.bl_of, q b μ1 H01 H11 e1 rw1 h1⟩
theorem l_and (h1 : LiftT t dt) (h2 : LiftT u du) : LiftT (tAnd t u) (dAnd dt du) := fun ρ μ K h σ H0 H1 sl rw Q q =>
  h1 ρ μ _ h σ H0 H1 sl rw _ fun b μ1 H01 H11 e1 rw1 g => by
    cases b with
    | true => exact h2 ρ μ1 K g σ H01 H11 (sl.mono e1) rw1 Q fun d μ' H0' H1' e3 => q d μ' H0' H1' (e1.trans e3)
    | false => exact q false μ1 H01 H11 e1 rw1 g
theorem l_or (h1 : LiftT t dt) (h2 : LiftT u du) : LiftT (tOr t u) (dOr dt du) := fun ρ μ K h σ H0 H1 sl rw Q q =>
  h1 ρ μ _ h σ H0 H1 sl rw _ fun b μ1 H01 H11 e1 rw1 g => by
    cases b with
    | true => exact q true μ1 H01 H11 e1 rw1 g
    | false => exact h2 ρ μ1 K g σ H01 H11 (sl.mono e1) rw1 Q fun d μ' H0' H1' e3 => q d μ' H0' H1' (e1.trans e3)
theorem l_not (h1 : LiftT t dt) : LiftT (tNot t) (dNot dt) := fun ρ μ K h σ H0 H1 sl rw Q q =>
  h1 ρ μ _ h σ H0 H1 sl rw _ fun b μ1 H01 H11 e1 rw1 g => q (!b) μ1 H01 H11 e1 rw1 g
theorem l_andV (ha : Lift ta da) (hb : Lift tb db) : Lift (tAndV ta tb) (dAndV da db) := fun ρ μ K h σ H0 H1 sl rw Q q =>
  ha ρ μ _ h σ H0 H1 sl rw _ fun x u μ1 H01 H11 e1 rw1 r1 ⟨c, ec, g⟩ => by
    subst ec
    refine ⟨c, r1.bl_of, ?_⟩
    cases c with
    | true => exact hb ρ μ1 K g σ H01 H11 (sl.mono e1) rw1 Q fun d v' μ' H0' H1' e3 => q d v' μ' H0' H1' (e1.trans e3)
    | false => exact q (.bl false) _ μ1 H01 H11 e1 rw1 (.bl false) g
theorem l_orV (ha : Lift ta da) (hb : Lift tb db) : Lift (tOrV ta tb) (dOrV da db) := fun ρ μ K h σ H0 H1 sl rw Q q =>
  ha ρ μ _ h σ H0 H1 sl rw _ fun x u μ1 H01 H11 e1 rw1 r1 ⟨c, ec, g⟩ => by
    subst ec
    refine ⟨c, r1.bl_of, ?_⟩
    cases c with
    | true => exact q (.bl true) _ μ1 H01 H11 e1 rw1 (.bl true) g
    | false => exact hb ρ μ1 K g σ H01 H11 (sl.mono e1) rw1 Q fun d v' μ' H0' H1' e3 => q d v' μ' H0' H1' (e1.trans e3)
theorem l_notV (ha : Lift ta da) : Lift (tNotV ta) (dNotV da) := fun ρ μ K h σ H0 H1 sl rw Q q =>
  ha ρ μ _ h σ H0 H1 sl rw _ fun x u μ1 H01 H11 e1 rw1 r1 ⟨c, ec, g⟩ => by
    subst ec
    exact ⟨c, r1.bl_of, q (.bl (!c)) _ μ1 H01 H11 e1 rw1 (.bl (!c)) g⟩
end
end DL
namespace DL
open PySem PySem.Spec PyProof.Rows L2
open Evl (Ex ex_rd ex_l ex_t fresh_back)
variable [AM : Amb]

def keyPy : Key → PyData
  | .inl i => .int i
  | .inr x => .str x
mutual
def toPy : D → Option PyData
  | .non => some .none
  | .bl b => some (.bool b)
  | .int i => some (.int i)
  | .str x => some (.str x)
  | .lst xs => (toPyAll xs).map PyData.list
  | .tup xs => (toPyAll xs).map PyData.tuple
  | .dct kvs => (toPyKv kvs).map PyData.dict
  | .ins _ _ => none
  | .val _ => none
  | .any _ => none
def toPyAll : List D → Option (List PyData)
  | [] => some []
  | d :: ds => (toPy d).bind fun p => (toPyAll ds).map fun ps => p :: ps
def toPyKv : List (Key × D) → Option (List (PyData × PyData))
  | [] => some []
  | (k, d) :: r => (toPy d).bind fun p => (toPyKv r).map fun ps => (keyPy k, p) :: ps
end

section
variable {X : Cx} {pins : List (Addr × Obj)} {σ : L2.St} {H0 H1 : Hp} {s : Shared}
theorem sys_ne {a : Addr} {u : HO} (sy : Sys H1) (h : H1 a = some u) (hu : ∀ φ, u ≠ .frz φ (.own 0)) : sysModules ≠ a := by
  obtain ⟨φ, e⟩ := sy
  rintro rfl
  rw [e] at h
  exact hu φ (Option.some.inj h).symm
theorem keyPy_reads {h : Heap} {k : Key} {u : Value} (e : keyIs k u = true) : Reads h u (keyPy k) [] := by
  rcases keyIs_shape e with ⟨i, t, rfl, rfl⟩ | ⟨x, t, rfl, rfl⟩
  · exact .int i t
  · exact .str x t
theorem kv_keys {h : Heap} {P : Program} {w : World} {es : List DictEntry} {us : List (Key × Value)} (hp : Pairs (mixKind P w) es us) : ∀ {kvs : List (Key × V)} {ds : List (Key × D)} {ps : List (PyData × PyData)},
    KV kvs us → kvs.map (·.1) = ds.map (·.1) → toPyKv ds = some ps → ReadsAll h (es.map (·.key)) (ps.map (·.1)) [] := by
  induction hp with
  | nil =>
    intro kvs ds ps r e t
    cases r
    cases ds with
    | nil => cases t; exact .nil
    | cons d ds => cases e
  | cons h1 h2 h3 ih =>
    intro kvs ds ps r e t
    cases r with
    | cons r1 r2 =>
      cases ds with
      | nil => cases e
      | cons d ds =>
        obtain ⟨k, d⟩ := d
        rw [toPyKv] at t
        obtain ⟨p, t1, t2⟩ := Option.bind_eq_some_iff.mp t
        obtain ⟨ps, t3, rfl⟩ := Option.map_eq_some_iff.mp t2
        rw [List.map_cons, List.map_cons] at e
        injection e with e1 e2
        refine ReadsAll.cons (as := []) (bs := []) ?_ (ih r2 e2 t3)
        have z := r1.1
        rw [e1] at z
        have z' : k = _ := z
        subst z'
        exact keyPy_reads h1
theorem kv_vals {P : Program} {w : World} {es : List DictEntry} {us : List (Key × Value)} (hp : Pairs (mixKind P w) es us) : ∀ {kvs : List (Key × V)}, KV kvs us → Vals (kvs.map (·.2)) (es.map (·.val)) := by
  induction hp with
  | nil =>
    intro kvs r
    cases r
    exact .nil
  | cons h1 h2 h3 ih =>
    intro kvs r
    cases r with
    | cons r1 r2 => exact .cons (by show L2.RelV _ (DictEntry.val _); rw [h2]; exact r1.2) (ih r2)
theorem kv_py : ∀ {ds : List (Key × D)} {ps : List (PyData × PyData)}, toPyKv ds = some ps → toPyAll (ds.map (·.2)) = some (ps.map (·.2))
  | [], _, t => by cases t; rfl
  | (k, d) :: ds, _, t => by
    rw [toPyKv] at t
    obtain ⟨p, t1, t2⟩ := Option.bind_eq_some_iff.mp t
    obtain ⟨ps, t3, rfl⟩ := Option.map_eq_some_iff.mp t2
    show (toPy d).bind _ = _
    rw [t1, Option.bind_some, kv_py t3]
    rfl
theorem sz_snd : ∀ kvs : List (Key × D), sizeOf (kvs.map (·.2)) ≤ sizeOf kvs
  | [] => Nat.le_refl _
  | (k, d) :: r => by
    have := sz_snd r
    simp only [List.map_cons, List.cons.sizeOf_spec, Prod.mk.sizeOf_spec]
    omega
mutual
theorem Dt.reads (I : Inv X pins σ H1 s) (e : Ex H0 H1) (sy : Sys H1) : ∀ (d : D) (v : V) (u : Value) (p : PyData), Dt H0 v d → toPy d = some p → RelV v u → ∃ as, Reads s.heap u p as ∧ sysModules ∉ as
  | .non, _, _, _, h, t, r => by
    cases h; cases t; cases r
    exact ⟨_, Reads.none, by simp⟩
  | .bl b, _, _, _, h, t, r => by
    cases h; cases t; cases r
    exact ⟨_, Reads.bool b, by simp⟩
  | .int i, _, _, _, h, t, r => by
    cases h; cases t
    obtain ⟨t, rfl⟩ := r
    exact ⟨_, Reads.int i t, by simp⟩
  | .str x, _, _, _, h, t, r => by
    cases h; cases t
    obtain ⟨t, rfl⟩ := r
    exact ⟨_, Reads.str x t, by simp⟩
  | .lst ds, _, _, p, h, t, r => by
    cases h with
    | @lst a vs _ ha hd =>
      cases r
      rw [toPy] at t
      obtain ⟨ps, tp, rfl⟩ := Option.map_eq_some_iff.mp t
      obtain ⟨its, rv, ⟨o, n, ho, hc, _, hdd⟩, _⟩ := I.list (SqL.of (e _ _ ha))
      obtain ⟨as, hr, hn⟩ := Dt.readsAll I e sy ds vs its ps hd tp rv
      exact ⟨_, Reads.list ho hc hdd hr, by
        rw [List.mem_cons, not_or]
        exact ⟨sys_ne sy (e _ _ ha) (fun φ z => by cases z), hn⟩⟩
  | .tup ds, _, _, p, h, t, r => by
    cases h with
    | @tup a vs _ ha hd =>
      cases r
      rw [toPy] at t
      obtain ⟨ps, tp, rfl⟩ := Option.map_eq_some_iff.mp t
      obtain ⟨its, rv, ⟨o, ho, hc, n, hdd⟩, _⟩ := I.tuple (SqT.of (e _ _ ha))
      obtain ⟨as, hr, hn⟩ := Dt.readsAll I e sy ds vs its ps hd tp rv
      exact ⟨_, Reads.tuple ho hc hdd hr, hn⟩
  | .dct kvs, _, _, p, h, t, r => by
    cases h with
    | @dct a vs _ ha hk hd =>
      cases r
      rw [toPy] at t
      obtain ⟨ps, tp, rfl⟩ := Option.map_eq_some_iff.mp t
      obtain ⟨_, hs, us, rk, o, es, ep, ho, hx, hdd, _, hes, _⟩ := dk_of I.hok (e _ _ ha)
      obtain ⟨bs, hr, hn⟩ := Dt.readsAll I e sy (kvs.map (·.2)) _ _ _ hd (kv_py tp) (kv_vals hes rk)
      refine ⟨_, Reads.dict ho hx.1 hdd (kv_keys hes rk hk tp) hr, ?_⟩
      rw [List.mem_append, not_or, List.mem_singleton]
      exact ⟨fun z => by rw [← z] at hs; simp at hs, hn⟩
  | .ins _ _, _, _, _, _, t, _ => by cases t
  | .val _, _, _, _, _, t, _ => by cases t
  | .any _, _, _, _, _, t, _ => by cases t
termination_by d => sizeOf d
decreasing_by
  all_goals simp only [D.lst.sizeOf_spec, D.tup.sizeOf_spec, D.dct.sizeOf_spec]
  all_goals first | omega | (have := sz_snd kvs; omega)
theorem Dt.readsAll (I : Inv X pins σ H1 s) (e : Ex H0 H1) (sy : Sys H1) : ∀ (ds : List D) (vs : List V) (us : List Value) (ps : List PyData), DtAll H0 vs ds → toPyAll ds = some ps → Vals vs us → ∃ as, ReadsAll s.heap us ps as ∧ sysModules ∉ as
  | [], _, _, _, h, t, r => by
    cases h; cases t; cases r
    exact ⟨_, ReadsAll.nil, by simp⟩
  | d :: ds, _, _, _, h, t, r => by
    cases h with
    | cons h1 h2 =>
      cases r with
      | cons r1 r2 =>
        rw [toPyAll] at t
        obtain ⟨p, t1, t2⟩ := Option.bind_eq_some_iff.mp t
        obtain ⟨ps, t3, rfl⟩ := Option.map_eq_some_iff.mp t2
        obtain ⟨as, q1, n1⟩ := Dt.reads I e sy d _ _ p h1 t1 r1
        obtain ⟨bs, q2, n2⟩ := Dt.readsAll I e sy ds _ _ ps h2 t3 r2
        exact ⟨_, ReadsAll.cons q1 q2, by rw [List.mem_append, not_or]; exact ⟨n1, n2⟩⟩
termination_by ds => sizeOf ds
decreasing_by
  all_goals simp only [List.cons.sizeOf_spec]
  all_goals omega
end
/-! what a thing reads as, through what changes -/
mutual
inductive Vw (μ : Mu) : D → PyData → Prop
  | py {d : D} {p : PyData} : toPy d = some p → Vw μ d p
  | adr {a : Addr} {ds : List D} {ps : List PyData} : μ a = some (.lst ds) → VwAll μ ds ps → Vw μ (.val (.ref a)) (.list ps)
  | lst {ds : List D} {ps : List PyData} : VwAll μ ds ps → Vw μ (.lst ds) (.list ps)
  | tup {ds : List D} {ps : List PyData} : VwAll μ ds ps → Vw μ (.tup ds) (.tuple ps)
inductive VwAll (μ : Mu) : List D → List PyData → Prop
  | nil : VwAll μ [] []
  | cons {d : D} {p : PyData} {ds : List D} {ps : List PyData} : Vw μ d p → VwAll μ ds ps → VwAll μ (d :: ds) (p :: ps)
end
mutual
theorem Vw.reads {μ : Mu} (I : Inv X pins σ H1 s) (r0 : Rw0 μ H0 H1) : ∀ {d : D} {p : PyData}, Vw μ d p → ∀ (v : V) (u : Value), Dt H0 v d → RelV v u → ∃ as, Reads s.heap u p as ∧ sysModules ∉ as
  | _, _, .py t, v, u, h, r => Dt.reads I r0.ex r0.sys _ v u _ h t r
  | _, _, .adr hm ha, v, u, h, r => by
    have e := h.val_of
    subst e
    cases r
    obtain ⟨_, vs, hv, hd⟩ := r0.mu _ _ hm
    obtain ⟨its, rv, ⟨o, n, ho, hc, _, hdd⟩, _⟩ := I.list (SqL.of hv)
    obtain ⟨as, hr, hn⟩ := VwAll.reads I r0 ha vs its hd rv
    exact ⟨_, Reads.list ho hc hdd hr, by
      rw [List.mem_cons, not_or]
      exact ⟨sys_ne r0.sys hv (fun φ z => by cases z), hn⟩⟩
  | _, _, .lst ha, v, u, h, r => by
    obtain ⟨a, vs, rfl, hv, hd⟩ := h.lst_of
    cases r
    obtain ⟨its, rv, ⟨o, n, ho, hc, _, hdd⟩, _⟩ := I.list (SqL.of (r0.ex _ _ hv))
    obtain ⟨as, hr, hn⟩ := VwAll.reads I r0 ha vs its hd rv
    exact ⟨_, Reads.list ho hc hdd hr, by
      rw [List.mem_cons, not_or]
      exact ⟨sys_ne r0.sys (r0.ex _ _ hv) (fun φ z => by cases z), hn⟩⟩
  | _, _, .tup ha, v, u, h, r => by
    obtain ⟨a, vs, rfl, hv, hd⟩ := h.tup_of
    cases r
    obtain ⟨its, rv, ⟨o, ho, hc, n, hdd⟩, _⟩ := I.tuple (SqT.of (r0.ex _ _ hv))
    obtain ⟨as, hr, hn⟩ := VwAll.reads I r0 ha vs its hd rv
    exact ⟨_, Reads.tuple ho hc hdd hr, hn⟩
theorem VwAll.reads {μ : Mu} (I : Inv X pins σ H1 s) (r0 : Rw0 μ H0 H1) : ∀ {ds : List D} {ps : List PyData}, VwAll μ ds ps → ∀ (vs : List V) (us : List Value), DtAll H0 vs ds → Vals vs us → ∃ as, ReadsAll s.heap us ps as ∧ sysModules ∉ as
  | _, _, .nil, _, _, h, r => by
    cases h; cases r
    exact ⟨_, ReadsAll.nil, by simp⟩
  | _, _, .cons h1 h2, _, _, h, r => by
    cases h with
    | cons d1 d2 =>
      cases r with
      | cons r1 r2 =>
        obtain ⟨as, q1, n1⟩ := Vw.reads I r0 h1 _ _ d1 r1
        obtain ⟨bs, q2, n2⟩ := VwAll.reads I r0 h2 _ _ d2 r2
        exact ⟨_, ReadsAll.cons q1 q2, by rw [List.mem_append, not_or]; exact ⟨n1, n2⟩⟩
end
end
end DL
namespace DL
open PySem PySem.Spec PyProof.Rows L2
open Evl (Ex ex_rd ex_l ex_t fresh_back)
variable [AM : Amb]

/-- the list that a thing is: data, or one that changes -/
def asL (μ : Mu) : D → Option (List D)
  | .lst xs => some xs
  | .val (.ref a) => match μ a with
    | some (.lst xs) => some xs
    | _ => none
  | _ => none
theorem asL_at {μ : Mu} {H0 H1 : Hp} {x : D} {v : V} {xs : List D} (r : Dt H0 v x) (rw_ : Rw μ H0 H1) (h : asL μ x = some xs) : ∃ a vs, v = .ref a ∧ H1 a = some (.lst vs) ∧ DtAll H0 vs xs := by
  cases x with
  | lst ys =>
    cases h
    obtain ⟨a, vs, e, ha, t⟩ := r.lst_of
    exact ⟨a, vs, e, rw_.ex _ _ ha, t⟩
  | val w =>
    have e := r.val_of
    subst e
    cases v with
    | ref a =>
      have h' : (match μ a with
        | some (.lst zs) => some zs
        | _ => none) = some xs := h
      cases hm : μ a with
      | none => rw [hm] at h'; cases h'
      | some m =>
        cases m with
        | ins C fs => rw [hm] at h'; cases h'
        | lst zs =>
          rw [hm] at h'
          cases h'
          obtain ⟨_, vs, e, t⟩ := rw_.mu a _ hm
          exact ⟨a, vs, rfl, e, t⟩
    | _ => cases h
  | _ => cases h
/-- a list or a tuple -/
def asS (μ : Mu) : D → Option (List D)
  | .tup xs => some xs
  | x => asL μ x

/-! ### operators -/
def rAddD (K : PySem.W.Frag) : R2 := fun x y H Q => (rI0 fun i j => V.int (i + j)) x y H Q ∨ ((∃ i j, x = .str i ∧ y = .str j ∧ i.length + j.length ≤ sizeLine ∧ Q (.str (i ++ j)) H) ∨ (rCat x y H Q ∨ rCatA K x y H Q))
theorem op_addD {X : Cx} : OpR X (binaryOp .Add) (rAddD X.K) := op_add.or (op_add_str.or (op_cat.or op_catA))
def fAdd : DO2 := fun x y μ K => match x, y with
  | .int i, .int j => K (.int (i + j)) μ
  | .str a, .str b => a.length + b.length ≤ sizeLine ∧ K (.str (a ++ b)) μ
  | .tup xs, .tup ys => xs.length + ys.length ≤ 100000 ∧ K (.tup (xs ++ ys)) μ
  | x, y => ∃ xs ys, asL μ x = some xs ∧ asL μ y = some ys ∧ xs.length + ys.length ≤ 100000 ∧ K (.lst (xs ++ ys)) μ
theorem l2_cat {K' : PySem.W.Frag} {x y : D} {xs ys : List D} {μ : Mu} {u v : V} {H0 H1 : Hp} (rx : Dt H0 u x) (ry : Dt H0 v y) (rw_ : Rw μ H0 H1) (hx : asL μ x = some xs) (hy : asL μ y = some ys) (hz : xs.length + ys.length ≤ 100000) {Q : VK}
    (q : ∀ p vs ws, H1 p = none → DtAll H0 vs xs → DtAll H0 ws ys → Q (.ref p) (upd H1 p (.lst (vs ++ ws)))) : rAddD K' u v H1 Q := by
  obtain ⟨a, vs, rfl, ha, ta⟩ := asL_at rx rw_ hx
  obtain ⟨b, ws, rfl, hb, tb⟩ := asL_at ry rw_ hy
  refine .inr (.inr (.inl ⟨a, b, vs, ws, rfl, rfl, ha, hb, ?_, fun p hp => q p vs ws hp ta tb⟩))
  rw [ta.length, tb.length]
  exact Evl.sz_of hz
theorem l2_add {K' : PySem.W.Frag} : Lift2 (rAddD K') fAdd := by
  intro x y μ K h u v H0 H1 rx ry rw_ Q q
  have lists : (∃ xs ys, asL μ x = some xs ∧ asL μ y = some ys ∧ xs.length + ys.length ≤ 100000 ∧ K (.lst (xs ++ ys)) μ) → rAddD K' u v H1 Q := fun ⟨xs, ys, hx, hy, hz, k⟩ =>
    l2_cat rx ry rw_ hx hy hz fun p vs ws hp ta tb => by
      obtain ⟨e2, rw2⟩ := rw_.new (o := .lst (vs ++ ws)) hp
      exact q _ _ μ _ _ e2 rw2 (.lst upd_same ((ta.append tb).mono e2)) k
  unfold fAdd at h
  split at h
  · rw [rx.int_of, ry.int_of]
    exact .inl ⟨_, _, rfl, rfl, q _ _ μ H0 H1 (exr _) rw_ (.int _) h⟩
  · rw [rx.str_of, ry.str_of]
    exact .inr (.inl ⟨_, _, rfl, rfl, h.1, q _ _ μ H0 H1 (exr _) rw_ (.str _) h.2⟩)
  · rename_i xs ys
    obtain ⟨a, vs, rfl, ha, ta⟩ := rx.tup_of
    obtain ⟨b, ws, rfl, hb, tb⟩ := ry.tup_of
    obtain ⟨hz, k⟩ := h
    refine .inr (.inr (.inr ⟨a, b, vs, ws, rfl, rfl, SqT.of (rw_.ex _ _ ha), SqT.of (rw_.ex _ _ hb), ?_, fun e => ?_, fun _ e => ?_, fun _ _ p hp => ?_⟩))
    · rw [ta.length, tb.length]; exact Evl.sz_of hz
    · subst e
      cases ta
      exact q _ _ μ H0 H1 (exr _) rw_ (.tup hb tb) k
    · subst e
      cases tb
      rw [List.append_nil] at k
      exact q _ _ μ H0 H1 (exr _) rw_ (.tup ha ta) k
    · obtain ⟨e2, rw2⟩ := rw_.new (o := .tup (vs ++ ws)) hp
      exact q _ _ μ _ _ e2 rw2 (.tup upd_same ((ta.append tb).mono e2)) k
  · exact lists h
def fInt (g : Int → Int → D) (C : Int → Int → Prop) : DO2 := fun x y μ K => ∃ i j, x = .int i ∧ y = .int j ∧ C i j ∧ K (g i j) μ
theorem l2_int {C C' : Int → Int → Prop} {g : Int → Int → V} {f : Int → Int → D} (hc : ∀ i j, C' i j → C i j) (hg : ∀ H i j, Dt H (g i j) (f i j)) : Lift2 (rI C g) (fInt f C') := fun x y μ K ⟨i, j, ex, ey, c, k⟩ u v H0 H1 rx ry rw_ Q q => by
  subst ex ey
  rw [rx.int_of, ry.int_of]
  exact ⟨i, j, rfl, rfl, hc i j c, q _ _ μ H0 H1 (exr _) rw_ (hg _ i j) k⟩
theorem l2_int0 {g : Int → Int → V} {f : Int → Int → D} (hg : ∀ H i j, Dt H (g i j) (f i j)) : Lift2 (rI0 g) (fInt f fun _ _ => True) := fun x y μ K ⟨i, j, ex, ey, c, k⟩ u v H0 H1 rx ry rw_ Q q => by
  subst ex ey
  rw [rx.int_of, ry.int_of]
  exact ⟨i, j, rfl, rfl, q _ _ μ H0 H1 (exr _) rw_ (hg _ i j) k⟩
theorem l2_sub : Lift2 (rI0 fun i j => .int (i - j)) (fInt (fun i j => .int (i - j)) fun _ _ => True) := l2_int0 fun _ _ _ => .int _
theorem l2_lt : Lift2 (rI0 fun i j => .bl (decide (i < j))) (fInt (fun i j => .bl (decide (i < j))) fun _ _ => True) := l2_int0 fun _ _ _ => .bl _
theorem l2_le : Lift2 (rI0 fun i j => .bl (decide (i ≤ j))) (fInt (fun i j => .bl (decide (i ≤ j))) fun _ _ => True) := l2_int0 fun _ _ _ => .bl _
theorem l2_gt : Lift2 (rI0 fun i j => .bl (decide (j < i))) (fInt (fun i j => .bl (decide (j < i))) fun _ _ => True) := l2_int0 fun _ _ _ => .bl _
theorem l2_ge : Lift2 (rI0 fun i j => .bl (decide (j ≤ i))) (fInt (fun i j => .bl (decide (j ≤ i))) fun _ _ => True) := l2_int0 fun _ _ _ => .bl _
/-- below 2 ^ n on either side -/
def Bt (n : Nat) (i : Int) : Prop := i.natAbs < 2 ^ n
def CMulD (i j : Int) : Prop := ∃ a b : Nat, Bt a i ∧ Bt b j ∧ a + b ≤ 134217728
def rMulD (K : PySem.W.Frag) : R2 := fun x y H Q => rI CMulX (fun i j => V.int (i * j)) x y H Q ∨ (rRep x y H Q ∨ rRepT K x y H Q)
theorem op_mulD {X : Cx} : OpR X (binaryOp .Mult) (rMulD X.K) := op_mulX.or (op_rep.or op_repT)
def fMul : DO2 := fun x y μ K => match x, y with
  | .int i, .int j => CMulD i j ∧ K (.int (i * j)) μ
  | .tup xs, .int k => xs ≠ [] ∧ 2 ≤ k ∧ k ≤ 1000 ∧ xs.length ≤ 1000 ∧ K (.tup (List.replicate k.toNat xs).flatten) μ
  | x, y => ∃ xs k, asL μ x = some xs ∧ y = .int k ∧ k ≤ 1000 ∧ -1000 ≤ k ∧ xs.length ≤ 1000 ∧ K (.lst (List.replicate k.toNat xs).flatten) μ
theorem DtAll.rep {H : Hp} {vs : List V} {xs : List D} (t : DtAll H vs xs) : ∀ n : Nat, DtAll H (List.replicate n vs).flatten (List.replicate n xs).flatten
  | 0 => .nil
  | n + 1 => by
    rw [List.replicate_succ, List.replicate_succ, List.flatten_cons, List.flatten_cons]
    exact t.append (DtAll.rep t n)
theorem l2_mul {K' : PySem.W.Frag} : Lift2 (rMulD K') fMul := by
  intro x y μ K h u v H0 H1 rx ry rw_ Q q
  unfold fMul at h
  split at h
  · obtain ⟨⟨a, b, ha, hb, hs⟩, k⟩ := h
    rw [rx.int_of, ry.int_of]
    exact .inl ⟨_, _, rfl, rfl, mulx_ok ha hb hs, q _ _ μ H0 H1 (exr _) rw_ (.int _) k⟩
  · obtain ⟨hn, h1, h2, h3, k⟩ := h
    obtain ⟨a, vs, rfl, ha, ta⟩ := rx.tup_of
    rw [ry.int_of]
    refine .inr (.inr ⟨a, _, vs, rfl, rfl, SqT.of (rw_.ex _ _ ha), fun z => ?_, h1, h2, by rw [ta.length]; exact h3, fun p hp => ?_⟩)
    · subst z; cases ta; exact hn rfl
    · obtain ⟨e2, rw2⟩ := rw_.new (o := .tup (List.replicate _ vs).flatten) hp
      exact q _ _ μ _ _ e2 rw2 (.tup upd_same ((ta.rep _).mono e2)) k
  · obtain ⟨xs, k, hx, ey, h1, h2, h3, kk⟩ := h
    subst ey
    obtain ⟨a, vs, rfl, ha, ta⟩ := asL_at rx rw_ hx
    rw [ry.int_of]
    refine .inr (.inl ⟨a, k, vs, rfl, rfl, ha, by omega, by omega, ?_, fun p hp => ?_⟩)
    · rw [ta.length]
      have : xs.length * k.toNat ≤ 1000 * 1000 := Nat.mul_le_mul h3 (by omega)
      exact Nat.le_trans this (by decide)
    · obtain ⟨e2, rw2⟩ := rw_.new (o := .lst (List.replicate _ vs).flatten) hp
      exact q _ _ μ _ _ e2 rw2 (.lst upd_same ((ta.rep _).mono e2)) kk
theorem l2_fdiv : Lift2 (rI CDivW fun i j => .int (i / j)) (fInt (fun i j => .int (i / j)) fun _ j => 0 < j ∧ ∃ b, Bt b j ∧ 0 < b ∧ b ≤ 9000) := l2_int (fun _ _ ⟨h, b, h1, h2, h3⟩ => wide_div h h1 h2 h3) fun _ _ _ => .int _
theorem l2_mod : Lift2 (rI (fun _ j => 0 < j) fun i j => .int (i % j)) (fInt (fun i j => .int (i % j)) fun _ j => 0 < j) := l2_int (fun _ _ h => h) fun _ _ _ => .int _
def CPowD (i j : Int) : Prop := 0 ≤ j ∧ (Builtin.Int.intBits i : Int) * j ≤ 2 ^ 27
theorem op_powD {X : Cx} : OpR X (binaryOp .Pow) (rI CPowD fun i j => .int (i ^ j.toNat)) := opI fun _ _ _ _ _ _ _ hc q => pow_int hc.1 hc.2 q
theorem l2_pow : Lift2 (rI CPowD fun i j => .int (i ^ j.toNat)) (fInt (fun i j => .int (i ^ j.toNat)) CPowD) := l2_int (fun _ _ h => h) fun _ _ _ => .int _

/-! ### == and != -/
def rEqX (K : PySem.W.Frag) (neg : Bool) (P : Program) (w : World) (h : Hp → V → V → Bool → Prop) : R2 := fun x y H Q => ∃ b, h H x y b ∧ Q (.bl (if neg then !b else b)) H
/-- what == tells of two data -/
inductive EqB (μ : Mu) : D → D → Bool → Prop
  | py {x y : D} {p q : PyData} : Vw μ x p → Vw μ y q → SeqAt.shaped p = true → SeqAt.shaped q = true → EqB μ x y (PyData.eqv p q)
  | len {x y : D} {xs ys : List D} : asL μ x = some xs → asL μ y = some ys → xs.length ≠ ys.length → EqB μ x y false
def rEqB (neg : Bool) : R2 := fun x y H Q => ∃ μ H0 d e b, Dt H0 x d ∧ Dt H0 y e ∧ Rw0 μ H0 H ∧ EqB μ d e b ∧ Q (.bl (if neg then !b else b)) H
omit AM in
theorem eqB_at {X : Cx} {pins : List (Addr × Obj)} {σ : L2.St} {H0 H1 : Hp} {s : Shared} {μ : Mu} {d e : D} {b : Bool} {x y : V} {u v : Value} (I : Inv X pins σ H1 s) (r0 : Rw0 μ H0 H1) (rx : Dt H0 x d) (ry : Dt H0 y e) (h : EqB μ d e b) (vx : L2.RelV x u) (vy : L2.RelV y v) (hu : X.A.units + 64 < cLine) :
    SeqAt.RcAt X.A s u v b := by
  letI : Amb := ⟨fun _ => True, fun _ _ _ h => h⟩
  have rw_ : Rw μ H0 H1 := ⟨r0, True.intro⟩
  cases h with
  | py tx ty sx sy =>
    obtain ⟨as, ra, _⟩ := Vw.reads I rw_.toRw0 tx x u rx vx
    obtain ⟨bs, rb, _⟩ := Vw.reads I rw_.toRw0 ty y v ry vy
    exact SeqAt.rcAt_reads ra rb (SeqAt.canLay_of_shaped sx) (SeqAt.canLay_of_shaped sy) (SeqAt.room_of_shaped sx hu)
  | len hx hy hn =>
    obtain ⟨a, vs, rfl, ha, ta⟩ := asL_at rx rw_ hx
    obtain ⟨b, ws, rfl, hb, tb⟩ := asL_at ry rw_ hy
    cases vx
    cases vy
    obtain ⟨us, r1, p1, _⟩ := I.list (SqL.of ha)
    obtain ⟨zs, r2, p2, _⟩ := I.list (SqL.of hb)
    refine SeqAt.RcAt.lists_lengths p1.isList p2.isList ?_ (by omega)
    have e1 := r1.length
    have e2 := r2.length
    rw [bne_iff_ne]
    intro z
    rw [List.size_toArray, List.size_toArray] at z
    exact hn (by rw [← ta.length, ← tb.length]; omega)
omit AM in
theorem op_eqB {X : Cx} (hu : X.A.units + 64 < cLine) : OpR X (compareOp .Eq) (rEqB false) := by
  intro pins s σ H x y u v Q I vx vy ⟨μ, H0, d, e, b, rx, ry, rw_, h, q⟩
  exact eqB_at I rw_ rx ry h vx vy hu X.prog X.w _ _ ⟨.bl _, H, I, rfl, q⟩
omit AM in
theorem neB_at {X : Cx} {pins : List (Addr × Obj)} {σ : L2.St} {H0 H1 : Hp} {s : Shared} {μ : Mu} {d e : D} {b : Bool} {x y : V} {u v : Value} (I : Inv X pins σ H1 s) (r0 : Rw0 μ H0 H1) (rx : Dt H0 x d) (ry : Dt H0 y e) (h : EqB μ d e b) (vx : L2.RelV x u) (vy : L2.RelV y v) (hu : X.A.units + 64 < cLine) :
    SeqAt.RcNeAt X.A s u v (!b) := by
  letI : Amb := ⟨fun _ => True, fun _ _ _ h => h⟩
  have rw_ : Rw μ H0 H1 := ⟨r0, True.intro⟩
  cases h with
  | py tx ty sx sy =>
    obtain ⟨as, ra, _⟩ := Vw.reads I rw_.toRw0 tx x u rx vx
    obtain ⟨bs, rb, _⟩ := Vw.reads I rw_.toRw0 ty y v ry vy
    exact SeqAt.rcNeAt_reads ra rb (SeqAt.canLay_of_shaped sx) (SeqAt.canLay_of_shaped sy) (SeqAt.room_of_shaped sx hu)
  | len hx hy hn =>
    obtain ⟨a, vs, rfl, ha, ta⟩ := asL_at rx rw_ hx
    obtain ⟨b, ws, rfl, hb, tb⟩ := asL_at ry rw_ hy
    cases vx
    cases vy
    obtain ⟨us, r1, p1, _⟩ := I.list (SqL.of ha)
    obtain ⟨zs, r2, p2, _⟩ := I.list (SqL.of hb)
    refine SeqAt.RcNeAt.lists_lengths p1.isList p2.isList ?_ (by omega)
    have e1 := r1.length
    have e2 := r2.length
    rw [bne_iff_ne]
    intro z
    rw [List.size_toArray, List.size_toArray] at z
    exact hn (by rw [← ta.length, ← tb.length]; omega)
omit AM in
theorem op_neB {X : Cx} (hu : X.A.units + 64 < cLine) : OpR X (compareOp .NotEq) (rEqB true) := by
  intro pins s σ H x y u v Q I vx vy ⟨μ, H0, d, e, b, rx, ry, rw_, h, q⟩
  exact neB_at I rw_ rx ry h vx vy hu X.prog X.w _ _ ⟨.bl _, H, I, rfl, q⟩
def fEq (neg : Bool) : DO2 := fun x y μ K => ∃ b, EqB μ x y b ∧ K (.bl (if neg then !b else b)) μ
theorem l2_eq {neg : Bool} : Lift2 (rEqB neg) (fEq neg) := fun x y μ K ⟨b, h, k⟩ u v H0 H1 rx ry rw_ Q q => ⟨μ, H0, x, y, b, rx, ry, rw_.toRw0, h, q _ _ μ H0 H1 (exr _) rw_ (.bl _) k⟩
/-! scalars, or data -/
def rEqX2 (neg : Bool) : R2 := fun x y H Q => (scal x y = true ∧ Q (V.bl (if neg then !decide (x = y) else decide (x = y))) H) ∨ rEqB neg x y H Q
omit AM in
theorem op_eqX {X : Cx} (hu : X.A.units + 64 < cLine) : OpR X (compareOp .Eq) (rEqX2 false) := op_eq.or (op_eqB hu)
omit AM in
theorem op_neX {X : Cx} (hu : X.A.units + 64 < cLine) : OpR X (compareOp .NotEq) (rEqX2 true) := op_ne.or (op_neB hu)
def eqS : D → D → Option Bool
  | .int i, .int j => some (decide (i = j))
  | .str i, .str j => some (decide (i = j))
  | _, _ => none
def fEqX (neg : Bool) : DO2 := fun x y μ K => (∃ b, eqS x y = some b ∧ K (.bl (if neg then !b else b)) μ) ∨ fEq neg x y μ K
theorem l2_eqX {neg : Bool} : Lift2 (rEqX2 neg) (fEqX neg) := fun x y μ K h u v H0 H1 rx ry rw_ Q q => by
  rcases h with ⟨b, h, k⟩ | h
  · refine .inl ?_
    unfold eqS at h
    split at h
    · cases h
      rename_i i j
      have e1 := rx.int_of
      have e2 := ry.int_of
      subst e1
      subst e2
      have e : decide ((V.int i) = V.int j) = decide (i = j) := by simp
      exact ⟨rfl, by rw [e]; exact q _ _ μ H0 H1 (exr _) rw_ (.bl _) k⟩
    · cases h
      rename_i i j
      have e1 := rx.str_of
      have e2 := ry.str_of
      subst e1
      subst e2
      have e : decide ((V.str i) = V.str j) = decide (i = j) := by simp
      exact ⟨rfl, by rw [e]; exact q _ _ μ H0 H1 (exr _) rw_ (.bl _) k⟩
    · cases h
  · exact .inr (l2_eq x y μ K h u v H0 H1 rx ry rw_ Q q)
end DL
namespace DL
open PySem PySem.Spec PyProof.Rows L2
open Evl (Ex ex_rd ex_l ex_t fresh_back)
variable [AM : Amb]

theorem vals_of_all {H : Hp} {us : List V} {x : D} (h : DtAll H us [x]) : ∃ u, us = [u] ∧ Dt H u x := by
  cases h with
  | cons r t => cases t; exact ⟨_, rfl, r⟩
theorem vals_of_all2 {H : Hp} {us : List V} {x y : D} (h : DtAll H us [x, y]) : ∃ u v, us = [u, v] ∧ Dt H u x ∧ Dt H v y := by
  cases h with
  | cons r t => cases t with
    | cons r2 t => cases t; exact ⟨_, _, rfl, r, r2⟩
theorem all_ints {H : Hp} : ∀ {us : List V} {ns : List Int}, DtAll H us (ns.map D.int) → us = ns.map V.int
  | [], [], _ => rfl
  | [], _ :: _, h => by cases h
  | _ :: _, [], h => by cases h
  | u :: us, n :: ns, h => by
    cases h with
    | cons r t => rw [r.int_of, all_ints t]; rfl
theorem all_bls {H : Hp} : ∀ {us : List V} {ns : List Bool}, DtAll H us (ns.map D.bl) → us = ns.map V.bl
  | [], [], _ => rfl
  | [], _ :: _, h => by cases h
  | _ :: _, [], h => by cases h
  | u :: us, n :: ns, h => by
    cases h with
    | cons r t => rw [r.bl_of, all_bls t]; rfl

/-! ### is None -/
def rIsN : R2 := fun x y H Q => y = .non ∧ Q (.bl (decide (x = .non))) H
def rNotN : R2 := fun x y H Q => y = .non ∧ Q (.bl (!decide (x = .non))) H
def isNon : D → Option Bool
  | .non => some true
  | .any _ => none
  | .val v => some (decide (v = .non))
  | _ => some false
theorem isNon_at {H : Hp} {v : V} {x : D} {b : Bool} (r : Dt H v x) (h : isNon x = some b) : decide (v = .non) = b := by
  cases r <;> first | (cases h; done) | (cases h; rfl) | (cases h; simp)
def fIsN (neg : Bool) : DO2 := fun x y μ K => y = .non ∧ ∃ b, isNon x = some b ∧ K (.bl (if neg then !b else b)) μ
theorem op_isN1 {X : Cx} : OpR X (compareOp .Is) rIsN := op_isN
theorem op_notN1 {X : Cx} : OpR X (compareOp .IsNot) rNotN := op_notN
theorem l2_isN : Lift2 rIsN (fIsN false) := fun x y μ K ⟨ey, b, hb, k⟩ u v H0 H1 rx ry rw_ Q q => by
  subst ey
  refine ⟨ry.non_of, ?_⟩
  rw [isNon_at rx hb]
  exact q _ _ μ H0 H1 (exr _) rw_ (.bl _) k
theorem l2_notN : Lift2 rNotN (fIsN true) := fun x y μ K ⟨ey, b, hb, k⟩ u v H0 H1 rx ry rw_ Q q => by
  subst ey
  refine ⟨ry.non_of, ?_⟩
  rw [isNon_at rx hb]
  exact q _ _ μ H0 H1 (exr _) rw_ (.bl _) k

/-! ### unary -/
def fNeg : D → Mu → KD → Prop := fun x μ K => ∃ i, x = .int i ∧ K (.int (-i)) μ
theorem l1_neg : Lift1 (rU fun i => .int (-i)) fNeg := fun x μ K ⟨i, e, k⟩ u H0 H1 rx rw_ Q q => by
  subst e
  rw [rx.int_of]
  exact ⟨i, rfl, q _ _ μ H0 H1 (exr _) rw_ (.int _) k⟩

/-! ### subscripts -/
def fIx : DO2 := fun x y μ K => ∃ xs i d, asS μ x = some xs ∧ y = .int i ∧ atI xs i = some d ∧ K d μ
theorem atI_all {H : Hp} {vs : List V} {xs : List D} {i : Int} {d : D} (t : DtAll H vs xs) (h : atI xs i = some d) : ∃ v, atI vs i = some v ∧ Dt H v d := by
  unfold atI at h ⊢
  rw [t.length]
  cases e : ixN xs.length i with
  | none => rw [e] at h; cases h
  | some j =>
    rw [e] at h
    exact t.get h
theorem l2_ix {K' : PySem.W.Frag} : Lift2 (rIx K') fIx := by
  intro x y μ K ⟨xs, i, d, hx, ey, hd, k⟩ u v H0 H1 rx ry rw_ Q q
  subst ey
  rw [ry.int_of]
  cases x with
  | tup ys =>
    cases hx
    obtain ⟨a, vs, rfl, ha, ta⟩ := rx.tup_of
    obtain ⟨w, hw, rw'⟩ := atI_all ta hd
    exact .inr (.inl ⟨a, vs, i, w, rfl, rfl, SqT.of (rw_.ex _ _ ha), hw, q _ _ μ H0 H1 (exr _) rw_ rw' k⟩)
  | lst ys =>
    obtain ⟨a, vs, rfl, ha, ta⟩ := asL_at rx rw_ hx
    obtain ⟨w, hw, rw'⟩ := atI_all ta hd
    exact .inl ⟨a, vs, i, w, rfl, rfl, SqL.of ha, hw, q _ _ μ H0 H1 (exr _) rw_ rw' k⟩
  | val z =>
    obtain ⟨a, vs, rfl, ha, ta⟩ := asL_at rx rw_ hx
    obtain ⟨w, hw, rw'⟩ := atI_all ta hd
    exact .inl ⟨a, vs, i, w, rfl, rfl, SqL.of ha, hw, q _ _ μ H0 H1 (exr _) rw_ rw' k⟩
  | _ => cases hx

/-! ### slices -/
abbrev DO := Ro → Mu → (Option Int → Mu → Prop) → Prop
def LiftO (to : TO) (do_ : DO) : Prop := ∀ ρ μ K, do_ ρ μ K → ∀ σ H0 H1, Sl ρ σ H0 → Rw μ H0 H1 → ∀ Q : Option Int → Hp → Prop,
  (∀ o μ' H0' H1', Ex H0 H0' → Rw μ' H0' H1' → K o μ' → Q o H1') → to σ H1 Q
def dNoPart : DO := fun _ μ K => K none μ
def dPart (de : DE) : DO := fun ρ μ K => de ρ μ fun x μ1 => ∃ i, x = .int i ∧ K (some i) μ1
theorem lo_none : LiftO tNoPart dNoPart := fun ρ μ K h σ H0 H1 sl rw_ Q q => q none μ H0 H1 (exr _) rw_ h
theorem lo_some {te : TE} {de : DE} (h : Lift te de) : LiftO (tPart te) (dPart de) := fun ρ μ K hk σ H0 H1 sl rw_ Q q =>
  h ρ μ _ hk σ H0 H1 sl rw_ _ fun x u μ1 H01 H11 e1 rw1 r1 ⟨i, ei, k⟩ => by subst ei; exact ⟨i, r1.int_of, q (some i) μ1 H01 H11 e1 rw1 k⟩
def cutD (xs : List D) (lo hi : Option Int) : List D := (xs.drop (HT.sIx xs.length 0 lo)).take (HT.sIx xs.length xs.length hi - HT.sIx xs.length 0 lo)
theorem cut_all {H : Hp} {vs : List V} {xs : List D} (t : DtAll H vs xs) (lo hi : Option Int) : DtAll H (cutV vs lo hi) (cutD xs lo hi) := by
  unfold cutV cutD
  rw [t.length]
  exact (t.drop _).take _
def rSlD (K : PySem.W.Frag) : V → Option Int → Option Int → Hp → VK → Prop := fun x lo hi H Q => rSlL K x lo hi H Q ∨ rSlA K x lo hi H Q
theorem sl_D {X : Cx} : SlR X (rSlD X.K) := sl_list.or sl_tupA
def fSl (x : D) (lo hi : Option Int) (μ : Mu) (K : KD) : Prop := match x with
  | .tup xs => K (.tup (cutD xs lo hi)) μ
  | x => ∃ xs, asL μ x = some xs ∧ K (.lst (cutD xs lo hi)) μ
theorem cut_whole {α : Type} (xs : List α) (lo hi : Option Int) (h : HT.sIx xs.length 0 lo = 0 ∧ HT.sIx xs.length xs.length hi = xs.length) : (xs.drop (HT.sIx xs.length 0 lo)).take (HT.sIx xs.length xs.length hi - HT.sIx xs.length 0 lo) = xs := by
  rw [h.1, h.2]
  simp
def dSl (f : D → Option Int → Option Int → Mu → KD → Prop) (de : DE) (dl dh : DO) : DE := fun ρ μ K => de ρ μ fun x μ1 => dl ρ μ1 fun l μ2 => dh ρ μ2 fun h μ3 => f x l h μ3 K
theorem l_sl {K' : PySem.W.Frag} {te : TE} {de : DE} {tl th : TO} {dl dh : DO} (he : Lift te de) (hl : LiftO tl dl) (hh : LiftO th dh) : Lift (tSl (rSlD K') te tl th) (dSl fSl de dl dh) := fun ρ μ K h σ H0 H1 sl rw_ Q q =>
  he ρ μ _ h σ H0 H1 sl rw_ _ fun x u μ1 H01 H11 e1 rw1 r1 h1 => hl ρ μ1 _ h1 σ H01 H11 (sl.mono e1) rw1 _ fun lo μ2 H02 H12 e2 rw2 h2 =>
    hh ρ μ2 _ h2 σ H02 H12 (sl.mono (e1.trans e2)) rw2 _ fun hi μ3 H03 H13 e3 rw3 h3 => by
      have r3 := (r1.mono e2).mono e3
      have lists : (∃ xs, asL μ3 x = some xs ∧ K (.lst (cutD xs lo hi)) μ3) → rSlD K' u lo hi H13 Q := fun ⟨xs, hx, k⟩ => by
        obtain ⟨a, vs, rfl, ha, ta⟩ := asL_at r3 rw3 hx
        refine .inl ⟨a, vs, rfl, SqL.of ha, fun p hp => ?_⟩
        obtain ⟨e4, rw4⟩ := rw3.new (o := .lst (cutV vs lo hi)) hp
        exact q _ _ μ3 _ _ (((e1.trans e2).trans e3).trans e4) rw4 (.lst upd_same ((cut_all ta lo hi).mono e4)) k
      unfold fSl at h3
      split at h3
      · rename_i xs
        obtain ⟨a, vs, rfl, ha, ta⟩ := r3.tup_of
        refine .inr ⟨a, vs, rfl, SqT.of (rw3.ex _ _ ha), fun hw => ?_, fun _ p hp => ?_⟩
        · have e : cutD xs lo hi = xs := cut_whole xs lo hi (by rw [← ta.length]; exact hw)
          rw [e] at h3
          exact q _ _ μ3 H03 H13 ((e1.trans e2).trans e3) rw3 (.tup ha ta) h3
        · obtain ⟨e4, rw4⟩ := rw3.new (o := .tup (cutV vs lo hi)) hp
          exact q _ _ μ3 _ _ (((e1.trans e2).trans e3).trans e4) rw4 (.tup upd_same ((cut_all ta lo hi).mono e4)) h3
      · exact lists h3

/-! ### built-in calls -/
def rLenD (K : PySem.W.Frag) : List V → Hp → VK → Prop := fun xs H Q => (∃ p ys, xs = [.ref p] ∧ (SqL K H p ys ∨ SqT K H p ys) ∧ Q (.int ys.length) H) ∨ (∃ z, xs = [.str z] ∧ z.length ≤ sizeLine ∧ Q (.int z.length) H)
theorem call_lenDD {X : Cx} : CallR X (.builtin "len") (rLenD X.K) := call_len_seq.or call_len_str
def fLen : DOn := fun xs μ K => match xs with
  | [.str z] => z.length ≤ sizeLine ∧ K (.int z.length) μ
  | [x] => ∃ ys, asS μ x = some ys ∧ K (.int ys.length) μ
  | _ => False
theorem asS_at {K' : PySem.W.Frag} {μ : Mu} {H0 H1 : Hp} {x : D} {v : V} {xs : List D} (r : Dt H0 v x) (rw_ : Rw μ H0 H1) (h : asS μ x = some xs) : ∃ a vs, v = .ref a ∧ (SqL K' H1 a vs ∨ SqT K' H1 a vs) ∧ DtAll H0 vs xs := by
  cases x with
  | tup ys =>
    cases h
    obtain ⟨a, vs, e, ha, t⟩ := r.tup_of
    exact ⟨a, vs, e, .inr (SqT.of (rw_.ex _ _ ha)), t⟩
  | lst ys =>
    obtain ⟨a, vs, e, ha, t⟩ := asL_at r rw_ (show asL μ (.lst ys) = some xs from h)
    exact ⟨a, vs, e, .inl (SqL.of ha), t⟩
  | val w =>
    obtain ⟨a, vs, e, ha, t⟩ := asL_at r rw_ (show asL μ (.val w) = some xs from h)
    exact ⟨a, vs, e, .inl (SqL.of ha), t⟩
  | _ => cases h
theorem lc_len {K' : PySem.W.Frag} : LiftC (rLenD K') fLen := by
  intro xs μ K h us H0 H1 rx rw_ Q q
  unfold fLen at h
  split at h
  · obtain ⟨u, rfl, r⟩ := vals_of_all rx
    rw [r.str_of]
    exact .inr ⟨_, rfl, h.1, q _ _ μ H0 H1 (exr _) rw_ (.int _) h.2⟩
  · obtain ⟨u, rfl, r⟩ := vals_of_all rx
    obtain ⟨ys, hy, k⟩ := h
    obtain ⟨a, vs, rfl, hs, t⟩ := asS_at (K' := K') r rw_ hy
    rw [← t.length] at k
    exact .inl ⟨a, vs, rfl, hs, q _ _ μ H0 H1 (exr _) rw_ (.int _) k⟩
  · exact h.elim
/-- a thing's built-in type -/
def tyD (μ : Mu) : D → Option String
  | .non => some "NoneType"
  | .bl _ => some "bool"
  | .int _ => some "int"
  | .str _ => some "str"
  | .lst _ => some "list"
  | .tup _ => some "tuple"
  | .dct _ => some "dict"
  | .val (.ref a) => match μ a with
    | some (.lst _) => some "list"
    | _ => none
  | _ => none
theorem ty_at {K' : PySem.W.Frag} {μ : Mu} {H0 H1 : Hp} {x : D} {v : V} {t : String} (r : Dt H0 v x) (rw_ : Rw μ H0 H1) (h : tyD μ x = some t) : TyX K' H1 v (.type t) := by
  cases x with
  | val w =>
    have e := r.val_of
    subst e
    cases v with
    | ref a =>
      have h' : (match μ a with
        | some (.lst _) => some "list"
        | _ => none) = some t := h
      cases hm : μ a with
      | none => rw [hm] at h'; cases h'
      | some m =>
        cases m with
        | ins C fs => rw [hm] at h'; cases h'
        | lst zs =>
          rw [hm] at h'
          cases h'
          obtain ⟨_, vs, e, _⟩ := rw_.mu a _ hm
          exact .base (.lst e)
    | _ => cases h
  | non => cases h; rw [r.non_of]; exact .base .non
  | bl b => cases h; rw [r.bl_of]; exact .base (.bl b)
  | int i => cases h; rw [r.int_of]; exact .base (.int i)
  | str x => cases h; rw [r.str_of]; exact .base (.str x)
  | lst xs =>
    cases h
    obtain ⟨a, vs, rfl, ha, _⟩ := r.lst_of
    exact .base (.lst (rw_.ex _ _ ha))
  | tup xs =>
    cases h
    obtain ⟨a, vs, rfl, ha, _⟩ := r.tup_of
    exact .base (.tup (rw_.ex _ _ ha))
  | dct kvs =>
    cases h
    cases r with
    | dct ha _ _ => exact .base (.dK (rw_.ex _ _ ha))
  | ins C fs => cases h
  | any P => cases h
/-- a class as a thing -/
def clsD : D → Option Value
  | .val (.ty n) => some (.type n)
  | .val (.ref C) => some (.ref C)
  | _ => none
def fIsi (K' : PySem.W.Frag) : DOn := fun xs μ K => ∃ x c t u b, xs = [x, c] ∧ clsD c = some u ∧ tyD μ x = some t ∧ PySem.W.kitOne K' (.type t) u = some b ∧ K (.bl b) μ
theorem clsD_at {H : Hp} {c : D} {v : V} {u : Value} (r : Dt H v c) (h : clsD c = some u) : ClsV v u := by
  cases c with
  | val w =>
    have e := r.val_of
    subst e
    cases v <;> first | (cases h; exact .ty _) | (cases h; exact .own _) | cases h
  | _ => cases h
theorem lc_isi {K' : PySem.W.Frag} : LiftC (rIsi K') (fIsi K') := by
  intro xs μ K ⟨x, c, t, u, b, e, hc, ht, hb, k⟩ us H0 H1 rx rw_ Q q
  subst e
  obtain ⟨w, v, rfl, r1, r2⟩ := vals_of_all2 rx
  exact ⟨w, v, _, u, b, rfl, clsD_at r2 hc, ty_at r1 rw_ ht, hb, q _ _ μ H0 H1 (exr _) rw_ (.bl b) k⟩
def fAll : DOn := fun xs μ K => ∃ (x : D) (bs : List Bool), xs = [x] ∧ asL μ x = some (bs.map D.bl) ∧ K (.bl (bs.all id)) μ
theorem lc_all {K' : PySem.W.Frag} : LiftC (rAll K') fAll := by
  intro xs μ K ⟨x, bs, e, hx, k⟩ us H0 H1 rx rw_ Q q
  subst e
  obtain ⟨u, rfl, r⟩ := vals_of_all rx
  obtain ⟨a, vs, rfl, ha, t⟩ := asL_at r rw_ hx
  rw [all_bls t] at ha
  exact ⟨a, bs, rfl, SqL.of ha, q _ _ μ H0 H1 (exr _) rw_ (.bl _) k⟩
def fAny : DOn := fun xs μ K => ∃ (x : D) (bs : List Bool), xs = [x] ∧ asL μ x = some (bs.map D.bl) ∧ K (.bl (bs.any id)) μ
theorem lc_any {K' : PySem.W.Frag} : LiftC (rAny K') fAny := by
  intro xs μ K ⟨x, bs, e, hx, k⟩ us H0 H1 rx rw_ Q q
  subst e
  obtain ⟨u, rfl, r⟩ := vals_of_all rx
  obtain ⟨a, vs, rfl, ha, t⟩ := asL_at r rw_ hx
  rw [all_bls t] at ha
  exact ⟨a, bs, rfl, SqL.of ha, q _ _ μ H0 H1 (exr _) rw_ (.bl _) k⟩
def fSum : DOn := fun xs μ K => ∃ (x : D) (ns : List Int), xs = [x] ∧ asL μ x = some (ns.map D.int) ∧ K (.int ns.sum) μ
theorem lc_sum {K' : PySem.W.Frag} : LiftC (rSum K') fSum := by
  intro xs μ K ⟨x, bs, e, hx, k⟩ us H0 H1 rx rw_ Q q
  subst e
  obtain ⟨u, rfl, r⟩ := vals_of_all rx
  obtain ⟨a, vs, rfl, ha, t⟩ := asL_at r rw_ hx
  rw [all_ints t] at ha
  exact ⟨a, bs, rfl, SqL.of ha, q _ _ μ H0 H1 (exr _) rw_ (.int _) k⟩
def rMax2D : List V → Hp → VK → Prop := fun xs H Q => ∃ i j, xs = [.int i, .int j] ∧ Q (.int (if j > i then j else i)) H
theorem call_max2D {X : Cx} (hc : X.calm = true) : CallR X (.builtin "max") rMax2D := call_max2 hc
def fMax2 : DOn := fun xs μ K => ∃ i j, xs = [.int i, .int j] ∧ K (.int (if j > i then j else i)) μ
theorem lc_max2 : LiftC rMax2D fMax2 := by
  intro xs μ K ⟨i, j, e, k⟩ us H0 H1 rx rw_ Q q
  subst e
  obtain ⟨u, v, rfl, r1, r2⟩ := vals_of_all2 rx
  rw [r1.int_of, r2.int_of]
  exact ⟨i, j, rfl, q _ _ μ H0 H1 (exr _) rw_ (.int _) k⟩
def rTupD (K : PySem.W.Frag) : List V → Hp → VK → Prop := fun xs H Q => ∃ p ys, xs = [.ref p] ∧ ((SqL K H p ys ∧ ∀ l, H l = none → Q (.ref l) (upd H l (.tup ys))) ∨ (SqT K H p ys ∧ Q (.ref p) H))
theorem call_tupD {X : Cx} : CallR X (.type "tuple") (rTupD X.K) := call_tuple_of
def fTuple : DOn := fun xs μ K => ∃ (x : D) (ys : List D), xs = [x] ∧ asS μ x = some ys ∧ K (.tup ys) μ
theorem lc_tuple {K' : PySem.W.Frag} : LiftC (rTupD K') fTuple := by
  intro xs μ K ⟨x, ys, e, hx, k⟩ us H0 H1 rx rw_ Q q
  subst e
  obtain ⟨u, rfl, r⟩ := vals_of_all rx
  have lists : asL μ x = some ys → rTupD K' [u] H1 Q := fun hx => by
    obtain ⟨a, vs, rfl, ha, t⟩ := asL_at r rw_ hx
    refine ⟨a, vs, rfl, .inl ⟨SqL.of ha, fun l hl => ?_⟩⟩
    obtain ⟨e2, rw2⟩ := rw_.new (o := .tup vs) hl
    exact q _ _ μ _ _ e2 rw2 (.tup upd_same (t.mono e2)) k
  cases x with
  | tup zs =>
    cases hx
    obtain ⟨a, vs, rfl, ha, t⟩ := r.tup_of
    exact ⟨a, vs, rfl, .inr ⟨SqT.of (rw_.ex _ _ ha), q _ _ μ H0 H1 (exr _) rw_ (.tup ha t) k⟩⟩
  | lst zs => exact lists hx
  | val w => exact lists hx
  | _ => cases hx
def rLstD (K : PySem.W.Frag) : List V → Hp → VK → Prop := fun xs H Q => ∃ p ys, xs = [.ref p] ∧ (SqL K H p ys ∨ SqT K H p ys) ∧ ∀ l, H l = none → Q (.ref l) (upd H l (.lst ys))
theorem call_lstD {X : Cx} : CallR X (.type "list") (rLstD X.K) := call_list_of
def fList : DOn := fun xs μ K => ∃ (x : D) (ys : List D), xs = [x] ∧ asS μ x = some ys ∧ K (.lst ys) μ
theorem lc_list' {K' : PySem.W.Frag} : LiftC (rLstD K') fList := by
  intro xs μ K ⟨x, ys, e, hx, k⟩ us H0 H1 rx rw_ Q q
  subst e
  obtain ⟨u, rfl, r⟩ := vals_of_all rx
  obtain ⟨a, vs, rfl, hs, t⟩ := asS_at (K' := K') r rw_ hx
  refine ⟨a, vs, rfl, hs, fun l hl => ?_⟩
  obtain ⟨e2, rw2⟩ := rw_.new (o := .lst vs) hl
  exact q _ _ μ _ _ e2 rw2 (.lst upd_same (t.mono e2)) k
/-- int(b), b an int or a bool -/
def rIntD : List V → Hp → VK → Prop := fun xs H Q => (∃ i, xs = [.int i] ∧ Q (.int i) H) ∨ ∃ k, xs = [.bl k] ∧ Q (.int (if k then 1 else 0)) H
theorem call_intD {X : Cx} : CallR X (.type "int") rIntD := call_int1
def fInt1 : DOn := fun xs μ K => match xs with
  | [.int i] => K (.int i) μ
  | [.bl b] => K (.int (if b then 1 else 0)) μ
  | _ => False
theorem lc_int1 : LiftC rIntD fInt1 := by
  intro xs μ K h us H0 H1 rx rw_ Q q
  unfold fInt1 at h
  split at h
  · obtain ⟨u, rfl, r⟩ := vals_of_all rx
    rw [r.int_of]
    exact .inl ⟨_, rfl, q _ _ μ H0 H1 (exr _) rw_ (.int _) h⟩
  · obtain ⟨u, rfl, r⟩ := vals_of_all rx
    rw [r.bl_of]
    exact .inr ⟨_, rfl, q _ _ μ H0 H1 (exr _) rw_ (.int _) h⟩
  · exact h.elim

/-! ### a new list that will change -/
theorem Rw0.newM {μ : Mu} {H0 H1 : Hp} {p : Addr} {vs : List V} {ds : List D} (r : Rw0 μ H0 H1) (hp : H1 p = none) (t : DtAll H0 vs ds) : μ p = none ∧ Rw0 (mup μ p (.lst ds)) H0 (upd H1 p (.lst vs)) := by
  have h0 : H0 p = none := fresh_back r.ex hp
  have hm : μ p = none := by
    cases e : μ p with
    | none => rfl
    | some m =>
      obtain ⟨_, q2⟩ := r.mu p m e
      cases m with
      | lst ds => obtain ⟨_, z, _⟩ := q2; rw [hp] at z; cases z
      | ins C fs => obtain ⟨_, _, z, _⟩ := q2; rw [hp] at z; cases z
  refine ⟨hm, ⟨fun a u h => ?_, r.sys.upd (fun φ z => by rw [hp] at z; cases z), fun a m h => ?_⟩⟩
  · rw [upd_ne (ne_of_none h h0)]
    exact r.ex a u h
  · by_cases ha : a = p
    · subst ha
      rw [mup_same] at h
      cases h
      exact ⟨h0, vs, upd_same, t⟩
    · rw [mup_ne ha] at h
      obtain ⟨q1, q2⟩ := r.mu a m h
      refine ⟨q1, ?_⟩
      cases m with
      | lst ds => obtain ⟨ws, z, tz⟩ := q2; exact ⟨ws, by rw [upd_ne ha]; exact z, tz⟩
      | ins C fs => obtain ⟨dx, fvs, z, kz, tz⟩ := q2; exact ⟨dx, fvs, by rw [upd_ne ha]; exact z, kz, tz⟩
theorem Rw.newM {μ : Mu} {H0 H1 : Hp} {p : Addr} {vs : List V} {ds : List D} (r : Rw μ H0 H1) (hp : H1 p = none) (t : DtAll H0 vs ds) : μ p = none ∧ Rw (mup μ p (.lst ds)) H0 (upd H1 p (.lst vs)) :=
  let ⟨e, r2⟩ := r.toRw0.newM hp t
  ⟨e, ⟨r2, r.am⟩⟩
def dLstM (da : DA) : DE := fun ρ μ K => da ρ μ fun xs μ1 => xs.length ≤ 100000 ∧ ∀ p, μ1 p = none → K (.val (.ref p)) (mup μ1 p (.lst xs))
theorem l_lstM {tr : TA} {dr : DA} (hr : LiftA tr dr) : Lift (tLst tr) (dLstM dr) := fun ρ μ K h σ H0 H1 sl rw_ Q q =>
  hr ρ μ _ h σ H0 H1 sl rw_ _ fun xs us μ1 H01 H11 e1 rw1 r1 ⟨hz, h1⟩ => ⟨Evl.sz_of (by rw [r1.length]; exact hz), fun p hp => by
    obtain ⟨hm, rw2⟩ := rw1.newM hp r1
    exact q (.val (.ref p)) (.ref p) _ _ _ e1 rw2 (.val _) (h1 p hm)⟩
def fListM : DOn := fun xs μ K => ∃ x ys, xs = [x] ∧ asS μ x = some ys ∧ ∀ p, μ p = none → K (.val (.ref p)) (mup μ p (.lst ys))
theorem lc_listM {K' : PySem.W.Frag} : LiftC (rLstD K') fListM := by
  intro xs μ K ⟨x, ys, e, hx, k⟩ us H0 H1 rx rw_ Q q
  subst e
  obtain ⟨u, rfl, r⟩ := vals_of_all rx
  obtain ⟨a, vs, rfl, hs, t⟩ := asS_at (K' := K') r rw_ hx
  refine ⟨a, vs, rfl, hs, fun l hl => ?_⟩
  obtain ⟨hm, rw2⟩ := rw_.newM hl t
  exact q _ _ _ _ _ (exr _) rw2 (.val _) (k l hm)
def fAddM : DO2 := fun x y μ K => ∃ xs ys, asL μ x = some xs ∧ asL μ y = some ys ∧ xs.length + ys.length ≤ 100000 ∧ ∀ p, μ p = none → K (.val (.ref p)) (mup μ p (.lst (xs ++ ys)))
theorem l2_addM {K' : PySem.W.Frag} : Lift2 (rAddD K') fAddM := fun x y μ K ⟨xs, ys, hx, hy, hz, k⟩ u v H0 H1 rx ry rw_ Q q =>
  l2_cat rx ry rw_ hx hy hz fun p vs ws hp ta tb => by
    obtain ⟨hm, rw2⟩ := rw_.newM hp (ta.append tb)
    exact q _ _ _ _ _ (exr _) rw2 (.val _) (k p hm)
end DL
namespace DL
open PySem PySem.Spec PyProof.Rows L2
open Evl (Ex ex_rd ex_l ex_t fresh_back)
variable [AM : Amb]

/-! ### statements -/
structure DEnds where
  nx : Ro → Mu → Prop
  rt : D → Mu → Prop
  bk : Ro → Mu → Prop := fun _ _ => False
  ct : Ro → Mu → Prop := fun _ _ => False
abbrev DS := DEnds → Ro → Mu → Prop
structure Link (H0 : Hp) (E : DEnds) (F : Ends) : Prop where
  nx : ∀ ρ μ σ H0' H1', Ex H0 H0' → Sl ρ σ H0' → Rw μ H0' H1' → E.nx ρ μ → F.nx σ H1'
  rt : ∀ d v μ H0' H1', Ex H0 H0' → Dt H0' v d → Rw μ H0' H1' → E.rt d μ → F.rt v H1'
  bk : ∀ ρ μ σ H0' H1', Ex H0 H0' → Sl ρ σ H0' → Rw μ H0' H1' → E.bk ρ μ → F.bk σ H1'
  ct : ∀ ρ μ σ H0' H1', Ex H0 H0' → Sl ρ σ H0' → Rw μ H0' H1' → E.ct ρ μ → F.ct σ H1'
theorem Link.mono {H0 H0' : Hp} {E : DEnds} {F : Ends} (l : Link H0 E F) (e : Ex H0 H0') : Link H0' E F :=
  ⟨fun ρ μ σ a b e2 => l.nx ρ μ σ a b (e.trans e2), fun d v μ a b e2 => l.rt d v μ a b (e.trans e2), fun ρ μ σ a b e2 => l.bk ρ μ σ a b (e.trans e2), fun ρ μ σ a b e2 => l.ct ρ μ σ a b (e.trans e2)⟩
def LiftS (ts : TS) (ds : DS) : Prop := ∀ E ρ μ, ds E ρ μ → ∀ F σ H0 H1, Sl ρ σ H0 → Rw μ H0 H1 → Link H0 E F → ts F σ H1
abbrev DG := D → Ro → Mu → (Ro → Mu → Prop) → Prop
abbrev DGs := List D → Ro → Mu → (Ro → Mu → Prop) → Prop
def LiftG (g : TG) (dg : DG) : Prop := ∀ x ρ μ K, dg x ρ μ K → ∀ v σ H0 H1, Dt H0 v x → Sl ρ σ H0 → Rw μ H0 H1 → ∀ Q : L2.St → Hp → Prop,
  (∀ ρ' μ' σ' H0' H1', Ex H0 H0' → Sl ρ' σ' H0' → Rw μ' H0' H1' → K ρ' μ' → Q σ' H1') → g v σ H1 Q
def LiftGs (g : TGs) (dg : DGs) : Prop := ∀ xs ρ μ K, dg xs ρ μ K → ∀ vs σ H0 H1, DtAll H0 vs xs → Sl ρ σ H0 → Rw μ H0 H1 → ∀ Q : L2.St → Hp → Prop,
  (∀ ρ' μ' σ' H0' H1', Ex H0 H0' → Sl ρ' σ' H0' → Rw μ' H0' H1' → K ρ' μ' → Q σ' H1') → g vs σ H1 Q

def dNext : DS := fun E ρ μ => E.nx ρ μ
def dBreak : DS := fun E ρ μ => E.bk ρ μ
def dCont : DS := fun E ρ μ => E.ct ρ μ
def dSeq (d e : DS) : DS := fun E ρ μ => d { E with nx := e E } ρ μ
def dIfS (c : DT) (d e : DS) : DS := fun E ρ μ => c ρ μ fun b μ1 => if b = true then d E ρ μ1 else e E ρ μ1
def dRet (de : DE) : DS := fun E ρ μ => de ρ μ E.rt
def dRetN : DS := fun E _ μ => E.rt .non μ
def dDrop (de : DE) : DS := fun E ρ μ => de ρ μ fun _ μ1 => E.nx ρ μ1
def dAsg (de : DE) (g : DG) : DS := fun E ρ μ => de ρ μ fun x μ1 => g x ρ μ1 E.nx
def dName (i : Nat) : DG := fun x ρ μ K => K (ρ.set i (some x)) μ
def dGNil : DGs := fun xs ρ μ K => xs = [] ∧ K ρ μ
def dGCons (g : DG) (gs : DGs) : DGs := fun xs ρ μ K => ∃ (x : D) (r : List D), xs = x :: r ∧ g x ρ μ fun ρ1 μ1 => gs r ρ1 μ1 K
def dGTup (n : Nat) (gs : DGs) : DG := fun x ρ μ K => ∃ xs : List D, x = .tup xs ∧ xs.length = n ∧ gs xs ρ μ K
section
variable {t u : TS} {d e : DS} {te : TE} {de : DE} {g : TG} {dg : DG}
theorem ls_next : LiftS tNext dNext := fun E ρ μ h F σ H0 H1 sl rw_ l => l.nx _ _ _ H0 H1 (exr _) sl rw_ h
theorem ls_break : LiftS tBreak dBreak := fun E ρ μ h F σ H0 H1 sl rw_ l => l.bk _ _ _ H0 H1 (exr _) sl rw_ h
theorem ls_cont : LiftS tCont dCont := fun E ρ μ h F σ H0 H1 sl rw_ l => l.ct _ _ _ H0 H1 (exr _) sl rw_ h
theorem ls_seq (h1 : LiftS t d) (h2 : LiftS u e) : LiftS (tSeq t u) (dSeq d e) := fun E ρ μ h F σ H0 H1 sl rw_ l =>
  h1 _ ρ μ h { F with nx := u F } σ H0 H1 sl rw_ ⟨fun ρ' μ' σ' H0' H1' e1 sl' rw' k => h2 E ρ' μ' k F σ' H0' H1' sl' rw' (l.mono e1), l.rt, l.bk, l.ct⟩
theorem ls_if {c : TT} {dc : DT} (hc : LiftT c dc) (h1 : LiftS t d) (h2 : LiftS u e) : LiftS (tIfS c t u) (dIfS dc d e) := fun E ρ μ h F σ H0 H1 sl rw_ l =>
  hc ρ μ _ h σ H0 H1 sl rw_ _ fun b μ1 H01 H11 e1 rw1 k => by
    cases b with
    | true => exact h1 E ρ μ1 k F σ H01 H11 (sl.mono e1) rw1 (l.mono e1)
    | false => exact h2 E ρ μ1 k F σ H01 H11 (sl.mono e1) rw1 (l.mono e1)
theorem ls_ret (h1 : Lift te de) : LiftS (tRet te) (dRet de) := fun E ρ μ h F σ H0 H1 sl rw_ l =>
  h1 ρ μ _ h σ H0 H1 sl rw_ _ fun d v μ1 H01 H11 e1 rw1 r k => l.rt d v μ1 H01 H11 e1 r rw1 k
theorem ls_retN : LiftS tRetN dRetN := fun E ρ μ h F σ H0 H1 sl rw_ l => l.rt .non .non μ H0 H1 (exr _) .non rw_ h
theorem ls_drop (h1 : Lift te de) : LiftS (tDrop te) (dDrop de) := fun E ρ μ h F σ H0 H1 sl rw_ l =>
  h1 ρ μ _ h σ H0 H1 sl rw_ _ fun d v μ1 H01 H11 e1 rw1 r k => l.nx ρ μ1 σ H01 H11 e1 (sl.mono e1) rw1 k
theorem ls_asg (h1 : Lift te de) (h2 : LiftG g dg) : LiftS (tAsg te g) (dAsg de dg) := fun E ρ μ h F σ H0 H1 sl rw_ l =>
  h1 ρ μ _ h σ H0 H1 sl rw_ _ fun x v μ1 H01 H11 e1 rw1 r k => h2 x ρ μ1 _ k v σ H01 H11 r (sl.mono e1) rw1 _ fun ρ' μ' σ' H0' H1' e2 sl' rw' k' => l.nx ρ' μ' σ' H0' H1' (e1.trans e2) sl' rw' k'
theorem lg_name {i : Nat} : LiftG (gName i) (dName i) := fun x ρ μ K h v σ H0 H1 r sl rw_ Q q => q _ μ _ H0 H1 (exr _) (sl.set i r) rw_ h
theorem lgs_nil : LiftGs gNil dGNil := fun xs ρ μ K ⟨e, k⟩ vs σ H0 H1 r sl rw_ Q q => by
  subst e
  cases r
  exact ⟨rfl, q ρ μ σ H0 H1 (exr _) sl rw_ k⟩
theorem lgs_cons {gs : TGs} {dgs : DGs} (h1 : LiftG g dg) (h2 : LiftGs gs dgs) : LiftGs (gCons g gs) (dGCons dg dgs) := fun xs ρ μ K ⟨x, r, e, k⟩ vs σ H0 H1 rr sl rw_ Q q => by
  subst e
  cases rr with
  | cons r1 r2 => exact ⟨_, _, rfl, h1 x ρ μ _ k _ σ H0 H1 r1 sl rw_ _ fun ρ1 μ1 σ1 H01 H11 e1 sl1 rw1 k1 => h2 r ρ1 μ1 K k1 _ σ1 H01 H11 (r2.mono e1) sl1 rw1 Q fun ρ' μ' σ' H0' H1' e2 => q ρ' μ' σ' H0' H1' (e1.trans e2)⟩
theorem lg_tup {K' : PySem.W.Frag} {n : Nat} {gs : TGs} {dgs : DGs} (h2 : LiftGs gs dgs) : LiftG (gTup K' n gs) (dGTup n dgs) := fun x ρ μ K ⟨xs, e, hn, k⟩ v σ H0 H1 r sl rw_ Q q => by
  subst e
  obtain ⟨a, vs, rfl, ha, t⟩ := r.tup_of
  exact ⟨a, vs, rfl, SqT.of (rw_.ex _ _ ha), by rw [t.length]; exact hn, h2 xs ρ μ K k vs σ H0 H1 t sl rw_ Q q⟩
end

/-! ### a list that changes -/
theorem Rw.setM {μ : Mu} {H0 H1 : Hp} {a : Addr} {xs ds : List D} {vs : List V} (r : Rw μ H0 H1) (hm : μ a = some (.lst xs)) (t : DtAll H0 vs ds) : Rw (mup μ a (.lst ds)) H0 (upd H1 a (.lst vs)) := by
  obtain ⟨h0, ws, hw, tw⟩ := r.mu a _ hm
  refine ⟨⟨fun b u h => ?_, r.sys.upd (fun φ z => by rw [hw] at z; cases z), fun b m h => ?_⟩, r.am⟩
  · rw [upd_ne (ne_of_none h h0)]
    exact r.ex b u h
  · by_cases ha : b = a
    · subst ha
      rw [mup_same] at h
      cases h
      exact ⟨h0, vs, upd_same, t⟩
    · rw [mup_ne ha] at h
      obtain ⟨q1, q2⟩ := r.mu b m h
      refine ⟨q1, ?_⟩
      cases m with
      | lst ds => obtain ⟨zs, z, tz⟩ := q2; exact ⟨zs, by rw [upd_ne ha]; exact z, tz⟩
      | ins C fs => obtain ⟨dx, fvs, z, kz, tz⟩ := q2; exact ⟨dx, fvs, by rw [upd_ne ha]; exact z, kz, tz⟩
theorem Rw.atM {μ : Mu} {H0 H1 : Hp} {a : Addr} {xs : List D} (r : Rw μ H0 H1) (hm : μ a = some (.lst xs)) : ∃ vs, H1 a = some (.lst vs) ∧ DtAll H0 vs xs := (r.mu a _ hm).2
/-- xs.append(e) as an expression -/
def dApp (da : DE) (de : DE) : DE := fun ρ μ K => da ρ μ fun x μ1 => ∃ a, x = .val (.ref a) ∧ (∃ ys, μ1 a = some (.lst ys)) ∧ de ρ μ1 fun y μ2 => ∃ xs, μ2 a = some (.lst xs) ∧ xs.length < 100000 ∧ K .non (mup μ2 a (.lst (xs ++ [y])))
theorem l_app {K' : PySem.W.Frag} {ta te : TE} {da de : DE} (ha : Lift ta da) (he : Lift te de) : Lift (tBM K' "list" rAppend ta (tCons te tNil)) (dApp da de) := fun ρ μ K h σ H0 H1 sl rw_ Q q =>
  ha ρ μ _ h σ H0 H1 sl rw_ _ fun x v μ1 H01 H11 e1 rw1 r1 ⟨a, ex, ⟨ys, hy⟩, k⟩ => by
    subst ex
    have ev := r1.val_of
    subst ev
    obtain ⟨vs, hv, _⟩ := rw1.atM hy
    refine ⟨.inl ⟨rfl, vs, SqL.of hv⟩, ?_⟩
    exact he ρ μ1 _ k σ H01 H11 (sl.mono e1) rw1 _ fun y u μ2 H02 H12 e2 rw2 r2 ⟨xs, hx, hz, k2⟩ => by
      obtain ⟨ws, hw, tw⟩ := rw2.atM hx
      exact ⟨a, ws, u, rfl, rfl, hw, Evl.sz_lt (by rw [tw.length]; exact hz), q .non .non _ _ _ (e1.trans e2) (rw2.setM hx (tw.append (.cons r2 .nil))) .non k2⟩
/-- xs[i] = e -/
def dSub (da di : DE) : DG := fun x ρ μ K => da ρ μ fun o μ1 => di ρ μ1 fun y μ2 => ∃ (a : Addr) (xs : List D) (i : Int) (j : Nat), o = .val (.ref a) ∧ y = .int i ∧ μ2 a = some (.lst xs) ∧ ixN xs.length i = some j ∧ K ρ (mup μ2 a (.lst (xs.set j x)))
theorem DtAll.set {H : Hp} {v : V} {d : D} (r : Dt H v d) : ∀ {vs : List V} {ds : List D} (j : Nat), DtAll H vs ds → DtAll H (vs.set j v) (ds.set j d)
  | _, _, _, .nil => .nil
  | _, _, 0, .cons _ t => .cons r t
  | _, _, j + 1, .cons q t => .cons q (DtAll.set r j t)
theorem lg_sub {ta ti : TE} {da di : DE} (ha : Lift ta da) (hi : Lift ti di) : LiftG (gSub ta ti rSetL) (dSub da di) := fun x ρ μ K h v σ H0 H1 r sl rw_ Q q =>
  ha ρ μ _ h σ H0 H1 sl rw_ _ fun o w μ1 H01 H11 e1 rw1 r1 k1 => hi ρ μ1 _ k1 σ H01 H11 (sl.mono e1) rw1 _ fun y z μ2 H02 H12 e2 rw2 r2 ⟨a, xs, i, j, eo, ey, hm, hj, k⟩ => by
    subst eo ey
    have ew := (r1.mono e2).val_of
    subst ew
    obtain ⟨vs, hv, t⟩ := rw2.atM hm
    rw [r2.int_of]
    exact ⟨a, vs, i, j, rfl, rfl, hv, by rw [t.length]; exact hj, q ρ _ σ _ _ (e1.trans e2) (sl.mono (e1.trans e2)) (rw2.setM hm (t.set (r.mono (e1.trans e2)) j)) k⟩

/-! ### loops -/
/-- a list or a tuple walked -/
def iSeq (K : PySem.W.Frag) (tl : TE) : TI := fun σ H R => tl σ H fun x H1 => (∃ a, x = .ref a ∧ (∃ xs, SqL K H1 a xs) ∧ R (Itl K a) H1) ∨ (∃ a, x = .ref a ∧ (∃ xs, SqT K H1 a xs) ∧ R (Itt K a) H1)
theorem pi_seq {X : Cx} {tg l : Expr} {tl : TE} (hl : PE X l tl) : PI X tg l (iSeq X.K tl) := by
  constructor
  intro pins s σ H R I h
  refine thn (hl.run pins s σ H _ I h) ?_
  rintro v s1 ⟨x, H1, I1, r1, ⟨a, rfl, ⟨xs, hq⟩, q⟩ | ⟨a, rfl, ⟨xs, hq⟩, q⟩⟩
  · cases r1
    obtain ⟨its, rv, p, hz⟩ := I1.list hq
    refine wpAny_pyIter_list p.isList ?_
    refine ⟨_, [s1.heap.objs.size], _, _, H1, rfl, I1.kept (t' := s1.toks) fun b o e => Heap.get?_push_of_some _ e, turn_list a _, ⟨_, Heap.get?_push_size _ rfl, rfl, rfl⟩, ?_, q⟩
    rintro b hb
    obtain rfl : b = s1.heap.objs.size := by simpa using hb
    exact I1.fpOk (Nat.le_refl _) (I1.hok.fresh (Nat.le_refl _))
  · cases r1
    obtain ⟨its, rv, p, hz⟩ := I1.tuple hq
    refine wpAny_pyIter_tuple (show s1.heap.IsTuple a its.toArray from p) ?_
    refine ⟨_, [s1.heap.objs.size], _, _, H1, rfl, I1.kept (t' := s1.toks) fun b o e => Heap.get?_push_of_some _ e, turn_tuple a _, ⟨_, Heap.get?_push_size _ rfl, rfl, rfl⟩, ?_, q⟩
    rintro b hb
    obtain rfl : b = s1.heap.objs.size := by simpa using hb
    exact I1.fpOk (Nat.le_refl _) (I1.hok.fresh (Nat.le_refl _))
/-- what walks items of data: while keep holds of the things that change, turn i gives the i-th -/
def WalkD (xs : List D) (keep : Mu → Prop) (H0 : Hp) (J : It) : Prop := ∃ (G : Hp → Prop) (Y : Nat → Hp → V → Hp → Prop), Walk J xs.length G Y ∧
  (∀ H0' H μ, Ex H0 H0' → Rw μ H0' H → keep μ → G H) ∧
  ∀ i v H H' H0' μ, i < xs.length → Ex H0 H0' → Rw μ H0' H → keep μ → Y i H v H' → ∃ H02 d, Ex H0' H02 ∧ Rw μ H02 H' ∧ xs[i]? = some d ∧ Dt H02 v d
theorem WalkD.mono {xs : List D} {keep : Mu → Prop} {H0 H0' : Hp} {J : It} (w : WalkD xs keep H0 J) (e : Ex H0 H0') : WalkD xs keep H0' J :=
  let ⟨G, Y, w1, w2, w3⟩ := w
  ⟨G, Y, w1, fun a H μ e2 => w2 a H μ (e.trans e2), fun i v H H' a μ hi e2 => w3 i v H H' a μ hi (e.trans e2)⟩
abbrev DI := Ro → Mu → (List D → (Mu → Prop) → Mu → Prop) → Prop
def LiftI (wi : TI) (di : DI) : Prop := ∀ ρ μ K, di ρ μ K → ∀ σ H0 H1, Sl ρ σ H0 → Rw μ H0 H1 → ∀ R : It → Hp → Prop,
  (∀ xs keep μ' H0' H1' J, Ex H0 H0' → Rw μ' H0' H1' → K xs keep μ' → WalkD xs keep H0' J → R J H1') → wi σ H1 R
theorem walkD_list {K' : PySem.W.Frag} {a : Addr} {x : D} {xs : List D} {keep : Mu → Prop} {H0 H1 : Hp} {μ : Mu} (r : Dt H0 (.ref a) x) (rw_ : Rw μ H0 H1) (hx : asL μ x = some xs) (hk : ∀ μ', keep μ' → asL μ' x = some xs) : (∃ vs, SqL K' H1 a vs) ∧ WalkD xs keep H0 (Itl K' a) := by
  obtain ⟨a', vs, ea, ha, t⟩ := asL_at r rw_ hx
  cases ea
  refine ⟨⟨vs, SqL.of ha⟩, fun H => ∃ ws, H a = some (.lst ws) ∧ ws.length = xs.length, fun i H v H' => H' = H ∧ ∃ ws, H a = some (.lst ws) ∧ ws[i]? = some v, ⟨fun i H hi hg => ?_, fun H hg => ?_, fun i H v H' hi hg y => ?_⟩, fun H0' H μ' e r' hk' => ?_, fun i v H H' H0' μ' hi e r' hk' y => ?_⟩
  · obtain ⟨ws, hw, hl⟩ := hg
    exact ⟨ws, ws[i]'(by rw [hl]; exact hi), SqL.of hw, List.getElem?_eq_getElem _⟩
  · obtain ⟨ws, hw, hl⟩ := hg
    exact ⟨ws, SqL.of hw, by rw [hl]; exact Nat.le_refl _⟩
  · obtain ⟨ws, hw, hl⟩ := hg
    exact ⟨y.1, ws, hw, y.2 ws (SqL.of hw)⟩
  · obtain ⟨a', ws, ea, hw, tw⟩ := asL_at (r.mono e) r' (hk μ' hk')
    cases ea
    exact ⟨ws, hw, tw.length⟩
  · obtain ⟨rfl, ws, hw, hv⟩ := y
    obtain ⟨a', ws', ea, hw', tw⟩ := asL_at (r.mono e) r' (hk μ' hk')
    cases ea
    rw [hw] at hw'
    cases hw'
    obtain ⟨d, hd, rd⟩ := tw.getV hv
    exact ⟨H0', d, exr _, r', hd, rd⟩
theorem walkD_tup {K' : PySem.W.Frag} {a : Addr} {vs : List V} {xs : List D} {H0 : Hp} (ha : H0 a = some (.tup vs)) (t : DtAll H0 vs xs) : WalkD xs (fun _ => True) H0 (Itt K' a) :=
  ⟨fun H => SqT K' H a vs, YAt vs, by rw [← t.length]; exact walk_tup, fun H0' H μ e r _ => SqT.of (r.ex _ _ (e _ _ ha)), fun i v H H' H0' μ hi e r _ y => by
    obtain ⟨rfl, hv⟩ := y
    obtain ⟨d, hd, rd⟩ := t.getV hv
    exact ⟨H0', d, exr _, r, hd, rd.mono e⟩⟩
def dSeqI (de : DE) : DI := fun ρ μ K => de ρ μ fun x μ1 => match x with
  | .tup xs => K xs (fun _ => True) μ1
  | .lst xs => K xs (fun _ => True) μ1
  | x => ∃ xs, asL μ1 x = some xs ∧ K xs (fun μ' => asL μ' x = some xs) μ1
theorem li_seq {K' : PySem.W.Frag} {te : TE} {de : DE} (h : Lift te de) : LiftI (iSeq K' te) (dSeqI de) := fun ρ μ K hk σ H0 H1 sl rw_ R q =>
  h ρ μ _ hk σ H0 H1 sl rw_ _ fun x v μ1 H01 H11 e1 rw1 r1 k => by
    split at k
    · rename_i xs
      obtain ⟨a, vs, rfl, ha, t⟩ := r1.tup_of
      exact .inr ⟨a, rfl, ⟨vs, SqT.of (rw1.ex _ _ ha)⟩, q xs _ μ1 H01 H11 _ e1 rw1 k (walkD_tup ha t)⟩
    · rename_i xs
      obtain ⟨a, vs, rfl, ha, t⟩ := r1.lst_of
      obtain ⟨h1, h2⟩ := walkD_list (K' := K') (keep := fun _ => True) (.lst ha t) rw1 rfl (fun _ _ => rfl)
      exact .inl ⟨a, rfl, h1, q xs _ μ1 H01 H11 _ e1 rw1 k h2⟩
    · obtain ⟨xs, hx, k⟩ := k
      obtain ⟨a, vs, rfl, ha, t⟩ := asL_at r1 rw1 hx
      obtain ⟨h1, h2⟩ := walkD_list (K' := K') r1 rw1 hx (fun _ z => z)
      exact .inl ⟨a, rfl, h1, q xs _ μ1 H01 H11 _ e1 rw1 k h2⟩
/-- lo, lo + 1, .. (n of them) -/
def rgD (lo : Int) (n : Nat) : List D := (List.range n).map fun i => D.int (lo + (i : Nat))
theorem rgD_length (lo : Int) (n : Nat) : (rgD lo n).length = n := by simp [rgD]
theorem rgD_get {lo : Int} {n i : Nat} (h : i < n) : (rgD lo n)[i]? = some (.int (lo + (i : Nat))) := by simp [rgD, h]
theorem walkD_rg {lo : Int} {n : Nat} {H0 : Hp} : WalkD (rgD lo n) (fun _ => True) H0 (Itr lo n) :=
  ⟨fun _ => True, YFn fun i => .int (lo + i), by rw [rgD_length]; exact walk_range, fun _ _ _ _ _ _ => True.intro, fun i v H H' H0' μ hi e r _ y => by
    obtain ⟨rfl, rfl⟩ := y
    rw [rgD_length] at hi
    exact ⟨H0', _, exr _, r, rgD_get hi, .int _⟩⟩
def dRg1 (da : DA) : DI := fun ρ μ K => da ρ μ fun xs μ1 => ∃ j : Int, xs = [.int j] ∧ -(2 ^ 62) ≤ j ∧ j < 2 ^ 62 ∧ K (rgD 0 j.toNat) (fun _ => True) μ1
theorem li_rg1 {ta : TA} {da : DA} (h : LiftA ta da) : LiftI (iRng1 ta) (dRg1 da) := fun ρ μ K hk σ H0 H1 sl rw_ R q =>
  h ρ μ _ hk σ H0 H1 sl rw_ _ fun xs us μ1 H01 H11 e1 rw1 r1 ⟨j, ej, h1, h2, k⟩ => by
    subst ej
    obtain ⟨u, rfl, r⟩ := vals_of_all r1
    rw [r.int_of]
    exact ⟨j, rfl, h1, h2, q _ _ μ1 H01 H11 _ e1 rw1 k walkD_rg⟩
def dRg2 (da : DA) : DI := fun ρ μ K => da ρ μ fun xs μ1 => ∃ i j : Int, xs = [.int i, .int j] ∧ (-(2 ^ 62) ≤ i ∧ i < 2 ^ 62 ∧ -(2 ^ 62) ≤ j ∧ j < 2 ^ 62) ∧ K (rgD i (j - i).toNat) (fun _ => True) μ1
theorem li_rg2 {ta : TA} {da : DA} (h : LiftA ta da) : LiftI (iRng2 ta) (dRg2 da) := fun ρ μ K hk σ H0 H1 sl rw_ R q =>
  h ρ μ _ hk σ H0 H1 sl rw_ _ fun xs us μ1 H01 H11 e1 rw1 r1 ⟨i, j, ej, h1, k⟩ => by
    subst ej
    obtain ⟨u, v, rfl, r, r'⟩ := vals_of_all2 r1
    rw [r.int_of, r'.int_of]
    exact ⟨i, j, rfl, h1, q _ _ μ1 H01 H11 _ e1 rw1 k walkD_rg⟩
/-- zip of two lists or two tuples of data -/
def pairsD (xs ys : List D) : List D := List.zipWith (fun x y => D.tup [x, y]) xs ys
theorem pairs_get {xs ys : List D} {i : Nat} {x y : D} (hx : xs[i]? = some x) (hy : ys[i]? = some y) : (pairsD xs ys)[i]? = some (.tup [x, y]) := by
  unfold pairsD
  rw [List.getElem?_zipWith, hx, hy]
def dZip (da : DA) : DI := fun ρ μ K => da ρ μ fun zs μ1 => match zs with
  | [.lst xs, .lst ys] => K (pairsD xs ys) (fun _ => True) μ1
  | [.tup xs, .tup ys] => xs.length = ys.length ∧ K (pairsD xs ys) (fun _ => True) μ1
  | _ => False
theorem pair_new {H0 H : Hp} {μ : Mu} {T : Addr} {u v : V} {x y : D} (r : Rw μ H0 H) (hT : H T = none) (rx : Dt H0 u x) (ry : Dt H0 v y) : ∃ H02, Ex H0 H02 ∧ Rw μ H02 (upd H T (.tup [u, v])) ∧ Dt H02 (.ref T) (.tup [x, y]) := by
  obtain ⟨e2, rw2⟩ := r.new (o := .tup [u, v]) hT
  exact ⟨_, e2, rw2, .tup upd_same (.cons (rx.mono e2) (.cons (ry.mono e2) .nil))⟩
theorem li_zip {K' : PySem.W.Frag} {ta : TA} {da : DA} (h : LiftA ta da) : LiftI (RZ.iZipA K' ta) (dZip da) := fun ρ μ K hk σ H0 H1 sl rw_ R q =>
  h ρ μ _ hk σ H0 H1 sl rw_ _ fun zs us μ1 H01 H11 e1 rw1 r1 k => by
    split at k
    · rename_i xs ys
      obtain ⟨u, v, rfl, r, r'⟩ := vals_of_all2 r1
      obtain ⟨a, vs, rfl, ha, ta⟩ := r.lst_of
      obtain ⟨b, ws, rfl, hb, tb⟩ := r'.lst_of
      refine ⟨a, b, vs, ws, rfl, .inl ⟨SqL.of (rw1.ex _ _ ha), SqL.of (rw1.ex _ _ hb), q _ _ μ1 H01 H11 _ e1 rw1 k ⟨_, _, walk_zip (xs := vs) (ys := ws) ?_, ?_, ?_⟩⟩⟩
      · rw [ta.length, tb.length]
        simp [pairsD]
      · intro H0' H μ' e r _
        exact ⟨SqL.of (r.ex _ _ (e _ _ ha)), SqL.of (r.ex _ _ (e _ _ hb))⟩
      · rintro i z H H' H0' μ' hi e r _ ⟨T, x, y, rfl, hT, rfl, hx, hy⟩
        obtain ⟨dx, hdx, rx⟩ := ta.getV hx
        obtain ⟨dy, hdy, ry⟩ := tb.getV hy
        obtain ⟨H02, e2, r2, rr⟩ := pair_new r hT (rx.mono e) (ry.mono e)
        exact ⟨H02, _, e2, r2, pairs_get hdx hdy, rr⟩
    · rename_i xs ys
      obtain ⟨hl, k⟩ := k
      obtain ⟨u, v, rfl, r, r'⟩ := vals_of_all2 r1
      obtain ⟨a, vs, rfl, ha, ta⟩ := r.tup_of
      obtain ⟨b, ws, rfl, hb, tb⟩ := r'.tup_of
      refine ⟨a, b, vs, ws, rfl, .inr ⟨SqT.of (rw1.ex _ _ ha), SqT.of (rw1.ex _ _ hb), q _ _ μ1 H01 H11 _ e1 rw1 k ⟨fun H => SqT K' H a vs ∧ SqT K' H b ws, YPair (fun i => vs[i]?) (fun i => ws[i]?), ⟨?_, ?_, ?_⟩, ?_, ?_⟩⟩⟩
      · intro i H hi g
        have hi' : i < vs.length ∧ i < ws.length := by
          simp [pairsD] at hi
          rw [ta.length, tb.length]
          omega
        exact ⟨vs, ws, vs[i]'hi'.1, ws[i]'hi'.2, g.1, g.2, by simp [hi'.1], by simp [hi'.2]⟩
      · intro H g
        refine ⟨vs, ws, g.1, g.2, ?_⟩
        simp [pairsD]
        rw [ta.length, tb.length]
        omega
      · rintro i H v H' hi g ⟨T, x, z, h1, h2, h3, h4, h5⟩
        exact ⟨T, x, z, h1, h2, h3, h4 vs g.1, h5 ws g.2⟩
      · intro H0' H μ' e r _
        exact ⟨SqT.of (r.ex _ _ (e _ _ ha)), SqT.of (r.ex _ _ (e _ _ hb))⟩
      · rintro i z H H' H0' μ' hi e r _ ⟨T, x, y, rfl, hT, rfl, hx, hy⟩
        obtain ⟨dx, hdx, rx⟩ := ta.getV hx
        obtain ⟨dy, hdy, ry⟩ := tb.getV hy
        obtain ⟨H02, e2, r2, rr⟩ := pair_new r hT (rx.mono e) (ry.mono e)
        exact ⟨H02, _, e2, r2, pairs_get hdx hdy, rr⟩
    · exact k.elim
/-- enumerate of a list of data -/
def enumD (xs : List D) : List D := (xs.zipIdx).map fun p => D.tup [.int (p.2 : Nat), p.1]
def dEnum (da : DA) : DI := fun ρ μ K => da ρ μ fun zs μ1 => ∃ xs, zs = [.lst xs] ∧ K (enumD xs) (fun _ => True) μ1
theorem li_enum {K' : PySem.W.Frag} {ta : TA} {da : DA} (h : LiftA ta da) : LiftI (iEnum K' ta) (dEnum da) := fun ρ μ K hk σ H0 H1 sl rw_ R q =>
  h ρ μ _ hk σ H0 H1 sl rw_ _ fun zs us μ1 H01 H11 e1 rw1 r1 ⟨xs, ez, k⟩ => by
    subst ez
    obtain ⟨u, rfl, r⟩ := vals_of_all r1
    obtain ⟨a, vs, rfl, ha, ta⟩ := r.lst_of
    refine ⟨a, vs, rfl, SqL.of (rw1.ex _ _ ha), q _ _ μ1 H01 H11 _ e1 rw1 k ⟨fun H => SqL K' H a vs, YPair (fun i => some (.int (i : Nat))) (fun i => vs[i]?), ?_, ?_, ?_⟩⟩
    · have e : (enumD xs).length = vs.length := by rw [ta.length]; simp [enumD]
      rw [e]
      exact walk_enum
    · intro H0' H μ' e r _
      exact SqL.of (r.ex _ _ (e _ _ ha))
    · rintro i z H H' H0' μ' hi e r _ ⟨T, x, y, rfl, hT, rfl, hx, hy⟩
      cases hx
      obtain ⟨dy, hdy, ry⟩ := ta.getV hy
      obtain ⟨H02, e2, r2, rr⟩ := pair_new r hT (.int _) (ry.mono e)
      exact ⟨H02, _, e2, r2, by simp [enumD, hdy], rr⟩

/-- the turns of a loop over data, one by one; keep: what has to hold of the things that change at each turn's start -/
def dLoop (keep : Mu → Prop) (g : DG) (db : DS) (E : DEnds) : List D → Ro → Mu → Prop
  | [], ρ, μ => keep μ ∧ E.nx ρ μ
  | x :: xs, ρ, μ => keep μ ∧ g x ρ μ fun ρ1 μ1 => db { E with nx := dLoop keep g db E xs, ct := dLoop keep g db E xs, bk := E.nx } ρ1 μ1
theorem dLoop_keep {keep : Mu → Prop} {g : DG} {db : DS} {E : DEnds} : ∀ {xs : List D} {ρ : Ro} {μ : Mu}, dLoop keep g db E xs ρ μ → keep μ
  | [], _, _, h => h.1
  | _ :: _, _, _, h => h.1
def dFor (di : DI) (g : DG) (db : DS) : DS := fun E ρ μ => di ρ μ fun xs keep μ1 => dLoop keep g db E xs ρ μ1
theorem get_drop {α : Type} {xs : List α} {i : Nat} {x : α} (h : xs[i]? = some x) : xs.drop i = x :: xs.drop (i + 1) := by
  obtain ⟨hi, rfl⟩ := List.getElem?_eq_some_iff.mp h
  exact List.drop_eq_getElem_cons hi
/-- the word of a data loop, turn i -/
def LoopW (H0 : Hp) (keep : Mu → Prop) (g : DG) (db : DS) (E : DEnds) (xs : List D) (i : Nat) (σ : L2.St) (H : Hp) : Prop := ∃ ρ μ H0', Ex H0 H0' ∧ Sl ρ σ H0' ∧ Rw μ H0' H ∧ dLoop keep g db E (xs.drop i) ρ μ
theorem ls_for {wi : TI} {di : DI} {tb : TS} {db : DS} {g : TG} {dg : DG} (hi : LiftI wi di) (hg : LiftG g dg) (hb : LiftS tb db) : LiftS (tFor wi g tb) (dFor di dg db) := fun E ρ μ h F σ H0 H1 sl rw_ l =>
  hi ρ μ _ h σ H0 H1 sl rw_ _ fun xs keep μ1 H01 H11 J e1 rw1 k ⟨G, Y, w1, w2, w3⟩ => by
    have l1 := l.mono e1
    refine for_it w1 (LoopW H01 keep dg db E xs) ⟨ρ, μ1, H01, exr _, sl.mono e1, rw1, k⟩ ?_ ?_ ?_
    · rintro i σ' H _ ⟨ρ', μ', H0', e, _, r', h'⟩
      exact w2 H0' H μ' e r' (dLoop_keep h')
    · rintro i v σ' H H' hi ⟨ρ', μ', H0', e, sl', r', h'⟩ y
      obtain ⟨H02, d, e2, r2, hd, rd⟩ := w3 i v H H' H0' μ' hi e r' (dLoop_keep h') y
      rw [get_drop hd] at h'
      refine hg d ρ' μ' _ h'.2 v σ' H02 H' rd (sl'.mono e2) r2 _ fun ρ1 μ2 σ1 H03 H13 e3 sl1 rw3 k1 => ?_
      have e03 := (e.trans e2).trans e3
      exact hb _ ρ1 μ2 k1 _ σ1 H03 H13 sl1 rw3 ⟨fun ρ' μ' σ' a b e4 sl' rw' k' => ⟨ρ', μ', a, e03.trans e4, sl', rw', k'⟩, fun d v μ' a b e4 => l1.rt d v μ' a b (e03.trans e4),
        fun ρ' μ' σ' a b e4 => l1.nx ρ' μ' σ' a b (e03.trans e4), fun ρ' μ' σ' a b e4 sl' rw' k' => ⟨ρ', μ', a, e03.trans e4, sl', rw', k'⟩⟩
    · rintro σ' H ⟨ρ', μ', H0', e, sl', r', h'⟩
      rw [List.drop_length] at h'
      exact l1.nx ρ' μ' σ' H0' H e sl' r' h'.2

/-! ### comprehensions -/
def wipeD (ρ : Ro) : List Nat → Ro
  | [] => ρ
  | v :: vs => (wipeD ρ vs).set v none
theorem Sl.wiped {ρ : Ro} {σ : L2.St} {H0 : Hp} (s : Sl ρ σ H0) : ∀ vs : List Nat, Sl (wipeD ρ vs) (wipe σ vs) H0
  | [] => s
  | v :: vs => by
    have ih := Sl.wiped s vs
    refine ⟨by simp [wipeD, wipe, ih.len], fun i d h => ?_⟩
    by_cases hi : v = i
    · subst hi
      have h' : ((wipeD ρ vs).set v none)[v]? = some (some d) := h
      by_cases hl : v < (wipeD ρ vs).length
      · rw [List.getElem?_set_self hl] at h'; cases h'
      · rw [List.getElem?_eq_none (by simpa using hl)] at h'; cases h'
    · have h' : ((wipeD ρ vs).set v none)[i]? = some (some d) := h
      rw [List.getElem?_set_ne hi] at h'
      obtain ⟨w, hw, r⟩ := ih.at_ i d h'
      exact ⟨w, by show ((wipe σ vs).set v none)[i]? = _; rw [List.getElem?_set_ne hi]; exact hw, r⟩
/-- slots that agree but at vs -/
def AgreeBut (vs : List Nat) (σ σ' : L2.St) : Prop := σ'.length = σ.length ∧ ∀ i, i ∉ vs → σ'[i]? = σ[i]?
theorem wipe_get (σ : L2.St) : ∀ (vs : List Nat) (i : Nat), (wipe σ vs)[i]? = if i ∈ vs then (if i < σ.length then some none else none) else σ[i]?
  | [], i => by simp [wipe]
  | v :: vs, i => by
    show ((wipe σ vs).set v none)[i]? = _
    by_cases hi : v = i
    · subst hi
      by_cases hl : v < σ.length
      · rw [List.getElem?_set_self (by rw [wipe_length]; exact hl)]; simp [hl]
      · rw [List.getElem?_eq_none (by simp [wipe_length]; omega)]; simp [hl]
    · rw [List.getElem?_set_ne hi, wipe_get σ vs i]
      have : (i = v) = False := by simp; exact fun z => hi z.symm
      simp [this]
theorem wipe_agree {vs : List Nat} {σ σ' : L2.St} (h : AgreeBut vs σ σ') : wipe σ' vs = wipe σ vs := by
  apply List.ext_getElem?
  intro i
  rw [wipe_get, wipe_get, h.1]
  split
  · rfl
  · rename_i hn
    exact h.2 i hn
theorem agree_wipe (σ : L2.St) (vs : List Nat) : AgreeBut vs σ (wipe σ vs) := ⟨wipe_length σ vs, fun i hi => by rw [wipe_get]; simp [hi]⟩
theorem AgreeBut.trans {vs : List Nat} {a b c : L2.St} (h : AgreeBut vs a b) (g : AgreeBut vs b c) : AgreeBut vs a c := ⟨g.1.trans h.1, fun i hi => (g.2 i hi).trans (h.2 i hi)⟩
/-- a target that stores at vs alone -/
def LiftGW (vs : List Nat) (g : TG) (dg : DG) : Prop := ∀ x ρ μ K, dg x ρ μ K → ∀ v σ H0 H1, Dt H0 v x → Sl ρ σ H0 → Rw μ H0 H1 → ∀ Q : L2.St → Hp → Prop,
  (∀ ρ' μ' σ' H0' H1', AgreeBut vs σ σ' → Ex H0 H0' → Sl ρ' σ' H0' → Rw μ' H0' H1' → K ρ' μ' → Q σ' H1') → g v σ H1 Q
def LiftGsW (vs : List Nat) (g : TGs) (dg : DGs) : Prop := ∀ xs ρ μ K, dg xs ρ μ K → ∀ us σ H0 H1, DtAll H0 us xs → Sl ρ σ H0 → Rw μ H0 H1 → ∀ Q : L2.St → Hp → Prop,
  (∀ ρ' μ' σ' H0' H1', AgreeBut vs σ σ' → Ex H0 H0' → Sl ρ' σ' H0' → Rw μ' H0' H1' → K ρ' μ' → Q σ' H1') → g us σ H1 Q
theorem agree_set {vs : List Nat} {σ : L2.St} {i : Nat} {v : Option V} (h : i ∈ vs) : AgreeBut vs σ (σ.set i v) := ⟨by simp, fun j hj => by rw [List.getElem?_set_ne]; rintro rfl; exact hj h⟩
theorem lgw_name {vs : List Nat} {i : Nat} (hi : i ∈ vs) : LiftGW vs (gName i) (dName i) := fun x ρ μ K h v σ H0 H1 r sl rw_ Q q => q _ μ _ H0 H1 (agree_set hi) (exr _) (sl.set i r) rw_ h
theorem lgsw_nil {vs : List Nat} : LiftGsW vs gNil dGNil := fun xs ρ μ K ⟨e, k⟩ us σ H0 H1 r sl rw_ Q q => by
  subst e
  cases r
  exact ⟨rfl, q ρ μ σ H0 H1 ⟨rfl, fun _ _ => rfl⟩ (exr _) sl rw_ k⟩
theorem lgsw_cons {vs : List Nat} {g : TG} {dg : DG} {gs : TGs} {dgs : DGs} (h1 : LiftGW vs g dg) (h2 : LiftGsW vs gs dgs) : LiftGsW vs (gCons g gs) (dGCons dg dgs) := fun xs ρ μ K ⟨x, r, e, k⟩ us σ H0 H1 rr sl rw_ Q q => by
  subst e
  cases rr with
  | cons r1 r2 => exact ⟨_, _, rfl, h1 x ρ μ _ k _ σ H0 H1 r1 sl rw_ _ fun ρ1 μ1 σ1 H01 H11 a1 e1 sl1 rw1 k1 => h2 r ρ1 μ1 K k1 _ σ1 H01 H11 (r2.mono e1) sl1 rw1 Q fun ρ' μ' σ' H0' H1' a2 e2 => q ρ' μ' σ' H0' H1' (a1.trans a2) (e1.trans e2)⟩
theorem lgw_tup {vs : List Nat} {K' : PySem.W.Frag} {n : Nat} {gs : TGs} {dgs : DGs} (h2 : LiftGsW vs gs dgs) : LiftGW vs (gTup K' n gs) (dGTup n dgs) := fun x ρ μ K ⟨xs, e, hn, k⟩ v σ H0 H1 r sl rw_ Q q => by
  subst e
  obtain ⟨a, ws, rfl, ha, t⟩ := r.tup_of
  exact ⟨a, ws, rfl, SqT.of (rw_.ex _ _ ha), by rw [t.length]; exact hn, h2 xs ρ μ K k ws σ H0 H1 t sl rw_ Q q⟩
def mdel (μ : Mu) (a : Addr) : Mu := fun b => if b = a then none else μ b
theorem mdel_mup {μ : Mu} {a : Addr} {m : MO} (h : μ a = none) : mdel (mup μ a m) a = μ := by
  funext b
  unfold mdel mup
  split
  · rename_i e; rw [e, h]
  · rfl
theorem mup_mup {μ : Mu} {a : Addr} {m n : MO} : mup (mup μ a m) a n = mup μ a n := by
  funext b
  unfold mup
  split <;> rfl
theorem Rw.freeze {μ : Mu} {H0 H1 : Hp} {a : Addr} {xs : List D} (r : Rw μ H0 H1) (hm : μ a = some (.lst xs)) : ∃ H0', Ex H0 H0' ∧ Rw (mdel μ a) H0' H1 ∧ Dt H0' (.ref a) (.lst xs) := by
  obtain ⟨h0, vs, hv, t⟩ := r.mu a _ hm
  have e : Ex H0 (upd H0 a (.lst vs)) := Ex.new h0
  refine ⟨_, e, ⟨⟨fun b u h => ?_, r.sys, fun b m h => ?_⟩, Amb.mono _ _ e r.am⟩, .lst upd_same (t.mono e)⟩
  · by_cases hb : b = a
    · subst hb; rw [upd_same] at h; cases h; exact hv
    · rw [upd_ne hb] at h; exact r.ex b u h
  · have hb : b ≠ a := by
      rintro rfl
      simp [mdel] at h
    have h' : μ b = some m := by simpa [mdel, hb] using h
    obtain ⟨q1, q2⟩ := r.mu b m h'
    refine ⟨by rw [upd_ne hb]; exact q1, ?_⟩
    cases m with
    | lst ds => obtain ⟨ws, z, tz⟩ := q2; exact ⟨ws, z, tz.mono e⟩
    | ins C fs => obtain ⟨dx, fvs, z, kz, tz⟩ := q2; exact ⟨dx, fvs, z, kz, tz.mono e⟩
def dCompL (keep : Mu → Prop) (g : DG) (dt : DT) (de : DE) (ρ : Ro) (a : Addr) (K : KD) : List D → List D → Mu → Prop
  | [], acc, μ => keep μ ∧ μ a = some (.lst acc) ∧ K (.lst acc) (mdel μ a)
  | x :: xs, acc, μ => keep μ ∧ g x ρ μ fun ρ1 μ1 => dt ρ1 μ1 fun b μ2 => if b = true then de ρ1 μ2 fun y μ3 => μ3 a = some (.lst acc) ∧ acc.length < 100000 ∧ dCompL keep g dt de ρ a K xs (acc ++ [y]) (mup μ3 a (.lst (acc ++ [y])))
    else dCompL keep g dt de ρ a K xs acc μ2
theorem dCompL_keep {keep : Mu → Prop} {g : DG} {dt : DT} {de : DE} {ρ : Ro} {a : Addr} {K : KD} : ∀ {xs acc : List D} {μ : Mu}, dCompL keep g dt de ρ a K xs acc μ → keep μ
  | [], _, _, h => h.1
  | _ :: _, _, _, h => h.1
def dComp (di : DI) (g : DG) (dt : DT) (de : DE) (vs : List Nat) : DE := fun ρ μ K => di ρ μ fun xs keep μ1 => ∀ a, μ1 a = none → dCompL keep g dt de (wipeD ρ vs) a K xs [] (mup μ1 a (.lst []))
def CompW (H0 : Hp) (keep : Mu → Prop) (g : DG) (dt : DT) (de : DE) (ρ : Ro) (a : Addr) (K : KD) (xs : List D) (i : Nat) (H : Hp) : Prop := ∃ acc μ H0', Ex H0 H0' ∧ Rw μ H0' H ∧ dCompL keep g dt de ρ a K (xs.drop i) acc μ
theorem l_comp {wi : TI} {di : DI} {g : TG} {dg : DG} {tt : TT} {dt : DT} {te : TE} {de : DE} {vs : List Nat} (hi : LiftI wi di) (hg : LiftGW vs g dg) (ht : LiftT tt dt) (he : Lift te de) : Lift (tLc wi g tt te vs) (dComp di dg dt de vs) := fun ρ μ K h σ H0 H1 sl rw_ Q q =>
  hi ρ μ _ h σ H0 H1 sl rw_ _ fun xs keep μ1 H01 H11 J e1 rw1 k ⟨G, Y, w1, w2, w3⟩ => fun a ha => by
    obtain ⟨hm, rw2⟩ := rw1.newM (vs := []) (ds := []) ha .nil
    have slw := (sl.mono e1).wiped vs
    refine lc_it w1 (CompW H01 keep dg dt de (wipeD ρ vs) a K xs) ⟨[], _, H01, exr _, rw2, k a hm⟩ ?_ ?_ ?_
    · rintro i H _ ⟨acc, μ', H0', e, r', h'⟩
      exact w2 H0' H μ' e r' (dCompL_keep h')
    · rintro i v H H' hi ⟨acc, μ', H0', e, r', h'⟩ y
      obtain ⟨H02, d, e2, r2, hd, rd⟩ := w3 i v H H' H0' μ' hi e r' (dCompL_keep h') y
      rw [get_drop hd] at h'
      refine hg d _ μ' _ h'.2 v (wipe σ vs) H02 H' rd (slw.mono (e.trans e2)) r2 _ fun ρ1 μ2 σ1 H03 H13 ag e3 sl1 rw3 k1 => ?_
      refine ⟨(wipe_agree ((agree_wipe σ vs).trans ag)), ?_⟩
      refine ht ρ1 μ2 _ k1 σ1 H03 H13 sl1 rw3 _ fun b μ3 H04 H14 e4 rw4 k2 => ?_
      have e04 := ((e.trans e2).trans e3).trans e4
      cases b with
      | false => exact ⟨acc, μ3, H04, e04, rw4, k2⟩
      | true =>
        show te σ1 H14 _
        refine he ρ1 μ3 _ k2 σ1 H04 H14 (sl1.mono e4) rw4 _ fun y u μ4 H05 H15 e5 rw5 r5 ⟨h1, h2, h3⟩ => ?_
        obtain ⟨ws, hw, tw⟩ := rw5.atM h1
        exact ⟨ws, hw, Evl.sz_lt (by rw [tw.length]; exact h2), acc ++ [y], _, H05, e04.trans e5, rw5.setM h1 (tw.append (.cons r5 .nil)), h3⟩
    · rintro H ⟨acc, μ', H0', e, r', h'⟩
      rw [List.drop_length] at h'
      obtain ⟨_, h1, h2⟩ := h'
      obtain ⟨H02, e2, r2, rd⟩ := r'.freeze h1
      exact q _ _ _ H02 H ((e1.trans e).trans e2) r2 rd h2
end DL
namespace DL
open PySem PySem.Spec PyProof.Rows L2
open Evl (Ex ex_rd ex_l ex_t fresh_back)

/-- at a: an exception of the class at C, its own dict at d -/
def exk (C : Addr) (d : Option Addr) (a : Addr) : HO := .ext fun h => ∃ (oe : Obj) (vs : Array Value), h.get? a = some oe ∧ Zc (.ref C) d oe ∧ oe.data = .fields vs
theorem exk_ok {P : Program} {w : World} {H : Hp} {h : Heap} {C a : Addr} {d : Option Addr} {oe : Obj} {vs : Array Value} (e : h.get? a = some oe) (z : Zc (.ref C) d oe) (dd : oe.data = .fields vs) : ObjOk P w H h a (exk C d a) :=
  ⟨⟨oe, vs, e, z, dd⟩, ⟨oe, e⟩, fun _ _ ⟨o, ws, q1, q2, q3⟩ k => ⟨o, ws, k _ q1, q2, q3⟩⟩
theorem exk_at {P : Program} {w : World} {H : Hp} {h : Heap} {C a : Addr} {d : Option Addr} (hok : HOk P w H h) (e : H a = some (exk C d a)) : ∃ (oe : Obj) (vs : Array Value), h.get? a = some oe ∧ Zc (.ref C) d oe ∧ oe.data = .fields vs := (hok a _ e).1

/-! ### an exception as a value -/
def tExc (t : L2.St → Hp → XK → Prop) : TE := fun σ H Q => t σ H fun cls d H' => ∃ C, cls = .ref C ∧ ∀ a, H' a = none → Q (.ref a) (upd H' a (exk C d a))
theorem pe_exc {X : Cx} {e : Expr} {t : L2.St → Hp → XK → Prop} (he : PMk X e t) : PE X e (tExc t) := by
  constructor
  intro pins s σ H Q I h
  refine wpAny_mono (he pins s σ H _ I h) ?_ (fun _ _ z => z)
  rintro u s' ⟨a, oe, vs, sI, H', cls, d, rfl, J, k, hn, ha, hz, hd, _, na, os, ag, _, C, rfl, q⟩
  refine ⟨.ref a, upd H' a (exk C d a), J.call' (ch := []) os ?_ ?_ ag (fun b z => absurd z (by simp)), rfl, q a na⟩
  · exact (Un.laidN k hn na)
  · exact HOk.laidN J.hok k na (exk_ok ha hz hd)

/-! ### making: an own class over AddError (a class of the package, over ValueError), its __init__: AddError.__init__(self, text); self.f = f -/
section
variable {X : Cx} {e : Expr} {es : List Expr} {ta : TA} {p1 p2 pos : Pos}
structure BaseC (K : PySem.W.Frag) (mg : Str → Option Value) (B : Addr) : Prop where
  mgB : mg "AddError" = some (.ref B)
  sp : PySem.W.specialIn K (.ref B) "__getattribute__" = some (some (.builtin "type.__getattribute__"))
  rd : PySem.W.readsIn K B (.type "type") = true
  fc : PySem.W.findCls K (.ref B) (.type "type") "__init__" = some (.val (.builtin "ValueError.__init__"))
theorem pe_binit {pl : Sem Bool} {B : Addr} (T : BaseC X.K X.mg B) (hg : Gl X "AddError") (ha : PA X (e :: es) ta)
    (hc : eval (.Call (.Attribute (.Name "AddError" p1) "__init__" p2) (e :: es) [] pos) X.env = (do
      let ov ← eval (.Name "AddError" p1) X.env
      standAt p2.atName
      let (f, first) ← holding [ov] (getMethod ov "__init__" pl)
      callWith pos f first (backTo pos (starEach (e :: es) X.env)) (backToKw pos (keywordEach [] X.env))) := by rfl)
    (he : starEach (e :: es) X.env = (false, eval e X.env) :: starEach es X.env := by rfl) (hpl : (backTo pos (starEach es X.env)).any (·.1) = false := by rfl) :
    PE X (.Call (.Attribute (.Name "AddError" p1) "__init__" p2) (e :: es) [] pos) (tVeI X.K ta) := by
  constructor
  intro pins s σ H Q I h
  refine PySem.W.methodCall_KW (ld_glob I hg T.mgB ?_) hc
  refine PySem.W.method_cls I.kIn T.sp (PySem.W.cls_value I.kIn T.rd T.fc (by decide +kernel) ?_)
  show wpAny _ _ (callWith pos (Value.builtin "ValueError.__init__") [] (backTo pos (starEach (e :: es) X.env)) []) _ _ _
  refine PyProof.Rows.callWith_method1 (thn (ha.run pos pins _ σ H _ (I.tok _) h) ?_) he hpl
  rintro us s1 ⟨vs, H1, I1, r1, a, C, ws, rfl, hl, T', ea, q⟩
  cases r1 with
  | @cons _ u0 _ ur ra rw' =>
    obtain rfl : u0 = Value.ref a := ra
    refine oinit_ok T' I1 ea ?_ fun s' J => ⟨.non, H1, J, rfl, q⟩
    have := Paired.length rw'
    rw [sizeLine_eq]
    omega
end
/-- what __init__ of such a class does -/
def spErr (K : PySem.W.Frag) (C : Addr) (f : Str) : Sp := fun vs H Q _ => ∃ (a : Addr) (v : V), vs = [.ref a, v] ∧ OexC K C ∧ PySem.W.findIn K (.ref C) f = some none ∧ H a = some (exo a C none) ∧
  ∀ dx, H dx = none → dx ≠ a → Q .non (upd (upd H dx (exd dx [(f, v)])) a (exo a C (some dx)))
theorem err_heap {H1 : Hp} {a dx : Addr} {C : Addr} {f : Str} {v : V} (hd : dx ≠ a) (ha : H1 a = none) : upd (del (upd (upd (upd H1 a (exo a C none)) dx (exd dx [(f, v)])) a (exo a C (some dx))) a) dx (.xd [(f, v)]) = upd H1 dx (.xd [(f, v)]) := by
  funext b
  by_cases h1 : b = dx
  · rw [h1, upd_same, upd_same]
  · rw [upd_ne h1, upd_ne h1]
    by_cases h2 : b = a
    · rw [h2, del_same, ha]
    · rw [del_ne h2, upd_ne h2, upd_ne h1, upd_ne h2]
structure ErrC (K : PySem.W.Frag) (mg : Str → Option Value) (x f : Str) (C fI : Addr) : Prop where
  gC : mg x = some (.ref C)
  oex : OexC K C
  iC : PySem.W.findIn K (.ref C) "__init__" = some (some (.ref fI))
  tI : PySem.W.typeIn K (.ref fI) = some (.type "function")
  noF : PySem.W.findIn K (.ref C) f = some none
variable [AM : Amb]
/-- how an exception is wished for: its class, its fields -/
abbrev KX := Addr → List (Str × D) → Mu → Prop
abbrev DM := Ro → Mu → KX → Prop
def LiftM (t : L2.St → Hp → XK → Prop) (dm : DM) : Prop := ∀ ρ μ K, dm ρ μ K → ∀ σ H0 H1, Sl ρ σ H0 → Rw μ H0 H1 → ∀ Q : XK,
  (∀ C fs μ' dd fvs H0' H1', Ex H0 H0' → Rw μ' H0' H1' → H1' dd = some (.xd fvs) → fvs.map (·.1) = fs.map (·.1) → DtAll H0' (fvs.map (·.2)) (fs.map (·.2)) → K C fs μ' → Q (.ref C) (some dd) H1') → t σ H1 Q
def dErr (C : Addr) (f : Str) (da : DA) : DM := fun ρ μ K => da ρ μ fun xs μ1 => ∃ x : D, xs = [x] ∧ K C [(f, x)] μ1
/-- something new that is no data -/
theorem Rw.side {μ : Mu} {H0 H1 : Hp} {p : Addr} {o : HO} (r : Rw μ H0 H1) (hp : H1 p = none) : Rw μ H0 (upd H1 p o) := by
  refine ⟨⟨fun a u h => ?_, r.sys.upd (fun φ z => by rw [hp] at z; cases z), fun a m h => ?_⟩, r.am⟩
  · have e := r.ex a u h
    rw [upd_ne (ne_of_none e hp)]
    exact e
  · obtain ⟨q1, q2⟩ := r.mu a m h
    refine ⟨q1, ?_⟩
    have ha : a ≠ p := by
      rintro rfl
      cases m with
      | lst ds => obtain ⟨_, z, _⟩ := q2; rw [hp] at z; cases z
      | ins C fs => obtain ⟨_, _, z, _⟩ := q2; rw [hp] at z; cases z
    cases m with
    | lst ds => obtain ⟨ws, z, tz⟩ := q2; exact ⟨ws, by rw [upd_ne ha]; exact z, tz⟩
    | ins C fs => obtain ⟨dx, fvs, z, kz, tz⟩ := q2; exact ⟨dx, fvs, by rw [upd_ne ha]; exact z, kz, tz⟩
theorem lm_err {K' : PySem.W.Frag} {mg : Str → Option Value} {x f : Str} {C fI : Addr} {ta : TA} {da : DA} (T : ErrC K' mg x f C fI) (h : LiftA ta da) : LiftM (tMkO C (spErr K' C f) [] ta) (dErr C f da) := fun ρ μ K hk σ H0 H1 sl rw_ Q q =>
  h ρ μ _ hk σ H0 H1 sl rw_ _ fun xs us μ1 H01 H11 e1 rw1 r1 ⟨y, ey, k⟩ => by
    subst ey
    obtain ⟨u, rfl, r⟩ := vals_of_all r1
    refine ⟨by show 1 ≤ 1000; decide, fun a ha => ⟨a, u, rfl, T.oex, T.noF, upd_same, fun dx hdx hne => ⟨rfl, dx, [(f, u)], upd_same, ?_, ?_, ?_⟩⟩⟩
    · rw [upd_ne hne, upd_same]
    · rw [upd_ne hne] at hdx
      exact hdx
    · rw [err_heap hne ha]
      rw [upd_ne hne] at hdx
      exact q C [(f, y)] μ1 dx [(f, u)] H01 _ e1 (rw1.side hdx) upd_same rfl (.cons r .nil) k
/-- raise -/
def XOk (E : XK) (K : KX) : Prop := ∀ C fs μ' dd fvs H0' H1', Rw μ' H0' H1' → H1' dd = some (.xd fvs) → fvs.map (·.1) = fs.map (·.1) → DtAll H0' (fvs.map (·.2)) (fs.map (·.2)) → K C fs μ' → E (.ref C) (some dd) H1'
def dRaise (K : KX) (dm : DM) : DS := fun _ ρ μ => dm ρ μ K
theorem ls_raise {E : XK} {K : KX} {t : L2.St → Hp → XK → Prop} {dm : DM} (hx : XOk E K) (h : LiftM t dm) : LiftS (fun _ σ H => t σ H fun cls d H' => (fun cls d (_ : L2.St) H' => E cls d H') cls d σ H') (dRaise K dm) := fun _ ρ μ hk F σ H0 H1 sl rw_ l =>
  h ρ μ _ hk σ H0 H1 sl rw_ _ fun C fs μ' dd fvs H0' H1' e r h1 h2 h3 k => hx C fs μ' dd fvs H0' H1' r h1 h2 h3 k

/-- the reading of such a class's __init__ -/
theorem rd_init {K : PySem.W.Frag} {C : Addr} {f : Str} {txt : Str} {vs : List V} {H : Hp} {Q : VK} {E : XK} (h : spErr K C f vs H Q E) :
    (tSeq (tDrop (tVeI K (tCons (tVar 0) (tCons (tC (.str txt)) tNil)))) (tOst K f (tVar 0) (tVar 1))) { nx := fun _ H' => Q .non H', rt := Q } (start ["self", f] vs) H := by
  obtain ⟨a, v, rfl, T1, hno, ha, k⟩ := h
  refine ⟨_, rfl, a, C, [.str txt], rfl, by show 1 ≤ 1000; decide, T1, ha, ?_⟩
  exact ⟨_, rfl, _, rfl, a, C, rfl, T1, hno, .inl ⟨ha, fun dx hdx hne => k dx hdx hne⟩⟩

/-! ### caught, and kept -/
/-- data that is an exception of the class at C with the fields fs -/
def excP (C : Addr) (fs : List (Str × D)) : Hp → V → Prop := fun H v => ∃ (a dd : Addr) (fvs : List (Str × V)), v = .ref a ∧ H a = some (exk C (some dd) a) ∧ H dd = some (.xd fvs) ∧ fvs.map (·.1) = fs.map (·.1) ∧ DtAll H (fvs.map (·.2)) (fs.map (·.2))
abbrev D.exc (C : Addr) (fs : List (Str × D)) : D := .any (excP C fs)
theorem excP_mono {C : Addr} {fs : List (Str × D)} : ∀ H1 H2 u, Ex H1 H2 → excP C fs H1 u → excP C fs H2 u := fun H1 H2 u e ⟨a, dd, fvs, q1, q2, q3, q4, q5⟩ => ⟨a, dd, fvs, q1, e _ _ q2, e _ _ q3, q4, q5.mono e⟩
theorem Inv.adopt {X : Cx} {pins : List (Addr × Obj)} {σ : L2.St} {H : Hp} {s : Shared} {a : Addr} {φ : Heap → Prop} (I : L2.Inv X pins σ H s) (hn : H a = none) (h0 : X.s_0.heap.get? a = none) (hl : a ≠ X.env.locals)
    (hc : ∀ x c, X.env.cells.lookup x = some c → c ≠ a) (hp : ∀ p ∈ X.pn ++ pins, p.1 ≠ a) (ok : ObjOk X.prog X.w (upd H a (.ext φ)) s.heap a (.ext φ)) : L2.Inv X pins σ (upd H a (.ext φ)) s := by
  have ne : ∀ {b : Addr} {o : Obj}, X.s_0.heap.get? b = some o → b ≠ a := fun {b o} e z => by rw [z, h0] at e; cases e
  refine ⟨I.ok, I.os, I.bare, ⟨I.base.keep, I.base.slot, fun b o e n hx => ?_, I.base.there, fun b xs e => ?_, fun b o u e => ?_, fun b ps e => ?_⟩, I.loc, I.cell, ?_, fun x c e => ?_, fun p hm => ?_, fun b o e => ?_, I.len⟩
  · rw [upd_ne (ne e)]
    exact I.base.free b o e n hx
  · have q := I.base.tups b xs e
    rw [upd_ne (ne_of_none q hn)]
    exact q
  · have q := I.base.frzs b o u e
    rw [upd_ne (ne_of_none q hn)]
    exact q
  · obtain ⟨m, q⟩ := I.base.tbls b ps e
    exact ⟨m, by rw [upd_ne (ne_of_none q hn)]; exact q⟩
  · rw [upd_ne (Ne.symm hl)]
    exact I.free
  · rw [upd_ne (hc x c e)]
    exact I.freeC x c e
  · obtain ⟨q1, q2, q3, q4, q5⟩ := I.pin p hm
    exact ⟨q1, by rw [upd_ne (hp p hm)]; exact q2, q3, q4, q5⟩
  · by_cases hb : b = a
    · subst hb
      rw [upd_same] at e
      cases e
      exact ok
    · rw [upd_ne hb] at e
      exact (I.hok b o e).stay (fun c v _ q => q) (fun c q => by rw [upd_ne (ne_of_none q hn)]; exact q) fun c xs q => by rw [upd_ne (ne_of_none q hn)]; exact q
/-- try: .. except x as n: y = n: the exception stands at y behind it (slot i is n's, slot j is y's) -/
def wKeep (K : PySem.W.Frag) (c : Value) (i j : Nat) (Wo : WX) (F : Ends) : WX := fun cls d σ H =>
  ∃ b, PySem.W.exmOne K cls c = some b ∧ (b = true → ∀ a, H a = none → ∃ C, cls = .ref C ∧ F.nx (((σ.set i (some (.ref a))).set j (some (.ref a))).set i none) (upd H a (exk C d a))) ∧ (b = false → Wo cls d σ H)
section
variable {X : Cx} {x n y : Str} {c : Value} {i j : Nat} {body : List Stmt} {np nn py sp pos pos' : Pos} {tb : WX → TS} {Wo : WX}
theorem ps_try_keep (hs : X.stack = X.env :: X.outer) (hf : X.env.frame = some X.env.locals) (hN : X.N.Nodup) (hi : X.N[i]? = some n) (hln : X.env.kindOf n = some .local) (hj : X.N[j]? = some y) (hly : X.env.kindOf y = some .local) (hex : X.ex = []) (hc : Names X x c) (tk : Takes X Wo)
    (hb : ∀ (W : WX) (pn : List (Addr × Obj)) (xe : Value → Shared → Prop), Takes (X.tr pn xe) W → PassesOwn (model X.prog X.w) X.A X.env xe → PSs (X.tr pn xe) body (tb W))
    (hd1 : (n == ("__debug__" : Str)) = false := by decide) (hd2 : (n == ("__classdict__" : Str)) = false := by decide) (hsw : ∀ a pn, swapsWith (.Name n nn) (some (.Name y py)) sp.line (X.suite a pn).env = pure false := by intro _ _; rfl) :
    PS X (.Try body [.ExceptHandler (some (.Name x np)) (some n) [.Assign [.Name y py] (.Name n nn) sp] pos'] [] [] pos) (fun F σ H => tb (wKeep X.K c i j Wo F) F σ H) := by
  constructor
  intro pins s σ H F I h
  have ok := I.ok
  have hfr : X.A.frames = some (X.env :: X.outer) := by rw [ok.frames, hs]
  refine wpAny_Try_except (wpAny_mono ((hb (wKeep X.K c i j Wo F) (X.pn ++ pins) (fun e s₁ => wpAny (model X.prog X.w) X.A (noteFrame e X.env) (fun _ s₂ => wpAny (model X.prog X.w) X.A (setFlight e none) (fun _ s₃ =>
    wpAny (model X.prog X.w) X.A (handleBy e X.env [.ExceptHandler (some (.Name x np)) (some n) [.Assign [.Name y py] (.Name n nn) sp] pos']) (SP X pins F) X.xe s₃) X.xe s₂) X.xe s₁) ?_ PassesOwn.looking).run [] s σ H F (I.toTry _) h) ?_ (fun _ _ z => z))
  · rintro u s' ⟨a, B, sI, pins', σ', H', cls, d, rfl, J', nb, up, sky, na, os, ag, b, hb1, hyes, hno⟩
    have J : L2.Inv X pins σ' H' sI := J'.ofTry ok
    have sky2 : Sky B (X.env :: X.outer) a (Zc cls d) X.env.locals s'.heap := by rw [← hs]; exact sky
    refine (?_ : wpAny (model X.prog X.w) X.A (noteFrame (.ref a) X.env) _ _ _)
    refine Sky.land Zc.steady hfr hf sky2 fun h3 fl3 up3 => ?_
    have J3 : L2.Inv X pins σ' H' { s' with heap := h3 } := J.landed nb fl3.1 (up.trans up3) os ag
    obtain ⟨oe3, vs3, he3, hz3, hd3⟩ := fl3.there
    have nfr : a ∉ frs (X.env :: X.outer) := fun hm => by
      obtain ⟨_, o', e', hnf⟩ := fl3.2.2.1.mem hm
      rw [he3] at e'
      cases e'
      exact hnf _ hd3
    have nL : a ≠ X.env.locals := fun z => nfr (List.mem_filterMap.mpr ⟨X.env, List.mem_cons_self, by rw [hf, z]⟩)
    have nF : a ∉ X.fs := fun hm => by
      obtain ⟨e, he, q⟩ := List.mem_filterMap.mp hm
      exact nfr (List.mem_filterMap.mpr ⟨e, List.mem_cons_of_mem _ he, q⟩)
    have new : sI.heap.get? a = none := by
      cases e : sI.heap.get? a with
      | none => rfl
      | some o =>
        have z := nb a o e (by rw [hs]; exact nfr)
        rw [fl3.2.1] at z
        cases z
    have old : X.s_0.heap.get? a = none := by
      cases e : X.s_0.heap.get? a with
      | none => rfl
      | some o =>
        obtain ⟨o', z⟩ := J.base.there a o e (by rw [hex]; simp)
        rw [new] at z
        cases z
    have nP : ∀ p ∈ X.pn ++ pins, p.1 ≠ a := fun p hp z => by
      have q := (J.pin p hp).1
      rw [z, new] at q
      cases q
    have S3 := J3.suite he3 hd3 na nL nF
    refine wpAny_handleBy_cons (codeAny_handlers_test ?_) (by intro q; cases q)
    have LT : PySem.W.Looks (model X.prog X.w) h3 (typeOf (.ref a)) cls := fun A Q E s k q => wpAny_typeOf_ref (k _ _ he3) (by rw [hz3.1]; exact q)
    have LM := PySem.W.exm_one (M := model X.prog X.w) (J3.kIn) LT hb1
    have test : ∀ {Q : Value → Shared → Prop} {E : Value → Shared → Prop}, Q c { s' with heap := h3 } → wpAny (model X.prog X.w) (X.A.mark (some (.ref a))) (eval (.Name x np) X.env) Q E { s' with heap := h3 } := fun {Q E} q => by
      obtain ⟨hg, hdbg, hm | ⟨hm, hv, hnn⟩⟩ := hc
      · exact ld_glob (X := X.suite a ((a, oe3) :: (X.pn ++ pins))) S3 hg hm q hdbg
      · exact ld_blt (X := X.suite a ((a, oe3) :: (X.pn ++ pins))) S3 hg hm hv q hnn hdbg
    refine test (LM.here ?_)
    cases b with
    | true =>
      obtain ⟨C, rfl, yes⟩ := hyes rfl a na
      refine codeAny_handlers_suite_as (HandSPX.lands_againZ fl3 fun h4 fl4 up4 => ?_)
      have J4 : L2.Inv X pins σ' H' { s' with heap := h4 } := J.landed nb fl4.1 ((up.trans up3).trans up4) os ag
      obtain ⟨oe4, vs4, he4, hz4, hd4⟩ := fl4.there
      have S4 := J4.suite he4 hd4 na nL nF
      refine store_ok (X := X.suite a ((a, oe4) :: (X.pn ++ pins))) (v := .ref a) S4 hN hi (.inl hln) rfl (fun s5 S5 => ?_) (.inr hln)
      have hil : i < σ'.length := by
        have := (List.getElem?_eq_some_iff.mp hi).1
        rw [J.len]
        exact this
      have sp1 : PS (X.suite a ((a, oe4) :: (X.pn ++ pins))) (.Assign [.Name y py] (.Name n nn) sp) (tAsg (tVar i) (gName j)) := ps_set (i := j) hN hj (.inl hly) (pe_var (i := i) hi (.inl hln) hd1 hd2) (hsw _ _) (.inr hly)
      have su : PSs (X.suite a ((a, oe4) :: (X.pn ++ pins))) [.Assign [.Name y py] (.Name n nn) sp] (tAsg (tVar i) (gName j)) := pss_one sp1
      refine wpAny_mono (su.run [] s5 _ H' { nx := fun σ6 H6 => σ6 = (σ'.set i (some (.ref a))).set j (some (.ref a)) ∧ H6 = H', rt := fun _ _ => False } S5 ⟨.ref a, by rw [List.getElem?_set_self hil], rfl, rfl⟩) (fun f s6 hsp => ?_) (fun _ _ z => False.elim z)
      cases f with
      | next =>
        obtain ⟨σ6, H6, S6, rfl, rfl⟩ := hsp
        have S7 : L2.Inv X ((a, oe4) :: pins) ((σ'.set i (some (.ref a))).set j (some (.ref a))) H6 s6 := ⟨ok, S6.os, S6.bare, S6.base, S6.loc, S6.cell, S6.free, S6.freeC, fun p hp => S6.pin p (by
          rw [List.append_nil]
          rcases List.mem_append.mp hp with z | z
          · exact List.mem_cons_of_mem _ (List.mem_append_left _ z)
          · rcases List.mem_cons.mp z with z | z
            · rw [z]; exact List.mem_cons_self
            · exact List.mem_cons_of_mem _ (List.mem_append_right _ z)), S6.hok, S6.len⟩
        refine gone_ok S7 hN hi hln fun s7 S8 => ?_
        have ha7 := S8.pin (a, oe4) (List.mem_append_right _ List.mem_cons_self)
        have J8 : L2.Inv X pins (((σ'.set i (some (.ref a))).set j (some (.ref a))).set i none) H6 s7 := ⟨ok, S8.os, S8.bare, S8.base, S8.loc, S8.cell, S8.free, S8.freeC, fun p hp => S8.pin p (by
          rcases List.mem_append.mp hp with z | z
          · exact List.mem_append_left _ z
          · exact List.mem_append_right _ (List.mem_cons_of_mem _ z)), S8.hok, S8.len⟩
        refine ⟨_, _, Inv.adopt J8 na old nL (fun z c' e q => ?_) nP (exk_ok ha7.1 hz4 hd4), yes⟩
        obtain ⟨v, o, ho, hdd⟩ := J8.cell z c' e
        rw [q, ha7.1] at ho
        cases ho
        rw [hd4] at hdd
        cases hdd
      | brk => obtain ⟨_, _, _, z⟩ := hsp; exact z.elim
      | cont => obtain ⟨_, _, _, z⟩ := hsp; exact z.elim
      | ret u => obtain ⟨_, _, _, _, _, z⟩ := hsp; exact z.elim
    | false =>
      refine (?_ : wpAny _ X.A (handleBy (.ref a) X.env []) _ _ _)
      refine wpAny_handleBy_nil ?_
      obtain ⟨_, _, _, oe, vs, T, oT, ts', he, hz, hd, h1, hr⟩ := id fl3
      unfold PySem.passOn
      refine wpAny_bind (wpAny_field he hd h1 ?_)
      rw [if_neg (show ¬ ((Value.ref T == Value.none) = true) from by simp)]
      have fin : wpAny (model X.prog X.w) X.A (setFlight (.ref a) X.env.frame) (fun _ s4 => wpAny (model X.prog X.w) X.A (throw (.ref a) : Sem Flow) (SP X pins F) X.xe s4) X.xe { s' with heap := h3 } := by
        rw [hf]
        exact HandSPX.setFlight_upZ fl3 fun h4 hh4 up4 => wpAny_throw (tk _ _ ⟨a, B, sI, pins, σ', H', cls, d, rfl, J, nb, (up.trans up3).trans up4, .inr (.inr (by rw [hs]; exact hh4)), na, os, ag, hno rfl⟩)
      first
        | exact wpAny_bind (wpAny_pure (wpAny_bind fin))
        | exact wpAny_bind fin
  · rintro f s1 hsp
    cases f with
    | next => exact let ⟨σ1, H1, J1, q1⟩ := hsp; wpAny_execs_nil ⟨σ1, H1, J1.ofTry ok, q1⟩
    | brk => exact let ⟨σ1, H1, J1, q1⟩ := hsp; ⟨σ1, H1, J1.ofTry ok, q1⟩
    | cont => exact let ⟨σ1, H1, J1, q1⟩ := hsp; ⟨σ1, H1, J1.ofTry ok, q1⟩
    | ret u => exact let ⟨v, σ1, H1, J1, r1, q1⟩ := hsp; ⟨v, σ1, H1, J1.ofTry ok, r1, q1⟩
end
end DL
namespace DL
open PySem PySem.Spec PyProof.Rows L2
open Evl (Ex ex_rd ex_l ex_t fresh_back)

/-! ### what a def promises over data -/
abbrev DSp := List D → Mu → KD → KX → Prop
def spD (dsp : DSp) : Sp := fun vs H Q E => ∃ (ds : List D) (μ : Mu) (H0 : Hp) (K : KD) (Y : KX), dsp ds μ K Y ∧ DtAll H0 vs ds ∧ Rw0 μ H0 H ∧
  (∀ d v μ' H0' H', Ex H0 H0' → Rw0 μ' H0' H' → Dt H0' v d → K d μ' → Q v H') ∧
  (∀ C fs μ' dd fvs H0' H', Ex H0 H0' → Rw0 μ' H0' H' → H' dd = some (.xd fvs) → fvs.map (·.1) = fs.map (·.1) → DtAll H0' (fvs.map (·.2)) (fs.map (·.2)) → Y C fs μ' → E (.ref C) (some dd) H')
def dlen (dsp : DSp) (n : Nat) : Prop := ∀ ds μ K Y, dsp ds μ K Y → ds.length = n
theorem spD_len {dsp : DSp} {n : Nat} (h : dlen dsp n) : ∀ vs H Q E, spD dsp vs H Q E → vs.length = n := fun vs H Q E ⟨ds, μ, H0, K, Y, q, t, _⟩ => by rw [t.length]; exact h ds μ K Y q
theorem spD_imp {dsp dsp' : DSp} (h : ∀ ds μ K Y, dsp' ds μ K Y → dsp ds μ K Y) : ∀ vs H Q E, spD dsp' vs H Q E → spD dsp vs H Q E := fun vs H Q E ⟨ds, μ, H0, K, Y, q, r⟩ => ⟨ds, μ, H0, K, Y, h _ _ _ _ q, r⟩
def startD (N : List Str) (ds : List D) : Ro := ds.map some ++ List.replicate (N.length - ds.length) none
theorem sl_start {N : List Str} {vs : List V} {ds : List D} {H0 : Hp} (t : DtAll H0 vs ds) : Sl (startD N ds) (L2.start N vs) H0 := by
  refine ⟨by simp [startD, L2.start, t.length], fun i d h => ?_⟩
  unfold startD at h
  unfold L2.start
  by_cases hi : i < ds.length
  · rw [List.getElem?_append_left (by simpa using hi), List.getElem?_map] at h
    rw [List.getElem?_append_left (by simpa [t.length] using hi), List.getElem?_map]
    cases e : ds[i]? with
    | none => rw [e] at h; cases h
    | some x =>
      rw [e] at h
      cases h
      obtain ⟨v, hv, r⟩ := t.get e
      exact ⟨v, by rw [hv]; rfl, r⟩
  · rw [List.getElem?_append_right (by simpa using hi)] at h
    rw [List.getElem?_replicate] at h
    split at h <;> cases h
/-- the ambient at a def's entry -/
@[reducible] def ambAt (H0 : Hp) : Amb := ⟨fun H => Ex H0 H, fun _ _ e h => h.trans e⟩
/-- a body over data gives the body over the heap -/
theorem body_of {t : TS} {dsp : DSp} {N : List Str} {E : XK} (hb : ∀ (AM : Amb) (Y : KX), XOk E Y → ∃ ds, LiftS t ds ∧ ∀ xs μ K, dsp xs μ K Y → ds { nx := fun _ μ' => K .non μ', rt := K } (startD N xs) μ)
    {vs : List V} {H : Hp} {Q : VK} (h : spD dsp vs H Q E) : t { nx := fun _ H' => Q .non H', rt := Q } (L2.start N vs) H := by
  obtain ⟨xs, μ, H0, K, Y, q, tt, rw0, kq, kx⟩ := h
  letI : Amb := ambAt H0
  obtain ⟨ds, ls, hd⟩ := hb (ambAt H0) Y (fun C fs μ' dd fvs H0' H' r h1 h2 h3 k => kx C fs μ' dd fvs H0' H' r.am r.toRw0 h1 h2 h3 k)
  exact ls _ _ _ (hd xs μ K q) _ _ H0 H (sl_start tt) ⟨rw0, exr _⟩ ⟨fun ρ μ' σ H0' H' e _ r k => kq .non .non μ' H0' H' e r.toRw0 .non k, fun d v μ' H0' H' e r rr k => kq d v μ' H0' H' e rr.toRw0 r k, fun _ _ _ _ _ _ _ _ k => k.elim, fun _ _ _ _ _ _ _ _ k => k.elim⟩
section
variable {P : Program} {w : World} {K : PySem.W.Frag} {mg : Str → Option Value} {base : Heap}
/-- a def that raises nothing -/
theorem fn0D {x qual : Str} {st : Stmt} {f : Addr} {fd : FuncData} {N ps : List Str} {k : Nat} {dsp : DSp} (F : Fun K x qual st f fd) (S : FnScope N ps (defScope st)) (len : dlen dsp ps.length)
    (hb : ∀ (cdv : Value) (A : Around) (outer : List Env) (s : Shared) (H : Hp) (E : XK), Room k (A.deeper (envOfC qual (defScope st) s.heap.objs.size f cdv)) →
      ∃ t, PSs (cxOf CX0 P w K mg base N qual (defScope st) f cdv A outer s H E).nox (defBody st) t ∧ ∀ (AM : Amb) (Y : KX), ∃ ds, LiftS t ds ∧ ∀ xs μ K, dsp xs μ K Y → ds { nx := fun _ μ' => K .non μ', rt := K } (startD N xs) μ) :
    FnOk P w K mg base CX0 (k + 1) f fd ps (spD dsp) :=
  F.ok S (spD_len len) fun cdv A outer s H vs Q E hr h => let ⟨t, h1, h2⟩ := hb cdv A outer s H E hr; ⟨t, h1, body_of (fun AM Y _ => h2 AM Y) h⟩
/-- a def that may raise -/
theorem fnXD {x qual : Str} {st : Stmt} {f : Addr} {fd : FuncData} {N ps : List Str} {k : Nat} {dsp : DSp} (F : Fun K x qual st f fd) (S : FnScope N ps (defScope st)) (len : dlen dsp ps.length)
    (hb : ∀ (cdv : Value) (A : Around) (outer : List Env) (s : Shared) (H : Hp) (E : XK), Room k (A.deeper (envOfC qual (defScope st) s.heap.objs.size f cdv)) →
      ∃ t, PSs (cxOf (L2.CX P w) P w K mg base N qual (defScope st) f cdv A outer s H E) (defBody st) t ∧ ∀ (AM : Amb) (Y : KX), XOk E Y → ∃ ds, LiftS t ds ∧ ∀ xs μ K, dsp xs μ K Y → ds { nx := fun _ μ' => K .non μ', rt := K } (startD N xs) μ) :
    FnOk P w K mg base (L2.CX P w) (k + 1) f fd ps (spD dsp) :=
  F.okX S (spD_len len) fun cdv A outer s H vs Q E hr h => let ⟨t, h1, h2⟩ := hb cdv A outer s H E hr; ⟨t, h1, body_of h2 h⟩
end

/-! ### calls -/
section
variable [AM : Amb]
theorem XOk.never {E : XK} : XOk E (fun _ _ _ => False) := fun _ _ _ _ _ _ _ _ _ _ _ k => k.elim
def dCall (dsp : DSp) (Y : KX) (da : DA) : DE := fun ρ μ K => da ρ μ fun xs μ1 => dsp xs μ1 K Y
theorem l_call {dsp : DSp} {E : XK} {Y : KX} {t : TA} {da : DA} (hx : XOk E Y) (h : LiftA t da) : Lift (tCall (spD dsp) [] E t) (dCall dsp Y da) := fun ρ μ K hk σ H0 H1 sl rw_ Q q =>
  h ρ μ _ hk σ H0 H1 sl rw_ _ fun xs us μ1 H01 H11 e1 rw1 r1 k => by
    show spD dsp (us ++ []) H11 Q E
    rw [List.append_nil]
    exact ⟨xs, μ1, H01, K, Y, k, r1, rw1.toRw0, fun d v μ' H0' H' e r rd kk => q d v μ' H0' H' (e1.trans e) ⟨r, Amb.mono _ _ e rw1.am⟩ rd kk, fun C fs μ' dd fvs H0' H' e r h1 h2 h3 kk => hx C fs μ' dd fvs H0' H' ⟨r, Amb.mono _ _ e rw1.am⟩ h1 h2 h3 kk⟩
/-- within a try's body -/
def XOkS (W : WX) (Y : Ro → KX) : Prop := ∀ ρ σ C fs μ' dd fvs H0' H1', Sl ρ σ H0' → Rw μ' H0' H1' → H1' dd = some (.xd fvs) → fvs.map (·.1) = fs.map (·.1) → DtAll H0' (fvs.map (·.2)) (fs.map (·.2)) → Y ρ C fs μ' → W (.ref C) (some dd) σ H1'
def dCallS (dsp : DSp) (Y : Ro → KX) (da : DA) : DE := fun ρ μ K => da ρ μ fun xs μ1 => dsp xs μ1 K (Y ρ)
theorem l_callS {dsp : DSp} {W : WX} {Y : Ro → KX} {t : TA} {da : DA} (hx : XOkS W Y) (h : LiftA t da) : Lift (tCallS (spD dsp) (WE W) t) (dCallS dsp Y da) := fun ρ μ K hk σ H0 H1 sl rw_ Q q =>
  h ρ μ _ hk σ H0 H1 sl rw_ _ fun xs us μ1 H01 H11 e1 rw1 r1 k =>
    ⟨xs, μ1, H01, K, Y ρ, k, r1, rw1.toRw0, fun d v μ' H0' H' e r rd kk => q d v μ' H0' H' (e1.trans e) ⟨r, Amb.mono _ _ e rw1.am⟩ rd kk, fun C fs μ' dd fvs H0' H' e r h1 h2 h3 kk => hx ρ σ C fs μ' dd fvs H0' H' (sl.mono (e1.trans e)) ⟨r, Amb.mono _ _ e rw1.am⟩ h1 h2 h3 kk⟩
end
theorem rw_conv (A B : Amb) {μ : Mu} {H0 H1 : Hp} (r : @Rw A μ H0 H1) (h : @Amb.P B H0) : @Rw B μ H0 H1 := @Rw.mk B μ H0 H1 (@Rw.toRw0 A μ H0 H1 r) h
theorem link_conv (A B : Amb) {H0 : Hp} {E : DEnds} {F : Ends} (l : @Link A H0 E F) (h : ∀ H, Ex H0 H → @Amb.P A H) : @Link B H0 E F :=
  @Link.mk B H0 E F (fun ρ μ σ a b e s r k => @Link.nx A H0 E F l ρ μ σ a b e s (rw_conv B A r (h a e)) k) (fun d v μ a b e r rr k => @Link.rt A H0 E F l d v μ a b e r (rw_conv B A rr (h a e)) k)
    (fun ρ μ σ a b e s r k => @Link.bk A H0 E F l ρ μ σ a b e s (rw_conv B A r (h a e)) k) (fun ρ μ σ a b e s r k => @Link.ct A H0 E F l ρ μ σ a b e s (rw_conv B A r (h a e)) k)
/-- try: .. except x as n: y = n, over data -/
def dTryKeep (K : PySem.W.Frag) (c : Value) (i j : Nat) (db : (Ro → KX) → DS) : DS := fun E ρ μ => db (fun ρ' C fs μ' => PySem.W.exmOne K (.ref C) c = some true ∧ i < ρ'.length ∧ E.nx ((ρ'.set j (some (D.exc C fs))).set i none) μ') E ρ μ
theorem ls_tryKeep [AM : Amb] {K : PySem.W.Frag} {c : Value} {i j : Nat} {Wo : WX} {tb : WX → TS} {db : (Ro → KX) → DS} (hij : i ≠ j) (hb : ∀ (A' : Amb) (W : WX) (Y : Ro → KX), XOkS W Y → LiftS (tb W) (db Y)) :
    LiftS (fun F σ H => tb (wKeep K c i j Wo F) F σ H) (dTryKeep K c i j db) := by
  intro E ρ μ hk F σ H0 H1 sl rw_ l
  have up : ∀ H, Ex H0 H → Amb.P H := fun H e => Amb.mono _ _ e rw_.am
  refine @hb (ambAt H0) (wKeep K c i j Wo F) _ ?_ E ρ μ hk F σ H0 H1 sl (rw_conv AM (ambAt H0) rw_ (exr H0)) (link_conv AM (ambAt H0) l up)
  rintro ρ' σ' C fs μ' dd fvs H0' H1' sl' r h1 h2 h3 ⟨he, hi, k⟩
  refine ⟨true, he, fun _ a ha => ⟨C, rfl, ?_⟩, fun z => by cases z⟩
  have h0a : H0' a = none := fresh_back r.ex ha
  -- the exception and its dict become data
  have hdd0 : H0' dd = none ∨ H0' dd = some (.xd fvs) := by
    cases e : H0' dd with
    | none => exact .inl rfl
    | some o =>
      have z := r.ex _ _ e
      rw [h1] at z
      exact .inr z.symm
  have hne : dd ≠ a := fun z => by rw [z, ha] at h1; cases h1
  have e1 : Ex H0' (upd H0' dd (.xd fvs)) := fun b u hb => by
    by_cases hbd : b = dd
    · subst hbd
      rw [upd_same]
      rcases hdd0 with z | z
      · rw [z] at hb; cases hb
      · rw [z] at hb; exact hb
    · rw [upd_ne hbd]; exact hb
  have h1a : upd H0' dd (.xd fvs) a = none := by rw [upd_ne (Ne.symm hne)]; exact h0a
  have e2 : Ex (upd H0' dd (.xd fvs)) (upd (upd H0' dd (.xd fvs)) a (exk C (some dd) a)) := Ex.new h1a
  have e12 := e1.trans e2
  have hmu : ∀ b m, μ' b = some m → b ≠ dd ∧ b ≠ a := fun b m hm => by
    obtain ⟨_, q2⟩ := r.mu b m hm
    refine ⟨fun z => ?_, fun z => ?_⟩
    · subst z
      cases m with
      | lst ds => obtain ⟨_, q, _⟩ := q2; rw [h1] at q; cases q
      | ins C fs => obtain ⟨_, _, q, _⟩ := q2; rw [h1] at q; cases q
    · subst z
      cases m with
      | lst ds => obtain ⟨_, q, _⟩ := q2; rw [ha] at q; cases q
      | ins C fs => obtain ⟨_, _, q, _⟩ := q2; rw [ha] at q; cases q
  have rw2 : Rw0 μ' (upd (upd H0' dd (.xd fvs)) a (exk C (some dd) a)) (upd H1' a (exk C (some dd) a)) := by
    refine ⟨fun b u hb => ?_, r.sys.upd (fun φ z => by rw [ha] at z; cases z), fun b m hm => ?_⟩
    · by_cases hba : b = a
      · subst hba; rw [upd_same] at hb ⊢; exact hb
      · rw [upd_ne hba] at hb ⊢
        by_cases hbd : b = dd
        · subst hbd; rw [upd_same] at hb; cases hb; exact h1
        · rw [upd_ne hbd] at hb; exact r.ex b u hb
    · obtain ⟨n1, n2⟩ := hmu b m hm
      obtain ⟨q1, q2⟩ := r.mu b m hm
      refine ⟨by rw [upd_ne n2, upd_ne n1]; exact q1, ?_⟩
      cases m with
      | lst ds => obtain ⟨ws, z, tz⟩ := q2; exact ⟨ws, by rw [upd_ne n2]; exact z, tz.mono e12⟩
      | ins C fs => obtain ⟨dx, gs, z, kz, tz⟩ := q2; exact ⟨dx, gs, by rw [upd_ne n2]; exact z, kz, tz.mono e12⟩
  have hD : Dt (upd (upd H0' dd (.xd fvs)) a (exk C (some dd) a)) (.ref a) (D.exc C fs) := .any ⟨a, dd, fvs, rfl, upd_same, by rw [upd_ne hne, upd_same], h2, h3.mono e12⟩ excP_mono
  have hr : Ex H0 H0' := @Rw.am (ambAt H0) _ _ _ r
  refine l.nx _ μ' _ _ _ (hr.trans e12) ?_ ⟨rw2, Amb.mono _ _ (hr.trans e12) rw_.am⟩ k
  have s1 := (sl'.mono e12).set j hD
  refine ⟨by simp [sl'.len], fun m d hm => ?_⟩
  by_cases him : i = m
  · subst him
    rw [List.getElem?_set_self (by simpa using hi)] at hm
    cases hm
  · rw [List.getElem?_set_ne him] at hm ⊢
    obtain ⟨v, hv, rv⟩ := s1.at_ m d hm
    refine ⟨v, ?_, rv⟩
    by_cases hjm : j = m
    · subst hjm
      rw [List.getElem?_set] at hv ⊢
      simpa using hv
    · rw [List.getElem?_set_ne hjm] at hv ⊢
      rw [List.getElem?_set_ne him]
      exact hv
end DL
namespace DL
open PySem PySem.Spec PyProof.Rows L2
open Evl (Ex ex_rd ex_l ex_t fresh_back)

/-! ### defs that are run where no repr is under way -/
structure FnG (P : Program) (w : World) (K : PySem.W.Frag) (mg : Str → Option Value) (base : Heap) (CX : CXT) (k : Nat) (f : Addr) (fd : FuncData) (ps : List Str) (sp : Sp) : Prop where
  len : ∀ vs H Q E, sp vs H Q E → vs.length = ps.length
  go : ∀ (A : Around) (outer : List Env) (s : Shared) (H : Hp) (args : Args) (us : List Value) (vs : List V) (Q : VK) (E : XK), A.guards = some [] → Room k A → Env0 P w K mg base A outer s H → BindsTo s fd args (ps.zip us) →
    Vals vs us → sp vs H Q E → codeAny (model P w) A (.call (.ref f) args) (CR CX outer P w H s Q E) s
section
variable {P : Program} {w : World} {K : PySem.W.Frag} {mg : Str → Option Value} {base : Heap} {CX : CXT} {k : Nat} {f : Addr} {fd : FuncData} {ps : List Str} {sp : Sp}
theorem FnG.of (F : FnOk P w K mg base CX k f fd ps sp) : FnG P w K mg base CX k f fd ps sp := ⟨F.len, fun A outer s H args us vs Q E _ => F.run A outer s H args us vs Q E⟩
theorem FnG.mono {j : Nat} (F : FnG P w K mg base CX j f fd ps sp) (h : j ≤ k) : FnG P w K mg base CX k f fd ps sp := ⟨F.len, fun A outer s H args us vs Q E hg hr => F.go A outer s H args us vs Q E hg (hr.mono h)⟩
/-- a def by its body, where no repr is under way -/
theorem fnG {x qual : Str} {st : Stmt} {N : List Str} (F : Fun K x qual st f fd) (S : FnScope N ps (defScope st)) (len : ∀ vs H Q E, sp vs H Q E → vs.length = ps.length)
    (hbody : ∀ (cdv : Value) (A : Around) (outer : List Env) (s : Shared) (H : Hp) (vs : List V) (Q : VK) (E : XK), A.guards = some [] → Room k (A.deeper (envOfC qual (defScope st) s.heap.objs.size f cdv)) → sp vs H Q E →
      ∃ t, PSs (cxOf CX P w K mg base N qual (defScope st) f cdv A outer s H E) (defBody st) t ∧ t { nx := fun _ H' => Q .non H', rt := Q } (L2.start N vs) H) : FnG P w K mg base CX (k + 1) f fd ps sp := by
  obtain ⟨oc, od, kV, doc, pm, an, cdv, ct, osl, rfl, lk, hcd⟩ := F.ex
  refine ⟨len, fun A outer s H args us vs Q E hg hr e0 hb r hsp => ?_⟩
  have keep : ∀ b o, base.get? b = some o → s.heap.get? b = some o := fun b o e => (e0.bs b o e).1
  have KX := e0.mod.kin.keeps keep
  refine codeAny_call_function hr.depth (KX _ _ lk) rfl S.co S.gen rfl (PySem.W.codeRec_of KX hcd) (hb _ _ _ _ (wpAny_newFunctionEnv_cells S.kind ?_ ?_))
  · rintro ⟨n, v⟩ hy
    rcases S.par n (List.of_mem_zip hy).1 with q | q
    · exact .inl q
    · exact .inr ⟨q, PySem.W.cellsFrom_some _ _ _ (.inl q)⟩
  · rintro env rfl s1 x
    refine ⟨(e0.mod.nolimit.keeps keep).keeps x.toInCall.keep, codeAny_func ?_⟩
    obtain ⟨t, ht, hq⟩ := hbody cdv A outer s H vs Q E hg (hr.deeper _) hsp
    refine wpAny_mono (ht.run [] s1 _ H _ (inv_start S hr.hd e0 (len _ _ _ _ hsp) r x) hq) ?_ (fun _ _ z => z)
    rintro fl s' hs
    cases fl with
    | ret u => exact let ⟨v, σ', H', J, rv, q⟩ := hs; ⟨v, H', J.os, J.bare, J.base, J.hok, rv, q⟩
    | next => exact let ⟨σ', H', J, q⟩ := hs; ⟨V.non, H', J.os, J.bare, J.base, J.hok, rfl, q⟩
    | brk => exact let ⟨_, _, _, q⟩ := hs; q.elim
    | cont => exact let ⟨_, _, _, q⟩ := hs; q.elim
/-- over data, nothing raised -/
theorem fnGD {x qual : Str} {st : Stmt} {N : List Str} {dsp : DSp} (F : Fun K x qual st f fd) (S : FnScope N ps (defScope st)) (len : dlen dsp ps.length)
    (hb : ∀ (cdv : Value) (A : Around) (outer : List Env) (s : Shared) (H : Hp) (E : XK), A.guards = some [] → Room k (A.deeper (envOfC qual (defScope st) s.heap.objs.size f cdv)) →
      ∃ t, PSs (cxOf CX0 P w K mg base N qual (defScope st) f cdv A outer s H E).nox (defBody st) t ∧ ∀ (AM : Amb) (Y : KX), ∃ ds, LiftS t ds ∧ ∀ xs μ K, dsp xs μ K Y → ds { nx := fun _ μ' => K .non μ', rt := K } (startD N xs) μ) :
    FnG P w K mg base CX0 (k + 1) f fd ps (spD dsp) :=
  fnG F S (spD_len len) fun cdv A outer s H vs Q E hg hr h => let ⟨t, h1, h2⟩ := hb cdv A outer s H E hg hr; ⟨t, h1.nox, body_of (fun AM Y _ => h2 AM Y) h⟩
end
section
variable {X : Cx} {CX : CXT} {k : Nat} {f : Addr} {fd : FuncData} {ps : List Str} {sp : Sp} {E : XK} {x : Str} {p pos : Pos} {e : Expr} {es : List Expr} {t : TA}
theorem run_g {pins : List (Addr × Obj)} {σ : L2.St} {H : Hp} {s : Shared} {Q : VK} {us : List Value} {vs : List V} (F : FnG X.prog X.w X.K X.mg X.base CX k f fd ps sp) (hG : X.A.guards = some []) (hr : Room k X.A) (hb : Binds X.K fd ps []) (hx : Passes CX X E)
    (I : L2.Inv X pins σ H s) (r : Vals vs us) (h : sp vs H Q E) : wpAny (model X.prog X.w) X.A (call (.ref f) us) (EP X pins σ Q) X.xe s := by
  have hl : us.length = ps.length := by rw [← r.length]; exact F.len _ _ _ _ h
  have hb' := hb s us I.kIn (by rw [List.append_nil]; exact hl)
  rw [List.append_nil] at hb'
  refine wpAny_call (codeAny_mono (F.go X.A X.stack s H ⟨us, []⟩ us vs Q E hG hr I.env0 hb' r h) ?_)
  rintro r s' hq
  cases r with
  | error e => exact hx pins σ H s e s' I hq
  | ok fl =>
    cases fl with
    | ret u => exact I.after hq
    | next => exact False.elim hq
    | brk => exact False.elim hq
    | cont => exact False.elim hq
theorem pe_callG (F : FnG X.prog X.w X.K X.mg X.base CX k f fd ps sp) (hG : X.A.guards = some []) (hr : Room k X.A) (hg : Gl X x) (hm : X.mg x = some (.ref f)) (hk : PySem.W.keepIn X.K (.ref f) = true) (hb : Binds X.K fd ps []) (hx : Passes CX X E)
    (ha : PA X (e :: es) t) (hdb : (x == ("__debug__" : Str)) = false := by decide) (he : starEach (e :: es) X.env = (false, eval e X.env) :: starEach es X.env := by rfl) (hpl : (backTo pos (starEach es X.env)).any (·.1) = false := by rfl) :
    PE X (.Call (.Name x p) (e :: es) [] pos) (tCall sp [] E t) := by
  constructor
  intro pins s σ H Q I h
  refine wpAny_Call_Name_kw (ld_glob I hg hm ?_ hdb)
  refine PySem.W.callWith_K (h₀ := X.base) I.ok.mod.kin hk (thn (ha.run pos pins s σ H _ I h) ?_) he hpl
  rintro us s1 ⟨vs, H1, I1, r, q⟩
  exact ⟨I1.kIn, run_g F hG hr hb hx I1 r (by rw [List.append_nil] at q; exact q)⟩
theorem pe_callG0 (F : FnG X.prog X.w X.K X.mg X.base CX k f fd ps sp) (hG : X.A.guards = some []) (hr : Room k X.A) (hg : Gl X x) (hm : X.mg x = some (.ref f)) (hk : PySem.W.keepIn X.K (.ref f) = true) (hb : Binds X.K fd ps []) (hx : Passes CX X E)
    (hdb : (x == ("__debug__" : Str)) = false := by decide) : PE X (.Call (.Name x p) [] [] pos) (tCall sp [] E tNil) := by
  constructor
  intro pins s σ H Q I h
  exact wpAny_Call_Name_kw (ld_glob I hg hm (PySem.W.callWith_K0 I.kIn hk (run_g (us := []) F hG hr hb hx I .nil h)) hdb)
end

/-! ### repr -/
section
variable [AM : Amb]
def rRepr : List V → Hp → VK → Prop := fun xs H Q => ∃ v μ H0 d p, xs = [v] ∧ Dt H0 v d ∧ Rw0 μ H0 H ∧ Vw μ d p ∧ p.showable = true ∧ p.depth ≤ 60 ∧ p.shown.length ≤ sizeLine ∧ Q (.str p.shown) H
omit AM in
theorem call_reprD {X : Cx} (hG : X.A.guards = some []) (hu : X.A.units + 64 < cLine) : CallR X (.builtin "repr") rRepr := by
  rintro pins s σ H xs us Q I r ⟨v, μ, H0, d, p, rfl, rd, rw_, hv, hs, hd, hz, q⟩
  letI : Amb := ⟨fun _ => True, fun _ _ _ h => h⟩
  obtain ⟨u, rfl, ru⟩ := vals1 r
  obtain ⟨as, hr, hn⟩ := Vw.reads I rw_ hv v u rd ru
  cases hr with
  | none => exact PySem.P.repr_of_none ⟨.str _, H, I.tok _, ⟨_, rfl⟩, q⟩
  | bool b => exact PySem.P.repr_of_bool ⟨.str _, H, I.tok _, ⟨_, rfl⟩, q⟩
  | int i t => exact PySem.P.repr_of_int (of_decide_eq_true hs) ⟨.str _, H, I.tok _, ⟨_, rfl⟩, q⟩
  | str x t => exact PySem.P.repr_of_str ⟨.str _, H, I.tok _, ⟨_, rfl⟩, q⟩ hz
  | list h1 h2 h3 h4 => exact repr_of_reads' (.list h1 h2 h3 h4) hs (fun _ => hn) hG (by omega) (fun _ _ e => e) (fun h' t tk k => ⟨.str _, H, I.kept k, ⟨_, rfl⟩, q⟩) hz
  | tuple h1 h2 h3 h4 => exact repr_of_reads' (.tuple h1 h2 h3 h4) hs (fun _ => hn) hG (by omega) (fun _ _ e => e) (fun h' t tk k => ⟨.str _, H, I.kept k, ⟨_, rfl⟩, q⟩) hz
  | dict h1 h2 h3 h4 h5 => exact repr_of_reads' (.dict h1 h2 h3 h4 h5) hs (fun _ => hn) hG (by omega) (fun _ _ e => e) (fun h' t tk k => ⟨.str _, H, I.kept k, ⟨_, rfl⟩, q⟩) hz
def fRepr : DOn := fun xs μ K => ∃ d p, xs = [d] ∧ Vw μ d p ∧ p.showable = true ∧ p.depth ≤ 60 ∧ p.shown.length ≤ sizeLine ∧ K (.str p.shown) μ
theorem lc_repr : LiftC rRepr fRepr := by
  rintro xs μ K ⟨d, p, rfl, hv, h1, h2, h3, k⟩ us H0 H1 rx rw_ Q q
  obtain ⟨u, rfl, r⟩ := vals_of_all rx
  exact ⟨u, μ, H0, d, p, rfl, r, rw_.toRw0, hv, h1, h2, h3, q _ _ μ H0 H1 (exr _) rw_ (.str _) k⟩
end

/-! ### exceptions that are data: isinstance, fields -/
/-- what the written part says of an exception's class -/
structure ExcK (K : PySem.W.Frag) (C : Addr) : Prop where
  hcl : (PySem.W.clsIn K C).isSome = true
  hga : PySem.W.findIn K (.ref C) "__getattribute__" = some (some (.builtin "BaseException.__getattribute__"))
  hgt : PySem.W.findIn K (.ref C) "__getattr__" = some none
  hsub : PySem.W.subIn K (.ref C) (.type "BaseException") = some true
  hd : PySem.W.hasDictIn K C = true
  ha : PySem.W.findIn K (.ref C) "__class__" = some (some (.builtin "object.__class__"))
  hn : PySem.W.specialIn K (.builtin "object.__class__") "__get__" = some (some (.builtin "getset_descriptor.__get__"))
  htk : PySem.W.takesIn K (.builtin "object.__class__") = some true
  hm : PySem.W.mroIn K C (.type "object") = some true
theorem exc_inst {P : Program} {w : World} {H : Hp} {h : Heap} {C a dd : Addr} {fvs : List (Str × V)} (hok : HOk P w H h) (e : H a = some (exk C (some dd) a)) (e2 : H dd = some (.xd fvs)) :
    ∃ (oe od : Obj) (mA : Str → Option Value), PySem.W.InstAt h a oe C (some od) ∧ (∀ name, PySem.W.lookIn name od = some (mA name)) ∧ ∀ f, RelO (fvs.lookup f) (mA f) := by
  obtain ⟨oe, vs, he, hz, hd⟩ := exk_at hok e
  obtain ⟨mA, hns, hr⟩ := (show ObjOk P w H h dd (.xd fvs) from hok dd _ e2)
  obtain ⟨od, ho, hl⟩ := lookIn_ns hns
  exact ⟨oe, od, mA, ⟨he, hz.1, by unfold PySem.W.notCls; rw [hd], by rw [hz.2]; exact ho⟩, hl, hr⟩
def rIsX (K : PySem.W.Frag) : List V → Hp → VK → Prop := fun xs H Q => ∃ (a dd C : Addr) (fvs : List (Str × V)) (c : V) (u : Value) (b : Bool), xs = [.ref a, c] ∧ H a = some (exk C (some dd) a) ∧ H dd = some (.xd fvs) ∧ ExcK K C ∧ ClsV c u ∧ PySem.W.kitOne K (.ref C) u = some b ∧ Q (.bl b) H
theorem call_isX {X : Cx} : CallR X (.builtin "isinstance") (rIsX X.K) := by
  rintro pins s σ H xs us Q I r ⟨a, dd, C, fvs, c, u, b, rfl, e1, e2, T, hc, hb, q⟩
  obtain ⟨u1, u2, rfl, r1, r2⟩ := vals2 r
  cases (show u1 = Value.ref a from r1)
  have e := hc.eq r2
  subst e
  obtain ⟨oe, od, mA, J, _, _⟩ := exc_inst I.hok e1 e2
  exact PySem.W.kia_one (PySem.W.kitx_exc (x := a) (ox := oe) (od := some od) T.hcl T.hga T.hgt T.hsub T.ha T.hn T.htk T.hm) I.kIn J hb (fun z => nomatch z) fun tk => ⟨.bl b, H, I.tok tk, rfl, q⟩
def rIsP (K : PySem.W.Frag) : List V → Hp → VK → Prop := fun xs H Q => rIsi K xs H Q ∨ rIsX K xs H Q
theorem call_isP {X : Cx} : CallR X (.builtin "isinstance") (rIsP X.K) := call_isi.or call_isX
section
variable [AM : Amb]
theorem lc_isiP {K' : PySem.W.Frag} : LiftC (rIsP K') (fIsi K') := fun xs μ K h us H0 H1 rx rw_ Q q => .inl (lc_isi xs μ K h us H0 H1 rx rw_ Q q)
def fIsX (K' : PySem.W.Frag) : DOn := fun xs μ K => ∃ C fs c u b, xs = [D.exc C fs, c] ∧ clsD c = some u ∧ ExcK K' C ∧ PySem.W.kitOne K' (.ref C) u = some b ∧ K (.bl b) μ
theorem Dt.exc_of {H : Hp} {v : V} {C : Addr} {fs : List (Str × D)} (h : Dt H v (D.exc C fs)) : excP C fs H v := by
  cases h with
  | any p _ => exact p
theorem lc_isX {K' : PySem.W.Frag} : LiftC (rIsP K') (fIsX K') := by
  rintro xs μ K ⟨C, fs, c, u, b, rfl, hc, T, hb, k⟩ us H0 H1 rx rw_ Q q
  obtain ⟨w, v, rfl, r1, r2⟩ := vals_of_all2 rx
  obtain ⟨a, dd, fvs, rfl, e1, e2, _, _⟩ := r1.exc_of
  exact .inr ⟨a, dd, C, fvs, v, u, b, rfl, rw_.ex _ _ e1, rw_.ex _ _ e2, T, clsD_at r2 hc, hb, q _ _ μ H0 H1 (exr _) rw_ (.bl b) k⟩
/-- either -/
def fIsP (K' : PySem.W.Frag) : DOn := fun xs μ K => fIsi K' xs μ K ∨ fIsX K' xs μ K
theorem lc_isP {K' : PySem.W.Frag} : LiftC (rIsP K') (fIsP K') := fun xs μ K h us H0 H1 rx rw_ Q q => h.elim (fun h => lc_isiP xs μ K h us H0 H1 rx rw_ Q q) (fun h => lc_isX xs μ K h us H0 H1 rx rw_ Q q)
end
/-- o.f, o an instance or an exception -/
def tAtt (K : PySem.W.Frag) (ta : TE) (f : Str) : TE := fun σ H Q => ta σ H fun x H1 => (∃ a C dx fs v, x = .ref a ∧ H1 a = some (.ins C dx fs) ∧ Cls K C ∧ NoAttr K C f ∧ fs.lookup f = some v ∧ Q v H1) ∨
  ∃ a dd C fvs v, x = .ref a ∧ H1 a = some (exk C (some dd) a) ∧ H1 dd = some (.xd fvs) ∧ ExcK K C ∧ PySem.W.findIn K (.ref C) f = some none ∧ fvs.lookup f = some v ∧ Q v H1
theorem pe_att {X : Cx} {e : Expr} {ta : TE} {f : Str} {pos : Pos} (he : PE X e ta) (hb : attributeBase e f X.env (eval e X.env) = eval e X.env) : PE X (.Attribute e f pos) (tAtt X.K ta f) := by
  constructor
  intro pins s σ H Q I h
  refine attr_of hb (thn (he.run pins s σ H _ I h) ?_)
  rintro u s1 ⟨x, H1, I1, rx, ⟨a, C, dx, fs, v, rfl, ea, c, n, l, q⟩ | ⟨a, dd, C, fvs, v, rfl, e1, e2, T, hno, l, q⟩⟩
  · obtain rfl : u = Value.ref a := rx
    exact getattr_ok I1 ea c n l fun u' s' I' ru => ⟨v, H1, I', ru, q⟩
  · obtain rfl : u = Value.ref a := rx
    obtain ⟨oe, od, mA, J, hl, hr⟩ := exc_inst I1.hok e1 e2
    obtain ⟨z, hz, rz⟩ := RelO.some_of (v := v) (o := mA f) (by rw [← l]; exact hr f)
    exact HandSPX.exc_get I1.kIn J T.hga T.hgt T.hsub (PySem.W.findObj_own T.hd hno rfl (by rw [hl, hz])) (handed_of rz) ⟨v, H1, I1.tok _, rz, q⟩
theorem lookup_map {H : Hp} {f : Str} {d : D} : ∀ {fvs : List (Str × V)} {fs : List (Str × D)}, fvs.map (·.1) = fs.map (·.1) → DtAll H (fvs.map (·.2)) (fs.map (·.2)) → fs.lookup f = some d → ∃ v, fvs.lookup f = some v ∧ Dt H v d
  | [], [], _, _, h => by cases h
  | [], _ :: _, h, _, _ => by cases h
  | _ :: _, [], h, _, _ => by cases h
  | (g, v) :: fvs, (g', y) :: fs, h, t, l => by
    rw [List.map_cons, List.map_cons] at h
    injection h with h1 h2
    have h1' : g = g' := h1
    subst h1'
    cases t with
    | cons r t =>
      by_cases e : f == g
      · have l' : some y = some d := by rw [← l]; simp [List.lookup, e]
        cases l'
        exact ⟨v, by simp [List.lookup, e], r⟩
      · have l' : fs.lookup f = some d := by rw [← l]; simp [List.lookup, e]
        obtain ⟨w, hw, rw'⟩ := lookup_map h2 t l'
        exact ⟨w, by simp [List.lookup, e, hw], rw'⟩
section
variable [AM : Amb]
/-- the attribute of an exception, of an instance, of an instance that changes -/
def dAtt (K' : PySem.W.Frag) (f : Str) (da : DE) : DE := fun ρ μ K => da ρ μ fun x μ1 => (∃ C fs d, x = D.exc C fs ∧ ExcK K' C ∧ PySem.W.findIn K' (.ref C) f = some none ∧ fs.lookup f = some d ∧ K d μ1) ∨
  (∃ C fs d, x = D.ins C fs ∧ Cls K' C ∧ NoAttr K' C f ∧ fs.lookup f = some d ∧ K d μ1) ∨ (∃ a C fs d, x = .val (.ref a) ∧ μ1 a = some (.ins C fs) ∧ Cls K' C ∧ NoAttr K' C f ∧ fs.lookup f = some d ∧ K d μ1)
theorem l_att {K' : PySem.W.Frag} {f : Str} {te : TE} {de : DE} (h : Lift te de) : Lift (tAtt K' te f) (dAtt K' f de) := fun ρ μ K hk σ H0 H1 sl rw_ Q q =>
  h ρ μ _ hk σ H0 H1 sl rw_ _ fun x v μ1 H01 H11 e1 rw1 r1 k => by
    rcases k with ⟨C, fs, d, rfl, T, hno, hl, k⟩ | ⟨C, fs, d, rfl, c, n, hl, k⟩ | ⟨a, C, fs, d, rfl, hm, c, n, hl, k⟩
    · obtain ⟨a, dd, fvs, rfl, h1, h2, h3, h4⟩ := r1.exc_of
      obtain ⟨w, hw, rw'⟩ := lookup_map h3 h4 hl
      exact .inr ⟨a, dd, C, fvs, w, rfl, rw1.ex _ _ h1, rw1.ex _ _ h2, T, hno, hw, q d w μ1 H01 H11 e1 rw1 rw' k⟩
    · cases r1 with
      | ins h1 h3 h4 =>
        obtain ⟨w, hw, rw'⟩ := lookup_map h3 h4 hl
        exact .inl ⟨_, C, _, _, w, rfl, rw1.ex _ _ h1, c, n, hw, q d w μ1 H01 H11 e1 rw1 rw' k⟩
    · have ev := r1.val_of
      subst ev
      obtain ⟨_, dx, fvs, h1, h3, h4⟩ := rw1.mu a _ hm
      obtain ⟨w, hw, rw'⟩ := lookup_map h3 h4 hl
      exact .inl ⟨a, C, dx, fvs, w, rfl, h1, c, n, hw, q d w μ1 H01 H11 e1 rw1 rw' k⟩
end
end DL
namespace DL
open PySem PySem.Spec PyProof.Rows L2
open Evl (Ex ex_rd ex_l ex_t fresh_back)

/-- the script as a thing: a list of ints, to be read -/
def scrP (K : PySem.W.Frag) (ns : List Int) : Hp → V → Prop := fun H v => ∃ a, v = .ref a ∧ SqL K H a (ns.map V.int)
abbrev D.scr (K : PySem.W.Frag) (ns : List Int) : D := .any (scrP K ns)
theorem scrP_mono {K : PySem.W.Frag} {ns : List Int} : ∀ H1 H2 u, Ex H1 H2 → scrP K ns H1 u → scrP K ns H2 u := fun _ _ _ e ⟨a, h1, h2⟩ => ⟨a, h1, ex_l e h2⟩
/-- the law's promise over data -/
def spLawD (K : PySem.W.Frag) : DSp := fun ds μ Q _ => ∃ ns : List Int, ds = [D.scr K ns] ∧ ns.length ≤ 63 ∧ ∀ μ', Q (.bl true) μ'
/-- at the law's entry: the modules' dict and the script (where it is no object of the module) -/
def entryH (m : Obj) (a : Addr) (o : Obj) (ns : List Int) (scr : Bool) : Hp := fun b => if b = sysModules then some (.frz m (.own 0)) else if scr = true ∧ b = a then some (.frz o (.lst (ns.map V.int))) else none
theorem law_goes {P : Program} {w : World} {K : PySem.W.Frag} {mg mb : Str → Option Value} {k : Nat} {fa a : Addr} {fd : FuncData} {x : Str} {s₁ : Shared} {vs : List Value} {ns : List Int}
    (KX : K.In s₁.heap) (hns : s₁.heap.Ns mainGlobals mg) (hb : s₁.heap.Ns builtinsNs mb) (hbb : ∀ x : Str, x ≠ "__name__" → mb x = bootBuiltins x) (hlim : s₁.heap.NoLimit) (hsm : ∃ mm, s₁.heap.Ns sysModules mm) (hK : K.lookup sysModules = none) (hg : s₁.gens = #[])
    (ha : s₁.heap.get? a = some { cls := .type "list", data := .seq vs.toArray }) (hi : IntsAre vs ns) (hl : ns.length ≤ 63) (hr : Room k callerA)
    (F : ∀ base : Heap, K.In base → base.Ns mainGlobals mg → FnG P w K mg base CX0 k fa fd [x] (spD (spLawD K))) (hbind : ∀ (s : Shared) (u : Value), BindsTo s fd ⟨[u], []⟩ [(x, u)]) :
    codeAny (model P w) callerA (.call (.ref fa) ⟨[.ref a], []⟩) (fun r s' => r = .ok (.ret (.bool true)) ∧ OldK s₁.heap s'.heap ∧ s'.os = s₁.os ∧ AllBare s'.gens) s₁ := by
  letI : Amb := ⟨fun _ => True, fun _ _ _ h => h⟩
  have rv := vals_ints hi
  have lenV := hi.length
  have l63 : ns.length ≤ sizeLine := Nat.le_trans hl (by decide)
  obtain ⟨mm, om, em, epm, hom, hdm, _⟩ := hsm
  have sa : a ≠ sysModules := by
    intro z
    rw [z, hom] at ha
    have z2 := Option.some.inj ha
    rw [z2] at hdm
    cases hdm
  -- whether the script is tracked: just where it is no object of the module
  have core : ∀ scr : Bool, (scr = true → K.lookup a = none) → SqL K (entryH om a { cls := .type "list", data := .seq vs.toArray } ns scr) a (ns.map V.int) →
      codeAny (model P w) callerA (.call (.ref fa) ⟨[.ref a], []⟩) (fun r s' => r = .ok (.ret (.bool true)) ∧ OldK s₁.heap s'.heap ∧ s'.os = s₁.os ∧ AllBare s'.gens) s₁ := by
    intro scr hscr hS
    generalize hH : entryH om a { cls := .type "list", data := .seq vs.toArray } ns scr = H at hS
    have at1 : H sysModules = some (.frz om (.own 0)) := by rw [← hH]; exact if_pos rfl
    have atA : scr = true → H a = some (.frz { cls := .type "list", data := .seq vs.toArray } (.lst (ns.map V.int))) := fun e => by rw [← hH]; exact (if_neg sa).trans (if_pos ⟨e, rfl⟩)
    have atO : ∀ b, b ≠ sysModules → (scr = true → b ≠ a) → H b = none := fun b h1 h2 => by
      rw [← hH]
      exact (if_neg h1).trans (if_neg fun z => h2 z.1 z.2)
    have ok : HOk P w H s₁.heap := by
      intro b u e
      by_cases h1 : b = sysModules
      · subst h1
        rw [at1] at e
        cases e
        exact ⟨hom, _, hom⟩
      · by_cases h2 : scr = true ∧ b = a
        · obtain ⟨h2, rfl⟩ := h2
          rw [atA h2] at e
          cases e
          exact ⟨ha, by rw [List.length_map]; exact l63, vs, _, rv, ha⟩
        · rw [atO b h1 (fun z q => h2 ⟨z, q⟩)] at e
          cases e
    have frzs : ∀ b u, H b = some u → ∃ o w', u = .frz o w' := fun b u e => by
      by_cases h1 : b = sysModules
      · subst h1; rw [at1] at e; cases e; exact ⟨_, _, rfl⟩
      · by_cases h2 : scr = true ∧ b = a
        · obtain ⟨h2, rfl⟩ := h2
          rw [atA h2] at e
          cases e
          exact ⟨_, _, rfl⟩
        · rw [atO b h1 (fun z q => h2 ⟨z, q⟩)] at e
          cases e
    have nsK : ∀ {b : Addr} {m : Str → Option Value}, b ≠ sysModules → s₁.heap.Ns b m → (hidT s₁.heap H).Ns b m := fun {b m} hb1 ⟨o, es, ep, e, d, r⟩ => ⟨o, es, ep, hidT_get e (atO b hb1 fun _ z => by
      rw [z, ha] at e
      cases e
      cases d), d, r⟩
    have hKb : K.In (hidT s₁.heap H) := fun b o e => hidT_get (KX b o e) (atO b (fun z => by rw [z, hK] at e; cases e) (fun z q => by rw [q, hscr z] at e; cases e))
    have hM : Mod K mg (hidT s₁.heap H) := ⟨hKb, nsK (by decide) hns, ⟨mb, nsK (by decide) hb, hbb⟩, let ⟨mc, h1, h2⟩ := hlim; ⟨mc, nsK (by decide) h1, h2⟩⟩
    have e0 : Env0 P w K mg (hidT s₁.heap H) callerA [] s₁ H := ⟨rfl, hM, fun b o e => of_hidT e, Nat.le_of_eq (hidT_size _ _), trivial, (fun b hb => by cases hb), ok, .of_eq hg⟩
    have sp : spD (spLawD K) [.ref a] H (fun v H' => v = .bl true ∧ True) fun _ _ _ => False :=
      ⟨[D.scr K ns], fun _ => none, H, fun d _ => d = .bl true, fun _ _ _ => False, ⟨ns, rfl, hl, fun _ => rfl⟩, .cons (.any ⟨a, rfl, hS⟩ scrP_mono) .nil, ⟨exr _, ⟨om, at1⟩, fun _ _ z => by cases z⟩, fun d v μ' H0' H' _ _ r e => by
        subst e
        exact ⟨r.bl_of, True.intro⟩, fun _ _ _ _ _ _ _ _ _ _ _ _ z => z⟩
    refine codeAny_mono ((F _ hKb (nsK (by decide) hns)).go callerA [] s₁ H ⟨[.ref a], []⟩ [.ref a] [.ref a] _ _ rfl hr e0 (hbind s₁ (.ref a)) (.cons rfl .nil) sp) ?_
    rintro r s' h
    cases r with
    | error e => exact False.elim h
    | ok fl =>
      cases fl with
      | next => exact False.elim h
      | brk => exact False.elim h
      | cont => exact False.elim h
      | ret u =>
        obtain ⟨v, H', os, bare, un, hok', r', rfl, _⟩ := h
        obtain rfl : u = Value.bool true := r'
        refine ⟨rfl, OldK.of_keep fun b o e => ?_, os, bare⟩
        cases q : H b with
        | none => exact un.keep b o e q (fun z => by cases z) (by simp)
        | some u =>
          obtain ⟨ob, w', rfl⟩ := frzs b u q
          obtain ⟨e1, _⟩ := ok b _ q
          obtain ⟨e2, _⟩ := hok' b _ (un.frzs b ob _ q)
          rw [e] at e1
          cases e1
          exact e2
  cases hk : K.lookup a with
  | some o =>
    have e := KX a o hk
    rw [ha] at e
    cases e
    exact core false (fun z => by cases z) (.inr ⟨_, vs.toArray, _, hk, rfl, rfl, rfl, by rw [List.size_toArray, lenV]; exact l63, by simpa using rv⟩)
  | none => exact core true (fun _ => hk) (.inl (.inr ⟨_, (if_neg sa).trans (if_pos ⟨rfl, rfl⟩)⟩))
/-- the goal that the head leaves, from the promise over data -/
theorem walkD {l : PySem.W.OpenLaw} {k : Nat} {q : Program} {loose : List Str} {XP : (Str → Option Value) → Heap → Prop} {YP : World → Heap → Prop} {d : DefRec} {K : Params → PySem.W.Frag} {x : Str}
    (hn : l.most = some 63) (hdf : d.params.defaults = []) (hr : Room k callerA) (hi : importsNone q = true) (hK : ∀ w : World, (K w.params).lookup sysModules = none)
    (hY : ∀ (w : World) (h : Heap), YP w h → (K w.params).In h)
    (F : ∀ (w : World) (mg : Str → Option Value) (fa : Addr) (h : Heap), (K w.params).In h → h.Ns mainGlobals mg → mg d.name = some (.ref fa) →
      ∃ fd : FuncData, (∀ (s : Shared) (u : Value), BindsTo s fd ⟨[u], []⟩ [(x, u)]) ∧
        ∀ base : Heap, (K w.params).In base → base.Ns mainGlobals mg → FnG l.prog w (K w.params) mg base CX0 k fa fd [x] (spD (spLawD (K w.params)))) :
    PySem.W.WalkO q loose XP YP l.row.toRowW d [] (fun f vs => PySem.call f vs) := by
  refine Att.attach_call hn hdf fun w s₀ s₁ mg mb fa o pm cd doc a vs ns G Y ho hd hcd hmg hobj hints hlen hg => ?_
  have KX := hY w _ Y
  obtain ⟨fd, hb, hF⟩ := F w mg fa _ KX G.T.g hmg
  obtain ⟨mm, hmm, _⟩ := (G.T.seer hi).mods
  exact law_goes KX G.T.g G.T.b G.T.builtins G.T.nolimit ⟨mm, hmm⟩ (hK w) hg hobj hints hlen hr hF hb
end DL
namespace DL
open PySem PySem.Spec PyProof.Rows L2
open Evl (Ex ex_rd ex_l ex_t fresh_back)
section
variable [AM : Amb]
def dYes : DT := fun _ μ K => K true μ
theorem l_yes : LiftT tYes dYes := fun ρ μ K h σ H0 H1 sl rw_ Q q => q true μ H0 H1 (exr _) rw_ h
def dChain (f g : DO2) (da db dc : DE) : DE := fun ρ μ K => da ρ μ fun x μ1 => db ρ μ1 fun y μ2 => f x y μ2 fun z μ3 => ∃ k, z = .bl k ∧ if k = true then dc ρ μ3 fun u μ4 => g y u μ4 K else K (.bl false) μ3
theorem l_chain {r r' : R2} {f g : DO2} {ta tb tc : TE} {da db dc : DE} (hr : Lift2 r f) (hg : Lift2 r' g) (ha : Lift ta da) (hb : Lift tb db) (hc : Lift tc dc) : Lift (tChain r r' ta tb tc) (dChain f g da db dc) := fun ρ μ K h σ H0 H1 sl rw_ Q q =>
  ha ρ μ _ h σ H0 H1 sl rw_ _ fun x u μ1 H01 H11 e1 rw1 r1 h1 => hb ρ μ1 _ h1 σ H01 H11 (sl.mono e1) rw1 _ fun y v μ2 H02 H12 e2 rw2 r2 h2 =>
    hr x y μ2 _ h2 u v H02 H12 (r1.mono e2) r2 rw2 _ fun z z' μ3 H03 H13 e3 rw3 r3 ⟨k, ez, h3⟩ => by
      subst ez
      refine ⟨k, r3.bl_of, ?_⟩
      cases k with
      | true => exact hc ρ μ3 _ h3 σ H03 H13 (sl.mono ((e1.trans e2).trans e3)) rw3 _ fun w' w μ4 H04 H14 e4 rw4 r4 h4 => hg y w' μ4 K h4 v w H04 H14 ((r2.mono e3).mono e4) r4 rw4 Q fun d v' μ' H0' H1' e5 => q d v' μ' H0' H1' ((((e1.trans e2).trans e3).trans e4).trans e5)
      | false => exact q _ _ μ3 H03 H13 ((e1.trans e2).trans e3) rw3 (.bl false) h3
def dBits (da : DE) : DE := fun ρ μ K => da ρ μ fun x μ1 => ∃ i, x = .int i ∧ K (.int (Builtin.Int.intBits i : Nat)) μ1
theorem l_bits {ta : TE} {da : DE} (ha : Lift ta da) : Lift (tBits ta) (dBits da) := fun ρ μ K h σ H0 H1 sl rw_ Q q =>
  ha ρ μ _ h σ H0 H1 sl rw_ _ fun x u μ1 H01 H11 e1 rw1 r1 ⟨i, ei, k⟩ => by
    subst ei
    exact ⟨i, r1.int_of, q _ _ μ1 H01 H11 e1 rw1 (.int _) k⟩
@[reducible] def amb0 : Amb := ⟨fun _ => True, fun _ _ _ h => h⟩
/-- one of two defs, out of a table, called within a try -/
def tTab2 (f1 f2 : Addr) (sp1 sp2 : Sp) (W : WX) (tf : TE) (t : TA) : TE := fun σ H Q => tf σ H fun x H1 => (x = .ref f1 ∧ t σ H1 fun vs H2 => sp1 vs H2 Q (WE W σ)) ∨ (x = .ref f2 ∧ t σ H1 fun vs H2 => sp2 vs H2 Q (WE W σ))
theorem pe_tab2 {X : Cx} {CX : CXT} {k1 k2 : Nat} {f1 f2 : Addr} {fd1 fd2 : FuncData} {ps1 ps2 : List Str} {sp1 sp2 : Sp} {W : WX} {fe e : Expr} {es : List Expr} {pos : Pos} {tf : TE} {t : TA} (F1 : FnOk X.prog X.w X.K X.mg X.base CX k1 f1 fd1 ps1 sp1) (F2 : FnOk X.prog X.w X.K X.mg X.base CX k2 f2 fd2 ps2 sp2)
    (hr1 : Room k1 X.A) (hr2 : Room k2 X.A) (hk1 : PySem.W.keepIn X.K (.ref f1) = true) (hk2 : PySem.W.keepIn X.K (.ref f2) = true) (b1 : Binds X.K fd1 ps1 []) (b2 : Binds X.K fd2 ps2 []) (hx : ∀ σ, PassesAt CX X σ (WE W σ)) (hf : PE X fe tf) (ha : PA X (e :: es) t)
    (hc : eval (.Call fe (e :: es) [] pos) X.env = (do callWith pos (← eval fe X.env) [] (backTo pos (starEach (e :: es) X.env)) (backToKw pos (keywordEach [] X.env))) := by rfl)
    (he : starEach (e :: es) X.env = (false, eval e X.env) :: starEach es X.env := by rfl) (hpl : (backTo pos (starEach es X.env)).any (·.1) = false := by rfl) : PE X (.Call fe (e :: es) [] pos) (tTab2 f1 f2 sp1 sp2 W tf t) := by
  constructor
  intro pins s σ H Q I h
  rw [hc]
  refine wpAny_bind (thn (hf.run pins s σ H _ I h) ?_)
  rintro u s1 ⟨x, H1, I1, r1, ⟨rfl, q⟩ | ⟨rfl, q⟩⟩
  · obtain rfl : u = Value.ref f1 := r1
    refine PySem.W.callWith_K (h₀ := X.base) I1.ok.mod.kin hk1 (thn (ha.run pos pins s1 σ H1 _ I1 q) ?_) he hpl
    rintro us s2 ⟨vs, H2, I2, r, q2⟩
    exact ⟨I2.kIn, run_fnS F1 hr1 b1 (hx σ) I2 r q2⟩
  · obtain rfl : u = Value.ref f2 := r1
    refine PySem.W.callWith_K (h₀ := X.base) I1.ok.mod.kin hk2 (thn (ha.run pos pins s1 σ H1 _ I1 q) ?_) he hpl
    rintro us s2 ⟨vs, H2, I2, r, q2⟩
    exact ⟨I2.kIn, run_fnS F2 hr2 b2 (hx σ) I2 r q2⟩
def dTab2 (f1 f2 : Addr) (sp1 sp2 : DSp) (Y : Ro → KX) (df : DE) (da : DA) : DE := fun ρ μ K => df ρ μ fun x μ1 => (x = .val (.ref f1) ∧ da ρ μ1 fun xs μ2 => sp1 xs μ2 K (Y ρ)) ∨ (x = .val (.ref f2) ∧ da ρ μ1 fun xs μ2 => sp2 xs μ2 K (Y ρ))
theorem l_tab2 {f1 f2 : Addr} {sp1 sp2 : DSp} {W : WX} {Y : Ro → KX} {tf : TE} {t : TA} {df : DE} {da : DA} (hx : XOkS W Y) (hf : Lift tf df) (h : LiftA t da) : Lift (tTab2 f1 f2 (spD sp1) (spD sp2) W tf t) (dTab2 f1 f2 sp1 sp2 Y df da) := fun ρ μ K hk σ H0 H1 sl rw_ Q q =>
  hf ρ μ _ hk σ H0 H1 sl rw_ _ fun x u μ1 H01 H11 e1 rw1 r1 h1 => by
    rcases h1 with ⟨rfl, h1⟩ | ⟨rfl, h1⟩
    · exact .inl ⟨r1.val_of, h ρ μ1 _ h1 σ H01 H11 (sl.mono e1) rw1 _ fun xs us μ2 H02 H12 e2 rw2 r2 k =>
        ⟨xs, μ2, H02, K, Y ρ, k, r2, rw2.toRw0, fun d v μ' H0' H' e r rd kk => q d v μ' H0' H' ((e1.trans e2).trans e) ⟨r, Amb.mono _ _ e rw2.am⟩ rd kk, fun C fs μ' dd fvs H0' H' e r h1 h2 h3 kk => hx ρ σ C fs μ' dd fvs H0' H' (sl.mono ((e1.trans e2).trans e)) ⟨r, Amb.mono _ _ e rw2.am⟩ h1 h2 h3 kk⟩⟩
    · exact .inr ⟨r1.val_of, h ρ μ1 _ h1 σ H01 H11 (sl.mono e1) rw1 _ fun xs us μ2 H02 H12 e2 rw2 r2 k =>
        ⟨xs, μ2, H02, K, Y ρ, k, r2, rw2.toRw0, fun d v μ' H0' H' e r rd kk => q d v μ' H0' H' ((e1.trans e2).trans e) ⟨r, Amb.mono _ _ e rw2.am⟩ rd kk, fun C fs μ' dd fvs H0' H' e r h1 h2 h3 kk => hx ρ σ C fs μ' dd fvs H0' H' (sl.mono ((e1.trans e2).trans e)) ⟨r, Amb.mono _ _ e rw2.am⟩ h1 h2 h3 kk⟩⟩
end
end DL
namespace DL
open PySem PySem.Spec PyProof.Rows L2
/-! ### data that is shown in few signs: depth at most k, signs at most n -/
inductive Nc : Nat → Nat → D → Prop
  | non {k n : Nat} : 5 ≤ n → Nc k n .non
  | bl {k n : Nat} {b : Bool} : 5 ≤ n → Nc k n (.bl b)
  | int {k n : Nat} {i : Int} : i.natAbs < 10 ^ 250 → 1100 ≤ n → Nc k n (.int i)
  | str {k n : Nat} {x : Str} : (reprText x).length ≤ n → Nc k n (.str x)
  | emp {k n : Nat} : 5 ≤ n → Nc (k + 1) n (.dct [])
  | lst {k n n' m : Nat} {ds : List D} : m ≤ 1000 → m * (n + 2) + 3 ≤ n' → ds.length ≤ m → (∀ d, d ∈ ds → Nc k n d) → Nc (k + 1) n' (.lst ds)
  | tup {k n n' m : Nat} {ds : List D} : m ≤ 1000 → m * (n + 2) + 3 ≤ n' → ds.length ≤ m → (∀ d, d ∈ ds → Nc k n d) → Nc (k + 1) n' (.tup ds)
theorem Nc.mono {k n k' n' : Nat} {d : D} (h : Nc k n d) (hk : k ≤ k') (hn : n ≤ n') : Nc k' n' d := by
  induction h generalizing k' n' with
  | non h => exact .non (by omega)
  | bl h => exact .bl (by omega)
  | int h h2 => exact .int h (by omega)
  | str h => exact .str (by omega)
  | emp h => 
    obtain ⟨j, rfl⟩ : ∃ j, k' = j + 1 := ⟨k' - 1, by omega⟩
    exact .emp (by omega)
  | lst hm h h2 h3 ih =>
    obtain ⟨j, rfl⟩ : ∃ j, k' = j + 1 := ⟨k' - 1, by omega⟩
    exact .lst hm (by omega) h2 fun d hd => ih d hd (by omega) (Nat.le_refl _)
  | tup hm h h2 h3 ih =>
    obtain ⟨j, rfl⟩ : ∃ j, k' = j + 1 := ⟨k' - 1, by omega⟩
    exact .tup hm (by omega) h2 fun d hd => ih d hd (by omega) (Nat.le_refl _)
theorem len_join (sep : Str) (n : Nat) (hs : sep.length = 2) : ∀ ts : List Str, (∀ t ∈ ts, t.length ≤ n) → (sep.join ts).length ≤ ts.length * (n + 2)
  | [], _ => by simp [Str.join]; rfl
  | [t], h => by
    have := h t List.mem_cons_self
    simp [Str.join]
    omega
  | t :: u :: r, h => by
    have h1 := h t List.mem_cons_self
    have h2 := len_join sep n hs (u :: r) fun x hx => h x (List.mem_cons_of_mem _ hx)
    have e : sep.join (t :: u :: r) = t ++ (sep ++ sep.join (u :: r)) := by rw [show sep.join (t :: u :: r) = t ++ sep ++ sep.join (u :: r) from rfl, Str.append_assoc]
    rw [e, Str.length_append, Str.length_append, hs]
    have : (t :: u :: r).length * (n + 2) = (u :: r).length * (n + 2) + (n + 2) := by
      rw [show (t :: u :: r).length = (u :: r).length + 1 from rfl, Nat.add_mul, Nat.one_mul]
    omega
theorem len_text (n : Nat) : ∀ (ts : List Str) (i : Nat) (st : Str), (∀ t ∈ ts, t.length ≤ n) → (textFrom i st ts).length ≤ st.length + ts.length * (n + 2)
  | [], i, st, _ => by simp [textFrom]
  | t :: r, i, st, h => by
    have h1 := h t List.mem_cons_self
    simp only [textFrom]
    refine Nat.le_trans (len_text n r _ _ fun x hx => h x (List.mem_cons_of_mem _ hx)) ?_
    have e : (t :: r).length * (n + 2) = r.length * (n + 2) + (n + 2) := by
      rw [show (t :: r).length = r.length + 1 from rfl, Nat.add_mul, Nat.one_mul]
    rw [e]
    have q1 : (Str.ofString ", ").length = 2 := rfl
    have q2 : (Str.ofString "").length = 0 := rfl
    split
    · simp only [Str.length_append]
      omega
    · simp only [Str.length_append]
      omega
theorem shownAll_len {n : Nat} : ∀ {ps : List PyData}, (∀ p ∈ ps, p.shown.length ≤ n) → ∀ t ∈ PyData.shownAll ps, t.length ≤ n
  | [], _, t, ht => by simp [PyData.shownAll] at ht
  | p :: ps, h, t, ht => by
    simp only [PyData.shownAll, List.mem_cons] at ht
    rcases ht with rfl | ht
    · exact h p List.mem_cons_self
    · exact shownAll_len (fun x hx => h x (List.mem_cons_of_mem _ hx)) t ht
theorem shownAll_length : ∀ {ps : List PyData}, (PyData.shownAll ps).length = ps.length
  | [] => by simp [PyData.shownAll]
  | p :: ps => by simp [PyData.shownAll, shownAll_length (ps := ps)]
theorem showableAll_of : ∀ {ps : List PyData}, (∀ p ∈ ps, p.showable = true) → PyData.showableAll ps = true
  | [], _ => by simp [PyData.showableAll]
  | p :: ps, h => by simp [PyData.showableAll, h p List.mem_cons_self, showableAll_of (ps := ps) fun x hx => h x (List.mem_cons_of_mem _ hx)]
theorem depthAll_of {k : Nat} : ∀ {ps : List PyData}, (∀ p ∈ ps, p.depth ≤ k) → PyData.depthAll ps ≤ k
  | [], _ => by simp [PyData.depthAll]
  | p :: ps, h => by
    have h1 := h p List.mem_cons_self
    have h2 := depthAll_of (ps := ps) fun x hx => h x (List.mem_cons_of_mem _ hx)
    simp only [PyData.depthAll]
    omega
theorem toPyAll_len : ∀ {ds : List D} {ps : List PyData}, toPyAll ds = some ps → ps.length = ds.length
  | [], ps, h => by simp [toPyAll] at h; subst h; rfl
  | d :: ds, ps, h => by
    simp only [toPyAll] at h
    cases e : toPy d with
    | none => rw [e] at h; cases h
    | some p =>
      cases e2 : toPyAll ds with
      | none => rw [e, e2] at h; cases h
      | some qs =>
        rw [e, e2] at h
        cases h
        simp [toPyAll_len e2]
theorem all_py {P : PyData → Prop} : ∀ {ds : List D}, (∀ d ∈ ds, ∃ p, toPy d = some p ∧ P p) → ∃ ps, toPyAll ds = some ps ∧ ∀ p ∈ ps, P p
  | [], _ => ⟨[], rfl, fun _ h => (nomatch h)⟩
  | d :: ds, h => by
    obtain ⟨p, h1, h2⟩ := h d List.mem_cons_self
    obtain ⟨ps, h3, h4⟩ := all_py (ds := ds) fun x hx => h x (List.mem_cons_of_mem _ hx)
    refine ⟨p :: ps, by unfold toPyAll; rw [h1, h3]; rfl, fun q hq => ?_⟩
    rcases List.mem_cons.1 hq with rfl | hq
    · exact h2
    · exact h4 q hq
theorem cps_len : ∀ (l : List UInt8) (a b : Nat), (cpsOfBytes a b l).length ≤ l.length
  | [], a, b => by simp [cpsOfBytes]
  | x :: l, a, b => by
    unfold cpsOfBytes
    have h := fun a b => cps_len l a b
    split
    · simp
    · rename_i e
      injection e with e1 e2
      subst e1
      subst e2
      have h0 := h 0 0
      split
      · simp; omega
      · split
        · have := h 1 (x.toNat - 192); simp only [List.length_cons]; omega
        · split
          · have := h 2 (x.toNat - 224); simp only [List.length_cons]; omega
          · have := h 3 (x.toNat - 240); simp only [List.length_cons]; omega
    · rename_i e
      injection e with e1 e2
      subst e1
      subst e2
      have h0 := h 0 0
      simp; omega
    · rename_i e
      injection e with e1 e2
      subst e1
      subst e2
      refine Nat.le_trans (h _ _) ?_
      simp
theorem enc_len : ∀ cs : List Char, (List.utf8Encode cs).size ≤ 4 * cs.length
  | [] => by simp
  | c :: cs => by
    have h := enc_len cs
    rw [List.utf8Encode_cons, ByteArray.size_append]
    have h2 : [c].utf8Encode.size ≤ 4 := by
      rw [List.utf8Encode_singleton]
      simp [Char.utf8Size_le_four]
    simp only [List.length_cons]
    omega
theorem ofs_len (cs : List Char) : (Str.ofString (String.ofList cs)).length ≤ 4 * cs.length := by
  unfold Str.ofString Str.length
  have h := cps_len (String.ofList cs).toByteArray.data.toList 0 0
  have h2 := enc_len cs
  rw [← String.toByteArray_ofList] at h2
  have h3 : (String.ofList cs).toByteArray.data.toList.length = (String.ofList cs).toByteArray.size := Array.length_toList
  simp only [List.size_toArray]
  omega
theorem nat_repr_len {n k : Nat} (hk : 0 < k) (h : n < 10 ^ k) : (Nat.toDigits 10 n).length ≤ k := (Nat.length_toDigits_le_iff (by decide) hk).2 h
theorem repr_len {i : Int} (h : i.natAbs < 10 ^ 250) : (Str.ofString i.repr).length ≤ 1100 := by
  cases i with
  | ofNat m =>
    show (Str.ofString (String.ofList (Nat.toDigits 10 m))).length ≤ _
    have h1 := nat_repr_len (n := m) (k := 250) (by decide) h
    have := ofs_len (Nat.toDigits 10 m)
    omega
  | negSucc m =>
    have h1 := nat_repr_len (n := m.succ) (k := 250) (by decide) h
    have e : ("-" ++ m.succ.repr : String) = String.ofList ('-' :: Nat.toDigits 10 m.succ) := by
      rw [show m.succ.repr = String.ofList (Nat.toDigits 10 m.succ) from rfl]
      rw [show ("-" : String) = String.ofList ['-'] from rfl, ← String.ofList_append]
      rfl
    show (Str.ofString ("-" ++ m.succ.repr)).length ≤ _
    rw [e]
    have := ofs_len ('-' :: Nat.toDigits 10 m.succ)
    simp only [List.length_cons] at this
    omega
theorem log_small {i : Int} (h : i.natAbs < 10 ^ 250) : i.natAbs.log2 < 1920 := by
  by_cases z : i.natAbs = 0
  · rw [z]; decide
  · rw [Nat.log2_lt z]
    exact Nat.lt_of_lt_of_le h (by decide)
structure Shows (k n : Nat) (p : PyData) : Prop where
  sh : p.showable = true
  dp : p.depth ≤ k
  ln : p.shown.length ≤ n
theorem Nc.py {k n : Nat} {d : D} (h : Nc k n d) : ∃ p, toPy d = some p ∧ Shows k n p := by
  induction h with
  | non h => exact ⟨_, rfl, by simp [PyData.showable], by simp [PyData.depth], by simp only [PyData.shown]; exact Nat.le_trans (by decide) h⟩
  | @bl k n b h => exact ⟨_, rfl, by simp [PyData.showable], by simp [PyData.depth], by cases b <;> exact Nat.le_trans (by decide) h⟩
  | int h h2 => exact ⟨_, rfl, by simp [PyData.showable]; exact log_small h, by simp [PyData.depth], Nat.le_trans (repr_len h) h2⟩
  | str h => exact ⟨_, rfl, by simp [PyData.showable], by simp [PyData.depth], h⟩
  | emp h => exact ⟨_, rfl, by simp [PyData.showable, PyData.showableKv], by simp [PyData.depth, PyData.depthKv], Nat.le_trans (by decide) h⟩
  | @lst k n n' m ds hm h h2 h3 ih =>
    obtain ⟨ps, e, hp⟩ := all_py ih
    refine ⟨.list ps, by unfold toPy; rw [e]; rfl, ?_, ?_, ?_⟩
    · simp only [PyData.showable]; exact showableAll_of fun p q => (hp p q).sh
    · simp only [PyData.depth]
      have := depthAll_of fun p q => (hp p q).dp
      omega
    · simp only [PyData.shown, listText, Str.length_append]
      have := len_text n _ 0 (Str.ofString "[") (shownAll_len (ps := ps) fun p q => (hp p q).ln)
      rw [shownAll_length, toPyAll_len e] at this
      have e1 : (Str.ofString "[").length = 1 := rfl
      have e2 : (Str.ofString "]").length = 1 := rfl
      have := Nat.mul_le_mul_right (n + 2) h2
      omega
  | @tup k n n' m ds hm h h2 h3 ih =>
    obtain ⟨ps, e, hp⟩ := all_py ih
    refine ⟨.tuple ps, by unfold toPy; rw [e]; rfl, ?_, ?_, ?_⟩
    · simp only [PyData.showable]; exact showableAll_of fun p q => (hp p q).sh
    · simp only [PyData.depth]
      have := depthAll_of fun p q => (hp p q).dp
      omega
    · simp only [PyData.shown, tupleText, Str.length_append]
      have := len_join (Str.ofString ", ") n rfl _ (shownAll_len (ps := ps) fun p q => (hp p q).ln)
      rw [shownAll_length, toPyAll_len e] at this
      have e1 : (Str.ofString "(").length = 1 := rfl
      have e2 : (Str.ofString (if ((PyData.shownAll ps).length == 1) = true then ",)" else ")")).length ≤ 2 := by split <;> decide
      have := Nat.mul_le_mul_right (n + 2) h2
      omega
end DL
namespace DL
open PySem PySem.Spec PyProof.Rows L2
/-! ### plain data -/
def Pl (d : D) : Prop := ∃ k n, Nc k n d ∧ k ≤ 50 ∧ n ≤ 10000000
def PlAll (ds : List D) : Prop := ∀ d ∈ ds, Pl d
theorem Pl.py {d : D} (h : Pl d) : ∃ p, toPy d = some p ∧ p.showable = true ∧ p.depth ≤ 60 ∧ p.shown.length ≤ sizeLine := by
  obtain ⟨k, n, h, hk, hn⟩ := h
  obtain ⟨p, h1, h2⟩ := h.py
  refine ⟨p, h1, h2.sh, by have := h2.dp; omega, Nat.le_trans h2.ln ?_⟩
  rw [sizeLine_eq]
  omega
theorem Pl.some_py {d : D} (h : Pl d) : ∃ p, toPy d = some p := let ⟨p, h, _⟩ := h.py; ⟨p, h⟩
theorem part_le {m n n' l : Nat} (hm : m ≤ 1000) (h : m * (n + 2) + 3 ≤ n') (hl : l ≤ m) : l ≤ 1000 ∧ (0 < l → n ≤ n') := by
  constructor
  · omega
  · intro q
    have : 1 * (n + 2) ≤ m * (n + 2) := Nat.mul_le_mul_right _ (by omega)
    omega
theorem Pl.tup {xs : List D} (h : Pl (.tup xs)) : PlAll xs ∧ xs.length ≤ 100000 := by
  obtain ⟨k, n, h, hk, hn⟩ := h
  cases h with
  | tup h0 h1 h2 h3 =>
    obtain ⟨q1, q2⟩ := part_le h0 h1 h2
    exact ⟨fun d hd => ⟨_, _, h3 d hd, by omega, by have := q2 (List.length_pos_of_mem hd); omega⟩, by omega⟩
theorem Pl.lst {xs : List D} (h : Pl (.lst xs)) : PlAll xs ∧ xs.length ≤ 100000 := by
  obtain ⟨k, n, h, hk, hn⟩ := h
  cases h with
  | lst h0 h1 h2 h3 =>
    obtain ⟨q1, q2⟩ := part_le h0 h1 h2
    exact ⟨fun d hd => ⟨_, _, h3 d hd, by omega, by have := q2 (List.length_pos_of_mem hd); omega⟩, by omega⟩
/-! ### what it is an instance of -/
def isI : D → Bool
  | .int _ => true
  | .bl _ => true
  | _ => false
def isB : D → Bool
  | .bl _ => true
  | _ => false
def isT : D → Bool
  | .tup _ => true
  | _ => false
def isL : D → Bool
  | .lst _ => true
  | _ => false
section
variable {K' : PySem.W.Frag} {μ : Mu} {d : D} {Q : KD}
theorem isP_int (h : Pl d) (k : Q (.bl (isI d)) μ) : fIsP K' [d, .val (.ty "int")] μ Q := by
  obtain ⟨p, hp⟩ := h.some_py
  refine .inl ?_
  cases d with
  | ins C fs => cases hp
  | val v => cases hp
  | any P => cases hp
  | _ => exact ⟨_, _, _, _, _, rfl, rfl, rfl, rfl, k⟩
theorem isP_bool (h : Pl d) (k : Q (.bl (isB d)) μ) : fIsP K' [d, .val (.ty "bool")] μ Q := by
  obtain ⟨p, hp⟩ := h.some_py
  refine .inl ?_
  cases d with
  | ins C fs => cases hp
  | val v => cases hp
  | any P => cases hp
  | _ => exact ⟨_, _, _, _, _, rfl, rfl, rfl, rfl, k⟩
theorem isP_tuple (h : Pl d) (k : Q (.bl (isT d)) μ) : fIsP K' [d, .val (.ty "tuple")] μ Q := by
  obtain ⟨p, hp⟩ := h.some_py
  refine .inl ?_
  cases d with
  | ins C fs => cases hp
  | val v => cases hp
  | any P => cases hp
  | _ => exact ⟨_, _, _, _, _, rfl, rfl, rfl, rfl, k⟩
theorem isP_list (h : Pl d) (k : Q (.bl (isL d)) μ) : fIsP K' [d, .val (.ty "list")] μ Q := by
  obtain ⟨p, hp⟩ := h.some_py
  refine .inl ?_
  cases d with
  | ins C fs => cases hp
  | val v => cases hp
  | any P => cases hp
  | _ => exact ⟨_, _, _, _, _, rfl, rfl, rfl, rfl, k⟩
end
/-! ### mirrors -/
def isWhole : D → Bool
  | .int _ => true
  | _ => false
theorem whole_eq (d : D) : isWhole d = (isI d && !isB d) := by cases d <;> rfl
def isAxes : D → Bool
  | .int i => decide (1 ≤ i) && decide (i ≤ 3)
  | _ => false
def isVec (n : Int) : D → Bool
  | .tup xs => decide ((xs.length : Int) = n) && xs.all isWhole
  | _ => false
def isLoop (n : Int) : D → Bool
  | .tup [.int c, s] => decide (0 ≤ c) && isVec n s
  | _ => false
def isNest (n : Int) : D → Bool
  | .tup [.lst ls, p, a] => ls.all (isLoop n) && isVec n p && isWhole a
  | _ => false
/-! ### comprehensions whose parts change nothing -/
variable [AM : Amb] in
theorem comp_go {keep : Mu → Prop} {i : Nat} {dt : DT} {de : DE} {ρ : Ro} {a : Addr} {K : KD} {μ1 : Mu} (h0 : μ1 a = none) (hk : ∀ ds, keep (mup μ1 a (.lst ds))) (p : D → Bool) (f : D → D) :
    ∀ {xs acc : List D}, (∀ x ∈ xs, ∀ μ' (L : Bool → Mu → Prop), L (p x) μ' → dt (ρ.set i (some x)) μ' L) → (∀ x ∈ xs, p x = true → ∀ μ' (L : KD), L (f x) μ' → de (ρ.set i (some x)) μ' L) → acc.length + xs.length ≤ 100000 →
      K (.lst (acc ++ (xs.filter p).map f)) μ1 → dCompL keep (dName i) dt de ρ a K xs acc (mup μ1 a (.lst acc))
  | [], acc, _, _, _, k => ⟨hk _, mup_same, by rw [mdel_mup h0]; simpa using k⟩
  | x :: xs, acc, ht, he, hl, k => by
    simp only [List.length_cons] at hl
    refine ⟨hk _, ht x List.mem_cons_self _ _ ?_⟩
    have ht' : ∀ x ∈ xs, ∀ μ' (L : Bool → Mu → Prop), L (p x) μ' → dt (ρ.set i (some x)) μ' L := fun x hx => ht x (List.mem_cons_of_mem _ hx)
    have he' : ∀ x ∈ xs, p x = true → ∀ μ' (L : KD), L (f x) μ' → de (ρ.set i (some x)) μ' L := fun x hx => he x (List.mem_cons_of_mem _ hx)
    cases hp : p x with
    | true =>
      rw [if_pos rfl]
      refine he x List.mem_cons_self hp _ _ ⟨mup_same, by omega, ?_⟩
      rw [mup_mup]
      refine comp_go h0 hk p f ht' he' (by simp; omega) ?_
      rw [List.filter_cons_of_pos hp] at k
      simpa using k
    | false =>
      rw [if_neg (by simp)]
      refine comp_go h0 hk p f ht' he' (by omega) ?_
      rw [List.filter_cons_of_neg (by simp [hp])] at k
      exact k
variable [AM : Amb] in
theorem comp_map {keep : Mu → Prop} {i : Nat} {de : DE} {ρ : Ro} {a : Addr} {K : KD} {μ1 : Mu} (h0 : μ1 a = none) (hk : ∀ ds, keep (mup μ1 a (.lst ds))) (f : D → D) {xs : List D}
    (he : ∀ x ∈ xs, ∀ μ' (L : KD), L (f x) μ' → de (ρ.set i (some x)) μ' L) (hl : xs.length ≤ 100000) (k : K (.lst (xs.map f)) μ1) : dCompL keep (dName i) dYes de ρ a K xs [] (mup μ1 a (.lst [])) :=
  comp_go h0 hk (fun _ => true) f (fun _ _ _ _ q => q) (fun x hx _ => he x hx) (by simpa using hl) (by rw [List.nil_append, List.filter_eq_self.2 fun _ _ => rfl]; exact k)
variable [AM : Amb] in
theorem comp_filter {keep : Mu → Prop} {i : Nat} {dt : DT} {de : DE} {ρ : Ro} {a : Addr} {K : KD} {μ1 : Mu} (h0 : μ1 a = none) (hk : ∀ ds, keep (mup μ1 a (.lst ds))) (p : D → Bool) {xs : List D}
    (ht : ∀ x ∈ xs, ∀ μ' (L : Bool → Mu → Prop), L (p x) μ' → dt (ρ.set i (some x)) μ' L) (he : ∀ x ∈ xs, p x = true → ∀ μ' (L : KD), L x μ' → de (ρ.set i (some x)) μ' L) (hl : xs.length ≤ 100000) (k : K (.lst (xs.filter p)) μ1) : dCompL keep (dName i) dt de ρ a K xs [] (mup μ1 a (.lst [])) :=
  comp_go h0 hk p id ht (fun x hx h => he x hx h) (by simpa using hl) (by simpa using k)
theorem eq_emp {μ : Mu} {xs : List D} : ∃ b, EqB μ (.lst xs) (.lst []) b ∧ b = xs.isEmpty := by
  cases xs with
  | nil => exact ⟨_, .py (.py rfl) (.py rfl) rfl rfl, rfl⟩
  | cons x xs => exact ⟨_, .len (x := .lst (x :: xs)) (y := .lst []) rfl rfl (by simp), rfl⟩
theorem filter_emp {p q : D → Bool} (h : ∀ x, q x = !p x) : ∀ xs : List D, (xs.filter q).isEmpty = xs.all p
  | [] => rfl
  | x :: xs => by
    cases e : p x with
    | true =>
      rw [List.filter_cons_of_neg (by rw [h, e]; decide), filter_emp h xs]
      simp [e]
    | false =>
      rw [List.filter_cons_of_pos (by rw [h, e]; decide)]
      simp [e]
theorem bl_of {K : KD} {μ : Mu} {b c : Bool} (k : K (.bl b) μ) (e : b = c) : K (.bl c) μ := e ▸ k
end DL
namespace DL
open PySem PySem.Spec PyProof.Rows L2
theorem and_if {b : Bool} {A B : Prop} (h1 : b = true → A) (h2 : b = false → B) : if b = true then A else B := by
  cases b
  · exact h2 rfl
  · exact h1 rfl
theorem if_yes {A B : Prop} (h : A) : if true = true then A else B := by rw [if_pos rfl]; exact h
theorem loop_by {keep : Mu → Prop} {g : DG} {db : DS} {E : DEnds} (I : List D → Ro → Mu → Prop) (hk : ∀ r ρ μ, I r ρ μ → keep μ)
    (hs : ∀ x r ρ μ (N : Ro → Mu → Prop), I (x :: r) ρ μ → (∀ ρ' μ', I r ρ' μ' → N ρ' μ') → g x ρ μ fun ρ1 μ1 => db { E with nx := N, ct := N, bk := E.nx } ρ1 μ1) (he : ∀ ρ μ, I [] ρ μ → E.nx ρ μ) :
    ∀ xs ρ μ, I xs ρ μ → dLoop keep g db E xs ρ μ
  | [], ρ, μ, h => ⟨hk _ _ _ h, he _ _ h⟩
  | x :: xs, ρ, μ, h => ⟨hk _ _ _ h, hs x xs ρ μ _ h fun ρ' μ' => loop_by I hk hs he xs ρ' μ'⟩
/-! ### the things that change -/
theorem mup_comm {μ : Mu} {a b : Addr} {m n : MO} (h : a ≠ b) : mup (mup μ a m) b n = mup (mup μ b n) a m := by
  funext x
  unfold mup
  by_cases h1 : x = a
  · subst h1
    simp [h]
  · by_cases h2 : x = b
    · subst h2; simp [h1]
    · simp [h1, h2]
variable [AM : Amb] in
theorem comp_inv' {keep : Mu → Prop} {i : Nat} {dt : DT} (hd : ∀ ρ μ (L : Bool → Mu → Prop), L true μ → dt ρ μ L) {de : DE} {ρ : Ro} {c : Addr} {K : KD} (J : List D → Mu → Prop) (hn : ∀ acc μ, J acc μ → μ c = none) (hk : ∀ acc μ, J acc μ → keep (mup μ c (.lst acc))) :
    ∀ {xs acc : List D} {μ : Mu}, (∀ x ∈ xs, ∀ acc μ' (L : KD), acc.length ≤ 100000 → J acc μ' → (∀ y μ'', J (acc ++ [y]) μ'' → L y (mup μ'' c (.lst acc))) → de (ρ.set i (some x)) (mup μ' c (.lst acc)) L) →
      acc.length + xs.length ≤ 100000 → J acc μ → (∀ r μ', J r μ' → r.length = acc.length + xs.length → K (.lst r) μ') → dCompL keep (dName i) dt de ρ c K xs acc (mup μ c (.lst acc))
  | [], acc, μ, _, _, hj, k => ⟨hk _ _ hj, mup_same, by rw [mdel_mup (hn _ _ hj)]; exact k acc μ hj rfl⟩
  | x :: xs, acc, μ, hs, hl, hj, k => by
    simp only [List.length_cons] at hl
    refine ⟨hk _ _ hj, hd _ _ _ ?_⟩
    rw [if_pos rfl]
    refine hs x List.mem_cons_self acc μ _ (by omega) hj fun y μ'' hy => ⟨mup_same, by omega, ?_⟩
    rw [mup_mup]
    exact comp_inv' hd J hn hk (fun x hx => hs x (List.mem_cons_of_mem _ hx)) (by simp; omega) hy fun r μ' hr hl' => k r μ' hr (by rw [hl']; simp; omega)
variable [AM : Amb] in
theorem comp_inv {keep : Mu → Prop} {i : Nat} {de : DE} {ρ : Ro} {c : Addr} {K : KD} (J : List D → Mu → Prop) (hn : ∀ acc μ, J acc μ → μ c = none) (hk : ∀ acc μ, J acc μ → keep (mup μ c (.lst acc)))
    {xs : List D} {μ : Mu} (hs : ∀ x ∈ xs, ∀ acc μ' (L : KD), acc.length ≤ 100000 → J acc μ' → (∀ y μ'', J (acc ++ [y]) μ'' → L y (mup μ'' c (.lst acc))) → de (ρ.set i (some x)) (mup μ' c (.lst acc)) L)
      (hl : xs.length ≤ 100000) (hj : J [] μ) (k : ∀ r μ', J r μ' → r.length = xs.length → K (.lst r) μ') : dCompL keep (dName i) dYes de ρ c K xs [] (mup μ c (.lst [])) :=
  comp_inv' (fun _ _ _ h => h) J hn hk hs (by simpa using hl) hj fun r μ' hr hl' => k r μ' hr (by simpa using hl')
/-! ### freezing: what is done with a list changes no more -/
def dFrz (i : Nat) (de : DE) : DE := fun ρ μ K => ∃ a xs, ρ[i]? = some (some (.val (.ref a))) ∧ μ a = some (.lst xs) ∧ de (ρ.set i (some (.lst xs))) (mdel μ a) K
theorem l_frz [AM : Amb] {i : Nat} {te : TE} {de : DE} (h : Lift te de) : Lift te (dFrz i de) := by
  rintro ρ μ K ⟨a, xs, hi, hm, hk⟩ σ H0 H1 sl rw_ Q q
  obtain ⟨H0', e, r, rd⟩ := rw_.freeze hm
  refine h _ _ K hk σ H0' H1 ?_ r Q fun d v μ' H0'' H1' e2 => q d v μ' H0'' H1' (e.trans e2)
  have s1 := sl.mono e
  refine ⟨by simp [s1.len], fun j d hj => ?_⟩
  by_cases hij : i = j
  · subst hij
    obtain ⟨v, hv, rv⟩ := s1.at_ i _ hi
    have hlt : i < ρ.length := by
      rcases Nat.lt_or_ge i ρ.length with q | q
      · exact q
      · rw [List.getElem?_eq_none q] at hi; cases hi
    rw [List.getElem?_set_self hlt] at hj
    cases hj
    have := rv.val_of
    subst this
    exact ⟨_, hv, rd⟩
  · rw [List.getElem?_set_ne hij] at hj
    exact s1.at_ j d hj
/-! ### the script's slices -/
def fSlS (K' : PySem.W.Frag) (x : D) (lo hi : Option Int) (μ : Mu) (K : KD) : Prop := ∃ ns, x = D.scr K' ns ∧ K (.lst (cutD (ns.map D.int) lo hi)) μ
theorem all_map_int {H : Hp} : ∀ ns : List Int, DtAll H (ns.map V.int) (ns.map D.int)
  | [] => .nil
  | n :: ns => .cons (.int n) (all_map_int ns)
theorem l_slS [AM : Amb] {K' : PySem.W.Frag} {te : TE} {de : DE} {tl th : TO} {dl dh : DO} (he : Lift te de) (hl : LiftO tl dl) (hh : LiftO th dh) : Lift (tSl (rSlD K') te tl th) (dSl (fSlS K') de dl dh) := fun ρ μ K h σ H0 H1 sl rw_ Q q =>
  he ρ μ _ h σ H0 H1 sl rw_ _ fun x u μ1 H01 H11 e1 rw1 r1 h1 => hl ρ μ1 _ h1 σ H01 H11 (sl.mono e1) rw1 _ fun lo μ2 H02 H12 e2 rw2 h2 =>
    hh ρ μ2 _ h2 σ H02 H12 (sl.mono (e1.trans e2)) rw2 _ fun hi μ3 H03 H13 e3 rw3 h3 => by
      have r3 := (r1.mono e2).mono e3
      obtain ⟨ns, rfl, k⟩ := h3
      cases r3 with
      | any p _ =>
        obtain ⟨a, rfl, ha⟩ := p
        refine .inl ⟨a, ns.map V.int, rfl, Evl.ex_l rw3.ex ha, fun p hp => ?_⟩
        obtain ⟨e4, rw4⟩ := rw3.new (o := .lst (cutV (ns.map V.int) lo hi)) hp
        exact q _ _ μ3 _ _ (((e1.trans e2).trans e3).trans e4) rw4 (.lst upd_same (cut_all (all_map_int ns) lo hi)) k
/-! ### {} -/
def dEmp : DE := fun _ μ K => K (.dct []) μ
theorem l_emp [AM : Amb] : Lift tDNewK dEmp := fun ρ μ K h σ H0 H1 sl rw_ Q q => fun p hp => by
  obtain ⟨e, r⟩ := rw_.new (o := .dK []) hp
  exact q _ _ μ _ _ e r (.dct upd_same rfl .nil) h
theorem atI_mem {xs : List D} {k : Int} (h0 : 0 ≤ k) (h1 : k < xs.length) : ∃ d, d ∈ xs ∧ atI xs k = some d := by
  have hk : k.toNat < xs.length := by omega
  refine ⟨xs[k.toNat], List.getElem_mem hk, ?_⟩
  unfold atI ixN
  rw [if_pos h0, if_pos h1]
  simp [hk]
/-! ### forgetting -/
def SubM (μ μ' : Mu) : Prop := ∀ b m, μ b = some m → μ' b = some m
theorem Rw.sub [AM : Amb] {μ ν : Mu} {H0 H1 : Hp} (r : Rw μ H0 H1) (h : SubM ν μ) : Rw ν H0 H1 := ⟨⟨r.ex, r.sys, fun a m hm => r.mu a m (h a m hm)⟩, r.am⟩
def dForget (de : DE) : DE := fun ρ μ K => de ρ μ fun d μ1 => ∃ ν, SubM ν μ1 ∧ K d ν
theorem l_forget [AM : Amb] {te : TE} {de : DE} (h : Lift te de) : Lift te (dForget de) := fun ρ μ K hk σ H0 H1 sl rw_ Q q =>
  h ρ μ _ hk σ H0 H1 sl rw_ Q fun d v μ1 H0' H1' e r rd ⟨ν, hs, k⟩ => q d v ν H0' H1' e (r.sub hs) rd k
/-! ### levels of data: at most four items each -/
def nn : Nat → Nat
  | 0 => 1100
  | j + 1 => 4 * (nn j + 2) + 3
theorem nn_ge : ∀ j, 1100 ≤ nn j
  | 0 => Nat.le_refl _
  | j + 1 => by have := nn_ge j; show 1100 ≤ 4 * (nn j + 2) + 3; omega
theorem nn_mono {j k : Nat} (h : j ≤ k) : nn j ≤ nn k := by
  induction h with
  | refl => exact Nat.le_refl _
  | step _ ih => refine Nat.le_trans ih ?_; show _ ≤ 4 * (nn _ + 2) + 3; omega
def Lv (j : Nat) (d : D) : Prop := Nc j (nn j) d
def LvAll (j : Nat) (ds : List D) : Prop := ∀ d ∈ ds, Lv j d
theorem Lv.mono {j k : Nat} {d : D} (h : Lv j d) (hk : j ≤ k) : Lv k d := Nc.mono h hk (nn_mono hk)
theorem LvAll.mono {j k : Nat} {ds : List D} (h : LvAll j ds) (hk : j ≤ k) : LvAll k ds := fun d hd => (h d hd).mono hk
theorem LvAll.nil {j : Nat} : LvAll j [] := fun _ h => (nomatch h)
theorem LvAll.cons {j : Nat} {d : D} {ds : List D} (h : Lv j d) (t : LvAll j ds) : LvAll j (d :: ds) := fun x hx => by
  rcases List.mem_cons.1 hx with rfl | hx
  · exact h
  · exact t x hx
theorem LvAll.append {j : Nat} {ds es : List D} (h : LvAll j ds) (t : LvAll j es) : LvAll j (ds ++ es) := fun x hx => (List.mem_append.1 hx).elim (h x) (t x)
theorem Lv.tup {j : Nat} {ds : List D} (hl : ds.length ≤ 4) (h : LvAll j ds) : Lv (j + 1) (.tup ds) := Nc.tup (by decide) (Nat.le_refl _) hl h
theorem Lv.lst {j : Nat} {ds : List D} (hl : ds.length ≤ 4) (h : LvAll j ds) : Lv (j + 1) (.lst ds) := Nc.lst (by decide) (Nat.le_refl _) hl h
theorem Lv.int {j : Nat} {i : Int} (h : -(10 ^ 250) < i) (h2 : i < 10 ^ 250) : Lv j (.int i) := Nc.int (by omega) (nn_ge j)
theorem Lv.non {j : Nat} : Lv j .non := Nc.non (Nat.le_trans (by decide) (nn_ge j))
theorem Lv.bl {j : Nat} {b : Bool} : Lv j (.bl b) := Nc.bl (Nat.le_trans (by decide) (nn_ge j))
theorem Lv.str {j : Nat} {x : Str} (h : (reprText x).length ≤ 1100) : Lv j (.str x) := Nc.str (Nat.le_trans h (nn_ge j))
theorem Lv.emp {j : Nat} : Lv (j + 1) (.dct []) := Nc.emp (Nat.le_trans (by decide) (nn_ge _))
theorem Lv.pl {j : Nat} {d : D} (h : Lv j d) (hj : j ≤ 6) : Pl d := ⟨6, nn 6, h.mono hj, by decide, by decide⟩
theorem cut_mem {xs : List D} {lo hi : Option Int} {d : D} (h : d ∈ cutD xs lo hi) : d ∈ xs := List.mem_of_mem_drop (List.mem_of_mem_take h)
theorem cut_len {xs : List D} {lo hi : Option Int} : (cutD xs lo hi).length ≤ xs.length := by unfold cutD; rw [List.length_take, List.length_drop]; omega
theorem LvAll.cut {j : Nat} {ds : List D} (h : LvAll j ds) {lo hi : Option Int} : LvAll j (cutD ds lo hi) := fun x hx => h x (cut_mem hx)
theorem cut_two {xs : List D} {k : Int} : (cutD xs none (some k)).length + (cutD xs (some k) none).length ≤ xs.length := by
  unfold cutD
  simp only [List.length_take, List.length_drop]
  have e : HT.sIx xs.length xs.length (some k) = HT.sIx xs.length 0 (some k) := rfl
  have e0 : HT.sIx xs.length 0 none = 0 := rfl
  rw [e, e0]
  omega
theorem leB {n m : Nat} (h : Nat.ble n m = true := by rfl) : n ≤ m := Nat.le_of_ble_eq_true h
theorem asL_m {μ : Mu} {a : Addr} {xs : List D} (h : μ a = some (.lst xs)) : asL μ (.val (.ref a)) = some xs := by
  show (match μ a with | some (.lst xs) => some xs | _ => none) = _
  rw [h]
theorem SubM.nil {μ μ' : Mu} (h : SubM μ μ') {p : Addr} (hp : μ' p = none) : μ p = none := by
  cases e : μ p with
  | none => rfl
  | some m => rw [h p m e] at hp; cases hp
theorem SubM.up {μ μ' : Mu} (h : SubM μ μ') {p : Addr} {m : MO} (hp : μ p = none) : SubM μ (mup μ' p m) := fun b n hb => by
  rw [mup_ne (fun z => by rw [z, hp] at hb; cases hb)]
  exact h b n hb
theorem SubM.refl {μ : Mu} : SubM μ μ := fun _ _ h => h
/-! ### numbers -/
theorem mulS {i j : Int} (h1 : -(2 ^ 250) < i) (h2 : i < 2 ^ 250) (h3 : -(2 ^ 250) < j) (h4 : j < 2 ^ 250) : CMulD i j := ⟨250, 250, by unfold Bt; omega, by unfold Bt; omega, by decide⟩
/-- a purse: its three numbers -/
def Pu (b : Int) (μ : Mu) (a : Addr) : Prop := ∃ p0 p1 p2 : Int, μ a = some (.lst [.int p0, .int p1, .int p2]) ∧ 0 ≤ p1 ∧ p1 < 2147483647 ∧ 0 ≤ p2 ∧ p2 ≤ b
theorem Pu.mono {b c : Int} {μ : Mu} {a : Addr} (h : Pu b μ a) (hb : b ≤ c) : Pu c μ a := let ⟨p0, p1, p2, h1, h2, h3, h4, h5⟩ := h; ⟨p0, p1, p2, h1, h2, h3, h4, by omega⟩
theorem Pu.up {b : Int} {μ : Mu} {a c : Addr} {m : MO} (h : Pu b μ a) (hc : a ≠ c) : Pu b (mup μ c m) a := let ⟨p0, p1, p2, h1, h2⟩ := h; ⟨p0, p1, p2, by rw [mup_ne hc]; exact h1, h2⟩
/-- a draw: below m, at least 0; only the purse has changed -/
def spDraw : DSp := fun ds μ Q _ => ∃ a m b, ds = [.val (.ref a), .int m] ∧ 1 ≤ m ∧ m < 2 ^ 200 ∧ b ≤ 10 ^ 8 ∧ Pu b μ a ∧ ∀ n l, 0 ≤ n → n < m → Pu (b + 10) (mup μ a (.lst l)) a → Q (.int n) (mup μ a (.lst l))
def spMixed : DSp := fun ds μ Q _ => ∃ c k : Int, ds = [.int c, .int k] ∧ 0 ≤ c ∧ c < 2147483647 ∧ 0 ≤ k ∧ k < 2 ^ 60 ∧ ∀ n : Int, 0 ≤ n → n < 2147483587 → Q (.int n) μ
def spPurse (K : PySem.W.Frag) : DSp := fun ds μ Q _ => ∃ (ns : List Int) (t : Int), ds = [D.scr K ns, .int t] ∧ 0 ≤ t ∧ t ≤ 63 ∧ ∀ a l, μ a = none → Pu 100000 (mup μ a (.lst l)) a → Q (.val (.ref a)) (mup μ a (.lst l))
/-- a cell drawn -/
def CellOk (n : Nat) (w : Int) (d : D) : Prop := ∃ is : List Int, d = .tup (is.map D.int) ∧ is.length = n ∧ ∀ i ∈ is, -w ≤ i ∧ i ≤ w
def spCell : DSp := fun ds μ Q _ => ∃ (a : Addr) (n : Nat) (w b : Int), ds = [.val (.ref a), .int n, .int w] ∧ n ≤ 3 ∧ 0 ≤ w ∧ w < 2 ^ 190 ∧ b ≤ 10 ^ 7 ∧ Pu b μ a ∧ ∀ d l, CellOk n w d → Pu (b + 30) (mup μ a (.lst l)) a → Q d (mup μ a (.lst l))
def LoopOk (n : Nat) (c w : Int) (d : D) : Prop := ∃ i s, d = .tup [.int i, s] ∧ 0 ≤ i ∧ i < c ∧ CellOk n w s
def NestOk (n : Nat) (c w : Int) (d : D) : Prop := ∃ ls p i, d = .tup [.lst ls, p, .int i] ∧ ls.length ≤ 3 ∧ (∀ x ∈ ls, LoopOk n c w x) ∧ CellOk n (2 * w) p ∧ -3 ≤ i ∧ i ≤ 3
theorem CellOk.lv {n : Nat} {w : Int} {d : D} (h : CellOk n w d) (hn : n ≤ 3) (hw : w < 2 ^ 190) : ∃ xs, d = .tup xs ∧ xs.length ≤ 3 ∧ LvAll 0 xs := by
  obtain ⟨is, rfl, hl, hi⟩ := h
  refine ⟨_, rfl, by simp; omega, fun x hx => ?_⟩
  obtain ⟨i, h1, rfl⟩ := List.mem_map.1 hx
  have := hi i h1
  exact .int (by omega) (by omega)
def spBent : DSp := fun ds μ Q _ => ∃ (a : Addr) (n : Nat) (c w b : Int) (e : D), ds = [.val (.ref a), e] ∧ n ≤ 3 ∧ c < 2 ^ 190 ∧ w < 2 ^ 180 ∧ b ≤ 10 ^ 7 ∧ NestOk n c w e ∧ Pu b μ a ∧
  ∀ d l, Lv 6 d → Pu (b + 30) (mup μ a (.lst l)) a → Q d (mup μ a (.lst l))
def spNest : DSp := fun ds μ Q _ => ∃ (a : Addr) (n : Nat) (c w b : Int), ds = [.val (.ref a), .int n, .int 3, .int c, .int w] ∧ n ≤ 3 ∧ 1 ≤ c ∧ c < 2 ^ 190 ∧ 0 ≤ w ∧ w < 2 ^ 180 ∧ b ≤ 10 ^ 6 ∧ Pu b μ a ∧
  ∀ d l, NestOk n c w d → Pu (b + 300) (mup μ a (.lst l)) a → Q d (mup μ a (.lst l))
/-! ### words whose reading names the written part -/
section
variable {X : Cx} {K : PySem.W.Frag} (h : X.K = K)
include h
theorem k_add : OpR X (binaryOp .Add) (rAddD K) := haveI : Amb := amb0; h ▸ op_addD
theorem k_mul : OpR X (binaryOp .Mult) (rMulD K) := haveI : Amb := amb0; h ▸ op_mulD
theorem k_ix : IxR X (rIx K) := h ▸ ix_seq
theorem k_sl : SlR X (rSlD K) := haveI : Amb := amb0; h ▸ sl_D
theorem k_len : CallR X (.builtin "len") (rLenD K) := haveI : Amb := amb0; h ▸ call_lenDD
theorem k_isP : CallR X (.builtin "isinstance") (rIsP K) := h ▸ call_isP
end
end DL
namespace DL
open PySem PySem.Spec PyProof.Rows L2
open Evl (Ex ex_rd ex_l ex_t fresh_back)
/-! ### a comprehension whose list goes on changing -/
def dCompLM (keep : Mu → Prop) (g : DG) (dt : DT) (de : DE) (ρ : Ro) (a : Addr) (K : KD) : List D → List D → Mu → Prop
  | [], acc, μ => keep μ ∧ μ a = some (.lst acc) ∧ K (.val (.ref a)) μ
  | x :: xs, acc, μ => keep μ ∧ g x ρ μ fun ρ1 μ1 => dt ρ1 μ1 fun b μ2 => if b = true then de ρ1 μ2 fun y μ3 => μ3 a = some (.lst acc) ∧ acc.length < 100000 ∧ dCompLM keep g dt de ρ a K xs (acc ++ [y]) (mup μ3 a (.lst (acc ++ [y])))
    else dCompLM keep g dt de ρ a K xs acc μ2
theorem dCompLM_keep {keep : Mu → Prop} {g : DG} {dt : DT} {de : DE} {ρ : Ro} {a : Addr} {K : KD} : ∀ {xs acc : List D} {μ : Mu}, dCompLM keep g dt de ρ a K xs acc μ → keep μ
  | [], _, _, h => h.1
  | _ :: _, _, _, h => h.1
def dCompM (di : DI) (g : DG) (dt : DT) (de : DE) (vs : List Nat) : DE := fun ρ μ K => di ρ μ fun xs keep μ1 => ∀ a, μ1 a = none → dCompLM keep g dt de (wipeD ρ vs) a K xs [] (mup μ1 a (.lst []))
section
variable [AM : Amb]
def CompWM (H0 : Hp) (keep : Mu → Prop) (g : DG) (dt : DT) (de : DE) (ρ : Ro) (a : Addr) (K : KD) (xs : List D) (i : Nat) (H : Hp) : Prop := ∃ acc μ H0', Ex H0 H0' ∧ Rw μ H0' H ∧ dCompLM keep g dt de ρ a K (xs.drop i) acc μ
theorem l_compM {wi : TI} {di : DI} {g : TG} {dg : DG} {tt : TT} {dt : DT} {te : TE} {de : DE} {vs : List Nat} (hi : LiftI wi di) (hg : LiftGW vs g dg) (ht : LiftT tt dt) (he : Lift te de) : Lift (tLc wi g tt te vs) (dCompM di dg dt de vs) := fun ρ μ K h σ H0 H1 sl rw_ Q q =>
  hi ρ μ _ h σ H0 H1 sl rw_ _ fun xs keep μ1 H01 H11 J e1 rw1 k ⟨G, Y, w1, w2, w3⟩ => fun a ha => by
    obtain ⟨hm, rw2⟩ := rw1.newM (vs := []) (ds := []) ha .nil
    have slw := (sl.mono e1).wiped vs
    refine lc_it w1 (CompWM H01 keep dg dt de (wipeD ρ vs) a K xs) ⟨[], _, H01, exr _, rw2, k a hm⟩ ?_ ?_ ?_
    · rintro i H _ ⟨acc, μ', H0', e, r', h'⟩
      exact w2 H0' H μ' e r' (dCompLM_keep h')
    · rintro i v H H' hi ⟨acc, μ', H0', e, r', h'⟩ y
      obtain ⟨H02, d, e2, r2, hd, rd⟩ := w3 i v H H' H0' μ' hi e r' (dCompLM_keep h') y
      rw [get_drop hd] at h'
      refine hg d _ μ' _ h'.2 v (wipe σ vs) H02 H' rd (slw.mono (e.trans e2)) r2 _ fun ρ1 μ2 σ1 H03 H13 ag e3 sl1 rw3 k1 => ?_
      refine ⟨(wipe_agree ((agree_wipe σ vs).trans ag)), ?_⟩
      refine ht ρ1 μ2 _ k1 σ1 H03 H13 sl1 rw3 _ fun b μ3 H04 H14 e4 rw4 k2 => ?_
      have e04 := ((e.trans e2).trans e3).trans e4
      cases b with
      | false => exact ⟨acc, μ3, H04, e04, rw4, k2⟩
      | true =>
        show te σ1 H14 _
        refine he ρ1 μ3 _ k2 σ1 H04 H14 (sl1.mono e4) rw4 _ fun y u μ4 H05 H15 e5 rw5 r5 ⟨h1, h2, h3⟩ => ?_
        obtain ⟨ws, hw, tw⟩ := rw5.atM h1
        exact ⟨ws, hw, Evl.sz_lt (by rw [tw.length]; exact h2), acc ++ [y], _, H05, e04.trans e5, rw5.setM h1 (tw.append (.cons r5 .nil)), h3⟩
    · rintro H ⟨acc, μ', H0', e, r', h'⟩
      rw [List.drop_length] at h'
      obtain ⟨_, h1, h2⟩ := h'
      exact q _ _ μ' H0' H (e1.trans e) r' (.val _) h2
theorem comp_invM' {keep : Mu → Prop} {i : Nat} {dt : DT} (hd : ∀ ρ μ (L : Bool → Mu → Prop), L true μ → dt ρ μ L) {de : DE} {ρ : Ro} {c : Addr} {K : KD} (J : List D → Mu → Prop) (hk : ∀ acc μ, J acc μ → keep μ) (hm : ∀ acc μ, J acc μ → μ c = some (.lst acc)) :
    ∀ {xs acc : List D} {μ : Mu}, (∀ x ∈ xs, ∀ acc μ' (L : KD), acc.length ≤ 100000 → J acc μ' → (∀ y μ'', μ'' c = some (.lst acc) → J (acc ++ [y]) (mup μ'' c (.lst (acc ++ [y]))) → L y μ'') → de (ρ.set i (some x)) μ' L) →
      acc.length + xs.length ≤ 100000 → J acc μ → (∀ r μ', J r μ' → r.length = acc.length + xs.length → K (.val (.ref c)) μ') → dCompLM keep (dName i) dt de ρ c K xs acc μ
  | [], acc, μ, _, _, hj, k => ⟨hk _ _ hj, hm _ _ hj, k acc μ hj rfl⟩
  | x :: xs, acc, μ, hs, hl, hj, k => by
    simp only [List.length_cons] at hl
    refine ⟨hk _ _ hj, hd _ _ _ ?_⟩
    rw [if_pos rfl]
    refine hs x List.mem_cons_self acc μ _ (by omega) hj fun y μ'' he hy => ⟨he, by omega, ?_⟩
    exact comp_invM' hd J hk hm (fun x hx => hs x (List.mem_cons_of_mem _ hx)) (by simp; omega) hy fun r μ' hr hl' => k r μ' hr (by rw [hl']; simp; omega)
theorem comp_invM {keep : Mu → Prop} {i : Nat} {de : DE} {ρ : Ro} {c : Addr} {K : KD} (J : List D → Mu → Prop) (hk : ∀ acc μ, J acc μ → keep μ) (hm : ∀ acc μ, J acc μ → μ c = some (.lst acc))
    {xs : List D} {μ : Mu} (hs : ∀ x ∈ xs, ∀ acc μ' (L : KD), acc.length ≤ 100000 → J acc μ' → (∀ y μ'', μ'' c = some (.lst acc) → J (acc ++ [y]) (mup μ'' c (.lst (acc ++ [y]))) → L y μ'') → de (ρ.set i (some x)) μ' L)
      (hl : xs.length ≤ 100000) (hj : J [] μ) (k : ∀ r μ', J r μ' → r.length = xs.length → K (.val (.ref c)) μ') : dCompLM keep (dName i) dYes de ρ c K xs [] μ :=
  comp_invM' (fun _ _ _ h => h) J hk hm hs (by simpa using hl) hj fun r μ' hr hl' => k r μ' hr (by simpa using hl')
end
variable [AM : Amb] in
theorem comp_invI' {keep : Mu → Prop} {i : Nat} {dt : DT} (hd : ∀ ρ μ (L : Bool → Mu → Prop), L true μ → dt ρ μ L) {de : DE} {ρ : Ro} {c : Addr} {K : KD} (J : List D → Mu → Prop) (hk : ∀ acc μ, J acc μ → keep μ) (hm : ∀ acc μ, J acc μ → μ c = some (.lst acc))
    {ys : List D} (hs : ∀ x acc μ' (L : KD), ys[acc.length]? = some x → J acc μ' → (∀ y μ'', μ'' c = some (.lst acc) → J (acc ++ [y]) (mup μ'' c (.lst (acc ++ [y]))) → L y μ'') → de (ρ.set i (some x)) μ' L) (hl : ys.length ≤ 100000) :
    ∀ (n : Nat) {acc : List D} {μ : Mu}, n + acc.length = ys.length → J acc μ → (∀ r μ', J r μ' → r.length = ys.length → K (.val (.ref c)) μ') → dCompLM keep (dName i) dt de ρ c K (ys.drop acc.length) acc μ
  | 0, acc, μ, hn, hj, k => by
    rw [List.drop_eq_nil_of_le (by omega)]
    exact ⟨hk _ _ hj, hm _ _ hj, k acc μ hj (by omega)⟩
  | n + 1, acc, μ, hn, hj, k => by
    have hx : ys[acc.length]? = some ys[acc.length] := List.getElem?_eq_getElem (by omega)
    rw [get_drop hx]
    refine ⟨hk _ _ hj, hd _ _ _ ?_⟩
    rw [if_pos rfl]
    refine hs _ acc μ _ hx hj fun y μ'' he hy => ⟨he, by omega, ?_⟩
    have := comp_invI' hd J hk hm hs hl n (acc := acc ++ [y]) (by simp; omega) hy k
    rw [List.length_append] at this
    exact this
variable [AM : Amb] in
theorem comp_invI {keep : Mu → Prop} {i : Nat} {de : DE} {ρ : Ro} {c : Addr} {K : KD} (J : List D → Mu → Prop) (hk : ∀ acc μ, J acc μ → keep μ) (hm : ∀ acc μ, J acc μ → μ c = some (.lst acc))
    {ys : List D} (hs : ∀ x acc μ' (L : KD), ys[acc.length]? = some x → J acc μ' → (∀ y μ'', μ'' c = some (.lst acc) → J (acc ++ [y]) (mup μ'' c (.lst (acc ++ [y]))) → L y μ'') → de (ρ.set i (some x)) μ' L) (hl : ys.length ≤ 100000)
    {μ : Mu} (hj : J [] μ) (k : ∀ r μ', J r μ' → r.length = ys.length → K (.val (.ref c)) μ') : dCompLM keep (dName i) dYes de ρ c K ys [] μ :=
  comp_invI' (fun _ _ _ h => h) J hk hm hs hl ys.length (acc := []) (by simp) hj k
/-! ### nests as data of plain Lean -/
structure NestD where
  loops : List (Int × List Int)
  place : List Int
  amount : Int
def vec (s : List Int) : D := .tup (s.map D.int)
def loopD (l : Int × List Int) : D := .tup [.int l.1, vec l.2]
def NestD.d (N : NestD) : D := .tup [.lst (N.loops.map loopD), vec N.place, .int N.amount]
def moveL (p s : List Int) (k : Int) : List Int := List.zipWith (fun a b => a + k * b) p s
def scaleL (k : Int) (s : List Int) : List Int := s.map fun a => k * a
def stepAt (N : NestD) (at_ : Nat) : List Int := (N.loops.getD at_ (0, [])).2
def countAt (N : NestD) (at_ : Nat) : Int := (N.loops.getD at_ (0, [])).1
def withN (N : NestD) (at_ : Nat) (ls : List (Int × List Int)) (k : Int) : NestD := ⟨N.loops.take at_ ++ ls ++ N.loops.drop (at_ + 1), moveL N.place (stepAt N at_) k, N.amount⟩
/-- numbers that may be multiplied -/
def Sm (i : Int) : Prop := -(2 ^ 250) < i ∧ i < 2 ^ 250
def SmAll (s : List Int) : Prop := ∀ i ∈ s, Sm i
theorem mulSm {i j : Int} (h : Sm i) (g : Sm j) : CMulD i j := mulS h.1 h.2 g.1 g.2
/-- a nest told: its list is new -/
def tn (p : Addr × NestD) : D := .tup [.val (.ref p.1), vec p.2.place, .int p.2.amount]
/-- nests told in a list: all lists are new and unlike -/
def Told (μ0 μ : Mu) (d : D) (Ns : List NestD) : Prop := ∃ (t : Addr) (ps : List (Addr × NestD)), d = .val (.ref t) ∧ ps.map (·.2) = Ns ∧ μ t = some (.lst (ps.map tn)) ∧ (∀ p ∈ ps, μ p.1 = some (.lst (p.2.loops.map loopD)) ∧ μ0 p.1 = none ∧ p.1 ≠ t) ∧ (ps.map (·.1)).Nodup ∧ μ0 t = none ∧ SubM μ0 μ
theorem cut_take {α : Type} (f : α → D) (xs : List α) (k : Nat) : cutD (xs.map f) none (some (k : Int)) = (xs.take k).map f := by
  unfold cutD
  have e0 : HT.sIx (xs.map f).length 0 none = 0 := rfl
  have e1 : HT.sIx (xs.map f).length (xs.map f).length (some (k : Int)) = min k (xs.map f).length := by
    simp [HT.sIx]
    intro h
    omega
  rw [e0, e1]
  simp [List.map_take]
theorem cut_drop {α : Type} (f : α → D) (xs : List α) (k : Nat) : cutD (xs.map f) (some (k : Int)) none = (xs.drop k).map f := by
  unfold cutD
  have e0 : HT.sIx (xs.map f).length 0 (some (k : Int)) = min k (xs.map f).length := by
    simp [HT.sIx]
    intro h
    omega
  have e1 : HT.sIx (xs.map f).length (xs.map f).length none = (xs.map f).length := rfl
  rw [e0, e1]
  rw [List.map_drop]
  generalize xs.map f = ys
  rcases Nat.le_total k ys.length with h | h
  · rw [Nat.min_eq_left h, List.take_of_length_le (by rw [List.length_drop]; omega)]
  · rw [Nat.min_eq_right h, List.drop_eq_nil_of_le (Nat.le_refl _), List.drop_eq_nil_of_le h]; simp
theorem atI_nat {xs : List D} {k : Nat} {d : D} (h : xs[k]? = some d) : atI xs (k : Int) = some d := by
  have hk : k < xs.length := by
    rcases Nat.lt_or_ge k xs.length with q | q
    · exact q
    · rw [List.getElem?_eq_none q] at h; cases h
  unfold atI ixN
  rw [if_pos (by omega), if_pos (by omega)]
  simpa using h
variable [AM : Amb] in
theorem comp_mapG {keep : Mu → Prop} {g : DG} {de : DE} {ρ : Ro} {a : Addr} {K : KD} {μ1 : Mu} (h0 : μ1 a = none) (hk : ∀ ds, keep (mup μ1 a (.lst ds))) (f : D → D) :
    ∀ {xs acc : List D}, (∀ x ∈ xs, ∀ μ' (L : KD), L (f x) μ' → g x ρ μ' fun ρ1 μ1 => de ρ1 μ1 L) → acc.length + xs.length ≤ 100000 → K (.lst (acc ++ xs.map f)) μ1 → dCompL keep g dYes de ρ a K xs acc (mup μ1 a (.lst acc))
  | [], acc, _, _, k => ⟨hk _, mup_same, by rw [mdel_mup h0]; simpa using k⟩
  | x :: xs, acc, he, hl, k => by
    simp only [List.length_cons] at hl
    refine ⟨hk _, ?_⟩
    refine he x List.mem_cons_self _ (fun y μ3 => μ3 a = some (.lst acc) ∧ acc.length < 100000 ∧ dCompL keep g dYes de ρ a K xs (acc ++ [y]) (mup μ3 a (.lst (acc ++ [y])))) ⟨mup_same, by omega, ?_⟩
    rw [mup_mup]
    exact comp_mapG h0 hk f (fun x hx => he x (List.mem_cons_of_mem _ hx)) (by simp; omega) (by simpa using k)
def zipF (f : Int → Int → Int) : D → D
  | .tup [.int a, .int b] => .int (f a b)
  | _ => .non
theorem zip_map {f : Int → Int → Int} : ∀ (p s : List Int), (pairsD (p.map D.int) (s.map D.int)).map (zipF f) = (List.zipWith f p s).map D.int
  | [], _ => by simp [pairsD]
  | _ :: _, [] => by simp [pairsD]
  | a :: p, b :: s => by
    have h := zip_map (f := f) p s
    unfold pairsD at h ⊢
    simp only [List.map_cons, List.zipWith_cons_cons, h, zipF]
theorem pairs_mem {p s : List Int} {x : D} (h : x ∈ pairsD (p.map D.int) (s.map D.int)) : ∃ a b, x = .tup [.int a, .int b] ∧ a ∈ p ∧ b ∈ s := by
  unfold pairsD at h
  rw [List.zipWith_map_left, List.zipWith_map_right] at h
  obtain ⟨i, hi, e⟩ := List.mem_iff_getElem.1 h
  rw [List.getElem_zipWith] at e
  exact ⟨_, _, e.symm, List.getElem_mem _, List.getElem_mem _⟩
def anyNest (d : D) : Bool := isNest 1 d || (isNest 2 d || isNest 3 d)
def idxOk (n : Nat) : D → Bool
  | .int i => decide (0 ≤ i) && decide (i < n)
  | _ => false
def sizeOk (least : Int) (most : Option Int) : D → Bool
  | .int i => decide (least ≤ i) && (match most with | none => true | some m => decide (i ≤ m))
  | _ => false
def mostD : Option Int → D
  | none => .non
  | some m => .int m
/-! ### new lists, one after another -/
structure Acc (μ0 μ : Mu) (ps : List (Addr × NestD)) : Prop where
  at_ : ∀ p ∈ ps, μ p.1 = some (.lst (p.2.loops.map loopD)) ∧ μ0 p.1 = none
  nd : (ps.map (·.1)).Nodup
  sub : SubM μ0 μ
theorem Acc.nil {μ : Mu} : Acc μ μ [] := ⟨fun _ h => (nomatch h), List.nodup_nil, SubM.refl⟩
theorem Acc.add {μ0 μ : Mu} {ps : List (Addr × NestD)} (h : Acc μ0 μ ps) {q : Addr} (N : NestD) (hq : μ q = none) : Acc μ0 (mup μ q (.lst (N.loops.map loopD))) (ps ++ [(q, N)]) := by
  have hne : ∀ p ∈ ps, p.1 ≠ q := fun p hp e => by have := (h.at_ p hp).1; rw [e, hq] at this; cases this
  refine ⟨fun p hp => ?_, ?_, h.sub.up (h.sub.nil hq)⟩
  · rcases List.mem_append.1 hp with hp | hp
    · exact ⟨by rw [mup_ne (hne p hp)]; exact (h.at_ p hp).1, (h.at_ p hp).2⟩
    · rw [List.mem_singleton.1 hp]; exact ⟨mup_same, h.sub.nil hq⟩
  · rw [List.map_append, List.nodup_append]
    refine ⟨h.nd, by simp, fun a ha b hb => ?_⟩
    obtain ⟨p, hp, rfl⟩ := List.mem_map.1 ha
    have : b = q := by simpa using hb
    subst this
    exact hne p hp
theorem Acc.upd {μ0 μ : Mu} {ps : List (Addr × NestD)} (h : Acc μ0 μ ps) {c : Addr} {m : MO} (hc : ∀ p ∈ ps, p.1 ≠ c) (h0 : μ0 c = none) : Acc μ0 (mup μ c m) ps :=
  ⟨fun p hp => ⟨by rw [mup_ne (hc p hp)]; exact (h.at_ p hp).1, (h.at_ p hp).2⟩, h.nd, h.sub.up h0⟩
theorem Acc.new {μ0 μ : Mu} {ps : List (Addr × NestD)} (h : Acc μ0 μ ps) {c : Addr} (hc : μ c = none) : ∀ p ∈ ps, p.1 ≠ c := fun p hp e => by have := (h.at_ p hp).1; rw [e, hc] at this; cases this
theorem Acc.told {μ0 μ : Mu} {ps : List (Addr × NestD)} (h : Acc μ0 μ ps) {t : Addr} (ht : μ t = some (.lst (ps.map tn))) (h0 : μ0 t = none) (hn : ∀ p ∈ ps, p.1 ≠ t) {Ns : List NestD} (e : ps.map (·.2) = Ns) : Told μ0 μ (.val (.ref t)) Ns :=
  ⟨t, ps, rfl, e, ht, fun p hp => ⟨(h.at_ p hp).1, (h.at_ p hp).2, hn p hp⟩, h.nd, h0, h.sub⟩
theorem Acc.tell {μ0 μ : Mu} {ps : List (Addr × NestD)} (h : Acc μ0 μ ps) {t : Addr} (ht : μ t = none) : Told μ0 (mup μ t (.lst (ps.map tn))) (.val (.ref t)) (ps.map (·.2)) :=
  (h.upd (h.new ht) (h.sub.nil ht)).told mup_same (h.sub.nil ht) (h.new ht) rfl
/-- a nest that can be handed over -/
structure Val (N : NestD) : Prop where
  n1 : 1 ≤ N.place.length
  n3 : N.place.length ≤ 3
  ll : N.loops.length ≤ 8
  lp : ∀ l ∈ N.loops, 0 ≤ l.1 ∧ l.1 < 10 ^ 60 ∧ l.2.length = N.place.length ∧ ∀ x ∈ l.2, -(10 ^ 60) < x ∧ x < 10 ^ 60
  pl : ∀ x ∈ N.place, -(10 ^ 200) < x ∧ x < 10 ^ 200
  am : -(10 ^ 200) < N.amount ∧ N.amount < 10 ^ 200
theorem vec_lv {s : List Int} (h : s.length ≤ 4) (hb : ∀ x ∈ s, -(10 ^ 250) < x ∧ x < 10 ^ 250) : Lv 1 (vec s) := by
  refine Lv.tup (by rw [List.length_map]; exact h) fun d hd => ?_
  obtain ⟨x, hx, rfl⟩ := List.mem_map.1 hd
  exact .int (hb x hx).1 (hb x hx).2
theorem vec_isVec {s : List Int} {n : Int} (h : (s.length : Int) = n) : isVec n (vec s) = true := by
  show (decide (((s.map D.int).length : Int) = n) && (s.map D.int).all isWhole) = true
  rw [List.length_map, decide_eq_true h, Bool.true_and, List.all_eq_true]
  intro x hx
  obtain ⟨i, _, rfl⟩ := List.mem_map.1 hx
  rfl
theorem Val.Pl {N : NestD} (h : Val N) : Pl N.d := by
  have hl : ∀ d ∈ N.loops.map loopD, Lv 2 d := fun d hd => by
    obtain ⟨l, hl, rfl⟩ := List.mem_map.1 hd
    obtain ⟨a, b, c, e⟩ := h.lp l hl
    exact .tup leB (.cons (.int (by omega) (by omega)) (.cons (vec_lv (by rw [c]; have := h.n3; omega) fun x hx => by have := e x hx; omega) .nil))
  refine ⟨4, 10 * (10 * (nn 2 + 2) + 3 + 2) + 3, .tup (k := 3) (n := 10 * (nn 2 + 2) + 3) (m := 10) (by decide) (Nat.le_refl _) leB fun d hd => ?_, by decide, by decide⟩
  simp only [List.mem_cons, List.not_mem_nil, or_false] at hd
  rcases hd with rfl | rfl | rfl
  · exact .lst (by decide) (Nat.le_refl _) (by rw [List.length_map]; have := h.ll; omega) hl
  · exact Nc.mono (vec_lv (by have := h.n3; omega) fun x hx => by have := h.pl x hx; omega) (by decide) (by decide)
  · exact Nc.mono (Lv.int (j := 0) (by have := h.am; omega) (by have := h.am; omega)) (by decide) (by decide)
theorem Val.isNest {N : NestD} (h : Val N) : isNest N.place.length N.d = true := by
  show ((N.loops.map loopD).all (isLoop N.place.length) && isVec N.place.length (vec N.place) && true) = true
  rw [vec_isVec rfl, Bool.and_true, Bool.and_true, List.all_eq_true]
  intro x hx
  obtain ⟨l, hl, rfl⟩ := List.mem_map.1 hx
  obtain ⟨a, b, c, e⟩ := h.lp l hl
  show (decide (0 ≤ l.1) && isVec N.place.length (vec l.2)) = true
  rw [decide_eq_true a, vec_isVec (by rw [c])]; rfl
theorem Val.any {N : NestD} (h : Val N) : anyNest N.d = true := by
  have := h.isNest
  have h1 := h.n1
  have h3 := h.n3
  unfold anyNest
  have : N.place.length = 1 ∨ N.place.length = 2 ∨ N.place.length = 3 := by omega
  rcases this with e | e | e <;> rw [e] at this <;> simp_all
theorem Val.at {N : NestD} (h : Val N) {k : Nat} (hk : k < N.loops.length) : (N.loops.map loopD)[k]? = some (.tup [.int (countAt N k), vec (stepAt N k)]) ∧ 0 ≤ countAt N k ∧ countAt N k < 10 ^ 60 ∧ (stepAt N k).length = N.place.length ∧ ∀ x ∈ stepAt N k, -(10 ^ 60) < x ∧ x < 10 ^ 60 := by
  have hg : N.loops[k]? = some (N.loops.getD k (0, [])) := by simp [List.getD, hk]
  have hm : N.loops.getD k (0, []) ∈ N.loops := List.mem_of_getElem? hg
  exact ⟨by rw [List.getElem?_map, hg]; rfl, h.lp _ hm⟩
theorem idx_ok {n k : Nat} (h : k < n) : idxOk n (.int k) = true := by
  show (decide ((0 : Int) ≤ k) && decide ((k : Int) < n)) = true
  rw [decide_eq_true (by omega), decide_eq_true (by omega)]; rfl
theorem sm_of {s : List Int} (h : ∀ x ∈ s, -(10 ^ 60) < x ∧ x < 10 ^ 60) : SmAll s := fun x hx => by have := h x hx; unfold Sm; omega
/-- the state of a comprehension of new nests -/
def AccC (F : Nat → NestD) (μ0 : Mu) (c : Addr) (acc : List D) (μ : Mu) : Prop := ∃ ps : List (Addr × NestD), acc = ps.map tn ∧ μ c = some (.lst acc) ∧ Acc μ0 μ ps ∧ (∀ p ∈ ps, p.1 ≠ c) ∧ ps.map (·.2) = (List.range acc.length).map F
theorem AccC.start {F : Nat → NestD} {μ : Mu} {c : Addr} (hc : μ c = none) : AccC F μ c [] (mup μ c (.lst [])) := ⟨[], rfl, mup_same, Acc.nil.upd (fun _ h => (nomatch h)) hc, (fun _ h => (nomatch h)), rfl⟩
theorem AccC.step {F : Nat → NestD} {μ0 μ : Mu} {c q : Addr} {acc : List D} (h : AccC F μ0 c acc μ) (h0 : μ0 c = none) (hq : μ q = none) {N : NestD} (hN : N = F acc.length) :
    (mup μ q (.lst (N.loops.map loopD))) c = some (.lst acc) ∧ AccC F μ0 c (acc ++ [tn (q, N)]) (mup (mup μ q (.lst (N.loops.map loopD))) c (.lst (acc ++ [tn (q, N)]))) := by
  obtain ⟨ps, rfl, hc, ha, hn, hp⟩ := h
  have hcq : c ≠ q := fun e => by rw [e, hq] at hc; cases hc
  have a2 := ha.add N hq
  have hn2 : ∀ p ∈ ps ++ [(q, N)], p.1 ≠ c := fun p hp' => by
    rcases List.mem_append.1 hp' with h | h
    · exact hn p h
    · rw [List.mem_singleton.1 h]; exact hcq.symm
  refine ⟨by rw [mup_ne hcq]; exact hc, ps ++ [(q, N)], by simp, mup_same, a2.upd hn2 h0, hn2, ?_⟩
  rw [List.map_append, hp, List.length_append, List.length_singleton, List.range_succ, List.map_append]
  simp [hN]
theorem AccC.told {F : Nat → NestD} {μ0 μ : Mu} {c : Addr} {acc : List D} (h : AccC F μ0 c acc μ) (h0 : μ0 c = none) {n : Nat} (hn : acc.length = n) : Told μ0 μ (.val (.ref c)) ((List.range n).map F) := by
  obtain ⟨ps, rfl, hc, ha, hp, e⟩ := h
  rw [hn] at e
  exact ha.told hc h0 hp e
theorem ixN_nat {n k : Nat} (h : k < n) : ixN n (k : Int) = some k := by
  unfold ixN
  rw [if_pos (by omega), if_pos (by omega)]
  simp
/-! ### == of nests -/
def vecP (s : List Int) : PyData := .tuple (s.map PyData.int)
def loopP (l : Int × List Int) : PyData := .tuple [.int l.1, vecP l.2]
def NestD.py (N : NestD) : PyData := .tuple [.list (N.loops.map loopP), vecP N.place, .int N.amount]
theorem toPyAll_map {α : Type} {f : α → D} {g : α → PyData} (h : ∀ a, toPy (f a) = some (g a)) : ∀ xs : List α, toPyAll (xs.map f) = some (xs.map g)
  | [] => rfl
  | x :: xs => by
    simp only [List.map_cons]
    unfold toPyAll
    rw [h x, toPyAll_map h xs]; rfl
theorem vec_py (s : List Int) : toPy (vec s) = some (vecP s) := by
  unfold vec toPy
  rw [toPyAll_map (g := PyData.int) (fun _ => rfl)]; rfl
theorem loop_py (l : Int × List Int) : toPy (loopD l) = some (loopP l) := by
  unfold loopD toPy toPyAll
  rw [show toPyAll [vec l.2] = some [vecP l.2] by unfold toPyAll; rw [vec_py]; rfl]; rfl
theorem loops_py (ls : List (Int × List Int)) : toPy (.lst (ls.map loopD)) = some (.list (ls.map loopP)) := by
  unfold toPy
  rw [toPyAll_map loop_py]; rfl
theorem nest_py (N : NestD) : toPy N.d = some N.py := by
  unfold NestD.d
  unfold toPy
  have : toPyAll [.lst (N.loops.map loopD), vec N.place, .int N.amount] = some [.list (N.loops.map loopP), vecP N.place, .int N.amount] := by
    unfold toPyAll
    rw [loops_py]
    unfold toPyAll
    rw [vec_py]; rfl
  rw [this]; rfl
theorem eqv_vecs : ∀ s t : List Int, PyData.eqvAll (s.map PyData.int) (t.map PyData.int) = decide (s = t)
  | [], [] => rfl
  | [], _ :: _ => rfl
  | _ :: _, [] => rfl
  | a :: s, b :: t => by
    show (PyData.eqv (.int a) (.int b) && PyData.eqvAll (s.map PyData.int) (t.map PyData.int)) = _
    rw [eqv_vecs s t, show PyData.eqv (.int a) (.int b) = decide (a = b) from rfl]
    by_cases h : a = b <;> by_cases g : s = t <;> simp [h, g]
theorem eqv_vec (s t : List Int) : PyData.eqv (vecP s) (vecP t) = decide (s = t) := eqv_vecs s t
theorem eqv_loop (x y : Int × List Int) : PyData.eqv (loopP x) (loopP y) = decide (x = y) := by
  obtain ⟨a, s⟩ := x
  obtain ⟨b, t⟩ := y
  show (PyData.eqv (.int a) (.int b) && (PyData.eqv (vecP s) (vecP t) && true)) = _
  rw [eqv_vec, show PyData.eqv (.int a) (.int b) = decide (a = b) from rfl]
  by_cases h : a = b <;> by_cases g : s = t <;> simp [h, g]
theorem eqv_loops : ∀ s t : List (Int × List Int), PyData.eqvAll (s.map loopP) (t.map loopP) = decide (s = t)
  | [], [] => rfl
  | [], _ :: _ => rfl
  | _ :: _, [] => rfl
  | a :: s, b :: t => by
    show (PyData.eqv (loopP a) (loopP b) && PyData.eqvAll (s.map loopP) (t.map loopP)) = _
    rw [eqv_loops s t, eqv_loop]
    by_cases h : a = b <;> by_cases g : s = t <;> simp [h, g]
theorem eqv_nest (A B : NestD) : (PyData.eqv A.py B.py = true) ↔ A = B := by
  show (PyData.eqvAll (A.loops.map loopP) (B.loops.map loopP) && (PyData.eqv (vecP A.place) (vecP B.place) && (PyData.eqv (.int A.amount) (.int B.amount) && true))) = true ↔ _
  rw [eqv_loops, eqv_vec, show PyData.eqv (.int A.amount) (.int B.amount) = decide (A.amount = B.amount) from rfl]
  obtain ⟨a, b, c⟩ := A
  obtain ⟨a', b', c'⟩ := B
  simp
theorem eqv_nests : ∀ A B : List NestD, (PyData.eqvAll (A.map NestD.py) (B.map NestD.py) = true) ↔ A = B
  | [], [] => by simp [PyData.eqvAll]
  | [], _ :: _ => by simp [PyData.eqvAll]
  | _ :: _, [] => by simp [PyData.eqvAll]
  | a :: s, b :: t => by
    show (PyData.eqv a.py b.py && PyData.eqvAll (s.map NestD.py) (t.map NestD.py)) = true ↔ _
    rw [Bool.and_eq_true, eqv_nest, eqv_nests s t]
    simp
theorem lay_all {α : Type} {f : α → PyData} (h : ∀ a, (f a).canLay0 = true) : ∀ xs : List α, PyData.canLayAll0 (xs.map f) = true
  | [] => rfl
  | x :: xs => by
    show ((f x).canLay0 && PyData.canLayAll0 (xs.map f)) = true
    rw [h x, lay_all h xs]; rfl
theorem lay_vec (s : List Int) : (vecP s).canLay0 = true := lay_all (f := PyData.int) (fun _ => rfl) s
theorem lay_loop (l : Int × List Int) : (loopP l).canLay0 = true := by
  show (true && ((vecP l.2).canLay0 && true)) = true
  rw [lay_vec]; rfl
theorem lay_nest (N : NestD) : N.py.canLay0 = true := by
  show (PyData.canLayAll0 (N.loops.map loopP) && ((vecP N.place).canLay0 && (true && true))) = true
  rw [lay_all lay_loop, lay_vec]; rfl
theorem dep_vec (s : List Int) : (vecP s).depth ≤ 1 := by
  have := depthAll_of (k := 0) (ps := s.map PyData.int) fun p hp => by
    obtain ⟨x, _, rfl⟩ := List.mem_map.1 hp
    simp [PyData.depth]
  unfold vecP
  simp only [PyData.depth]
  omega
theorem dep_loop (l : Int × List Int) : (loopP l).depth ≤ 2 := by
  have := dep_vec l.2
  unfold loopP
  simp only [PyData.depth, PyData.depthAll]
  omega
theorem dep_nest (N : NestD) : N.py.depth ≤ 4 := by
  have h1 := depthAll_of (k := 2) (ps := N.loops.map loopP) fun p hp => by
    obtain ⟨x, _, rfl⟩ := List.mem_map.1 hp
    exact dep_loop x
  have := dep_vec N.place
  unfold NestD.py
  simp only [PyData.depth, PyData.depthAll]
  omega
theorem shaped_nest (N : NestD) : SeqAt.shaped N.py = true := by
  have := dep_nest N
  unfold SeqAt.shaped
  rw [lay_nest, decide_eq_true (by omega)]; rfl
theorem shaped_nests (Ns : List NestD) : SeqAt.shaped (.list (Ns.map NestD.py)) = true := by
  have h1 := depthAll_of (k := 4) (ps := Ns.map NestD.py) fun p hp => by
    obtain ⟨x, _, rfl⟩ := List.mem_map.1 hp
    exact dep_nest x
  unfold SeqAt.shaped
  have e : PyData.canLay0 (.list (Ns.map NestD.py)) = true := lay_all lay_nest Ns
  have e2 : (PyData.list (Ns.map NestD.py)).depth ≤ 64 := by simp only [PyData.depth]; omega
  rw [e, decide_eq_true e2]; rfl
theorem vw_tn {μ : Mu} {q : Addr} {N : NestD} (h : μ q = some (.lst (N.loops.map loopD))) : Vw μ (tn (q, N)) N.py := by
  have hl : VwAll μ (N.loops.map loopD) (N.loops.map loopP) := by
    induction N.loops with
    | nil => exact .nil
    | cons x r ih => exact .cons (.py (loop_py x)) ih
  exact .tup (.cons (.adr h hl) (.cons (.py (vec_py _)) (.cons (.py rfl) .nil)))
theorem eq_nest {μ : Mu} {x y : D} {A B : NestD} (hx : Vw μ x A.py) (hy : Vw μ y B.py) : ∃ b, EqB μ x y b ∧ (b = true ↔ A = B) := ⟨_, .py hx hy (shaped_nest A) (shaped_nest B), eqv_nest A B⟩
theorem vw_told {μ0 μ : Mu} {d : D} {Ns : List NestD} (h : Told μ0 μ d Ns) : Vw μ d (.list (Ns.map NestD.py)) := by
  obtain ⟨t, ps, rfl, rfl, ht, hp, _⟩ := h
  refine .adr ht ?_
  have : ∀ ps : List (Addr × NestD), (∀ p ∈ ps, μ p.1 = some (.lst (p.2.loops.map loopD))) → VwAll μ (ps.map tn) ((ps.map (·.2)).map NestD.py) := fun ps => by
    induction ps with
    | nil => exact fun _ => .nil
    | cons p r ih => exact fun h => .cons (vw_tn (h p List.mem_cons_self)) (ih fun x hx => h x (List.mem_cons_of_mem _ hx))
  exact this ps fun p h => (hp p h).1
theorem nests_py (Ns : List NestD) : toPy (.lst (Ns.map NestD.d)) = some (.list (Ns.map NestD.py)) := by
  unfold toPy
  rw [toPyAll_map nest_py]; rfl
/-- told nests equal to the same nests as data -/
theorem eq_told {μ0 μ : Mu} {d : D} {Ns : List NestD} (h : Told μ0 μ d Ns) : EqB μ d (.lst (Ns.map NestD.d)) true := by
  have e := EqB.py (vw_told h) (Vw.py (μ := μ) (nests_py Ns)) (shaped_nests Ns) (shaped_nests Ns)
  have e2 : PyData.eqv (.list (Ns.map NestD.py)) (.list (Ns.map NestD.py)) = true := (eqv_nests Ns Ns).2 rfl
  rwa [e2] at e
variable [AM : Amb] in
/-- a comprehension that reads what changes, and changes nothing -/
theorem comp_mapS {keep : Mu → Prop} {i : Nat} {de : DE} {ρ : Ro} {a : Addr} {K : KD} {μ1 : Mu} (h0 : μ1 a = none) (hk : ∀ ds, keep (mup μ1 a (.lst ds))) (f : D → D) :
    ∀ {xs acc : List D}, (∀ x ∈ xs, ∀ ds (L : KD), L (f x) (mup μ1 a (.lst ds)) → de (ρ.set i (some x)) (mup μ1 a (.lst ds)) L) → acc.length + xs.length ≤ 100000 → K (.lst (acc ++ xs.map f)) μ1 → dCompL keep (dName i) dYes de ρ a K xs acc (mup μ1 a (.lst acc))
  | [], acc, _, _, k => ⟨hk _, mup_same, by rw [mdel_mup h0]; simpa using k⟩
  | x :: xs, acc, he, hl, k => by
    simp only [List.length_cons] at hl
    refine ⟨hk _, ?_⟩
    refine he x List.mem_cons_self _ (fun y μ3 => μ3 a = some (.lst acc) ∧ acc.length < 100000 ∧ dCompL keep (dName i) dYes de ρ a K xs (acc ++ [y]) (mup μ3 a (.lst (acc ++ [y])))) ⟨mup_same, by omega, ?_⟩
    rw [mup_mup]
    exact comp_mapS h0 hk f (fun x hx => he x (List.mem_cons_of_mem _ hx)) (by simp; omega) (by simpa using k)
theorem ints_py (s : List Int) : toPy (.lst (s.map D.int)) = some (.list (s.map PyData.int)) := by
  unfold toPy
  rw [toPyAll_map (g := PyData.int) (fun _ => rfl)]; rfl
theorem eq_ints {μ : Mu} (s : List Int) : EqB μ (.lst (s.map D.int)) (.lst (s.map D.int)) true := by
  have sh : SeqAt.shaped (.list (s.map PyData.int)) = true := by
    have h1 := depthAll_of (k := 0) (ps := s.map PyData.int) fun p hp => by
      obtain ⟨x, _, rfl⟩ := List.mem_map.1 hp
      simp [PyData.depth]
    unfold SeqAt.shaped
    have e : PyData.canLay0 (.list (s.map PyData.int)) = true := lay_all (f := PyData.int) (fun _ => rfl) s
    have e2 : (PyData.list (s.map PyData.int)).depth ≤ 64 := by simp only [PyData.depth]; omega
    rw [e, decide_eq_true e2]; rfl
  have e := EqB.py (μ := μ) (.py (ints_py s)) (.py (ints_py s)) sh sh
  have e2 : PyData.eqv (.list (s.map PyData.int)) (.list (s.map PyData.int)) = true := by
    show PyData.eqvAll _ _ = true
    rw [eqv_vecs]; simp
  rwa [e2] at e
theorem many_eq {c z m : Int} (hz : 0 < z) (m0 : 0 ≤ m) (m1 : m < z) : (c - m + z - 1) / z = c / z + (if decide (m < c % z) = true then 1 else 0) := by
  have e1 := Int.mul_ediv_add_emod c z
  have r0 := Int.emod_nonneg c (show z ≠ 0 by omega)
  have r1 := Int.emod_lt_of_pos c hz
  by_cases h : m < c % z
  · rw [decide_eq_true h, if_pos rfl]
    have e : c - m + z - 1 = (c % z - m - 1) + z * (c / z + 1) := by rw [Int.mul_add]; omega
    rw [e, Int.add_mul_ediv_left _ _ (by omega), Int.ediv_eq_zero_of_lt (by omega) (by omega)]; omega
  · rw [decide_eq_false h, if_neg (by simp)]
    have e : c - m + z - 1 = (c % z - m + z - 1) + z * (c / z) := by omega
    rw [e, Int.add_mul_ediv_left _ _ (by omega), Int.ediv_eq_zero_of_lt (by omega) (by omega)]; omega
end DL
namespace DL
open PySem PySem.Spec PyProof.Rows L2
/-! ### a tuple times 1 is the tuple itself -/
theorem once_mul (p : Addr) (ys : Array Value) (n : Nat) (dd : Option Addr) (sl : Array (Option Value)) (u : Tok) :
    Meets (Builtin.«tuple.__mul__» ⟨[.ref p, .int 1 u], []⟩) (fun _ R s => s.heap.get? p = some { cls := .type "tuple", dict := dd, data := .seq ys n, slots := sl } ∧ R (.ok (.ret (Value.ref p))) s) := by
  refine .of_wp fun prog w A R s both => ?_
  obtain ⟨h, g, d, tk, os⟩ := s
  obtain ⟨at_, fin⟩ := both
  have idx := AutoSeq1.idx_int
  have one : (ys.isEmpty || (1 : Int) == 1) = true := by simp
  wp_walk using wpAny_loadPart' at_
  exact ⟨_, rfl, fin⟩
/-- the reading: the tuple itself, nothing new -/
def rOnce (K : PySem.W.Frag) : R2 := fun x y H Q => ∃ p xs, x = .ref p ∧ y = .int 1 ∧ SqT K H p xs ∧ Q x H
theorem op_once {X : Cx} : OpR X (binaryOp .Mult) (rOnce X.K) := by
  rintro pins s σ H x y v u Q I rx ry ⟨p, xs, rfl, rfl, hT, q⟩
  cases rx
  obtain ⟨t, rfl⟩ := ry
  obtain ⟨ys, r, ⟨⟨kl, dd, da, sl⟩, hob, hcl, n, hda⟩, -⟩ := I.tuple hT
  simp only at hcl hda
  subst hcl hda
  have ty : s.TypeIs (.ref p) "tuple" := ⟨_, hob, rfl⟩
  have back := int_rmul_tuple 1 t p ys.toArray n dd sl
  have mine := call_meets F.slot_tuple_mul ty F.entry_tuple_mul (F.args_tuple_mul_2 _ _) (once_mul p ys.toArray n dd sl t) (A := X.A) (prog := X.prog) (w := X.w) (s := s) (Q := EP X pins σ Q) (E := X.xe) ⟨hob, ⟨.ref p, H, I, rfl, q⟩⟩
  refine wpAny_binaryOp_repeat_ref (T := "tuple") (U := "int") (by decide) ty (fun z => typeIs_int z 1 t) noFill_tuple_mul F.fills_int_mul
    F.slot_int_rmul repeat_tuple F.slot_int_index.lookup ?_
  exact call_meets F.slot_int_rmul (typeIs_int s 1 t) F.entry_int_rmul (F.args_int_rmul_2 _ _) back ⟨hob, rfl, ty, mine⟩
/-- times, a tuple once too -/
def rMulE (K : PySem.W.Frag) : R2 := fun x y H Q => rMulD K x y H Q ∨ rOnce K x y H Q
theorem op_mulE {X : Cx} : OpR X (binaryOp .Mult) (rMulE X.K) := haveI : Amb := amb0; op_mulD.or op_once
def fMulE : DO2 := fun x y μ K => fMul x y μ K ∨ ∃ xs, x = .tup xs ∧ y = .int 1 ∧ K x μ
theorem l2_mulE [AM : Amb] {K' : PySem.W.Frag} : Lift2 (rMulE K') fMulE := by
  intro x y μ K h u v H0 H1 rx ry rw_ Q q
  rcases h with h | ⟨xs, rfl, rfl, k⟩
  · exact .inl (l2_mul x y μ K h u v H0 H1 rx ry rw_ Q q)
  · obtain ⟨a, vs, rfl, ha, ta⟩ := rx.tup_of
    exact .inr ⟨a, vs, rfl, ry.int_of, SqT.of (rw_.ex _ _ ha), q _ _ μ H0 H1 (Evl.Ex.refl _) rw_ (.tup ha ta) k⟩
theorem k_mulE {X : Cx} {K : PySem.W.Frag} (h : X.K = K) : OpR X (binaryOp .Mult) (rMulE K) := h ▸ op_mulE
end DL
namespace DL
open PySem PySem.Spec PyProof.Rows L2
/-! ### a, b = a list -/
def dGLst (n : Nat) (gs : DGs) : DG := fun x ρ μ K => ∃ xs : List D, asL μ x = some xs ∧ xs.length = n ∧ gs xs ρ μ K
theorem lg_lst [AM : Amb] {K' : PySem.W.Frag} {n : Nat} {gs : TGs} {dgs : DGs} (h2 : LiftGs gs dgs) : LiftG (gLst K' n gs) (dGLst n dgs) := fun x ρ μ K ⟨xs, e, hn, k⟩ v σ H0 H1 r sl rw_ Q q => by
  obtain ⟨a, vs, rfl, ha, t⟩ := asL_at r rw_ e
  exact ⟨a, vs, rfl, SqL.of ha, by rw [t.length]; exact hn, h2 xs ρ μ K k vs σ H0 H1 t sl rw_ Q q⟩
/-! ### nests with one loop replaced -/
theorem moveL_zero {p s : List Int} (h : p.length = s.length) : moveL p s 0 = p := by
  unfold moveL
  induction p generalizing s with
  | nil => rfl
  | cons a p ih =>
    cases s with
    | nil => cases h
    | cons b s =>
      have e := ih (s := s) (by simpa using h)
      simp only [List.zipWith_cons_cons, Int.zero_mul, Int.add_zero] at e ⊢
      rw [e]
theorem moveL_len {p s : List Int} {k : Int} (h : p.length = s.length) : (moveL p s k).length = p.length := by simp [moveL, h]
theorem moveL_mem {p s : List Int} {k x : Int} (h : x ∈ moveL p s k) : ∃ a b, a ∈ p ∧ b ∈ s ∧ x = a + k * b := by
  unfold moveL at h
  obtain ⟨i, hi, e⟩ := List.mem_iff_getElem.1 h
  rw [List.getElem_zipWith] at e
  exact ⟨_, _, List.getElem_mem _, List.getElem_mem _, e.symm⟩
theorem getD_mid {α : Type} {xs ys : List α} {x d : α} {k : Nat} (h : xs.length = k) : (xs ++ [x] ++ ys).getD k d = x := by
  subst h
  simp [List.getD]
theorem count_with {N : NestD} {k : Nat} {x : Int × List Int} {r : Int} (h : k < N.loops.length) : countAt (withN N k [x] r) k = x.1 := by
  unfold countAt withN
  rw [getD_mid (by rw [List.length_take]; omega)]
theorem step_with {N : NestD} {k : Nat} {x : Int × List Int} {r : Int} (h : k < N.loops.length) : stepAt (withN N k [x] r) k = x.2 := by
  unfold stepAt withN
  rw [getD_mid (by rw [List.length_take]; omega)]
theorem take_mid {α : Type} {xs ys : List α} {x : α} {k : Nat} (h : xs.length = k) : (xs ++ [x] ++ ys).take k = xs := by
  subst h
  simp
theorem drop_mid {α : Type} {xs ys : List α} {x : α} {k : Nat} (h : xs.length = k) : (xs ++ [x] ++ ys).drop (k + 1) = ys := by
  subst h
  simp
theorem with_with {N : NestD} {k : Nat} {x : Int × List Int} {ls : List (Int × List Int)} {r t : Int} (h : k < N.loops.length) :
    withN (withN N k [x] r) k ls t = ⟨N.loops.take k ++ ls ++ N.loops.drop (k + 1), moveL (moveL N.place (stepAt N k) r) x.2 t, N.amount⟩ := by
  have hs := step_with (x := x) (r := r) h
  show (⟨(withN N k [x] r).loops.take k ++ ls ++ (withN N k [x] r).loops.drop (k + 1), moveL (withN N k [x] r).place (stepAt (withN N k [x] r) k) t, N.amount⟩ : NestD) = _
  rw [hs]
  unfold withN
  rw [take_mid (by rw [List.length_take]; omega), drop_mid (by rw [List.length_take]; omega)]
theorem with_self {N : NestD} {k : Nat} (h : k < N.loops.length) (hl : N.place.length = (stepAt N k).length) : withN N k [(countAt N k, stepAt N k)] 0 = N := by
  have hg : N.loops.getD k (0, []) = N.loops[k] := by simp [List.getD, h]
  unfold withN
  rw [moveL_zero hl]
  have e : (countAt N k, stepAt N k) = N.loops[k] := by unfold countAt stepAt; rw [hg]
  rw [e, List.append_assoc]
  have e2 : [N.loops[k]] ++ N.loops.drop (k + 1) = N.loops.drop k := by rw [List.singleton_append, List.getElem_cons_drop]
  rw [e2, List.take_append_drop]
/-- a nest with room to change it -/
structure ValS (N : NestD) : Prop where
  n1 : 1 ≤ N.place.length
  n3 : N.place.length ≤ 3
  ll : N.loops.length ≤ 6
  lp : ∀ l ∈ N.loops, 0 ≤ l.1 ∧ l.1 < 10 ^ 50 ∧ l.2.length = N.place.length ∧ ∀ x ∈ l.2, -(10 ^ 50) < x ∧ x < 10 ^ 50
  pl : ∀ x ∈ N.place, -(10 ^ 100) < x ∧ x < 10 ^ 100
  am : -(10 ^ 100) < N.amount ∧ N.amount < 10 ^ 100
/-- .. a little room -/
structure ValM (N : NestD) : Prop where
  n1 : 1 ≤ N.place.length
  n3 : N.place.length ≤ 3
  ll : N.loops.length ≤ 7
  lp : ∀ l ∈ N.loops, 0 ≤ l.1 ∧ l.1 < 10 ^ 59 ∧ l.2.length = N.place.length ∧ ∀ x ∈ l.2, -(10 ^ 59) < x ∧ x < 10 ^ 59
  pl : ∀ x ∈ N.place, -(10 ^ 199) < x ∧ x < 10 ^ 199
  am : -(10 ^ 199) < N.amount ∧ N.amount < 10 ^ 199
theorem ValM.loops {N : NestD} (h : ValM N) {ls : List (Int × List Int)} (hl : ls.length ≤ 8) (hls : ∀ l ∈ ls, l ∈ N.loops ∨ (0 ≤ l.1 ∧ l.1 < 10 ^ 60 ∧ l.2.length = N.place.length ∧ ∀ x ∈ l.2, -(10 ^ 60) < x ∧ x < 10 ^ 60)) : Val ⟨ls, N.place, N.amount⟩ :=
  ⟨h.n1, h.n3, hl, fun l hm => by
    rcases hls l hm with hm | hm
    · obtain ⟨a, b, c, d⟩ := h.lp l hm
      exact ⟨a, by omega, c, fun x hx => by have := d x hx; omega⟩
    · exact hm, fun x hx => by have := h.pl x hx; omega, by have := h.am; show -(10 ^ 200) < N.amount ∧ N.amount < 10 ^ 200; omega⟩
theorem ValM.val {N : NestD} (h : ValM N) : Val N := h.loops (by have := h.ll; omega) fun l hl => .inl hl
theorem ValM.place {N : NestD} (h : ValM N) {p : List Int} (hl : p.length = N.place.length) (hp : ∀ x ∈ p, -(10 ^ 200) < x ∧ x < 10 ^ 200) : Val ⟨N.loops, p, N.amount⟩ :=
  ⟨by rw [hl]; exact h.n1, by rw [hl]; exact h.n3, h.val.ll, fun l hm => by rw [hl]; exact h.val.lp l hm, hp, h.val.am⟩
theorem ValM.amount {N : NestD} (h : ValM N) : Val ⟨N.loops, N.place, N.amount + 1⟩ := ⟨h.n1, h.n3, h.val.ll, h.val.lp, h.val.pl, by have := h.am; show -(10 ^ 200) < N.amount + 1 ∧ N.amount + 1 < 10 ^ 200; omega⟩
theorem ValS.val {N : NestD} (h : ValS N) : Val N := ⟨h.n1, h.n3, by have := h.ll; omega, fun l hl => by
  obtain ⟨a, b, c, d⟩ := h.lp l hl
  exact ⟨a, by omega, c, fun x hx => by have := d x hx; omega⟩, fun x hx => by have := h.pl x hx; omega, by have := h.am; omega⟩
theorem ValS.at {N : NestD} (h : ValS N) {k : Nat} (hk : k < N.loops.length) : 0 ≤ countAt N k ∧ countAt N k < 10 ^ 50 ∧ (stepAt N k).length = N.place.length ∧ ∀ x ∈ stepAt N k, -(10 ^ 50) < x ∧ x < 10 ^ 50 := by
  have hg : N.loops[k]? = some (N.loops.getD k (0, [])) := by simp [List.getD, hk]
  exact h.lp _ (List.mem_of_getElem? hg)
theorem mul_lt {k b : Int} (h1 : -(10 ^ 60) ≤ k) (h2 : k ≤ 10 ^ 60) (h3 : -(10 ^ 60) ≤ b) (h4 : b ≤ 10 ^ 60) : -(10 ^ 120) ≤ k * b ∧ k * b ≤ 10 ^ 120 := by
  have e : (k * b).natAbs ≤ 10 ^ 60 * 10 ^ 60 := by rw [Int.natAbs_mul]; exact Nat.mul_le_mul (by omega) (by omega)
  have e2 : (10 : Nat) ^ 60 * 10 ^ 60 = 10 ^ 120 := by decide
  rw [e2] at e
  omega
theorem ValS.with {N : NestD} (h : ValS N) {k : Nat} (hk : k < N.loops.length) {ls : List (Int × List Int)} {r : Int} (hl : ls.length ≤ 2) (hr : -(10 ^ 60) < r ∧ r < 10 ^ 60)
    (hls : ∀ l ∈ ls, 0 ≤ l.1 ∧ l.1 < 10 ^ 59 ∧ l.2.length = N.place.length ∧ ∀ x ∈ l.2, -(10 ^ 59) < x ∧ x < 10 ^ 59) : ValM (withN N k ls r) := by
  obtain ⟨a, b, c, d⟩ := h.at hk
  have hp : (withN N k ls r).place.length = N.place.length := moveL_len c.symm
  refine ⟨by rw [hp]; exact h.n1, by rw [hp]; exact h.n3, ?_, ?_, ?_, ?_⟩
  · have := h.ll
    simp [withN]; omega
  · intro l hm
    rw [hp]
    have hm' : l ∈ N.loops ∨ l ∈ ls := by
      simp only [withN, List.mem_append] at hm
      rcases hm with (hm | hm) | hm
      · exact .inl (List.mem_of_mem_take hm)
      · exact .inr hm
      · exact .inl (List.mem_of_mem_drop hm)
    rcases hm' with hm | hm
    · obtain ⟨a, b, c, d⟩ := h.lp l hm
      exact ⟨a, by omega, c, fun x hx => by have := d x hx; omega⟩
    · exact hls l hm
  · intro x hx
    obtain ⟨u, v, hu, hv, rfl⟩ := moveL_mem (show x ∈ moveL N.place (stepAt N k) r from hx)
    have h1 := h.pl u hu
    have h2 := d v hv
    have h3 := mul_lt (k := r) (b := v) (by omega) (by omega) (by omega) (by omega)
    omega
  · have := h.am
    show -(10 ^ 199) < N.amount ∧ N.amount < 10 ^ 199
    omega
theorem if_no {A B : Prop} (h : B) : if false = true then A else B := by rw [if_neg (by decide)]; exact h
theorem map_cut {α : Type} (f : α → D) (xs : List α) (lo hi : Option Int) : ∃ ys : List α, cutD (xs.map f) lo hi = ys.map f ∧ ys = (xs.drop (HT.sIx xs.length 0 lo)).take (HT.sIx xs.length xs.length hi - HT.sIx xs.length 0 lo) := by
  refine ⟨_, ?_, rfl⟩
  unfold cutD
  rw [List.length_map, ← List.map_drop, ← List.map_take]
end DL
namespace DL
open PySem PySem.Spec PyProof.Rows L2
open Evl (Ex ex_rd ex_l ex_t fresh_back)
/-! ### tuples of ints: < -/
def fLtT : DO2 := fun x y μ K => ∃ ns ms : List Int, x = vec ns ∧ y = vec ms ∧ K (.bl (HT.lexLt ns ms)) μ
section
variable [AM : Amb]
theorem l2_ltT {K' : PySem.W.Frag} : Lift2 (rLtT K') fLtT := fun x y μ K ⟨ns, ms, e1, e2, k⟩ u v H0 H1 rx ry rw_ Q q => by
  subst e1 e2
  obtain ⟨a, vs, rfl, ha, ta⟩ := rx.tup_of
  obtain ⟨b, ws, rfl, hb, tb⟩ := ry.tup_of
  have ea := all_ints ta
  have eb := all_ints tb
  subst ea eb
  exact ⟨a, b, ns, ms, rfl, rfl, SqT.of (rw_.ex _ _ ha), SqT.of (rw_.ex _ _ hb), q _ _ μ H0 H1 (exr _) rw_ (.bl _) k⟩
/-! ### abs -/
def rAbsD : List V → Hp → VK → Prop := fun xs H Q => ∃ i, xs = [.int i] ∧ Q (.int (if i < 0 then -i else i)) H
theorem call_absD {X : Cx} : CallR X (.builtin "abs") rAbsD := call_abs
def fAbs : DOn := fun xs μ K => ∃ i, xs = [.int i] ∧ K (.int (if i < 0 then -i else i)) μ
theorem lc_abs : LiftC rAbsD fAbs := by
  intro xs μ K ⟨i, e, k⟩ us H0 H1 rx rw_ Q q
  subst e
  obtain ⟨u, rfl, r⟩ := vals_of_all rx
  rw [r.int_of]
  exact ⟨i, rfl, q _ _ μ H0 H1 (exr _) rw_ (.int _) k⟩
/-! ### sorted, of ints -/
def fSortI : DOn := fun xs μ K => ∃ (x : D) (ns : List Int), xs = [x] ∧ asL μ x = some (ns.map D.int) ∧ ∀ ns' : List Int, ns'.Perm ns → ns'.Pairwise (· ≤ ·) → K (.lst (ns'.map D.int)) μ
theorem lc_sortI {K' : PySem.W.Frag} : LiftC (rSortedI K') fSortI := by
  intro xs μ K ⟨x, ns, e, hx, k⟩ us H0 H1 rx rw_ Q q
  subst e
  obtain ⟨u, rfl, r⟩ := vals_of_all rx
  obtain ⟨a, vs, rfl, ha, t⟩ := asL_at r rw_ hx
  rw [all_ints t] at ha
  refine ⟨a, ns, rfl, SqL.of ha, fun ns' p hp hs hn => ?_⟩
  obtain ⟨e2, rw2⟩ := rw_.new (o := .lst (ns'.map V.int)) hn
  exact q _ _ μ _ _ e2 rw2 (.lst upd_same (all_map_int ns')) (k ns' hp hs)
/-! ### list(range ..), tuple(range ..) -/
abbrev DR := Ro → Mu → (Int → Int → Mu → Prop) → Prop
def LiftR (t : L2.St → Hp → (Int → Int → Hp → Prop) → Prop) (d : DR) : Prop := ∀ ρ μ K, d ρ μ K → ∀ σ H0 H1, Sl ρ σ H0 → Rw μ H0 H1 → ∀ Q : Int → Int → Hp → Prop,
  (∀ a b μ' H0' H1', Ex H0 H0' → Rw μ' H0' H1' → K a b μ' → Q a b H1') → t σ H1 Q
def dR1 (da : DE) : DR := fun ρ μ K => da ρ μ fun x μ1 => ∃ n, x = .int n ∧ K 0 n μ1
def dR2 (da db : DE) : DR := fun ρ μ K => da ρ μ fun x μ1 => db ρ μ1 fun y μ2 => ∃ i j, x = .int i ∧ y = .int j ∧ K i j μ2
theorem lr_1 {ta : TE} {da : DE} (ha : Lift ta da) : LiftR (tRg1 ta) (dR1 da) := fun ρ μ K h σ H0 H1 sl rw_ Q q =>
  ha ρ μ _ h σ H0 H1 sl rw_ _ fun x u μ1 H01 H11 e1 rw1 r1 ⟨n, ex, k⟩ => by subst ex; exact ⟨n, r1.int_of, q _ _ μ1 H01 H11 e1 rw1 k⟩
theorem lr_2 {ta tb : TE} {da db : DE} (ha : Lift ta da) (hb : Lift tb db) : LiftR (tRg2 ta tb) (dR2 da db) := fun ρ μ K h σ H0 H1 sl rw_ Q q =>
  ha ρ μ _ h σ H0 H1 sl rw_ _ fun x u μ1 H01 H11 e1 rw1 r1 h1 => hb ρ μ1 _ h1 σ H01 H11 (sl.mono e1) rw1 _ fun y v μ2 H02 H12 e2 rw2 r2 ⟨i, j, ex, ey, k⟩ => by
    subst ex ey
    exact ⟨i, j, (r1.mono e2).int_of, r2.int_of, q _ _ μ2 H02 H12 (e1.trans e2) rw2 k⟩
theorem all_rg {H : Hp} (a b : Int) : DtAll H (rgV a b) (rgD a (b - a).toNat) := by
  unfold rgV rgD
  generalize List.range (b - a).toNat = ks
  induction ks with
  | nil => exact .nil
  | cons k ks ih => exact .cons (.int _) ih
def dLstRg (dr : DR) : DE := fun ρ μ K => dr ρ μ fun a b μ1 => RgOk a b ∧ K (.lst (rgD a (b - a).toNat)) μ1
theorem l_lstRg {t : L2.St → Hp → (Int → Int → Hp → Prop) → Prop} {d : DR} (h : LiftR t d) : Lift (tLstRg t) (dLstRg d) := fun ρ μ K hk σ H0 H1 sl rw_ Q q =>
  h ρ μ _ hk σ H0 H1 sl rw_ _ fun a b μ1 H01 H11 e1 rw1 ⟨ok, k⟩ => ⟨ok, fun p hp => by
    obtain ⟨e2, rw2⟩ := rw1.new (o := .lst (rgV a b)) hp
    exact q _ _ μ1 _ _ (e1.trans e2) rw2 (.lst upd_same ((all_rg a b))) k⟩
def dTupRg (dr : DR) : DE := fun ρ μ K => dr ρ μ fun a b μ1 => RgOk a b ∧ K (.tup (rgD a (b - a).toNat)) μ1
theorem l_tupRg {t : L2.St → Hp → (Int → Int → Hp → Prop) → Prop} {d : DR} (h : LiftR t d) : Lift (tTupRg t) (dTupRg d) := fun ρ μ K hk σ H0 H1 sl rw_ Q q =>
  h ρ μ _ hk σ H0 H1 sl rw_ _ fun a b μ1 H01 H11 e1 rw1 ⟨ok, k⟩ => ⟨ok, fun p hp => by
    obtain ⟨e2, rw2⟩ := rw1.new (o := .tup (rgV a b)) hp
    exact q _ _ μ1 _ _ (e1.trans e2) rw2 (.tup upd_same ((all_rg a b))) k⟩
/-! ### xs.remove(k) -/
def dRem (da : DE) (de : DE) : DE := fun ρ μ K => da ρ μ fun x μ1 => ∃ a, x = .val (.ref a) ∧ (∃ ys, μ1 a = some (.lst ys)) ∧ de ρ μ1 fun y μ2 => ∃ (ns : List Int) (k : Int) (j : Nat), y = .int k ∧ μ2 a = some (.lst (ns.map D.int)) ∧ ns[j]? = some k ∧ (∀ m : Nat, m < j → ns[m]? ≠ some k) ∧ K .non (mup μ2 a (.lst ((ns.eraseIdx j).map D.int)))
theorem l_rem {K' : PySem.W.Frag} {ta te : TE} {da de : DE} (ha : Lift ta da) (he : Lift te de) : Lift (tBM K' "list" rRemI ta (tCons te tNil)) (dRem da de) := fun ρ μ K h σ H0 H1 sl rw_ Q q =>
  ha ρ μ _ h σ H0 H1 sl rw_ _ fun x v μ1 H01 H11 e1 rw1 r1 ⟨a, ex, ⟨ys, hy⟩, k⟩ => by
    subst ex
    have ev := r1.val_of
    subst ev
    obtain ⟨vs, hv, _⟩ := rw1.atM hy
    refine ⟨.inl ⟨rfl, vs, SqL.of hv⟩, ?_⟩
    exact he ρ μ1 _ k σ H01 H11 (sl.mono e1) rw1 _ fun y u μ2 H02 H12 e2 rw2 r2 ⟨ns, kk, j, ey, hx, h1, h2, k2⟩ => by
      subst ey
      obtain ⟨ws, hw, tw⟩ := rw2.atM hx
      rw [all_ints tw] at hw
      exact ⟨a, ns, kk, j, rfl, by rw [r2.int_of], hw, h1, h2, q .non .non _ _ _ (e1.trans e2) (rw2.setM hx (all_map_int _)) .non k2⟩
/-! ### while -/
def dWhile (c : DT) (d : DS) : DS := fun E ρ μ => ∃ W : Nat → Ro → Mu → Prop, (∃ m, W m ρ μ) ∧ ∀ m ρ μ, W m ρ μ →
  c ρ μ fun b μ1 => if b = true then d { E with nx := fun ρ' μ' => ∃ m', m' < m ∧ W m' ρ' μ', ct := fun ρ' μ' => ∃ m', m' < m ∧ W m' ρ' μ', bk := E.nx } ρ μ1 else E.nx ρ μ1
theorem ls_while {c : TT} {t : TS} {dc : DT} {d : DS} (hc : LiftT c dc) (h : LiftS t d) : LiftS (tWhile c t) (dWhile dc d) := fun E ρ μ ⟨W, ⟨m0, w0⟩, hs⟩ F σ H0 H1 sl rw_ l => by
  refine ⟨fun m σ' H' => ∃ ρ' μ' H0', Ex H0 H0' ∧ Sl ρ' σ' H0' ∧ Rw μ' H0' H' ∧ W m ρ' μ', ⟨m0, ρ, μ, H0, exr _, sl, rw_, w0⟩, ?_⟩
  rintro m σ' H' ⟨ρ', μ', H0', e0, sl', rw', w⟩
  refine hc ρ' μ' _ (hs m ρ' μ' w) σ' H0' H' sl' rw' _ fun b μ1 H01 H11 e1 rw1 k => ?_
  cases b with
  | true =>
    refine ⟨fun σ2 H2 => ∃ m', m' < m ∧ ∃ ρ2 μ2 H02, Ex H0 H02 ∧ Sl ρ2 σ2 H02 ∧ Rw μ2 H02 H2 ∧ W m' ρ2 μ2, fun _ _ z => z, ?_⟩
    refine h _ ρ' μ1 k _ σ' H01 H11 (sl'.mono e1) rw1 ⟨?_, ?_, ?_, ?_⟩
    · rintro ρ2 μ2 σ2 H02 H12 e2 sl2 rw2 ⟨m', hm, w'⟩
      exact ⟨m', hm, ρ2, μ2, H02, (e0.trans e1).trans e2, sl2, rw2, w'⟩
    · exact fun d v μ2 H02 H12 e2 => l.rt d v μ2 H02 H12 ((e0.trans e1).trans e2)
    · exact fun ρ2 μ2 σ2 H02 H12 e2 => l.nx ρ2 μ2 σ2 H02 H12 ((e0.trans e1).trans e2)
    · rintro ρ2 μ2 σ2 H02 H12 e2 sl2 rw2 ⟨m', hm, w'⟩
      exact ⟨m', hm, ρ2, μ2, H02, (e0.trans e1).trans e2, sl2, rw2, w'⟩
  | false => exact l.nx ρ' μ1 σ' H01 H11 (e0.trans e1) (sl'.mono e1) rw1 k
end
end DL
namespace DL
open PySem PySem.Spec PyProof.Rows L2
section
variable {ρ : Ro} {μ : Mu} {K : KD} {E : DEnds} {d e : DS} {de da db dc : DE} {dt du : DT} {dr : DA} {g : DG} {gs : DGs} {i : Nat} {o : Option D} {x y z : D} {xs ys : List D}
theorem a_seq : dSeq d e E ρ μ = d { E with nx := e E } ρ μ := rfl
theorem a_next : dNext E ρ μ = E.nx ρ μ := rfl
theorem a_brk : dBreak E ρ μ = E.bk ρ μ := rfl
theorem a_cont : dCont E ρ μ = E.ct ρ μ := rfl
theorem a_ifS : dIfS dt d e E ρ μ = dt ρ μ fun b μ1 => if b = true then d E ρ μ1 else e E ρ μ1 := rfl
theorem a_ret : dRet de E ρ μ = de ρ μ E.rt := rfl
theorem a_retN : dRetN E ρ μ = E.rt .non μ := rfl
theorem a_drop : dDrop de E ρ μ = de ρ μ fun _ μ1 => E.nx ρ μ1 := rfl
theorem a_asg : dAsg de g E ρ μ = de ρ μ fun x μ1 => g x ρ μ1 E.nx := rfl
theorem a_name {K : Ro → Mu → Prop} : dName i x ρ μ K = K (ρ.set i (some x)) μ := rfl
theorem a_gnil {K : Ro → Mu → Prop} : dGNil [] ρ μ K = K ρ μ := by simp [dGNil]
theorem a_gcons {K : Ro → Mu → Prop} : dGCons g gs (x :: xs) ρ μ K = g x ρ μ fun ρ1 μ1 => gs xs ρ1 μ1 K := by
  exact propext ⟨fun ⟨_, _, e, h⟩ => by cases e; exact h, fun h => ⟨_, _, rfl, h⟩⟩
theorem a_gtup2 {K : Ro → Mu → Prop} : dGTup 2 gs (.tup [x, y]) ρ μ K = gs [x, y] ρ μ K := by
  simp [dGTup]
theorem a_gtup3 {K : Ro → Mu → Prop} : dGTup 3 gs (.tup [x, y, z]) ρ μ K = gs [x, y, z] ρ μ K := by
  simp [dGTup]
theorem a_var0 : dVar 0 (some x :: ρ) μ K = K x μ := by simp [dVar]
theorem a_varS : dVar (i + 1) (o :: ρ) μ K = dVar i ρ μ K := by simp [dVar]
theorem a_c : dC x ρ μ K = K x μ := rfl
theorem a_op {f : DO2} : dOp f da db ρ μ K = da ρ μ fun x μ1 => db ρ μ1 fun y μ2 => f x y μ2 K := rfl
theorem a_un {f : D → Mu → KD → Prop} : dUn f da ρ μ K = da ρ μ fun x μ1 => f x μ1 K := rfl
theorem a_nil {K : List D → Mu → Prop} : dNil ρ μ K = K [] μ := rfl
theorem a_cons {K : List D → Mu → Prop} : dCons da dr ρ μ K = da ρ μ fun x μ1 => dr ρ μ1 fun xs μ2 => K (x :: xs) μ2 := rfl
theorem a_cb {f : DOn} : dCB f dr ρ μ K = dr ρ μ fun xs μ1 => f xs μ1 K := rfl
theorem a_tup : dTup dr ρ μ K = dr ρ μ fun xs μ1 => xs.length ≤ 100000 ∧ K (.tup xs) μ1 := rfl
theorem a_lst : dLst dr ρ μ K = dr ρ μ fun xs μ1 => xs.length ≤ 100000 ∧ K (.lst xs) μ1 := rfl
theorem a_lstM : dLstM dr ρ μ K = dr ρ μ fun xs μ1 => xs.length ≤ 100000 ∧ ∀ p, μ1 p = none → K (.val (.ref p)) (mup μ1 p (.lst xs)) := rfl
theorem a_ife : dIf dt da db ρ μ K = dt ρ μ fun b μ1 => if b = true then da ρ μ1 K else db ρ μ1 K := rfl
theorem a_test {K : Bool → Mu → Prop} : dTest da ρ μ K = da ρ μ fun x μ1 => ∃ b, x = .bl b ∧ K b μ1 := rfl
theorem a_and {K : Bool → Mu → Prop} : dAnd dt du ρ μ K = dt ρ μ fun c μ1 => if c = true then du ρ μ1 K else K false μ1 := rfl
theorem a_or {K : Bool → Mu → Prop} : dOr dt du ρ μ K = dt ρ μ fun c μ1 => if c = true then K true μ1 else du ρ μ1 K := rfl
theorem a_not {K : Bool → Mu → Prop} : dNot dt ρ μ K = dt ρ μ fun c μ1 => K (!c) μ1 := rfl
theorem a_andV : dAndV da db ρ μ K = da ρ μ fun x μ1 => ∃ c, x = .bl c ∧ if c = true then db ρ μ1 K else K (.bl false) μ1 := rfl
theorem a_orV : dOrV da db ρ μ K = da ρ μ fun x μ1 => ∃ c, x = .bl c ∧ if c = true then K (.bl true) μ1 else db ρ μ1 K := rfl
theorem a_notV : dNotV da ρ μ K = da ρ μ fun x μ1 => ∃ c, x = .bl c ∧ K (.bl (!c)) μ1 := rfl
theorem a_bl {b : Bool} {P : Bool → Prop} : (∃ c, D.bl b = D.bl c ∧ P c) = P b := by simp
theorem a_blE {b : Bool} {P : Bool → Prop} {M : Mu → Prop} : (∃ c, D.bl b = D.bl c ∧ P c) = P b := by simp
theorem a_if1 {A B : Prop} : (if true = true then A else B) = A := by simp
theorem a_if0 {A B : Prop} : (if false = true then A else B) = B := by simp
theorem a_int {h : Int → Int → D} {C : Int → Int → Prop} {a b : Int} : fInt h C (.int a) (.int b) μ K = (C a b ∧ K (h a b) μ) := by simp [fInt]
theorem a_int0 {h : Int → Int → D} {a b : Int} : fInt h (fun _ _ => True) (.int a) (.int b) μ K = K (h a b) μ := by simp [fInt]
theorem a_addI {a b : Int} : fAdd (.int a) (.int b) μ K = K (.int (a + b)) μ := rfl
theorem a_addT : fAdd (.tup xs) (.tup ys) μ K = (xs.length + ys.length ≤ 100000 ∧ K (.tup (xs ++ ys)) μ) := rfl
theorem a_addL : fAdd (.lst xs) (.lst ys) μ K = (xs.length + ys.length ≤ 100000 ∧ K (.lst (xs ++ ys)) μ) := by simp [fAdd, asL]
theorem a_addS {a b : Str} : fAdd (.str a) (.str b) μ K = (a.length + b.length ≤ sizeLine ∧ K (.str (a ++ b)) μ) := rfl
theorem a_mulI {a b : Int} : fMul (.int a) (.int b) μ K = (CMulD a b ∧ K (.int (a * b)) μ) := rfl
theorem a_neg {a : Int} : fNeg (.int a) μ K = K (.int (-a)) μ := by simp [fNeg]
theorem eqB_int {a b : Int} {c : Bool} (h : EqB μ (.int a) (.int b) c) : c = decide (a = b) := by
  cases h with
  | py hx hy _ _ =>
    cases hx with
    | py hx => cases hy with | py hy => cases hx; cases hy; rfl
  | len hx _ _ => cases hx
theorem a_eqI {neg : Bool} {a b : Int} : fEqX neg (.int a) (.int b) μ K = K (.bl (if neg then !decide (a = b) else decide (a = b))) μ := by
  refine propext ⟨fun h => ?_, fun h => .inl ⟨_, rfl, h⟩⟩
  rcases h with ⟨c, e, h⟩ | ⟨c, e, h⟩
  · cases e; exact h
  · rw [eqB_int e] at h; exact h
theorem a_isN {neg : Bool} : fIsN neg .non .non μ K = K (.bl (!neg)) μ := by cases neg <;> simp [fIsN, isNon]
theorem ixN_0 {n : Nat} : ixN (n + 1) 0 = some 0 := by unfold ixN; rw [if_pos (by omega), if_pos (by omega)]; rfl
theorem a_ixT0 : fIx (.tup (x :: xs)) (.int 0) μ K = K x μ := by
  unfold fIx; simp only [asS, Option.some.injEq, D.int.injEq, exists_and_left, exists_eq_left', atI]
  simp [ixN_0]
theorem a_ixL0 : fIx (.lst (x :: xs)) (.int 0) μ K = K x μ := by
  unfold fIx; simp only [asS, asL, Option.some.injEq, D.int.injEq, exists_and_left, exists_eq_left', atI]
  simp [ixN_0]
theorem ixN_1 {n : Nat} : ixN (n + 1 + 1) 1 = some 1 := by unfold ixN; rw [if_pos (by omega), if_pos (by omega)]; rfl
theorem ixN_2 {n : Nat} : ixN (n + 1 + 1 + 1) 2 = some 2 := by unfold ixN; rw [if_pos (by omega), if_pos (by omega)]; rfl
theorem a_ixT1 : fIx (.tup (x :: y :: xs)) (.int 1) μ K = K y μ := by
  unfold fIx; simp only [asS, Option.some.injEq, D.int.injEq, exists_and_left, exists_eq_left', atI]
  simp [ixN_1]
theorem a_ixL1 : fIx (.lst (x :: y :: xs)) (.int 1) μ K = K y μ := by
  unfold fIx; simp only [asS, asL, Option.some.injEq, D.int.injEq, exists_and_left, exists_eq_left', atI]
  simp [ixN_1]
theorem a_ixT2 : fIx (.tup (x :: y :: z :: xs)) (.int 2) μ K = K z μ := by
  unfold fIx; simp only [asS, Option.some.injEq, D.int.injEq, exists_and_left, exists_eq_left', atI]
  simp [ixN_2]
theorem a_ixL2 : fIx (.lst (x :: y :: z :: xs)) (.int 2) μ K = K z μ := by
  unfold fIx; simp only [asS, asL, Option.some.injEq, D.int.injEq, exists_and_left, exists_eq_left', atI]
  simp [ixN_2]
theorem a_nopart {K : Option Int → Mu → Prop} : dNoPart ρ μ K = K none μ := rfl
theorem a_part {K : Option Int → Mu → Prop} : dPart de ρ μ K = de ρ μ fun x μ1 => ∃ i, x = .int i ∧ K (some i) μ1 := rfl
theorem a_intE {a : Int} {P : Int → Prop} : (∃ c, D.int a = D.int c ∧ P c) = P a := by simp
theorem a_sl {f : D → Option Int → Option Int → Mu → KD → Prop} {dl dh : DO} : dSl f de dl dh ρ μ K = de ρ μ fun x μ1 => dl ρ μ1 fun l μ2 => dh ρ μ2 fun h μ3 => f x l h μ3 K := rfl
theorem a_slT {l h : Option Int} : fSl (.tup xs) l h μ K = K (.tup (cutD xs l h)) μ := rfl
theorem a_slL {l h : Option Int} : fSl (.lst xs) l h μ K = K (.lst (cutD xs l h)) μ := by simp [fSl, asL]
theorem a_lenT : fLen [.tup xs] μ K = K (.int xs.length) μ := by simp [fLen, asS]
theorem a_lenL : fLen [.lst xs] μ K = K (.int xs.length) μ := by simp [fLen, asS, asL]
theorem a_lenM {a : Addr} (h : μ a = some (.lst xs)) : fLen [.val (.ref a)] μ K = K (.int xs.length) μ := by simp [fLen, asS, asL, h]
theorem a_call [AM : Amb] {dsp : DSp} {Y : KX} : dCall dsp Y dr ρ μ K = dr ρ μ fun xs μ1 => dsp xs μ1 K Y := rfl
theorem a_for {di : DI} {E : DEnds} : dFor di g d E ρ μ = di ρ μ fun xs keep μ1 => dLoop keep g d E xs ρ μ1 := rfl
theorem a_rg1 {K : List D → (Mu → Prop) → Mu → Prop} : dRg1 dr ρ μ K = dr ρ μ fun xs μ1 => ∃ j : Int, xs = [.int j] ∧ -(2 ^ 62) ≤ j ∧ j < 2 ^ 62 ∧ K (rgD 0 j.toNat) (fun _ => True) μ1 := rfl
theorem a_rg1E {a : Int} {P : Int → Prop} : (∃ j : Int, [D.int a] = [D.int j] ∧ P j) = P a := by simp
def sSeq (x : D) (μ1 : Mu) (K : List D → (Mu → Prop) → Mu → Prop) : Prop := match x with
  | .tup xs => K xs (fun _ => True) μ1
  | .lst xs => K xs (fun _ => True) μ1
  | x => ∃ xs, asL μ1 x = some xs ∧ K xs (fun μ' => asL μ' x = some xs) μ1
theorem a_seqI {K : List D → (Mu → Prop) → Mu → Prop} : dSeqI de ρ μ K = de ρ μ fun x μ1 => sSeq x μ1 K := rfl
theorem a_seqT {K : List D → (Mu → Prop) → Mu → Prop} : sSeq (.tup xs) μ K = K xs (fun _ => True) μ := rfl
theorem a_seqL {K : List D → (Mu → Prop) → Mu → Prop} : sSeq (.lst xs) μ K = K xs (fun _ => True) μ := rfl
theorem a_seqV {s : List Int} {K : List D → (Mu → Prop) → Mu → Prop} : sSeq (vec s) μ K = K (s.map D.int) (fun _ => True) μ := rfl
theorem seqM_of {a : Addr} {K : List D → (Mu → Prop) → Mu → Prop} (h : μ a = some (.lst xs)) (k : K xs (fun μ' => asL μ' (.val (.ref a)) = some xs) μ) : sSeq (.val (.ref a)) μ K := ⟨xs, asL_m h, k⟩
theorem a_comp {di : DI} {vs : List Nat} : dComp di g dt de vs ρ μ K = di ρ μ fun xs keep μ1 => ∀ a, μ1 a = none → dCompL keep g dt de (wipeD ρ vs) a K xs [] (mup μ1 a (.lst [])) := rfl
theorem a_compM {di : DI} {vs : List Nat} : dCompM di g dt de vs ρ μ K = di ρ μ fun xs keep μ1 => ∀ a, μ1 a = none → dCompLM keep g dt de (wipeD ρ vs) a K xs [] (mup μ1 a (.lst [])) := rfl
theorem a_emp : dEmp ρ μ K = K (.dct []) μ := rfl
theorem a_tupL : fTuple [.lst xs] μ K = K (.tup xs) μ := by simp [fTuple, asS, asL]
theorem a_tupT : fTuple [.tup xs] μ K = K (.tup xs) μ := by simp [fTuple, asS]
theorem a_lstL : fList [.lst xs] μ K = K (.lst xs) μ := by simp [fList, asS, asL]
theorem a_lstT : fList [.tup xs] μ K = K (.lst xs) μ := by simp [fList, asS]
theorem a_yes {K : Bool → Mu → Prop} : dYes ρ μ K = K true μ := rfl
/-! nests -/

theorem f_loop {c : Int} {s : List Int} : D.tup [.int c, vec s] = loopD (c, s) := rfl
theorem f_nest {ls : List (Int × List Int)} {p : List Int} {a : Int} : D.tup [.lst (ls.map loopD), vec p, .int a] = NestD.d ⟨ls, p, a⟩ := rfl
theorem f_vec1 {a : Int} : D.tup [.int a] = vec [a] := rfl
theorem a_ixV {s : List Int} {k : Nat} (h : k < s.length) : fIx (vec s) (.int (k : Int)) μ K = K (.int (s.getD k 0)) μ := by
  have e : (s.map D.int)[k]? = some (.int (s.getD k 0)) := by simp [List.getD, h]
  unfold fIx vec
  simp only [asS, Option.some.injEq, D.int.injEq, exists_and_left, exists_eq_left', atI_nat e]
theorem a_addV {s t : List Int} : fAdd (vec s) (vec t) μ K = (s.length + t.length ≤ 100000 ∧ K (vec (s ++ t)) μ) := by
  show (_ ∧ _) = _
  rw [List.length_map, List.length_map, ← List.map_append]; rfl
theorem a_slV1 {s : List Int} {k : Nat} : fSl (vec s) none (some (k : Int)) μ K = K (vec (s.take k)) μ := by
  show K (.tup (cutD (s.map D.int) _ _)) μ = _
  rw [cut_take]; rfl
theorem a_slV2 {s : List Int} {k : Nat} : fSl (vec s) (some ((k : Int) + 1)) none μ K = K (vec (s.drop (k + 1))) μ := by
  show K (.tup (cutD (s.map D.int) (some ((k + 1 : Nat) : Int)) _)) μ = _
  rw [cut_drop]; rfl
theorem a_lenV {s : List Int} : fLen [vec s] μ K = K (.int s.length) μ := by
  show (∃ ys, asS μ (.tup (s.map D.int)) = some ys ∧ K (.int ys.length) μ) = _
  simp [asS]
theorem a_ixN0 {N : NestD} : fIx N.d (.int 0) μ K = K (.lst (N.loops.map loopD)) μ := a_ixT0
theorem a_ixN1 {N : NestD} : fIx N.d (.int 1) μ K = K (vec N.place) μ := a_ixT1
theorem a_ixN2 {N : NestD} : fIx N.d (.int 2) μ K = K (.int N.amount) μ := a_ixT2
theorem a_ixP0 {l : Int × List Int} : fIx (loopD l) (.int 0) μ K = K (.int l.1) μ := a_ixT0
theorem a_ixP1 {l : Int × List Int} : fIx (loopD l) (.int 1) μ K = K (vec l.2) μ := a_ixT1
theorem a_ixK {ls : List (Int × List Int)} {k : Nat} (h : k < ls.length) : fIx (.lst (ls.map loopD)) (.int (k : Int)) μ K = K (loopD (ls.getD k (0, []))) μ := by
  have e : (ls.map loopD)[k]? = some (loopD (ls.getD k (0, []))) := by simp [List.getD, h]
  unfold fIx
  simp only [asS, asL, Option.some.injEq, D.int.injEq, exists_and_left, exists_eq_left', atI_nat e]
theorem a_gP {K : Ro → Mu → Prop} {l : Int × List Int} : dGTup 2 gs (loopD l) ρ μ K = gs [.int l.1, vec l.2] ρ μ K := a_gtup2
theorem a_gN {K : Ro → Mu → Prop} {N : NestD} : dGTup 3 gs N.d ρ μ K = gs [.lst (N.loops.map loopD), vec N.place, .int N.amount] ρ μ K := a_gtup3
theorem b_slK1 {ls : List (Int × List Int)} {k : Nat} : fSl (.lst (ls.map loopD)) none (some (k : Int)) μ K = K (.lst ((ls.take k).map loopD)) μ := by rw [a_slL, cut_take]
theorem b_slK2 {ls : List (Int × List Int)} {k : Nat} : fSl (.lst (ls.map loopD)) (some ((k : Int) + 1)) none μ K = K (.lst ((ls.drop (k + 1)).map loopD)) μ := by
  rw [a_slL]
  have e : ((k : Int) + 1) = ((k + 1 : Nat) : Int) := rfl
  rw [e, cut_drop]
theorem b_addK {xs ys : List (Int × List Int)} : fAdd (.lst (xs.map loopD)) (.lst (ys.map loopD)) μ K = (xs.length + ys.length ≤ 100000 ∧ K (.lst ((xs ++ ys).map loopD)) μ) := by
  rw [a_addL, List.length_map, List.length_map, List.map_append]
theorem b_addK1 {xs : List (Int × List Int)} {l : Int × List Int} : fAdd (.lst (xs.map loopD)) (.lst [loopD l]) μ K = (xs.length + 1 ≤ 100000 ∧ K (.lst ((xs ++ [l]).map loopD)) μ) := b_addK (ys := [l])
end
end DL
namespace DL
open PySem PySem.Spec PyProof.Rows L2
theorem asS_m {μ : Mu} {a : Addr} {xs : List D} (h : μ a = some (.lst xs)) : asS μ (.val (.ref a)) = some xs := by
  show (match μ a with | some (.lst xs) => some xs | _ => none) = _
  rw [h]
section
variable {ρ : Ro} {μ : Mu} {K : KD} {gs : DGs} {x y z : D}
theorem a_gl2 {K : Ro → Mu → Prop} : dGLst 2 gs (.lst [x, y]) ρ μ K = gs [x, y] ρ μ K := by
  simp [dGLst, asL]
theorem a_gl3 {K : Ro → Mu → Prop} : dGLst 3 gs (.lst [x, y, z]) ρ μ K = gs [x, y, z] ρ μ K := by
  simp [dGLst, asL]
theorem b_slK3 {ls : List (Int × List Int)} : fSl (.lst (ls.map loopD)) (some 1) none μ K = K (.lst ((ls.drop 1).map loopD)) μ := by
  rw [a_slL]
  have e : (1 : Int) = ((1 : Nat) : Int) := rfl
  rw [e, cut_drop]
theorem b_slK4 {ls : List (Int × List Int)} : fSl (.lst (ls.map loopD)) none (some (-1)) μ K = K (.lst (ls.dropLast.map loopD)) μ := by
  rw [a_slL]
  have e : cutD (ls.map loopD) none (some (-1)) = ls.dropLast.map loopD := by
    unfold cutD
    have e0 : HT.sIx (ls.map loopD).length 0 none = 0 := rfl
    have e1 : HT.sIx (ls.map loopD).length (ls.map loopD).length (some (-1)) = (ls.map loopD).length - 1 := by
      simp [HT.sIx]
      omega
    rw [e0, e1, List.length_map, List.drop_zero, Nat.sub_zero, ← List.map_take, List.dropLast_eq_take]
  rw [e]
theorem f_cut1 {ls : List (Int × List Int)} {k : Nat} : cutD (ls.map loopD) none (some (k : Int)) = (ls.take k).map loopD := cut_take _ _ _
theorem f_cut2 {ls : List (Int × List Int)} {k : Nat} : cutD (ls.map loopD) (some ((k : Int) + 1)) none = (ls.drop (k + 1)).map loopD := cut_drop loopD ls (k + 1)
theorem f_cut3 {ls : List (Int × List Int)} : cutD (ls.map loopD) (some 1) none = (ls.drop 1).map loopD := cut_drop loopD ls 1
theorem f_cut4 {ls : List (Int × List Int)} : cutD (ls.map loopD) none (some (-1)) = ls.dropLast.map loopD := by
  unfold cutD
  have e0 : HT.sIx (ls.map loopD).length 0 none = 0 := rfl
  have e1 : HT.sIx (ls.map loopD).length (ls.map loopD).length (some (-1)) = (ls.map loopD).length - 1 := by
    simp [HT.sIx]
    omega
  rw [e0, e1, List.length_map, List.drop_zero, Nat.sub_zero, ← List.map_take, List.dropLast_eq_take]
theorem f_map1 {xs ys : List (Int × List Int)} : xs.map loopD ++ ys.map loopD = (xs ++ ys).map loopD := List.map_append.symm
theorem f_map2 {xs : List (Int × List Int)} {l : Int × List Int} : xs.map loopD ++ [loopD l] = (xs ++ [l]).map loopD := by simp
theorem rg_mem {n : Int} {c : D} (h : c ∈ rgD 0 n.toNat) : ∃ j : Nat, c = .int (j : Int) ∧ (j : Int) < n := by
  unfold rgD at h
  obtain ⟨j, hj, rfl⟩ := List.mem_map.1 h
  have := List.mem_range.1 hj
  exact ⟨j, by rw [Int.zero_add], by omega⟩
theorem ones_of {n : Nat} (h1 : 1 ≤ n) (h3 : n ≤ 3) (k : K (vec (List.replicate n 1)) μ) : fMulE (vec [1]) (.int (n : Int)) μ K := by
  have : n = 1 ∨ n = 2 ∨ n = 3 := by omega
  rcases this with rfl | rfl | rfl
  · exact .inr ⟨_, rfl, rfl, k⟩
  · exact .inl ⟨by simp, by decide, by decide, leB, k⟩
  · exact .inl ⟨by simp, by decide, by decide, leB, k⟩
theorem set_ne {s : List Int} {j : Nat} {x : Int} (hj : j < s.length) (h : x ≠ s.getD j 0) : s.take j ++ [x] ++ s.drop (j + 1) ≠ s := fun e => by
  have : (s.take j ++ [x] ++ s.drop (j + 1)).getD j 0 = s.getD j 0 := congrArg (fun l => l.getD j 0) e
  rw [getD_mid (by rw [List.length_take]; omega)] at this
  exact h this
theorem set_len {s : List Int} {j : Nat} {x : Int} (hj : j < s.length) : (s.take j ++ [x] ++ s.drop (j + 1)).length = s.length := by simp; omega
theorem set_mem {s : List Int} {j : Nat} {x y : Int} (h : y ∈ s.take j ++ [x] ++ s.drop (j + 1)) : y ∈ s ∨ y = x := by
  simp only [List.mem_append, List.mem_singleton] at h
  rcases h with (h | h) | h
  · exact .inl (List.mem_of_mem_take h)
  · exact .inr h
  · exact .inl (List.mem_of_mem_drop h)
theorem getD_in {s : List Int} {j : Nat} (hj : j < s.length) : s.getD j 0 ∈ s := by simp [List.getD, hj]
theorem a_mm {μ : Mu} {a : Addr} {m n : MO} : mup (mup μ a m) a n = mup μ a n := haveI := amb0; mup_mup
theorem f_cnt {N : NestD} {k : Nat} : (N.loops.getD k (0, [])).fst = countAt N k := rfl
theorem f_stp {N : NestD} {k : Nat} : (N.loops.getD k (0, [])).snd = stepAt N k := rfl
def sSub (o y x : D) (ρ : Ro) (μ2 : Mu) (K : Ro → Mu → Prop) : Prop := ∃ (a : Addr) (xs : List D) (i : Int) (j : Nat), o = .val (.ref a) ∧ y = .int i ∧ μ2 a = some (.lst xs) ∧ ixN xs.length i = some j ∧ K ρ (mup μ2 a (.lst (xs.set j x)))
theorem a_subI {x : D} {ρ : Ro} {K : Ro → Mu → Prop} {da di : DE} : dSub da di x ρ μ K = da ρ μ fun o μ1 => di ρ μ1 fun y μ2 => sSub o y x ρ μ2 K := rfl
theorem subM_of {a : Addr} {xs : List D} {j : Nat} {x : D} {ρ : Ro} {K : Ro → Mu → Prop} (h : μ a = some (.lst xs)) (hj : j < xs.length) : sSub (.val (.ref a)) (.int (j : Int)) x ρ μ K = K ρ (mup μ a (.lst (xs.set j x))) := by
  refine propext ⟨fun ⟨a', xs', i, j', e1, e2, e3, e4, k⟩ => ?_, fun k => ⟨a, xs, j, j, rfl, rfl, h, ixN_nat hj, k⟩⟩
  cases e1; cases e2
  rw [h] at e3
  cases e3
  rw [ixN_nat hj] at e4
  cases e4
  exact k
theorem subK_of {a : Addr} {ls : List (Int × List Int)} {j : Nat} {l : Int × List Int} {ρ : Ro} {K : Ro → Mu → Prop} (h : μ a = some (.lst (ls.map loopD))) (hj : j < ls.length) : sSub (.val (.ref a)) (.int (j : Int)) (loopD l) ρ μ K = K ρ (mup μ a (.lst ((ls.set j l).map loopD))) := by
  rw [subM_of h (by rw [List.length_map]; exact hj), List.map_set]
theorem ixK_of {a : Addr} {ls : List (Int × List Int)} {k : Nat} (h : μ a = some (.lst (ls.map loopD))) (hk : k < ls.length) : fIx (.val (.ref a)) (.int (k : Int)) μ K = K (loopD (ls.getD k (0, []))) μ := by
  have e : (ls.map loopD)[k]? = some (loopD (ls.getD k (0, []))) := by simp [List.getD, hk]
  refine propext ⟨fun ⟨xs, i, d, e1, e2, e3, k⟩ => ?_, fun k => ⟨_, _, _, asS_m h, rfl, atI_nat e, k⟩⟩
  rw [asS_m h] at e1
  cases e1; cases e2
  rw [atI_nat e] at e3
  cases e3
  exact k
theorem a_app {da de : DE} : dApp da de ρ μ K = da ρ μ fun x μ1 => ∃ a, x = .val (.ref a) ∧ (∃ ys, μ1 a = some (.lst ys)) ∧ de ρ μ1 fun y μ2 => ∃ xs, μ2 a = some (.lst xs) ∧ xs.length < 100000 ∧ K .non (mup μ2 a (.lst (xs ++ [y]))) := rfl
theorem a_refE {b : Addr} {P : Addr → Prop} : (∃ a, D.val (.ref b) = D.val (.ref a) ∧ P a) = P b := by simp
theorem a_ixTn0 {p : Addr × NestD} : fIx (tn p) (.int 0) μ K = K (.val (.ref p.1)) μ := a_ixT0
theorem a_ixTn1 {p : Addr × NestD} : fIx (tn p) (.int 1) μ K = K (vec p.2.place) μ := a_ixT1
theorem a_ixTn2 {p : Addr × NestD} : fIx (tn p) (.int 2) μ K = K (.int p.2.amount) μ := a_ixT2
theorem a_lstMN {ls : List (Int × List Int)} : fListM [.lst (ls.map loopD)] μ K = ∀ p, μ p = none → K (.val (.ref p)) (mup μ p (.lst (ls.map loopD))) := by simp [fListM, asS, asL]
/-- a draw -/
theorem draw_of [AM : Amb] {a : Addr} {m b : Int} {Y : KX} (h1 : 1 ≤ m) (h2 : m < 2 ^ 200) (hb : b ≤ 10 ^ 8) (hP : Pu b μ a) (k : ∀ n l, 0 ≤ n → n < m → Pu (b + 10) (mup μ a (.lst l)) a → K (.int n) (mup μ a (.lst l))) : spDraw [.val (.ref a), .int m] μ K Y :=
  ⟨a, m, b, rfl, h1, h2, hb, hP, k⟩
theorem repr_of {d : D} {p : PyData} (hd : Pl d) (hp : toPy d = some p) (k : K (.str p.shown) μ) : fRepr [d] μ K := by
  obtain ⟨p', h1, h2, h3, h4⟩ := hd.py
  rw [hp] at h1
  cases h1
  exact ⟨d, p, rfl, .py hp, h2, h3, h4, k⟩
theorem eqStr {neg : Bool} {t : Str} (k : K (.bl (!decide (neg = true))) μ) : fEqX neg (.str t) (.str t) μ K := by
  refine .inl ⟨true, by simp [eqS], ?_⟩
  cases neg <;> exact k
end
end DL
namespace DL
open PySem PySem.Spec PyProof.Rows L2
theorem cell_of {n : Nat} {w : Int} {d : D} (h : CellOk n w d) : ∃ is : List Int, d = vec is ∧ is.length = n ∧ ∀ i ∈ is, -w ≤ i ∧ i ≤ w := h
theorem loops_of {n : Nat} {c w : Int} : ∀ {ls : List D}, (∀ x ∈ ls, LoopOk n c w x) → ∃ l : List (Int × List Int), ls = l.map loopD ∧ ∀ x ∈ l, 0 ≤ x.1 ∧ x.1 < c ∧ x.2.length = n ∧ ∀ i ∈ x.2, -w ≤ i ∧ i ≤ w
  | [], _ => ⟨[], rfl, fun _ h => (nomatch h)⟩
  | d :: ls, h => by
    obtain ⟨l, rfl, hl⟩ := loops_of fun x hx => h x (List.mem_cons_of_mem _ hx)
    obtain ⟨i, s, rfl, i0, i1, hs⟩ := h d List.mem_cons_self
    obtain ⟨is, rfl, h1, h2⟩ := cell_of hs
    exact ⟨(i, is) :: l, rfl, fun x hx => by
      rcases List.mem_cons.1 hx with rfl | hx
      · exact ⟨i0, i1, h1, h2⟩
      · exact hl x hx⟩
theorem nest_of {n : Nat} {c w : Int} {d : D} (h : NestOk n c w d) : ∃ N : NestD, d = N.d ∧ N.place.length = n ∧ N.loops.length ≤ 3 ∧ (∀ x ∈ N.loops, 0 ≤ x.1 ∧ x.1 < c ∧ x.2.length = n ∧ ∀ i ∈ x.2, -w ≤ i ∧ i ≤ w) ∧ (∀ i ∈ N.place, -(2 * w) ≤ i ∧ i ≤ 2 * w) ∧ -3 ≤ N.amount ∧ N.amount ≤ 3 := by
  obtain ⟨ls, p, i, rfl, hl, hls, hp, i0, i1⟩ := h
  obtain ⟨l, rfl, hl'⟩ := loops_of hls
  obtain ⟨is, rfl, h1, h2⟩ := cell_of hp
  exact ⟨⟨l, is, i⟩, rfl, h1, by simpa using hl, hl', h2, i0, i1⟩
section
variable {ρ : Ro} {μ : Mu} {K : KD}
theorem pick2_of {a b m : Int} (h0 : 0 ≤ m) (h1 : m < 2) (k : ∀ c, c = a ∨ c = b → K (.int c) μ) : fIx (.lst [.int a, .int b]) (.int m) μ K := by
  have : m = 0 ∨ m = 1 := by omega
  rcases this with rfl | rfl
  · rw [a_ixL0]; exact k _ (.inl rfl)
  · rw [a_ixL1]; exact k _ (.inr rfl)
theorem pick3_of {a b c m : Int} (h0 : 0 ≤ m) (h1 : m < 3) (k : ∀ x, x = a ∨ x = b ∨ x = c → K (.int x) μ) : fIx (.lst [.int a, .int b, .int c]) (.int m) μ K := by
  have : m = 0 ∨ m = 1 ∨ m = 2 := by omega
  rcases this with rfl | rfl | rfl
  · rw [a_ixL0]; exact k _ (.inl rfl)
  · rw [a_ixL1]; exact k _ (.inr (.inl rfl))
  · rw [a_ixL2]; exact k _ (.inr (.inr rfl))
theorem powSm {i j : Int} (h : 0 ≤ j) (h2 : j ≤ 700) (h3 : Builtin.Int.intBits i ≤ 4) : CPowD i j := by
  refine ⟨h, ?_⟩
  have : (Builtin.Int.intBits i : Int) * j ≤ 4 * 700 := Int.mul_le_mul (by omega) h2 h (by decide)
  omega
theorem rg4_mem {c : D} {n : Nat} (h : c ∈ rgD 0 (n : Int).toNat) : ∃ i : Int, c = .int i ∧ 0 ≤ i ∧ i < n := by
  obtain ⟨j, rfl, hj⟩ := rg_mem h
  exact ⟨j, rfl, by omega, hj⟩
end
end DL
namespace DL
open PySem PySem.Spec PyProof.Rows L2
section
variable {ρ : Ro} {μ : Mu} {K : KD} [AM : Amb]
theorem Pu.sub {b : Int} {μ μ' : Mu} {a : Addr} (h : Pu b μ a) (s : SubM μ μ') : Pu b μ' a := let ⟨p0, p1, p2, h1, h2⟩ := h; ⟨p0, p1, p2, s _ _ h1, h2⟩
theorem draw_at {a : Addr} {m0 : MO} {m b : Int} {Y : KX} (h1 : 1 ≤ m) (h2 : m < 2 ^ 200) (hb : b ≤ 10 ^ 8) (hP : Pu b (mup μ a m0) a) (k : ∀ n l, 0 ≤ n → n < m → Pu (b + 10) (mup μ a (.lst l)) a → K (.int n) (mup μ a (.lst l))) : spDraw [.val (.ref a), .int m] (mup μ a m0) K Y :=
  draw_of h1 h2 hb hP fun n l n0 n1 h => by rw [mup_mup] at h ⊢; exact k n l n0 n1 h
theorem cell_at {a : Addr} {m0 : MO} {n : Int} {w b : Int} {Y : KX} (n0 : 0 ≤ n) (h1 : n ≤ 3) (h2 : 0 ≤ w) (h3 : w < 2 ^ 190) (hb : b ≤ 10 ^ 7) (hP : Pu b (mup μ a m0) a) (k : ∀ is l, is.length = n.toNat → (∀ i ∈ is, -w ≤ i ∧ i ≤ w) → Pu (b + 30) (mup μ a (.lst l)) a → K (vec is) (mup μ a (.lst l))) : spCell [.val (.ref a), .int n, .int w] (mup μ a m0) K Y := by
  obtain ⟨n', rfl⟩ := Int.eq_ofNat_of_zero_le n0
  exact ⟨a, n', w, b, rfl, by omega, h2, h3, hb, hP, fun d l hd hP' => by
    obtain ⟨is, rfl, e1, e2⟩ := cell_of hd
    rw [mup_mup] at hP' ⊢
    exact k is l (by simpa using e1) e2 hP'⟩
theorem nest_at {a : Addr} {m0 : MO} {n : Int} {c w b : Int} {Y : KX} (n0 : 0 ≤ n) (h1 : n ≤ 3) (c1 : 1 ≤ c) (c2 : c < 2 ^ 190) (h2 : 0 ≤ w) (h3 : w < 2 ^ 180) (hb : b ≤ 10 ^ 6) (hP : Pu b (mup μ a m0) a)
    (k : ∀ (N : NestD) l, N.place.length = n.toNat → N.loops.length ≤ 3 → (∀ x ∈ N.loops, 0 ≤ x.1 ∧ x.1 < c ∧ x.2.length = n.toNat ∧ ∀ i ∈ x.2, -w ≤ i ∧ i ≤ w) → (∀ i ∈ N.place, -(2 * w) ≤ i ∧ i ≤ 2 * w) → -3 ≤ N.amount → N.amount ≤ 3 → Pu (b + 300) (mup μ a (.lst l)) a → K N.d (mup μ a (.lst l))) :
    spNest [.val (.ref a), .int n, .int 3, .int c, .int w] (mup μ a m0) K Y := by
  obtain ⟨n', rfl⟩ := Int.eq_ofNat_of_zero_le n0
  exact ⟨a, n', c, w, b, rfl, by omega, c1, c2, h2, h3, hb, hP, fun d l hd hP' => by
    obtain ⟨N, rfl, e1, e2, e3, e4, e5, e6⟩ := nest_of hd
    rw [mup_mup] at hP' ⊢
    exact k N l (by simpa using e1) e2 (by simpa using e3) e4 e5 e6 hP'⟩
end
end DL
/-! zip of a list and a tuple, either way about -/
namespace DL
open PySem PySem.Spec PyProof.Rows L2
def SqB (K : PySem.W.Frag) : Bool → Hp → Addr → List V → Prop
  | true => SqT K
  | false => SqL K
def itB : Bool → Heap → Addr → Addr → Nat → Prop
  | true => Heap.IsTupleIter
  | false => Heap.IsListIter
def isBq : Bool → Heap → Addr → Array Value → Prop
  | true => Heap.IsTuple
  | false => Heap.IsList
section
variable {t u : Bool} {X : Cx} {pins : List (Addr × Obj)} {σ : L2.St} {H : Hp} {s : Shared} {h h' : Heap} {it l : Addr} {i : Nat}
theorem drawsB {prog : Program} {w : World} {A : Around} (hh : A.handled = none) (hne : l ≠ it) (its : Array Value) : ∀ t : Bool, Draws prog w A it [it, l] its.size (fun k v => its[k]? = some v) (fun k g => itB t g it l k ∧ isBq t g l its)
  | true => Draws.tuple hh it l hne its
  | false => Draws.list hh it l hne its
theorem beginsB (its : Array Value) : ∀ t : Bool, ∃ o : Obj, Begins (.ref l) o (fun g => isBq t g l its) ∧ ∀ g : Heap, g.get? it = some o → itB t g it l 0
  | true => ⟨_, begins_tuple l its, fun g e => ⟨_, e, rfl, rfl⟩⟩
  | false => ⟨_, begins_list l its, fun g e => ⟨_, e, rfl, rfl⟩⟩
theorem seqB (I : L2.Inv X pins σ H s) {a : Addr} {xs : List V} (hq : SqB X.K t H a xs) : ∃ its : List Value, Vals xs its ∧ isBq t s.heap a its.toArray := by
  cases t with
  | true => obtain ⟨its, rv, p, _⟩ := I.tuple hq; exact ⟨its, rv, p⟩
  | false => obtain ⟨its, rv, p, _⟩ := I.list hq; exact ⟨its, rv, p.isList⟩
theorem seqB_lt {its : Array Value} (hq : isBq t h l its) : l < h.objs.size := by
  cases t with
  | true => obtain ⟨o, e, _⟩ := hq; exact Heap.lt_size e
  | false => obtain ⟨o, e, _⟩ := hq; exact Heap.lt_size e
theorem itB_obj (st : itB t h it l i) : ∃ o, h.get? it = some o ∧ ∀ v, o.data ≠ .cell v := by
  cases t with
  | true => obtain ⟨o, e, _, d⟩ := st; exact ⟨o, e, fun v q => by rw [d] at q; cases q⟩
  | false => obtain ⟨o, e, _, d⟩ := st; exact ⟨o, e, fun v q => by rw [d] at q; cases q⟩
theorem itB_at (st : itB t h it l i) (k : ∀ o, h.get? it = some o → h'.get? it = some o) : itB t h' it l i := by
  cases t with
  | true => exact Heap.IsTupleIter.at st k
  | false => exact Heap.IsListIter.at st k
theorem SqB_inj (I : L2.Inv X pins σ H s) {a : Addr} {xs ys : List V} (h1 : SqB X.K t H a xs) (h2 : SqB X.K t H a ys) : xs = ys := by
  cases t with
  | true => exact I.tuple_inj h1 h2
  | false => exact I.list_inj h1 h2
end
/-- the items of both, in new pairs -/
def ItzB (K : PySem.W.Frag) (t u : Bool) (a b : Addr) : It :=
  ⟨fun i H => ∃ (ls ms : List V) (p q : V), SqB K t H a ls ∧ SqB K u H b ms ∧ ls[i]? = some p ∧ ms[i]? = some q,
    fun i H v H' => ∃ T p q, v = .ref T ∧ H T = none ∧ H' = upd H T (.tup [p, q]) ∧ (∀ ls, SqB K t H a ls → ls[i]? = some p) ∧ ∀ ms, SqB K u H b ms → ms[i]? = some q,
    fun i H => ∃ ls ms : List V, SqB K t H a ls ∧ SqB K u H b ms ∧ (i = ls.length ∨ i = ms.length) ∧ i ≤ ls.length ∧ i ≤ ms.length⟩
theorem turn_zipB {P : Program} {w : World} {K : PySem.W.Frag} {elts : List Expr} {kk : Nat} {tpos : Pos} {a b z TI TO i1 i2 : Addr} {t u : Bool} (D : ZipApart z TI TO i1 i2 a b) :
    Turn P w K (.Tuple elts kk tpos) (ItzB K t u a b) [z, TI, TO, i1, i2] z (fun i g => IsZip g z TI TO .none ∧ IsTupOf2 g TI (.ref i1) (.ref i2) ∧ (∃ p q, IsTupOf2 g TO p q) ∧ itB t g i1 a i ∧ itB u g i2 b i) := by
  have S : ZipSep2 z TI TO i1 i2 [i1, a] [i2, b] := by
    obtain ⟨d1, d2, d3, d4, d5, d6, d7, d8, d9, d10, d11, d12, d13, d14, d15, d16, d17, d18⟩ := D
    constructor <;> simp <;> (try constructor) <;> first | assumption | exact Ne.symm (by assumption)
  refine ⟨by simp, fun i g st c hc => ?_, fun i g g' st k => ?_, ?_, ?_, ?_⟩
  · obtain ⟨hz, hTI, ⟨p, q, hTO⟩, h1, h2⟩ := st
    simp only [List.mem_cons, List.not_mem_nil, or_false] at hc
    rcases hc with rfl | rfl | rfl | rfl | rfl
    · exact ⟨_, hz, fun v => nofun⟩
    · exact ⟨_, hTI, fun v => nofun⟩
    · exact ⟨_, hTO, fun v => nofun⟩
    · exact itB_obj h1
    · exact itB_obj h2
  · obtain ⟨hz, hTI, ⟨p, q, hTO⟩, h1, h2⟩ := st
    exact ⟨k z (by simp) _ hz, k TI (by simp) _ hTI, ⟨p, q, k TO (by simp) _ hTO⟩, itB_at h1 (k i1 (by simp)), itB_at h2 (k i2 (by simp))⟩
  · intro X hP hw hK hc i pins s σ H E I hf st hg
    subst hP hw hK
    obtain ⟨hz, hTI, ⟨p0, q0, hTO⟩, h1, h2⟩ := st
    obtain ⟨ls, ms, p, q, hl, hm, hp, hq⟩ := hg
    obtain ⟨is, rv, p1⟩ := seqB I hl
    obtain ⟨js, rv2, p2⟩ := seqB I hm
    obtain ⟨v, hv, r1⟩ := rv.get hp
    obtain ⟨v2, hv2, r2⟩ := rv2.get hq
    have hh : X.A.in1.handled = none := I.ok.hd hc
    have zlt : z < s.heap.objs.size := Heap.lt_size hz
    have lt1 : i < is.toArray.size := by
      rcases Nat.lt_or_ge i is.toArray.size with g | g
      · exact g
      · rw [List.getElem?_eq_none (by simpa using g)] at hv; cases hv
    have lt2 : i < js.toArray.size := by
      rcases Nat.lt_or_ge i js.toArray.size with g | g
      · exact g
      · rw [List.getElem?_eq_none (by simpa using g)] at hv2; cases hv2
    refine wpAny_pyNext_zipD2_item S (drawsB hh D.l1i1 is.toArray t) (drawsB hh D.l2i2 js.toArray u) hz hTI hTO ⟨h1, p1⟩ ⟨h2, p2⟩ lt1 lt2 fun y1 y2 g' tk e1 e2 z' TO' st1 st2 hT hsz hk => ?_
    have e1' : is[i]? = some y1 := by simpa using e1
    have e2' : js[i]? = some y2 := by simpa using e2
    rw [hv] at e1'
    rw [hv2] at e2'
    cases e1'; cases e2'
    refine ⟨_, rfl, wpAny_letOwnedTupleGo_zip (s := { s with heap := g', toks := tk }) z' fun g2 z2 sb => ?_⟩
    have T2 : g2.get? s.heap.objs.size = some { cls := .type "tuple", data := .seq #[v, v2] } := (sb.2 _ (Nat.ne_of_gt zlt)).trans hT
    have ok : ObjOk X.prog X.w (upd H s.heap.objs.size (.tup [p, q])) g2 s.heap.objs.size (.tup [p, q]) := ⟨leB, [v, v2], .cons r1 (.cons r2 .nil), ⟨_, T2, rfl, _, rfl⟩⟩
    have J : L2.Inv X pins σ (upd H s.heap.objs.size (.tup [p, q])) { s with heap := g2, toks := tk } :=
      I.turnedNew (t' := tk) (ch := [z, TI, TO, i1, i2]) (fun c o hb e => by
        simp only [List.mem_cons, List.not_mem_nil, or_false, not_or] at hb
        exact (sb.2 c hb.1).trans (hk c o hb.1 hb.2.2.1 hb.2.2.2.1 hb.2.2.2.2 e)) hf (Nat.le_refl _) ok
    refine ⟨.ref s.heap.objs.size, _, J, rfl, ⟨_, p, q, rfl, I.hok.fresh (Nat.le_refl _), rfl, fun ls' e => by rw [SqB_inj I e hl]; exact hp, fun ms' e => by rw [SqB_inj I e hm]; exact hq⟩, ⟨z2, ?_, ⟨v, v2, ?_⟩, ?_, ?_⟩, fun c hcm => ?_⟩
    · exact (sb.2 _ D.TIz).trans (hk _ _ D.TIz D.TITO D.TIi1 D.TIi2 hTI)
    · exact (sb.2 _ D.TOz).trans TO'
    · exact itB_at st1.1 fun o e => (sb.2 _ D.i1z).trans e
    · exact itB_at st2.1 fun o e => (sb.2 _ D.i2z).trans e
    · have clt : c < s.heap.objs.size := by
        simp only [List.mem_cons, List.not_mem_nil, or_false] at hcm
        rcases hcm with rfl | rfl | rfl | rfl | rfl
        · exact zlt
        · exact Heap.lt_size hTI
        · exact Heap.lt_size hTO
        · obtain ⟨_, e, _⟩ := itB_obj h1; exact Heap.lt_size e
        · obtain ⟨_, e, _⟩ := itB_obj h2; exact Heap.lt_size e
      rw [upd_ne (Nat.ne_of_lt clt)]
      exact (hf c hcm).1
  · intro X hP hw hK hc i pins s σ H E I hf st hg
    subst hP hw hK
    obtain ⟨hz, hTI, ⟨p0, q0, hTO⟩, h1, h2⟩ := st
    obtain ⟨ls, ms, hl, hm, hend, le1, le2⟩ := hg
    obtain ⟨is, rv, p1⟩ := seqB I hl
    obtain ⟨js, rv2, p2⟩ := seqB I hm
    have l1 := rv.length
    have l2 := rv2.length
    have hh : X.A.in1.handled = none := I.ok.hd hc
    refine wpAny_pyNext_zipD2_end S (drawsB hh D.l1i1 is.toArray t) (drawsB hh D.l2i2 js.toArray u) hz hTI hTO ⟨h1, p1⟩ ⟨h2, p2⟩ (by simp; omega) (by simp; omega) (by simp; omega) fun g' tk hk => ⟨rfl, I.turnedL (t' := tk) (ch := [z, TI, TO, i1, i2]) (fun c o hb e => ?_) hf⟩
    simp only [List.mem_cons, List.not_mem_nil, or_false, not_or] at hb
    exact hk c o hb.1 hb.2.2.1 hb.2.2.2.1 hb.2.2.2.2 e
  · exact fun A i s Q E st q => wpAny_pyIter_zip st.1 q
def iZipB (K : PySem.W.Frag) (t u : Bool) (ta : TA) : TI := fun σ H R => ta σ H fun vs H1 => ∃ a b ls ms, vs = [.ref a, .ref b] ∧ SqB K t H1 a ls ∧ SqB K u H1 b ms ∧ R (ItzB K t u a b) H1
theorem pi_zipB {X : Cx} {t u : Bool} {e e2 : Expr} {ta : TA} {p pos tpos : Pos} {elts : List Expr} {kk : Nat} (hg : Gl X "zip") (hm : X.mg "zip" = none) (ha : PA X [e, e2] ta)
    (s1 : starEach [e, e2] X.env = (false, eval e X.env) :: starEach [e2] X.env := by rfl) (s2 : (backTo pos (starEach [e2] X.env)).any (·.1) = false := by rfl) : PI X (.Tuple elts kk tpos) (.Call (.Name "zip" p) [e, e2] [] pos) (iZipB X.K t u ta) := by
  refine ⟨fun pins s σ H R I h => Call_ (ld_blt I hg hm PyProof.Rows.boot_zip (PyProof.Rows.callWith_type1 (thn (ha.run pos pins s σ H _ I h) ?_) s1 s2))⟩
  rintro us s1 ⟨vs, H1, I1, r1, a, b, ls, ms, rfl, hl, hm', q⟩
  cases r1 with
  | cons r rr =>
  cases rr with
  | cons r' rr =>
  cases rr
  cases r
  cases r'
  obtain ⟨is, rv, p1⟩ := seqB I1 hl
  obtain ⟨js, rv2, p2⟩ := seqB I1 hm'
  obtain ⟨o1, B1, b1⟩ := beginsB (l := a) (it := s1.heap.objs.size) is.toArray t
  obtain ⟨o2, B2, b2⟩ := beginsB (l := b) (it := s1.heap.objs.size + 1) js.toArray u
  refine zip_begins2 B1 B2 p1 p2 fun g hz hTI hTO e1 e2 hsz hk => wpAny_pyIter_zip hz ?_
  refine ⟨s1.heap.objs.size + 4, [s1.heap.objs.size + 4, s1.heap.objs.size + 2, s1.heap.objs.size + 3, s1.heap.objs.size, s1.heap.objs.size + 1], _, _, H1, rfl, I1.kept (t' := s1.toks) hk, turn_zipB (t := t) (u := u) (PySem.W.ktu_apart s1.heap.objs.size a b (seqB_lt p1) (seqB_lt p2)), ⟨hz, hTI, ⟨_, _, hTO⟩, b1 g e1, b2 g e2⟩, fun c hcm => ?_, q⟩
  have hle : s1.heap.objs.size ≤ c := by
    simp only [List.mem_cons, List.not_mem_nil, or_false] at hcm
    rcases hcm with rfl | rfl | rfl | rfl | rfl
    · exact Nat.le_add_right _ 4
    · exact Nat.le_add_right _ 2
    · exact Nat.le_add_right _ 3
    · exact Nat.le_refl _
    · exact Nat.le_add_right _ 1
  exact I1.fpOk hle (I1.hok.fresh hle)
/-! over data -/
def seqD : Bool → D → Option (List D)
  | true, .tup xs => some xs
  | false, .lst xs => some xs
  | _, _ => none
def dZipB (t u : Bool) (da : DA) : DI := fun ρ μ K => da ρ μ fun zs μ1 => ∃ x y xs ys, zs = [x, y] ∧ seqD t x = some xs ∧ seqD u y = some ys ∧ K (pairsD xs ys) (fun _ => True) μ1
theorem seqD_at {K' : PySem.W.Frag} {t : Bool} {H0 : Hp} {x : D} {v : V} {xs : List D} (r : Dt H0 v x) (h : seqD t x = some xs) : ∃ a vs, v = .ref a ∧ DtAll H0 vs xs ∧ ∀ H2, Evl.Ex H0 H2 → SqB K' t H2 a vs := by
  haveI := amb0
  cases t with
  | true =>
    cases x with
    | tup ys =>
      cases h
      obtain ⟨a, vs, rfl, ha, ta⟩ := r.tup_of
      exact ⟨a, vs, rfl, ta, fun H2 e2 => SqT.of (e2 _ _ ha)⟩
    | _ => cases h
  | false =>
    cases x with
    | lst ys =>
      cases h
      obtain ⟨a, vs, rfl, ha, ta⟩ := r.lst_of
      exact ⟨a, vs, rfl, ta, fun H2 e2 => SqL.of (e2 _ _ ha)⟩
    | _ => cases h
theorem walk_zipB {K : PySem.W.Frag} {t u : Bool} {a b : Addr} {xs ys : List V} {n : Nat} (hn : n = min xs.length ys.length) : Walk (ItzB K t u a b) n (fun H => SqB K t H a xs ∧ SqB K u H b ys) (YPair (fun i => xs[i]?) (fun i => ys[i]?)) := by
  refine ⟨fun i H hi g => ?_, fun H g => ?_, ?_⟩
  · exact ⟨xs, ys, xs[i]'(by omega), ys[i]'(by omega), g.1, g.2, by simp, by simp⟩
  · exact ⟨xs, ys, g.1, g.2, by omega, by omega, by omega⟩
  · rintro i H v H' hi g ⟨T, x, z, h1, h2, h3, h4, h5⟩
    exact ⟨T, x, z, h1, h2, h3, h4 xs g.1, h5 ys g.2⟩
theorem li_zipB [AM : Amb] {K' : PySem.W.Frag} {t u : Bool} {ta : TA} {da : DA} (h : LiftA ta da) : LiftI (iZipB K' t u ta) (dZipB t u da) := fun ρ μ K hk σ H0 H1 sl rw_ R q =>
  h ρ μ _ hk σ H0 H1 sl rw_ _ fun zs us μ1 H01 H11 e1 rw1 r1 ⟨x, y, xs, ys, ez, hx, hy, k⟩ => by
    subst ez
    obtain ⟨v, w, rfl, r, r'⟩ := vals_of_all2 r1
    obtain ⟨a, vs, rfl, ta, sa⟩ := seqD_at (K' := K') r hx
    obtain ⟨b, ws, rfl, tb, sb⟩ := seqD_at (K' := K') r' hy
    refine ⟨a, b, vs, ws, rfl, sa _ rw1.ex, sb _ rw1.ex, q _ _ μ1 H01 H11 _ e1 rw1 k ⟨_, _, walk_zipB (xs := vs) (ys := ws) (by rw [ta.length, tb.length]; simp [pairsD]), fun H0' H μ' e rr _ => ⟨sa _ (e.trans rr.ex), sb _ (e.trans rr.ex)⟩, ?_⟩⟩
    rintro i z H H' H0' μ' hi e rr _ ⟨T, p, s, rfl, hT, rfl, hp, hs⟩
    obtain ⟨dx, hdx, rx⟩ := ta.getV hp
    obtain ⟨dy, hdy, ry⟩ := tb.getV hs
    obtain ⟨H02, e2, r2, r3⟩ := pair_new rr hT (rx.mono e) (ry.mono e)
    exact ⟨H02, _, e2, r2, pairs_get hdx hdy, r3⟩
end DL
/-! values that may be lists that change; what stands beside them -/
namespace DL
open PySem PySem.Spec PyProof.Rows L2
/-- plain, or a list that changes -/
def Pv (μ : Mu) (d : D) : Prop := Pl d ∨ ∃ a xs, d = .val (.ref a) ∧ μ a = some (.lst xs)
def isLv : D → Bool
  | .lst _ => true
  | .val _ => true
  | _ => false
section
variable {μ μ' : Mu} {d : D} {a : Addr} {xs : List D}
theorem Pl.pv (h : Pl d) : Pv μ d := .inl h
theorem Pv.sub (h : Pv μ d) (s : SubM μ μ') : Pv μ' d := h.imp id fun ⟨a, xs, e, m⟩ => ⟨a, xs, e, s _ _ m⟩
theorem Pv.up {m : MO} (h : Pv μ d) (hp : μ a = none) : Pv (mup μ a m) d := h.sub (SubM.refl.up hp)
theorem Pl.lv (h : Pl d) : isLv d = isL d := by
  obtain ⟨p, hp⟩ := h.some_py
  cases d with
  | val v => cases hp
  | _ => rfl
section
variable {K' : PySem.W.Frag} {Q : KD} {t : String} {b : Bool}
theorem pv_mut (hm : μ a = some (.lst xs)) (hb : PySem.W.kitOne K' (.type "list") (.type t) = some b) (k : Q (.bl b) μ) : fIsP K' [.val (.ref a), .val (.ty t)] μ Q :=
  .inl ⟨_, _, "list", _, _, rfl, rfl, (by simp [tyD, hm]), hb, k⟩
theorem pv_int (h : Pv μ d) (k : Q (.bl (isI d)) μ) : fIsP K' [d, .val (.ty "int")] μ Q := by
  rcases h with h | ⟨a, xs, rfl, hm⟩
  · exact isP_int h k
  · exact pv_mut hm rfl k
theorem pv_bool (h : Pv μ d) (k : Q (.bl (isB d)) μ) : fIsP K' [d, .val (.ty "bool")] μ Q := by
  rcases h with h | ⟨a, xs, rfl, hm⟩
  · exact isP_bool h k
  · exact pv_mut hm rfl k
theorem pv_tup (h : Pv μ d) (k : Q (.bl (isT d)) μ) : fIsP K' [d, .val (.ty "tuple")] μ Q := by
  rcases h with h | ⟨a, xs, rfl, hm⟩
  · exact isP_tuple h k
  · exact pv_mut hm rfl k
theorem pv_lst (h : Pv μ d) (k : Q (.bl (isLv d)) μ) : fIsP K' [d, .val (.ty "list")] μ Q := by
  rcases h with h | ⟨a, xs, rfl, hm⟩
  · exact isP_list h (by rw [← h.lv]; exact k)
  · exact pv_mut hm rfl k
end
/-- what it reads as -/
inductive Vp (μ : Mu) : D → PyData → Prop
  | pl {d : D} {p : PyData} : Pl d → toPy d = some p → Vp μ d p
  | mt {a : Addr} {xs : List D} {ps : List PyData} : μ a = some (.lst xs) → Pl (.lst xs) → toPyAll xs = some ps → Vp μ (.val (.ref a)) (.list ps)
theorem Vp.of (h : Pl d) : ∃ p, Vp μ d p := let ⟨p, hp⟩ := h.some_py; ⟨p, .pl h hp⟩
theorem vw_all : ∀ {xs : List D} {ps : List PyData}, toPyAll xs = some ps → VwAll μ xs ps
  | [], _, h => by cases h; exact .nil
  | d :: ds, _, h => by
    rw [toPyAll] at h
    obtain ⟨p, h1, h2⟩ := Option.bind_eq_some_iff.mp h
    obtain ⟨ps, h3, rfl⟩ := Option.map_eq_some_iff.mp h2
    exact .cons (.py h1) (vw_all h3)
theorem repr_v {p : PyData} {K : KD} (h : Vp μ d p) (k : K (.str p.shown) μ) : fRepr [d] μ K := by
  cases h with
  | pl h hp => exact repr_of h hp k
  | mt hm hl ht =>
    obtain ⟨p', h1, h2, h3, h4⟩ := hl.py
    rw [toPy, ht] at h1
    cases h1
    exact ⟨_, _, rfl, .adr hm (vw_all ht), h2, h3, h4, k⟩
end
/-! ### exceptions kept -/
def fAttr (K' : PySem.W.Frag) (f : Str) (x : D) (μ1 : Mu) (K : KD) : Prop := (∃ C fs d, x = D.exc C fs ∧ ExcK K' C ∧ PySem.W.findIn K' (.ref C) f = some none ∧ fs.lookup f = some d ∧ K d μ1) ∨
  (∃ C fs d, x = D.ins C fs ∧ Cls K' C ∧ NoAttr K' C f ∧ fs.lookup f = some d ∧ K d μ1) ∨ (∃ a C fs d, x = .val (.ref a) ∧ μ1 a = some (.ins C fs) ∧ Cls K' C ∧ NoAttr K' C f ∧ fs.lookup f = some d ∧ K d μ1)
section
variable {K' : PySem.W.Frag} {ρ : Ro} {μ : Mu} {K : KD} {f : Str} {da db dc de : DE} {C D' : Addr} {fs : List (Str × D)} {x y z : D} {b neg : Bool} {xs ys : List D} {i j l : Nat}
theorem a_att : dAtt K' f da ρ μ K = da ρ μ fun x μ1 => fAttr K' f x μ1 K := rfl
theorem attr_exc (hx : ExcK K' C) (hf : PySem.W.findIn K' (.ref C) f = some none) (k : K x μ) : fAttr K' f (D.exc C [(f, x)]) μ K := .inl ⟨C, [(f, x)], x, rfl, hx, hf, by simp [List.lookup], k⟩
theorem isX_of (hx : ExcK K' C) (hb : PySem.W.kitOne K' (.ref C) (.ref D') = some b) (k : K (.bl b) μ) : fIsP K' [D.exc C fs, .val (.ref D')] μ K := .inr ⟨C, fs, _, _, b, rfl, rfl, hx, hb, k⟩
theorem isP_nonX (hb : PySem.W.kitOne K' (.type "NoneType") (.ref D') = some b) (k : K (.bl b) μ) : fIsP K' [.non, .val (.ref D')] μ K := .inl ⟨_, _, "NoneType", _, _, rfl, rfl, rfl, hb, k⟩
/-- x is None, x perhaps an exception -/
def fIsNX (neg : Bool) : DO2 := fun x y μ K => fIsN neg x y μ K ∨ ∃ C fs, x = D.exc C fs ∧ y = .non ∧ K (.bl neg) μ
theorem exc_ne [AM : Amb] {H : Hp} {v : V} (r : Dt H v (D.exc C fs)) : decide (v = .non) = false := by
  obtain ⟨a, _, _, rfl, _⟩ := r.exc_of
  exact decide_eq_false (fun z => by cases z)
theorem l2_isNX [AM : Amb] : Lift2 rIsN (fIsNX false) := fun x y μ K h u v H0 H1 rx ry rw_ Q q => by
  rcases h with h | ⟨C, fs, rfl, rfl, k⟩
  · exact l2_isN x y μ K h u v H0 H1 rx ry rw_ Q q
  · refine ⟨ry.non_of, ?_⟩
    rw [exc_ne rx]
    exact q _ _ μ H0 H1 (exr _) rw_ (.bl _) k
theorem l2_notNX [AM : Amb] : Lift2 rNotN (fIsNX true) := fun x y μ K h u v H0 H1 rx ry rw_ Q q => by
  rcases h with h | ⟨C, fs, rfl, rfl, k⟩
  · exact l2_notN x y μ K h u v H0 H1 rx ry rw_ Q q
  · refine ⟨ry.non_of, ?_⟩
    rw [exc_ne rx]
    exact q _ _ μ H0 H1 (exr _) rw_ (.bl _) k
theorem isNX_exc (k : K (.bl neg) μ) : fIsNX neg (D.exc C fs) .non μ K := .inr ⟨C, fs, rfl, rfl, k⟩
theorem isNX_non (k : K (.bl (!neg)) μ) : fIsNX neg .non .non μ K := .inl (by rw [a_isN]; exact k)
theorem isN_of {b : Bool} (h : isNon x = some b) (k : K (.bl (if neg then !b else b)) μ) : fIsN neg x .non μ K := ⟨rfl, b, h, k⟩
theorem eq_emM {a : Addr} (hm : μ a = some (.lst xs)) : EqB μ (.val (.ref a)) (.lst []) xs.isEmpty := by
  cases xs with
  | nil => exact .py (p := .list []) (q := .list []) (.adr hm .nil) (.py rfl) rfl rfl
  | cons x xs => exact .len (asL_m hm) (y := .lst []) rfl (by simp)
theorem eqb_of (h : EqB μ x y b) (k : K (.bl (if neg then !b else b)) μ) : fEqX neg x y μ K := .inr ⟨b, h, k⟩
theorem eqb_py {p q : PyData} (hx : toPy x = some p) (hy : toPy y = some q) (sx : SeqAt.shaped p = true) (sy : SeqAt.shaped q = true) : EqB μ x y (PyData.eqv p q) := .py (.py hx) (.py hy) sx sy
theorem a_zipB {t u : Bool} {da : DA} {K : List D → (Mu → Prop) → Mu → Prop} : dZipB t u da ρ μ K = da ρ μ fun zs μ1 => ∃ x y xs ys, zs = [x, y] ∧ seqD t x = some xs ∧ seqD u y = some ys ∧ K (pairsD xs ys) (fun _ => True) μ1 := rfl
theorem ints_inj : ∀ {s t : List Int}, s.map D.int = t.map D.int → s = t
  | [], [], _ => rfl
  | [], _ :: _, h => by cases h
  | _ :: _, [], h => by cases h
  | a :: s, b :: t, h => by
    simp only [List.map_cons] at h
    injection h with h1 h2
    cases h1
    rw [ints_inj h2]
theorem vec_inj {s t : List Int} (h : vec s = vec t) : s = t := by
  unfold vec at h
  injection h with h
  exact ints_inj h
theorem a_ltT {ns ms : List Int} : fLtT (vec ns) (vec ms) μ K = K (.bl (HT.lexLt ns ms)) μ := by
  refine propext ⟨fun ⟨a, b, e1, e2, k⟩ => ?_, fun k => ⟨_, _, rfl, rfl, k⟩⟩
  rw [vec_inj e1, vec_inj e2]
  exact k
theorem a_abs {a : Int} : fAbs [.int a] μ K = K (.int (if a < 0 then -a else a)) μ := by simp [fAbs]
theorem a_lstRg {dr : DR} : dLstRg dr ρ μ K = dr ρ μ fun a b μ1 => RgOk a b ∧ K (.lst (rgD a (b - a).toNat)) μ1 := rfl
theorem a_tupRg {dr : DR} : dTupRg dr ρ μ K = dr ρ μ fun a b μ1 => RgOk a b ∧ K (.tup (rgD a (b - a).toNat)) μ1 := rfl
theorem a_r1 {K : Int → Int → Mu → Prop} : dR1 da ρ μ K = da ρ μ fun x μ1 => ∃ n, x = .int n ∧ K 0 n μ1 := rfl
def r2E (x y : D) (μ : Mu) (K : Int → Int → Mu → Prop) : Prop := ∃ i j, x = .int i ∧ y = .int j ∧ K i j μ
theorem a_r2 {K : Int → Int → Mu → Prop} : dR2 da db ρ μ K = da ρ μ fun x μ1 => db ρ μ1 fun y μ2 => r2E x y μ2 K := rfl
theorem a_r2E {a b : Int} {K : Int → Int → Mu → Prop} : r2E (.int a) (.int b) μ K = K a b μ := by simp [r2E]
theorem a_int1I {a : Int} : fInt1 [.int a] μ K = K (.int a) μ := rfl
theorem a_int1B {a : Bool} : fInt1 [.bl a] μ K = K (.int (if a then 1 else 0)) μ := rfl
theorem a_rg2 {dr : DA} {K : List D → (Mu → Prop) → Mu → Prop} : dRg2 dr ρ μ K = dr ρ μ fun xs μ1 => ∃ i j : Int, xs = [.int i, .int j] ∧ (-(2 ^ 62) ≤ i ∧ i < 2 ^ 62 ∧ -(2 ^ 62) ≤ j ∧ j < 2 ^ 62) ∧ K (rgD i (j - i).toNat) (fun _ => True) μ1 := rfl
theorem a_i2E {a b : Int} {P : Int → Int → Prop} : (∃ i j : Int, [D.int a, D.int b] = [D.int i, D.int j] ∧ P i j) = P a b := propext ⟨fun ⟨_, _, e, h⟩ => by cases e; exact h, fun h => ⟨_, _, rfl, h⟩⟩
theorem a_l2E {a b : D} {P : D → D → Prop} : (∃ x y : D, [a, b] = [x, y] ∧ P x y) = P a b := propext ⟨fun ⟨_, _, e, h⟩ => by cases e; exact h, fun h => ⟨_, _, rfl, h⟩⟩
theorem a_l3E {a b c : D} {P : D → D → D → Prop} : (∃ x y z : D, [a, b, c] = [x, y, z] ∧ P x y z) = P a b c := propext ⟨fun ⟨_, _, _, e, h⟩ => by cases e; exact h, fun h => ⟨_, _, _, rfl, h⟩⟩
theorem a_chain {f g : DO2} : dChain f g da db dc ρ μ K = da ρ μ fun x μ1 => db ρ μ1 fun y μ2 => f x y μ2 fun z μ3 => ∃ k, z = .bl k ∧ if k = true then dc ρ μ3 fun u μ4 => g y u μ4 K else K (.bl false) μ3 := rfl
theorem a_wipe0 : wipeD ρ [] = ρ := rfl
theorem a_wipe1 {i : Nat} {is : List Nat} : wipeD ρ (i :: is) = (wipeD ρ is).set i none := rfl
theorem a_raise {E : DEnds} {Y : KX} {dm : DM} : dRaise Y dm E ρ μ = dm ρ μ Y := rfl
def fErr (C : Addr) (f : Str) (xs : List D) (μ1 : Mu) (K : KX) : Prop := ∃ x : D, xs = [x] ∧ K C [(f, x)] μ1
theorem a_err {K : KX} {dr : DA} : dErr C f dr ρ μ K = dr ρ μ fun xs μ1 => fErr C f xs μ1 K := rfl
theorem a_errE {K : KX} : fErr C f [x] μ K = K C [(f, x)] μ := by simp [fErr]
def dPar (i j : Nat) (da : DA) : DS := fun E ρ μ => da ρ μ fun xs μ1 => ∃ x y, xs = [x, y] ∧ E.nx ((ρ.set i (some x)).set j (some y)) μ1
def dPar3 (i j l : Nat) (da : DA) : DS := fun E ρ μ => da ρ μ fun xs μ1 => ∃ x y z, xs = [x, y, z] ∧ E.nx (((ρ.set i (some x)).set j (some y)).set l (some z)) μ1
theorem a_par {E : DEnds} {dr : DA} : dPar i j dr E ρ μ = dr ρ μ fun xs μ1 => ∃ x y, xs = [x, y] ∧ E.nx ((ρ.set i (some x)).set j (some y)) μ1 := rfl
theorem a_par3 {E : DEnds} {dr : DA} : dPar3 i j l dr E ρ μ = dr ρ μ fun xs μ1 => ∃ x y z, xs = [x, y, z] ∧ E.nx (((ρ.set i (some x)).set j (some y)).set l (some z)) μ1 := rfl
theorem ls_par [AM : Amb] {ta : TA} {dr : DA} (h : LiftA ta dr) : LiftS (tPar i j ta) (dPar i j dr) := fun E ρ μ hk F σ H0 H1 sl rw_ lk =>
  h ρ μ _ hk σ H0 H1 sl rw_ _ fun xs us μ1 H01 H11 e1 rw1 r1 ⟨x, y, e, k⟩ => by
    subst e
    obtain ⟨u, v, rfl, ru, rv⟩ := vals_of_all2 r1
    exact ⟨u, v, rfl, lk.nx _ _ _ H01 H11 e1 (((sl.mono e1).set i ru).set j rv) rw1 k⟩
theorem ls_par3 [AM : Amb] {ta : TA} {dr : DA} (h : LiftA ta dr) : LiftS (tPar3 i j l ta) (dPar3 i j l dr) := fun E ρ μ hk F σ H0 H1 sl rw_ lk =>
  h ρ μ _ hk σ H0 H1 sl rw_ _ fun xs us μ1 H01 H11 e1 rw1 r1 ⟨x, y, z, e, k⟩ => by
    subst e
    cases r1 with
    | cons ru r1 =>
    cases r1 with
    | cons rv r1 =>
    cases r1 with
    | cons rw' r1 =>
    cases r1
    exact ⟨_, _, _, rfl, lk.nx _ _ _ H01 H11 e1 ((((sl.mono e1).set i ru).set j rv).set l rw') rw1 k⟩
theorem a_rem : dRem da de ρ μ K = da ρ μ fun x μ1 => ∃ a, x = .val (.ref a) ∧ (∃ ys, μ1 a = some (.lst ys)) ∧ de ρ μ1 fun y μ2 => ∃ (ns : List Int) (k : Int) (j : Nat), y = .int k ∧ μ2 a = some (.lst (ns.map D.int)) ∧ ns[j]? = some k ∧ (∀ m : Nat, m < j → ns[m]? ≠ some k) ∧ K .non (mup μ2 a (.lst ((ns.eraseIdx j).map D.int))) := rfl
theorem while_eq {c : DT} {d : DS} {E : DEnds} : dWhile c d E ρ μ = ∃ W : Nat → Ro → Mu → Prop, (∃ m, W m ρ μ) ∧ ∀ m ρ μ, W m ρ μ →
  c ρ μ fun b μ1 => if b = true then d { E with nx := fun ρ' μ' => ∃ m', m' < m ∧ W m' ρ' μ', ct := fun ρ' μ' => ∃ m', m' < m ∧ W m' ρ' μ', bk := E.nx } ρ μ1 else E.nx ρ μ1 := rfl
theorem a_try {c : Value} {E : DEnds} {dbs : (Ro → KX) → DS} : dTryKeep K' c i j dbs E ρ μ = dbs (fun ρ' C fs μ' => PySem.W.exmOne K' (.ref C) c = some true ∧ i < ρ'.length ∧ E.nx ((ρ'.set j (some (D.exc C fs))).set i none) μ') E ρ μ := rfl
theorem a_callS {dsp : DSp} {Y : Ro → KX} {dr : DA} : dCallS dsp Y dr ρ μ K = dr ρ μ fun xs μ1 => dsp xs μ1 K (Y ρ) := rfl
theorem lenM_of {a : Addr} (h : μ a = some (.lst xs)) (k : K (.int xs.length) μ) : fLen [.val (.ref a)] μ K := by rw [a_lenM h]; exact k
theorem ixM_of {a : Addr} {k : Nat} (h : μ a = some (.lst xs)) (hx : xs[k]? = some x) (q : K x μ) : fIx (.val (.ref a)) (.int (k : Int)) μ K := ⟨_, _, _, asS_m h, rfl, atI_nat hx, q⟩
end
def isNn : D → Bool
  | .non => true
  | _ => false
theorem pv_isN {μ : Mu} {K : KD} {d : D} {neg : Bool} (h : Pv μ d) (k : K (.bl (if neg then !isNn d else isNn d)) μ) : fIsN neg d .non μ K := by
  refine ⟨rfl, isNn d, ?_, k⟩
  rcases h with h | ⟨a, xs, rfl, _⟩
  · obtain ⟨p, hp⟩ := h.some_py
    cases d with
    | val v => cases hp
    | ins C fs => cases hp
    | any P => cases hp
    | _ => rfl
  · rfl
/-! ### a vector's numbers -/
def intOf : D → Int
  | .int i => i
  | _ => 0
theorem ints_back (is : List Int) : (is.map D.int).map intOf = is := by
  rw [List.map_map]
  exact List.map_id'' (fun _ => rfl) _
def lstOf : D → List D
  | .tup xs => xs
  | .lst xs => xs
  | _ => []
theorem wholes_back : ∀ {xs : List D}, xs.all isWhole = true → ∃ is : List Int, xs = is.map D.int
  | [], _ => ⟨[], rfl⟩
  | x :: xs, h => by
    rw [List.all_cons, Bool.and_eq_true] at h
    obtain ⟨is, rfl⟩ := wholes_back h.2
    cases x with
    | int i => exact ⟨i :: is, rfl⟩
    | _ => cases h.1
theorem vec_form {n : Int} {d : D} (h : isVec n d = true) : ∃ is : List Int, d = vec is ∧ (is.length : Int) = n := by
  cases d with
  | tup xs =>
    have h' : (decide ((xs.length : Int) = n) && xs.all isWhole) = true := h
    rw [Bool.and_eq_true] at h'
    obtain ⟨is, rfl⟩ := wholes_back h'.2
    exact ⟨is, rfl, by simpa using of_decide_eq_true h'.1⟩
  | _ => cases h
/-! ### all but one address stay -/
def SubX (a : Addr) (μ μ' : Mu) : Prop := ∀ b m, b ≠ a → μ b = some m → μ' b = some m
section
variable {a b : Addr} {μ μ' μ'' : Mu} {m : MO} {c : Int}
theorem SubX.refl : SubX a μ μ := fun _ _ _ h => h
theorem SubX.tr (h : SubX a μ μ') (g : SubX a μ' μ'') : SubX a μ μ'' := fun b m n e => g b m n (h b m n e)
theorem SubM.x (h : SubM μ μ') : SubX a μ μ' := fun b m _ e => h b m e
theorem SubX.purse (h : SubX a μ μ') : SubX a μ (mup μ' a m) := fun b n ne e => by rw [mup_ne ne]; exact h b n ne e
theorem SubX.up (h : SubX a μ μ') (hp : μ b = none) : SubX a μ (mup μ' b m) := fun c n ne e => by
  rw [mup_ne (fun z => by rw [z, hp] at e; cases e)]
  exact h c n ne e
theorem SubX.nil (h : SubX a μ μ') (ne : b ≠ a) (hp : μ' b = none) : μ b = none := by
  cases e : μ b with
  | none => rfl
  | some m => rw [h b m ne e] at hp; cases hp
theorem Pu.ne (h : Pu c μ a) (hb : μ b = none) : a ≠ b := fun z => by
  obtain ⟨p0, p1, p2, e, _⟩ := h
  rw [z, hb] at e; cases e
theorem Pu.other (h : Pu c μ a) (hb : b ≠ a) : Pu c (mup μ b m) a := h.up (Ne.symm hb)
theorem draw_x [AM : Amb] {K : KD} {k c : Int} {Y : KX} (h1 : 1 ≤ k) (h2 : k < 2 ^ 200) (hb : c ≤ 10 ^ 8) (hP : Pu c μ a) (q : ∀ n μ', 0 ≤ n → n < k → SubX a μ μ' → Pu (c + 10) μ' a → K (.int n) μ') : spDraw [.val (.ref a), .int k] μ K Y :=
  draw_of h1 h2 hb hP fun n l n0 n1 hp => q n _ n0 n1 SubX.refl.purse hp
end
/-! ### a list lengthened behind -/
def moreD : D := .str "more"
def app1 (μ : Mu) (d : D) : Mu := match d with
  | .val (.ref a) => match μ a with
    | some (.lst xs) => mup μ a (.lst (xs ++ [moreD]))
    | _ => μ
  | _ => μ
theorem app1_mut {μ : Mu} {a : Addr} {xs : List D} (h : μ a = some (.lst xs)) : app1 μ (.val (.ref a)) = mup μ a (.lst (xs ++ [moreD])) := by
  show (match μ a with | some (.lst xs) => mup μ a (.lst (xs ++ [moreD])) | _ => μ) = _
  rw [h]
theorem app1_pl {μ : Mu} {d : D} (h : Pl d) : app1 μ d = μ := by
  obtain ⟨p, hp⟩ := h.some_py
  cases d with
  | val v => cases hp
  | _ => rfl
theorem app1_sub {μ μ0 : Mu} {d : D} (h : SubM μ0 μ) (n : ∀ a, d = .val (.ref a) → μ0 a = none) : SubM μ0 (app1 μ d) := by
  cases d with
  | val v =>
    cases v with
    | ref a =>
      show SubM μ0 (match μ a with | some (.lst xs) => mup μ a (.lst (xs ++ [moreD])) | _ => μ)
      split
      · exact h.up (n a rfl)
      · exact h
    | _ => exact h
  | _ => exact h
end DL
/-! texts of what is shown have signs below 0x110000 -/
namespace DL
open PySem PySem.Spec PyProof.Rows L2
mutual
def sok : D → Bool
  | .str x => PyData.strOk (reprText x)
  | .lst xs => sokAll xs
  | .tup xs => sokAll xs
  | _ => true
def sokAll : List D → Bool
  | [] => true
  | d :: ds => sok d && sokAll ds
end
theorem sok_mem : ∀ {xs : List D}, sokAll xs = true → ∀ x ∈ xs, sok x = true
  | d :: ds, h, x, hx => by
    rw [sokAll, Bool.and_eq_true] at h
    rcases List.mem_cons.1 hx with rfl | hx
    · exact h.1
    · exact sok_mem h.2 x hx
theorem sok_of : ∀ {xs : List D}, (∀ x ∈ xs, sok x = true) → sokAll xs = true
  | [], _ => rfl
  | d :: ds, h => by
    rw [sokAll, Bool.and_eq_true]
    exact ⟨h d List.mem_cons_self, sok_of fun x hx => h x (List.mem_cons_of_mem _ hx)⟩
theorem sok_app {xs ys : List D} (h : sokAll xs = true) (g : sokAll ys = true) : sokAll (xs ++ ys) = true := sok_of fun x hx => by
  rcases List.mem_append.1 hx with hx | hx
  · exact sok_mem h x hx
  · exact sok_mem g x hx
theorem sok_ints (is : List Int) : sokAll (is.map D.int) = true := sok_of fun x hx => by
  obtain ⟨i, _, rfl⟩ := List.mem_map.1 hx
  rfl
theorem strOk_iff {x : Str} : PyData.strOk x = true ↔ ∀ c ∈ x.cps.toList, c < 0x110000 := by
  unfold PyData.strOk
  rw [← Array.all_toList, List.all_eq_true]
  simp
theorem strOk_ofString (s : String) : PyData.strOk (Str.ofString s) = true := by
  rw [strOk_iff, signs_ofString]
  intro c hc
  obtain ⟨ch, _, rfl⟩ := List.mem_map.1 hc
  have := ch.valid
  rcases this with h | h
  · exact Nat.lt_of_lt_of_le h (by decide)
  · exact h.2
theorem strOk_append {a b : Str} (h : PyData.strOk a = true) (g : PyData.strOk b = true) : PyData.strOk (a ++ b) = true := by
  rw [strOk_iff] at *
  intro c hc
  rcases mem_cps_append.1 hc with hc | hc
  · exact h c hc
  · exact g c hc
theorem strOk_join {sep : Str} (hs : PyData.strOk sep = true) {ts : List Str} (h : ∀ t ∈ ts, PyData.strOk t = true) : PyData.strOk (Str.join sep ts) = true := by
  rw [strOk_iff] at *
  intro c hc
  rcases (mem_join sep c ts).1 hc with ⟨t, ht, hc⟩ | ⟨_, hc⟩
  · exact strOk_iff.1 (h t ht) c hc
  · exact hs c hc
theorem strOk_text : ∀ {ts : List Str} {i : Nat} {st : Str}, PyData.strOk st = true → (∀ t ∈ ts, PyData.strOk t = true) → PyData.strOk (textFrom i st ts) = true
  | [], _, _, h, _ => h
  | t :: r, i, st, h, g => by
    simp only [textFrom]
    refine strOk_text ?_ fun x hx => g x (List.mem_cons_of_mem _ hx)
    split
    · exact strOk_append (strOk_append h (strOk_ofString _)) (g t List.mem_cons_self)
    · first | exact strOk_append (strOk_append h (strOk_ofString _)) (g t List.mem_cons_self) | exact strOk_append h (g t List.mem_cons_self)
theorem shownAll_ok : ∀ {ps : List PyData}, (∀ p ∈ ps, PyData.strOk p.shown = true) → ∀ t ∈ PyData.shownAll ps, PyData.strOk t = true
  | [], _, t, ht => by cases ht
  | p :: ps, h, t, ht => by
    rcases List.mem_cons.1 ht with rfl | ht
    · exact h p List.mem_cons_self
    · exact shownAll_ok (fun q hq => h q (List.mem_cons_of_mem _ hq)) t ht
theorem toPyAll_mem : ∀ {xs : List D} {ps : List PyData}, toPyAll xs = some ps → ∀ p ∈ ps, ∃ d ∈ xs, toPy d = some p
  | [], _, h, p, hp => by cases h; cases hp
  | d :: ds, _, h, p, hp => by
    rw [toPyAll] at h
    obtain ⟨q, h1, h2⟩ := Option.bind_eq_some_iff.mp h
    obtain ⟨ps, h3, rfl⟩ := Option.map_eq_some_iff.mp h2
    rcases List.mem_cons.1 hp with rfl | hp
    · exact ⟨d, List.mem_cons_self, h1⟩
    · obtain ⟨e, he, hh⟩ := toPyAll_mem h3 p hp
      exact ⟨e, List.mem_cons_of_mem _ he, hh⟩
theorem Nc.strOk {k n : Nat} {d : D} (h : Nc k n d) : sok d = true → ∀ p, toPy d = some p → PyData.strOk p.shown = true := by
  induction h with
  | non _ => intro _ p hp; cases hp; exact strOk_ofString _
  | @bl k n b _ => intro _ p hp; cases hp; cases b <;> exact strOk_ofString _
  | int _ _ => intro _ p hp; cases hp; exact strOk_ofString _
  | str _ => intro h p hp; cases hp; exact h
  | emp _ =>
    intro _ p hp
    cases hp
    decide +kernel
  | lst _ _ _ _ ih =>
    intro h p hp
    rw [toPy] at hp
    obtain ⟨ps, h3, rfl⟩ := Option.map_eq_some_iff.mp hp
    simp only [PyData.shown, listText]
    refine strOk_append (strOk_text (strOk_ofString _) (shownAll_ok fun q hq => ?_)) (strOk_ofString _)
    obtain ⟨d, hd, e⟩ := toPyAll_mem h3 q hq
    exact ih d hd (sok_mem h d hd) q e
  | tup _ _ _ _ ih =>
    intro h p hp
    rw [toPy] at hp
    obtain ⟨ps, h3, rfl⟩ := Option.map_eq_some_iff.mp hp
    simp only [PyData.shown, tupleText]
    refine strOk_append (strOk_append (strOk_ofString _) (strOk_join (strOk_ofString _) (shownAll_ok fun q hq => ?_))) (strOk_ofString _)
    obtain ⟨d, hd, e⟩ := toPyAll_mem h3 q hq
    exact ih d hd (sok_mem h d hd) q e
theorem Pl.strOk {d : D} (h : Pl d) (hs : sok d = true) {p : PyData} (hp : toPy d = some p) : PyData.strOk p.shown = true := by
  obtain ⟨k, n, h, _⟩ := h
  exact h.strOk hs p hp
end DL
/-! wrong values held in lists that change -/
namespace DL
open PySem PySem.Spec PyProof.Rows L2
theorem nocell_pl {xs : List D} (h : LvAll 3 xs) (hl : xs.length ≤ 50) : Pl (.lst xs) := ⟨4, 50 * (nn 3 + 2) + 3, .lst (m := 50) (by decide) (Nat.le_refl _) hl h, by decide, by decide⟩
/-- a plain thing that is no list, or a short list that changes -/
def Th (n : Nat) (μ : Mu) (d : D) : Prop := (Pl d ∧ isLv d = false ∧ sok d = true) ∨ ∃ q xs, d = .val (.ref q) ∧ μ q = some (.lst xs) ∧ (LvAll 3 xs ∧ sokAll xs = true) ∧ xs.length ≤ n
section
variable {n m : Nat} {μ μ' : Mu} {d e : D} {a : Addr} {xs : List D}
theorem Pl.th (h : Pl d) (h2 : isLv d = false) (h3 : sok d = true) : Th n μ d := .inl ⟨h, h2, h3⟩
theorem Th.pv (h : Th n μ d) : Pv μ d := h.imp (·.1) fun ⟨q, xs, e, m, _⟩ => ⟨q, xs, e, m⟩
theorem Th.mono (h : Th n μ d) (hm : n ≤ m) : Th m μ d := h.imp id fun ⟨q, xs, e, h1, h2, h3⟩ => ⟨q, xs, e, h1, h2, by omega⟩
theorem Th.sub (h : Th n μ d) (s : SubM μ μ') : Th n μ' d := h.imp id fun ⟨q, xs, e, h1, h2⟩ => ⟨q, xs, e, s _ _ h1, h2⟩
theorem more_lv : Lv 3 moreD ∧ sok moreD = true := ⟨Lv.str (by decide +kernel), by decide +kernel⟩
theorem Th.app (h : Th n μ d) : Th (n + 1) (app1 μ e) d := by
  rcases h with h | ⟨q, xs, rfl, h1, ⟨h2, h3⟩, h4⟩
  · exact .inl h
  · by_cases he : e = .val (.ref q)
    · subst he
      rw [app1_mut h1]
      refine .inr ⟨q, xs ++ [moreD], rfl, mup_same, ⟨fun x hx => ?_, sok_app h3 (by rw [sokAll, more_lv.2]; rfl)⟩, by simp; omega⟩
      rcases List.mem_append.1 hx with hx | hx
      · exact h2 x hx
      · rw [List.mem_singleton.1 hx]; exact more_lv.1
    · refine .inr ⟨q, xs, rfl, ?_, ⟨h2, h3⟩, by omega⟩
      cases e with
      | val v =>
        cases v with
        | ref b =>
          have ne : q ≠ b := fun z => he (by rw [z])
          show (match μ b with | some (.lst xs) => mup μ b (.lst (xs ++ [moreD])) | _ => μ) q = _
          cases hb : μ b with
          | none => exact h1
          | some m =>
            cases m with
            | lst ys => show mup μ b _ q = _; rw [mup_ne ne]; exact h1
            | ins C fs => exact h1
        | _ => exact h1
      | _ => exact h1
theorem Th.vp (h : Th n μ d) (hn : n ≤ 50) : ∃ p, Vp μ d p ∧ PyData.strOk p.shown = true := by
  rcases h with ⟨h, _, hs⟩ | ⟨q, xs, rfl, h1, ⟨h2, h3⟩, h4⟩
  · obtain ⟨p, hp⟩ := h.some_py
    exact ⟨p, .pl h hp, h.strOk hs hp⟩
  · have hl := nocell_pl h2 (by omega)
    obtain ⟨p, hp⟩ := hl.some_py
    have e := hp
    rw [toPy] at e
    obtain ⟨ps, h5, rfl⟩ := Option.map_eq_some_iff.mp e
    exact ⟨_, .mt h1 hl h5, hl.strOk (d := .lst xs) h3 hp⟩
/-- what its list(..) is, or itself -/
structure Held (μ μ' : Mu) (d h : D) : Prop where
  sub : SubM μ μ'
  th : Th 40 μ' h
  new : ∀ a, h = .val (.ref a) → μ a = none
  same : h = d ∨ ∃ a, h = .val (.ref a)
theorem hold_of {K' : PySem.W.Frag} {K : KD} (hp : Pl d) (hs : sok d = true) (hl : ∀ xs, d = .lst xs → LvAll 3 xs ∧ xs.length ≤ 40) (k : ∀ h μ', Held μ μ' d h → K h μ') :
    fIsP K' [d, .val (.ty "list")] μ fun x μ1 => ∃ b, x = .bl b ∧ if b = true then fListM [d] μ1 K else K d μ1 := by
  refine isP_list hp ⟨_, rfl, and_if (fun e => ?_) fun e => ?_⟩
  · cases d with
    | lst xs =>
      obtain ⟨h1, h2⟩ := hl xs rfl
      refine ⟨_, _, rfl, rfl, fun p hp0 => k _ _ ⟨SubM.refl.up hp0, .inr ⟨p, xs, rfl, mup_same, ⟨h1, hs⟩, h2⟩, fun a e => ?_, .inr ⟨p, rfl⟩⟩⟩
      cases e
      exact hp0
    | _ => cases e
  · refine k _ _ ⟨SubM.refl, .inl ⟨hp, by rw [hp.lv]; exact e, hs⟩, fun a e => ?_, .inl rfl⟩
    subst e
    obtain ⟨p, hp⟩ := hp.some_py
    cases hp
theorem eq_told2 {a b : Bool} {t : Str} (ht : PyData.strOk t = true) : EqB μ (.lst [.lst [.bl a, .bl b], .str t]) (.lst [.lst [.bl a, .bl b], .str t]) true := by
  have sh : SeqAt.shaped (.list [.list [.bool a, .bool b], .str t]) = true := by
    unfold SeqAt.shaped
    have e : PyData.canLay0 (.list [.list [.bool a, .bool b], .str t]) = true := by
      show ((true && (true && true)) && (PyData.strOk t && true)) = true
      rw [ht]; rfl
    have e2 : (PyData.list [.list [.bool a, .bool b], .str t]).depth ≤ 64 := by simp [PyData.depth, PyData.depthAll]
    rw [e, decide_eq_true e2]; rfl
  have q := eqb_py (μ := μ) (x := .lst [.lst [.bl a, .bl b], .str t]) (y := .lst [.lst [.bl a, .bl b], .str t]) rfl rfl sh sh
  have e : PyData.eqv (.list [.list [.bool a, .bool b], .str t]) (.list [.list [.bool a, .bool b], .str t]) = true := by
    simp [PyData.eqv, PyData.eqvAll]
  rwa [e] at q
end
section
variable {μ : Mu} {K : KD} {s : List Int} {xs : List D}
theorem a_slV3 : fSl (vec s) (some 1) none μ K = K (vec (s.drop 1)) μ := by
  have e : (1 : Int) = ((1 : Nat) : Int) := rfl
  show K (.tup (cutD (s.map D.int) (some 1) none)) μ = _
  rw [e, cut_drop]; rfl
theorem cut_last {α : Type} (f : α → D) (ls : List α) : cutD (ls.map f) none (some (-1)) = ls.dropLast.map f := by
  unfold cutD
  have e0 : HT.sIx (ls.map f).length 0 none = 0 := rfl
  have e1 : HT.sIx (ls.map f).length (ls.map f).length (some (-1)) = (ls.map f).length - 1 := by
    simp [HT.sIx]
    omega
  rw [e0, e1, List.length_map, List.drop_zero, Nat.sub_zero, ← List.map_take, List.dropLast_eq_take]
theorem a_slV4 : fSl (vec s) none (some (-1)) μ K = K (vec s.dropLast) μ := by
  show K (.tup (cutD (s.map D.int) none (some (-1)))) μ = _
  rw [cut_last]; rfl
theorem p_addVT : fAdd (vec s) (.tup xs) μ K = (s.length + xs.length ≤ 100000 ∧ K (.tup (s.map D.int ++ xs)) μ) := by
  show (_ ∧ _) = _
  rw [List.length_map]
theorem p_addTV : fAdd (.tup xs) (vec s) μ K = (xs.length + s.length ≤ 100000 ∧ K (.tup (xs ++ s.map D.int)) μ) := by
  show (_ ∧ _) = _
  rw [List.length_map]
theorem a_lstV : fList [vec s] μ K = K (.lst (s.map D.int)) μ := by simp [fList, asS, vec]
theorem a_lstMV : fListM [vec s] μ K = ∀ p, μ p = none → K (.val (.ref p)) (mup μ p (.lst (s.map D.int))) := by simp [fListM, asS, vec]
end
theorem isVec_len {n : Int} {xs : List D} (h : (xs.length : Int) ≠ n) : isVec n (.tup xs) = false := by
  show (decide _ && _) = false
  rw [decide_eq_false h, Bool.false_and]
theorem isVec_bad {n : Int} {xs : List D} {x : D} (hx : x ∈ xs) (h : isWhole x = false) : isVec n (.tup xs) = false := by
  show (_ && xs.all isWhole) = false
  rw [Bool.and_eq_false_iff]
  refine .inr ?_
  rw [List.all_eq_false]
  exact ⟨x, hx, by simp [h]⟩
theorem ints_lv {s : List Int} (hb : ∀ x ∈ s, -(10 ^ 250) < x ∧ x < 10 ^ 250) {j : Nat} : LvAll j (s.map D.int) := fun d hd => by
  obtain ⟨x, hx, rfl⟩ := List.mem_map.1 hd
  exact .int (hb x hx).1 (hb x hx).2
section
variable {ρ : Ro} {μ : Mu} {xs ys : List D} {s t : List Int}
def sZip (zs : List D) (μ1 : Mu) (K : List D → (Mu → Prop) → Mu → Prop) : Prop := match zs with
  | [.lst xs, .lst ys] => K (pairsD xs ys) (fun _ => True) μ1
  | [.tup xs, .tup ys] => xs.length = ys.length ∧ K (pairsD xs ys) (fun _ => True) μ1
  | _ => False
theorem a_zip {da : DA} {K : List D → (Mu → Prop) → Mu → Prop} : dZip da ρ μ K = da ρ μ fun zs μ1 => sZip zs μ1 K := rfl
theorem a_zipLL {K : List D → (Mu → Prop) → Mu → Prop} : sZip [.lst xs, .lst ys] μ K = K (pairsD xs ys) (fun _ => True) μ := rfl
theorem a_zipVV {K : List D → (Mu → Prop) → Mu → Prop} : sZip [vec s, vec t] μ K = (s.length = t.length ∧ K (pairsD (s.map D.int) (t.map D.int)) (fun _ => True) μ) := by
  show (_ ∧ _) = _
  rw [List.length_map, List.length_map]
theorem a_tab2 {f1 f2 : Addr} {sp1 sp2 : DSp} {Y : Ro → KX} {df : DE} {da : DA} {K : KD} : dTab2 f1 f2 sp1 sp2 Y df da ρ μ K = df ρ μ fun x μ1 => (x = .val (.ref f1) ∧ da ρ μ1 fun xs μ2 => sp1 xs μ2 K (Y ρ)) ∨ (x = .val (.ref f2) ∧ da ρ μ1 fun xs μ2 => sp2 xs μ2 K (Y ρ)) := rfl
end
theorem shaped_vec (s : List Int) : SeqAt.shaped (vecP s) = true := by
  have := dep_vec s
  unfold SeqAt.shaped
  rw [lay_vec, decide_eq_true (by omega)]; rfl
theorem eq_vec2 {μ : Mu} {s t : List Int} : EqB μ (vec s) (vec t) (decide (s = t)) := by
  have := eqb_py (μ := μ) (vec_py s) (vec_py t) (shaped_vec s) (shaped_vec t)
  rwa [eqv_vec] at this
theorem eq_bl2 {μ : Mu} {a b : Bool} : EqB μ (.bl a) (.bl b) (decide (a = b)) := by
  have := eqb_py (μ := μ) (x := .bl a) (y := .bl b) rfl rfl rfl rfl
  cases a <;> cases b <;> exact this
theorem eq_ints2 {μ : Mu} (s t : List Int) : EqB μ (.lst (s.map D.int)) (.lst (t.map D.int)) (decide (s = t)) := by
  have sh : ∀ s : List Int, SeqAt.shaped (.list (s.map PyData.int)) = true := fun s => by
    have h1 := depthAll_of (k := 0) (ps := s.map PyData.int) fun p hp => by
      obtain ⟨x, _, rfl⟩ := List.mem_map.1 hp
      simp [PyData.depth]
    unfold SeqAt.shaped
    have e : PyData.canLay0 (.list (s.map PyData.int)) = true := lay_all (f := PyData.int) (fun _ => rfl) s
    have e2 : (PyData.list (s.map PyData.int)).depth ≤ 64 := by simp only [PyData.depth]; omega
    rw [e, decide_eq_true e2]; rfl
  have e := EqB.py (μ := μ) (.py (ints_py s)) (.py (ints_py t)) (sh s) (sh t)
  have e2 : PyData.eqv (.list (s.map PyData.int)) (.list (t.map PyData.int)) = decide (s = t) := eqv_vecs s t
  rwa [e2] at e
theorem repr_bl {μ : Mu} {K : KD} {b : Bool} (k : K (.str (PyData.bool b).shown) μ) : fRepr [.bl b] μ K := repr_of ((Lv.bl (j := 0)).pl (by decide)) rfl k
theorem cell_x [AM : Amb] {μ : Mu} {K : KD} {a : Addr} {n : Nat} {w b : Int} {Y : KX} (h1 : n ≤ 3) (h2 : 0 ≤ w) (h3 : w < 2 ^ 190) (hb : b ≤ 10 ^ 7) (hP : Pu b μ a) (k : ∀ is μ', is.length = n → (∀ i ∈ is, -w ≤ i ∧ i ≤ w) → SubX a μ μ' → Pu (b + 30) μ' a → K (vec is) μ') : spCell [.val (.ref a), .int (n : Int), .int w] μ K Y :=
  ⟨a, n, w, b, rfl, h1, h2, h3, hb, hP, fun d l hd hP' => by
    obtain ⟨is, rfl, e1, e2⟩ := cell_of hd
    exact k is _ e1 e2 SubX.refl.purse hP'⟩
theorem nest_x [AM : Amb] {μ : Mu} {K : KD} {a : Addr} {n : Nat} {c w b : Int} {m : Int} {Y : KX} (hm : m = 3) (h1 : n ≤ 3) (c1 : 1 ≤ c) (c2 : c < 2 ^ 190) (h2 : 0 ≤ w) (h3 : w < 2 ^ 180) (hb : b ≤ 10 ^ 6) (hP : Pu b μ a)
    (k : ∀ (N : NestD) μ', N.place.length = n → N.loops.length ≤ 3 → (∀ x ∈ N.loops, 0 ≤ x.1 ∧ x.1 < c ∧ x.2.length = n ∧ ∀ i ∈ x.2, -w ≤ i ∧ i ≤ w) → (∀ i ∈ N.place, -(2 * w) ≤ i ∧ i ≤ 2 * w) → -3 ≤ N.amount → N.amount ≤ 3 → SubX a μ μ' → Pu (b + 300) μ' a → K N.d μ') :
    spNest [.val (.ref a), .int (n : Int), .int m, .int c, .int w] μ K Y := by
  subst hm
  exact ⟨a, n, c, w, b, rfl, h1, c1, c2, h2, h3, hb, hP, fun d l hd hP' => by
    obtain ⟨N, rfl, e1, e2, e3, e4, e5, e6⟩ := nest_of hd
    exact k N _ e1 e2 e3 e4 e5 e6 SubX.refl.purse hP'⟩
theorem rg_drop {n j : Nat} {x : D} {r : List D} (h : x :: r = (rgD 0 n).drop j) : j < n ∧ x = .int (j : Int) ∧ r = (rgD 0 n).drop (j + 1) := by
  haveI := amb0
  rcases Nat.lt_or_ge j n with g | g
  · rw [get_drop (rgD_get g), Int.zero_add] at h
    injection h with h1 h2
    exact ⟨g, h1, h2⟩
  · rw [List.drop_eq_nil_of_le (by rw [rgD_length]; exact g)] at h; cases h
theorem rg_end {n j : Nat} (h : [] = (rgD 0 n).drop j) (hj : j ≤ n) : j = n := by
  haveI := amb0
  have := congrArg List.length h
  rw [List.length_drop, rgD_length] at this
  simp at this
  omega
theorem bt_of {n : Nat} {i : Int} (h : -(2 ^ n) < i) (g : i < 2 ^ n) : Bt n i := by
  unfold Bt
  have : (2 : Int) ^ n = ((2 ^ n : Nat) : Int) := by simp
  omega
theorem div_ok {m : Int} (h : 1 ≤ m) (g : m ≤ 1000) : 0 < m ∧ ∃ b, Bt b m ∧ 0 < b ∧ b ≤ 9000 := ⟨by omega, 10, bt_of (by omega) (by omega), by decide, by decide⟩
/-- an index of a table -/
theorem tab2_of {f1 f2 : Addr} {μ : Mu} {K : KD} {i : Int} (h0 : 0 ≤ i) (h1 : i < 2) (k0 : i = 0 → K (.val (.ref f1)) μ) (k1 : i = 1 → K (.val (.ref f2)) μ) : fIx (.lst [.val (.ref f1), .val (.ref f2)]) (.int i) μ K := by
  have : i = 0 ∨ i = 1 := by omega
  rcases this with rfl | rfl
  · rw [a_ixL0]; exact k0 rfl
  · rw [a_ixL1]; exact k1 rfl
/-! checkers -/
def lvB : Nat → D → Bool
  | _, .non => true
  | _, .bl _ => true
  | _, .int i => decide (i.natAbs < 10 ^ 60)
  | _, .str x => decide ((reprText x).length ≤ 1100)
  | j + 1, .tup xs => decide (xs.length ≤ 4) && xs.all (lvB j)
  | j + 1, .lst xs => decide (xs.length ≤ 4) && xs.all (lvB j)
  | _ + 1, .dct [] => true
  | _, _ => false
theorem lvB_ok : ∀ (j : Nat) (d : D), lvB j d = true → Lv j d
  | j, .non, _ => Nc.non (Nat.le_trans (by decide) (nn_ge j))
  | j, .bl _, _ => Lv.bl
  | j, .int i, h => by
    have h' : i.natAbs < 10 ^ 60 := by cases j <;> exact of_decide_eq_true h
    exact Lv.int (by omega) (by omega)
  | j, .str x, h => by
    have h' : (reprText x).length ≤ 1100 := by cases j <;> exact of_decide_eq_true h
    exact Lv.str h'
  | 0, .tup xs, h => by cases h
  | j + 1, .tup xs, h => by
    have h' : (decide (xs.length ≤ 4) && xs.all (lvB j)) = true := h
    rw [Bool.and_eq_true] at h'
    exact .tup (of_decide_eq_true h'.1) fun d hd => lvB_ok j d (List.all_eq_true.1 h'.2 d hd)
  | 0, .lst xs, h => by cases h
  | j + 1, .lst xs, h => by
    have h' : (decide (xs.length ≤ 4) && xs.all (lvB j)) = true := h
    rw [Bool.and_eq_true] at h'
    exact .lst (of_decide_eq_true h'.1) fun d hd => lvB_ok j d (List.all_eq_true.1 h'.2 d hd)
  | j + 1, .dct [], _ => Lv.emp
  | 0, .dct [], h => by cases h
  | 0, .dct (_ :: _), h => by cases h
  | _ + 1, .dct (_ :: _), h => by cases h
  | 0, .ins _ _, h => by cases h
  | _ + 1, .ins _ _, h => by cases h
  | 0, .val _, h => by cases h
  | _ + 1, .val _, h => by cases h
  | 0, .any _, h => by cases h
  | _ + 1, .any _, h => by cases h
/-- a plain thing whose list, if it is one, may be held -/
def Okk (d : D) : Prop := Pl d ∧ sok d = true ∧ ∀ xs, d = .lst xs → LvAll 3 xs ∧ xs.length ≤ 20
theorem okk_lv {d : D} (h : Lv 4 d) (hs : sok d = true) (hl : isLv d = false) : Okk d := ⟨h.pl (by decide), hs, fun xs e => by subst e; cases hl⟩
theorem okk_b {d : D} (h : (lvB 4 d && (sok d && !isLv d)) = true) : Okk d := by
  simp only [Bool.and_eq_true, Bool.not_eq_true'] at h
  exact okk_lv (lvB_ok _ _ h.1) h.2.1 h.2.2
theorem okk_lst {xs : List D} (h : LvAll 3 xs) (hs : sokAll xs = true) (hl : xs.length ≤ 20) : Okk (.lst xs) := ⟨nocell_pl h (by omega), hs, fun ys e => by cases e; exact ⟨h, hl⟩⟩
theorem all_cons {P : D → Prop} {x : D} {xs : List D} (h : P x) (t : ∀ d ∈ xs, P d) : ∀ d ∈ x :: xs, P d := fun d hd => by
  rcases List.mem_cons.1 hd with rfl | hd
  · exact h
  · exact t d hd
theorem all_nil {P : D → Prop} : ∀ d ∈ ([] : List D), P d := fun _ h => (nomatch h)
theorem okk_vec {s : List Int} (hs : ∀ x ∈ s, -(10 ^ 250) < x ∧ x < 10 ^ 250) (hl : s.length ≤ 4) : Okk (vec s) := okk_lv ((vec_lv hl hs).mono (by decide)) (sok_ints s) rfl
theorem okk_th {n : Nat} {μ : Mu} {d : D} (h : Okk d) (hl : isLv d = false) : Th n μ d := h.1.th hl h.2.1
theorem okk_hold {K' : PySem.W.Frag} {K : KD} {μ : Mu} {d : D} (h : Okk d) (k : ∀ h μ', Held μ μ' d h → K h μ') :
    fIsP K' [d, .val (.ty "list")] μ fun x μ1 => ∃ b, x = .bl b ∧ if b = true then fListM [d] μ1 K else K d μ1 :=
  hold_of h.1 h.2.1 (fun xs e => let ⟨a, b⟩ := h.2.2 xs e; ⟨a, by omega⟩) k
/-- no list that changes -/
def Nr (ν : Mu) (d : D) : Prop := ∀ a, d = .val (.ref a) → ν a = none
theorem nr_lv {ν : Mu} {d : D} (h : isLv d = false) : Nr ν d := fun _ e => by subst e; cases h
theorem sok_loops (ls : List (Int × List Int)) : sokAll (ls.map loopD) = true := sok_of fun x hx => by
  obtain ⟨l, _, rfl⟩ := List.mem_map.1 hx
  show (true && (sokAll (l.2.map D.int) && true)) = true
  rw [sok_ints]; rfl
theorem sok_nest (N : NestD) : sok N.d = true := by
  show (sokAll (N.loops.map loopD) && (sokAll (N.place.map D.int) && (true && true))) = true
  rw [sok_loops, sok_ints]; rfl
theorem mem_dl {c : List Int} {x : Int} (h : x ∈ c.dropLast) : x ∈ c := by
  rw [List.dropLast_eq_take] at h
  exact List.mem_of_mem_take h
end DL
/-! operators that an own class defines, between its instances, and with an int on either side -/
namespace PySem.W
open Lean Elab Tactic Meta PySem PySem.Calls PyProof.Rows
section
variable {prog : Program} {w : World} {A : Around} {E : Value → Shared → Prop} {s : Shared} {K : Frag} {x y C L f : Addr} {h₀ : Heap} {m : Str → Option Value} {ox oy : Obj} {od od' : Option Obj}
theorem own_bin {op : Operator} {Q : Value → Shared → Prop} (F : Fr h₀ L s.heap m) (X₀ : K.In h₀) (I : InstAt s.heap x ox C od) (J : InstAt s.heap y oy C od') (hc : selfFirst K C = true)
    (hs : findIn K (.ref C) (PySem.dunder op.info.2) = some (some (.ref f))) (hf : isFn K (.ref f) = true)
    (h : wpAny (model prog w) A (call (.ref f) [.ref x, .ref y]) (CmpBack Q) E s) : wpAny (model prog w) A (binaryOp op (.ref x) (.ref y)) Q E s := by
  have X := X₀.keeps F.keep
  obtain ⟨cd, rest, hcd, hm⟩ := ksp_first hc
  rcases hi : op.info with ⟨sym, nm'⟩
  rw [hi] at hs
  dsimp only at hs
  have one := ksp_try X I hs hf h
  obtain ⟨hh, g, d, tt, os⟩ := s
  have L1 : Looks (model prog w) hh (typeOf (.ref x)) (.ref C) := I.type
  have L2 : Looks (model prog w) hh (typeOf (.ref y)) (.ref C) := J.type
  have L3 : Looks (model prog w) hh (fillsNumberSlot (.ref C) nm') true := fills_K X hcd hm hs
  have he : (Value.ref C == Value.ref C) = true := by simp
  simp only [binaryOp, hi]
  refine wpAny_holding (wpAny_bind ?_)
  unfold binaryOp1
  refine wpAny_bind (L1.at (wpAny_bind (L2.at (wpAny_bind (L3.at ?_)))))
  simp only [he, if_true]
  ksp_lk
  refine wpAny_mono one (fun r s' hr' => ?_) fun _ _ e => e
  obtain ⟨v, rfl, hq⟩ := hr'
  ksp_lk
  exact hq
theorem int_mul_ins (a : Int) (t : Tok) (l D dx : Addr) :
    Meets (Builtin.«int.__mul__» ⟨[.int a t, .ref l], []⟩) (fun _ R s => s.heap.get? l = some (instObj D dx) ∧ R (.ok (.ret Value.notImplemented)) s) :=
  .of_wp fun prog w A R s h => by
    obtain ⟨hp, g, d, tk, os⟩ := s
    obtain ⟨hl, h⟩ := h
    unfold instObj at hl
    wp_walk
    exact ⟨_, rfl, h⟩
theorem dn_mul : PySem.dunder "mul" = ("__mul__" : Str) := by decide +kernel
theorem dn_rmul : dunderR "mul" = ("__rmul__" : Str) := by decide +kernel
theorem own_refl {op : Operator} {b : Value} {T : String} {f0 : Addr} {Q : Value → Shared → Prop} (Fx : Fr h₀ L s.heap m) (X₀ : K.In h₀) (I : InstAt s.heap x ox C od) (hb : typeOf b = pure (.type T)) (hc : selfFirst K C = true)
    (hs : findIn K (.ref C) (PySem.dunder op.info.2) = some (some (.ref f0))) (hr : findIn K (.ref C) (dunderR op.info.2) = some (some (.ref f))) (hf : isFn K (.ref f) = true) (hsub : subIn K (.ref C) (.type T) = some false)
    (hfT : fillsNumberSlot (.type T) op.info.2 = pure true) (no : wpAny (model prog w) A (tryMethod b (PySem.dunder op.info.2) (.ref x)) (fun r s' => r = none ∧ s' = s) E s)
    (h : wpAny (model prog w) A (call (.ref f) [.ref x, b]) (CmpBack Q) E s) : wpAny (model prog w) A (binaryOp op b (.ref x)) Q E s := by
  have X := X₀.keeps Fx.keep
  obtain ⟨cd, rest, hcd, hm⟩ := ksp_first hc
  rcases hi : op.info with ⟨sym, nm'⟩
  rw [hi] at hs hr hfT no
  dsimp only at hs hr hfT no
  have one := ksp_try (b := b) X I hr hf h
  obtain ⟨hh, g, d, tt, os⟩ := s
  have L1 : Looks (model prog w) hh (typeOf b) (.type T) := Looks.of_pure hb
  have L2 : Looks (model prog w) hh (typeOf (.ref x)) (.ref C) := I.type
  have L3 : Looks (model prog w) hh (fillsNumberSlot (.type T) nm') true := Looks.of_pure hfT
  have L4 : Looks (model prog w) hh (fillsNumberSlot (.ref C) nm') true := fills_K X hcd hm hs
  have L5 : Looks (model prog w) hh (isSubtype (.ref C) (.type T)) false := looks_subIn X hsub
  have L6 : Looks (model prog w) hh (numberSlotInPython (.type T) nm') false := Looks.of_pure rfl
  have hne : (Value.type T == Value.ref C) = false := Bool.eq_false_iff.mpr fun q => by cases beq_iff_eq.mp q
  simp only [binaryOp, hi]
  refine wpAny_holding (wpAny_bind ?_)
  unfold binaryOp1
  refine wpAny_bind (L1.at (wpAny_bind (L2.at (wpAny_bind (L3.at ?_)))))
  simp only [hne, Bool.false_eq_true, if_false]
  ksp_lk
  refine wpAny_mono no (fun r s' hr' => ?_) fun _ _ e => e
  obtain ⟨rfl, rfl⟩ := hr'
  ksp_lk
  refine wpAny_mono one (fun r s' hr' => ?_) fun _ _ e => e
  obtain ⟨v, rfl, hq⟩ := hr'
  ksp_lk
  exact hq
theorem own_rmul {i : Int} {t : Tok} {f0 dx : Addr} {Q : Value → Shared → Prop} (Fx : Fr h₀ L s.heap m) (X₀ : K.In h₀) (I : InstAt s.heap x (instObj C dx) C od) (hc : selfFirst K C = true)
    (hs : findIn K (.ref C) "__mul__" = some (some (.ref f0))) (hr : findIn K (.ref C) "__rmul__" = some (some (.ref f))) (hf : isFn K (.ref f) = true) (hsub : subIn K (.ref C) (.type "int") = some false)
    (h : wpAny (model prog w) A (call (.ref f) [.ref x, .int i t]) (CmpBack Q) E s) : wpAny (model prog w) A (binaryOp .Mult (.int i t) (.ref x)) Q E s := by
  have e1 : PySem.dunder (Operator.info .Mult).2 = ("__mul__" : Str) := dn_mul
  have e2 : dunderR (Operator.info .Mult).2 = ("__rmul__" : Str) := dn_rmul
  have hc' : wpAny (model prog w) A (call (.builtin "int.__mul__") [.int i t, .ref x]) (fun v s' => v = .notImplemented ∧ ((none : Option Value) = none ∧ s' = s)) E s :=
    call_meets F.slot_int_mul (typeIs_int s i t) F.entry_int_mul (F.args_int_mul_2 _ _) (int_mul_ins i t x C dx) ⟨I.at_, rfl, rfl, rfl⟩
  have no : wpAny (model prog w) A (tryMethod (.int i t) (PySem.dunder "mul") (.ref x)) (fun r s' => r = none ∧ s' = s) E s :=
    @wpAny_tryMethod_declines (model prog w) A E s (.int i t) (.ref x) "int" (PySem.dunder "mul") "int.__mul__" (fun r s' => r = none ∧ s' = s) (typeIs_int s i t) F.slot_int_mul hc'
  exact own_refl (op := .Mult) (T := "int") Fx X₀ I rfl hc (by rw [e1]; exact hs) (by rw [e2]; exact hr) hf hsub F.fills_int_mul no h
end
end PySem.W
/-! instances of an own class over data -/
namespace DL
open PySem PySem.Spec PyProof.Rows L2
open Evl (Ex ex_rd ex_l ex_t fresh_back)
/-! ### the rules -/
structure ClsI (K : PySem.W.Frag) (C : Addr) : Prop where
  cl : Cls K C
  ha : PySem.W.findIn K (.ref C) "__class__" = some (some (.builtin "object.__class__"))
  hn : PySem.W.specialIn K (.builtin "object.__class__") "__get__" = some (some (.builtin "getset_descriptor.__get__"))
  htk : PySem.W.takesIn K (.builtin "object.__class__") = some true
  hm : PySem.W.mroIn K C (.type "object") = some true
  first : PySem.W.selfFirst K C = true
section
variable {X : Cx} {CX : CXT} {k : Nat} {C g f0 : Addr} {fd : FuncData} {ps : List Str} {sp : Sp} {EE : L2.St → XK} {op : Operator} {a b : Expr} {ta tb : TE} {pos : Pos}
def tBinI (C : Addr) (sp : Sp) (EE : L2.St → XK) (ta tb : TE) : TE := fun σ H Q => ta σ H fun x H1 => tb σ H1 fun y H2 => ∃ p q dx fs dy gs, x = .ref p ∧ y = .ref q ∧ H2 p = some (.ins C dx fs) ∧ H2 q = some (.ins C dy gs) ∧ sp [x, y] H2 Q (EE σ)
theorem pe_binI (ha : PE X a ta) (hb : PE X b tb) (c : ClsI X.K C) (hs : PySem.W.findIn X.K (.ref C) (PySem.dunder op.info.2) = some (some (.ref g))) (hf : PySem.W.isFn X.K (.ref g) = true)
    (F : FnOk X.prog X.w X.K X.mg X.base CX k g fd ps sp) (hr : Room k X.A) (hbd : Binds X.K fd ps []) (hx : ∀ σ, PassesAt CX X σ (EE σ)) : PE X (.BinOp a op b pos) (tBinI C sp EE ta tb) := by
  refine ⟨fun pins s σ H Q I h => wpAny_BinOp (binT ha hb I h fun v u s2 x y H2 I2 rx ry q => ?_)⟩
  obtain ⟨p, q', dx, fs, dy, gs, rfl, rfl, hp, hq, q⟩ := q
  cases (show v = Value.ref p from rx)
  cases (show u = Value.ref q' from ry)
  obtain ⟨mA, om, _⟩ := ins_get I2.hok hp
  obtain ⟨mB, on, _⟩ := ins_get I2.hok hq
  obtain ⟨od, J, _⟩ := om.look
  obtain ⟨od', J', _⟩ := on.look
  obtain ⟨m, hF⟩ := I2.fr
  refine PySem.W.own_bin hF I2.ok.mod.kin J J' c.first hs hf ?_
  refine wpAny_mono (run_fnS (us := [.ref p, .ref q']) (vs := [.ref p, .ref q']) F hr hbd (hx σ) I2 (.cons rfl (.cons rfl .nil)) q) (fun w s' z => ?_) fun _ _ x => x
  obtain ⟨z', H', I', rz, qz⟩ := z
  exact SlX.cmpback rz ⟨z', H', I', rz, qz⟩
/-- an instance and an int -/
def tBinJ (C : Addr) (sp : Sp) (EE : L2.St → XK) (ta tb : TE) : TE := fun σ H Q => ta σ H fun x H1 => tb σ H1 fun y H2 => ∃ p dx fs i, x = .ref p ∧ y = .int i ∧ H2 p = some (.ins C dx fs) ∧ sp [x, y] H2 Q (EE σ)
theorem pe_binJ {rc fo ro : Option Value} (ha : PE X a ta) (hb : PE X b tb) (c : ClsI X.K C) (hs : PySem.W.findIn X.K (.ref C) (PySem.dunder op.info.2) = some (some (.ref g))) (hf : PySem.W.isFn X.K (.ref g) = true)
    (hrc : PySem.W.findIn X.K (.ref C) (dunderR op.info.2) = some rc) (hp : rc = none ∨ ∃ g : Addr, rc = some (.ref g)) (h1 : PySem.W.findIn X.K (.type "int") (PySem.dunder op.info.2) = some fo) (h2 : PySem.W.findIn X.K (.type "int") (dunderR op.info.2) = some ro) (hsub : PySem.W.subIn X.K (.type "int") (.ref C) = some false)
    (F : FnOk X.prog X.w X.K X.mg X.base CX k g fd ps sp) (hr : Room k X.A) (hbd : Binds X.K fd ps []) (hx : ∀ σ, PassesAt CX X σ (EE σ)) : PE X (.BinOp a op b pos) (tBinJ C sp EE ta tb) := by
  refine ⟨fun pins s σ H Q I h => wpAny_BinOp (binT ha hb I h fun v u s2 x y H2 I2 rx ry q => ?_)⟩
  obtain ⟨p, dx, fs, i, rfl, rfl, hip, q⟩ := q
  cases (show v = Value.ref p from rx)
  obtain ⟨t, rfl⟩ := ry
  obtain ⟨mA, om, _⟩ := ins_get I2.hok hip
  obtain ⟨od, J, _⟩ := om.look
  obtain ⟨m, hF⟩ := I2.fr
  refine PySem.W.ksp_binT (T := "int") hF I2.ok.mod.kin J rfl c.first hs hf hrc hp h1 h2 hsub ?_
  refine wpAny_mono (run_fnS (us := [.ref p, .int i t]) (vs := [.ref p, .int i]) F hr hbd (hx σ) I2 (.cons rfl (.cons ⟨t, rfl⟩ .nil)) q) (fun w s' z => ?_) fun _ _ x => x
  obtain ⟨z', H', I', rz, qz⟩ := z
  exact SlX.cmpback rz ⟨z', H', I', rz, qz⟩
/-- an int times an instance -/
def tBinK (C : Addr) (sp : Sp) (EE : L2.St → XK) (ta tb : TE) : TE := fun σ H Q => ta σ H fun x H1 => tb σ H1 fun y H2 => ∃ p dx fs i, x = .int i ∧ y = .ref p ∧ H2 p = some (.ins C dx fs) ∧ sp [y, x] H2 Q (EE σ)
theorem pe_binK (ha : PE X a ta) (hb : PE X b tb) (c : ClsI X.K C) (hs : PySem.W.findIn X.K (.ref C) "__mul__" = some (some (.ref f0))) (hrm : PySem.W.findIn X.K (.ref C) "__rmul__" = some (some (.ref g))) (hf : PySem.W.isFn X.K (.ref g) = true) (hsub : PySem.W.subIn X.K (.ref C) (.type "int") = some false)
    (F : FnOk X.prog X.w X.K X.mg X.base CX k g fd ps sp) (hr : Room k X.A) (hbd : Binds X.K fd ps []) (hx : ∀ σ, PassesAt CX X σ (EE σ)) : PE X (.BinOp a .Mult b pos) (tBinK C sp EE ta tb) := by
  refine ⟨fun pins s σ H Q I h => wpAny_BinOp (binT ha hb I h fun v u s2 x y H2 I2 rx ry q => ?_)⟩
  obtain ⟨p, dx, fs, i, rfl, rfl, hip, q⟩ := q
  obtain ⟨t, rfl⟩ := rx
  cases (show u = Value.ref p from ry)
  obtain ⟨mA, om, _⟩ := ins_get I2.hok hip
  obtain ⟨od, J, _⟩ := om.look
  obtain ⟨m, hF⟩ := I2.fr
  refine PySem.W.own_rmul hF I2.ok.mod.kin J c.first hs hrm hf hsub ?_
  refine wpAny_mono (run_fnS (us := [.ref p, .int i t]) (vs := [.ref p, .int i]) F hr hbd (hx σ) I2 (.cons rfl (.cons ⟨t, rfl⟩ .nil)) q) (fun w s' z => ?_) fun _ _ x => x
  obtain ⟨z', H', I', rz, qz⟩ := z
  exact SlX.cmpback rz ⟨z', H', I', rz, qz⟩
/-- - an instance -/
def tNegI (C : Addr) (sp : Sp) (EE : L2.St → XK) (ta : TE) : TE := fun σ H Q => ta σ H fun x H1 => ∃ p dx fs, x = .ref p ∧ H1 p = some (.ins C dx fs) ∧ sp [x] H1 Q (EE σ)
theorem pe_negI (ha : PE X a ta) (hs : PySem.W.findIn X.K (.ref C) "__neg__" = some (some (.ref g))) (hf : PySem.W.isFn X.K (.ref g) = true)
    (F : FnOk X.prog X.w X.K X.mg X.base CX k g fd ps sp) (hr : Room k X.A) (hbd : Binds X.K fd ps []) (hx : ∀ σ, PassesAt CX X σ (EE σ)) : PE X (.UnaryOp .USub a pos) (tNegI C sp EE ta) := by
  refine ⟨fun pins s σ H Q I h => UnaryOp_ (thn (ha.run pins s σ H _ I h) fun v s1 ⟨x, H1, I1, r1, p, dx, fs, ex, hp, q⟩ => ?_)⟩
  subst ex
  cases (show v = Value.ref p from r1)
  obtain ⟨mA, om, _⟩ := ins_get I1.hok hp
  obtain ⟨od, J, _⟩ := om.look
  obtain ⟨m, hF⟩ := I1.fr
  exact PySem.W.ksp_neg hF I1.ok.mod.kin J hs hf (run_fnS (us := [.ref p]) (vs := [.ref p]) F hr hbd (hx σ) I1 (.cons rfl .nil) q)
end
/-! ### over data -/
section
variable [AM : Amb]
theorem Rw0.newI {μ : Mu} {H0 H1 : Hp} {p dx C : Addr} (r : Rw0 μ H0 H1) (hp : H1 p = none) : μ p = none ∧ Rw0 (mup μ p (.ins C [])) H0 (upd H1 p (.ins C dx [])) := by
  have h0 : H0 p = none := fresh_back r.ex hp
  have hm : μ p = none := by
    cases e : μ p with
    | none => rfl
    | some m =>
      obtain ⟨_, q2⟩ := r.mu p m e
      cases m with
      | lst ds => obtain ⟨_, z, _⟩ := q2; rw [hp] at z; cases z
      | ins C fs => obtain ⟨_, _, z, _⟩ := q2; rw [hp] at z; cases z
  refine ⟨hm, ⟨fun a u h => ?_, r.sys.upd (fun φ z => by rw [hp] at z; cases z), fun a m h => ?_⟩⟩
  · rw [upd_ne (ne_of_none h h0)]
    exact r.ex a u h
  · by_cases ha : a = p
    · subst ha
      rw [mup_same] at h
      cases h
      exact ⟨h0, dx, [], upd_same, rfl, .nil⟩
    · rw [mup_ne ha] at h
      obtain ⟨q1, q2⟩ := r.mu a m h
      refine ⟨q1, ?_⟩
      cases m with
      | lst ds => obtain ⟨ws, z, tz⟩ := q2; exact ⟨ws, by rw [upd_ne ha]; exact z, tz⟩
      | ins C fs => obtain ⟨dx, fvs, z, kz, tz⟩ := q2; exact ⟨dx, fvs, by rw [upd_ne ha]; exact z, kz, tz⟩
theorem Rw0.setI {μ : Mu} {H0 H1 : Hp} {a dx C : Addr} {fvs : List (Str × V)} {fs gs : List (Str × D)} {us : List (Str × V)} (r : Rw0 μ H0 H1) (hm : μ a = some (.ins C fs)) (hw : H1 a = some (.ins C dx us)) (hk : fvs.map (·.1) = gs.map (·.1)) (t : DtAll H0 (fvs.map (·.2)) (gs.map (·.2))) : Rw0 (mup μ a (.ins C gs)) H0 (upd H1 a (.ins C dx fvs)) := by
  obtain ⟨h0, _⟩ := r.mu a _ hm
  refine ⟨fun b u h => ?_, r.sys.upd (fun φ z => by rw [hw] at z; cases z), fun b m h => ?_⟩
  · rw [upd_ne (ne_of_none h h0)]
    exact r.ex b u h
  · by_cases ha : b = a
    · subst ha
      rw [mup_same] at h
      cases h
      exact ⟨h0, dx, fvs, upd_same, hk, t⟩
    · rw [mup_ne ha] at h
      obtain ⟨q1, q2⟩ := r.mu b m h
      refine ⟨q1, ?_⟩
      cases m with
      | lst ds => obtain ⟨zs, z, tz⟩ := q2; exact ⟨zs, by rw [upd_ne ha]; exact z, tz⟩
      | ins C fs => obtain ⟨dx, fvs, z, kz, tz⟩ := q2; exact ⟨dx, fvs, by rw [upd_ne ha]; exact z, kz, tz⟩
theorem Rw.freezeI {μ : Mu} {H0 H1 : Hp} {a C : Addr} {fs : List (Str × D)} (r : Rw μ H0 H1) (hm : μ a = some (.ins C fs)) : ∃ H0', Ex H0 H0' ∧ Rw (mdel μ a) H0' H1 ∧ Dt H0' (.ref a) (.ins C fs) := by
  obtain ⟨h0, dx, fvs, hv, hk, t⟩ := r.mu a _ hm
  have e : Ex H0 (upd H0 a (.ins C dx fvs)) := Ex.new h0
  refine ⟨_, e, ⟨⟨fun b u h => ?_, r.sys, fun b m h => ?_⟩, Amb.mono _ _ e r.am⟩, .ins upd_same hk (t.mono e)⟩
  · by_cases hb : b = a
    · subst hb; rw [upd_same] at h; cases h; exact hv
    · rw [upd_ne hb] at h; exact r.ex b u h
  · have hb : b ≠ a := by
      rintro rfl
      simp [mdel] at h
    have h' : μ b = some m := by simpa [mdel, hb] using h
    obtain ⟨q1, q2⟩ := r.mu b m h'
    refine ⟨by rw [upd_ne hb]; exact q1, ?_⟩
    cases m with
    | lst ds => obtain ⟨ws, z, tz⟩ := q2; exact ⟨ws, z, tz.mono e⟩
    | ins C fs => obtain ⟨dx, fvs, z, kz, tz⟩ := q2; exact ⟨dx, fvs, z, kz, tz.mono e⟩
/-- C(..): the new instance changes while it is made, and no more -/
def dMake (C : Addr) (dsp : DSp) (Y : KX) (da : DA) : DE := fun ρ μ K => da ρ μ fun xs μ1 => ∀ a, μ1 a = none → dsp (.val (.ref a) :: xs) (mup μ1 a (.ins C [])) (fun v μ2 => v = .non ∧ ∃ fs, μ2 a = some (.ins C fs) ∧ K (.ins C fs) (mdel μ2 a)) Y
theorem l_make {C : Addr} {dsp : DSp} {E : XK} {Y : KX} {t : TA} {da : DA} (hx : XOk E Y) (h : LiftA t da) : Lift (tMake C (spD dsp) [] E t) (dMake C dsp Y da) := fun ρ μ K hk σ H0 H1 sl rw_ Q q =>
  h ρ μ _ hk σ H0 H1 sl rw_ _ fun xs us μ1 H01 H11 e1 rw1 r1 k => fun x dx hx0 hdx hne => by
    have rw2 : Rw μ1 H01 (upd H11 dx (.own x)) := rw1.side hdx
    have hx2 : (upd H11 dx (.own x)) x = none := by rw [upd_ne (Ne.symm hne)]; exact hx0
    obtain ⟨hm, rw3⟩ := rw2.toRw0.newI (dx := dx) (C := C) hx2
    rw [List.append_nil]
    refine ⟨.val (.ref x) :: xs, _, H01, _, Y, k x hm, .cons (.val _) r1, rw3, fun d v μ' H0' H' e r rd kk => ?_, fun C fs μ' dd fvs H0' H' e r h1 h2 h3 kk => hx C fs μ' dd fvs H0' H' ⟨r, Amb.mono _ _ e rw1.am⟩ h1 h2 h3 kk⟩
    obtain ⟨rfl, fs, hfs, kk⟩ := kk
    refine ⟨rd.non_of, ?_⟩
    obtain ⟨H0'', e2, rw4, rd2⟩ := Rw.freezeI ⟨r, Amb.mono _ _ e rw1.am⟩ hfs
    exact q _ _ _ H0'' H' ((e1.trans e).trans e2) rw4 rd2 kk
/-- o.m(..) -/
def dMeth (C : Addr) (m : Str) (dsp : DSp) (Y : KX) (de : DE) (da : DA) : DE := fun ρ μ K => de ρ μ fun x μ1 => ∃ fs, x = .ins C fs ∧ fs.lookup m = none ∧ da ρ μ1 fun xs μ2 => dsp (x :: xs) μ2 K Y
theorem lookup_none {H : Hp} {f : Str} : ∀ {fvs : List (Str × V)} {fs : List (Str × D)}, fvs.map (·.1) = fs.map (·.1) → fs.lookup f = none → fvs.lookup f = none
  | [], [], _, _ => rfl
  | [], _ :: _, h, _ => by cases h
  | _ :: _, [], h, _ => by cases h
  | (g, v) :: fvs, (g', y) :: fs, h, l => by
    rw [List.map_cons, List.map_cons] at h
    injection h with h1 h2
    have h1' : g = g' := h1
    subst h1'
    by_cases e : f == g
    · simp [List.lookup, e] at l
    · have l' : fs.lookup f = none := by simpa [List.lookup, e] using l
      have := lookup_none (H := H) h2 l'
      simpa [List.lookup, e] using this
theorem Dt.ins_of {H : Hp} {v : V} {C : Addr} {fs : List (Str × D)} (h : Dt H v (.ins C fs)) : ∃ a dx fvs, v = .ref a ∧ H a = some (.ins C dx fvs) ∧ fvs.map (·.1) = fs.map (·.1) ∧ DtAll H (fvs.map (·.2)) (fs.map (·.2)) := by
  cases h with
  | ins h1 h2 h3 => exact ⟨_, _, _, rfl, h1, h2, h3⟩
theorem l_meth {C : Addr} {m : Str} {dsp : DSp} {E : XK} {Y : KX} {te : TE} {t : TA} {de : DE} {da : DA} (hx : XOk E Y) (he : Lift te de) (h : LiftA t da) : Lift (tMeth C m (spD dsp) [] E te t) (dMeth C m dsp Y de da) := fun ρ μ K hk σ H0 H1 sl rw_ Q q =>
  he ρ μ _ hk σ H0 H1 sl rw_ _ fun x v μ1 H01 H11 e1 rw1 r1 ⟨fs, ex, hl, k⟩ => by
    subst ex
    obtain ⟨a, dx, fvs, rfl, ha, hk1, _⟩ := r1.ins_of
    refine ⟨a, dx, fvs, rfl, rw1.ex _ _ ha, lookup_none (H := H01) hk1 hl, ?_⟩
    refine h ρ μ1 _ k σ H01 H11 (sl.mono e1) rw1 _ fun xs us μ2 H02 H12 e2 rw2 r2 k2 => ?_
    rw [List.append_nil]
    exact ⟨_ :: xs, μ2, H02, K, Y, k2, .cons (r1.mono e2) r2, rw2.toRw0, fun d v μ' H0' H' e r rd kk => q d v μ' H0' H' ((e1.trans e2).trans e) ⟨r, Amb.mono _ _ e rw2.am⟩ rd kk, fun C fs μ' dd fvs H0' H' e r h1 h2 h3 kk => hx C fs μ' dd fvs H0' H' ⟨r, Amb.mono _ _ e rw2.am⟩ h1 h2 h3 kk⟩
/-- operators -/
def dBinI (C : Addr) (dsp : DSp) (Y : Ro → KX) (da db : DE) : DE := fun ρ μ K => da ρ μ fun x μ1 => db ρ μ1 fun y μ2 => ∃ fs gs, x = .ins C fs ∧ y = .ins C gs ∧ dsp [x, y] μ2 K (Y ρ)
theorem l_binS {C : Addr} {dsp : DSp} {W : WX} {Y : Ro → KX} {ta tb : TE} {da db : DE} (hx : XOkS W Y) (ha : Lift ta da) (hb : Lift tb db) : Lift (tBinI C (spD dsp) (WE W) ta tb) (dBinI C dsp Y da db) := fun ρ μ K hk σ H0 H1 sl rw_ Q q =>
  ha ρ μ _ hk σ H0 H1 sl rw_ _ fun x u μ1 H01 H11 e1 rw1 r1 k1 => hb ρ μ1 _ k1 σ H01 H11 (sl.mono e1) rw1 _ fun y v μ2 H02 H12 e2 rw2 r2 ⟨fs, gs, ex, ey, k⟩ => by
    subst ex ey
    obtain ⟨a, dx, fvs, rfl, ha, _⟩ := (r1.mono e2).ins_of
    obtain ⟨b, dy, gvs, rfl, hb, _⟩ := r2.ins_of
    exact ⟨a, b, dx, fvs, dy, gvs, rfl, rfl, rw2.ex _ _ ha, rw2.ex _ _ hb, _, μ2, H02, K, Y ρ, k, .cons (r1.mono e2) (.cons r2 .nil), rw2.toRw0, fun d v μ' H0' H' e r rd kk => q d v μ' H0' H' ((e1.trans e2).trans e) ⟨r, Amb.mono _ _ e rw2.am⟩ rd kk,
      fun C fs μ' dd fvs H0' H' e r h1 h2 h3 kk => hx ρ σ C fs μ' dd fvs H0' H' (sl.mono ((e1.trans e2).trans e)) ⟨r, Amb.mono _ _ e rw2.am⟩ h1 h2 h3 kk⟩
theorem l_binI {C : Addr} {dsp : DSp} {E : XK} {Y : KX} {ta tb : TE} {da db : DE} (hx : XOk E Y) (ha : Lift ta da) (hb : Lift tb db) : Lift (tBinI C (spD dsp) (fun _ => E) ta tb) (dBinI C dsp (fun _ => Y) da db) := fun ρ μ K hk σ H0 H1 sl rw_ Q q =>
  ha ρ μ _ hk σ H0 H1 sl rw_ _ fun x u μ1 H01 H11 e1 rw1 r1 k1 => hb ρ μ1 _ k1 σ H01 H11 (sl.mono e1) rw1 _ fun y v μ2 H02 H12 e2 rw2 r2 ⟨fs, gs, ex, ey, k⟩ => by
    subst ex ey
    obtain ⟨a, dx, fvs, rfl, ha, _⟩ := (r1.mono e2).ins_of
    obtain ⟨b, dy, gvs, rfl, hb, _⟩ := r2.ins_of
    exact ⟨a, b, dx, fvs, dy, gvs, rfl, rfl, rw2.ex _ _ ha, rw2.ex _ _ hb, _, μ2, H02, K, Y, k, .cons (r1.mono e2) (.cons r2 .nil), rw2.toRw0, fun d v μ' H0' H' e r rd kk => q d v μ' H0' H' ((e1.trans e2).trans e) ⟨r, Amb.mono _ _ e rw2.am⟩ rd kk,
      fun C fs μ' dd fvs H0' H' e r h1 h2 h3 kk => hx C fs μ' dd fvs H0' H' ⟨r, Amb.mono _ _ e rw2.am⟩ h1 h2 h3 kk⟩
def dBinJ (C : Addr) (dsp : DSp) (Y : KX) (da db : DE) : DE := fun ρ μ K => da ρ μ fun x μ1 => db ρ μ1 fun y μ2 => ∃ fs i, x = .ins C fs ∧ y = .int i ∧ dsp [x, y] μ2 K Y
theorem l_binJ {C : Addr} {dsp : DSp} {E : XK} {Y : KX} {ta tb : TE} {da db : DE} (hx : XOk E Y) (ha : Lift ta da) (hb : Lift tb db) : Lift (tBinJ C (spD dsp) (fun _ => E) ta tb) (dBinJ C dsp Y da db) := fun ρ μ K hk σ H0 H1 sl rw_ Q q =>
  ha ρ μ _ hk σ H0 H1 sl rw_ _ fun x u μ1 H01 H11 e1 rw1 r1 k1 => hb ρ μ1 _ k1 σ H01 H11 (sl.mono e1) rw1 _ fun y v μ2 H02 H12 e2 rw2 r2 ⟨fs, i, ex, ey, k⟩ => by
    subst ex ey
    obtain ⟨a, dx, fvs, rfl, ha, _⟩ := (r1.mono e2).ins_of
    have ev := r2.int_of
    subst ev
    exact ⟨a, dx, fvs, i, rfl, rfl, rw2.ex _ _ ha, _, μ2, H02, K, Y, k, .cons (r1.mono e2) (.cons r2 .nil), rw2.toRw0, fun d v μ' H0' H' e r rd kk => q d v μ' H0' H' ((e1.trans e2).trans e) ⟨r, Amb.mono _ _ e rw2.am⟩ rd kk,
      fun C fs μ' dd fvs H0' H' e r h1 h2 h3 kk => hx C fs μ' dd fvs H0' H' ⟨r, Amb.mono _ _ e rw2.am⟩ h1 h2 h3 kk⟩
def dBinK (C : Addr) (dsp : DSp) (Y : KX) (da db : DE) : DE := fun ρ μ K => da ρ μ fun x μ1 => db ρ μ1 fun y μ2 => ∃ fs i, x = .int i ∧ y = .ins C fs ∧ dsp [y, x] μ2 K Y
theorem l_binK {C : Addr} {dsp : DSp} {E : XK} {Y : KX} {ta tb : TE} {da db : DE} (hx : XOk E Y) (ha : Lift ta da) (hb : Lift tb db) : Lift (tBinK C (spD dsp) (fun _ => E) ta tb) (dBinK C dsp Y da db) := fun ρ μ K hk σ H0 H1 sl rw_ Q q =>
  ha ρ μ _ hk σ H0 H1 sl rw_ _ fun x u μ1 H01 H11 e1 rw1 r1 k1 => hb ρ μ1 _ k1 σ H01 H11 (sl.mono e1) rw1 _ fun y v μ2 H02 H12 e2 rw2 r2 ⟨fs, i, ex, ey, k⟩ => by
    subst ex ey
    obtain ⟨a, dx, fvs, rfl, ha, _⟩ := r2.ins_of
    have ev := r1.int_of
    subst ev
    exact ⟨a, dx, fvs, i, rfl, rfl, rw2.ex _ _ ha, _, μ2, H02, K, Y, k, .cons r2 (.cons (r1.mono e2) .nil), rw2.toRw0, fun d v μ' H0' H' e r rd kk => q d v μ' H0' H' ((e1.trans e2).trans e) ⟨r, Amb.mono _ _ e rw2.am⟩ rd kk,
      fun C fs μ' dd fvs H0' H' e r h1 h2 h3 kk => hx C fs μ' dd fvs H0' H' ⟨r, Amb.mono _ _ e rw2.am⟩ h1 h2 h3 kk⟩
def dNegI (C : Addr) (dsp : DSp) (Y : KX) (da : DE) : DE := fun ρ μ K => da ρ μ fun x μ1 => ∃ fs, x = .ins C fs ∧ dsp [x] μ1 K Y
theorem l_negI {C : Addr} {dsp : DSp} {E : XK} {Y : KX} {ta : TE} {da : DE} (hx : XOk E Y) (ha : Lift ta da) : Lift (tNegI C (spD dsp) (fun _ => E) ta) (dNegI C dsp Y da) := fun ρ μ K hk σ H0 H1 sl rw_ Q q =>
  ha ρ μ _ hk σ H0 H1 sl rw_ _ fun x u μ1 H01 H11 e1 rw1 r1 ⟨fs, ex, k⟩ => by
    subst ex
    obtain ⟨a, dx, fvs, rfl, ha, _⟩ := r1.ins_of
    exact ⟨a, dx, fvs, rfl, rw1.ex _ _ ha, _, μ1, H01, K, Y, k, .cons r1 .nil, rw1.toRw0, fun d v μ' H0' H' e r rd kk => q d v μ' H0' H' (e1.trans e) ⟨r, Amb.mono _ _ e rw1.am⟩ rd kk,
      fun C fs μ' dd fvs H0' H' e r h1 h2 h3 kk => hx C fs μ' dd fvs H0' H' ⟨r, Amb.mono _ _ e rw1.am⟩ h1 h2 h3 kk⟩
/-- self.f = e -/
def putD (f : Str) (d : D) : List (Str × D) → List (Str × D)
  | [] => [(f, d)]
  | (g, x) :: r => if g = f then (g, d) :: r else (g, x) :: putD f d r
theorem put_all {H : Hp} {f : Str} {v : V} {d : D} (r : Dt H v d) : ∀ {fvs : List (Str × V)} {fs : List (Str × D)}, fvs.map (·.1) = fs.map (·.1) → DtAll H (fvs.map (·.2)) (fs.map (·.2)) → (putF f v fvs).map (·.1) = (putD f d fs).map (·.1) ∧ DtAll H ((putF f v fvs).map (·.2)) ((putD f d fs).map (·.2))
  | [], [], _, _ => ⟨rfl, .cons r .nil⟩
  | [], _ :: _, h, _ => by cases h
  | _ :: _, [], h, _ => by cases h
  | (g, w) :: fvs, (g', y) :: fs, h, t => by
    rw [List.map_cons, List.map_cons] at h
    injection h with h1 h2
    have h1' : g = g' := h1
    subst h1'
    cases t with
    | cons r1 t =>
      unfold putF putD
      by_cases e : g = f
      · rw [if_pos e, if_pos e]
        exact ⟨by simp only [List.map_cons]; rw [h2], .cons r t⟩
      · rw [if_neg e, if_neg e]
        obtain ⟨a, b⟩ := put_all (f := f) r h2 t
        exact ⟨by simp only [List.map_cons]; rw [a], .cons r1 b⟩
def dSfld (K' : PySem.W.Frag) (f : Str) (da dv : DE) : DS := fun E ρ μ => dv ρ μ fun y μ1 => da ρ μ1 fun x μ2 => ∃ a C fs, x = .val (.ref a) ∧ μ2 a = some (.ins C fs) ∧ Cls K' C ∧ NoAttr K' C f ∧ fs.length < 1000 ∧ E.nx ρ (mup μ2 a (.ins C (putD f y fs)))
theorem ls_sfld {K' : PySem.W.Frag} {f : Str} {ta tv : TE} {da dv : DE} (ha : Lift ta da) (hv : Lift tv dv) : LiftS (sFld K' ta tv f) (dSfld K' f da dv) := fun E ρ μ hk F σ H0 H1 sl rw_ lk =>
  hv ρ μ _ hk σ H0 H1 sl rw_ _ fun y v μ1 H01 H11 e1 rw1 r1 k1 => ha ρ μ1 _ k1 σ H01 H11 (sl.mono e1) rw1 _ fun x u μ2 H02 H12 e2 rw2 r2 ⟨a, C, fs, ex, hm, c, n, hl, k⟩ => by
    subst ex
    have ev := r2.val_of
    subst ev
    obtain ⟨_, dx, fvs, hw, hk1, t⟩ := rw2.mu a _ hm
    obtain ⟨p1, p2⟩ := put_all (f := f) (r1.mono e2) hk1 t
    have hl' : fvs.length < 1000 := by
      have := congrArg List.length hk1
      rw [List.length_map, List.length_map] at this
      omega
    exact ⟨a, C, dx, fvs, rfl, hw, c, n, hl', lk.nx _ _ _ H02 _ (e1.trans e2) (sl.mono (e1.trans e2)) ⟨rw2.toRw0.setI hm hw p1 p2, rw2.am⟩ k⟩
/-- isinstance of an instance -/
def fIsO (K' : PySem.W.Frag) : DOn := fun xs μ K => ∃ C fs c u b, xs = [.ins C fs, c] ∧ clsD c = some u ∧ ClsI K' C ∧ PySem.W.kitOne K' (.ref C) u = some b ∧ K (.bl b) μ
def fIsQ (K' : PySem.W.Frag) : DOn := fun xs μ K => fIsP K' xs μ K ∨ fIsO K' xs μ K
theorem lc_isQ {K' : PySem.W.Frag} : LiftC (rIsP K') (fIsQ K') := fun xs μ K h us H0 H1 rx rw_ Q q => by
  rcases h with h | ⟨C, fs, c, u, b, rfl, hc, T, hb, k⟩
  · exact lc_isP xs μ K h us H0 H1 rx rw_ Q q
  · obtain ⟨w, v, rfl, r1, r2⟩ := vals_of_all2 rx
    obtain ⟨a, dx, fvs, rfl, ha, _⟩ := r1.ins_of
    exact .inl ⟨.ref a, v, .ref C, u, b, rfl, clsD_at r2 hc, .base (.ins (rw_.ex _ _ ha) T.cl T.ha T.hn T.htk T.hm), hb, q _ _ μ H0 H1 (exr _) rw_ (.bl b) k⟩
end
end DL
/-! a op= b where the class of a has no in-place method -/
namespace PySem.W
open Lean Elab Tactic Meta PySem PySem.Calls PyProof.Rows
section
variable {prog : Program} {w : World} {A : Around} {E : Value → Shared → Prop} {s : Shared} {K : Frag} {x y C L f : Addr} {h₀ : Heap} {m : Str → Option Value} {ox oy : Obj} {od od' : Option Obj} {cd : ClassData} {nm' T : String}
theorem own_bin1 {Q : Value → Shared → Prop} (F : Fr h₀ L s.heap m) (X₀ : K.In h₀) (I : InstAt s.heap x ox C od) (J : InstAt s.heap y oy C od') (hc : selfFirst K C = true)
    (hs : findIn K (.ref C) (PySem.dunder nm') = some (some (.ref f))) (hf : isFn K (.ref f) = true)
    (h : wpAny (model prog w) A (call (.ref f) [.ref x, .ref y]) (CmpBack Q) E s) : wpAny (model prog w) A (binaryOp1 nm' (.ref x) (.ref y)) (fun r s' => ∃ v, r = some v ∧ Q v s') E s := by
  have X := X₀.keeps F.keep
  obtain ⟨cd, rest, hcd, hm⟩ := ksp_first hc
  have one := ksp_try X I hs hf h
  obtain ⟨hh, g, d, tt, os⟩ := s
  have L1 : Looks (model prog w) hh (typeOf (.ref x)) (.ref C) := I.type
  have L2 : Looks (model prog w) hh (typeOf (.ref y)) (.ref C) := J.type
  have L3 : Looks (model prog w) hh (fillsNumberSlot (.ref C) nm') true := fills_K X hcd hm hs
  have he : (Value.ref C == Value.ref C) = true := by simp
  unfold binaryOp1
  refine wpAny_bind (L1.at (wpAny_bind (L2.at (wpAny_bind (L3.at ?_)))))
  simp only [he, if_true]
  ksp_lk
  refine wpAny_mono one (fun r s' hr' => ?_) fun _ _ e => e
  obtain ⟨v, rfl, hq⟩ := hr'
  ksp_lk
  exact ⟨v, rfl, hq⟩
theorem own_int1 {b : Value} {fo ro rc : Option Value} {Q : Value → Shared → Prop} (F : Fr h₀ L s.heap m) (X₀ : K.In h₀) (I : InstAt s.heap x ox C od) (hb : typeOf b = pure (.type T)) (hc : selfFirst K C = true)
    (hs : findIn K (.ref C) (PySem.dunder nm') = some (some (.ref f))) (hf : isFn K (.ref f) = true) (hr : findIn K (.ref C) (dunderR nm') = some rc) (hp : rc = none ∨ ∃ g : Addr, rc = some (.ref g))
    (h1 : findIn K (.type T) (PySem.dunder nm') = some fo) (h2 : findIn K (.type T) (dunderR nm') = some ro) (hsub : subIn K (.type T) (.ref C) = some false)
    (h : wpAny (model prog w) A (call (.ref f) [.ref x, b]) (CmpBack Q) E s) : wpAny (model prog w) A (binaryOp1 nm' (.ref x) b) (fun r s' => ∃ v, r = some v ∧ Q v s') E s := by
  have X := X₀.keeps F.keep
  obtain ⟨cd, rest, hcd, hm⟩ := ksp_first hc
  have one := ksp_try X I hs hf h
  obtain ⟨hh, g, d, tt, os⟩ := s
  have L1 : Looks (model prog w) hh (typeOf (.ref x)) (.ref C) := I.type
  have L2 : Looks (model prog w) hh (typeOf b) (.type T) := Looks.of_pure hb
  have L3 : Looks (model prog w) hh (fillsNumberSlot (.ref C) nm') true := fills_K X hcd hm hs
  have L4 : Looks (model prog w) hh (fillsNumberSlot (.type T) nm') ((fo.isSome && !isSeqSlot fo) || (ro.isSome && !isSeqSlot ro)) := ksp_fillsT X h1 h2
  have L5 : Looks (model prog w) hh (isSubtype (.type T) (.ref C)) false := looks_subIn X hsub
  have L6 : Looks (model prog w) hh (numberSlotInPython (.ref C) nm') true := ksp_inPy X hs hr hp
  have L7 : Looks (model prog w) hh (numberSlotInPython (.type T) nm') false := Looks.of_pure rfl
  have L8 : Looks (model prog w) hh (typeLookup (.type T) (dunderR nm')) ro := looks_findIn X h2
  generalize ((fo.isSome && !isSeqSlot fo) || (ro.isSome && !isSeqSlot ro)) = right at L4
  have hne : (Value.ref C == Value.type T) = false := Bool.eq_false_iff.mpr fun q => by cases beq_iff_eq.mp q
  unfold binaryOp1
  refine wpAny_bind (L1.at (wpAny_bind (L2.at (wpAny_bind (L3.at ?_)))))
  simp only [hne, Bool.false_eq_true, if_false]
  cases right with
  | false =>
    ksp_lk
    refine wpAny_mono one (fun r s' hr' => ?_) fun _ _ e => e
    obtain ⟨v, rfl, hq⟩ := hr'
    ksp_lk
    exact ⟨v, rfl, hq⟩
  | true =>
    ksp_lk
    refine wpAny_mono one (fun r s' hr' => ?_) fun _ _ e => e
    obtain ⟨v, rfl, hq⟩ := hr'
    ksp_lk
    exact ⟨v, rfl, hq⟩
theorem own_noI {h : Heap} {add : Bool} (X : K.In h) (hcd : clsIn K C = some cd) (hm : cd.mro = [.ref C, .type "object"]) (h1 : findIn K (.ref C) (dunderI nm') = some none) (h2 : findIn K (.type "object") (dunderI nm') = some none) :
    Looks (model prog w) h (fillsInplaceSlot (.ref C) nm' add) false := by
  intro A Q E s k q
  have Lm : Looks (model prog w) h (mroOf (.ref C)) cd.mro := (looks_clsIn X hcd).andThen (f := fun cd => pure cd.mro) .now
  have Lm' := Lm.keeps k
  obtain ⟨hh, g, d, tt, os⟩ := s
  have X' : K.In hh := X.keeps k
  have L1 : Looks (model prog w) hh (typeLookup (.ref C) (dunderI nm')) none := looks_findIn X' h1
  have L2 : Looks (model prog w) hh (typeLookup (.type "object") (dunderI nm')) none := looks_findIn X' h2
  unfold fillsInplaceSlot
  refine wpAny_bind (Lm'.at ?_)
  rw [hm, List.anyM_cons]
  refine wpAny_bind ?_
  repeat lk
  exact q
theorem own_inp {op : Operator} {b : Value} {Q : Value → Shared → Prop} (Fx : Fr h₀ L s.heap m) (X₀ : K.In h₀) (I : InstAt s.heap x ox C od) (hcd : clsIn K C = some cd) (hm : cd.mro = [.ref C, .type "object"])
    (h1 : findIn K (.ref C) (dunderI op.info.2) = some none) (h2 : findIn K (.type "object") (dunderI op.info.2) = some none)
    (h : wpAny (model prog w) A (binaryOp1 op.info.2 (.ref x) b) (fun r s' => ∃ v, r = some v ∧ Q v s') E s) : wpAny (model prog w) A (inplaceOp op (.ref x) b) Q E s := by
  have X := X₀.keeps Fx.keep
  obtain ⟨hh, g, d, tt, os⟩ := s
  have L1 : Looks (model prog w) hh (typeOf (.ref x)) (.ref C) := I.type
  have L2 : Looks (model prog w) hh (fillsInplaceSlot (.ref C) op.info.2 (op == .Add)) false := own_noI X hcd hm h1 h2
  unfold inplaceOp
  refine wpAny_holding ?_
  refine wpAny_bind (L1.at (wpAny_bind (L2.at ?_)))
  simp only [Bool.false_eq_true, if_false]
  refine wpAny_bind (wpAny_mono h (fun r s' hr' => ?_) fun _ _ e => e)
  obtain ⟨v, rfl, hq⟩ := hr'
  exact wpAny_pure hq
end
end PySem.W
/-! a op= b for instances, over data -/
namespace DL
open PySem PySem.Spec PyProof.Rows L2
open Evl (Ex ex_rd ex_l ex_t fresh_back)
/-- the class has no in-place method for the operator -/
structure NoIp (K : PySem.W.Frag) (C : Addr) (op : Operator) : Prop where
  mro : ∃ cd, PySem.W.clsIn K C = some cd ∧ cd.mro = [.ref C, .type "object"]
  own : PySem.W.findIn K (.ref C) (dunderI op.info.2) = some none
  obj : PySem.W.findIn K (.type "object") (dunderI op.info.2) = some none
section
variable {X : Cx} {CX : CXT} {k : Nat} {C g : Addr} {fd : FuncData} {ps : List Str} {sp : Sp} {E : XK} {op : Operator}
def ipII (C : Addr) (sp : Sp) (E : XK) : TIp := fun x y H Q => ∃ p q dx fs dy gs, x = .ref p ∧ y = .ref q ∧ H p = some (.ins C dx fs) ∧ H q = some (.ins C dy gs) ∧ sp [x, y] H Q E
theorem ip_II (n : NoIp X.K C op) (c : ClsI X.K C) (hs : PySem.W.findIn X.K (.ref C) (PySem.dunder op.info.2) = some (some (.ref g))) (hf : PySem.W.isFn X.K (.ref g) = true)
    (F : FnOk X.prog X.w X.K X.mg X.base CX k g fd ps sp) (hr : Room k X.A) (hbd : Binds X.K fd ps []) (hx : ∀ σ, PassesAt CX X σ E) : PIp X op (ipII C sp E) := by
  intro pins s σ H x y v u Q I rx ry h
  obtain ⟨p, q', dx, fs, dy, gs, rfl, rfl, hp, hq, q⟩ := h
  cases (show v = Value.ref p from rx)
  cases (show u = Value.ref q' from ry)
  obtain ⟨mA, om, _⟩ := ins_get I.hok hp
  obtain ⟨mB, on, _⟩ := ins_get I.hok hq
  obtain ⟨od, J, _⟩ := om.look
  obtain ⟨od', J', _⟩ := on.look
  obtain ⟨m, hF⟩ := I.fr
  obtain ⟨cd, m1, m2⟩ := n.mro
  refine PySem.W.own_inp hF I.ok.mod.kin J m1 m2 n.own n.obj ?_
  refine PySem.W.own_bin1 hF I.ok.mod.kin J J' c.first hs hf ?_
  refine wpAny_mono (run_fnS (E := fun _ => E) (us := [.ref p, .ref q']) (vs := [.ref p, .ref q']) F hr hbd (hx σ) I (.cons rfl (.cons rfl .nil)) q) (fun w s' z => ?_) fun _ _ x => x
  obtain ⟨z', H', I', rz, qz⟩ := z
  exact SlX.cmpback rz ⟨z', H', I', rz, qz⟩
def ipIJ (C : Addr) (sp : Sp) (E : XK) : TIp := fun x y H Q => ∃ p dx fs i, x = .ref p ∧ y = .int i ∧ H p = some (.ins C dx fs) ∧ sp [x, y] H Q E
theorem ip_IJ {rc fo ro : Option Value} (n : NoIp X.K C op) (c : ClsI X.K C) (hs : PySem.W.findIn X.K (.ref C) (PySem.dunder op.info.2) = some (some (.ref g))) (hf : PySem.W.isFn X.K (.ref g) = true)
    (hrc : PySem.W.findIn X.K (.ref C) (dunderR op.info.2) = some rc) (hp : rc = none ∨ ∃ g : Addr, rc = some (.ref g)) (h1 : PySem.W.findIn X.K (.type "int") (PySem.dunder op.info.2) = some fo) (h2 : PySem.W.findIn X.K (.type "int") (dunderR op.info.2) = some ro) (hsub : PySem.W.subIn X.K (.type "int") (.ref C) = some false)
    (F : FnOk X.prog X.w X.K X.mg X.base CX k g fd ps sp) (hr : Room k X.A) (hbd : Binds X.K fd ps []) (hx : ∀ σ, PassesAt CX X σ E) : PIp X op (ipIJ C sp E) := by
  intro pins s σ H x y v u Q I rx ry h
  obtain ⟨p, dx, fs, i, rfl, rfl, hip, q⟩ := h
  cases (show v = Value.ref p from rx)
  obtain ⟨t, rfl⟩ := ry
  obtain ⟨mA, om, _⟩ := ins_get I.hok hip
  obtain ⟨od, J, _⟩ := om.look
  obtain ⟨m, hF⟩ := I.fr
  obtain ⟨cd, m1, m2⟩ := n.mro
  refine PySem.W.own_inp hF I.ok.mod.kin J m1 m2 n.own n.obj ?_
  refine PySem.W.own_int1 (T := "int") hF I.ok.mod.kin J rfl c.first hs hf hrc hp h1 h2 hsub ?_
  refine wpAny_mono (run_fnS (E := fun _ => E) (us := [.ref p, .int i t]) (vs := [.ref p, .int i]) F hr hbd (hx σ) I (.cons rfl (.cons ⟨t, rfl⟩ .nil)) q) (fun w s' z => ?_) fun _ _ x => x
  obtain ⟨z', H', I', rz, qz⟩ := z
  exact SlX.cmpback rz ⟨z', H', I', rz, qz⟩
end
section
variable [AM : Amb]
abbrev DIp := D → D → Mu → (D → Mu → Prop) → Prop
def LiftIp (ti : TIp) (di : DIp) : Prop := ∀ x y μ K, di x y μ K → ∀ v u H0 H1, Dt H0 v x → Dt H0 u y → Rw μ H0 H1 → ∀ Q : VK, (∀ d w μ' H0' H1', Ex H0 H0' → Rw μ' H0' H1' → Dt H0' w d → K d μ' → Q w H1') → ti v u H1 Q
def dAug (i : Nat) (de : DE) (di : DIp) : DS := fun E ρ μ => ∃ d : D, ρ[i]? = some (some d) ∧ de ρ μ fun y μ1 => di d y μ1 fun z μ2 => E.nx (ρ.set i (some z)) μ2
theorem ls_aug {i : Nat} {te : TE} {de : DE} {ti : TIp} {di : DIp} (he : Lift te de) (hi : LiftIp ti di) : LiftS (tAug i te ti) (dAug i de di) := fun E ρ μ ⟨d, hd, k⟩ F σ H0 H1 sl rw_ lk => by
  obtain ⟨v, hv, rv⟩ := sl.at_ i d hd
  refine ⟨v, hv, he ρ μ _ k σ H0 H1 sl rw_ _ fun y u μ1 H01 H11 e1 rw1 r1 k1 => ?_⟩
  exact hi d y μ1 _ k1 v u H01 H11 (rv.mono e1) r1 rw1 _ fun z w μ2 H02 H12 e2 rw2 r2 k2 => lk.nx _ _ _ H02 _ (e1.trans e2) ((sl.mono (e1.trans e2)).set i r2) rw2 k2
def dIpI (f : Int → Int → Int) : DIp := fun x y μ K => ∃ i j, x = .int i ∧ y = .int j ∧ K (.int (f i j)) μ
theorem li_ipI {f : Int → Int → Int} : LiftIp (ipI f) (dIpI f) := fun x y μ K ⟨i, j, ex, ey, k⟩ v u H0 H1 r1 r2 rw_ Q q => by
  subst ex ey
  have e1 := r1.int_of
  have e2 := r2.int_of
  subst e1 e2
  exact ⟨i, j, rfl, rfl, q _ _ μ H0 H1 (exr _) rw_ (.int _) k⟩
def dIpII (C : Addr) (dsp : DSp) (Y : KX) : DIp := fun x y μ K => ∃ fs gs, x = .ins C fs ∧ y = .ins C gs ∧ dsp [x, y] μ K Y
theorem li_II {C : Addr} {dsp : DSp} {E : XK} {Y : KX} (hx : XOk E Y) : LiftIp (ipII C (spD dsp) E) (dIpII C dsp Y) := fun x y μ K ⟨fs, gs, ex, ey, k⟩ v u H0 H1 r1 r2 rw_ Q q => by
  subst ex ey
  obtain ⟨a, dx, fvs, rfl, ha, _⟩ := r1.ins_of
  obtain ⟨b, dy, gvs, rfl, hb, _⟩ := r2.ins_of
  exact ⟨a, b, dx, fvs, dy, gvs, rfl, rfl, rw_.ex _ _ ha, rw_.ex _ _ hb, _, μ, H0, K, Y, k, .cons r1 (.cons r2 .nil), rw_.toRw0, fun d v μ' H0' H' e r rd kk => q d v μ' H0' H' e ⟨r, Amb.mono _ _ e rw_.am⟩ rd kk,
    fun C fs μ' dd fvs H0' H' e r h1 h2 h3 kk => hx C fs μ' dd fvs H0' H' ⟨r, Amb.mono _ _ e rw_.am⟩ h1 h2 h3 kk⟩
def dIpIJ (C : Addr) (dsp : DSp) (Y : KX) : DIp := fun x y μ K => ∃ fs i, x = .ins C fs ∧ y = .int i ∧ dsp [x, y] μ K Y
theorem li_IJ {C : Addr} {dsp : DSp} {E : XK} {Y : KX} (hx : XOk E Y) : LiftIp (ipIJ C (spD dsp) E) (dIpIJ C dsp Y) := fun x y μ K ⟨fs, i, ex, ey, k⟩ v u H0 H1 r1 r2 rw_ Q q => by
  subst ex ey
  obtain ⟨a, dx, fvs, rfl, ha, _⟩ := r1.ins_of
  have ev := r2.int_of
  subst ev
  exact ⟨a, dx, fvs, i, rfl, rfl, rw_.ex _ _ ha, _, μ, H0, K, Y, k, .cons r1 (.cons r2 .nil), rw_.toRw0, fun d v μ' H0' H' e r rd kk => q d v μ' H0' H' e ⟨r, Amb.mono _ _ e rw_.am⟩ rd kk,
    fun C fs μ' dd fvs H0' H' e r h1 h2 h3 kk => hx C fs μ' dd fvs H0' H' ⟨r, Amb.mono _ _ e rw_.am⟩ h1 h2 h3 kk⟩
/-! ### readings -/
section
variable {ρ : Ro} {μ : Mu} {K : D → Mu → Prop} {C : Addr} {dsp : DSp} {Y : KX} {YS : Ro → KX} {da db dv : DE} {das : DA} {m f : Str} {i : Nat} {di : DIp} {E : DEnds} {K' : PySem.W.Frag}
theorem a_make : dMake C dsp Y das ρ μ K = das ρ μ fun xs μ1 => ∀ a, μ1 a = none → dsp (.val (.ref a) :: xs) (mup μ1 a (.ins C [])) (fun v μ2 => v = .non ∧ ∃ fs, μ2 a = some (.ins C fs) ∧ K (.ins C fs) (mdel μ2 a)) Y := rfl
theorem a_meth : dMeth C m dsp Y da das ρ μ K = da ρ μ fun x μ1 => ∃ fs, x = .ins C fs ∧ fs.lookup m = none ∧ das ρ μ1 fun xs μ2 => dsp (x :: xs) μ2 K Y := rfl
theorem a_binI : dBinI C dsp YS da db ρ μ K = da ρ μ fun x μ1 => db ρ μ1 fun y μ2 => ∃ fs gs, x = .ins C fs ∧ y = .ins C gs ∧ dsp [x, y] μ2 K (YS ρ) := rfl
theorem a_binJ : dBinJ C dsp Y da db ρ μ K = da ρ μ fun x μ1 => db ρ μ1 fun y μ2 => ∃ fs i, x = .ins C fs ∧ y = .int i ∧ dsp [x, y] μ2 K Y := rfl
theorem a_binK : dBinK C dsp Y da db ρ μ K = da ρ μ fun x μ1 => db ρ μ1 fun y μ2 => ∃ fs i, x = .int i ∧ y = .ins C fs ∧ dsp [y, x] μ2 K Y := rfl
theorem a_negI : dNegI C dsp Y da ρ μ K = da ρ μ fun x μ1 => ∃ fs, x = .ins C fs ∧ dsp [x] μ1 K Y := rfl
theorem a_sfld : dSfld K' f da dv E ρ μ = dv ρ μ fun y μ1 => da ρ μ1 fun x μ2 => ∃ a C fs, x = .val (.ref a) ∧ μ2 a = some (.ins C fs) ∧ Cls K' C ∧ NoAttr K' C f ∧ fs.length < 1000 ∧ E.nx ρ (mup μ2 a (.ins C (putD f y fs))) := rfl
theorem a_aug : dAug i da di E ρ μ = dVar i ρ μ fun d _ => da ρ μ fun y μ1 => di d y μ1 fun z μ2 => E.nx (ρ.set i (some z)) μ2 := rfl
theorem a_ipI {g : Int → Int → Int} {x y : Int} : dIpI g (.int x) (.int y) μ K = K (.int (g x y)) μ := by
  apply propext
  constructor
  · rintro ⟨i, j, e1, e2, k⟩; cases e1; cases e2; exact k
  · intro k; exact ⟨x, y, rfl, rfl, k⟩
theorem a_ipII {fs gs : List (Str × D)} : dIpII C dsp Y (.ins C fs) (.ins C gs) μ K = dsp [.ins C fs, .ins C gs] μ K Y := by
  apply propext
  constructor
  · rintro ⟨a, b, e1, e2, k⟩; exact k
  · intro k; exact ⟨fs, gs, rfl, rfl, k⟩
theorem a_ipIJ {fs : List (Str × D)} {n : Int} : dIpIJ C dsp Y (.ins C fs) (.int n) μ K = dsp [.ins C fs, .int n] μ K Y := by
  apply propext
  constructor
  · rintro ⟨a, b, e1, e2, k⟩; exact k
  · intro k; exact ⟨fs, n, rfl, rfl, k⟩
end
end
end DL
/-! what the defs of a text with own instances use -/
namespace DL
open PySem PySem.Spec PyProof.Rows L2
/-- a statement that is not reached -/
def sDead : TS := fun _ _ _ => False
def dDead : DS := fun _ _ _ => False
theorem ps_dead {X : Cx} {s : Stmt} : PS X s sDead := ⟨fun _ _ _ _ _ _ h => h.elim⟩
theorem pat {CX : CXT} {X : Cx} {E : XK} (h : Passes CX X E) : ∀ σ, PassesAt CX X σ E := fun σ pins H s e s' I c => h pins σ H s e s' I c
theorem at_op {K : PySem.W.Frag} {v : Value} {op : Operator} {n : Str} {r : Option (Option Value)} (e : PySem.dunder op.info.2 = n) (h : PySem.W.findIn K v n = r) : PySem.W.findIn K v (PySem.dunder op.info.2) = r := by rw [e]; exact h
theorem at_opR {K : PySem.W.Frag} {v : Value} {op : Operator} {n : Str} {r : Option (Option Value)} (e : dunderR op.info.2 = n) (h : PySem.W.findIn K v n = r) : PySem.W.findIn K v (dunderR op.info.2) = r := by rw [e]; exact h
theorem dop_add : PySem.dunder Operator.Add.info.2 = ("__add__" : Str) := by decide +kernel
theorem dop_sub : PySem.dunder Operator.Sub.info.2 = ("__sub__" : Str) := by decide +kernel
theorem dop_mul : PySem.dunder Operator.Mult.info.2 = ("__mul__" : Str) := by decide +kernel
theorem dop_rmul : dunderR Operator.Mult.info.2 = ("__rmul__" : Str) := by decide +kernel
theorem dip_add : dunderI Operator.Add.info.2 = ("__iadd__" : Str) := by decide +kernel
theorem dip_sub : dunderI Operator.Sub.info.2 = ("__isub__" : Str) := by decide +kernel
theorem dip_mul : dunderI Operator.Mult.info.2 = ("__imul__" : Str) := by decide +kernel
theorem noip {K : PySem.W.Frag} {C : Addr} {op : Operator} {n : Str} (e : dunderI op.info.2 = n) (m : ∃ cd, PySem.W.clsIn K C = some cd ∧ cd.mro = [.ref C, .type "object"]) (h1 : PySem.W.findIn K (.ref C) n = some none) (h2 : PySem.W.findIn K (.type "object") n = some none) : NoIp K C op := ⟨m, by rw [e]; exact h1, by rw [e]; exact h2⟩
section
variable [AM : Amb]
theorem ls_dead : LiftS sDead dDead := fun _ _ _ h => h.elim
section
variable {μ : Mu} {Q : KD} {C : Addr} {fs : List (Str × D)} {d : D} {K' : PySem.W.Frag} {b : Bool} {c : D}
theorem isQ_ins (T : ClsI K' C) (hb : PySem.W.kitOne K' (.ref C) (.ref C) = some b) (k : Q (.bl b) μ) : fIsQ K' [.ins C fs, .val (.ref C)] μ Q := .inr ⟨C, fs, _, _, b, rfl, rfl, T, hb, k⟩
theorem isQ_insT {t : String} (T : ClsI K' C) (hb : PySem.W.kitOne K' (.ref C) (.type t) = some b) (k : Q (.bl b) μ) : fIsQ K' [.ins C fs, .val (.ty t)] μ Q := .inr ⟨C, fs, _, _, b, rfl, rfl, T, hb, k⟩
theorem isQ_int {n : Int} (hb : PySem.W.kitOne K' (.type "int") (.ref C) = some b) (k : Q (.bl b) μ) : fIsQ K' [.int n, .val (.ref C)] μ Q := .inl (.inl ⟨_, _, "int", _, _, rfl, rfl, rfl, hb, k⟩)
theorem isQ_P {xs : List D} (h : fIsP K' xs μ Q) : fIsQ K' xs μ Q := .inl h
theorem attr_ins {f : Str} (c : Cls K' C) (n : NoAttr K' C f) (hl : fs.lookup f = some d) (k : Q d μ) : fAttr K' f (D.ins C fs) μ Q := .inr (.inl ⟨C, fs, d, rfl, c, n, hl, k⟩)
end
end
end DL
namespace K11
open PySem PySem.Spec PyProof.Rows L2 DL
def top (i : Nat) : Stmt := PySem.Challenge.pw_addnests_k11_programs_added.main.body.getD i (.Pass ⟨0, 0, 0, 0⟩)
abbrev s_is_whole : Stmt := top 8
abbrev P_is_whole : List Str := ["value"]
abbrev N_is_whole : List Str := ["value"]
theorem sc_is_whole : FnScope N_is_whole P_is_whole (defScope s_is_whole) := ⟨rfl, rfl, rfl, by decide +kernel, rfl, by decide +kernel, by decide +kernel⟩
abbrev s_plus : Stmt := top 9
abbrev P_plus : List Str := ["one", "other"]
abbrev N_plus : List Str := ["one", "other", "a", "b"]
theorem sc_plus : FnScope N_plus P_plus (defScope s_plus) := ⟨rfl, rfl, rfl, by decide +kernel, rfl, by decide +kernel, by decide +kernel⟩
abbrev s_is_axes : Stmt := top 13
abbrev P_is_axes : List Str := ["value"]
abbrev N_is_axes : List Str := ["value"]
theorem sc_is_axes : FnScope N_is_axes P_is_axes (defScope s_is_axes) := ⟨rfl, rfl, rfl, by decide +kernel, rfl, by decide +kernel, by decide +kernel⟩
abbrev s_is_vector : Stmt := top 14
abbrev P_is_vector : List Str := ["value", "axes"]
abbrev N_is_vector : List Str := ["value", "axes", "number"]
theorem sc_is_vector : FnScope N_is_vector P_is_vector (defScope s_is_vector) := ⟨rfl, rfl, rfl, by decide +kernel, rfl, by decide +kernel, by decide +kernel⟩
abbrev s_is_loop : Stmt := top 15
abbrev P_is_loop : List Str := ["value", "axes"]
abbrev N_is_loop : List Str := ["value", "axes", "count", "step"]
theorem sc_is_loop : FnScope N_is_loop P_is_loop (defScope s_is_loop) := ⟨rfl, rfl, rfl, by decide +kernel, rfl, by decide +kernel, by decide +kernel⟩
abbrev s_is_nest : Stmt := top 16
abbrev P_is_nest : List Str := ["value", "axes"]
abbrev N_is_nest : List Str := ["value", "axes", "loops", "place", "amount", "loop"]
theorem sc_is_nest : FnScope N_is_nest P_is_nest (defScope s_is_nest) := ⟨rfl, rfl, rfl, by decide +kernel, rfl, by decide +kernel, by decide +kernel⟩
abbrev s_Pm_init : Stmt := inClass (top 56) 0
abbrev P_Pm_init : List Str := ["self", "axes", "nests"]
abbrev N_Pm_init : List Str := ["self", "axes", "nests", "nest", "loops", "place", "amount"]
theorem sc_Pm_init : FnScope N_Pm_init P_Pm_init (defScope s_Pm_init) := ⟨rfl, rfl, rfl, by decide +kernel, rfl, by decide +kernel, by decide +kernel⟩
abbrev s_Pm_nests : Stmt := inClass (top 56) 1
abbrev P_Pm_nests : List Str := ["self"]
abbrev N_Pm_nests : List Str := ["self", "loops", "place", "amount"]
theorem sc_Pm_nests : FnScope N_Pm_nests P_Pm_nests (defScope s_Pm_nests) := ⟨rfl, rfl, rfl, by decide +kernel, rfl, by decide +kernel, by decide +kernel⟩
abbrev s_check_axes : Stmt := top 53
abbrev P_check_axes : List Str := ["one", "other"]
abbrev N_check_axes : List Str := ["one", "other"]
theorem sc_check_axes : FnScope N_check_axes P_check_axes (defScope s_check_axes) := ⟨rfl, rfl, rfl, by decide +kernel, rfl, by decide +kernel, by decide +kernel⟩
abbrev s_with_amounts : Stmt := top 54
abbrev P_with_amounts : List Str := ["program", "number"]
abbrev N_with_amounts : List Str := ["program", "number", "loops", "place", "amount"]
theorem sc_with_amounts : FnScope N_with_amounts P_with_amounts (defScope s_with_amounts) := ⟨rfl, rfl, rfl, by decide +kernel, rfl, by decide +kernel, by decide +kernel⟩
abbrev s_convolved : Stmt := top 55
abbrev P_convolved : List Str := ["one", "other"]
abbrev N_convolved : List Str := ["one", "other", "nests", "outer", "start", "many", "inner", "place", "amount"]
theorem sc_convolved : FnScope N_convolved P_convolved (defScope s_convolved) := ⟨rfl, rfl, rfl, by decide +kernel, rfl, by decide +kernel, by decide +kernel⟩
abbrev s_Pm_add : Stmt := inClass (top 56) 3
abbrev P_Pm_add : List Str := ["self", "other"]
abbrev N_Pm_add : List Str := ["self", "other"]
theorem sc_Pm_add : FnScope N_Pm_add P_Pm_add (defScope s_Pm_add) := ⟨rfl, rfl, rfl, by decide +kernel, rfl, by decide +kernel, by decide +kernel⟩
abbrev s_Pm_neg : Stmt := inClass (top 56) 4
abbrev P_Pm_neg : List Str := ["self"]
abbrev N_Pm_neg : List Str := ["self"]
theorem sc_Pm_neg : FnScope N_Pm_neg P_Pm_neg (defScope s_Pm_neg) := ⟨rfl, rfl, rfl, by decide +kernel, rfl, by decide +kernel, by decide +kernel⟩
abbrev s_Pm_sub : Stmt := inClass (top 56) 5
abbrev P_Pm_sub : List Str := ["self", "other"]
abbrev N_Pm_sub : List Str := ["self", "other"]
theorem sc_Pm_sub : FnScope N_Pm_sub P_Pm_sub (defScope s_Pm_sub) := ⟨rfl, rfl, rfl, by decide +kernel, rfl, by decide +kernel, by decide +kernel⟩
abbrev s_Pm_mul : Stmt := inClass (top 56) 6
abbrev P_Pm_mul : List Str := ["self", "other"]
abbrev N_Pm_mul : List Str := ["self", "other"]
theorem sc_Pm_mul : FnScope N_Pm_mul P_Pm_mul (defScope s_Pm_mul) := ⟨rfl, rfl, rfl, by decide +kernel, rfl, by decide +kernel, by decide +kernel⟩
abbrev s_Pm_rmul : Stmt := inClass (top 56) 7
abbrev P_Pm_rmul : List Str := ["self", "other"]
abbrev N_Pm_rmul : List Str := ["self", "other"]
theorem sc_Pm_rmul : FnScope N_Pm_rmul P_Pm_rmul (defScope s_Pm_rmul) := ⟨rfl, rfl, rfl, by decide +kernel, rfl, by decide +kernel, by decide +kernel⟩
abbrev s__law_mixed : Stmt := top 58
abbrev P__law_mixed : List Str := ["_law_cell", "_law_k"]
abbrev N__law_mixed : List Str := ["_law_cell", "_law_k", "_law_number"]
theorem sc__law_mixed : FnScope N__law_mixed P__law_mixed (defScope s__law_mixed) := ⟨rfl, rfl, rfl, by decide +kernel, rfl, by decide +kernel, by decide +kernel⟩
abbrev s__law_purse : Stmt := top 59
abbrev P__law_purse : List Str := ["_law_script", "_law_at"]
abbrev N__law_purse : List Str := ["_law_script", "_law_at", "_law_cell"]
theorem sc__law_purse : FnScope N__law_purse P__law_purse (defScope s__law_purse) := ⟨rfl, rfl, rfl, by decide +kernel, rfl, by decide +kernel, by decide +kernel⟩
abbrev s__law_draw : Stmt := top 60
abbrev P__law_draw : List Str := ["_law_purse_here", "_law_out_of"]
abbrev N__law_draw : List Str := ["_law_purse_here", "_law_out_of", "_law_drawn", "_law_number", "_law_k"]
theorem sc__law_draw : FnScope N__law_draw P__law_draw (defScope s__law_draw) := ⟨rfl, rfl, rfl, by decide +kernel, rfl, by decide +kernel, by decide +kernel⟩
abbrev s__law_cell_drawn : Stmt := top 61
abbrev P__law_cell_drawn : List Str := ["_law_purse_here", "_law_axes", "_law_wide"]
abbrev N__law_cell_drawn : List Str := ["_law_purse_here", "_law_axes", "_law_wide", "_law_axis"]
theorem sc__law_cell_drawn : FnScope N__law_cell_drawn P__law_cell_drawn (defScope s__law_cell_drawn) := ⟨rfl, rfl, rfl, by decide +kernel, rfl, by decide +kernel, by decide +kernel⟩
abbrev s__law_nest_drawn : Stmt := top 62
abbrev P__law_nest_drawn : List Str := ["_law_purse_here", "_law_axes", "_law_most", "_law_counts_to", "_law_wide"]
abbrev N__law_nest_drawn : List Str := ["_law_purse_here", "_law_axes", "_law_most", "_law_counts_to", "_law_wide", "_law_loops", "_law_turn"]
theorem sc__law_nest_drawn : FnScope N__law_nest_drawn P__law_nest_drawn (defScope s__law_nest_drawn) := ⟨rfl, rfl, rfl, by decide +kernel, rfl, by decide +kernel, by decide +kernel⟩
abbrev s__law_times : Stmt := top 63
abbrev P__law_times : List Str := ["_law_nests", "_law_times_here"]
abbrev N__law_times : List Str := ["_law_nests", "_law_times_here", "_law_loops", "_law_place", "_law_amount"]
theorem sc__law_times : FnScope N__law_times P__law_times (defScope s__law_times) := ⟨rfl, rfl, rfl, by decide +kernel, rfl, by decide +kernel, by decide +kernel⟩
abbrev s__law_product : Stmt := top 64
abbrev P__law_product : List Str := ["_law_nests", "_law_others"]
abbrev N__law_product : List Str := ["_law_nests", "_law_others", "_law_found", "_law_loops", "_law_place", "_law_amount", "_law_more", "_law_start", "_law_times_here", "_law_where", "_law_number", "_law_other"]
theorem sc__law_product : FnScope N__law_product P__law_product (defScope s__law_product) := ⟨rfl, rfl, rfl, by decide +kernel, rfl, by decide +kernel, by decide +kernel⟩
abbrev s__law_caught : Stmt := top 65
abbrev P__law_caught : List Str := ["_law_door", "_law_one", "_law_other"]
abbrev N__law_caught : List Str := ["_law_door", "_law_one", "_law_other", "_law_caught_here", "e"]
theorem sc__law_caught : FnScope N__law_caught P__law_caught (defScope s__law_caught) := ⟨rfl, rfl, rfl, by decide +kernel, rfl, by decide +kernel, by decide +kernel⟩
abbrev s__law_right : Stmt := top 66
abbrev P__law_right : List Str := ["_law_purse_here", "_law_many", "_law_nests", "_law_others"]
abbrev N__law_right : List Str := ["_law_purse_here", "_law_many", "_law_nests", "_law_others", "_law_one", "_law_other", "_law_times_here", "_law_told", "_law_due", "_law_program", "_law_held"]
theorem sc__law_right : FnScope N__law_right P__law_right (defScope s__law_right) := ⟨rfl, rfl, rfl, by decide +kernel, rfl, by decide +kernel, by decide +kernel⟩
abbrev s_law : Stmt := top 67
abbrev P_law : List Str := ["_law_script"]
abbrev N_law : List Str := ["_law_script", "_law_cell", "_law_purse_here", "_law_many", "_law_counts_to", "_law_nests", "_law_turn", "_law_others", "_law_far", "_law_door"]
theorem sc_law : FnScope N_law P_law (defScope s_law) := ⟨rfl, rfl, rfl, by decide +kernel, rfl, by decide +kernel, by decide +kernel⟩
abbrev s_init_InvalidNumber : Stmt := inClass (top 3) 0
theorem sc_init_InvalidNumber : FnScope ["self", "value"] ["self", "value"] (defScope s_init_InvalidNumber) := ⟨rfl, rfl, rfl, by decide +kernel, rfl, by decide +kernel, by decide +kernel⟩
abbrev s_init_InvalidNest : Stmt := inClass (top 4) 0
theorem sc_init_InvalidNest : FnScope ["self", "value"] ["self", "value"] (defScope s_init_InvalidNest) := ⟨rfl, rfl, rfl, by decide +kernel, rfl, by decide +kernel, by decide +kernel⟩
abbrev s_init_InvalidList : Stmt := inClass (top 5) 0
theorem sc_init_InvalidList : FnScope ["self", "value"] ["self", "value"] (defScope s_init_InvalidList) := ⟨rfl, rfl, rfl, by decide +kernel, rfl, by decide +kernel, by decide +kernel⟩
abbrev s_init_UnlikeAxes : Stmt := inClass (top 6) 0
theorem sc_init_UnlikeAxes : FnScope ["self", "axes"] ["self", "axes"] (defScope s_init_UnlikeAxes) := ⟨rfl, rfl, rfl, by decide +kernel, rfl, by decide +kernel, by decide +kernel⟩
structure Tx (K : PySem.W.Frag) (mg : Str → Option Value) where
  f_is_whole : Addr
  fd_is_whole : FuncData
  F_is_whole : Fun K "is_whole" "is_whole" s_is_whole f_is_whole fd_is_whole
  b_is_whole : L2.Binds K fd_is_whole P_is_whole []
  g_is_whole : mg "is_whole" = some (.ref f_is_whole)
  f_plus : Addr
  fd_plus : FuncData
  F_plus : Fun K "plus" "plus" s_plus f_plus fd_plus
  b_plus : L2.Binds K fd_plus P_plus []
  g_plus : mg "plus" = some (.ref f_plus)
  f_is_axes : Addr
  fd_is_axes : FuncData
  F_is_axes : Fun K "is_axes" "is_axes" s_is_axes f_is_axes fd_is_axes
  b_is_axes : L2.Binds K fd_is_axes P_is_axes []
  g_is_axes : mg "is_axes" = some (.ref f_is_axes)
  f_is_vector : Addr
  fd_is_vector : FuncData
  F_is_vector : Fun K "is_vector" "is_vector" s_is_vector f_is_vector fd_is_vector
  b_is_vector : L2.Binds K fd_is_vector P_is_vector []
  g_is_vector : mg "is_vector" = some (.ref f_is_vector)
  f_is_loop : Addr
  fd_is_loop : FuncData
  F_is_loop : Fun K "is_loop" "is_loop" s_is_loop f_is_loop fd_is_loop
  b_is_loop : L2.Binds K fd_is_loop P_is_loop []
  g_is_loop : mg "is_loop" = some (.ref f_is_loop)
  f_is_nest : Addr
  fd_is_nest : FuncData
  F_is_nest : Fun K "is_nest" "is_nest" s_is_nest f_is_nest fd_is_nest
  b_is_nest : L2.Binds K fd_is_nest P_is_nest []
  g_is_nest : mg "is_nest" = some (.ref f_is_nest)
  f_Pm_init : Addr
  fd_Pm_init : FuncData
  F_Pm_init : Fun K "__init__" "Program.__init__" s_Pm_init f_Pm_init fd_Pm_init
  b_Pm_init : L2.Binds K fd_Pm_init P_Pm_init []
  f_Pm_nests : Addr
  fd_Pm_nests : FuncData
  F_Pm_nests : Fun K "nests" "Program.nests" s_Pm_nests f_Pm_nests fd_Pm_nests
  b_Pm_nests : L2.Binds K fd_Pm_nests P_Pm_nests []
  f_check_axes : Addr
  fd_check_axes : FuncData
  F_check_axes : Fun K "check_axes" "check_axes" s_check_axes f_check_axes fd_check_axes
  b_check_axes : L2.Binds K fd_check_axes P_check_axes []
  g_check_axes : mg "check_axes" = some (.ref f_check_axes)
  f_with_amounts : Addr
  fd_with_amounts : FuncData
  F_with_amounts : Fun K "with_amounts" "with_amounts" s_with_amounts f_with_amounts fd_with_amounts
  b_with_amounts : L2.Binds K fd_with_amounts P_with_amounts []
  g_with_amounts : mg "with_amounts" = some (.ref f_with_amounts)
  f_convolved : Addr
  fd_convolved : FuncData
  F_convolved : Fun K "convolved" "convolved" s_convolved f_convolved fd_convolved
  b_convolved : L2.Binds K fd_convolved P_convolved []
  g_convolved : mg "convolved" = some (.ref f_convolved)
  f_Pm_add : Addr
  fd_Pm_add : FuncData
  F_Pm_add : Fun K "__add__" "Program.__add__" s_Pm_add f_Pm_add fd_Pm_add
  b_Pm_add : L2.Binds K fd_Pm_add P_Pm_add []
  f_Pm_neg : Addr
  fd_Pm_neg : FuncData
  F_Pm_neg : Fun K "__neg__" "Program.__neg__" s_Pm_neg f_Pm_neg fd_Pm_neg
  b_Pm_neg : L2.Binds K fd_Pm_neg P_Pm_neg []
  f_Pm_sub : Addr
  fd_Pm_sub : FuncData
  F_Pm_sub : Fun K "__sub__" "Program.__sub__" s_Pm_sub f_Pm_sub fd_Pm_sub
  b_Pm_sub : L2.Binds K fd_Pm_sub P_Pm_sub []
  f_Pm_mul : Addr
  fd_Pm_mul : FuncData
  F_Pm_mul : Fun K "__mul__" "Program.__mul__" s_Pm_mul f_Pm_mul fd_Pm_mul
  b_Pm_mul : L2.Binds K fd_Pm_mul P_Pm_mul []
  f_Pm_rmul : Addr
  fd_Pm_rmul : FuncData
  F_Pm_rmul : Fun K "__rmul__" "Program.__rmul__" s_Pm_rmul f_Pm_rmul fd_Pm_rmul
  b_Pm_rmul : L2.Binds K fd_Pm_rmul P_Pm_rmul []
  f__law_mixed : Addr
  fd__law_mixed : FuncData
  F__law_mixed : Fun K "_law_mixed" "_law_mixed" s__law_mixed f__law_mixed fd__law_mixed
  b__law_mixed : L2.Binds K fd__law_mixed P__law_mixed []
  g__law_mixed : mg "_law_mixed" = some (.ref f__law_mixed)
  f__law_purse : Addr
  fd__law_purse : FuncData
  F__law_purse : Fun K "_law_purse" "_law_purse" s__law_purse f__law_purse fd__law_purse
  b__law_purse : L2.Binds K fd__law_purse P__law_purse []
  g__law_purse : mg "_law_purse" = some (.ref f__law_purse)
  f__law_draw : Addr
  fd__law_draw : FuncData
  F__law_draw : Fun K "_law_draw" "_law_draw" s__law_draw f__law_draw fd__law_draw
  b__law_draw : L2.Binds K fd__law_draw P__law_draw []
  g__law_draw : mg "_law_draw" = some (.ref f__law_draw)
  f__law_cell_drawn : Addr
  fd__law_cell_drawn : FuncData
  F__law_cell_drawn : Fun K "_law_cell_drawn" "_law_cell_drawn" s__law_cell_drawn f__law_cell_drawn fd__law_cell_drawn
  b__law_cell_drawn : L2.Binds K fd__law_cell_drawn P__law_cell_drawn []
  g__law_cell_drawn : mg "_law_cell_drawn" = some (.ref f__law_cell_drawn)
  f__law_nest_drawn : Addr
  fd__law_nest_drawn : FuncData
  F__law_nest_drawn : Fun K "_law_nest_drawn" "_law_nest_drawn" s__law_nest_drawn f__law_nest_drawn fd__law_nest_drawn
  b__law_nest_drawn : L2.Binds K fd__law_nest_drawn P__law_nest_drawn []
  g__law_nest_drawn : mg "_law_nest_drawn" = some (.ref f__law_nest_drawn)
  f__law_times : Addr
  fd__law_times : FuncData
  F__law_times : Fun K "_law_times" "_law_times" s__law_times f__law_times fd__law_times
  b__law_times : L2.Binds K fd__law_times P__law_times []
  g__law_times : mg "_law_times" = some (.ref f__law_times)
  f__law_product : Addr
  fd__law_product : FuncData
  F__law_product : Fun K "_law_product" "_law_product" s__law_product f__law_product fd__law_product
  b__law_product : L2.Binds K fd__law_product P__law_product []
  g__law_product : mg "_law_product" = some (.ref f__law_product)
  f__law_caught : Addr
  fd__law_caught : FuncData
  F__law_caught : Fun K "_law_caught" "_law_caught" s__law_caught f__law_caught fd__law_caught
  b__law_caught : L2.Binds K fd__law_caught P__law_caught []
  g__law_caught : mg "_law_caught" = some (.ref f__law_caught)
  f__law_right : Addr
  fd__law_right : FuncData
  F__law_right : Fun K "_law_right" "_law_right" s__law_right f__law_right fd__law_right
  b__law_right : L2.Binds K fd__law_right P__law_right []
  g__law_right : mg "_law_right" = some (.ref f__law_right)
  f_law : Addr
  fd_law : FuncData
  F_law : Fun K "law" "law" s_law f_law fd_law
  b_law : L2.Binds K fd_law P_law []
  g_law : mg "law" = some (.ref f_law)
  C_Program : Addr
  g_Program : mg "Program" = some (.ref C_Program)
  mk_Program : L2.Mk K C_Program f_Pm_init
  ci_Program : ClsI K C_Program
  ki_Program : PySem.W.kitOne K (.ref C_Program) (.ref C_Program) = some true
  kn_Program : PySem.W.kitOne K (.type "int") (.ref C_Program) = some false
  isub_Program : PySem.W.subIn K (.type "int") (.ref C_Program) = some false
  subi_Program : PySem.W.subIn K (.ref C_Program) (.type "int") = some false
  na_axes : NoAttr K C_Program "axes"
  na_parts : NoAttr K C_Program "parts"
  at_Pm_init : PySem.W.findIn K (.ref C_Program) "__init__" = some (some (.ref f_Pm_init))
  fn_Pm_init : PySem.W.isFn K (.ref f_Pm_init) = true
  at_Pm_nests : PySem.W.findIn K (.ref C_Program) "nests" = some (some (.ref f_Pm_nests))
  fn_Pm_nests : PySem.W.isFn K (.ref f_Pm_nests) = true
  at_Pm_add : PySem.W.findIn K (.ref C_Program) "__add__" = some (some (.ref f_Pm_add))
  fn_Pm_add : PySem.W.isFn K (.ref f_Pm_add) = true
  at_Pm_neg : PySem.W.findIn K (.ref C_Program) "__neg__" = some (some (.ref f_Pm_neg))
  fn_Pm_neg : PySem.W.isFn K (.ref f_Pm_neg) = true
  at_Pm_sub : PySem.W.findIn K (.ref C_Program) "__sub__" = some (some (.ref f_Pm_sub))
  fn_Pm_sub : PySem.W.isFn K (.ref f_Pm_sub) = true
  at_Pm_mul : PySem.W.findIn K (.ref C_Program) "__mul__" = some (some (.ref f_Pm_mul))
  fn_Pm_mul : PySem.W.isFn K (.ref f_Pm_mul) = true
  at_Pm_rmul : PySem.W.findIn K (.ref C_Program) "__rmul__" = some (some (.ref f_Pm_rmul))
  fn_Pm_rmul : PySem.W.isFn K (.ref f_Pm_rmul) = true
  ni_add : NoIp K C_Program .Add
  ni_sub : NoIp K C_Program .Sub
  ni_mul : NoIp K C_Program .Mult
  rop_Pm_mul : PySem.W.findIn K (.ref C_Program) (dunderR Operator.Mult.info.2) = some (some (.ref f_Pm_rmul))
  rop1_Pm_mul : (some (.ref f_Pm_rmul) : Option Value) = none ∨ ∃ g : Addr, (some (.ref f_Pm_rmul) : Option Value) = some (.ref g)
  iop_mul : PySem.W.findIn K (.type "int") (PySem.dunder Operator.Mult.info.2) = some (some (.builtin "int.__mul__"))
  iopR_mul : PySem.W.findIn K (.type "int") (dunderR Operator.Mult.info.2) = some (some (.builtin "int.__rmul__"))
  n_int : mg "int" = none
  n_bool : mg "bool" = none
  n_list : mg "list" = none
  n_tuple : mg "tuple" = none
  n_isinstance : mg "isinstance" = none
  n_len : mg "len" = none
  n_all : mg "all" = none
  n_any : mg "any" = none
  n_range : mg "range" = none
  n_zip : mg "zip" = none
  n_repr : mg "repr" = none
  n_max : mg "max" = none
  n_sum : mg "sum" = none
  t_MOST_AXES : Tok
  c_MOST_AXES : mg "MOST_AXES" = some (.int 3 t_MOST_AXES)
  B_AddError : Addr
  bc : BaseC K mg B_AddError
  g_AddError : mg "AddError" = some (.ref B_AddError)
  C_InvalidNumber : Addr
  fI_InvalidNumber : Addr
  fdI_InvalidNumber : FuncData
  FI_InvalidNumber : FunD K "__init__" "InvalidNumber.__init__" (defArgs s_init_InvalidNumber) (defBody s_init_InvalidNumber) (defScope s_init_InvalidNumber) [.non] [] fI_InvalidNumber fdI_InvalidNumber
  bi_InvalidNumber : L2.Binds K fdI_InvalidNumber ["self", "value"] []
  e_InvalidNumber : ErrC K mg "InvalidNumber" "value" C_InvalidNumber fI_InvalidNumber
  g_InvalidNumber : mg "InvalidNumber" = some (.ref C_InvalidNumber)
  C_InvalidNest : Addr
  fI_InvalidNest : Addr
  fdI_InvalidNest : FuncData
  FI_InvalidNest : FunD K "__init__" "InvalidNest.__init__" (defArgs s_init_InvalidNest) (defBody s_init_InvalidNest) (defScope s_init_InvalidNest) [.non] [] fI_InvalidNest fdI_InvalidNest
  bi_InvalidNest : L2.Binds K fdI_InvalidNest ["self", "value"] []
  e_InvalidNest : ErrC K mg "InvalidNest" "value" C_InvalidNest fI_InvalidNest
  g_InvalidNest : mg "InvalidNest" = some (.ref C_InvalidNest)
  C_InvalidList : Addr
  fI_InvalidList : Addr
  fdI_InvalidList : FuncData
  FI_InvalidList : FunD K "__init__" "InvalidList.__init__" (defArgs s_init_InvalidList) (defBody s_init_InvalidList) (defScope s_init_InvalidList) [.non] [] fI_InvalidList fdI_InvalidList
  bi_InvalidList : L2.Binds K fdI_InvalidList ["self", "value"] []
  e_InvalidList : ErrC K mg "InvalidList" "value" C_InvalidList fI_InvalidList
  g_InvalidList : mg "InvalidList" = some (.ref C_InvalidList)
  C_UnlikeAxes : Addr
  fI_UnlikeAxes : Addr
  fdI_UnlikeAxes : FuncData
  FI_UnlikeAxes : FunD K "__init__" "UnlikeAxes.__init__" (defArgs s_init_UnlikeAxes) (defBody s_init_UnlikeAxes) (defScope s_init_UnlikeAxes) [.non] [] fI_UnlikeAxes fdI_UnlikeAxes
  bi_UnlikeAxes : L2.Binds K fdI_UnlikeAxes ["self", "axes"] []
  e_UnlikeAxes : ErrC K mg "UnlikeAxes" "axes" C_UnlikeAxes fI_UnlikeAxes
  g_UnlikeAxes : mg "UnlikeAxes" = some (.ref C_UnlikeAxes)
  xk_UnlikeAxes : ExcK K C_UnlikeAxes
  xm_UnlikeAxes : PySem.W.exmOne K (.ref C_UnlikeAxes) (.ref B_AddError) = some true
  xi_UnlikeAxes : PySem.W.kitOne K (.ref C_UnlikeAxes) (.ref C_UnlikeAxes) = some true
theorem ok_init_InvalidNumber {P : Program} {w : World} {K : PySem.W.Frag} {mg : Str → Option Value} {base : Heap} (T : Tx K mg) : FnOk P w K mg base CX0 1 T.fI_InvalidNumber T.fdI_InvalidNumber ["self", "value"] (spErr K T.C_InvalidNumber "value") :=
  T.FI_InvalidNumber.ok sc_init_InvalidNumber (fun vs H Q E ⟨a, v, e, _⟩ => by rw [e]; rfl) fun cdv A outer s H vs Q E hr h => haveI : Amb := amb0; ⟨_, pss_cons (ps_expr (pe_binit T.bc rfl (pa_cons (pv 0) (pa_cons pe_str pa_nil)))) (pss_one (ps_ost (pv 0) (pv 1))), rd_init h⟩
theorem ok_init_InvalidNest {P : Program} {w : World} {K : PySem.W.Frag} {mg : Str → Option Value} {base : Heap} (T : Tx K mg) : FnOk P w K mg base CX0 1 T.fI_InvalidNest T.fdI_InvalidNest ["self", "value"] (spErr K T.C_InvalidNest "value") :=
  T.FI_InvalidNest.ok sc_init_InvalidNest (fun vs H Q E ⟨a, v, e, _⟩ => by rw [e]; rfl) fun cdv A outer s H vs Q E hr h => haveI : Amb := amb0; ⟨_, pss_cons (ps_expr (pe_binit T.bc rfl (pa_cons (pv 0) (pa_cons pe_str pa_nil)))) (pss_one (ps_ost (pv 0) (pv 1))), rd_init h⟩
theorem ok_init_InvalidList {P : Program} {w : World} {K : PySem.W.Frag} {mg : Str → Option Value} {base : Heap} (T : Tx K mg) : FnOk P w K mg base CX0 1 T.fI_InvalidList T.fdI_InvalidList ["self", "value"] (spErr K T.C_InvalidList "value") :=
  T.FI_InvalidList.ok sc_init_InvalidList (fun vs H Q E ⟨a, v, e, _⟩ => by rw [e]; rfl) fun cdv A outer s H vs Q E hr h => haveI : Amb := amb0; ⟨_, pss_cons (ps_expr (pe_binit T.bc rfl (pa_cons (pv 0) (pa_cons pe_str pa_nil)))) (pss_one (ps_ost (pv 0) (pv 1))), rd_init h⟩
theorem ok_init_UnlikeAxes {P : Program} {w : World} {K : PySem.W.Frag} {mg : Str → Option Value} {base : Heap} (T : Tx K mg) : FnOk P w K mg base CX0 1 T.fI_UnlikeAxes T.fdI_UnlikeAxes ["self", "axes"] (spErr K T.C_UnlikeAxes "axes") :=
  T.FI_UnlikeAxes.ok sc_init_UnlikeAxes (fun vs H Q E ⟨a, v, e, _⟩ => by rw [e]; rfl) fun cdv A outer s H vs Q E hr h => haveI : Amb := amb0; ⟨_, pss_cons (ps_expr (pe_binit T.bc rfl (pa_cons (pv 0) (pa_cons pe_str pa_nil)))) (pss_one (ps_ost (pv 0) (pv 1))), rd_init h⟩
def sp1 (f : D → Bool) : DSp := fun ds μ Q _ => ∃ d, ds = [d] ∧ Pl d ∧ Q (.bl (f d)) μ
def sp2 (f : Int → D → Bool) : DSp := fun ds μ Q _ => ∃ d n, ds = [d, .int n] ∧ Pl d ∧ Q (.bl (f n d)) μ
theorem map_bl {f : D → Bool} : ∀ xs : List D, xs.map (fun x => D.bl (f x)) = (xs.map f).map D.bl := fun xs => by rw [List.map_map]; rfl
theorem all_id {f : D → Bool} (xs : List D) : (xs.map f).all id = xs.all f := by rw [List.all_map]; rfl
/-- refused: an axes that is none -/
def spX (K : PySem.W.Frag) (mg : Str → Option Value) (T : Tx K mg) (f : Int → D → Bool) : DSp := fun ds μ Q Y => ∃ d a, ds = [d, a] ∧ Pl d ∧ Pl a ∧ (∀ n, a = .int n → isAxes a = true → Q (.bl (f n d)) μ) ∧ (isAxes a = false → Y T.C_InvalidNumber [("value", a)] μ)
theorem axes_int {a : D} (h : isAxes a = true) : ∃ n, a = .int n ∧ 1 ≤ n ∧ n ≤ 3 := by
  cases a with
  | int n => simp [isAxes] at h; exact ⟨n, rfl, h⟩
  | _ => cases h
theorem asS_m {μ : Mu} {a : Addr} {xs : List D} (h : μ a = some (.lst xs)) : asS μ (.val (.ref a)) = some xs := by
  show (match μ a with | some (.lst xs) => some xs | _ => none) = _
  rw [h]
theorem bits_le {m : Int} (h : m.natAbs < 2 ^ 200) : Builtin.Int.intBits m ≤ 200 := by
  unfold Builtin.Int.intBits
  split
  · omega
  · have : m.natAbs.log2 < 200 := by
      by_cases z : m.natAbs = 0
      · rw [z]; decide
      · rwa [Nat.log2_lt z]
    omega
theorem mup_self {μ : Mu} {a : Addr} {m : MO} (h : μ a = some m) : mup μ a m = μ := by
  funext b
  unfold mup
  split
  · rename_i e; rw [e, h]
  · rfl
theorem pow7 {e : Nat} (h : e ≤ 7) : (2147483587 : Int) ^ e ≤ 2147483587 ^ 7 := by
  have t : ∀ e : Fin 8, (2147483587 : Int) ^ (e : Nat) ≤ 2147483587 ^ 7 := by decide
  exact t ⟨e, by omega⟩
theorem mod_in {i m : Int} (h : 0 < m) : 0 ≤ i % m ∧ i % m < m := ⟨Int.emod_nonneg _ (by omega), Int.emod_lt_of_pos _ h⟩
end K11
namespace K11
open PySem PySem.Spec PyProof.Rows L2 DL
section
variable {P : Program} {w : World} {K : PySem.W.Frag} {mg : Str → Option Value} {base : Heap}
def sp1v (f : D → Bool) : DSp := fun ds μ Q _ => ∃ d, ds = [d] ∧ Pv μ d ∧ Q (.bl (f d)) μ
def sp2v (f : Int → D → Bool) : DSp := fun ds μ Q _ => ∃ d n, ds = [d, .int n] ∧ Pv μ d ∧ Q (.bl (f n d)) μ
def spXv (K : PySem.W.Frag) (mg : Str → Option Value) (T : Tx K mg) (f : Int → D → Bool) : DSp := fun ds μ Q Y => ∃ d a, ds = [d, a] ∧ Pv μ d ∧ Pl a ∧ (∀ n, a = .int n → isAxes a = true → Q (.bl (f n d)) μ) ∧ (isAxes a = false → Y T.C_InvalidNumber [("value", a)] μ)
def spPlus : DSp := fun ds μ Q _ => ∃ is js, ds = [vec is, vec js] ∧ is.length = js.length ∧ is.length ≤ 1000 ∧ Q (vec (List.zipWith (fun a b => a + b) is js)) μ
def spTimes : DSp := fun ds μ Q _ => ∃ k is, ds = [.int k, vec is] ∧ is.length ≤ 1000 ∧ Sm k ∧ SmAll is ∧ Q (vec (scaleL k is)) μ
def spCheckNest (K : PySem.W.Frag) (mg : Str → Option Value) (T : Tx K mg) : DSp := fun ds μ Q Y => ∃ d, ds = [d] ∧ Pv μ d ∧ (anyNest d = true → Q .non μ) ∧ (anyNest d = false → Y T.C_InvalidNest [("value", d)] μ)
def spCheckIdx (K : PySem.W.Frag) (mg : Str → Option Value) (T : Tx K mg) : DSp := fun ds μ Q Y => ∃ ls r at_, ds = [.tup (.lst ls :: r), at_] ∧ Pv μ at_ ∧ (idxOk ls.length at_ = true → Q .non μ) ∧ (idxOk ls.length at_ = false → Y T.C_InvalidNumber [("value", at_)] μ)
def spCheckSize (K : PySem.W.Frag) (mg : Str → Option Value) (T : Tx K mg) : DSp := fun ds μ Q Y => ∃ d least most, ds = [d, .int least, mostD most] ∧ Pv μ d ∧ (DL.sizeOk least most d = true → Q .non μ) ∧ (DL.sizeOk least most d = false → Y T.C_InvalidNumber [("value", d)] μ)
def spWith : DSp := fun ds μ Q _ => ∃ (N : NestD) (at_ : Nat) (ls : List (Int × List Int)) (r : Int), ds = [N.d, .int at_, .lst (ls.map loopD), .int r] ∧ at_ < N.loops.length ∧ N.loops.length ≤ 1000 ∧ ls.length ≤ 1000 ∧ Sm r ∧ SmAll (stepAt N at_) ∧ N.place.length = (stepAt N at_).length ∧ N.place.length ≤ 1000 ∧
  ∀ q, μ q = none → Q (tn (q, withN N at_ ls r)) (mup μ q (.lst ((withN N at_ ls r).loops.map loopD)))
theorem move_eq (p s : List Int) (k : Int) : List.zipWith (fun a b => a + b) p (scaleL k s) = moveL p s k := by
  unfold scaleL moveL
  rw [List.zipWith_map_right]
theorem int_pl {i : Int} (h : -(10 ^ 250) < i) (g : i < 10 ^ 250) : Pl (.int i) := (Lv.int (j := 0) h g).pl (by decide)
theorem fF {b : Bool} {A : Prop} (h : b = true) (e : b = false) : A := by rw [h] at e; cases e
theorem fT {b : Bool} {A : Prop} (h : b = false) (e : b = true) : A := by rw [h] at e; cases e
end
end K11
namespace K11
open PySem PySem.Spec PyProof.Rows L2 DL
section
variable {P : Program} {w : World} {K : PySem.W.Frag} {mg : Str → Option Value} {base : Heap}
theorem ok_is_whole (T : Tx K mg) : FnOk P w K mg base CX0 1 T.f_is_whole T.fd_is_whole P_is_whole (spD (sp1v isWhole)) :=
  fn0D T.F_is_whole sc_is_whole (fun _ _ _ _ ⟨_, e, _⟩ => by rw [e]; rfl) fun cdv A outer s H E hr => by
  have hu := hr.units
  haveI : Amb := amb0
  have sc := sc_is_whole
  refine ⟨_, (pss_one (ps_ret ((pe_and ((pe_callB call_isP rfl T.n_isinstance (by decide +kernel) (pa_cons (pv 0) (pa_cons ((pe_bltn (v := .ty "int") rfl T.n_int (by decide +kernel) rfl)) pa_nil)))) (pe_one ((pe_not ((pe_callB call_isP rfl T.n_isinstance (by decide +kernel) (pa_cons (pv 0) (pa_cons ((pe_bltn (v := .ty "bool") rfl T.n_bool (by decide +kernel) rfl)) pa_nil))))))))))), fun AM Y => ?_⟩
  refine ⟨_, (ls_ret ((l_andV ((l_cb lc_isP (l_cons (l_var) (l_cons (l_val) l_nil)))) ((l_notV ((l_cb lc_isP (l_cons (l_var) (l_cons (l_val) l_nil))))))))), fun xs μ Kk h => ?_⟩
  obtain ⟨d, rfl, hp, k⟩ := h
  refine ⟨d, rfl, pv_int hp ⟨_, rfl, ?_⟩⟩
  rw [whole_eq] at k
  refine and_if (fun e => ⟨d, rfl, pv_bool hp ⟨_, rfl, ?_⟩⟩) fun e => ?_
  · rw [e] at k; exact k
  · rw [e] at k; exact k
end
end K11
namespace K11
open PySem PySem.Spec PyProof.Rows L2 DL
section
variable {P : Program} {w : World} {K : PySem.W.Frag} {mg : Str → Option Value} {base : Heap}
theorem ok_is_axes (T : Tx K mg) : FnOk P w K mg base CX0 2 T.f_is_axes T.fd_is_axes P_is_axes (spD (sp1v isAxes)) :=
  fn0D T.F_is_axes sc_is_axes (fun _ _ _ _ ⟨_, e, _⟩ => by rw [e]; rfl) fun cdv A outer s H E hr => by
  have hu := hr.units
  haveI : Amb := amb0
  have sc := sc_is_axes
  refine ⟨_, (pss_one (ps_ret ((pe_and ((pe_call (ok_is_whole T) (hr.mono (by decide)) rfl T.g_is_whole T.F_is_whole.kp T.b_is_whole .nil pass0 (pa_cons (pv 0) pa_nil))) (pe_one ((pe_chain op_le op_le (pe_int) (pv 0) ((pe_glob (v := .int 3) rfl T.c_MOST_AXES ⟨_, rfl⟩))))))))), fun AM Y => ?_⟩
  refine ⟨_, (ls_ret ((l_andV ((l_call XOk.never (l_cons (l_var) l_nil))) ((l_chain l2_le l2_le (l_int) (l_var) (l_int)))))), fun xs μ Kk h => ?_⟩
  obtain ⟨d, rfl, hp, k⟩ := h
  refine ⟨d, rfl, d, rfl, hp, _, rfl, ?_⟩
  cases d with
  | int i =>
    refine ⟨_, rfl, 1, i, rfl, rfl, True.intro, _, rfl, and_if (fun e => ⟨i, 3, rfl, rfl, True.intro, ?_⟩) fun e => ?_⟩
    · have e' : (decide (1 ≤ i) && decide (i ≤ 3)) = decide (i ≤ 3) := by rw [e]; rfl
      have k' : Kk (.bl (decide (1 ≤ i) && decide (i ≤ 3))) μ := k
      rw [e'] at k'
      exact k'
    · have e' : (decide (1 ≤ i) && decide (i ≤ 3)) = false := by rw [e]; rfl
      have k' : Kk (.bl (decide (1 ≤ i) && decide (i ≤ 3))) μ := k
      rw [e'] at k'
      exact k'
  | _ => exact k
end
end K11
namespace K11
open PySem PySem.Spec PyProof.Rows L2 DL
section
variable {P : Program} {w : World} {K : PySem.W.Frag} {mg : Str → Option Value} {base : Heap}
theorem ok_is_vector (T : Tx K mg) : FnOk P w K mg base CX0 2 T.f_is_vector T.fd_is_vector P_is_vector (spD (sp2v isVec)) :=
  fn0D T.F_is_vector sc_is_vector (fun _ _ _ _ ⟨_, _, e, _⟩ => by rw [e]; rfl) fun cdv A outer s H E hr => by
  have hu := hr.units
  haveI : Amb := amb0
  have sc := sc_is_vector
  refine ⟨_, (pss_one (ps_ret ((pe_and ((pe_callB call_isP rfl T.n_isinstance (by decide +kernel) (pa_cons (pv 0) (pa_cons ((pe_bltn (v := .ty "tuple") rfl T.n_tuple (by decide +kernel) rfl)) pa_nil)))) (pe_and ((pe_cmpR (op_eqX hu) ((pe_callB call_lenDD rfl T.n_len (by decide +kernel) (pa_cons (pv 0) pa_nil))) (pv 1) (nomark _))) (pe_one ((pe_callB (cr_all rfl) rfl T.n_all (by decide +kernel) (pa_cons ((pe_lc (own := [("number", 2)]) (g := (gName 2)) rfl sc.nd (pi_seq (pv 0)) (blkOk_by (own := [("number", 2)]) (N := N_is_vector) (sc := defScope s_is_vector) (by decide +kernel)) (fun _ _ _ _ _ => (pg_name (i := 2) sc.nd rfl (by first | exact Or.inl rfl | exact Or.inr rfl))) (fun _ _ _ _ _ => pts_nil) (fun _ _ _ _ _ => (pe_call (ok_is_whole T) (hr.mono (by decide)) rfl T.g_is_whole T.F_is_whole.kp T.b_is_whole .nil pass0 (pa_cons (pv 2) pa_nil))))) pa_nil))))))))), fun AM Y => ?_⟩
  refine ⟨_, (ls_ret ((l_andV ((l_cb lc_isP (l_cons (l_var) (l_cons (l_val) l_nil)))) ((l_andV ((l_op l2_eqX ((l_cb lc_len (l_cons (l_var) l_nil))) (l_var))) ((l_cb lc_all (l_cons ((l_comp (li_seq (l_var)) (lgw_name (by decide)) l_yes ((l_call XOk.never (l_cons (l_var) l_nil))))) l_nil)))))))), fun xs μ Kk h => ?_⟩
  obtain ⟨d, n, rfl, hp, k⟩ := h
  rcases hp with hp | ⟨a, xs, rfl, hm⟩
  · refine ⟨d, rfl, isP_tuple hp ⟨_, rfl, and_if (fun e => ?_) fun e => ?_⟩⟩
    · cases d with
      | tup xs =>
        obtain ⟨hx, hl⟩ := hp.tup
        refine ⟨_, rfl, ⟨xs, rfl, .int n, rfl, .inl ⟨_, rfl, _, rfl, and_if (fun e2 => ?_) fun e2 => ?_⟩⟩⟩
        · refine ⟨.tup xs, rfl, fun a ha => comp_map ha (fun _ => True.intro) (fun x => .bl (isWhole x)) (fun x hx' μ' L q => ⟨x, rfl, x, rfl, (hx x hx').pv, q⟩) hl ?_⟩
          refine ⟨_, xs.map isWhole, rfl, congrArg some (map_bl xs), ?_⟩
          rw [all_id]
          exact bl_of k (by show (decide ((xs.length : Int) = n) && xs.all isWhole) = _; rw [show decide ((xs.length : Int) = n) = true from e2]; rfl)
        · exact bl_of k (by show (decide ((xs.length : Int) = n) && xs.all isWhole) = _; rw [show decide ((xs.length : Int) = n) = false from e2]; rfl)
      | _ => cases e
    · cases d with
      | tup xs => cases e
      | _ => exact k
  · exact ⟨_, rfl, pv_mut hm rfl ⟨_, rfl, and_if (fun e => by cases e) fun _ => k⟩⟩
end
end K11
namespace K11
open PySem PySem.Spec PyProof.Rows L2 DL
section
variable {P : Program} {w : World} {K : PySem.W.Frag} {mg : Str → Option Value} {base : Heap}
theorem ok_is_loop (T : Tx K mg) : FnOk P w K mg base CX0 3 T.f_is_loop T.fd_is_loop P_is_loop (spD (sp2 isLoop)) :=
  fn0D T.F_is_loop sc_is_loop (fun _ _ _ _ ⟨_, _, e, _⟩ => by rw [e]; rfl) fun cdv A outer s H E hr => by
  have hu := hr.units
  haveI : Amb := amb0
  have sc := sc_is_loop
  refine ⟨_, (pss_cons (ps_if (PW.pt (pw_or (pt_not (pt_val ((pe_callB call_isP rfl T.n_isinstance (by decide +kernel) (pa_cons (pv 0) (pa_cons ((pe_bltn (v := .ty "tuple") rfl T.n_tuple (by decide +kernel) rfl)) pa_nil)))))) (pw_or1 (pt_cmpR (op_neX hu) ((pe_callB call_lenDD rfl T.n_len (by decide +kernel) (pa_cons (pv 0) pa_nil))) (pe_int) (nomark _))))) (pss_one (ps_ret (pe_bl))) pss_nil) (pss_cons (ps_asg (pv 0) (pg_tup (n := 2) rfl (pgs_cons (pg_name (i := 2) sc.nd rfl (by first | exact Or.inl rfl | exact Or.inr rfl)) (pgs_cons (pg_name (i := 3) sc.nd rfl (by first | exact Or.inl rfl | exact Or.inr rfl)) pgs_nil)))) (pss_one (ps_ret ((pe_and ((pe_call (ok_is_whole T) (hr.mono (by decide)) rfl T.g_is_whole T.F_is_whole.kp T.b_is_whole .nil pass0 (pa_cons (pv 2) pa_nil))) (pe_and ((pe_cmpR op_ge (pv 2) (pe_int) (nomark _))) (pe_one ((pe_call (ok_is_vector T) (hr.mono (by decide)) rfl T.g_is_vector T.F_is_vector.kp T.b_is_vector .nil pass0 (pa_cons (pv 3) (pa_cons (pv 1) pa_nil)))))))))))), fun AM Y => ?_⟩
  refine ⟨_, (ls_seq (ls_if (l_or (l_not (l_tB ((l_cb lc_isP (l_cons (l_var) (l_cons (l_val) l_nil)))))) (l_test (l_op l2_eqX ((l_cb lc_len (l_cons (l_var) l_nil))) (l_int)))) (ls_ret (l_bl)) ls_next) (ls_seq (ls_asg (l_var) (lg_tup (lgs_cons lg_name (lgs_cons lg_name lgs_nil)))) (ls_ret ((l_andV ((l_call XOk.never (l_cons (l_var) l_nil))) ((l_andV ((l_op l2_ge (l_var) (l_int))) ((l_call XOk.never (l_cons (l_var) (l_cons (l_var) l_nil))))))))))), fun xs μ Kk h => ?_⟩
  obtain ⟨d, n, rfl, hp, k⟩ := h
  refine ⟨d, rfl, isP_tuple hp ⟨_, rfl, and_if (fun e => ?_) fun e => ?_⟩⟩
  · cases d with
    | tup xs => cases e
    | _ => exact k
  · cases d with
    | tup xs =>
      obtain ⟨hx, hl⟩ := hp.tup
      refine ⟨_, rfl, xs, rfl, .inl ⟨_, rfl, _, rfl, and_if (fun e2 => ?_) fun e2 => ?_⟩⟩
      · refine bl_of k ?_
        have e2' : ¬ (xs.length : Int) = 2 := by simpa using e2
        match xs, e2' with
        | [], _ => rfl
        | [x], _ => cases x <;> rfl
        | [x, y], q => exact absurd rfl q
        | x :: y :: z :: r, _ => cases x <;> rfl
      · have e2' : (xs.length : Int) = 2 := by simpa using e2
        obtain ⟨x, y, rfl⟩ : ∃ x y, xs = [x, y] := match xs, e2' with
          | [x, y], _ => ⟨x, y, rfl⟩
        have hX := hx x (by simp)
        have hY := hx y (by simp)
        refine ⟨_, rfl, [x, y], rfl, rfl, x, [y], rfl, y, [], rfl, rfl, ?_⟩
        refine ⟨x, rfl, x, rfl, hX.pv, _, rfl, and_if (fun e3 => ?_) fun e3 => ?_⟩
        · cases x with
          | int c =>
            refine ⟨.int c, rfl, c, 0, rfl, rfl, True.intro, _, rfl, and_if (fun e4 => ?_) fun e4 => ?_⟩
            · refine ⟨y, rfl, .int n, rfl, y, n, rfl, hY.pv, ?_⟩
              exact bl_of k (by show (decide (0 ≤ c) && isVec n y) = _; rw [show decide (0 ≤ c) = true from e4]; rfl)
            · exact bl_of k (by show (decide (0 ≤ c) && isVec n y) = _; rw [show decide (0 ≤ c) = false from e4]; rfl)
          | _ => cases e3
        · cases x with
          | int c => cases e3
          | _ => exact k
    | _ => cases e
end
end K11
namespace K11
open PySem PySem.Spec PyProof.Rows L2 DL
section
variable {P : Program} {w : World} {K : PySem.W.Frag} {mg : Str → Option Value} {base : Heap}
theorem ok_is_nest (T : Tx K mg) : FnOk P w K mg base (L2.CX P w) 4 T.f_is_nest T.fd_is_nest P_is_nest (spD (spXv K mg T isNest)) :=
  fnXD T.F_is_nest sc_is_nest (fun _ _ _ _ ⟨_, _, e, _⟩ => by rw [e]; rfl) fun cdv A outer s H E hr => by
  have hu := hr.units
  haveI : Amb := amb0
  have sc := sc_is_nest
  refine ⟨_, (pss_cons (ps_if (pt_not (pt_val ((pe_call (ok_is_axes T) (hr.mono (by decide)) rfl T.g_is_axes T.F_is_axes.kp T.b_is_axes .nil pass0 (pa_cons (pv 1) pa_nil))))) (pss_one (ps_raise rfl (takes_of rfl rfl rfl rfl) (pmk_oex (dvs := []) (ds := []) T.e_InvalidNumber.oex T.e_InvalidNumber.iC T.e_InvalidNumber.tI (ok_init_InvalidNumber T) (hr.mono (by decide)) T.bi_InvalidNumber .nil pass0 rfl T.e_InvalidNumber.gC (pa_cons (pv 1) pa_nil)))) pss_nil) (pss_cons (ps_if (PW.pt (pw_or (pt_not (pt_val ((pe_callB call_isP rfl T.n_isinstance (by decide +kernel) (pa_cons (pv 0) (pa_cons ((pe_bltn (v := .ty "tuple") rfl T.n_tuple (by decide +kernel) rfl)) pa_nil)))))) (pw_or1 (pt_cmpR (op_neX hu) ((pe_callB call_lenDD rfl T.n_len (by decide +kernel) (pa_cons (pv 0) pa_nil))) (pe_int) (nomark _))))) (pss_one (ps_ret (pe_bl))) pss_nil) (pss_cons (ps_asg (pv 0) (pg_tup (n := 3) rfl (pgs_cons (pg_name (i := 2) sc.nd rfl (by first | exact Or.inl rfl | exact Or.inr rfl)) (pgs_cons (pg_name (i := 3) sc.nd rfl (by first | exact Or.inl rfl | exact Or.inr rfl)) (pgs_cons (pg_name (i := 4) sc.nd rfl (by first | exact Or.inl rfl | exact Or.inr rfl)) pgs_nil))))) (pss_cons (ps_if (PW.pt (pw_or (pt_not (pt_val ((pe_callB call_isP rfl T.n_isinstance (by decide +kernel) (pa_cons (pv 2) (pa_cons ((pe_bltn (v := .ty "list") rfl T.n_list (by decide +kernel) rfl)) pa_nil)))))) (pw_or1 (pt_not (pt_val ((pe_callB (cr_all rfl) rfl T.n_all (by decide +kernel) (pa_cons ((pe_lc (own := [("loop", 5)]) (g := (gName 5)) rfl sc.nd (pi_seq (pv 2)) (blkOk_by (own := [("loop", 5)]) (N := N_is_nest) (sc := defScope s_is_nest) (by decide +kernel)) (fun _ _ _ _ _ => (pg_name (i := 5) sc.nd rfl (by first | exact Or.inl rfl | exact Or.inr rfl))) (fun _ _ _ _ _ => pts_nil) (fun _ _ _ _ _ => (pe_call (ok_is_loop T) (hr.mono (by decide)) rfl T.g_is_loop T.F_is_loop.kp T.b_is_loop .nil pass0 (pa_cons (pv 5) (pa_cons (pv 1) pa_nil)))))) pa_nil)))))))) (pss_one (ps_ret (pe_bl))) pss_nil) (pss_one (ps_ret ((pe_and ((pe_call (ok_is_vector T) (hr.mono (by decide)) rfl T.g_is_vector T.F_is_vector.kp T.b_is_vector .nil pass0 (pa_cons (pv 3) (pa_cons (pv 1) pa_nil)))) (pe_one ((pe_call (ok_is_whole T) (hr.mono (by decide)) rfl T.g_is_whole T.F_is_whole.kp T.b_is_whole .nil pass0 (pa_cons (pv 4) pa_nil)))))))))))), fun AM Y hx => ?_⟩
  refine ⟨_, (ls_seq (ls_if (l_not (l_tB ((l_call XOk.never (l_cons (l_var) l_nil))))) (ls_raise hx (lm_err T.e_InvalidNumber (l_cons (l_var) l_nil))) ls_next) (ls_seq (ls_if (l_or (l_not (l_tB ((l_cb lc_isP (l_cons (l_var) (l_cons (l_val) l_nil)))))) (l_test (l_op l2_eqX ((l_cb lc_len (l_cons (l_var) l_nil))) (l_int)))) (ls_ret (l_bl)) ls_next) (ls_seq (ls_asg (l_var) (lg_tup (lgs_cons lg_name (lgs_cons lg_name (lgs_cons lg_name lgs_nil))))) (ls_seq (ls_if (l_or (l_not (l_tB ((l_cb lc_isP (l_cons (l_var) (l_cons (l_val) l_nil)))))) (l_not (l_tB ((l_cb lc_all (l_cons ((l_comp (li_seq (l_var)) (lgw_name (by decide)) l_yes ((l_call XOk.never (l_cons (l_var) (l_cons (l_var) l_nil)))))) l_nil)))))) (ls_ret (l_bl)) ls_next) (ls_ret ((l_andV ((l_call XOk.never (l_cons (l_var) (l_cons (l_var) l_nil)))) ((l_call XOk.never (l_cons (l_var) l_nil)))))))))), fun xs μ Kk h => ?_⟩
  obtain ⟨d, a, rfl, hp, ha, k1, k2⟩ := h
  refine ⟨a, rfl, a, rfl, ha.pv, _, rfl, and_if (fun e => ?_) fun e => ?_⟩
  · have e' : isAxes a = false := by simpa using e
    exact ⟨a, rfl, a, rfl, k2 e'⟩
  have e' : isAxes a = true := by simpa using e
  obtain ⟨n, rfl, _⟩ := axes_int e'
  have k := k1 n rfl e'
  rcases hp with hp | ⟨a, xs, rfl, hm⟩
  rotate_left
  · exact ⟨_, rfl, pv_mut hm rfl ⟨_, rfl, and_if (fun e => k) fun e => by cases e⟩⟩
  refine ⟨d, rfl, isP_tuple hp ⟨_, rfl, and_if (fun e => ?_) fun e => ?_⟩⟩
  · cases d with
    | tup xs => cases e
    | _ => exact k
  · cases d with
    | tup xs =>
      obtain ⟨hx, hl⟩ := hp.tup
      refine ⟨_, rfl, xs, rfl, .inl ⟨_, rfl, _, rfl, and_if (fun e2 => ?_) fun e2 => ?_⟩⟩
      · refine bl_of k ?_
        have e2' : ¬ (xs.length : Int) = 3 := by simpa using e2
        match xs, e2' with
        | [], _ => rfl
        | [x], _ => cases x <;> rfl
        | [x, y], _ => cases x <;> rfl
        | [x, y, z], q => exact absurd rfl q
        | x :: y :: z :: u :: r, _ => cases x <;> rfl
      · have e2' : (xs.length : Int) = 3 := by simpa using e2
        obtain ⟨x, y, z, rfl⟩ : ∃ x y z, xs = [x, y, z] := match xs, e2' with
          | [x, y, z], _ => ⟨x, y, z, rfl⟩
        have hX := hx x (by simp)
        have hY := hx y (by simp)
        have hZ := hx z (by simp)
        refine ⟨_, rfl, [x, y, z], rfl, rfl, x, [y, z], rfl, y, [z], rfl, z, [], rfl, rfl, ?_⟩
        refine ⟨x, rfl, isP_list hX ⟨_, rfl, and_if (fun e3 => ?_) fun e3 => ?_⟩⟩
        · cases x with
          | lst ls => cases e3
          | _ => exact k
        · cases x with
          | lst ls =>
            obtain ⟨hL, hm⟩ := hX.lst
            refine ⟨.lst ls, rfl, fun a ha => comp_map ha (fun _ => True.intro) (fun x => .bl (isLoop n x)) (fun x hx' μ' L q => ⟨x, rfl, .int n, rfl, x, n, rfl, hL x hx', q⟩) hm ?_⟩
            refine ⟨_, ls.map (isLoop n), rfl, congrArg some (map_bl ls), _, rfl, ?_⟩
            rw [all_id]
            refine and_if (fun e4 => ?_) fun e4 => ?_
            · exact bl_of k (by show (ls.all (isLoop n) && isVec n y && isWhole z) = _; rw [show ls.all (isLoop n) = false by simpa using e4]; rfl)
            · have e4' : ls.all (isLoop n) = true := by simpa using e4
              refine ⟨y, rfl, .int n, rfl, y, n, rfl, hY.pv, _, rfl, and_if (fun e5 => ?_) fun e5 => ?_⟩
              · refine ⟨z, rfl, z, rfl, hZ.pv, ?_⟩
                exact bl_of k (by show (ls.all (isLoop n) && isVec n y && isWhole z) = _; rw [e4', e5]; rfl)
              · exact bl_of k (by show (ls.all (isLoop n) && isVec n y && isWhole z) = _; rw [e4', e5]; rfl)
          | _ => cases e3
    | _ => cases e
end
end K11
namespace K11
open PySem PySem.Spec PyProof.Rows L2 DL
section
variable {P : Program} {w : World} {K : PySem.W.Frag} {mg : Str → Option Value} {base : Heap}
theorem ok_plus (T : Tx K mg) : FnOk P w K mg base CX0 1 T.f_plus T.fd_plus P_plus (spD spPlus) :=
  fn0D T.F_plus sc_plus (fun _ _ _ _ ⟨_, _, e, _⟩ => by rw [e]; rfl) fun cdv A outer s H E hr => by
  have hu := hr.units
  haveI : Amb := amb0
  have sc := sc_plus
  refine ⟨_, (pss_one (ps_ret ((pe_callTy call_tupD rfl T.n_tuple (by decide +kernel) (pa_cons ((pe_lc (own := [("a", 2), ("b", 3)]) (g := (gTup K 2 (gCons (gName 2) (gCons (gName 3) gNil)))) rfl sc.nd (RZ.pi_zipA rfl T.n_zip (pa_cons (pv 0) (pa_cons (pv 1) pa_nil))) (blkOk_by (own := [("a", 2), ("b", 3)]) (N := N_plus) (sc := defScope s_plus) (by decide +kernel)) (fun _ _ _ _ _ => (pg_tup (n := 2) rfl (pgs_cons (pg_name (i := 2) sc.nd rfl (by first | exact Or.inl rfl | exact Or.inr rfl)) (pgs_cons (pg_name (i := 3) sc.nd rfl (by first | exact Or.inl rfl | exact Or.inr rfl)) pgs_nil)))) (fun _ _ _ _ _ => pts_nil) (fun _ _ _ _ _ => (pe_op (k_add (K := K) rfl) (pv 2) (pv 3))))) pa_nil))))), fun AM Y => ?_⟩
  refine ⟨_, (ls_ret ((l_cb lc_tuple (l_cons ((l_comp (li_zip (l_cons (l_var) (l_cons (l_var) l_nil))) (lgw_tup (lgsw_cons (lgw_name (by decide)) (lgsw_cons (lgw_name (by decide)) lgsw_nil))) l_yes ((l_op l2_add (l_var) (l_var))))) l_nil)))), fun xs μ Kk h => ?_⟩
  obtain ⟨is, js, rfl, hl, h3, q⟩ := h
  refine ⟨vec is, rfl, vec js, rfl, by rw [List.length_map, List.length_map]; exact hl, fun a ha => comp_mapG ha (fun _ => True.intro) (zipF fun a b => a + b) ?_ ?_ ?_⟩
  · intro x hx μ' L' hL
    obtain ⟨a, b, rfl, _⟩ := pairs_mem hx
    exact ⟨_, rfl, rfl, _, _, rfl, _, _, rfl, rfl, .int a, rfl, .int b, rfl, hL⟩
  · simp [pairsD]; omega
  · rw [List.nil_append, zip_map]
    exact ⟨_, _, rfl, rfl, q⟩
end
end K11
namespace K11
open PySem PySem.Spec PyProof.Rows L2 DL
section
variable {P : Program} {w : World} {K : PySem.W.Frag} {mg : Str → Option Value} {base : Heap}
structure POk (n : Nat) (ns : List NestD) : Prop where
  n1 : 1 ≤ n
  n3 : n ≤ 3
  len : ns.length ≤ 100
  v : ∀ N ∈ ns, Val N ∧ N.place.length = n ∧ Sm N.amount
def fieldsP (n : Nat) (ns : List NestD) : List (Str × D) := [("axes", .int n), ("parts", .lst (ns.map NestD.d))]
def progD (C : Addr) (n : Nat) (ns : List NestD) : D := .ins C (fieldsP n ns)
def timesN (k : Int) (N : NestD) : NestD := ⟨N.loops, N.place, N.amount * k⟩
def prodN (A B : NestD) : NestD := ⟨A.loops ++ B.loops, List.zipWith (fun a b => a + b) A.place B.place, A.amount * B.amount⟩
def prodL (ns ms : List NestD) : List NestD := ns.flatMap fun A => ms.map (prodN A)
def spInit (K : PySem.W.Frag) (mg : Str → Option Value) (T : Tx K mg) : DSp := fun ds μ Q _ => ∃ a n ns, ds = [.val (.ref a), .int (n : Nat), .lst (ns.map NestD.d)] ∧ μ a = some (.ins T.C_Program []) ∧ POk n ns ∧ Q .non (mup μ a (.ins T.C_Program (fieldsP n ns)))
def spNests (K : PySem.W.Frag) (mg : Str → Option Value) (T : Tx K mg) : DSp := fun ds μ Q _ => ∃ n ns, ds = [progD T.C_Program n ns] ∧ POk n ns ∧ Q (.lst (ns.map NestD.d)) μ
def unlike (K : PySem.W.Frag) (mg : Str → Option Value) (T : Tx K mg) (n m : Nat) (Y : KX) (μ : Mu) : Prop := Y T.C_UnlikeAxes [("axes", .tup [.int n, .int m])] μ
def spAxes (K : PySem.W.Frag) (mg : Str → Option Value) (T : Tx K mg) : DSp := fun ds μ Q Y => ∃ n ns m ms, ds = [progD T.C_Program n ns, progD T.C_Program m ms] ∧ (n = m → Q .non μ) ∧ (n ≠ m → unlike K mg T n m Y μ)
def spAmounts (K : PySem.W.Frag) (mg : Str → Option Value) (T : Tx K mg) : DSp := fun ds μ Q _ => ∃ (n : Nat) (ns : List NestD) (k : Int), ds = [progD T.C_Program n ns, .int k] ∧ POk n ns ∧ POk n (ns.map (timesN k)) ∧ Sm k ∧ Q (progD T.C_Program n (ns.map (timesN k))) μ
def spConv (K : PySem.W.Frag) (mg : Str → Option Value) (T : Tx K mg) : DSp := fun ds μ Q Y => ∃ n ns m ms, ds = [progD T.C_Program n ns, progD T.C_Program m ms] ∧ POk n ns ∧ POk m ms ∧ (n = m → POk n (prodL ns ms) ∧ Q (progD T.C_Program n (prodL ns ms)) μ) ∧ (n ≠ m → unlike K mg T n m Y μ)
def spAdd (K : PySem.W.Frag) (mg : Str → Option Value) (T : Tx K mg) : DSp := fun ds μ Q Y => ∃ n ns m ms, ds = [progD T.C_Program n ns, progD T.C_Program m ms] ∧ POk n ns ∧ POk m ms ∧ (n = m → POk n (ns ++ ms) ∧ Q (progD T.C_Program n (ns ++ ms)) μ) ∧ (n ≠ m → unlike K mg T n m Y μ)
def spNeg (K : PySem.W.Frag) (mg : Str → Option Value) (T : Tx K mg) : DSp := fun ds μ Q _ => ∃ (n : Nat) (ns : List NestD), ds = [progD T.C_Program n ns] ∧ POk n ns ∧ POk n (ns.map (timesN (-1))) ∧ Q (progD T.C_Program n (ns.map (timesN (-1)))) μ
def spSub (K : PySem.W.Frag) (mg : Str → Option Value) (T : Tx K mg) : DSp := fun ds μ Q Y => ∃ n ns m ms, ds = [progD T.C_Program n ns, progD T.C_Program m ms] ∧ POk n ns ∧ POk m ms ∧ POk m (ms.map (timesN (-1))) ∧ (n = m → POk n (ns ++ ms.map (timesN (-1))) ∧ Q (progD T.C_Program n (ns ++ ms.map (timesN (-1)))) μ) ∧ (n ≠ m → unlike K mg T n m Y μ)
def spMul (K : PySem.W.Frag) (mg : Str → Option Value) (T : Tx K mg) : DSp := fun ds μ Q Y => spConv K mg T ds μ Q Y ∨ spAmounts K mg T ds μ Q Y
theorem NestD.eta (N : NestD) : N = ⟨N.loops, N.place, N.amount⟩ := rfl
theorem nd_eq (N : NestD) : N.d = .tup [.lst (N.loops.map loopD), vec N.place, .int N.amount] := rfl
end
end K11
namespace K11
open PySem PySem.Spec PyProof.Rows L2 DL
section
variable {P : Program} {w : World} {K : PySem.W.Frag} {mg : Str → Option Value} {base : Heap}
theorem at_axes (T : Tx K mg) {n : Nat} {ns : List NestD} {μ : Mu} {Q : KD} (h : Q (.int n) μ) : fAttr K "axes" (progD T.C_Program n ns) μ Q := (haveI : Amb := amb0; attr_ins T.ci_Program.cl T.na_axes rfl h)
theorem at_parts (T : Tx K mg) {n : Nat} {ns : List NestD} {μ : Mu} {Q : KD} (h : Q (.lst (ns.map NestD.d)) μ) : fAttr K "parts" (progD T.C_Program n ns) μ Q := (haveI : Amb := amb0; attr_ins T.ci_Program.cl T.na_parts rfl h)
theorem make_ok (T : Tx K mg) {n : Nat} {ns : List NestD} {μ : Mu} {Kk : KD} {Y : KX} {a : Addr} (ha : μ a = none) (hp : POk n ns) (q : Kk (progD T.C_Program n ns) μ) :
    spInit K mg T [.val (.ref a), .int (n : Int), .lst (ns.map NestD.d)] (mup μ a (.ins T.C_Program [])) (fun v μ2 => v = .non ∧ ∃ fs, μ2 a = some (.ins T.C_Program fs) ∧ Kk (.ins T.C_Program fs) (mdel μ2 a)) Y :=
  ⟨a, n, ns, rfl, mup_same, hp, rfl, _, mup_same, by haveI : Amb := amb0; rw [mup_mup, mdel_mup ha]; exact q⟩
def timesD (k : Int) : D → D
  | .tup [l, p, .int a] => .tup [l, p, .int (a * k)]
  | x => x
theorem times_map (k : Int) (ns : List NestD) : (ns.map NestD.d).map (timesD k) = (ns.map (timesN k)).map NestD.d := by rw [List.map_map, List.map_map]; rfl
theorem prod_snoc (ns ms : List NestD) (A : NestD) : prodL (ns ++ [A]) ms = prodL ns ms ++ ms.map (prodN A) := by simp [prodL]
theorem prod_len (ns ms : List NestD) : (prodL ns ms).length = ns.length * ms.length := by
  induction ns with
  | nil => simp [prodL]
  | cons A ns ih =>
    have e : prodL (A :: ns) ms = ms.map (prodN A) ++ prodL ns ms := rfl
    rw [e, List.length_append, ih, List.length_map, List.length_cons, Nat.succ_mul, Nat.add_comm]
theorem prod_step (μ : Mu) (p : Addr) (L dm : List NestD) (A B : NestD) : mup μ p (.lst ((L ++ dm.map (prodN A)).map NestD.d ++ [D.tup [.lst ((A.loops ++ B.loops).map loopD), vec (List.zipWith (fun a b => a + b) A.place B.place), .int (A.amount * B.amount)]])) = mup μ p (.lst ((L ++ (dm ++ [B]).map (prodN A)).map NestD.d)) := by
  rw [List.map_append (l₁ := dm), ← List.append_assoc, List.map_append (l₁ := L ++ dm.map (prodN A))]
  rfl
theorem map_id_d (ns : List NestD) : (ns.map NestD.d).map (fun x => x) = ns.map NestD.d := by simp
end
end K11
namespace K11
open PySem PySem.Spec PyProof.Rows L2 DL
section
variable {P : Program} {w : World} {K : PySem.W.Frag} {mg : Str → Option Value} {base : Heap}
noncomputable def red_Pm_nests (P : Program) (w : World) (base : Heap) (T : Tx K mg) : { ds : KX → DS // ∀ (cdv : Value) (A : Around) (outer : List Env) (s : Shared) (H : Hp) (E : XK), Room 0 (A.deeper (envOfC "Program.nests" (defScope s_Pm_nests) s.heap.objs.size T.f_Pm_nests cdv)) →
    ∃ t, PSs (cxOf CX0 P w K mg base N_Pm_nests "Program.nests" (defScope s_Pm_nests) T.f_Pm_nests cdv A outer s H E).nox (defBody s_Pm_nests) t ∧ ∀ (AM : Amb) (Y : KX), LiftS t (ds Y) } :=
  ⟨_, fun cdv A outer s H E hr => by
    have hu := hr.units
    haveI : Amb := amb0
    have sc := sc_Pm_nests
    exact ⟨_, (pss_one (ps_ret ((pe_lc (own := [("loops", 1), ("place", 2), ("amount", 3)]) (g := (gTup K 3 (gCons (gName 1) (gCons (gName 2) (gCons (gName 3) gNil))))) rfl sc.nd (pi_seq ((pe_att (pv 0) rfl))) (blkOk_by (own := [("loops", 1), ("place", 2), ("amount", 3)]) (N := N_Pm_nests) (sc := defScope s_Pm_nests) (by decide +kernel)) (fun _ _ _ _ _ => (pg_tup (n := 3) rfl (pgs_cons (pg_name (i := 1) sc.nd rfl (by first | exact Or.inl rfl | exact Or.inr rfl)) (pgs_cons (pg_name (i := 2) sc.nd rfl (by first | exact Or.inl rfl | exact Or.inr rfl)) (pgs_cons (pg_name (i := 3) sc.nd rfl (by first | exact Or.inl rfl | exact Or.inr rfl)) pgs_nil))))) (fun _ _ _ _ _ => pts_nil) (fun _ _ _ _ _ => (pe_tup (pa_cons ((pe_callTy call_lstD rfl T.n_list (by decide +kernel) (pa_cons (pv 1) pa_nil))) (pa_cons (pv 2) (pa_cons (pv 3) pa_nil))))))))), fun AM Y => (ls_ret ((l_comp (li_seq ((l_att (l_var)))) (lgw_tup (lgsw_cons (lgw_name (by decide)) (lgsw_cons (lgw_name (by decide)) (lgsw_cons (lgw_name (by decide)) lgsw_nil)))) l_yes ((l_tup (l_cons ((l_cb lc_list' (l_cons (l_var) l_nil))) (l_cons (l_var) (l_cons (l_var) l_nil))))))))⟩⟩
end
end K11
namespace K11
open PySem PySem.Spec PyProof.Rows L2 DL
section
variable {P : Program} {w : World} {K : PySem.W.Frag} {mg : Str → Option Value} {base : Heap}
theorem body_Pm_nests (T : Tx K mg) (Y : KX) : ∀ xs μ Kk, (spNests K mg T) xs μ Kk Y → (red_Pm_nests P w base T).1 Y { nx := fun _ μ' => Kk .non μ', rt := Kk } (startD N_Pm_nests xs) μ := by
  intro xs μ Kk h
  haveI : Amb := amb0
  obtain ⟨n, ns, rfl, hp, q⟩ := h
  try simp only [↓a_seq, ↓a_next, ↓a_brk, ↓a_cont, ↓a_ifS, ↓a_ret, ↓a_retN, ↓a_drop, ↓a_asg, ↓a_name, ↓a_gnil, ↓a_gcons, ↓a_gtup2, ↓a_gtup3, ↓a_var0, ↓a_varS, ↓a_c, ↓a_op, ↓a_un, ↓a_nil, ↓a_cons, ↓a_cb, ↓a_tup, ↓a_lst, ↓a_lstM, ↓a_ife, ↓a_test, ↓a_and, ↓a_or, ↓a_not, ↓a_andV, ↓a_orV, ↓a_notV, ↓a_bl, ↓a_if1, ↓a_if0, ↓a_int, ↓a_int0, ↓a_addI, ↓a_addT, ↓a_addL, ↓a_addS, ↓a_mulI, ↓a_neg, ↓a_eqI, ↓a_isN, ↓a_ixT0, ↓a_ixL0, ↓a_ixT1, ↓a_ixL1, ↓a_ixT2, ↓a_ixL2, ↓a_nopart, ↓a_part, ↓a_intE, ↓a_sl, ↓a_slT, ↓a_slL, ↓a_lenT, ↓a_lenL, ↓a_lenM, ↓a_call, ↓a_for, ↓a_rg1, ↓a_rg1E, ↓a_seqI, ↓a_seqT, ↓a_seqL, ↓a_seqV, ↓a_comp, ↓a_compM, ↓a_emp, ↓a_tupL, ↓a_tupT, ↓a_lstL, ↓a_lstT, ↓a_yes, ↓a_ixV, ↓a_addV, ↓a_slV1, ↓a_slV2, ↓a_lenV, ↓a_ixN0, ↓a_ixN1, ↓a_ixN2, ↓a_ixP0, ↓a_ixP1, ↓a_ixK, ↓a_gP, ↓a_gN, ↓a_gl2, ↓a_gl3, ↓a_subI, ↓a_app, ↓a_refE, ↓a_ixTn0, ↓a_ixTn1, ↓a_ixTn2, ↓a_lstMN, ↓a_att, ↓a_zipB, ↓a_ltT, ↓a_abs, ↓a_lstRg, ↓a_tupRg, ↓a_r1, ↓a_r2, ↓a_r2E, ↓a_int1I, ↓a_int1B, ↓a_rg2, ↓a_i2E, ↓a_l2E, ↓a_l3E, ↓a_chain, ↓a_wipe0, ↓a_wipe1, ↓a_raise, ↓a_err, ↓a_errE, ↓a_par, ↓a_par3, ↓a_rem, ↓a_try, ↓a_callS, ↓a_slV3, ↓a_slV4, ↓a_lstV, ↓a_lstMV, ↓a_zip, ↓a_zipLL, ↓a_zipVV, ↓a_tab2, ↓a_make, ↓a_meth, ↓a_binI, ↓a_binJ, ↓a_binK, ↓a_negI, ↓a_sfld, ↓a_aug, ↓a_ipI, ↓a_ipII, ↓a_ipIJ, a_addT, a_ixT0, a_ixT1, a_ixT2, a_slT, a_lenT, a_seqT, a_seqV, a_lstT, a_ixV, a_addV, a_slV1, a_slV2, a_lenV, a_ixN0, a_ixN1, a_ixN2, a_ixP0, a_ixP1, a_ixK, a_gP, a_gN, a_mm, a_ixTn0, a_ixTn1, a_ixTn2, a_ltT, a_slV3, a_slV4, a_lstV, f_loop, f_nest, f_vec1, f_cut1, f_cut2, f_cut3, f_cut4, f_map1, f_map2, f_cnt, f_stp, p_addVT, p_addTV, ↓startD, ↓List.map_cons, ↓List.map_nil, List.length_cons, List.length_nil, Nat.reduceAdd, Nat.reduceSub, Nat.reduceLeDiff, Int.reducePow, Int.reduceNeg, Int.reduceLE, Int.reduceLT, List.replicate, ↓List.cons_append, ↓List.nil_append, List.set_cons_zero, List.set_cons_succ, true_and, and_true, ↓reduceIte, Bool.not_true, Bool.not_false, decide_true, decide_false, Bool.false_eq_true, if_false, red_Pm_nests]
  refine at_parts T ?_
  try simp only [↓a_seq, ↓a_next, ↓a_brk, ↓a_cont, ↓a_ifS, ↓a_ret, ↓a_retN, ↓a_drop, ↓a_asg, ↓a_name, ↓a_gnil, ↓a_gcons, ↓a_gtup2, ↓a_gtup3, ↓a_var0, ↓a_varS, ↓a_c, ↓a_op, ↓a_un, ↓a_nil, ↓a_cons, ↓a_cb, ↓a_tup, ↓a_lst, ↓a_lstM, ↓a_ife, ↓a_test, ↓a_and, ↓a_or, ↓a_not, ↓a_andV, ↓a_orV, ↓a_notV, ↓a_bl, ↓a_if1, ↓a_if0, ↓a_int, ↓a_int0, ↓a_addI, ↓a_addT, ↓a_addL, ↓a_addS, ↓a_mulI, ↓a_neg, ↓a_eqI, ↓a_isN, ↓a_ixT0, ↓a_ixL0, ↓a_ixT1, ↓a_ixL1, ↓a_ixT2, ↓a_ixL2, ↓a_nopart, ↓a_part, ↓a_intE, ↓a_sl, ↓a_slT, ↓a_slL, ↓a_lenT, ↓a_lenL, ↓a_lenM, ↓a_call, ↓a_for, ↓a_rg1, ↓a_rg1E, ↓a_seqI, ↓a_seqT, ↓a_seqL, ↓a_seqV, ↓a_comp, ↓a_compM, ↓a_emp, ↓a_tupL, ↓a_tupT, ↓a_lstL, ↓a_lstT, ↓a_yes, ↓a_ixV, ↓a_addV, ↓a_slV1, ↓a_slV2, ↓a_lenV, ↓a_ixN0, ↓a_ixN1, ↓a_ixN2, ↓a_ixP0, ↓a_ixP1, ↓a_ixK, ↓a_gP, ↓a_gN, ↓a_gl2, ↓a_gl3, ↓a_subI, ↓a_app, ↓a_refE, ↓a_ixTn0, ↓a_ixTn1, ↓a_ixTn2, ↓a_lstMN, ↓a_att, ↓a_zipB, ↓a_ltT, ↓a_abs, ↓a_lstRg, ↓a_tupRg, ↓a_r1, ↓a_r2, ↓a_r2E, ↓a_int1I, ↓a_int1B, ↓a_rg2, ↓a_i2E, ↓a_l2E, ↓a_l3E, ↓a_chain, ↓a_wipe0, ↓a_wipe1, ↓a_raise, ↓a_err, ↓a_errE, ↓a_par, ↓a_par3, ↓a_rem, ↓a_try, ↓a_callS, ↓a_slV3, ↓a_slV4, ↓a_lstV, ↓a_lstMV, ↓a_zip, ↓a_zipLL, ↓a_zipVV, ↓a_tab2, ↓a_make, ↓a_meth, ↓a_binI, ↓a_binJ, ↓a_binK, ↓a_negI, ↓a_sfld, ↓a_aug, ↓a_ipI, ↓a_ipII, ↓a_ipIJ, a_addT, a_ixT0, a_ixT1, a_ixT2, a_slT, a_lenT, a_seqT, a_seqV, a_lstT, a_ixV, a_addV, a_slV1, a_slV2, a_lenV, a_ixN0, a_ixN1, a_ixN2, a_ixP0, a_ixP1, a_ixK, a_gP, a_gN, a_mm, a_ixTn0, a_ixTn1, a_ixTn2, a_ltT, a_slV3, a_slV4, a_lstV, f_loop, f_nest, f_vec1, f_cut1, f_cut2, f_cut3, f_cut4, f_map1, f_map2, f_cnt, f_stp, p_addVT, p_addTV, ↓startD, ↓List.map_cons, ↓List.map_nil, List.length_cons, List.length_nil, Nat.reduceAdd, Nat.reduceSub, Nat.reduceLeDiff, Int.reducePow, Int.reduceNeg, Int.reduceLE, Int.reduceLT, List.replicate, ↓List.cons_append, ↓List.nil_append, List.set_cons_zero, List.set_cons_succ, true_and, and_true, ↓reduceIte, Bool.not_true, Bool.not_false, decide_true, decide_false, Bool.false_eq_true, if_false]
  refine fun a ha => comp_mapG ha (fun _ => True.intro) (fun x => x) ?_ (by rw [List.length_map]; have := hp.len; show 0 + _ ≤ _; omega) ?_
  · intro x hx μ' L' hL
    obtain ⟨N, hN, rfl⟩ := List.mem_map.1 hx
    rw [nd_eq]
    try simp only [↓a_seq, ↓a_next, ↓a_brk, ↓a_cont, ↓a_ifS, ↓a_ret, ↓a_retN, ↓a_drop, ↓a_asg, ↓a_name, ↓a_gnil, ↓a_gcons, ↓a_gtup2, ↓a_gtup3, ↓a_var0, ↓a_varS, ↓a_c, ↓a_op, ↓a_un, ↓a_nil, ↓a_cons, ↓a_cb, ↓a_tup, ↓a_lst, ↓a_lstM, ↓a_ife, ↓a_test, ↓a_and, ↓a_or, ↓a_not, ↓a_andV, ↓a_orV, ↓a_notV, ↓a_bl, ↓a_if1, ↓a_if0, ↓a_int, ↓a_int0, ↓a_addI, ↓a_addT, ↓a_addL, ↓a_addS, ↓a_mulI, ↓a_neg, ↓a_eqI, ↓a_isN, ↓a_ixT0, ↓a_ixL0, ↓a_ixT1, ↓a_ixL1, ↓a_ixT2, ↓a_ixL2, ↓a_nopart, ↓a_part, ↓a_intE, ↓a_sl, ↓a_slT, ↓a_slL, ↓a_lenT, ↓a_lenL, ↓a_lenM, ↓a_call, ↓a_for, ↓a_rg1, ↓a_rg1E, ↓a_seqI, ↓a_seqT, ↓a_seqL, ↓a_seqV, ↓a_comp, ↓a_compM, ↓a_emp, ↓a_tupL, ↓a_tupT, ↓a_lstL, ↓a_lstT, ↓a_yes, ↓a_ixV, ↓a_addV, ↓a_slV1, ↓a_slV2, ↓a_lenV, ↓a_ixN0, ↓a_ixN1, ↓a_ixN2, ↓a_ixP0, ↓a_ixP1, ↓a_ixK, ↓a_gP, ↓a_gN, ↓a_gl2, ↓a_gl3, ↓a_subI, ↓a_app, ↓a_refE, ↓a_ixTn0, ↓a_ixTn1, ↓a_ixTn2, ↓a_lstMN, ↓a_att, ↓a_zipB, ↓a_ltT, ↓a_abs, ↓a_lstRg, ↓a_tupRg, ↓a_r1, ↓a_r2, ↓a_r2E, ↓a_int1I, ↓a_int1B, ↓a_rg2, ↓a_i2E, ↓a_l2E, ↓a_l3E, ↓a_chain, ↓a_wipe0, ↓a_wipe1, ↓a_raise, ↓a_err, ↓a_errE, ↓a_par, ↓a_par3, ↓a_rem, ↓a_try, ↓a_callS, ↓a_slV3, ↓a_slV4, ↓a_lstV, ↓a_lstMV, ↓a_zip, ↓a_zipLL, ↓a_zipVV, ↓a_tab2, ↓a_make, ↓a_meth, ↓a_binI, ↓a_binJ, ↓a_binK, ↓a_negI, ↓a_sfld, ↓a_aug, ↓a_ipI, ↓a_ipII, ↓a_ipIJ, a_addT, a_ixT0, a_ixT1, a_ixT2, a_slT, a_lenT, a_seqT, a_seqV, a_lstT, a_ixV, a_addV, a_slV1, a_slV2, a_lenV, a_ixN0, a_ixN1, a_ixN2, a_ixP0, a_ixP1, a_ixK, a_gP, a_gN, a_mm, a_ixTn0, a_ixTn1, a_ixTn2, a_ltT, a_slV3, a_slV4, a_lstV, f_loop, f_nest, f_vec1, f_cut1, f_cut2, f_cut3, f_cut4, f_map1, f_map2, f_cnt, f_stp, p_addVT, p_addTV, ↓startD, ↓List.map_cons, ↓List.map_nil, List.length_cons, List.length_nil, Nat.reduceAdd, Nat.reduceSub, Nat.reduceLeDiff, Int.reducePow, Int.reduceNeg, Int.reduceLE, Int.reduceLT, List.replicate, ↓List.cons_append, ↓List.nil_append, List.set_cons_zero, List.set_cons_succ, true_and, and_true, ↓reduceIte, Bool.not_true, Bool.not_false, decide_true, decide_false, Bool.false_eq_true, if_false]
    exact hL
  · rw [List.nil_append, map_id_d]; exact q
theorem ok_Pm_nests (T : Tx K mg) : FnOk P w K mg base CX0 1 T.f_Pm_nests T.fd_Pm_nests P_Pm_nests (spD (spNests K mg T)) :=
  fn0D T.F_Pm_nests sc_Pm_nests (fun _ _ _ _ ⟨_, _, e, _⟩ => by rw [e]; rfl) fun cdv A outer s H E hr => let ⟨t, h1, h2⟩ := (red_Pm_nests P w base T).2 cdv A outer s H E hr; ⟨t, h1, fun AM Y => ⟨_, h2 AM Y, body_Pm_nests T Y⟩⟩
end
end K11
namespace K11
open PySem PySem.Spec PyProof.Rows L2 DL
section
variable {P : Program} {w : World} {K : PySem.W.Frag} {mg : Str → Option Value} {base : Heap}
noncomputable def red_Pm_init (P : Program) (w : World) (base : Heap) (T : Tx K mg) : { ds : KX → DS // ∀ (cdv : Value) (A : Around) (outer : List Env) (s : Shared) (H : Hp) (E : XK), Room 4 (A.deeper (envOfC "Program.__init__" (defScope s_Pm_init) s.heap.objs.size T.f_Pm_init cdv)) →
    ∃ t, PSs (cxOf CX0 P w K mg base N_Pm_init "Program.__init__" (defScope s_Pm_init) T.f_Pm_init cdv A outer s H E).nox (defBody s_Pm_init) t ∧ ∀ (AM : Amb) (Y : KX), LiftS t (ds Y) } :=
  ⟨_, fun cdv A outer s H E hr => by
    have hu := hr.units
    haveI : Amb := amb0
    have sc := sc_Pm_init
    exact ⟨_, (pss_cons (ps_if (pt_not (pt_val ((pe_call (ok_is_axes T) (hr.mono (by decide)) rfl T.g_is_axes T.F_is_axes.kp T.b_is_axes .nil pass0 (pa_cons (pv 1) pa_nil))))) (pss_one ps_dead) pss_nil) (pss_cons (ps_if (pt_not (pt_val ((pe_callB call_isP rfl T.n_isinstance (by decide +kernel) (pa_cons (pv 2) (pa_cons ((pe_bltn (v := .ty "list") rfl T.n_list (by decide +kernel) rfl)) pa_nil)))))) (pss_one ps_dead) pss_nil) (pss_cons (ps_for PassesOwn.never rfl (pi_seq (pv 2)) (pg_name (i := 3) sc.nd rfl (by first | exact Or.inl rfl | exact Or.inr rfl)) (pss_one (ps_if (pt_not (pt_val ((pe_call (ok_is_nest T) (hr.mono (by decide)) rfl T.g_is_nest T.F_is_nest.kp T.b_is_nest .nil passL (pa_cons (pv 3) (pa_cons (pv 1) pa_nil)))))) (pss_one ps_dead) pss_nil))) (pss_cons (ps_fld (pv 0) (pv 1) rfl) (pss_one (ps_fld (pv 0) ((pe_lc (own := [("loops", 4), ("place", 5), ("amount", 6)]) (g := (gTup K 3 (gCons (gName 4) (gCons (gName 5) (gCons (gName 6) gNil))))) rfl sc.nd (pi_seq (pv 2)) (blkOk_by (own := [("loops", 4), ("place", 5), ("amount", 6)]) (N := N_Pm_init) (sc := defScope s_Pm_init) (by decide +kernel)) (fun _ _ _ _ _ => (pg_tup (n := 3) rfl (pgs_cons (pg_name (i := 4) sc.nd rfl (by first | exact Or.inl rfl | exact Or.inr rfl)) (pgs_cons (pg_name (i := 5) sc.nd rfl (by first | exact Or.inl rfl | exact Or.inr rfl)) (pgs_cons (pg_name (i := 6) sc.nd rfl (by first | exact Or.inl rfl | exact Or.inr rfl)) pgs_nil))))) (fun _ _ _ _ _ => pts_nil) (fun _ _ _ _ _ => (pe_tup (pa_cons ((pe_callTy call_lstD rfl T.n_list (by decide +kernel) (pa_cons (pv 4) pa_nil))) (pa_cons (pv 5) (pa_cons (pv 6) pa_nil))))))) rfl)))))), fun AM Y => (ls_seq (ls_if (l_not (l_tB ((l_call XOk.never (l_cons (l_var) l_nil))))) ls_dead ls_next) (ls_seq (ls_if (l_not (l_tB ((l_cb lc_isP (l_cons (l_var) (l_cons (l_val) l_nil)))))) ls_dead ls_next) (ls_seq (ls_for (li_seq (l_var)) lg_name (ls_if (l_not (l_tB ((l_call XOk.never (l_cons (l_var) (l_cons (l_var) l_nil)))))) ls_dead ls_next)) (ls_seq (ls_sfld (l_var) (l_var)) (ls_sfld (l_var) ((l_comp (li_seq (l_var)) (lgw_tup (lgsw_cons (lgw_name (by decide)) (lgsw_cons (lgw_name (by decide)) (lgsw_cons (lgw_name (by decide)) lgsw_nil)))) l_yes ((l_tup (l_cons ((l_cb lc_list' (l_cons (l_var) l_nil))) (l_cons (l_var) (l_cons (l_var) l_nil))))))))))))⟩⟩
end
end K11
namespace K11
open PySem PySem.Spec PyProof.Rows L2 DL
section
variable {P : Program} {w : World} {K : PySem.W.Frag} {mg : Str → Option Value} {base : Heap}
theorem body_Pm_init (T : Tx K mg) (Y : KX) : ∀ xs μ Kk, (spInit K mg T) xs μ Kk Y → (red_Pm_init P w base T).1 Y { nx := fun _ μ' => Kk .non μ', rt := Kk } (startD N_Pm_init xs) μ := by
  intro xs μ Kk h
  haveI : Amb := amb0
  obtain ⟨a, n, ns, rfl, ha, hp, q⟩ := h
  have h1 := hp.n1
  have h3 := hp.n3
  try simp only [↓a_seq, ↓a_next, ↓a_brk, ↓a_cont, ↓a_ifS, ↓a_ret, ↓a_retN, ↓a_drop, ↓a_asg, ↓a_name, ↓a_gnil, ↓a_gcons, ↓a_gtup2, ↓a_gtup3, ↓a_var0, ↓a_varS, ↓a_c, ↓a_op, ↓a_un, ↓a_nil, ↓a_cons, ↓a_cb, ↓a_tup, ↓a_lst, ↓a_lstM, ↓a_ife, ↓a_test, ↓a_and, ↓a_or, ↓a_not, ↓a_andV, ↓a_orV, ↓a_notV, ↓a_bl, ↓a_if1, ↓a_if0, ↓a_int, ↓a_int0, ↓a_addI, ↓a_addT, ↓a_addL, ↓a_addS, ↓a_mulI, ↓a_neg, ↓a_eqI, ↓a_isN, ↓a_ixT0, ↓a_ixL0, ↓a_ixT1, ↓a_ixL1, ↓a_ixT2, ↓a_ixL2, ↓a_nopart, ↓a_part, ↓a_intE, ↓a_sl, ↓a_slT, ↓a_slL, ↓a_lenT, ↓a_lenL, ↓a_lenM, ↓a_call, ↓a_for, ↓a_rg1, ↓a_rg1E, ↓a_seqI, ↓a_seqT, ↓a_seqL, ↓a_seqV, ↓a_comp, ↓a_compM, ↓a_emp, ↓a_tupL, ↓a_tupT, ↓a_lstL, ↓a_lstT, ↓a_yes, ↓a_ixV, ↓a_addV, ↓a_slV1, ↓a_slV2, ↓a_lenV, ↓a_ixN0, ↓a_ixN1, ↓a_ixN2, ↓a_ixP0, ↓a_ixP1, ↓a_ixK, ↓a_gP, ↓a_gN, ↓a_gl2, ↓a_gl3, ↓a_subI, ↓a_app, ↓a_refE, ↓a_ixTn0, ↓a_ixTn1, ↓a_ixTn2, ↓a_lstMN, ↓a_att, ↓a_zipB, ↓a_ltT, ↓a_abs, ↓a_lstRg, ↓a_tupRg, ↓a_r1, ↓a_r2, ↓a_r2E, ↓a_int1I, ↓a_int1B, ↓a_rg2, ↓a_i2E, ↓a_l2E, ↓a_l3E, ↓a_chain, ↓a_wipe0, ↓a_wipe1, ↓a_raise, ↓a_err, ↓a_errE, ↓a_par, ↓a_par3, ↓a_rem, ↓a_try, ↓a_callS, ↓a_slV3, ↓a_slV4, ↓a_lstV, ↓a_lstMV, ↓a_zip, ↓a_zipLL, ↓a_zipVV, ↓a_tab2, ↓a_make, ↓a_meth, ↓a_binI, ↓a_binJ, ↓a_binK, ↓a_negI, ↓a_sfld, ↓a_aug, ↓a_ipI, ↓a_ipII, ↓a_ipIJ, a_addT, a_ixT0, a_ixT1, a_ixT2, a_slT, a_lenT, a_seqT, a_seqV, a_lstT, a_ixV, a_addV, a_slV1, a_slV2, a_lenV, a_ixN0, a_ixN1, a_ixN2, a_ixP0, a_ixP1, a_ixK, a_gP, a_gN, a_mm, a_ixTn0, a_ixTn1, a_ixTn2, a_ltT, a_slV3, a_slV4, a_lstV, f_loop, f_nest, f_vec1, f_cut1, f_cut2, f_cut3, f_cut4, f_map1, f_map2, f_cnt, f_stp, p_addVT, p_addTV, ↓startD, ↓List.map_cons, ↓List.map_nil, List.length_cons, List.length_nil, Nat.reduceAdd, Nat.reduceSub, Nat.reduceLeDiff, Int.reducePow, Int.reduceNeg, Int.reduceLE, Int.reduceLT, List.replicate, ↓List.cons_append, ↓List.nil_append, List.set_cons_zero, List.set_cons_succ, true_and, and_true, ↓reduceIte, Bool.not_true, Bool.not_false, decide_true, decide_false, Bool.false_eq_true, if_false, red_Pm_init]
  have hx : isAxes (.int (n : Int)) = true := by simp [isAxes]; omega
  refine ⟨_, rfl, (int_pl (by omega) (by omega)).pv, _, rfl, ?_⟩
  rw [hx]
  try simp only [↓a_seq, ↓a_next, ↓a_brk, ↓a_cont, ↓a_ifS, ↓a_ret, ↓a_retN, ↓a_drop, ↓a_asg, ↓a_name, ↓a_gnil, ↓a_gcons, ↓a_gtup2, ↓a_gtup3, ↓a_var0, ↓a_varS, ↓a_c, ↓a_op, ↓a_un, ↓a_nil, ↓a_cons, ↓a_cb, ↓a_tup, ↓a_lst, ↓a_lstM, ↓a_ife, ↓a_test, ↓a_and, ↓a_or, ↓a_not, ↓a_andV, ↓a_orV, ↓a_notV, ↓a_bl, ↓a_if1, ↓a_if0, ↓a_int, ↓a_int0, ↓a_addI, ↓a_addT, ↓a_addL, ↓a_addS, ↓a_mulI, ↓a_neg, ↓a_eqI, ↓a_isN, ↓a_ixT0, ↓a_ixL0, ↓a_ixT1, ↓a_ixL1, ↓a_ixT2, ↓a_ixL2, ↓a_nopart, ↓a_part, ↓a_intE, ↓a_sl, ↓a_slT, ↓a_slL, ↓a_lenT, ↓a_lenL, ↓a_lenM, ↓a_call, ↓a_for, ↓a_rg1, ↓a_rg1E, ↓a_seqI, ↓a_seqT, ↓a_seqL, ↓a_seqV, ↓a_comp, ↓a_compM, ↓a_emp, ↓a_tupL, ↓a_tupT, ↓a_lstL, ↓a_lstT, ↓a_yes, ↓a_ixV, ↓a_addV, ↓a_slV1, ↓a_slV2, ↓a_lenV, ↓a_ixN0, ↓a_ixN1, ↓a_ixN2, ↓a_ixP0, ↓a_ixP1, ↓a_ixK, ↓a_gP, ↓a_gN, ↓a_gl2, ↓a_gl3, ↓a_subI, ↓a_app, ↓a_refE, ↓a_ixTn0, ↓a_ixTn1, ↓a_ixTn2, ↓a_lstMN, ↓a_att, ↓a_zipB, ↓a_ltT, ↓a_abs, ↓a_lstRg, ↓a_tupRg, ↓a_r1, ↓a_r2, ↓a_r2E, ↓a_int1I, ↓a_int1B, ↓a_rg2, ↓a_i2E, ↓a_l2E, ↓a_l3E, ↓a_chain, ↓a_wipe0, ↓a_wipe1, ↓a_raise, ↓a_err, ↓a_errE, ↓a_par, ↓a_par3, ↓a_rem, ↓a_try, ↓a_callS, ↓a_slV3, ↓a_slV4, ↓a_lstV, ↓a_lstMV, ↓a_zip, ↓a_zipLL, ↓a_zipVV, ↓a_tab2, ↓a_make, ↓a_meth, ↓a_binI, ↓a_binJ, ↓a_binK, ↓a_negI, ↓a_sfld, ↓a_aug, ↓a_ipI, ↓a_ipII, ↓a_ipIJ, a_addT, a_ixT0, a_ixT1, a_ixT2, a_slT, a_lenT, a_seqT, a_seqV, a_lstT, a_ixV, a_addV, a_slV1, a_slV2, a_lenV, a_ixN0, a_ixN1, a_ixN2, a_ixP0, a_ixP1, a_ixK, a_gP, a_gN, a_mm, a_ixTn0, a_ixTn1, a_ixTn2, a_ltT, a_slV3, a_slV4, a_lstV, f_loop, f_nest, f_vec1, f_cut1, f_cut2, f_cut3, f_cut4, f_map1, f_map2, f_cnt, f_stp, p_addVT, p_addTV, ↓startD, ↓List.map_cons, ↓List.map_nil, List.length_cons, List.length_nil, Nat.reduceAdd, Nat.reduceSub, Nat.reduceLeDiff, Int.reducePow, Int.reduceNeg, Int.reduceLE, Int.reduceLT, List.replicate, ↓List.cons_append, ↓List.nil_append, List.set_cons_zero, List.set_cons_succ, true_and, and_true, ↓reduceIte, Bool.not_true, Bool.not_false, decide_true, decide_false, Bool.false_eq_true, if_false]
  refine .inl ⟨_, _, "list", _, true, rfl, rfl, rfl, rfl, _, rfl, ?_⟩
  try simp only [↓a_seq, ↓a_next, ↓a_brk, ↓a_cont, ↓a_ifS, ↓a_ret, ↓a_retN, ↓a_drop, ↓a_asg, ↓a_name, ↓a_gnil, ↓a_gcons, ↓a_gtup2, ↓a_gtup3, ↓a_var0, ↓a_varS, ↓a_c, ↓a_op, ↓a_un, ↓a_nil, ↓a_cons, ↓a_cb, ↓a_tup, ↓a_lst, ↓a_lstM, ↓a_ife, ↓a_test, ↓a_and, ↓a_or, ↓a_not, ↓a_andV, ↓a_orV, ↓a_notV, ↓a_bl, ↓a_if1, ↓a_if0, ↓a_int, ↓a_int0, ↓a_addI, ↓a_addT, ↓a_addL, ↓a_addS, ↓a_mulI, ↓a_neg, ↓a_eqI, ↓a_isN, ↓a_ixT0, ↓a_ixL0, ↓a_ixT1, ↓a_ixL1, ↓a_ixT2, ↓a_ixL2, ↓a_nopart, ↓a_part, ↓a_intE, ↓a_sl, ↓a_slT, ↓a_slL, ↓a_lenT, ↓a_lenL, ↓a_lenM, ↓a_call, ↓a_for, ↓a_rg1, ↓a_rg1E, ↓a_seqI, ↓a_seqT, ↓a_seqL, ↓a_seqV, ↓a_comp, ↓a_compM, ↓a_emp, ↓a_tupL, ↓a_tupT, ↓a_lstL, ↓a_lstT, ↓a_yes, ↓a_ixV, ↓a_addV, ↓a_slV1, ↓a_slV2, ↓a_lenV, ↓a_ixN0, ↓a_ixN1, ↓a_ixN2, ↓a_ixP0, ↓a_ixP1, ↓a_ixK, ↓a_gP, ↓a_gN, ↓a_gl2, ↓a_gl3, ↓a_subI, ↓a_app, ↓a_refE, ↓a_ixTn0, ↓a_ixTn1, ↓a_ixTn2, ↓a_lstMN, ↓a_att, ↓a_zipB, ↓a_ltT, ↓a_abs, ↓a_lstRg, ↓a_tupRg, ↓a_r1, ↓a_r2, ↓a_r2E, ↓a_int1I, ↓a_int1B, ↓a_rg2, ↓a_i2E, ↓a_l2E, ↓a_l3E, ↓a_chain, ↓a_wipe0, ↓a_wipe1, ↓a_raise, ↓a_err, ↓a_errE, ↓a_par, ↓a_par3, ↓a_rem, ↓a_try, ↓a_callS, ↓a_slV3, ↓a_slV4, ↓a_lstV, ↓a_lstMV, ↓a_zip, ↓a_zipLL, ↓a_zipVV, ↓a_tab2, ↓a_make, ↓a_meth, ↓a_binI, ↓a_binJ, ↓a_binK, ↓a_negI, ↓a_sfld, ↓a_aug, ↓a_ipI, ↓a_ipII, ↓a_ipIJ, a_addT, a_ixT0, a_ixT1, a_ixT2, a_slT, a_lenT, a_seqT, a_seqV, a_lstT, a_ixV, a_addV, a_slV1, a_slV2, a_lenV, a_ixN0, a_ixN1, a_ixN2, a_ixP0, a_ixP1, a_ixK, a_gP, a_gN, a_mm, a_ixTn0, a_ixTn1, a_ixTn2, a_ltT, a_slV3, a_slV4, a_lstV, f_loop, f_nest, f_vec1, f_cut1, f_cut2, f_cut3, f_cut4, f_map1, f_map2, f_cnt, f_stp, p_addVT, p_addTV, ↓startD, ↓List.map_cons, ↓List.map_nil, List.length_cons, List.length_nil, Nat.reduceAdd, Nat.reduceSub, Nat.reduceLeDiff, Int.reducePow, Int.reduceNeg, Int.reduceLE, Int.reduceLT, List.replicate, ↓List.cons_append, ↓List.nil_append, List.set_cons_zero, List.set_cons_succ, true_and, and_true, ↓reduceIte, Bool.not_true, Bool.not_false, decide_true, decide_false, Bool.false_eq_true, if_false]
  refine loop_by (I := fun r ρ μ' => ∃ y3 : Option D, ρ = [some (.val (.ref a)), some (.int (n : Int)), some (.lst (ns.map NestD.d)), y3, none, none, none] ∧ (∀ d ∈ r, ∃ N : NestD, d = N.d ∧ Val N ∧ N.place.length = n) ∧ μ' = μ) (fun _ _ _ _ => True.intro) ?_ ?_ _ _ _ ⟨none, rfl, fun d hd => ?_, rfl⟩
  · rintro x r ρ μ' N0 ⟨y3, rfl, hr, rfl⟩ hN
    obtain ⟨N, rfl, hv, hl⟩ := hr _ List.mem_cons_self
    try simp only [↓a_seq, ↓a_next, ↓a_brk, ↓a_cont, ↓a_ifS, ↓a_ret, ↓a_retN, ↓a_drop, ↓a_asg, ↓a_name, ↓a_gnil, ↓a_gcons, ↓a_gtup2, ↓a_gtup3, ↓a_var0, ↓a_varS, ↓a_c, ↓a_op, ↓a_un, ↓a_nil, ↓a_cons, ↓a_cb, ↓a_tup, ↓a_lst, ↓a_lstM, ↓a_ife, ↓a_test, ↓a_and, ↓a_or, ↓a_not, ↓a_andV, ↓a_orV, ↓a_notV, ↓a_bl, ↓a_if1, ↓a_if0, ↓a_int, ↓a_int0, ↓a_addI, ↓a_addT, ↓a_addL, ↓a_addS, ↓a_mulI, ↓a_neg, ↓a_eqI, ↓a_isN, ↓a_ixT0, ↓a_ixL0, ↓a_ixT1, ↓a_ixL1, ↓a_ixT2, ↓a_ixL2, ↓a_nopart, ↓a_part, ↓a_intE, ↓a_sl, ↓a_slT, ↓a_slL, ↓a_lenT, ↓a_lenL, ↓a_lenM, ↓a_call, ↓a_for, ↓a_rg1, ↓a_rg1E, ↓a_seqI, ↓a_seqT, ↓a_seqL, ↓a_seqV, ↓a_comp, ↓a_compM, ↓a_emp, ↓a_tupL, ↓a_tupT, ↓a_lstL, ↓a_lstT, ↓a_yes, ↓a_ixV, ↓a_addV, ↓a_slV1, ↓a_slV2, ↓a_lenV, ↓a_ixN0, ↓a_ixN1, ↓a_ixN2, ↓a_ixP0, ↓a_ixP1, ↓a_ixK, ↓a_gP, ↓a_gN, ↓a_gl2, ↓a_gl3, ↓a_subI, ↓a_app, ↓a_refE, ↓a_ixTn0, ↓a_ixTn1, ↓a_ixTn2, ↓a_lstMN, ↓a_att, ↓a_zipB, ↓a_ltT, ↓a_abs, ↓a_lstRg, ↓a_tupRg, ↓a_r1, ↓a_r2, ↓a_r2E, ↓a_int1I, ↓a_int1B, ↓a_rg2, ↓a_i2E, ↓a_l2E, ↓a_l3E, ↓a_chain, ↓a_wipe0, ↓a_wipe1, ↓a_raise, ↓a_err, ↓a_errE, ↓a_par, ↓a_par3, ↓a_rem, ↓a_try, ↓a_callS, ↓a_slV3, ↓a_slV4, ↓a_lstV, ↓a_lstMV, ↓a_zip, ↓a_zipLL, ↓a_zipVV, ↓a_tab2, ↓a_make, ↓a_meth, ↓a_binI, ↓a_binJ, ↓a_binK, ↓a_negI, ↓a_sfld, ↓a_aug, ↓a_ipI, ↓a_ipII, ↓a_ipIJ, a_addT, a_ixT0, a_ixT1, a_ixT2, a_slT, a_lenT, a_seqT, a_seqV, a_lstT, a_ixV, a_addV, a_slV1, a_slV2, a_lenV, a_ixN0, a_ixN1, a_ixN2, a_ixP0, a_ixP1, a_ixK, a_gP, a_gN, a_mm, a_ixTn0, a_ixTn1, a_ixTn2, a_ltT, a_slV3, a_slV4, a_lstV, f_loop, f_nest, f_vec1, f_cut1, f_cut2, f_cut3, f_cut4, f_map1, f_map2, f_cnt, f_stp, p_addVT, p_addTV, ↓startD, ↓List.map_cons, ↓List.map_nil, List.length_cons, List.length_nil, Nat.reduceAdd, Nat.reduceSub, Nat.reduceLeDiff, Int.reducePow, Int.reduceNeg, Int.reduceLE, Int.reduceLT, List.replicate, ↓List.cons_append, ↓List.nil_append, List.set_cons_zero, List.set_cons_succ, true_and, and_true, ↓reduceIte, Bool.not_true, Bool.not_false, decide_true, decide_false, Bool.false_eq_true, if_false]
    refine ⟨_, _, rfl, hv.Pl.pv, int_pl (by omega) (by omega), fun m e _ => ?_, fun e => by rw [hx] at e; cases e⟩
    cases e
    have e2 : isNest (n : Int) N.d = true := by rw [← hl]; exact hv.isNest
    rw [e2]
    try simp only [↓a_seq, ↓a_next, ↓a_brk, ↓a_cont, ↓a_ifS, ↓a_ret, ↓a_retN, ↓a_drop, ↓a_asg, ↓a_name, ↓a_gnil, ↓a_gcons, ↓a_gtup2, ↓a_gtup3, ↓a_var0, ↓a_varS, ↓a_c, ↓a_op, ↓a_un, ↓a_nil, ↓a_cons, ↓a_cb, ↓a_tup, ↓a_lst, ↓a_lstM, ↓a_ife, ↓a_test, ↓a_and, ↓a_or, ↓a_not, ↓a_andV, ↓a_orV, ↓a_notV, ↓a_bl, ↓a_if1, ↓a_if0, ↓a_int, ↓a_int0, ↓a_addI, ↓a_addT, ↓a_addL, ↓a_addS, ↓a_mulI, ↓a_neg, ↓a_eqI, ↓a_isN, ↓a_ixT0, ↓a_ixL0, ↓a_ixT1, ↓a_ixL1, ↓a_ixT2, ↓a_ixL2, ↓a_nopart, ↓a_part, ↓a_intE, ↓a_sl, ↓a_slT, ↓a_slL, ↓a_lenT, ↓a_lenL, ↓a_lenM, ↓a_call, ↓a_for, ↓a_rg1, ↓a_rg1E, ↓a_seqI, ↓a_seqT, ↓a_seqL, ↓a_seqV, ↓a_comp, ↓a_compM, ↓a_emp, ↓a_tupL, ↓a_tupT, ↓a_lstL, ↓a_lstT, ↓a_yes, ↓a_ixV, ↓a_addV, ↓a_slV1, ↓a_slV2, ↓a_lenV, ↓a_ixN0, ↓a_ixN1, ↓a_ixN2, ↓a_ixP0, ↓a_ixP1, ↓a_ixK, ↓a_gP, ↓a_gN, ↓a_gl2, ↓a_gl3, ↓a_subI, ↓a_app, ↓a_refE, ↓a_ixTn0, ↓a_ixTn1, ↓a_ixTn2, ↓a_lstMN, ↓a_att, ↓a_zipB, ↓a_ltT, ↓a_abs, ↓a_lstRg, ↓a_tupRg, ↓a_r1, ↓a_r2, ↓a_r2E, ↓a_int1I, ↓a_int1B, ↓a_rg2, ↓a_i2E, ↓a_l2E, ↓a_l3E, ↓a_chain, ↓a_wipe0, ↓a_wipe1, ↓a_raise, ↓a_err, ↓a_errE, ↓a_par, ↓a_par3, ↓a_rem, ↓a_try, ↓a_callS, ↓a_slV3, ↓a_slV4, ↓a_lstV, ↓a_lstMV, ↓a_zip, ↓a_zipLL, ↓a_zipVV, ↓a_tab2, ↓a_make, ↓a_meth, ↓a_binI, ↓a_binJ, ↓a_binK, ↓a_negI, ↓a_sfld, ↓a_aug, ↓a_ipI, ↓a_ipII, ↓a_ipIJ, a_addT, a_ixT0, a_ixT1, a_ixT2, a_slT, a_lenT, a_seqT, a_seqV, a_lstT, a_ixV, a_addV, a_slV1, a_slV2, a_lenV, a_ixN0, a_ixN1, a_ixN2, a_ixP0, a_ixP1, a_ixK, a_gP, a_gN, a_mm, a_ixTn0, a_ixTn1, a_ixTn2, a_ltT, a_slV3, a_slV4, a_lstV, f_loop, f_nest, f_vec1, f_cut1, f_cut2, f_cut3, f_cut4, f_map1, f_map2, f_cnt, f_stp, p_addVT, p_addTV, ↓startD, ↓List.map_cons, ↓List.map_nil, List.length_cons, List.length_nil, Nat.reduceAdd, Nat.reduceSub, Nat.reduceLeDiff, Int.reducePow, Int.reduceNeg, Int.reduceLE, Int.reduceLT, List.replicate, ↓List.cons_append, ↓List.nil_append, List.set_cons_zero, List.set_cons_succ, true_and, and_true, ↓reduceIte, Bool.not_true, Bool.not_false, decide_true, decide_false, Bool.false_eq_true, if_false]
    exact hN _ _ ⟨_, rfl, fun d hd => hr d (List.mem_cons_of_mem _ hd), rfl⟩
  · rintro ρ μ' ⟨y3, rfl, _, rfl⟩
    try simp only [↓a_seq, ↓a_next, ↓a_brk, ↓a_cont, ↓a_ifS, ↓a_ret, ↓a_retN, ↓a_drop, ↓a_asg, ↓a_name, ↓a_gnil, ↓a_gcons, ↓a_gtup2, ↓a_gtup3, ↓a_var0, ↓a_varS, ↓a_c, ↓a_op, ↓a_un, ↓a_nil, ↓a_cons, ↓a_cb, ↓a_tup, ↓a_lst, ↓a_lstM, ↓a_ife, ↓a_test, ↓a_and, ↓a_or, ↓a_not, ↓a_andV, ↓a_orV, ↓a_notV, ↓a_bl, ↓a_if1, ↓a_if0, ↓a_int, ↓a_int0, ↓a_addI, ↓a_addT, ↓a_addL, ↓a_addS, ↓a_mulI, ↓a_neg, ↓a_eqI, ↓a_isN, ↓a_ixT0, ↓a_ixL0, ↓a_ixT1, ↓a_ixL1, ↓a_ixT2, ↓a_ixL2, ↓a_nopart, ↓a_part, ↓a_intE, ↓a_sl, ↓a_slT, ↓a_slL, ↓a_lenT, ↓a_lenL, ↓a_lenM, ↓a_call, ↓a_for, ↓a_rg1, ↓a_rg1E, ↓a_seqI, ↓a_seqT, ↓a_seqL, ↓a_seqV, ↓a_comp, ↓a_compM, ↓a_emp, ↓a_tupL, ↓a_tupT, ↓a_lstL, ↓a_lstT, ↓a_yes, ↓a_ixV, ↓a_addV, ↓a_slV1, ↓a_slV2, ↓a_lenV, ↓a_ixN0, ↓a_ixN1, ↓a_ixN2, ↓a_ixP0, ↓a_ixP1, ↓a_ixK, ↓a_gP, ↓a_gN, ↓a_gl2, ↓a_gl3, ↓a_subI, ↓a_app, ↓a_refE, ↓a_ixTn0, ↓a_ixTn1, ↓a_ixTn2, ↓a_lstMN, ↓a_att, ↓a_zipB, ↓a_ltT, ↓a_abs, ↓a_lstRg, ↓a_tupRg, ↓a_r1, ↓a_r2, ↓a_r2E, ↓a_int1I, ↓a_int1B, ↓a_rg2, ↓a_i2E, ↓a_l2E, ↓a_l3E, ↓a_chain, ↓a_wipe0, ↓a_wipe1, ↓a_raise, ↓a_err, ↓a_errE, ↓a_par, ↓a_par3, ↓a_rem, ↓a_try, ↓a_callS, ↓a_slV3, ↓a_slV4, ↓a_lstV, ↓a_lstMV, ↓a_zip, ↓a_zipLL, ↓a_zipVV, ↓a_tab2, ↓a_make, ↓a_meth, ↓a_binI, ↓a_binJ, ↓a_binK, ↓a_negI, ↓a_sfld, ↓a_aug, ↓a_ipI, ↓a_ipII, ↓a_ipIJ, a_addT, a_ixT0, a_ixT1, a_ixT2, a_slT, a_lenT, a_seqT, a_seqV, a_lstT, a_ixV, a_addV, a_slV1, a_slV2, a_lenV, a_ixN0, a_ixN1, a_ixN2, a_ixP0, a_ixP1, a_ixK, a_gP, a_gN, a_mm, a_ixTn0, a_ixTn1, a_ixTn2, a_ltT, a_slV3, a_slV4, a_lstV, f_loop, f_nest, f_vec1, f_cut1, f_cut2, f_cut3, f_cut4, f_map1, f_map2, f_cnt, f_stp, p_addVT, p_addTV, ↓startD, ↓List.map_cons, ↓List.map_nil, List.length_cons, List.length_nil, Nat.reduceAdd, Nat.reduceSub, Nat.reduceLeDiff, Int.reducePow, Int.reduceNeg, Int.reduceLE, Int.reduceLT, List.replicate, ↓List.cons_append, ↓List.nil_append, List.set_cons_zero, List.set_cons_succ, true_and, and_true, ↓reduceIte, Bool.not_true, Bool.not_false, decide_true, decide_false, Bool.false_eq_true, if_false]
    refine ⟨a, _, [], rfl, ha, T.ci_Program.cl, T.na_axes, by decide, fun c hc => ?_⟩
    refine comp_mapG hc (fun _ => True.intro) (fun x => x) ?_ (by rw [List.length_map]; have := hp.len; show 0 + _ ≤ _; omega) ?_
    · intro x hx μ'' L' hL
      obtain ⟨N, hN, rfl⟩ := List.mem_map.1 hx
      rw [nd_eq]
      try simp only [↓a_seq, ↓a_next, ↓a_brk, ↓a_cont, ↓a_ifS, ↓a_ret, ↓a_retN, ↓a_drop, ↓a_asg, ↓a_name, ↓a_gnil, ↓a_gcons, ↓a_gtup2, ↓a_gtup3, ↓a_var0, ↓a_varS, ↓a_c, ↓a_op, ↓a_un, ↓a_nil, ↓a_cons, ↓a_cb, ↓a_tup, ↓a_lst, ↓a_lstM, ↓a_ife, ↓a_test, ↓a_and, ↓a_or, ↓a_not, ↓a_andV, ↓a_orV, ↓a_notV, ↓a_bl, ↓a_if1, ↓a_if0, ↓a_int, ↓a_int0, ↓a_addI, ↓a_addT, ↓a_addL, ↓a_addS, ↓a_mulI, ↓a_neg, ↓a_eqI, ↓a_isN, ↓a_ixT0, ↓a_ixL0, ↓a_ixT1, ↓a_ixL1, ↓a_ixT2, ↓a_ixL2, ↓a_nopart, ↓a_part, ↓a_intE, ↓a_sl, ↓a_slT, ↓a_slL, ↓a_lenT, ↓a_lenL, ↓a_lenM, ↓a_call, ↓a_for, ↓a_rg1, ↓a_rg1E, ↓a_seqI, ↓a_seqT, ↓a_seqL, ↓a_seqV, ↓a_comp, ↓a_compM, ↓a_emp, ↓a_tupL, ↓a_tupT, ↓a_lstL, ↓a_lstT, ↓a_yes, ↓a_ixV, ↓a_addV, ↓a_slV1, ↓a_slV2, ↓a_lenV, ↓a_ixN0, ↓a_ixN1, ↓a_ixN2, ↓a_ixP0, ↓a_ixP1, ↓a_ixK, ↓a_gP, ↓a_gN, ↓a_gl2, ↓a_gl3, ↓a_subI, ↓a_app, ↓a_refE, ↓a_ixTn0, ↓a_ixTn1, ↓a_ixTn2, ↓a_lstMN, ↓a_att, ↓a_zipB, ↓a_ltT, ↓a_abs, ↓a_lstRg, ↓a_tupRg, ↓a_r1, ↓a_r2, ↓a_r2E, ↓a_int1I, ↓a_int1B, ↓a_rg2, ↓a_i2E, ↓a_l2E, ↓a_l3E, ↓a_chain, ↓a_wipe0, ↓a_wipe1, ↓a_raise, ↓a_err, ↓a_errE, ↓a_par, ↓a_par3, ↓a_rem, ↓a_try, ↓a_callS, ↓a_slV3, ↓a_slV4, ↓a_lstV, ↓a_lstMV, ↓a_zip, ↓a_zipLL, ↓a_zipVV, ↓a_tab2, ↓a_make, ↓a_meth, ↓a_binI, ↓a_binJ, ↓a_binK, ↓a_negI, ↓a_sfld, ↓a_aug, ↓a_ipI, ↓a_ipII, ↓a_ipIJ, a_addT, a_ixT0, a_ixT1, a_ixT2, a_slT, a_lenT, a_seqT, a_seqV, a_lstT, a_ixV, a_addV, a_slV1, a_slV2, a_lenV, a_ixN0, a_ixN1, a_ixN2, a_ixP0, a_ixP1, a_ixK, a_gP, a_gN, a_mm, a_ixTn0, a_ixTn1, a_ixTn2, a_ltT, a_slV3, a_slV4, a_lstV, f_loop, f_nest, f_vec1, f_cut1, f_cut2, f_cut3, f_cut4, f_map1, f_map2, f_cnt, f_stp, p_addVT, p_addTV, ↓startD, ↓List.map_cons, ↓List.map_nil, List.length_cons, List.length_nil, Nat.reduceAdd, Nat.reduceSub, Nat.reduceLeDiff, Int.reducePow, Int.reduceNeg, Int.reduceLE, Int.reduceLT, List.replicate, ↓List.cons_append, ↓List.nil_append, List.set_cons_zero, List.set_cons_succ, true_and, and_true, ↓reduceIte, Bool.not_true, Bool.not_false, decide_true, decide_false, Bool.false_eq_true, if_false]
      exact hL
    · rw [List.nil_append, map_id_d]
      refine ⟨a, _, _, rfl, mup_same, T.ci_Program.cl, T.na_parts, (by show 1 < 1000; decide), ?_⟩
      rw [mup_mup]
      exact q
  · obtain ⟨N, hN, rfl⟩ := List.mem_map.1 hd
    exact ⟨N, rfl, (hp.v N hN).1, (hp.v N hN).2.1⟩
theorem ok_Pm_init (T : Tx K mg) : FnOk P w K mg base CX0 5 T.f_Pm_init T.fd_Pm_init P_Pm_init (spD (spInit K mg T)) :=
  fn0D T.F_Pm_init sc_Pm_init (fun _ _ _ _ ⟨_, _, _, e, _⟩ => by rw [e]; rfl) fun cdv A outer s H E hr => let ⟨t, h1, h2⟩ := (red_Pm_init P w base T).2 cdv A outer s H E hr; ⟨t, h1, fun AM Y => ⟨_, h2 AM Y, body_Pm_init T Y⟩⟩
end
end K11
namespace K11
open PySem PySem.Spec PyProof.Rows L2 DL
section
variable {P : Program} {w : World} {K : PySem.W.Frag} {mg : Str → Option Value} {base : Heap}
noncomputable def red_check_axes (P : Program) (w : World) (base : Heap) (T : Tx K mg) : { ds : KX → DS // ∀ (cdv : Value) (A : Around) (outer : List Env) (s : Shared) (H : Hp) (E : XK), Room 2 (A.deeper (envOfC "check_axes" (defScope s_check_axes) s.heap.objs.size T.f_check_axes cdv)) →
    ∃ t, PSs (cxOf (L2.CX P w) P w K mg base N_check_axes "check_axes" (defScope s_check_axes) T.f_check_axes cdv A outer s H E) (defBody s_check_axes) t ∧ ∀ (AM : Amb) (Y : KX), XOk E Y → LiftS t (ds Y) } :=
  ⟨_, fun cdv A outer s H E hr => by
    have hu := hr.units
    haveI : Amb := amb0
    have sc := sc_check_axes
    exact ⟨_, (pss_one (ps_if (pt_cmpR (op_neX hu) ((pe_att (pv 0) rfl)) ((pe_att (pv 1) rfl)) (nomark _)) (pss_one (ps_raise rfl (takes_of rfl rfl rfl rfl) (pmk_oex (dvs := []) (ds := []) T.e_UnlikeAxes.oex T.e_UnlikeAxes.iC T.e_UnlikeAxes.tI (ok_init_UnlikeAxes T) (hr.mono (by decide)) T.bi_UnlikeAxes .nil pass0 rfl T.e_UnlikeAxes.gC (pa_cons ((pe_tup (pa_cons ((pe_att (pv 0) rfl)) (pa_cons ((pe_att (pv 1) rfl)) pa_nil)))) pa_nil)))) pss_nil)), fun AM Y hx => (ls_if (l_test (l_op l2_eqX ((l_att (l_var))) ((l_att (l_var))))) (ls_raise hx (lm_err T.e_UnlikeAxes (l_cons ((l_tup (l_cons ((l_att (l_var))) (l_cons ((l_att (l_var))) l_nil)))) l_nil))) ls_next)⟩⟩
end
end K11
namespace K11
open PySem PySem.Spec PyProof.Rows L2 DL
section
variable {P : Program} {w : World} {K : PySem.W.Frag} {mg : Str → Option Value} {base : Heap}
theorem body_check_axes (T : Tx K mg) (Y : KX) : ∀ xs μ Kk, (spAxes K mg T) xs μ Kk Y → (red_check_axes P w base T).1 Y { nx := fun _ μ' => Kk .non μ', rt := Kk } (startD N_check_axes xs) μ := by
  intro xs μ Kk h
  haveI : Amb := amb0
  obtain ⟨n, ns, m, ms, rfl, q1, q2⟩ := h
  try simp only [↓a_seq, ↓a_next, ↓a_brk, ↓a_cont, ↓a_ifS, ↓a_ret, ↓a_retN, ↓a_drop, ↓a_asg, ↓a_name, ↓a_gnil, ↓a_gcons, ↓a_gtup2, ↓a_gtup3, ↓a_var0, ↓a_varS, ↓a_c, ↓a_op, ↓a_un, ↓a_nil, ↓a_cons, ↓a_cb, ↓a_tup, ↓a_lst, ↓a_lstM, ↓a_ife, ↓a_test, ↓a_and, ↓a_or, ↓a_not, ↓a_andV, ↓a_orV, ↓a_notV, ↓a_bl, ↓a_if1, ↓a_if0, ↓a_int, ↓a_int0, ↓a_addI, ↓a_addT, ↓a_addL, ↓a_addS, ↓a_mulI, ↓a_neg, ↓a_eqI, ↓a_isN, ↓a_ixT0, ↓a_ixL0, ↓a_ixT1, ↓a_ixL1, ↓a_ixT2, ↓a_ixL2, ↓a_nopart, ↓a_part, ↓a_intE, ↓a_sl, ↓a_slT, ↓a_slL, ↓a_lenT, ↓a_lenL, ↓a_lenM, ↓a_call, ↓a_for, ↓a_rg1, ↓a_rg1E, ↓a_seqI, ↓a_seqT, ↓a_seqL, ↓a_seqV, ↓a_comp, ↓a_compM, ↓a_emp, ↓a_tupL, ↓a_tupT, ↓a_lstL, ↓a_lstT, ↓a_yes, ↓a_ixV, ↓a_addV, ↓a_slV1, ↓a_slV2, ↓a_lenV, ↓a_ixN0, ↓a_ixN1, ↓a_ixN2, ↓a_ixP0, ↓a_ixP1, ↓a_ixK, ↓a_gP, ↓a_gN, ↓a_gl2, ↓a_gl3, ↓a_subI, ↓a_app, ↓a_refE, ↓a_ixTn0, ↓a_ixTn1, ↓a_ixTn2, ↓a_lstMN, ↓a_att, ↓a_zipB, ↓a_ltT, ↓a_abs, ↓a_lstRg, ↓a_tupRg, ↓a_r1, ↓a_r2, ↓a_r2E, ↓a_int1I, ↓a_int1B, ↓a_rg2, ↓a_i2E, ↓a_l2E, ↓a_l3E, ↓a_chain, ↓a_wipe0, ↓a_wipe1, ↓a_raise, ↓a_err, ↓a_errE, ↓a_par, ↓a_par3, ↓a_rem, ↓a_try, ↓a_callS, ↓a_slV3, ↓a_slV4, ↓a_lstV, ↓a_lstMV, ↓a_zip, ↓a_zipLL, ↓a_zipVV, ↓a_tab2, ↓a_make, ↓a_meth, ↓a_binI, ↓a_binJ, ↓a_binK, ↓a_negI, ↓a_sfld, ↓a_aug, ↓a_ipI, ↓a_ipII, ↓a_ipIJ, a_addT, a_ixT0, a_ixT1, a_ixT2, a_slT, a_lenT, a_seqT, a_seqV, a_lstT, a_ixV, a_addV, a_slV1, a_slV2, a_lenV, a_ixN0, a_ixN1, a_ixN2, a_ixP0, a_ixP1, a_ixK, a_gP, a_gN, a_mm, a_ixTn0, a_ixTn1, a_ixTn2, a_ltT, a_slV3, a_slV4, a_lstV, f_loop, f_nest, f_vec1, f_cut1, f_cut2, f_cut3, f_cut4, f_map1, f_map2, f_cnt, f_stp, p_addVT, p_addTV, ↓startD, ↓List.map_cons, ↓List.map_nil, List.length_cons, List.length_nil, Nat.reduceAdd, Nat.reduceSub, Nat.reduceLeDiff, Int.reducePow, Int.reduceNeg, Int.reduceLE, Int.reduceLT, List.replicate, ↓List.cons_append, ↓List.nil_append, List.set_cons_zero, List.set_cons_succ, true_and, and_true, ↓reduceIte, Bool.not_true, Bool.not_false, decide_true, decide_false, Bool.false_eq_true, if_false, red_check_axes]
  refine at_axes T (at_axes T ?_)
  try simp only [↓a_seq, ↓a_next, ↓a_brk, ↓a_cont, ↓a_ifS, ↓a_ret, ↓a_retN, ↓a_drop, ↓a_asg, ↓a_name, ↓a_gnil, ↓a_gcons, ↓a_gtup2, ↓a_gtup3, ↓a_var0, ↓a_varS, ↓a_c, ↓a_op, ↓a_un, ↓a_nil, ↓a_cons, ↓a_cb, ↓a_tup, ↓a_lst, ↓a_lstM, ↓a_ife, ↓a_test, ↓a_and, ↓a_or, ↓a_not, ↓a_andV, ↓a_orV, ↓a_notV, ↓a_bl, ↓a_if1, ↓a_if0, ↓a_int, ↓a_int0, ↓a_addI, ↓a_addT, ↓a_addL, ↓a_addS, ↓a_mulI, ↓a_neg, ↓a_eqI, ↓a_isN, ↓a_ixT0, ↓a_ixL0, ↓a_ixT1, ↓a_ixL1, ↓a_ixT2, ↓a_ixL2, ↓a_nopart, ↓a_part, ↓a_intE, ↓a_sl, ↓a_slT, ↓a_slL, ↓a_lenT, ↓a_lenL, ↓a_lenM, ↓a_call, ↓a_for, ↓a_rg1, ↓a_rg1E, ↓a_seqI, ↓a_seqT, ↓a_seqL, ↓a_seqV, ↓a_comp, ↓a_compM, ↓a_emp, ↓a_tupL, ↓a_tupT, ↓a_lstL, ↓a_lstT, ↓a_yes, ↓a_ixV, ↓a_addV, ↓a_slV1, ↓a_slV2, ↓a_lenV, ↓a_ixN0, ↓a_ixN1, ↓a_ixN2, ↓a_ixP0, ↓a_ixP1, ↓a_ixK, ↓a_gP, ↓a_gN, ↓a_gl2, ↓a_gl3, ↓a_subI, ↓a_app, ↓a_refE, ↓a_ixTn0, ↓a_ixTn1, ↓a_ixTn2, ↓a_lstMN, ↓a_att, ↓a_zipB, ↓a_ltT, ↓a_abs, ↓a_lstRg, ↓a_tupRg, ↓a_r1, ↓a_r2, ↓a_r2E, ↓a_int1I, ↓a_int1B, ↓a_rg2, ↓a_i2E, ↓a_l2E, ↓a_l3E, ↓a_chain, ↓a_wipe0, ↓a_wipe1, ↓a_raise, ↓a_err, ↓a_errE, ↓a_par, ↓a_par3, ↓a_rem, ↓a_try, ↓a_callS, ↓a_slV3, ↓a_slV4, ↓a_lstV, ↓a_lstMV, ↓a_zip, ↓a_zipLL, ↓a_zipVV, ↓a_tab2, ↓a_make, ↓a_meth, ↓a_binI, ↓a_binJ, ↓a_binK, ↓a_negI, ↓a_sfld, ↓a_aug, ↓a_ipI, ↓a_ipII, ↓a_ipIJ, a_addT, a_ixT0, a_ixT1, a_ixT2, a_slT, a_lenT, a_seqT, a_seqV, a_lstT, a_ixV, a_addV, a_slV1, a_slV2, a_lenV, a_ixN0, a_ixN1, a_ixN2, a_ixP0, a_ixP1, a_ixK, a_gP, a_gN, a_mm, a_ixTn0, a_ixTn1, a_ixTn2, a_ltT, a_slV3, a_slV4, a_lstV, f_loop, f_nest, f_vec1, f_cut1, f_cut2, f_cut3, f_cut4, f_map1, f_map2, f_cnt, f_stp, p_addVT, p_addTV, ↓startD, ↓List.map_cons, ↓List.map_nil, List.length_cons, List.length_nil, Nat.reduceAdd, Nat.reduceSub, Nat.reduceLeDiff, Int.reducePow, Int.reduceNeg, Int.reduceLE, Int.reduceLT, List.replicate, ↓List.cons_append, ↓List.nil_append, List.set_cons_zero, List.set_cons_succ, true_and, and_true, ↓reduceIte, Bool.not_true, Bool.not_false, decide_true, decide_false, Bool.false_eq_true, if_false]
  refine and_if (fun e => at_axes T (at_axes T (q2 fun e2 => ?_))) fun e => q1 ?_
  · subst e2; simp at e
  · have e3 : (n : Int) = (m : Int) := by simpa using e
    omega
theorem ok_check_axes (T : Tx K mg) : FnOk P w K mg base (L2.CX P w) 3 T.f_check_axes T.fd_check_axes P_check_axes (spD (spAxes K mg T)) :=
  fnXD T.F_check_axes sc_check_axes (fun _ _ _ _ ⟨_, _, _, _, e, _⟩ => by rw [e]; rfl) fun cdv A outer s H E hr => let ⟨t, h1, h2⟩ := (red_check_axes P w base T).2 cdv A outer s H E hr; ⟨t, h1, fun AM Y hx => ⟨_, h2 AM Y hx, body_check_axes T Y⟩⟩
end
end K11
namespace K11
open PySem PySem.Spec PyProof.Rows L2 DL
section
variable {P : Program} {w : World} {K : PySem.W.Frag} {mg : Str → Option Value} {base : Heap}
noncomputable def red_with_amounts (P : Program) (w : World) (base : Heap) (T : Tx K mg) : { ds : KX → DS // ∀ (cdv : Value) (A : Around) (outer : List Env) (s : Shared) (H : Hp) (E : XK), Room 6 (A.deeper (envOfC "with_amounts" (defScope s_with_amounts) s.heap.objs.size T.f_with_amounts cdv)) →
    ∃ t, PSs (cxOf CX0 P w K mg base N_with_amounts "with_amounts" (defScope s_with_amounts) T.f_with_amounts cdv A outer s H E).nox (defBody s_with_amounts) t ∧ ∀ (AM : Amb) (Y : KX), LiftS t (ds Y) } :=
  ⟨_, fun cdv A outer s H E hr => by
    have hu := hr.units
    haveI : Amb := amb0
    have sc := sc_with_amounts
    exact ⟨_, (pss_one (ps_ret ((pe_make (dvs := []) (ds := []) T.mk_Program (ok_Pm_init T) (hr.mono (by decide)) rfl T.g_Program T.b_Pm_init .nil pass0 (pa_cons ((pe_att (pv 0) rfl)) (pa_cons ((pe_lc (own := [("loops", 2), ("place", 3), ("amount", 4)]) (g := (gTup K 3 (gCons (gName 2) (gCons (gName 3) (gCons (gName 4) gNil))))) rfl sc.nd (pi_seq ((pe_att (pv 0) rfl))) (blkOk_by (own := [("loops", 2), ("place", 3), ("amount", 4)]) (N := N_with_amounts) (sc := defScope s_with_amounts) (by decide +kernel)) (fun _ _ _ _ _ => (pg_tup (n := 3) rfl (pgs_cons (pg_name (i := 2) sc.nd rfl (by first | exact Or.inl rfl | exact Or.inr rfl)) (pgs_cons (pg_name (i := 3) sc.nd rfl (by first | exact Or.inl rfl | exact Or.inr rfl)) (pgs_cons (pg_name (i := 4) sc.nd rfl (by first | exact Or.inl rfl | exact Or.inr rfl)) pgs_nil))))) (fun _ _ _ _ _ => pts_nil) (fun _ _ _ _ _ => (pe_tup (pa_cons (pv 2) (pa_cons (pv 3) (pa_cons ((pe_op (k_mul (K := K) rfl) (pv 4) (pv 1))) pa_nil))))))) pa_nil)))))), fun AM Y => (ls_ret ((l_make XOk.never (l_cons ((l_att (l_var))) (l_cons ((l_comp (li_seq ((l_att (l_var)))) (lgw_tup (lgsw_cons (lgw_name (by decide)) (lgsw_cons (lgw_name (by decide)) (lgsw_cons (lgw_name (by decide)) lgsw_nil)))) l_yes ((l_tup (l_cons (l_var) (l_cons (l_var) (l_cons ((l_op l2_mul (l_var) (l_var))) l_nil))))))) l_nil)))))⟩⟩
end
end K11
namespace K11
open PySem PySem.Spec PyProof.Rows L2 DL
section
variable {P : Program} {w : World} {K : PySem.W.Frag} {mg : Str → Option Value} {base : Heap}
theorem body_with_amounts (T : Tx K mg) (Y : KX) : ∀ xs μ Kk, (spAmounts K mg T) xs μ Kk Y → (red_with_amounts P w base T).1 Y { nx := fun _ μ' => Kk .non μ', rt := Kk } (startD N_with_amounts xs) μ := by
  intro xs μ Kk h
  haveI : Amb := amb0
  obtain ⟨n, ns, k, rfl, hp, hp2, hk, q⟩ := h
  try simp only [↓a_seq, ↓a_next, ↓a_brk, ↓a_cont, ↓a_ifS, ↓a_ret, ↓a_retN, ↓a_drop, ↓a_asg, ↓a_name, ↓a_gnil, ↓a_gcons, ↓a_gtup2, ↓a_gtup3, ↓a_var0, ↓a_varS, ↓a_c, ↓a_op, ↓a_un, ↓a_nil, ↓a_cons, ↓a_cb, ↓a_tup, ↓a_lst, ↓a_lstM, ↓a_ife, ↓a_test, ↓a_and, ↓a_or, ↓a_not, ↓a_andV, ↓a_orV, ↓a_notV, ↓a_bl, ↓a_if1, ↓a_if0, ↓a_int, ↓a_int0, ↓a_addI, ↓a_addT, ↓a_addL, ↓a_addS, ↓a_mulI, ↓a_neg, ↓a_eqI, ↓a_isN, ↓a_ixT0, ↓a_ixL0, ↓a_ixT1, ↓a_ixL1, ↓a_ixT2, ↓a_ixL2, ↓a_nopart, ↓a_part, ↓a_intE, ↓a_sl, ↓a_slT, ↓a_slL, ↓a_lenT, ↓a_lenL, ↓a_lenM, ↓a_call, ↓a_for, ↓a_rg1, ↓a_rg1E, ↓a_seqI, ↓a_seqT, ↓a_seqL, ↓a_seqV, ↓a_comp, ↓a_compM, ↓a_emp, ↓a_tupL, ↓a_tupT, ↓a_lstL, ↓a_lstT, ↓a_yes, ↓a_ixV, ↓a_addV, ↓a_slV1, ↓a_slV2, ↓a_lenV, ↓a_ixN0, ↓a_ixN1, ↓a_ixN2, ↓a_ixP0, ↓a_ixP1, ↓a_ixK, ↓a_gP, ↓a_gN, ↓a_gl2, ↓a_gl3, ↓a_subI, ↓a_app, ↓a_refE, ↓a_ixTn0, ↓a_ixTn1, ↓a_ixTn2, ↓a_lstMN, ↓a_att, ↓a_zipB, ↓a_ltT, ↓a_abs, ↓a_lstRg, ↓a_tupRg, ↓a_r1, ↓a_r2, ↓a_r2E, ↓a_int1I, ↓a_int1B, ↓a_rg2, ↓a_i2E, ↓a_l2E, ↓a_l3E, ↓a_chain, ↓a_wipe0, ↓a_wipe1, ↓a_raise, ↓a_err, ↓a_errE, ↓a_par, ↓a_par3, ↓a_rem, ↓a_try, ↓a_callS, ↓a_slV3, ↓a_slV4, ↓a_lstV, ↓a_lstMV, ↓a_zip, ↓a_zipLL, ↓a_zipVV, ↓a_tab2, ↓a_make, ↓a_meth, ↓a_binI, ↓a_binJ, ↓a_binK, ↓a_negI, ↓a_sfld, ↓a_aug, ↓a_ipI, ↓a_ipII, ↓a_ipIJ, a_addT, a_ixT0, a_ixT1, a_ixT2, a_slT, a_lenT, a_seqT, a_seqV, a_lstT, a_ixV, a_addV, a_slV1, a_slV2, a_lenV, a_ixN0, a_ixN1, a_ixN2, a_ixP0, a_ixP1, a_ixK, a_gP, a_gN, a_mm, a_ixTn0, a_ixTn1, a_ixTn2, a_ltT, a_slV3, a_slV4, a_lstV, f_loop, f_nest, f_vec1, f_cut1, f_cut2, f_cut3, f_cut4, f_map1, f_map2, f_cnt, f_stp, p_addVT, p_addTV, ↓startD, ↓List.map_cons, ↓List.map_nil, List.length_cons, List.length_nil, Nat.reduceAdd, Nat.reduceSub, Nat.reduceLeDiff, Int.reducePow, Int.reduceNeg, Int.reduceLE, Int.reduceLT, List.replicate, ↓List.cons_append, ↓List.nil_append, List.set_cons_zero, List.set_cons_succ, true_and, and_true, ↓reduceIte, Bool.not_true, Bool.not_false, decide_true, decide_false, Bool.false_eq_true, if_false, red_with_amounts]
  refine at_axes T (at_parts T ?_)
  try simp only [↓a_seq, ↓a_next, ↓a_brk, ↓a_cont, ↓a_ifS, ↓a_ret, ↓a_retN, ↓a_drop, ↓a_asg, ↓a_name, ↓a_gnil, ↓a_gcons, ↓a_gtup2, ↓a_gtup3, ↓a_var0, ↓a_varS, ↓a_c, ↓a_op, ↓a_un, ↓a_nil, ↓a_cons, ↓a_cb, ↓a_tup, ↓a_lst, ↓a_lstM, ↓a_ife, ↓a_test, ↓a_and, ↓a_or, ↓a_not, ↓a_andV, ↓a_orV, ↓a_notV, ↓a_bl, ↓a_if1, ↓a_if0, ↓a_int, ↓a_int0, ↓a_addI, ↓a_addT, ↓a_addL, ↓a_addS, ↓a_mulI, ↓a_neg, ↓a_eqI, ↓a_isN, ↓a_ixT0, ↓a_ixL0, ↓a_ixT1, ↓a_ixL1, ↓a_ixT2, ↓a_ixL2, ↓a_nopart, ↓a_part, ↓a_intE, ↓a_sl, ↓a_slT, ↓a_slL, ↓a_lenT, ↓a_lenL, ↓a_lenM, ↓a_call, ↓a_for, ↓a_rg1, ↓a_rg1E, ↓a_seqI, ↓a_seqT, ↓a_seqL, ↓a_seqV, ↓a_comp, ↓a_compM, ↓a_emp, ↓a_tupL, ↓a_tupT, ↓a_lstL, ↓a_lstT, ↓a_yes, ↓a_ixV, ↓a_addV, ↓a_slV1, ↓a_slV2, ↓a_lenV, ↓a_ixN0, ↓a_ixN1, ↓a_ixN2, ↓a_ixP0, ↓a_ixP1, ↓a_ixK, ↓a_gP, ↓a_gN, ↓a_gl2, ↓a_gl3, ↓a_subI, ↓a_app, ↓a_refE, ↓a_ixTn0, ↓a_ixTn1, ↓a_ixTn2, ↓a_lstMN, ↓a_att, ↓a_zipB, ↓a_ltT, ↓a_abs, ↓a_lstRg, ↓a_tupRg, ↓a_r1, ↓a_r2, ↓a_r2E, ↓a_int1I, ↓a_int1B, ↓a_rg2, ↓a_i2E, ↓a_l2E, ↓a_l3E, ↓a_chain, ↓a_wipe0, ↓a_wipe1, ↓a_raise, ↓a_err, ↓a_errE, ↓a_par, ↓a_par3, ↓a_rem, ↓a_try, ↓a_callS, ↓a_slV3, ↓a_slV4, ↓a_lstV, ↓a_lstMV, ↓a_zip, ↓a_zipLL, ↓a_zipVV, ↓a_tab2, ↓a_make, ↓a_meth, ↓a_binI, ↓a_binJ, ↓a_binK, ↓a_negI, ↓a_sfld, ↓a_aug, ↓a_ipI, ↓a_ipII, ↓a_ipIJ, a_addT, a_ixT0, a_ixT1, a_ixT2, a_slT, a_lenT, a_seqT, a_seqV, a_lstT, a_ixV, a_addV, a_slV1, a_slV2, a_lenV, a_ixN0, a_ixN1, a_ixN2, a_ixP0, a_ixP1, a_ixK, a_gP, a_gN, a_mm, a_ixTn0, a_ixTn1, a_ixTn2, a_ltT, a_slV3, a_slV4, a_lstV, f_loop, f_nest, f_vec1, f_cut1, f_cut2, f_cut3, f_cut4, f_map1, f_map2, f_cnt, f_stp, p_addVT, p_addTV, ↓startD, ↓List.map_cons, ↓List.map_nil, List.length_cons, List.length_nil, Nat.reduceAdd, Nat.reduceSub, Nat.reduceLeDiff, Int.reducePow, Int.reduceNeg, Int.reduceLE, Int.reduceLT, List.replicate, ↓List.cons_append, ↓List.nil_append, List.set_cons_zero, List.set_cons_succ, true_and, and_true, ↓reduceIte, Bool.not_true, Bool.not_false, decide_true, decide_false, Bool.false_eq_true, if_false]
  refine fun a ha => comp_mapG ha (fun _ => True.intro) (timesD k) ?_ (by rw [List.length_map]; have := hp.len; show 0 + _ ≤ _; omega) ?_
  · intro x hx μ' L' hL
    obtain ⟨N, hN, rfl⟩ := List.mem_map.1 hx
    rw [nd_eq]
    try simp only [↓a_seq, ↓a_next, ↓a_brk, ↓a_cont, ↓a_ifS, ↓a_ret, ↓a_retN, ↓a_drop, ↓a_asg, ↓a_name, ↓a_gnil, ↓a_gcons, ↓a_gtup2, ↓a_gtup3, ↓a_var0, ↓a_varS, ↓a_c, ↓a_op, ↓a_un, ↓a_nil, ↓a_cons, ↓a_cb, ↓a_tup, ↓a_lst, ↓a_lstM, ↓a_ife, ↓a_test, ↓a_and, ↓a_or, ↓a_not, ↓a_andV, ↓a_orV, ↓a_notV, ↓a_bl, ↓a_if1, ↓a_if0, ↓a_int, ↓a_int0, ↓a_addI, ↓a_addT, ↓a_addL, ↓a_addS, ↓a_mulI, ↓a_neg, ↓a_eqI, ↓a_isN, ↓a_ixT0, ↓a_ixL0, ↓a_ixT1, ↓a_ixL1, ↓a_ixT2, ↓a_ixL2, ↓a_nopart, ↓a_part, ↓a_intE, ↓a_sl, ↓a_slT, ↓a_slL, ↓a_lenT, ↓a_lenL, ↓a_lenM, ↓a_call, ↓a_for, ↓a_rg1, ↓a_rg1E, ↓a_seqI, ↓a_seqT, ↓a_seqL, ↓a_seqV, ↓a_comp, ↓a_compM, ↓a_emp, ↓a_tupL, ↓a_tupT, ↓a_lstL, ↓a_lstT, ↓a_yes, ↓a_ixV, ↓a_addV, ↓a_slV1, ↓a_slV2, ↓a_lenV, ↓a_ixN0, ↓a_ixN1, ↓a_ixN2, ↓a_ixP0, ↓a_ixP1, ↓a_ixK, ↓a_gP, ↓a_gN, ↓a_gl2, ↓a_gl3, ↓a_subI, ↓a_app, ↓a_refE, ↓a_ixTn0, ↓a_ixTn1, ↓a_ixTn2, ↓a_lstMN, ↓a_att, ↓a_zipB, ↓a_ltT, ↓a_abs, ↓a_lstRg, ↓a_tupRg, ↓a_r1, ↓a_r2, ↓a_r2E, ↓a_int1I, ↓a_int1B, ↓a_rg2, ↓a_i2E, ↓a_l2E, ↓a_l3E, ↓a_chain, ↓a_wipe0, ↓a_wipe1, ↓a_raise, ↓a_err, ↓a_errE, ↓a_par, ↓a_par3, ↓a_rem, ↓a_try, ↓a_callS, ↓a_slV3, ↓a_slV4, ↓a_lstV, ↓a_lstMV, ↓a_zip, ↓a_zipLL, ↓a_zipVV, ↓a_tab2, ↓a_make, ↓a_meth, ↓a_binI, ↓a_binJ, ↓a_binK, ↓a_negI, ↓a_sfld, ↓a_aug, ↓a_ipI, ↓a_ipII, ↓a_ipIJ, a_addT, a_ixT0, a_ixT1, a_ixT2, a_slT, a_lenT, a_seqT, a_seqV, a_lstT, a_ixV, a_addV, a_slV1, a_slV2, a_lenV, a_ixN0, a_ixN1, a_ixN2, a_ixP0, a_ixP1, a_ixK, a_gP, a_gN, a_mm, a_ixTn0, a_ixTn1, a_ixTn2, a_ltT, a_slV3, a_slV4, a_lstV, f_loop, f_nest, f_vec1, f_cut1, f_cut2, f_cut3, f_cut4, f_map1, f_map2, f_cnt, f_stp, p_addVT, p_addTV, ↓startD, ↓List.map_cons, ↓List.map_nil, List.length_cons, List.length_nil, Nat.reduceAdd, Nat.reduceSub, Nat.reduceLeDiff, Int.reducePow, Int.reduceNeg, Int.reduceLE, Int.reduceLT, List.replicate, ↓List.cons_append, ↓List.nil_append, List.set_cons_zero, List.set_cons_succ, true_and, and_true, ↓reduceIte, Bool.not_true, Bool.not_false, decide_true, decide_false, Bool.false_eq_true, if_false]
    exact ⟨mulSm (hp.v N hN).2.2 hk, hL⟩
  · rw [List.nil_append, times_map]
    exact fun a ha => make_ok T ha hp2 q
theorem ok_with_amounts (T : Tx K mg) : FnOk P w K mg base CX0 7 T.f_with_amounts T.fd_with_amounts P_with_amounts (spD (spAmounts K mg T)) :=
  fn0D T.F_with_amounts sc_with_amounts (fun _ _ _ _ ⟨_, _, _, e, _⟩ => by rw [e]; rfl) fun cdv A outer s H E hr => let ⟨t, h1, h2⟩ := (red_with_amounts P w base T).2 cdv A outer s H E hr; ⟨t, h1, fun AM Y => ⟨_, h2 AM Y, body_with_amounts T Y⟩⟩
end
end K11
namespace K11
open PySem PySem.Spec PyProof.Rows L2 DL
section
variable {P : Program} {w : World} {K : PySem.W.Frag} {mg : Str → Option Value} {base : Heap}
noncomputable def red_convolved (P : Program) (w : World) (base : Heap) (T : Tx K mg) : { ds : KX → DS // ∀ (cdv : Value) (A : Around) (outer : List Env) (s : Shared) (H : Hp) (E : XK), Room 6 (A.deeper (envOfC "convolved" (defScope s_convolved) s.heap.objs.size T.f_convolved cdv)) →
    ∃ t, PSs (cxOf (L2.CX P w) P w K mg base N_convolved "convolved" (defScope s_convolved) T.f_convolved cdv A outer s H E) (defBody s_convolved) t ∧ ∀ (AM : Amb) (Y : KX), XOk E Y → LiftS t (ds Y) } :=
  ⟨_, fun cdv A outer s H E hr => by
    have hu := hr.units
    haveI : Amb := amb0
    have sc := sc_convolved
    exact ⟨_, (pss_cons (ps_expr ((pe_call (ok_check_axes T) (hr.mono (by decide)) rfl T.g_check_axes T.F_check_axes.kp T.b_check_axes .nil (passes_call (takes_of rfl rfl rfl rfl) (fun _ _ _ _ h => h)) (pa_cons (pv 0) (pa_cons (pv 1) pa_nil))))) (pss_cons (ps_set (i := 2) sc.nd rfl (by first | exact Or.inl rfl | exact Or.inr rfl) ((pe_lst pa_nil))) (pss_cons (ps_for (passes_of rfl) rfl (pi_seq ((pe_att (pv 0) rfl))) (pg_tup (n := 3) rfl (pgs_cons (pg_name (i := 3) sc.nd rfl (by first | exact Or.inl rfl | exact Or.inr rfl)) (pgs_cons (pg_name (i := 4) sc.nd rfl (by first | exact Or.inl rfl | exact Or.inr rfl)) (pgs_cons (pg_name (i := 5) sc.nd rfl (by first | exact Or.inl rfl | exact Or.inr rfl)) pgs_nil)))) (pss_one (ps_for (passes_of rfl) rfl (pi_seq ((pe_att (pv 1) rfl))) (pg_tup (n := 3) rfl (pgs_cons (pg_name (i := 6) sc.nd rfl (by first | exact Or.inl rfl | exact Or.inr rfl)) (pgs_cons (pg_name (i := 7) sc.nd rfl (by first | exact Or.inl rfl | exact Or.inr rfl)) (pgs_cons (pg_name (i := 8) sc.nd rfl (by first | exact Or.inl rfl | exact Or.inr rfl)) pgs_nil)))) (pss_one (ps_expr ((pe_bm PySem.F.plainAttrs_list PySem.F.slot_list_append PySem.F.type_list_append mt_append (pv 2) (pa_cons ((pe_tup (pa_cons ((pe_op op_addD (pv 3) (pv 6))) (pa_cons ((pe_call (ok_plus T) (hr.mono (by decide)) rfl T.g_plus T.F_plus.kp T.b_plus .nil pass0 (pa_cons (pv 4) (pa_cons (pv 7) pa_nil)))) (pa_cons ((pe_op op_mulD (pv 5) (pv 8))) pa_nil))))) pa_nil)))))))) (pss_one (ps_ret ((pe_make (dvs := []) (ds := []) T.mk_Program (ok_Pm_init T) (hr.mono (by decide)) rfl T.g_Program T.b_Pm_init .nil pass0 (pa_cons ((pe_att (pv 0) rfl)) (pa_cons (pv 2) pa_nil))))))))), fun AM Y hx => (ls_seq (ls_drop ((l_call hx (l_cons (l_var) (l_cons (l_var) l_nil))))) (ls_seq (ls_asg ((l_lstM l_nil)) lg_name) (ls_seq (ls_for (li_seq ((l_att (l_var)))) (lg_tup (lgs_cons lg_name (lgs_cons lg_name (lgs_cons lg_name lgs_nil)))) (ls_for (li_seq ((l_att (l_var)))) (lg_tup (lgs_cons lg_name (lgs_cons lg_name (lgs_cons lg_name lgs_nil)))) (ls_drop ((l_app (l_var) ((l_tup (l_cons ((l_op l2_add (l_var) (l_var))) (l_cons ((l_call XOk.never (l_cons (l_var) (l_cons (l_var) l_nil)))) (l_cons ((l_op l2_mul (l_var) (l_var))) l_nil)))))))))) (ls_ret (l_frz (i := 2) ((l_make XOk.never (l_cons ((l_att (l_var))) (l_cons (l_var) l_nil)))))))))⟩⟩
end
end K11
namespace K11
open PySem PySem.Spec PyProof.Rows L2 DL
section
variable {P : Program} {w : World} {K : PySem.W.Frag} {mg : Str → Option Value} {base : Heap}
theorem body_convolved (T : Tx K mg) (Y : KX) : ∀ xs μ Kk, (spConv K mg T) xs μ Kk Y → (red_convolved P w base T).1 Y { nx := fun _ μ' => Kk .non μ', rt := Kk } (startD N_convolved xs) μ := by
  intro xs μ Kk h
  haveI : Amb := amb0
  obtain ⟨n, ns, m, ms, rfl, hp, hp2, q1, q2⟩ := h
  try simp only [↓a_seq, ↓a_next, ↓a_brk, ↓a_cont, ↓a_ifS, ↓a_ret, ↓a_retN, ↓a_drop, ↓a_asg, ↓a_name, ↓a_gnil, ↓a_gcons, ↓a_gtup2, ↓a_gtup3, ↓a_var0, ↓a_varS, ↓a_c, ↓a_op, ↓a_un, ↓a_nil, ↓a_cons, ↓a_cb, ↓a_tup, ↓a_lst, ↓a_lstM, ↓a_ife, ↓a_test, ↓a_and, ↓a_or, ↓a_not, ↓a_andV, ↓a_orV, ↓a_notV, ↓a_bl, ↓a_if1, ↓a_if0, ↓a_int, ↓a_int0, ↓a_addI, ↓a_addT, ↓a_addL, ↓a_addS, ↓a_mulI, ↓a_neg, ↓a_eqI, ↓a_isN, ↓a_ixT0, ↓a_ixL0, ↓a_ixT1, ↓a_ixL1, ↓a_ixT2, ↓a_ixL2, ↓a_nopart, ↓a_part, ↓a_intE, ↓a_sl, ↓a_slT, ↓a_slL, ↓a_lenT, ↓a_lenL, ↓a_lenM, ↓a_call, ↓a_for, ↓a_rg1, ↓a_rg1E, ↓a_seqI, ↓a_seqT, ↓a_seqL, ↓a_seqV, ↓a_comp, ↓a_compM, ↓a_emp, ↓a_tupL, ↓a_tupT, ↓a_lstL, ↓a_lstT, ↓a_yes, ↓a_ixV, ↓a_addV, ↓a_slV1, ↓a_slV2, ↓a_lenV, ↓a_ixN0, ↓a_ixN1, ↓a_ixN2, ↓a_ixP0, ↓a_ixP1, ↓a_ixK, ↓a_gP, ↓a_gN, ↓a_gl2, ↓a_gl3, ↓a_subI, ↓a_app, ↓a_refE, ↓a_ixTn0, ↓a_ixTn1, ↓a_ixTn2, ↓a_lstMN, ↓a_att, ↓a_zipB, ↓a_ltT, ↓a_abs, ↓a_lstRg, ↓a_tupRg, ↓a_r1, ↓a_r2, ↓a_r2E, ↓a_int1I, ↓a_int1B, ↓a_rg2, ↓a_i2E, ↓a_l2E, ↓a_l3E, ↓a_chain, ↓a_wipe0, ↓a_wipe1, ↓a_raise, ↓a_err, ↓a_errE, ↓a_par, ↓a_par3, ↓a_rem, ↓a_try, ↓a_callS, ↓a_slV3, ↓a_slV4, ↓a_lstV, ↓a_lstMV, ↓a_zip, ↓a_zipLL, ↓a_zipVV, ↓a_tab2, ↓a_make, ↓a_meth, ↓a_binI, ↓a_binJ, ↓a_binK, ↓a_negI, ↓a_sfld, ↓a_aug, ↓a_ipI, ↓a_ipII, ↓a_ipIJ, a_addT, a_ixT0, a_ixT1, a_ixT2, a_slT, a_lenT, a_seqT, a_seqV, a_lstT, a_ixV, a_addV, a_slV1, a_slV2, a_lenV, a_ixN0, a_ixN1, a_ixN2, a_ixP0, a_ixP1, a_ixK, a_gP, a_gN, a_mm, a_ixTn0, a_ixTn1, a_ixTn2, a_ltT, a_slV3, a_slV4, a_lstV, f_loop, f_nest, f_vec1, f_cut1, f_cut2, f_cut3, f_cut4, f_map1, f_map2, f_cnt, f_stp, p_addVT, p_addTV, ↓startD, ↓List.map_cons, ↓List.map_nil, List.length_cons, List.length_nil, Nat.reduceAdd, Nat.reduceSub, Nat.reduceLeDiff, Int.reducePow, Int.reduceNeg, Int.reduceLE, Int.reduceLT, List.replicate, ↓List.cons_append, ↓List.nil_append, List.set_cons_zero, List.set_cons_succ, true_and, and_true, ↓reduceIte, Bool.not_true, Bool.not_false, decide_true, decide_false, Bool.false_eq_true, if_false, red_convolved]
  refine ⟨n, ns, m, ms, rfl, fun e => ?_, q2⟩
  obtain ⟨hq, q⟩ := q1 e
  subst e
  try simp only [↓a_seq, ↓a_next, ↓a_brk, ↓a_cont, ↓a_ifS, ↓a_ret, ↓a_retN, ↓a_drop, ↓a_asg, ↓a_name, ↓a_gnil, ↓a_gcons, ↓a_gtup2, ↓a_gtup3, ↓a_var0, ↓a_varS, ↓a_c, ↓a_op, ↓a_un, ↓a_nil, ↓a_cons, ↓a_cb, ↓a_tup, ↓a_lst, ↓a_lstM, ↓a_ife, ↓a_test, ↓a_and, ↓a_or, ↓a_not, ↓a_andV, ↓a_orV, ↓a_notV, ↓a_bl, ↓a_if1, ↓a_if0, ↓a_int, ↓a_int0, ↓a_addI, ↓a_addT, ↓a_addL, ↓a_addS, ↓a_mulI, ↓a_neg, ↓a_eqI, ↓a_isN, ↓a_ixT0, ↓a_ixL0, ↓a_ixT1, ↓a_ixL1, ↓a_ixT2, ↓a_ixL2, ↓a_nopart, ↓a_part, ↓a_intE, ↓a_sl, ↓a_slT, ↓a_slL, ↓a_lenT, ↓a_lenL, ↓a_lenM, ↓a_call, ↓a_for, ↓a_rg1, ↓a_rg1E, ↓a_seqI, ↓a_seqT, ↓a_seqL, ↓a_seqV, ↓a_comp, ↓a_compM, ↓a_emp, ↓a_tupL, ↓a_tupT, ↓a_lstL, ↓a_lstT, ↓a_yes, ↓a_ixV, ↓a_addV, ↓a_slV1, ↓a_slV2, ↓a_lenV, ↓a_ixN0, ↓a_ixN1, ↓a_ixN2, ↓a_ixP0, ↓a_ixP1, ↓a_ixK, ↓a_gP, ↓a_gN, ↓a_gl2, ↓a_gl3, ↓a_subI, ↓a_app, ↓a_refE, ↓a_ixTn0, ↓a_ixTn1, ↓a_ixTn2, ↓a_lstMN, ↓a_att, ↓a_zipB, ↓a_ltT, ↓a_abs, ↓a_lstRg, ↓a_tupRg, ↓a_r1, ↓a_r2, ↓a_r2E, ↓a_int1I, ↓a_int1B, ↓a_rg2, ↓a_i2E, ↓a_l2E, ↓a_l3E, ↓a_chain, ↓a_wipe0, ↓a_wipe1, ↓a_raise, ↓a_err, ↓a_errE, ↓a_par, ↓a_par3, ↓a_rem, ↓a_try, ↓a_callS, ↓a_slV3, ↓a_slV4, ↓a_lstV, ↓a_lstMV, ↓a_zip, ↓a_zipLL, ↓a_zipVV, ↓a_tab2, ↓a_make, ↓a_meth, ↓a_binI, ↓a_binJ, ↓a_binK, ↓a_negI, ↓a_sfld, ↓a_aug, ↓a_ipI, ↓a_ipII, ↓a_ipIJ, a_addT, a_ixT0, a_ixT1, a_ixT2, a_slT, a_lenT, a_seqT, a_seqV, a_lstT, a_ixV, a_addV, a_slV1, a_slV2, a_lenV, a_ixN0, a_ixN1, a_ixN2, a_ixP0, a_ixP1, a_ixK, a_gP, a_gN, a_mm, a_ixTn0, a_ixTn1, a_ixTn2, a_ltT, a_slV3, a_slV4, a_lstV, f_loop, f_nest, f_vec1, f_cut1, f_cut2, f_cut3, f_cut4, f_map1, f_map2, f_cnt, f_stp, p_addVT, p_addTV, ↓startD, ↓List.map_cons, ↓List.map_nil, List.length_cons, List.length_nil, Nat.reduceAdd, Nat.reduceSub, Nat.reduceLeDiff, Int.reducePow, Int.reduceNeg, Int.reduceLE, Int.reduceLT, List.replicate, ↓List.cons_append, ↓List.nil_append, List.set_cons_zero, List.set_cons_succ, true_and, and_true, ↓reduceIte, Bool.not_true, Bool.not_false, decide_true, decide_false, Bool.false_eq_true, if_false]
  refine fun p hp0 => at_parts T ?_
  try simp only [↓a_seq, ↓a_next, ↓a_brk, ↓a_cont, ↓a_ifS, ↓a_ret, ↓a_retN, ↓a_drop, ↓a_asg, ↓a_name, ↓a_gnil, ↓a_gcons, ↓a_gtup2, ↓a_gtup3, ↓a_var0, ↓a_varS, ↓a_c, ↓a_op, ↓a_un, ↓a_nil, ↓a_cons, ↓a_cb, ↓a_tup, ↓a_lst, ↓a_lstM, ↓a_ife, ↓a_test, ↓a_and, ↓a_or, ↓a_not, ↓a_andV, ↓a_orV, ↓a_notV, ↓a_bl, ↓a_if1, ↓a_if0, ↓a_int, ↓a_int0, ↓a_addI, ↓a_addT, ↓a_addL, ↓a_addS, ↓a_mulI, ↓a_neg, ↓a_eqI, ↓a_isN, ↓a_ixT0, ↓a_ixL0, ↓a_ixT1, ↓a_ixL1, ↓a_ixT2, ↓a_ixL2, ↓a_nopart, ↓a_part, ↓a_intE, ↓a_sl, ↓a_slT, ↓a_slL, ↓a_lenT, ↓a_lenL, ↓a_lenM, ↓a_call, ↓a_for, ↓a_rg1, ↓a_rg1E, ↓a_seqI, ↓a_seqT, ↓a_seqL, ↓a_seqV, ↓a_comp, ↓a_compM, ↓a_emp, ↓a_tupL, ↓a_tupT, ↓a_lstL, ↓a_lstT, ↓a_yes, ↓a_ixV, ↓a_addV, ↓a_slV1, ↓a_slV2, ↓a_lenV, ↓a_ixN0, ↓a_ixN1, ↓a_ixN2, ↓a_ixP0, ↓a_ixP1, ↓a_ixK, ↓a_gP, ↓a_gN, ↓a_gl2, ↓a_gl3, ↓a_subI, ↓a_app, ↓a_refE, ↓a_ixTn0, ↓a_ixTn1, ↓a_ixTn2, ↓a_lstMN, ↓a_att, ↓a_zipB, ↓a_ltT, ↓a_abs, ↓a_lstRg, ↓a_tupRg, ↓a_r1, ↓a_r2, ↓a_r2E, ↓a_int1I, ↓a_int1B, ↓a_rg2, ↓a_i2E, ↓a_l2E, ↓a_l3E, ↓a_chain, ↓a_wipe0, ↓a_wipe1, ↓a_raise, ↓a_err, ↓a_errE, ↓a_par, ↓a_par3, ↓a_rem, ↓a_try, ↓a_callS, ↓a_slV3, ↓a_slV4, ↓a_lstV, ↓a_lstMV, ↓a_zip, ↓a_zipLL, ↓a_zipVV, ↓a_tab2, ↓a_make, ↓a_meth, ↓a_binI, ↓a_binJ, ↓a_binK, ↓a_negI, ↓a_sfld, ↓a_aug, ↓a_ipI, ↓a_ipII, ↓a_ipIJ, a_addT, a_ixT0, a_ixT1, a_ixT2, a_slT, a_lenT, a_seqT, a_seqV, a_lstT, a_ixV, a_addV, a_slV1, a_slV2, a_lenV, a_ixN0, a_ixN1, a_ixN2, a_ixP0, a_ixP1, a_ixK, a_gP, a_gN, a_mm, a_ixTn0, a_ixTn1, a_ixTn2, a_ltT, a_slV3, a_slV4, a_lstV, f_loop, f_nest, f_vec1, f_cut1, f_cut2, f_cut3, f_cut4, f_map1, f_map2, f_cnt, f_stp, p_addVT, p_addTV, ↓startD, ↓List.map_cons, ↓List.map_nil, List.length_cons, List.length_nil, Nat.reduceAdd, Nat.reduceSub, Nat.reduceLeDiff, Int.reducePow, Int.reduceNeg, Int.reduceLE, Int.reduceLT, List.replicate, ↓List.cons_append, ↓List.nil_append, List.set_cons_zero, List.set_cons_succ, true_and, and_true, ↓reduceIte, Bool.not_true, Bool.not_false, decide_true, decide_false, Bool.false_eq_true, if_false]
  refine loop_by (I := fun r ρ μ' => ∃ (dn td : List NestD) (y3 y4 y5 y6 y7 y8 : Option D), r = td.map NestD.d ∧ dn ++ td = ns ∧ ρ = [some (progD T.C_Program n ns), some (progD T.C_Program n ms), some (.val (.ref p)), y3, y4, y5, y6, y7, y8] ∧ μ' = mup μ p (.lst ((prodL dn ms).map NestD.d))) (fun _ _ _ _ => True.intro) ?_ ?_ _ _ _ ⟨[], ns, _, _, _, _, _, _, rfl, rfl, rfl, rfl⟩
  · rintro x r ρ μ' N0 ⟨dn, td, y3, y4, y5, y6, y7, y8, hr, hd, rfl, rfl⟩ hN
    cases td with
    | nil => cases hr
    | cons A td =>
    rw [List.map_cons] at hr
    injection hr with e1 e2
    subst e1 e2
    have hA := hp.v A (by rw [← hd]; simp)
    rw [nd_eq]
    try simp only [↓a_seq, ↓a_next, ↓a_brk, ↓a_cont, ↓a_ifS, ↓a_ret, ↓a_retN, ↓a_drop, ↓a_asg, ↓a_name, ↓a_gnil, ↓a_gcons, ↓a_gtup2, ↓a_gtup3, ↓a_var0, ↓a_varS, ↓a_c, ↓a_op, ↓a_un, ↓a_nil, ↓a_cons, ↓a_cb, ↓a_tup, ↓a_lst, ↓a_lstM, ↓a_ife, ↓a_test, ↓a_and, ↓a_or, ↓a_not, ↓a_andV, ↓a_orV, ↓a_notV, ↓a_bl, ↓a_if1, ↓a_if0, ↓a_int, ↓a_int0, ↓a_addI, ↓a_addT, ↓a_addL, ↓a_addS, ↓a_mulI, ↓a_neg, ↓a_eqI, ↓a_isN, ↓a_ixT0, ↓a_ixL0, ↓a_ixT1, ↓a_ixL1, ↓a_ixT2, ↓a_ixL2, ↓a_nopart, ↓a_part, ↓a_intE, ↓a_sl, ↓a_slT, ↓a_slL, ↓a_lenT, ↓a_lenL, ↓a_lenM, ↓a_call, ↓a_for, ↓a_rg1, ↓a_rg1E, ↓a_seqI, ↓a_seqT, ↓a_seqL, ↓a_seqV, ↓a_comp, ↓a_compM, ↓a_emp, ↓a_tupL, ↓a_tupT, ↓a_lstL, ↓a_lstT, ↓a_yes, ↓a_ixV, ↓a_addV, ↓a_slV1, ↓a_slV2, ↓a_lenV, ↓a_ixN0, ↓a_ixN1, ↓a_ixN2, ↓a_ixP0, ↓a_ixP1, ↓a_ixK, ↓a_gP, ↓a_gN, ↓a_gl2, ↓a_gl3, ↓a_subI, ↓a_app, ↓a_refE, ↓a_ixTn0, ↓a_ixTn1, ↓a_ixTn2, ↓a_lstMN, ↓a_att, ↓a_zipB, ↓a_ltT, ↓a_abs, ↓a_lstRg, ↓a_tupRg, ↓a_r1, ↓a_r2, ↓a_r2E, ↓a_int1I, ↓a_int1B, ↓a_rg2, ↓a_i2E, ↓a_l2E, ↓a_l3E, ↓a_chain, ↓a_wipe0, ↓a_wipe1, ↓a_raise, ↓a_err, ↓a_errE, ↓a_par, ↓a_par3, ↓a_rem, ↓a_try, ↓a_callS, ↓a_slV3, ↓a_slV4, ↓a_lstV, ↓a_lstMV, ↓a_zip, ↓a_zipLL, ↓a_zipVV, ↓a_tab2, ↓a_make, ↓a_meth, ↓a_binI, ↓a_binJ, ↓a_binK, ↓a_negI, ↓a_sfld, ↓a_aug, ↓a_ipI, ↓a_ipII, ↓a_ipIJ, a_addT, a_ixT0, a_ixT1, a_ixT2, a_slT, a_lenT, a_seqT, a_seqV, a_lstT, a_ixV, a_addV, a_slV1, a_slV2, a_lenV, a_ixN0, a_ixN1, a_ixN2, a_ixP0, a_ixP1, a_ixK, a_gP, a_gN, a_mm, a_ixTn0, a_ixTn1, a_ixTn2, a_ltT, a_slV3, a_slV4, a_lstV, f_loop, f_nest, f_vec1, f_cut1, f_cut2, f_cut3, f_cut4, f_map1, f_map2, f_cnt, f_stp, p_addVT, p_addTV, ↓startD, ↓List.map_cons, ↓List.map_nil, List.length_cons, List.length_nil, Nat.reduceAdd, Nat.reduceSub, Nat.reduceLeDiff, Int.reducePow, Int.reduceNeg, Int.reduceLE, Int.reduceLT, List.replicate, ↓List.cons_append, ↓List.nil_append, List.set_cons_zero, List.set_cons_succ, true_and, and_true, ↓reduceIte, Bool.not_true, Bool.not_false, decide_true, decide_false, Bool.false_eq_true, if_false]
    refine at_parts T ?_
    try simp only [↓a_seq, ↓a_next, ↓a_brk, ↓a_cont, ↓a_ifS, ↓a_ret, ↓a_retN, ↓a_drop, ↓a_asg, ↓a_name, ↓a_gnil, ↓a_gcons, ↓a_gtup2, ↓a_gtup3, ↓a_var0, ↓a_varS, ↓a_c, ↓a_op, ↓a_un, ↓a_nil, ↓a_cons, ↓a_cb, ↓a_tup, ↓a_lst, ↓a_lstM, ↓a_ife, ↓a_test, ↓a_and, ↓a_or, ↓a_not, ↓a_andV, ↓a_orV, ↓a_notV, ↓a_bl, ↓a_if1, ↓a_if0, ↓a_int, ↓a_int0, ↓a_addI, ↓a_addT, ↓a_addL, ↓a_addS, ↓a_mulI, ↓a_neg, ↓a_eqI, ↓a_isN, ↓a_ixT0, ↓a_ixL0, ↓a_ixT1, ↓a_ixL1, ↓a_ixT2, ↓a_ixL2, ↓a_nopart, ↓a_part, ↓a_intE, ↓a_sl, ↓a_slT, ↓a_slL, ↓a_lenT, ↓a_lenL, ↓a_lenM, ↓a_call, ↓a_for, ↓a_rg1, ↓a_rg1E, ↓a_seqI, ↓a_seqT, ↓a_seqL, ↓a_seqV, ↓a_comp, ↓a_compM, ↓a_emp, ↓a_tupL, ↓a_tupT, ↓a_lstL, ↓a_lstT, ↓a_yes, ↓a_ixV, ↓a_addV, ↓a_slV1, ↓a_slV2, ↓a_lenV, ↓a_ixN0, ↓a_ixN1, ↓a_ixN2, ↓a_ixP0, ↓a_ixP1, ↓a_ixK, ↓a_gP, ↓a_gN, ↓a_gl2, ↓a_gl3, ↓a_subI, ↓a_app, ↓a_refE, ↓a_ixTn0, ↓a_ixTn1, ↓a_ixTn2, ↓a_lstMN, ↓a_att, ↓a_zipB, ↓a_ltT, ↓a_abs, ↓a_lstRg, ↓a_tupRg, ↓a_r1, ↓a_r2, ↓a_r2E, ↓a_int1I, ↓a_int1B, ↓a_rg2, ↓a_i2E, ↓a_l2E, ↓a_l3E, ↓a_chain, ↓a_wipe0, ↓a_wipe1, ↓a_raise, ↓a_err, ↓a_errE, ↓a_par, ↓a_par3, ↓a_rem, ↓a_try, ↓a_callS, ↓a_slV3, ↓a_slV4, ↓a_lstV, ↓a_lstMV, ↓a_zip, ↓a_zipLL, ↓a_zipVV, ↓a_tab2, ↓a_make, ↓a_meth, ↓a_binI, ↓a_binJ, ↓a_binK, ↓a_negI, ↓a_sfld, ↓a_aug, ↓a_ipI, ↓a_ipII, ↓a_ipIJ, a_addT, a_ixT0, a_ixT1, a_ixT2, a_slT, a_lenT, a_seqT, a_seqV, a_lstT, a_ixV, a_addV, a_slV1, a_slV2, a_lenV, a_ixN0, a_ixN1, a_ixN2, a_ixP0, a_ixP1, a_ixK, a_gP, a_gN, a_mm, a_ixTn0, a_ixTn1, a_ixTn2, a_ltT, a_slV3, a_slV4, a_lstV, f_loop, f_nest, f_vec1, f_cut1, f_cut2, f_cut3, f_cut4, f_map1, f_map2, f_cnt, f_stp, p_addVT, p_addTV, ↓startD, ↓List.map_cons, ↓List.map_nil, List.length_cons, List.length_nil, Nat.reduceAdd, Nat.reduceSub, Nat.reduceLeDiff, Int.reducePow, Int.reduceNeg, Int.reduceLE, Int.reduceLT, List.replicate, ↓List.cons_append, ↓List.nil_append, List.set_cons_zero, List.set_cons_succ, true_and, and_true, ↓reduceIte, Bool.not_true, Bool.not_false, decide_true, decide_false, Bool.false_eq_true, if_false]
    refine loop_by (I := fun r ρ μ' => ∃ (dm tm : List NestD) (y6 y7 y8 : Option D), r = tm.map NestD.d ∧ dm ++ tm = ms ∧ ρ = [some (progD T.C_Program n ns), some (progD T.C_Program n ms), some (.val (.ref p)), some (.lst (A.loops.map loopD)), some (vec A.place), some (.int A.amount), y6, y7, y8] ∧ μ' = mup μ p (.lst ((prodL dn ms ++ dm.map (prodN A)).map NestD.d))) (fun _ _ _ _ => True.intro) ?_ ?_ _ _ _ ⟨[], ms, _, _, _, rfl, rfl, rfl, by simp⟩
    · rintro x r ρ μ' N1 ⟨dm, tm, y6, y7, y8, hr, hdm, rfl, rfl⟩ hN1
      cases tm with
      | nil => cases hr
      | cons B tm =>
      rw [List.map_cons] at hr
      injection hr with e1 e2
      subst e1 e2
      have hB := hp2.v B (by rw [← hdm]; simp)
      rw [nd_eq]
      try simp only [↓a_seq, ↓a_next, ↓a_brk, ↓a_cont, ↓a_ifS, ↓a_ret, ↓a_retN, ↓a_drop, ↓a_asg, ↓a_name, ↓a_gnil, ↓a_gcons, ↓a_gtup2, ↓a_gtup3, ↓a_var0, ↓a_varS, ↓a_c, ↓a_op, ↓a_un, ↓a_nil, ↓a_cons, ↓a_cb, ↓a_tup, ↓a_lst, ↓a_lstM, ↓a_ife, ↓a_test, ↓a_and, ↓a_or, ↓a_not, ↓a_andV, ↓a_orV, ↓a_notV, ↓a_bl, ↓a_if1, ↓a_if0, ↓a_int, ↓a_int0, ↓a_addI, ↓a_addT, ↓a_addL, ↓a_addS, ↓a_mulI, ↓a_neg, ↓a_eqI, ↓a_isN, ↓a_ixT0, ↓a_ixL0, ↓a_ixT1, ↓a_ixL1, ↓a_ixT2, ↓a_ixL2, ↓a_nopart, ↓a_part, ↓a_intE, ↓a_sl, ↓a_slT, ↓a_slL, ↓a_lenT, ↓a_lenL, ↓a_lenM, ↓a_call, ↓a_for, ↓a_rg1, ↓a_rg1E, ↓a_seqI, ↓a_seqT, ↓a_seqL, ↓a_seqV, ↓a_comp, ↓a_compM, ↓a_emp, ↓a_tupL, ↓a_tupT, ↓a_lstL, ↓a_lstT, ↓a_yes, ↓a_ixV, ↓a_addV, ↓a_slV1, ↓a_slV2, ↓a_lenV, ↓a_ixN0, ↓a_ixN1, ↓a_ixN2, ↓a_ixP0, ↓a_ixP1, ↓a_ixK, ↓a_gP, ↓a_gN, ↓a_gl2, ↓a_gl3, ↓a_subI, ↓a_app, ↓a_refE, ↓a_ixTn0, ↓a_ixTn1, ↓a_ixTn2, ↓a_lstMN, ↓a_att, ↓a_zipB, ↓a_ltT, ↓a_abs, ↓a_lstRg, ↓a_tupRg, ↓a_r1, ↓a_r2, ↓a_r2E, ↓a_int1I, ↓a_int1B, ↓a_rg2, ↓a_i2E, ↓a_l2E, ↓a_l3E, ↓a_chain, ↓a_wipe0, ↓a_wipe1, ↓a_raise, ↓a_err, ↓a_errE, ↓a_par, ↓a_par3, ↓a_rem, ↓a_try, ↓a_callS, ↓a_slV3, ↓a_slV4, ↓a_lstV, ↓a_lstMV, ↓a_zip, ↓a_zipLL, ↓a_zipVV, ↓a_tab2, ↓a_make, ↓a_meth, ↓a_binI, ↓a_binJ, ↓a_binK, ↓a_negI, ↓a_sfld, ↓a_aug, ↓a_ipI, ↓a_ipII, ↓a_ipIJ, a_addT, a_ixT0, a_ixT1, a_ixT2, a_slT, a_lenT, a_seqT, a_seqV, a_lstT, a_ixV, a_addV, a_slV1, a_slV2, a_lenV, a_ixN0, a_ixN1, a_ixN2, a_ixP0, a_ixP1, a_ixK, a_gP, a_gN, a_mm, a_ixTn0, a_ixTn1, a_ixTn2, a_ltT, a_slV3, a_slV4, a_lstV, f_loop, f_nest, f_vec1, f_cut1, f_cut2, f_cut3, f_cut4, f_map1, f_map2, f_cnt, f_stp, p_addVT, p_addTV, ↓startD, ↓List.map_cons, ↓List.map_nil, List.length_cons, List.length_nil, Nat.reduceAdd, Nat.reduceSub, Nat.reduceLeDiff, Int.reducePow, Int.reduceNeg, Int.reduceLE, Int.reduceLT, List.replicate, ↓List.cons_append, ↓List.nil_append, List.set_cons_zero, List.set_cons_succ, true_and, and_true, ↓reduceIte, Bool.not_true, Bool.not_false, decide_true, decide_false, Bool.false_eq_true, if_false]
      have l1 := prod_len dn ms
      have l2 : dn.length ≤ 100 := by have := hp.len; rw [← hd, List.length_append] at this; omega
      have l3 : dm.length ≤ 100 := by have := hp2.len; rw [← hdm, List.length_append] at this; omega
      have l4 := Nat.mul_le_mul l2 hp2.len
      refine ⟨⟨_, mup_same⟩, (by rw [List.length_map, List.length_map]; have := hA.1.ll; have := hB.1.ll; omega), A.place, B.place, rfl, (by rw [hA.2.1, hB.2.1]), (by rw [hA.2.1]; have := hp.n3; omega), mulSm hA.2.2 hB.2.2, _, mup_same, (by rw [List.length_map, List.length_append, List.length_map, l1]; omega), ?_⟩
      rw [mup_mup, prod_step]
      exact hN1 _ _ ⟨dm ++ [B], tm, _, _, _, rfl, by rw [List.append_assoc]; exact hdm, rfl, rfl⟩
    · rintro ρ μ' ⟨dm, tm, y6, y7, y8, hr, hdm, rfl, rfl⟩
      cases tm with
      | cons B tm => cases hr
      | nil =>
      try simp only [↓a_seq, ↓a_next, ↓a_brk, ↓a_cont, ↓a_ifS, ↓a_ret, ↓a_retN, ↓a_drop, ↓a_asg, ↓a_name, ↓a_gnil, ↓a_gcons, ↓a_gtup2, ↓a_gtup3, ↓a_var0, ↓a_varS, ↓a_c, ↓a_op, ↓a_un, ↓a_nil, ↓a_cons, ↓a_cb, ↓a_tup, ↓a_lst, ↓a_lstM, ↓a_ife, ↓a_test, ↓a_and, ↓a_or, ↓a_not, ↓a_andV, ↓a_orV, ↓a_notV, ↓a_bl, ↓a_if1, ↓a_if0, ↓a_int, ↓a_int0, ↓a_addI, ↓a_addT, ↓a_addL, ↓a_addS, ↓a_mulI, ↓a_neg, ↓a_eqI, ↓a_isN, ↓a_ixT0, ↓a_ixL0, ↓a_ixT1, ↓a_ixL1, ↓a_ixT2, ↓a_ixL2, ↓a_nopart, ↓a_part, ↓a_intE, ↓a_sl, ↓a_slT, ↓a_slL, ↓a_lenT, ↓a_lenL, ↓a_lenM, ↓a_call, ↓a_for, ↓a_rg1, ↓a_rg1E, ↓a_seqI, ↓a_seqT, ↓a_seqL, ↓a_seqV, ↓a_comp, ↓a_compM, ↓a_emp, ↓a_tupL, ↓a_tupT, ↓a_lstL, ↓a_lstT, ↓a_yes, ↓a_ixV, ↓a_addV, ↓a_slV1, ↓a_slV2, ↓a_lenV, ↓a_ixN0, ↓a_ixN1, ↓a_ixN2, ↓a_ixP0, ↓a_ixP1, ↓a_ixK, ↓a_gP, ↓a_gN, ↓a_gl2, ↓a_gl3, ↓a_subI, ↓a_app, ↓a_refE, ↓a_ixTn0, ↓a_ixTn1, ↓a_ixTn2, ↓a_lstMN, ↓a_att, ↓a_zipB, ↓a_ltT, ↓a_abs, ↓a_lstRg, ↓a_tupRg, ↓a_r1, ↓a_r2, ↓a_r2E, ↓a_int1I, ↓a_int1B, ↓a_rg2, ↓a_i2E, ↓a_l2E, ↓a_l3E, ↓a_chain, ↓a_wipe0, ↓a_wipe1, ↓a_raise, ↓a_err, ↓a_errE, ↓a_par, ↓a_par3, ↓a_rem, ↓a_try, ↓a_callS, ↓a_slV3, ↓a_slV4, ↓a_lstV, ↓a_lstMV, ↓a_zip, ↓a_zipLL, ↓a_zipVV, ↓a_tab2, ↓a_make, ↓a_meth, ↓a_binI, ↓a_binJ, ↓a_binK, ↓a_negI, ↓a_sfld, ↓a_aug, ↓a_ipI, ↓a_ipII, ↓a_ipIJ, a_addT, a_ixT0, a_ixT1, a_ixT2, a_slT, a_lenT, a_seqT, a_seqV, a_lstT, a_ixV, a_addV, a_slV1, a_slV2, a_lenV, a_ixN0, a_ixN1, a_ixN2, a_ixP0, a_ixP1, a_ixK, a_gP, a_gN, a_mm, a_ixTn0, a_ixTn1, a_ixTn2, a_ltT, a_slV3, a_slV4, a_lstV, f_loop, f_nest, f_vec1, f_cut1, f_cut2, f_cut3, f_cut4, f_map1, f_map2, f_cnt, f_stp, p_addVT, p_addTV, ↓startD, ↓List.map_cons, ↓List.map_nil, List.length_cons, List.length_nil, Nat.reduceAdd, Nat.reduceSub, Nat.reduceLeDiff, Int.reducePow, Int.reduceNeg, Int.reduceLE, Int.reduceLT, List.replicate, ↓List.cons_append, ↓List.nil_append, List.set_cons_zero, List.set_cons_succ, true_and, and_true, ↓reduceIte, Bool.not_true, Bool.not_false, decide_true, decide_false, Bool.false_eq_true, if_false]
      refine hN _ _ ⟨dn ++ [A], td, _, _, _, _, _, _, rfl, by rw [List.append_assoc]; exact hd, rfl, ?_⟩
      rw [List.append_nil] at hdm
      rw [hdm, prod_snoc]
  · rintro ρ μ' ⟨dn, td, y3, y4, y5, y6, y7, y8, hr, hd, rfl, rfl⟩
    cases td with
    | cons A td => cases hr
    | nil =>
    try simp only [↓a_seq, ↓a_next, ↓a_brk, ↓a_cont, ↓a_ifS, ↓a_ret, ↓a_retN, ↓a_drop, ↓a_asg, ↓a_name, ↓a_gnil, ↓a_gcons, ↓a_gtup2, ↓a_gtup3, ↓a_var0, ↓a_varS, ↓a_c, ↓a_op, ↓a_un, ↓a_nil, ↓a_cons, ↓a_cb, ↓a_tup, ↓a_lst, ↓a_lstM, ↓a_ife, ↓a_test, ↓a_and, ↓a_or, ↓a_not, ↓a_andV, ↓a_orV, ↓a_notV, ↓a_bl, ↓a_if1, ↓a_if0, ↓a_int, ↓a_int0, ↓a_addI, ↓a_addT, ↓a_addL, ↓a_addS, ↓a_mulI, ↓a_neg, ↓a_eqI, ↓a_isN, ↓a_ixT0, ↓a_ixL0, ↓a_ixT1, ↓a_ixL1, ↓a_ixT2, ↓a_ixL2, ↓a_nopart, ↓a_part, ↓a_intE, ↓a_sl, ↓a_slT, ↓a_slL, ↓a_lenT, ↓a_lenL, ↓a_lenM, ↓a_call, ↓a_for, ↓a_rg1, ↓a_rg1E, ↓a_seqI, ↓a_seqT, ↓a_seqL, ↓a_seqV, ↓a_comp, ↓a_compM, ↓a_emp, ↓a_tupL, ↓a_tupT, ↓a_lstL, ↓a_lstT, ↓a_yes, ↓a_ixV, ↓a_addV, ↓a_slV1, ↓a_slV2, ↓a_lenV, ↓a_ixN0, ↓a_ixN1, ↓a_ixN2, ↓a_ixP0, ↓a_ixP1, ↓a_ixK, ↓a_gP, ↓a_gN, ↓a_gl2, ↓a_gl3, ↓a_subI, ↓a_app, ↓a_refE, ↓a_ixTn0, ↓a_ixTn1, ↓a_ixTn2, ↓a_lstMN, ↓a_att, ↓a_zipB, ↓a_ltT, ↓a_abs, ↓a_lstRg, ↓a_tupRg, ↓a_r1, ↓a_r2, ↓a_r2E, ↓a_int1I, ↓a_int1B, ↓a_rg2, ↓a_i2E, ↓a_l2E, ↓a_l3E, ↓a_chain, ↓a_wipe0, ↓a_wipe1, ↓a_raise, ↓a_err, ↓a_errE, ↓a_par, ↓a_par3, ↓a_rem, ↓a_try, ↓a_callS, ↓a_slV3, ↓a_slV4, ↓a_lstV, ↓a_lstMV, ↓a_zip, ↓a_zipLL, ↓a_zipVV, ↓a_tab2, ↓a_make, ↓a_meth, ↓a_binI, ↓a_binJ, ↓a_binK, ↓a_negI, ↓a_sfld, ↓a_aug, ↓a_ipI, ↓a_ipII, ↓a_ipIJ, a_addT, a_ixT0, a_ixT1, a_ixT2, a_slT, a_lenT, a_seqT, a_seqV, a_lstT, a_ixV, a_addV, a_slV1, a_slV2, a_lenV, a_ixN0, a_ixN1, a_ixN2, a_ixP0, a_ixP1, a_ixK, a_gP, a_gN, a_mm, a_ixTn0, a_ixTn1, a_ixTn2, a_ltT, a_slV3, a_slV4, a_lstV, f_loop, f_nest, f_vec1, f_cut1, f_cut2, f_cut3, f_cut4, f_map1, f_map2, f_cnt, f_stp, p_addVT, p_addTV, ↓startD, ↓List.map_cons, ↓List.map_nil, List.length_cons, List.length_nil, Nat.reduceAdd, Nat.reduceSub, Nat.reduceLeDiff, Int.reducePow, Int.reduceNeg, Int.reduceLE, Int.reduceLT, List.replicate, ↓List.cons_append, ↓List.nil_append, List.set_cons_zero, List.set_cons_succ, true_and, and_true, ↓reduceIte, Bool.not_true, Bool.not_false, decide_true, decide_false, Bool.false_eq_true, if_false]
    rw [List.append_nil] at hd
    subst hd
    refine ⟨p, _, rfl, mup_same, ?_⟩
    rw [mdel_mup hp0]
    try simp only [↓a_seq, ↓a_next, ↓a_brk, ↓a_cont, ↓a_ifS, ↓a_ret, ↓a_retN, ↓a_drop, ↓a_asg, ↓a_name, ↓a_gnil, ↓a_gcons, ↓a_gtup2, ↓a_gtup3, ↓a_var0, ↓a_varS, ↓a_c, ↓a_op, ↓a_un, ↓a_nil, ↓a_cons, ↓a_cb, ↓a_tup, ↓a_lst, ↓a_lstM, ↓a_ife, ↓a_test, ↓a_and, ↓a_or, ↓a_not, ↓a_andV, ↓a_orV, ↓a_notV, ↓a_bl, ↓a_if1, ↓a_if0, ↓a_int, ↓a_int0, ↓a_addI, ↓a_addT, ↓a_addL, ↓a_addS, ↓a_mulI, ↓a_neg, ↓a_eqI, ↓a_isN, ↓a_ixT0, ↓a_ixL0, ↓a_ixT1, ↓a_ixL1, ↓a_ixT2, ↓a_ixL2, ↓a_nopart, ↓a_part, ↓a_intE, ↓a_sl, ↓a_slT, ↓a_slL, ↓a_lenT, ↓a_lenL, ↓a_lenM, ↓a_call, ↓a_for, ↓a_rg1, ↓a_rg1E, ↓a_seqI, ↓a_seqT, ↓a_seqL, ↓a_seqV, ↓a_comp, ↓a_compM, ↓a_emp, ↓a_tupL, ↓a_tupT, ↓a_lstL, ↓a_lstT, ↓a_yes, ↓a_ixV, ↓a_addV, ↓a_slV1, ↓a_slV2, ↓a_lenV, ↓a_ixN0, ↓a_ixN1, ↓a_ixN2, ↓a_ixP0, ↓a_ixP1, ↓a_ixK, ↓a_gP, ↓a_gN, ↓a_gl2, ↓a_gl3, ↓a_subI, ↓a_app, ↓a_refE, ↓a_ixTn0, ↓a_ixTn1, ↓a_ixTn2, ↓a_lstMN, ↓a_att, ↓a_zipB, ↓a_ltT, ↓a_abs, ↓a_lstRg, ↓a_tupRg, ↓a_r1, ↓a_r2, ↓a_r2E, ↓a_int1I, ↓a_int1B, ↓a_rg2, ↓a_i2E, ↓a_l2E, ↓a_l3E, ↓a_chain, ↓a_wipe0, ↓a_wipe1, ↓a_raise, ↓a_err, ↓a_errE, ↓a_par, ↓a_par3, ↓a_rem, ↓a_try, ↓a_callS, ↓a_slV3, ↓a_slV4, ↓a_lstV, ↓a_lstMV, ↓a_zip, ↓a_zipLL, ↓a_zipVV, ↓a_tab2, ↓a_make, ↓a_meth, ↓a_binI, ↓a_binJ, ↓a_binK, ↓a_negI, ↓a_sfld, ↓a_aug, ↓a_ipI, ↓a_ipII, ↓a_ipIJ, a_addT, a_ixT0, a_ixT1, a_ixT2, a_slT, a_lenT, a_seqT, a_seqV, a_lstT, a_ixV, a_addV, a_slV1, a_slV2, a_lenV, a_ixN0, a_ixN1, a_ixN2, a_ixP0, a_ixP1, a_ixK, a_gP, a_gN, a_mm, a_ixTn0, a_ixTn1, a_ixTn2, a_ltT, a_slV3, a_slV4, a_lstV, f_loop, f_nest, f_vec1, f_cut1, f_cut2, f_cut3, f_cut4, f_map1, f_map2, f_cnt, f_stp, p_addVT, p_addTV, ↓startD, ↓List.map_cons, ↓List.map_nil, List.length_cons, List.length_nil, Nat.reduceAdd, Nat.reduceSub, Nat.reduceLeDiff, Int.reducePow, Int.reduceNeg, Int.reduceLE, Int.reduceLT, List.replicate, ↓List.cons_append, ↓List.nil_append, List.set_cons_zero, List.set_cons_succ, true_and, and_true, ↓reduceIte, Bool.not_true, Bool.not_false, decide_true, decide_false, Bool.false_eq_true, if_false]
    exact at_axes T fun a ha => make_ok T ha hq q
theorem ok_convolved (T : Tx K mg) : FnOk P w K mg base (L2.CX P w) 7 T.f_convolved T.fd_convolved P_convolved (spD (spConv K mg T)) :=
  fnXD T.F_convolved sc_convolved (fun _ _ _ _ ⟨_, _, _, _, e, _⟩ => by rw [e]; rfl) fun cdv A outer s H E hr => let ⟨t, h1, h2⟩ := (red_convolved P w base T).2 cdv A outer s H E hr; ⟨t, h1, fun AM Y hx => ⟨_, h2 AM Y hx, body_convolved T Y⟩⟩
end
end K11
namespace K11
open PySem PySem.Spec PyProof.Rows L2 DL
section
variable {P : Program} {w : World} {K : PySem.W.Frag} {mg : Str → Option Value} {base : Heap}
noncomputable def red_Pm_add (P : Program) (w : World) (base : Heap) (T : Tx K mg) : { ds : KX → DS // ∀ (cdv : Value) (A : Around) (outer : List Env) (s : Shared) (H : Hp) (E : XK), Room 6 (A.deeper (envOfC "Program.__add__" (defScope s_Pm_add) s.heap.objs.size T.f_Pm_add cdv)) →
    ∃ t, PSs (cxOf (L2.CX P w) P w K mg base N_Pm_add "Program.__add__" (defScope s_Pm_add) T.f_Pm_add cdv A outer s H E) (defBody s_Pm_add) t ∧ ∀ (AM : Amb) (Y : KX), XOk E Y → LiftS t (ds Y) } :=
  ⟨_, fun cdv A outer s H E hr => by
    have hu := hr.units
    haveI : Amb := amb0
    have sc := sc_Pm_add
    exact ⟨_, (pss_cons (ps_if (pt_not (pt_val ((pe_callB call_isP rfl T.n_isinstance (by decide +kernel) (pa_cons (pv 1) (pa_cons ((pe_glob (v := .ref T.C_Program) rfl T.g_Program rfl)) pa_nil)))))) (pss_one ps_dead) pss_nil) (pss_cons (ps_expr ((pe_call (ok_check_axes T) (hr.mono (by decide)) rfl T.g_check_axes T.F_check_axes.kp T.b_check_axes .nil (passes_call (takes_of rfl rfl rfl rfl) (fun _ _ _ _ h => h)) (pa_cons (pv 0) (pa_cons (pv 1) pa_nil))))) (pss_one (ps_ret ((pe_make (dvs := []) (ds := []) T.mk_Program (ok_Pm_init T) (hr.mono (by decide)) rfl T.g_Program T.b_Pm_init .nil pass0 (pa_cons ((pe_att (pv 0) rfl)) (pa_cons ((pe_op op_addD ((pe_att (pv 0) rfl)) ((pe_att (pv 1) rfl)))) pa_nil)))))))), fun AM Y hx => (ls_seq (ls_if (l_not (l_tB ((l_cb lc_isQ (l_cons (l_var) (l_cons (l_val) l_nil)))))) ls_dead ls_next) (ls_seq (ls_drop ((l_call hx (l_cons (l_var) (l_cons (l_var) l_nil))))) (ls_ret ((l_make XOk.never (l_cons ((l_att (l_var))) (l_cons ((l_op l2_add ((l_att (l_var))) ((l_att (l_var))))) l_nil)))))))⟩⟩
end
end K11
namespace K11
open PySem PySem.Spec PyProof.Rows L2 DL
section
variable {P : Program} {w : World} {K : PySem.W.Frag} {mg : Str → Option Value} {base : Heap}
theorem body_Pm_add (T : Tx K mg) (Y : KX) : ∀ xs μ Kk, (spAdd K mg T) xs μ Kk Y → (red_Pm_add P w base T).1 Y { nx := fun _ μ' => Kk .non μ', rt := Kk } (startD N_Pm_add xs) μ := by
  intro xs μ Kk h
  haveI : Amb := amb0
  obtain ⟨n, ns, m, ms, rfl, hp, hp2, q1, q2⟩ := h
  try simp only [↓a_seq, ↓a_next, ↓a_brk, ↓a_cont, ↓a_ifS, ↓a_ret, ↓a_retN, ↓a_drop, ↓a_asg, ↓a_name, ↓a_gnil, ↓a_gcons, ↓a_gtup2, ↓a_gtup3, ↓a_var0, ↓a_varS, ↓a_c, ↓a_op, ↓a_un, ↓a_nil, ↓a_cons, ↓a_cb, ↓a_tup, ↓a_lst, ↓a_lstM, ↓a_ife, ↓a_test, ↓a_and, ↓a_or, ↓a_not, ↓a_andV, ↓a_orV, ↓a_notV, ↓a_bl, ↓a_if1, ↓a_if0, ↓a_int, ↓a_int0, ↓a_addI, ↓a_addT, ↓a_addL, ↓a_addS, ↓a_mulI, ↓a_neg, ↓a_eqI, ↓a_isN, ↓a_ixT0, ↓a_ixL0, ↓a_ixT1, ↓a_ixL1, ↓a_ixT2, ↓a_ixL2, ↓a_nopart, ↓a_part, ↓a_intE, ↓a_sl, ↓a_slT, ↓a_slL, ↓a_lenT, ↓a_lenL, ↓a_lenM, ↓a_call, ↓a_for, ↓a_rg1, ↓a_rg1E, ↓a_seqI, ↓a_seqT, ↓a_seqL, ↓a_seqV, ↓a_comp, ↓a_compM, ↓a_emp, ↓a_tupL, ↓a_tupT, ↓a_lstL, ↓a_lstT, ↓a_yes, ↓a_ixV, ↓a_addV, ↓a_slV1, ↓a_slV2, ↓a_lenV, ↓a_ixN0, ↓a_ixN1, ↓a_ixN2, ↓a_ixP0, ↓a_ixP1, ↓a_ixK, ↓a_gP, ↓a_gN, ↓a_gl2, ↓a_gl3, ↓a_subI, ↓a_app, ↓a_refE, ↓a_ixTn0, ↓a_ixTn1, ↓a_ixTn2, ↓a_lstMN, ↓a_att, ↓a_zipB, ↓a_ltT, ↓a_abs, ↓a_lstRg, ↓a_tupRg, ↓a_r1, ↓a_r2, ↓a_r2E, ↓a_int1I, ↓a_int1B, ↓a_rg2, ↓a_i2E, ↓a_l2E, ↓a_l3E, ↓a_chain, ↓a_wipe0, ↓a_wipe1, ↓a_raise, ↓a_err, ↓a_errE, ↓a_par, ↓a_par3, ↓a_rem, ↓a_try, ↓a_callS, ↓a_slV3, ↓a_slV4, ↓a_lstV, ↓a_lstMV, ↓a_zip, ↓a_zipLL, ↓a_zipVV, ↓a_tab2, ↓a_make, ↓a_meth, ↓a_binI, ↓a_binJ, ↓a_binK, ↓a_negI, ↓a_sfld, ↓a_aug, ↓a_ipI, ↓a_ipII, ↓a_ipIJ, a_addT, a_ixT0, a_ixT1, a_ixT2, a_slT, a_lenT, a_seqT, a_seqV, a_lstT, a_ixV, a_addV, a_slV1, a_slV2, a_lenV, a_ixN0, a_ixN1, a_ixN2, a_ixP0, a_ixP1, a_ixK, a_gP, a_gN, a_mm, a_ixTn0, a_ixTn1, a_ixTn2, a_ltT, a_slV3, a_slV4, a_lstV, f_loop, f_nest, f_vec1, f_cut1, f_cut2, f_cut3, f_cut4, f_map1, f_map2, f_cnt, f_stp, p_addVT, p_addTV, ↓startD, ↓List.map_cons, ↓List.map_nil, List.length_cons, List.length_nil, Nat.reduceAdd, Nat.reduceSub, Nat.reduceLeDiff, Int.reducePow, Int.reduceNeg, Int.reduceLE, Int.reduceLT, List.replicate, ↓List.cons_append, ↓List.nil_append, List.set_cons_zero, List.set_cons_succ, true_and, and_true, ↓reduceIte, Bool.not_true, Bool.not_false, decide_true, decide_false, Bool.false_eq_true, if_false, red_Pm_add]
  refine isQ_ins T.ci_Program T.ki_Program ⟨_, rfl, ?_⟩
  try simp only [↓a_seq, ↓a_next, ↓a_brk, ↓a_cont, ↓a_ifS, ↓a_ret, ↓a_retN, ↓a_drop, ↓a_asg, ↓a_name, ↓a_gnil, ↓a_gcons, ↓a_gtup2, ↓a_gtup3, ↓a_var0, ↓a_varS, ↓a_c, ↓a_op, ↓a_un, ↓a_nil, ↓a_cons, ↓a_cb, ↓a_tup, ↓a_lst, ↓a_lstM, ↓a_ife, ↓a_test, ↓a_and, ↓a_or, ↓a_not, ↓a_andV, ↓a_orV, ↓a_notV, ↓a_bl, ↓a_if1, ↓a_if0, ↓a_int, ↓a_int0, ↓a_addI, ↓a_addT, ↓a_addL, ↓a_addS, ↓a_mulI, ↓a_neg, ↓a_eqI, ↓a_isN, ↓a_ixT0, ↓a_ixL0, ↓a_ixT1, ↓a_ixL1, ↓a_ixT2, ↓a_ixL2, ↓a_nopart, ↓a_part, ↓a_intE, ↓a_sl, ↓a_slT, ↓a_slL, ↓a_lenT, ↓a_lenL, ↓a_lenM, ↓a_call, ↓a_for, ↓a_rg1, ↓a_rg1E, ↓a_seqI, ↓a_seqT, ↓a_seqL, ↓a_seqV, ↓a_comp, ↓a_compM, ↓a_emp, ↓a_tupL, ↓a_tupT, ↓a_lstL, ↓a_lstT, ↓a_yes, ↓a_ixV, ↓a_addV, ↓a_slV1, ↓a_slV2, ↓a_lenV, ↓a_ixN0, ↓a_ixN1, ↓a_ixN2, ↓a_ixP0, ↓a_ixP1, ↓a_ixK, ↓a_gP, ↓a_gN, ↓a_gl2, ↓a_gl3, ↓a_subI, ↓a_app, ↓a_refE, ↓a_ixTn0, ↓a_ixTn1, ↓a_ixTn2, ↓a_lstMN, ↓a_att, ↓a_zipB, ↓a_ltT, ↓a_abs, ↓a_lstRg, ↓a_tupRg, ↓a_r1, ↓a_r2, ↓a_r2E, ↓a_int1I, ↓a_int1B, ↓a_rg2, ↓a_i2E, ↓a_l2E, ↓a_l3E, ↓a_chain, ↓a_wipe0, ↓a_wipe1, ↓a_raise, ↓a_err, ↓a_errE, ↓a_par, ↓a_par3, ↓a_rem, ↓a_try, ↓a_callS, ↓a_slV3, ↓a_slV4, ↓a_lstV, ↓a_lstMV, ↓a_zip, ↓a_zipLL, ↓a_zipVV, ↓a_tab2, ↓a_make, ↓a_meth, ↓a_binI, ↓a_binJ, ↓a_binK, ↓a_negI, ↓a_sfld, ↓a_aug, ↓a_ipI, ↓a_ipII, ↓a_ipIJ, a_addT, a_ixT0, a_ixT1, a_ixT2, a_slT, a_lenT, a_seqT, a_seqV, a_lstT, a_ixV, a_addV, a_slV1, a_slV2, a_lenV, a_ixN0, a_ixN1, a_ixN2, a_ixP0, a_ixP1, a_ixK, a_gP, a_gN, a_mm, a_ixTn0, a_ixTn1, a_ixTn2, a_ltT, a_slV3, a_slV4, a_lstV, f_loop, f_nest, f_vec1, f_cut1, f_cut2, f_cut3, f_cut4, f_map1, f_map2, f_cnt, f_stp, p_addVT, p_addTV, ↓startD, ↓List.map_cons, ↓List.map_nil, List.length_cons, List.length_nil, Nat.reduceAdd, Nat.reduceSub, Nat.reduceLeDiff, Int.reducePow, Int.reduceNeg, Int.reduceLE, Int.reduceLT, List.replicate, ↓List.cons_append, ↓List.nil_append, List.set_cons_zero, List.set_cons_succ, true_and, and_true, ↓reduceIte, Bool.not_true, Bool.not_false, decide_true, decide_false, Bool.false_eq_true, if_false]
  refine ⟨n, ns, m, ms, rfl, fun e => ?_, q2⟩
  obtain ⟨hq, q⟩ := q1 e
  try simp only [↓a_seq, ↓a_next, ↓a_brk, ↓a_cont, ↓a_ifS, ↓a_ret, ↓a_retN, ↓a_drop, ↓a_asg, ↓a_name, ↓a_gnil, ↓a_gcons, ↓a_gtup2, ↓a_gtup3, ↓a_var0, ↓a_varS, ↓a_c, ↓a_op, ↓a_un, ↓a_nil, ↓a_cons, ↓a_cb, ↓a_tup, ↓a_lst, ↓a_lstM, ↓a_ife, ↓a_test, ↓a_and, ↓a_or, ↓a_not, ↓a_andV, ↓a_orV, ↓a_notV, ↓a_bl, ↓a_if1, ↓a_if0, ↓a_int, ↓a_int0, ↓a_addI, ↓a_addT, ↓a_addL, ↓a_addS, ↓a_mulI, ↓a_neg, ↓a_eqI, ↓a_isN, ↓a_ixT0, ↓a_ixL0, ↓a_ixT1, ↓a_ixL1, ↓a_ixT2, ↓a_ixL2, ↓a_nopart, ↓a_part, ↓a_intE, ↓a_sl, ↓a_slT, ↓a_slL, ↓a_lenT, ↓a_lenL, ↓a_lenM, ↓a_call, ↓a_for, ↓a_rg1, ↓a_rg1E, ↓a_seqI, ↓a_seqT, ↓a_seqL, ↓a_seqV, ↓a_comp, ↓a_compM, ↓a_emp, ↓a_tupL, ↓a_tupT, ↓a_lstL, ↓a_lstT, ↓a_yes, ↓a_ixV, ↓a_addV, ↓a_slV1, ↓a_slV2, ↓a_lenV, ↓a_ixN0, ↓a_ixN1, ↓a_ixN2, ↓a_ixP0, ↓a_ixP1, ↓a_ixK, ↓a_gP, ↓a_gN, ↓a_gl2, ↓a_gl3, ↓a_subI, ↓a_app, ↓a_refE, ↓a_ixTn0, ↓a_ixTn1, ↓a_ixTn2, ↓a_lstMN, ↓a_att, ↓a_zipB, ↓a_ltT, ↓a_abs, ↓a_lstRg, ↓a_tupRg, ↓a_r1, ↓a_r2, ↓a_r2E, ↓a_int1I, ↓a_int1B, ↓a_rg2, ↓a_i2E, ↓a_l2E, ↓a_l3E, ↓a_chain, ↓a_wipe0, ↓a_wipe1, ↓a_raise, ↓a_err, ↓a_errE, ↓a_par, ↓a_par3, ↓a_rem, ↓a_try, ↓a_callS, ↓a_slV3, ↓a_slV4, ↓a_lstV, ↓a_lstMV, ↓a_zip, ↓a_zipLL, ↓a_zipVV, ↓a_tab2, ↓a_make, ↓a_meth, ↓a_binI, ↓a_binJ, ↓a_binK, ↓a_negI, ↓a_sfld, ↓a_aug, ↓a_ipI, ↓a_ipII, ↓a_ipIJ, a_addT, a_ixT0, a_ixT1, a_ixT2, a_slT, a_lenT, a_seqT, a_seqV, a_lstT, a_ixV, a_addV, a_slV1, a_slV2, a_lenV, a_ixN0, a_ixN1, a_ixN2, a_ixP0, a_ixP1, a_ixK, a_gP, a_gN, a_mm, a_ixTn0, a_ixTn1, a_ixTn2, a_ltT, a_slV3, a_slV4, a_lstV, f_loop, f_nest, f_vec1, f_cut1, f_cut2, f_cut3, f_cut4, f_map1, f_map2, f_cnt, f_stp, p_addVT, p_addTV, ↓startD, ↓List.map_cons, ↓List.map_nil, List.length_cons, List.length_nil, Nat.reduceAdd, Nat.reduceSub, Nat.reduceLeDiff, Int.reducePow, Int.reduceNeg, Int.reduceLE, Int.reduceLT, List.replicate, ↓List.cons_append, ↓List.nil_append, List.set_cons_zero, List.set_cons_succ, true_and, and_true, ↓reduceIte, Bool.not_true, Bool.not_false, decide_true, decide_false, Bool.false_eq_true, if_false]
  refine at_axes T (at_parts T (at_parts T ?_))
  try simp only [↓a_seq, ↓a_next, ↓a_brk, ↓a_cont, ↓a_ifS, ↓a_ret, ↓a_retN, ↓a_drop, ↓a_asg, ↓a_name, ↓a_gnil, ↓a_gcons, ↓a_gtup2, ↓a_gtup3, ↓a_var0, ↓a_varS, ↓a_c, ↓a_op, ↓a_un, ↓a_nil, ↓a_cons, ↓a_cb, ↓a_tup, ↓a_lst, ↓a_lstM, ↓a_ife, ↓a_test, ↓a_and, ↓a_or, ↓a_not, ↓a_andV, ↓a_orV, ↓a_notV, ↓a_bl, ↓a_if1, ↓a_if0, ↓a_int, ↓a_int0, ↓a_addI, ↓a_addT, ↓a_addL, ↓a_addS, ↓a_mulI, ↓a_neg, ↓a_eqI, ↓a_isN, ↓a_ixT0, ↓a_ixL0, ↓a_ixT1, ↓a_ixL1, ↓a_ixT2, ↓a_ixL2, ↓a_nopart, ↓a_part, ↓a_intE, ↓a_sl, ↓a_slT, ↓a_slL, ↓a_lenT, ↓a_lenL, ↓a_lenM, ↓a_call, ↓a_for, ↓a_rg1, ↓a_rg1E, ↓a_seqI, ↓a_seqT, ↓a_seqL, ↓a_seqV, ↓a_comp, ↓a_compM, ↓a_emp, ↓a_tupL, ↓a_tupT, ↓a_lstL, ↓a_lstT, ↓a_yes, ↓a_ixV, ↓a_addV, ↓a_slV1, ↓a_slV2, ↓a_lenV, ↓a_ixN0, ↓a_ixN1, ↓a_ixN2, ↓a_ixP0, ↓a_ixP1, ↓a_ixK, ↓a_gP, ↓a_gN, ↓a_gl2, ↓a_gl3, ↓a_subI, ↓a_app, ↓a_refE, ↓a_ixTn0, ↓a_ixTn1, ↓a_ixTn2, ↓a_lstMN, ↓a_att, ↓a_zipB, ↓a_ltT, ↓a_abs, ↓a_lstRg, ↓a_tupRg, ↓a_r1, ↓a_r2, ↓a_r2E, ↓a_int1I, ↓a_int1B, ↓a_rg2, ↓a_i2E, ↓a_l2E, ↓a_l3E, ↓a_chain, ↓a_wipe0, ↓a_wipe1, ↓a_raise, ↓a_err, ↓a_errE, ↓a_par, ↓a_par3, ↓a_rem, ↓a_try, ↓a_callS, ↓a_slV3, ↓a_slV4, ↓a_lstV, ↓a_lstMV, ↓a_zip, ↓a_zipLL, ↓a_zipVV, ↓a_tab2, ↓a_make, ↓a_meth, ↓a_binI, ↓a_binJ, ↓a_binK, ↓a_negI, ↓a_sfld, ↓a_aug, ↓a_ipI, ↓a_ipII, ↓a_ipIJ, a_addT, a_ixT0, a_ixT1, a_ixT2, a_slT, a_lenT, a_seqT, a_seqV, a_lstT, a_ixV, a_addV, a_slV1, a_slV2, a_lenV, a_ixN0, a_ixN1, a_ixN2, a_ixP0, a_ixP1, a_ixK, a_gP, a_gN, a_mm, a_ixTn0, a_ixTn1, a_ixTn2, a_ltT, a_slV3, a_slV4, a_lstV, f_loop, f_nest, f_vec1, f_cut1, f_cut2, f_cut3, f_cut4, f_map1, f_map2, f_cnt, f_stp, p_addVT, p_addTV, ↓startD, ↓List.map_cons, ↓List.map_nil, List.length_cons, List.length_nil, Nat.reduceAdd, Nat.reduceSub, Nat.reduceLeDiff, Int.reducePow, Int.reduceNeg, Int.reduceLE, Int.reduceLT, List.replicate, ↓List.cons_append, ↓List.nil_append, List.set_cons_zero, List.set_cons_succ, true_and, and_true, ↓reduceIte, Bool.not_true, Bool.not_false, decide_true, decide_false, Bool.false_eq_true, if_false]
  refine ⟨by rw [List.length_map, List.length_map]; have := hp.len; have := hp2.len; omega, fun a ha => ?_⟩
  rw [← List.map_append]
  exact make_ok T ha hq q
theorem ok_Pm_add (T : Tx K mg) : FnOk P w K mg base (L2.CX P w) 7 T.f_Pm_add T.fd_Pm_add P_Pm_add (spD (spAdd K mg T)) :=
  fnXD T.F_Pm_add sc_Pm_add (fun _ _ _ _ ⟨_, _, _, _, e, _⟩ => by rw [e]; rfl) fun cdv A outer s H E hr => let ⟨t, h1, h2⟩ := (red_Pm_add P w base T).2 cdv A outer s H E hr; ⟨t, h1, fun AM Y hx => ⟨_, h2 AM Y hx, body_Pm_add T Y⟩⟩
end
end K11
namespace K11
open PySem PySem.Spec PyProof.Rows L2 DL
section
variable {P : Program} {w : World} {K : PySem.W.Frag} {mg : Str → Option Value} {base : Heap}
noncomputable def red_Pm_neg (P : Program) (w : World) (base : Heap) (T : Tx K mg) : { ds : KX → DS // ∀ (cdv : Value) (A : Around) (outer : List Env) (s : Shared) (H : Hp) (E : XK), Room 7 (A.deeper (envOfC "Program.__neg__" (defScope s_Pm_neg) s.heap.objs.size T.f_Pm_neg cdv)) →
    ∃ t, PSs (cxOf CX0 P w K mg base N_Pm_neg "Program.__neg__" (defScope s_Pm_neg) T.f_Pm_neg cdv A outer s H E).nox (defBody s_Pm_neg) t ∧ ∀ (AM : Amb) (Y : KX), LiftS t (ds Y) } :=
  ⟨_, fun cdv A outer s H E hr => by
    have hu := hr.units
    haveI : Amb := amb0
    have sc := sc_Pm_neg
    exact ⟨_, (pss_one (ps_ret ((pe_call (ok_with_amounts T) (hr.mono (by decide)) rfl T.g_with_amounts T.F_with_amounts.kp T.b_with_amounts .nil pass0 (pa_cons (pv 0) (pa_cons ((pe_un un_neg (pe_int))) pa_nil)))))), fun AM Y => (ls_ret ((l_call XOk.never (l_cons (l_var) (l_cons ((l_un l1_neg (l_int))) l_nil)))))⟩⟩
end
end K11
namespace K11
open PySem PySem.Spec PyProof.Rows L2 DL
section
variable {P : Program} {w : World} {K : PySem.W.Frag} {mg : Str → Option Value} {base : Heap}
theorem body_Pm_neg (T : Tx K mg) (Y : KX) : ∀ xs μ Kk, (spNeg K mg T) xs μ Kk Y → (red_Pm_neg P w base T).1 Y { nx := fun _ μ' => Kk .non μ', rt := Kk } (startD N_Pm_neg xs) μ := by
  intro xs μ Kk h
  haveI : Amb := amb0
  obtain ⟨n, ns, rfl, hp, hp2, q⟩ := h
  try simp only [↓a_seq, ↓a_next, ↓a_brk, ↓a_cont, ↓a_ifS, ↓a_ret, ↓a_retN, ↓a_drop, ↓a_asg, ↓a_name, ↓a_gnil, ↓a_gcons, ↓a_gtup2, ↓a_gtup3, ↓a_var0, ↓a_varS, ↓a_c, ↓a_op, ↓a_un, ↓a_nil, ↓a_cons, ↓a_cb, ↓a_tup, ↓a_lst, ↓a_lstM, ↓a_ife, ↓a_test, ↓a_and, ↓a_or, ↓a_not, ↓a_andV, ↓a_orV, ↓a_notV, ↓a_bl, ↓a_if1, ↓a_if0, ↓a_int, ↓a_int0, ↓a_addI, ↓a_addT, ↓a_addL, ↓a_addS, ↓a_mulI, ↓a_neg, ↓a_eqI, ↓a_isN, ↓a_ixT0, ↓a_ixL0, ↓a_ixT1, ↓a_ixL1, ↓a_ixT2, ↓a_ixL2, ↓a_nopart, ↓a_part, ↓a_intE, ↓a_sl, ↓a_slT, ↓a_slL, ↓a_lenT, ↓a_lenL, ↓a_lenM, ↓a_call, ↓a_for, ↓a_rg1, ↓a_rg1E, ↓a_seqI, ↓a_seqT, ↓a_seqL, ↓a_seqV, ↓a_comp, ↓a_compM, ↓a_emp, ↓a_tupL, ↓a_tupT, ↓a_lstL, ↓a_lstT, ↓a_yes, ↓a_ixV, ↓a_addV, ↓a_slV1, ↓a_slV2, ↓a_lenV, ↓a_ixN0, ↓a_ixN1, ↓a_ixN2, ↓a_ixP0, ↓a_ixP1, ↓a_ixK, ↓a_gP, ↓a_gN, ↓a_gl2, ↓a_gl3, ↓a_subI, ↓a_app, ↓a_refE, ↓a_ixTn0, ↓a_ixTn1, ↓a_ixTn2, ↓a_lstMN, ↓a_att, ↓a_zipB, ↓a_ltT, ↓a_abs, ↓a_lstRg, ↓a_tupRg, ↓a_r1, ↓a_r2, ↓a_r2E, ↓a_int1I, ↓a_int1B, ↓a_rg2, ↓a_i2E, ↓a_l2E, ↓a_l3E, ↓a_chain, ↓a_wipe0, ↓a_wipe1, ↓a_raise, ↓a_err, ↓a_errE, ↓a_par, ↓a_par3, ↓a_rem, ↓a_try, ↓a_callS, ↓a_slV3, ↓a_slV4, ↓a_lstV, ↓a_lstMV, ↓a_zip, ↓a_zipLL, ↓a_zipVV, ↓a_tab2, ↓a_make, ↓a_meth, ↓a_binI, ↓a_binJ, ↓a_binK, ↓a_negI, ↓a_sfld, ↓a_aug, ↓a_ipI, ↓a_ipII, ↓a_ipIJ, a_addT, a_ixT0, a_ixT1, a_ixT2, a_slT, a_lenT, a_seqT, a_seqV, a_lstT, a_ixV, a_addV, a_slV1, a_slV2, a_lenV, a_ixN0, a_ixN1, a_ixN2, a_ixP0, a_ixP1, a_ixK, a_gP, a_gN, a_mm, a_ixTn0, a_ixTn1, a_ixTn2, a_ltT, a_slV3, a_slV4, a_lstV, f_loop, f_nest, f_vec1, f_cut1, f_cut2, f_cut3, f_cut4, f_map1, f_map2, f_cnt, f_stp, p_addVT, p_addTV, ↓startD, ↓List.map_cons, ↓List.map_nil, List.length_cons, List.length_nil, Nat.reduceAdd, Nat.reduceSub, Nat.reduceLeDiff, Int.reducePow, Int.reduceNeg, Int.reduceLE, Int.reduceLT, List.replicate, ↓List.cons_append, ↓List.nil_append, List.set_cons_zero, List.set_cons_succ, true_and, and_true, ↓reduceIte, Bool.not_true, Bool.not_false, decide_true, decide_false, Bool.false_eq_true, if_false, red_Pm_neg]
  exact ⟨n, ns, -1, rfl, hp, hp2, by unfold Sm; omega, q⟩
theorem ok_Pm_neg (T : Tx K mg) : FnOk P w K mg base CX0 8 T.f_Pm_neg T.fd_Pm_neg P_Pm_neg (spD (spNeg K mg T)) :=
  fn0D T.F_Pm_neg sc_Pm_neg (fun _ _ _ _ ⟨_, _, e, _⟩ => by rw [e]; rfl) fun cdv A outer s H E hr => let ⟨t, h1, h2⟩ := (red_Pm_neg P w base T).2 cdv A outer s H E hr; ⟨t, h1, fun AM Y => ⟨_, h2 AM Y, body_Pm_neg T Y⟩⟩
end
end K11
namespace K11
open PySem PySem.Spec PyProof.Rows L2 DL
section
variable {P : Program} {w : World} {K : PySem.W.Frag} {mg : Str → Option Value} {base : Heap}
noncomputable def red_Pm_sub (P : Program) (w : World) (base : Heap) (T : Tx K mg) : { ds : KX → DS // ∀ (cdv : Value) (A : Around) (outer : List Env) (s : Shared) (H : Hp) (E : XK), Room 8 (A.deeper (envOfC "Program.__sub__" (defScope s_Pm_sub) s.heap.objs.size T.f_Pm_sub cdv)) →
    ∃ t, PSs (cxOf (L2.CX P w) P w K mg base N_Pm_sub "Program.__sub__" (defScope s_Pm_sub) T.f_Pm_sub cdv A outer s H E) (defBody s_Pm_sub) t ∧ ∀ (AM : Amb) (Y : KX), XOk E Y → LiftS t (ds Y) } :=
  ⟨_, fun cdv A outer s H E hr => by
    have hu := hr.units
    haveI : Amb := amb0
    have sc := sc_Pm_sub
    exact ⟨_, (pss_cons (ps_if (pt_not (pt_val ((pe_callB call_isP rfl T.n_isinstance (by decide +kernel) (pa_cons (pv 1) (pa_cons ((pe_glob (v := .ref T.C_Program) rfl T.g_Program rfl)) pa_nil)))))) (pss_one ps_dead) pss_nil) (pss_one (ps_ret ((pe_binI (pv 0) ((pe_negI (pv 1) T.at_Pm_neg T.fn_Pm_neg (ok_Pm_neg T (base := base)) (hr.mono (by decide)) T.b_Pm_neg (pat pass0))) T.ci_Program (at_op dop_add T.at_Pm_add) T.fn_Pm_add (ok_Pm_add T (base := base)) (hr.mono (by decide)) T.b_Pm_add (pat (passes_call (takes_of rfl rfl rfl rfl) (fun _ _ _ _ h => h)))))))), fun AM Y hx => (ls_seq (ls_if (l_not (l_tB ((l_cb lc_isQ (l_cons (l_var) (l_cons (l_val) l_nil)))))) ls_dead ls_next) (ls_ret ((l_binI hx (l_var) ((l_negI XOk.never (l_var)))))))⟩⟩
end
end K11
namespace K11
open PySem PySem.Spec PyProof.Rows L2 DL
section
variable {P : Program} {w : World} {K : PySem.W.Frag} {mg : Str → Option Value} {base : Heap}
theorem body_Pm_sub (T : Tx K mg) (Y : KX) : ∀ xs μ Kk, (spSub K mg T) xs μ Kk Y → (red_Pm_sub P w base T).1 Y { nx := fun _ μ' => Kk .non μ', rt := Kk } (startD N_Pm_sub xs) μ := by
  intro xs μ Kk h
  haveI : Amb := amb0
  obtain ⟨n, ns, m, ms, rfl, hp, hp2, hn, q1, q2⟩ := h
  try simp only [↓a_seq, ↓a_next, ↓a_brk, ↓a_cont, ↓a_ifS, ↓a_ret, ↓a_retN, ↓a_drop, ↓a_asg, ↓a_name, ↓a_gnil, ↓a_gcons, ↓a_gtup2, ↓a_gtup3, ↓a_var0, ↓a_varS, ↓a_c, ↓a_op, ↓a_un, ↓a_nil, ↓a_cons, ↓a_cb, ↓a_tup, ↓a_lst, ↓a_lstM, ↓a_ife, ↓a_test, ↓a_and, ↓a_or, ↓a_not, ↓a_andV, ↓a_orV, ↓a_notV, ↓a_bl, ↓a_if1, ↓a_if0, ↓a_int, ↓a_int0, ↓a_addI, ↓a_addT, ↓a_addL, ↓a_addS, ↓a_mulI, ↓a_neg, ↓a_eqI, ↓a_isN, ↓a_ixT0, ↓a_ixL0, ↓a_ixT1, ↓a_ixL1, ↓a_ixT2, ↓a_ixL2, ↓a_nopart, ↓a_part, ↓a_intE, ↓a_sl, ↓a_slT, ↓a_slL, ↓a_lenT, ↓a_lenL, ↓a_lenM, ↓a_call, ↓a_for, ↓a_rg1, ↓a_rg1E, ↓a_seqI, ↓a_seqT, ↓a_seqL, ↓a_seqV, ↓a_comp, ↓a_compM, ↓a_emp, ↓a_tupL, ↓a_tupT, ↓a_lstL, ↓a_lstT, ↓a_yes, ↓a_ixV, ↓a_addV, ↓a_slV1, ↓a_slV2, ↓a_lenV, ↓a_ixN0, ↓a_ixN1, ↓a_ixN2, ↓a_ixP0, ↓a_ixP1, ↓a_ixK, ↓a_gP, ↓a_gN, ↓a_gl2, ↓a_gl3, ↓a_subI, ↓a_app, ↓a_refE, ↓a_ixTn0, ↓a_ixTn1, ↓a_ixTn2, ↓a_lstMN, ↓a_att, ↓a_zipB, ↓a_ltT, ↓a_abs, ↓a_lstRg, ↓a_tupRg, ↓a_r1, ↓a_r2, ↓a_r2E, ↓a_int1I, ↓a_int1B, ↓a_rg2, ↓a_i2E, ↓a_l2E, ↓a_l3E, ↓a_chain, ↓a_wipe0, ↓a_wipe1, ↓a_raise, ↓a_err, ↓a_errE, ↓a_par, ↓a_par3, ↓a_rem, ↓a_try, ↓a_callS, ↓a_slV3, ↓a_slV4, ↓a_lstV, ↓a_lstMV, ↓a_zip, ↓a_zipLL, ↓a_zipVV, ↓a_tab2, ↓a_make, ↓a_meth, ↓a_binI, ↓a_binJ, ↓a_binK, ↓a_negI, ↓a_sfld, ↓a_aug, ↓a_ipI, ↓a_ipII, ↓a_ipIJ, a_addT, a_ixT0, a_ixT1, a_ixT2, a_slT, a_lenT, a_seqT, a_seqV, a_lstT, a_ixV, a_addV, a_slV1, a_slV2, a_lenV, a_ixN0, a_ixN1, a_ixN2, a_ixP0, a_ixP1, a_ixK, a_gP, a_gN, a_mm, a_ixTn0, a_ixTn1, a_ixTn2, a_ltT, a_slV3, a_slV4, a_lstV, f_loop, f_nest, f_vec1, f_cut1, f_cut2, f_cut3, f_cut4, f_map1, f_map2, f_cnt, f_stp, p_addVT, p_addTV, ↓startD, ↓List.map_cons, ↓List.map_nil, List.length_cons, List.length_nil, Nat.reduceAdd, Nat.reduceSub, Nat.reduceLeDiff, Int.reducePow, Int.reduceNeg, Int.reduceLE, Int.reduceLT, List.replicate, ↓List.cons_append, ↓List.nil_append, List.set_cons_zero, List.set_cons_succ, true_and, and_true, ↓reduceIte, Bool.not_true, Bool.not_false, decide_true, decide_false, Bool.false_eq_true, if_false, red_Pm_sub]
  refine isQ_ins T.ci_Program T.ki_Program ⟨_, rfl, ?_⟩
  try simp only [↓a_seq, ↓a_next, ↓a_brk, ↓a_cont, ↓a_ifS, ↓a_ret, ↓a_retN, ↓a_drop, ↓a_asg, ↓a_name, ↓a_gnil, ↓a_gcons, ↓a_gtup2, ↓a_gtup3, ↓a_var0, ↓a_varS, ↓a_c, ↓a_op, ↓a_un, ↓a_nil, ↓a_cons, ↓a_cb, ↓a_tup, ↓a_lst, ↓a_lstM, ↓a_ife, ↓a_test, ↓a_and, ↓a_or, ↓a_not, ↓a_andV, ↓a_orV, ↓a_notV, ↓a_bl, ↓a_if1, ↓a_if0, ↓a_int, ↓a_int0, ↓a_addI, ↓a_addT, ↓a_addL, ↓a_addS, ↓a_mulI, ↓a_neg, ↓a_eqI, ↓a_isN, ↓a_ixT0, ↓a_ixL0, ↓a_ixT1, ↓a_ixL1, ↓a_ixT2, ↓a_ixL2, ↓a_nopart, ↓a_part, ↓a_intE, ↓a_sl, ↓a_slT, ↓a_slL, ↓a_lenT, ↓a_lenL, ↓a_lenM, ↓a_call, ↓a_for, ↓a_rg1, ↓a_rg1E, ↓a_seqI, ↓a_seqT, ↓a_seqL, ↓a_seqV, ↓a_comp, ↓a_compM, ↓a_emp, ↓a_tupL, ↓a_tupT, ↓a_lstL, ↓a_lstT, ↓a_yes, ↓a_ixV, ↓a_addV, ↓a_slV1, ↓a_slV2, ↓a_lenV, ↓a_ixN0, ↓a_ixN1, ↓a_ixN2, ↓a_ixP0, ↓a_ixP1, ↓a_ixK, ↓a_gP, ↓a_gN, ↓a_gl2, ↓a_gl3, ↓a_subI, ↓a_app, ↓a_refE, ↓a_ixTn0, ↓a_ixTn1, ↓a_ixTn2, ↓a_lstMN, ↓a_att, ↓a_zipB, ↓a_ltT, ↓a_abs, ↓a_lstRg, ↓a_tupRg, ↓a_r1, ↓a_r2, ↓a_r2E, ↓a_int1I, ↓a_int1B, ↓a_rg2, ↓a_i2E, ↓a_l2E, ↓a_l3E, ↓a_chain, ↓a_wipe0, ↓a_wipe1, ↓a_raise, ↓a_err, ↓a_errE, ↓a_par, ↓a_par3, ↓a_rem, ↓a_try, ↓a_callS, ↓a_slV3, ↓a_slV4, ↓a_lstV, ↓a_lstMV, ↓a_zip, ↓a_zipLL, ↓a_zipVV, ↓a_tab2, ↓a_make, ↓a_meth, ↓a_binI, ↓a_binJ, ↓a_binK, ↓a_negI, ↓a_sfld, ↓a_aug, ↓a_ipI, ↓a_ipII, ↓a_ipIJ, a_addT, a_ixT0, a_ixT1, a_ixT2, a_slT, a_lenT, a_seqT, a_seqV, a_lstT, a_ixV, a_addV, a_slV1, a_slV2, a_lenV, a_ixN0, a_ixN1, a_ixN2, a_ixP0, a_ixP1, a_ixK, a_gP, a_gN, a_mm, a_ixTn0, a_ixTn1, a_ixTn2, a_ltT, a_slV3, a_slV4, a_lstV, f_loop, f_nest, f_vec1, f_cut1, f_cut2, f_cut3, f_cut4, f_map1, f_map2, f_cnt, f_stp, p_addVT, p_addTV, ↓startD, ↓List.map_cons, ↓List.map_nil, List.length_cons, List.length_nil, Nat.reduceAdd, Nat.reduceSub, Nat.reduceLeDiff, Int.reducePow, Int.reduceNeg, Int.reduceLE, Int.reduceLT, List.replicate, ↓List.cons_append, ↓List.nil_append, List.set_cons_zero, List.set_cons_succ, true_and, and_true, ↓reduceIte, Bool.not_true, Bool.not_false, decide_true, decide_false, Bool.false_eq_true, if_false]
  exact ⟨_, rfl, m, ms, rfl, hp2, hn, _, _, rfl, rfl, n, ns, m, _, rfl, hp, hn, q1, q2⟩
theorem ok_Pm_sub (T : Tx K mg) : FnOk P w K mg base (L2.CX P w) 9 T.f_Pm_sub T.fd_Pm_sub P_Pm_sub (spD (spSub K mg T)) :=
  fnXD T.F_Pm_sub sc_Pm_sub (fun _ _ _ _ ⟨_, _, _, _, e, _⟩ => by rw [e]; rfl) fun cdv A outer s H E hr => let ⟨t, h1, h2⟩ := (red_Pm_sub P w base T).2 cdv A outer s H E hr; ⟨t, h1, fun AM Y hx => ⟨_, h2 AM Y hx, body_Pm_sub T Y⟩⟩
end
end K11
namespace K11
open PySem PySem.Spec PyProof.Rows L2 DL
section
variable {P : Program} {w : World} {K : PySem.W.Frag} {mg : Str → Option Value} {base : Heap}
noncomputable def red_Pm_mul (P : Program) (w : World) (base : Heap) (T : Tx K mg) : { ds : KX → DS // ∀ (cdv : Value) (A : Around) (outer : List Env) (s : Shared) (H : Hp) (E : XK), Room 7 (A.deeper (envOfC "Program.__mul__" (defScope s_Pm_mul) s.heap.objs.size T.f_Pm_mul cdv)) →
    ∃ t, PSs (cxOf (L2.CX P w) P w K mg base N_Pm_mul "Program.__mul__" (defScope s_Pm_mul) T.f_Pm_mul cdv A outer s H E) (defBody s_Pm_mul) t ∧ ∀ (AM : Amb) (Y : KX), XOk E Y → LiftS t (ds Y) } :=
  ⟨_, fun cdv A outer s H E hr => by
    have hu := hr.units
    haveI : Amb := amb0
    have sc := sc_Pm_mul
    exact ⟨_, (pss_cons (ps_if (pt_val ((pe_callB call_isP rfl T.n_isinstance (by decide +kernel) (pa_cons (pv 1) (pa_cons ((pe_glob (v := .ref T.C_Program) rfl T.g_Program rfl)) pa_nil))))) (pss_one (ps_ret ((pe_call (ok_convolved T) (hr.mono (by decide)) rfl T.g_convolved T.F_convolved.kp T.b_convolved .nil (passes_call (takes_of rfl rfl rfl rfl) (fun _ _ _ _ h => h)) (pa_cons (pv 0) (pa_cons (pv 1) pa_nil)))))) pss_nil) (pss_cons (ps_if (pt_val ((pe_call (ok_is_whole T) (hr.mono (by decide)) rfl T.g_is_whole T.F_is_whole.kp T.b_is_whole .nil pass0 (pa_cons (pv 1) pa_nil)))) (pss_one (ps_ret ((pe_call (ok_with_amounts T) (hr.mono (by decide)) rfl T.g_with_amounts T.F_with_amounts.kp T.b_with_amounts .nil pass0 (pa_cons (pv 0) (pa_cons (pv 1) pa_nil)))))) pss_nil) (pss_one ps_dead))), fun AM Y hx => (ls_seq (ls_if (l_tB ((l_cb lc_isQ (l_cons (l_var) (l_cons (l_val) l_nil))))) (ls_ret ((l_call hx (l_cons (l_var) (l_cons (l_var) l_nil))))) ls_next) (ls_seq (ls_if (l_tB ((l_call XOk.never (l_cons (l_var) l_nil)))) (ls_ret ((l_call XOk.never (l_cons (l_var) (l_cons (l_var) l_nil))))) ls_next) ls_dead))⟩⟩
end
end K11
namespace K11
open PySem PySem.Spec PyProof.Rows L2 DL
section
variable {P : Program} {w : World} {K : PySem.W.Frag} {mg : Str → Option Value} {base : Heap}
theorem body_Pm_mul (T : Tx K mg) (Y : KX) : ∀ xs μ Kk, (spMul K mg T) xs μ Kk Y → (red_Pm_mul P w base T).1 Y { nx := fun _ μ' => Kk .non μ', rt := Kk } (startD N_Pm_mul xs) μ := by
  intro xs μ Kk h
  haveI : Amb := amb0
  rcases h with ⟨n, ns, m, ms, rfl, hp, hp2, q1, q2⟩ | ⟨n, ns, k, rfl, hp, hp2, hk, q⟩
  · try simp only [↓a_seq, ↓a_next, ↓a_brk, ↓a_cont, ↓a_ifS, ↓a_ret, ↓a_retN, ↓a_drop, ↓a_asg, ↓a_name, ↓a_gnil, ↓a_gcons, ↓a_gtup2, ↓a_gtup3, ↓a_var0, ↓a_varS, ↓a_c, ↓a_op, ↓a_un, ↓a_nil, ↓a_cons, ↓a_cb, ↓a_tup, ↓a_lst, ↓a_lstM, ↓a_ife, ↓a_test, ↓a_and, ↓a_or, ↓a_not, ↓a_andV, ↓a_orV, ↓a_notV, ↓a_bl, ↓a_if1, ↓a_if0, ↓a_int, ↓a_int0, ↓a_addI, ↓a_addT, ↓a_addL, ↓a_addS, ↓a_mulI, ↓a_neg, ↓a_eqI, ↓a_isN, ↓a_ixT0, ↓a_ixL0, ↓a_ixT1, ↓a_ixL1, ↓a_ixT2, ↓a_ixL2, ↓a_nopart, ↓a_part, ↓a_intE, ↓a_sl, ↓a_slT, ↓a_slL, ↓a_lenT, ↓a_lenL, ↓a_lenM, ↓a_call, ↓a_for, ↓a_rg1, ↓a_rg1E, ↓a_seqI, ↓a_seqT, ↓a_seqL, ↓a_seqV, ↓a_comp, ↓a_compM, ↓a_emp, ↓a_tupL, ↓a_tupT, ↓a_lstL, ↓a_lstT, ↓a_yes, ↓a_ixV, ↓a_addV, ↓a_slV1, ↓a_slV2, ↓a_lenV, ↓a_ixN0, ↓a_ixN1, ↓a_ixN2, ↓a_ixP0, ↓a_ixP1, ↓a_ixK, ↓a_gP, ↓a_gN, ↓a_gl2, ↓a_gl3, ↓a_subI, ↓a_app, ↓a_refE, ↓a_ixTn0, ↓a_ixTn1, ↓a_ixTn2, ↓a_lstMN, ↓a_att, ↓a_zipB, ↓a_ltT, ↓a_abs, ↓a_lstRg, ↓a_tupRg, ↓a_r1, ↓a_r2, ↓a_r2E, ↓a_int1I, ↓a_int1B, ↓a_rg2, ↓a_i2E, ↓a_l2E, ↓a_l3E, ↓a_chain, ↓a_wipe0, ↓a_wipe1, ↓a_raise, ↓a_err, ↓a_errE, ↓a_par, ↓a_par3, ↓a_rem, ↓a_try, ↓a_callS, ↓a_slV3, ↓a_slV4, ↓a_lstV, ↓a_lstMV, ↓a_zip, ↓a_zipLL, ↓a_zipVV, ↓a_tab2, ↓a_make, ↓a_meth, ↓a_binI, ↓a_binJ, ↓a_binK, ↓a_negI, ↓a_sfld, ↓a_aug, ↓a_ipI, ↓a_ipII, ↓a_ipIJ, a_addT, a_ixT0, a_ixT1, a_ixT2, a_slT, a_lenT, a_seqT, a_seqV, a_lstT, a_ixV, a_addV, a_slV1, a_slV2, a_lenV, a_ixN0, a_ixN1, a_ixN2, a_ixP0, a_ixP1, a_ixK, a_gP, a_gN, a_mm, a_ixTn0, a_ixTn1, a_ixTn2, a_ltT, a_slV3, a_slV4, a_lstV, f_loop, f_nest, f_vec1, f_cut1, f_cut2, f_cut3, f_cut4, f_map1, f_map2, f_cnt, f_stp, p_addVT, p_addTV, ↓startD, ↓List.map_cons, ↓List.map_nil, List.length_cons, List.length_nil, Nat.reduceAdd, Nat.reduceSub, Nat.reduceLeDiff, Int.reducePow, Int.reduceNeg, Int.reduceLE, Int.reduceLT, List.replicate, ↓List.cons_append, ↓List.nil_append, List.set_cons_zero, List.set_cons_succ, true_and, and_true, ↓reduceIte, Bool.not_true, Bool.not_false, decide_true, decide_false, Bool.false_eq_true, if_false, red_Pm_mul]
    refine isQ_ins T.ci_Program T.ki_Program ⟨_, rfl, ?_⟩
    try simp only [↓a_seq, ↓a_next, ↓a_brk, ↓a_cont, ↓a_ifS, ↓a_ret, ↓a_retN, ↓a_drop, ↓a_asg, ↓a_name, ↓a_gnil, ↓a_gcons, ↓a_gtup2, ↓a_gtup3, ↓a_var0, ↓a_varS, ↓a_c, ↓a_op, ↓a_un, ↓a_nil, ↓a_cons, ↓a_cb, ↓a_tup, ↓a_lst, ↓a_lstM, ↓a_ife, ↓a_test, ↓a_and, ↓a_or, ↓a_not, ↓a_andV, ↓a_orV, ↓a_notV, ↓a_bl, ↓a_if1, ↓a_if0, ↓a_int, ↓a_int0, ↓a_addI, ↓a_addT, ↓a_addL, ↓a_addS, ↓a_mulI, ↓a_neg, ↓a_eqI, ↓a_isN, ↓a_ixT0, ↓a_ixL0, ↓a_ixT1, ↓a_ixL1, ↓a_ixT2, ↓a_ixL2, ↓a_nopart, ↓a_part, ↓a_intE, ↓a_sl, ↓a_slT, ↓a_slL, ↓a_lenT, ↓a_lenL, ↓a_lenM, ↓a_call, ↓a_for, ↓a_rg1, ↓a_rg1E, ↓a_seqI, ↓a_seqT, ↓a_seqL, ↓a_seqV, ↓a_comp, ↓a_compM, ↓a_emp, ↓a_tupL, ↓a_tupT, ↓a_lstL, ↓a_lstT, ↓a_yes, ↓a_ixV, ↓a_addV, ↓a_slV1, ↓a_slV2, ↓a_lenV, ↓a_ixN0, ↓a_ixN1, ↓a_ixN2, ↓a_ixP0, ↓a_ixP1, ↓a_ixK, ↓a_gP, ↓a_gN, ↓a_gl2, ↓a_gl3, ↓a_subI, ↓a_app, ↓a_refE, ↓a_ixTn0, ↓a_ixTn1, ↓a_ixTn2, ↓a_lstMN, ↓a_att, ↓a_zipB, ↓a_ltT, ↓a_abs, ↓a_lstRg, ↓a_tupRg, ↓a_r1, ↓a_r2, ↓a_r2E, ↓a_int1I, ↓a_int1B, ↓a_rg2, ↓a_i2E, ↓a_l2E, ↓a_l3E, ↓a_chain, ↓a_wipe0, ↓a_wipe1, ↓a_raise, ↓a_err, ↓a_errE, ↓a_par, ↓a_par3, ↓a_rem, ↓a_try, ↓a_callS, ↓a_slV3, ↓a_slV4, ↓a_lstV, ↓a_lstMV, ↓a_zip, ↓a_zipLL, ↓a_zipVV, ↓a_tab2, ↓a_make, ↓a_meth, ↓a_binI, ↓a_binJ, ↓a_binK, ↓a_negI, ↓a_sfld, ↓a_aug, ↓a_ipI, ↓a_ipII, ↓a_ipIJ, a_addT, a_ixT0, a_ixT1, a_ixT2, a_slT, a_lenT, a_seqT, a_seqV, a_lstT, a_ixV, a_addV, a_slV1, a_slV2, a_lenV, a_ixN0, a_ixN1, a_ixN2, a_ixP0, a_ixP1, a_ixK, a_gP, a_gN, a_mm, a_ixTn0, a_ixTn1, a_ixTn2, a_ltT, a_slV3, a_slV4, a_lstV, f_loop, f_nest, f_vec1, f_cut1, f_cut2, f_cut3, f_cut4, f_map1, f_map2, f_cnt, f_stp, p_addVT, p_addTV, ↓startD, ↓List.map_cons, ↓List.map_nil, List.length_cons, List.length_nil, Nat.reduceAdd, Nat.reduceSub, Nat.reduceLeDiff, Int.reducePow, Int.reduceNeg, Int.reduceLE, Int.reduceLT, List.replicate, ↓List.cons_append, ↓List.nil_append, List.set_cons_zero, List.set_cons_succ, true_and, and_true, ↓reduceIte, Bool.not_true, Bool.not_false, decide_true, decide_false, Bool.false_eq_true, if_false]
    exact ⟨n, ns, m, ms, rfl, hp, hp2, q1, q2⟩
  · try simp only [↓a_seq, ↓a_next, ↓a_brk, ↓a_cont, ↓a_ifS, ↓a_ret, ↓a_retN, ↓a_drop, ↓a_asg, ↓a_name, ↓a_gnil, ↓a_gcons, ↓a_gtup2, ↓a_gtup3, ↓a_var0, ↓a_varS, ↓a_c, ↓a_op, ↓a_un, ↓a_nil, ↓a_cons, ↓a_cb, ↓a_tup, ↓a_lst, ↓a_lstM, ↓a_ife, ↓a_test, ↓a_and, ↓a_or, ↓a_not, ↓a_andV, ↓a_orV, ↓a_notV, ↓a_bl, ↓a_if1, ↓a_if0, ↓a_int, ↓a_int0, ↓a_addI, ↓a_addT, ↓a_addL, ↓a_addS, ↓a_mulI, ↓a_neg, ↓a_eqI, ↓a_isN, ↓a_ixT0, ↓a_ixL0, ↓a_ixT1, ↓a_ixL1, ↓a_ixT2, ↓a_ixL2, ↓a_nopart, ↓a_part, ↓a_intE, ↓a_sl, ↓a_slT, ↓a_slL, ↓a_lenT, ↓a_lenL, ↓a_lenM, ↓a_call, ↓a_for, ↓a_rg1, ↓a_rg1E, ↓a_seqI, ↓a_seqT, ↓a_seqL, ↓a_seqV, ↓a_comp, ↓a_compM, ↓a_emp, ↓a_tupL, ↓a_tupT, ↓a_lstL, ↓a_lstT, ↓a_yes, ↓a_ixV, ↓a_addV, ↓a_slV1, ↓a_slV2, ↓a_lenV, ↓a_ixN0, ↓a_ixN1, ↓a_ixN2, ↓a_ixP0, ↓a_ixP1, ↓a_ixK, ↓a_gP, ↓a_gN, ↓a_gl2, ↓a_gl3, ↓a_subI, ↓a_app, ↓a_refE, ↓a_ixTn0, ↓a_ixTn1, ↓a_ixTn2, ↓a_lstMN, ↓a_att, ↓a_zipB, ↓a_ltT, ↓a_abs, ↓a_lstRg, ↓a_tupRg, ↓a_r1, ↓a_r2, ↓a_r2E, ↓a_int1I, ↓a_int1B, ↓a_rg2, ↓a_i2E, ↓a_l2E, ↓a_l3E, ↓a_chain, ↓a_wipe0, ↓a_wipe1, ↓a_raise, ↓a_err, ↓a_errE, ↓a_par, ↓a_par3, ↓a_rem, ↓a_try, ↓a_callS, ↓a_slV3, ↓a_slV4, ↓a_lstV, ↓a_lstMV, ↓a_zip, ↓a_zipLL, ↓a_zipVV, ↓a_tab2, ↓a_make, ↓a_meth, ↓a_binI, ↓a_binJ, ↓a_binK, ↓a_negI, ↓a_sfld, ↓a_aug, ↓a_ipI, ↓a_ipII, ↓a_ipIJ, a_addT, a_ixT0, a_ixT1, a_ixT2, a_slT, a_lenT, a_seqT, a_seqV, a_lstT, a_ixV, a_addV, a_slV1, a_slV2, a_lenV, a_ixN0, a_ixN1, a_ixN2, a_ixP0, a_ixP1, a_ixK, a_gP, a_gN, a_mm, a_ixTn0, a_ixTn1, a_ixTn2, a_ltT, a_slV3, a_slV4, a_lstV, f_loop, f_nest, f_vec1, f_cut1, f_cut2, f_cut3, f_cut4, f_map1, f_map2, f_cnt, f_stp, p_addVT, p_addTV, ↓startD, ↓List.map_cons, ↓List.map_nil, List.length_cons, List.length_nil, Nat.reduceAdd, Nat.reduceSub, Nat.reduceLeDiff, Int.reducePow, Int.reduceNeg, Int.reduceLE, Int.reduceLT, List.replicate, ↓List.cons_append, ↓List.nil_append, List.set_cons_zero, List.set_cons_succ, true_and, and_true, ↓reduceIte, Bool.not_true, Bool.not_false, decide_true, decide_false, Bool.false_eq_true, if_false, red_Pm_mul]
    refine isQ_int T.kn_Program ⟨_, rfl, ?_⟩
    try simp only [↓a_seq, ↓a_next, ↓a_brk, ↓a_cont, ↓a_ifS, ↓a_ret, ↓a_retN, ↓a_drop, ↓a_asg, ↓a_name, ↓a_gnil, ↓a_gcons, ↓a_gtup2, ↓a_gtup3, ↓a_var0, ↓a_varS, ↓a_c, ↓a_op, ↓a_un, ↓a_nil, ↓a_cons, ↓a_cb, ↓a_tup, ↓a_lst, ↓a_lstM, ↓a_ife, ↓a_test, ↓a_and, ↓a_or, ↓a_not, ↓a_andV, ↓a_orV, ↓a_notV, ↓a_bl, ↓a_if1, ↓a_if0, ↓a_int, ↓a_int0, ↓a_addI, ↓a_addT, ↓a_addL, ↓a_addS, ↓a_mulI, ↓a_neg, ↓a_eqI, ↓a_isN, ↓a_ixT0, ↓a_ixL0, ↓a_ixT1, ↓a_ixL1, ↓a_ixT2, ↓a_ixL2, ↓a_nopart, ↓a_part, ↓a_intE, ↓a_sl, ↓a_slT, ↓a_slL, ↓a_lenT, ↓a_lenL, ↓a_lenM, ↓a_call, ↓a_for, ↓a_rg1, ↓a_rg1E, ↓a_seqI, ↓a_seqT, ↓a_seqL, ↓a_seqV, ↓a_comp, ↓a_compM, ↓a_emp, ↓a_tupL, ↓a_tupT, ↓a_lstL, ↓a_lstT, ↓a_yes, ↓a_ixV, ↓a_addV, ↓a_slV1, ↓a_slV2, ↓a_lenV, ↓a_ixN0, ↓a_ixN1, ↓a_ixN2, ↓a_ixP0, ↓a_ixP1, ↓a_ixK, ↓a_gP, ↓a_gN, ↓a_gl2, ↓a_gl3, ↓a_subI, ↓a_app, ↓a_refE, ↓a_ixTn0, ↓a_ixTn1, ↓a_ixTn2, ↓a_lstMN, ↓a_att, ↓a_zipB, ↓a_ltT, ↓a_abs, ↓a_lstRg, ↓a_tupRg, ↓a_r1, ↓a_r2, ↓a_r2E, ↓a_int1I, ↓a_int1B, ↓a_rg2, ↓a_i2E, ↓a_l2E, ↓a_l3E, ↓a_chain, ↓a_wipe0, ↓a_wipe1, ↓a_raise, ↓a_err, ↓a_errE, ↓a_par, ↓a_par3, ↓a_rem, ↓a_try, ↓a_callS, ↓a_slV3, ↓a_slV4, ↓a_lstV, ↓a_lstMV, ↓a_zip, ↓a_zipLL, ↓a_zipVV, ↓a_tab2, ↓a_make, ↓a_meth, ↓a_binI, ↓a_binJ, ↓a_binK, ↓a_negI, ↓a_sfld, ↓a_aug, ↓a_ipI, ↓a_ipII, ↓a_ipIJ, a_addT, a_ixT0, a_ixT1, a_ixT2, a_slT, a_lenT, a_seqT, a_seqV, a_lstT, a_ixV, a_addV, a_slV1, a_slV2, a_lenV, a_ixN0, a_ixN1, a_ixN2, a_ixP0, a_ixP1, a_ixK, a_gP, a_gN, a_mm, a_ixTn0, a_ixTn1, a_ixTn2, a_ltT, a_slV3, a_slV4, a_lstV, f_loop, f_nest, f_vec1, f_cut1, f_cut2, f_cut3, f_cut4, f_map1, f_map2, f_cnt, f_stp, p_addVT, p_addTV, ↓startD, ↓List.map_cons, ↓List.map_nil, List.length_cons, List.length_nil, Nat.reduceAdd, Nat.reduceSub, Nat.reduceLeDiff, Int.reducePow, Int.reduceNeg, Int.reduceLE, Int.reduceLT, List.replicate, ↓List.cons_append, ↓List.nil_append, List.set_cons_zero, List.set_cons_succ, true_and, and_true, ↓reduceIte, Bool.not_true, Bool.not_false, decide_true, decide_false, Bool.false_eq_true, if_false]
    refine ⟨_, rfl, (int_pl (by unfold Sm at hk; omega) (by unfold Sm at hk; omega)).pv, ?_⟩
    rw [show isWhole (.int k) = true from rfl]
    refine ⟨_, rfl, ?_⟩
    try simp only [↓a_seq, ↓a_next, ↓a_brk, ↓a_cont, ↓a_ifS, ↓a_ret, ↓a_retN, ↓a_drop, ↓a_asg, ↓a_name, ↓a_gnil, ↓a_gcons, ↓a_gtup2, ↓a_gtup3, ↓a_var0, ↓a_varS, ↓a_c, ↓a_op, ↓a_un, ↓a_nil, ↓a_cons, ↓a_cb, ↓a_tup, ↓a_lst, ↓a_lstM, ↓a_ife, ↓a_test, ↓a_and, ↓a_or, ↓a_not, ↓a_andV, ↓a_orV, ↓a_notV, ↓a_bl, ↓a_if1, ↓a_if0, ↓a_int, ↓a_int0, ↓a_addI, ↓a_addT, ↓a_addL, ↓a_addS, ↓a_mulI, ↓a_neg, ↓a_eqI, ↓a_isN, ↓a_ixT0, ↓a_ixL0, ↓a_ixT1, ↓a_ixL1, ↓a_ixT2, ↓a_ixL2, ↓a_nopart, ↓a_part, ↓a_intE, ↓a_sl, ↓a_slT, ↓a_slL, ↓a_lenT, ↓a_lenL, ↓a_lenM, ↓a_call, ↓a_for, ↓a_rg1, ↓a_rg1E, ↓a_seqI, ↓a_seqT, ↓a_seqL, ↓a_seqV, ↓a_comp, ↓a_compM, ↓a_emp, ↓a_tupL, ↓a_tupT, ↓a_lstL, ↓a_lstT, ↓a_yes, ↓a_ixV, ↓a_addV, ↓a_slV1, ↓a_slV2, ↓a_lenV, ↓a_ixN0, ↓a_ixN1, ↓a_ixN2, ↓a_ixP0, ↓a_ixP1, ↓a_ixK, ↓a_gP, ↓a_gN, ↓a_gl2, ↓a_gl3, ↓a_subI, ↓a_app, ↓a_refE, ↓a_ixTn0, ↓a_ixTn1, ↓a_ixTn2, ↓a_lstMN, ↓a_att, ↓a_zipB, ↓a_ltT, ↓a_abs, ↓a_lstRg, ↓a_tupRg, ↓a_r1, ↓a_r2, ↓a_r2E, ↓a_int1I, ↓a_int1B, ↓a_rg2, ↓a_i2E, ↓a_l2E, ↓a_l3E, ↓a_chain, ↓a_wipe0, ↓a_wipe1, ↓a_raise, ↓a_err, ↓a_errE, ↓a_par, ↓a_par3, ↓a_rem, ↓a_try, ↓a_callS, ↓a_slV3, ↓a_slV4, ↓a_lstV, ↓a_lstMV, ↓a_zip, ↓a_zipLL, ↓a_zipVV, ↓a_tab2, ↓a_make, ↓a_meth, ↓a_binI, ↓a_binJ, ↓a_binK, ↓a_negI, ↓a_sfld, ↓a_aug, ↓a_ipI, ↓a_ipII, ↓a_ipIJ, a_addT, a_ixT0, a_ixT1, a_ixT2, a_slT, a_lenT, a_seqT, a_seqV, a_lstT, a_ixV, a_addV, a_slV1, a_slV2, a_lenV, a_ixN0, a_ixN1, a_ixN2, a_ixP0, a_ixP1, a_ixK, a_gP, a_gN, a_mm, a_ixTn0, a_ixTn1, a_ixTn2, a_ltT, a_slV3, a_slV4, a_lstV, f_loop, f_nest, f_vec1, f_cut1, f_cut2, f_cut3, f_cut4, f_map1, f_map2, f_cnt, f_stp, p_addVT, p_addTV, ↓startD, ↓List.map_cons, ↓List.map_nil, List.length_cons, List.length_nil, Nat.reduceAdd, Nat.reduceSub, Nat.reduceLeDiff, Int.reducePow, Int.reduceNeg, Int.reduceLE, Int.reduceLT, List.replicate, ↓List.cons_append, ↓List.nil_append, List.set_cons_zero, List.set_cons_succ, true_and, and_true, ↓reduceIte, Bool.not_true, Bool.not_false, decide_true, decide_false, Bool.false_eq_true, if_false]
    exact ⟨n, ns, k, rfl, hp, hp2, hk, q⟩
theorem ok_Pm_mul (T : Tx K mg) : FnOk P w K mg base (L2.CX P w) 8 T.f_Pm_mul T.fd_Pm_mul P_Pm_mul (spD (spMul K mg T)) :=
  fnXD T.F_Pm_mul sc_Pm_mul (fun _ _ _ _ h => by rcases h with ⟨_, _, _, _, rfl, _⟩ | ⟨_, _, _, rfl, _⟩ <;> rfl) fun cdv A outer s H E hr => let ⟨t, h1, h2⟩ := (red_Pm_mul P w base T).2 cdv A outer s H E hr; ⟨t, h1, fun AM Y hx => ⟨_, h2 AM Y hx, body_Pm_mul T Y⟩⟩
end
end K11
namespace K11
open PySem PySem.Spec PyProof.Rows L2 DL
section
variable {P : Program} {w : World} {K : PySem.W.Frag} {mg : Str → Option Value} {base : Heap}
noncomputable def red_Pm_rmul (P : Program) (w : World) (base : Heap) (T : Tx K mg) : { ds : KX → DS // ∀ (cdv : Value) (A : Around) (outer : List Env) (s : Shared) (H : Hp) (E : XK), Room 7 (A.deeper (envOfC "Program.__rmul__" (defScope s_Pm_rmul) s.heap.objs.size T.f_Pm_rmul cdv)) →
    ∃ t, PSs (cxOf CX0 P w K mg base N_Pm_rmul "Program.__rmul__" (defScope s_Pm_rmul) T.f_Pm_rmul cdv A outer s H E).nox (defBody s_Pm_rmul) t ∧ ∀ (AM : Amb) (Y : KX), LiftS t (ds Y) } :=
  ⟨_, fun cdv A outer s H E hr => by
    have hu := hr.units
    haveI : Amb := amb0
    have sc := sc_Pm_rmul
    exact ⟨_, (pss_cons (ps_if (pt_val ((pe_call (ok_is_whole T) (hr.mono (by decide)) rfl T.g_is_whole T.F_is_whole.kp T.b_is_whole .nil pass0 (pa_cons (pv 1) pa_nil)))) (pss_one (ps_ret ((pe_call (ok_with_amounts T) (hr.mono (by decide)) rfl T.g_with_amounts T.F_with_amounts.kp T.b_with_amounts .nil pass0 (pa_cons (pv 0) (pa_cons (pv 1) pa_nil)))))) pss_nil) (pss_one ps_dead)), fun AM Y => (ls_seq (ls_if (l_tB ((l_call XOk.never (l_cons (l_var) l_nil)))) (ls_ret ((l_call XOk.never (l_cons (l_var) (l_cons (l_var) l_nil))))) ls_next) ls_dead)⟩⟩
end
end K11
namespace K11
open PySem PySem.Spec PyProof.Rows L2 DL
section
variable {P : Program} {w : World} {K : PySem.W.Frag} {mg : Str → Option Value} {base : Heap}
theorem body_Pm_rmul (T : Tx K mg) (Y : KX) : ∀ xs μ Kk, (spAmounts K mg T) xs μ Kk Y → (red_Pm_rmul P w base T).1 Y { nx := fun _ μ' => Kk .non μ', rt := Kk } (startD N_Pm_rmul xs) μ := by
  intro xs μ Kk h
  haveI : Amb := amb0
  obtain ⟨n, ns, k, rfl, hp, hp2, hk, q⟩ := h
  try simp only [↓a_seq, ↓a_next, ↓a_brk, ↓a_cont, ↓a_ifS, ↓a_ret, ↓a_retN, ↓a_drop, ↓a_asg, ↓a_name, ↓a_gnil, ↓a_gcons, ↓a_gtup2, ↓a_gtup3, ↓a_var0, ↓a_varS, ↓a_c, ↓a_op, ↓a_un, ↓a_nil, ↓a_cons, ↓a_cb, ↓a_tup, ↓a_lst, ↓a_lstM, ↓a_ife, ↓a_test, ↓a_and, ↓a_or, ↓a_not, ↓a_andV, ↓a_orV, ↓a_notV, ↓a_bl, ↓a_if1, ↓a_if0, ↓a_int, ↓a_int0, ↓a_addI, ↓a_addT, ↓a_addL, ↓a_addS, ↓a_mulI, ↓a_neg, ↓a_eqI, ↓a_isN, ↓a_ixT0, ↓a_ixL0, ↓a_ixT1, ↓a_ixL1, ↓a_ixT2, ↓a_ixL2, ↓a_nopart, ↓a_part, ↓a_intE, ↓a_sl, ↓a_slT, ↓a_slL, ↓a_lenT, ↓a_lenL, ↓a_lenM, ↓a_call, ↓a_for, ↓a_rg1, ↓a_rg1E, ↓a_seqI, ↓a_seqT, ↓a_seqL, ↓a_seqV, ↓a_comp, ↓a_compM, ↓a_emp, ↓a_tupL, ↓a_tupT, ↓a_lstL, ↓a_lstT, ↓a_yes, ↓a_ixV, ↓a_addV, ↓a_slV1, ↓a_slV2, ↓a_lenV, ↓a_ixN0, ↓a_ixN1, ↓a_ixN2, ↓a_ixP0, ↓a_ixP1, ↓a_ixK, ↓a_gP, ↓a_gN, ↓a_gl2, ↓a_gl3, ↓a_subI, ↓a_app, ↓a_refE, ↓a_ixTn0, ↓a_ixTn1, ↓a_ixTn2, ↓a_lstMN, ↓a_att, ↓a_zipB, ↓a_ltT, ↓a_abs, ↓a_lstRg, ↓a_tupRg, ↓a_r1, ↓a_r2, ↓a_r2E, ↓a_int1I, ↓a_int1B, ↓a_rg2, ↓a_i2E, ↓a_l2E, ↓a_l3E, ↓a_chain, ↓a_wipe0, ↓a_wipe1, ↓a_raise, ↓a_err, ↓a_errE, ↓a_par, ↓a_par3, ↓a_rem, ↓a_try, ↓a_callS, ↓a_slV3, ↓a_slV4, ↓a_lstV, ↓a_lstMV, ↓a_zip, ↓a_zipLL, ↓a_zipVV, ↓a_tab2, ↓a_make, ↓a_meth, ↓a_binI, ↓a_binJ, ↓a_binK, ↓a_negI, ↓a_sfld, ↓a_aug, ↓a_ipI, ↓a_ipII, ↓a_ipIJ, a_addT, a_ixT0, a_ixT1, a_ixT2, a_slT, a_lenT, a_seqT, a_seqV, a_lstT, a_ixV, a_addV, a_slV1, a_slV2, a_lenV, a_ixN0, a_ixN1, a_ixN2, a_ixP0, a_ixP1, a_ixK, a_gP, a_gN, a_mm, a_ixTn0, a_ixTn1, a_ixTn2, a_ltT, a_slV3, a_slV4, a_lstV, f_loop, f_nest, f_vec1, f_cut1, f_cut2, f_cut3, f_cut4, f_map1, f_map2, f_cnt, f_stp, p_addVT, p_addTV, ↓startD, ↓List.map_cons, ↓List.map_nil, List.length_cons, List.length_nil, Nat.reduceAdd, Nat.reduceSub, Nat.reduceLeDiff, Int.reducePow, Int.reduceNeg, Int.reduceLE, Int.reduceLT, List.replicate, ↓List.cons_append, ↓List.nil_append, List.set_cons_zero, List.set_cons_succ, true_and, and_true, ↓reduceIte, Bool.not_true, Bool.not_false, decide_true, decide_false, Bool.false_eq_true, if_false, red_Pm_rmul]
  refine ⟨_, rfl, (int_pl (by unfold Sm at hk; omega) (by unfold Sm at hk; omega)).pv, ?_⟩
  rw [show isWhole (.int k) = true from rfl]
  refine ⟨_, rfl, ?_⟩
  try simp only [↓a_seq, ↓a_next, ↓a_brk, ↓a_cont, ↓a_ifS, ↓a_ret, ↓a_retN, ↓a_drop, ↓a_asg, ↓a_name, ↓a_gnil, ↓a_gcons, ↓a_gtup2, ↓a_gtup3, ↓a_var0, ↓a_varS, ↓a_c, ↓a_op, ↓a_un, ↓a_nil, ↓a_cons, ↓a_cb, ↓a_tup, ↓a_lst, ↓a_lstM, ↓a_ife, ↓a_test, ↓a_and, ↓a_or, ↓a_not, ↓a_andV, ↓a_orV, ↓a_notV, ↓a_bl, ↓a_if1, ↓a_if0, ↓a_int, ↓a_int0, ↓a_addI, ↓a_addT, ↓a_addL, ↓a_addS, ↓a_mulI, ↓a_neg, ↓a_eqI, ↓a_isN, ↓a_ixT0, ↓a_ixL0, ↓a_ixT1, ↓a_ixL1, ↓a_ixT2, ↓a_ixL2, ↓a_nopart, ↓a_part, ↓a_intE, ↓a_sl, ↓a_slT, ↓a_slL, ↓a_lenT, ↓a_lenL, ↓a_lenM, ↓a_call, ↓a_for, ↓a_rg1, ↓a_rg1E, ↓a_seqI, ↓a_seqT, ↓a_seqL, ↓a_seqV, ↓a_comp, ↓a_compM, ↓a_emp, ↓a_tupL, ↓a_tupT, ↓a_lstL, ↓a_lstT, ↓a_yes, ↓a_ixV, ↓a_addV, ↓a_slV1, ↓a_slV2, ↓a_lenV, ↓a_ixN0, ↓a_ixN1, ↓a_ixN2, ↓a_ixP0, ↓a_ixP1, ↓a_ixK, ↓a_gP, ↓a_gN, ↓a_gl2, ↓a_gl3, ↓a_subI, ↓a_app, ↓a_refE, ↓a_ixTn0, ↓a_ixTn1, ↓a_ixTn2, ↓a_lstMN, ↓a_att, ↓a_zipB, ↓a_ltT, ↓a_abs, ↓a_lstRg, ↓a_tupRg, ↓a_r1, ↓a_r2, ↓a_r2E, ↓a_int1I, ↓a_int1B, ↓a_rg2, ↓a_i2E, ↓a_l2E, ↓a_l3E, ↓a_chain, ↓a_wipe0, ↓a_wipe1, ↓a_raise, ↓a_err, ↓a_errE, ↓a_par, ↓a_par3, ↓a_rem, ↓a_try, ↓a_callS, ↓a_slV3, ↓a_slV4, ↓a_lstV, ↓a_lstMV, ↓a_zip, ↓a_zipLL, ↓a_zipVV, ↓a_tab2, ↓a_make, ↓a_meth, ↓a_binI, ↓a_binJ, ↓a_binK, ↓a_negI, ↓a_sfld, ↓a_aug, ↓a_ipI, ↓a_ipII, ↓a_ipIJ, a_addT, a_ixT0, a_ixT1, a_ixT2, a_slT, a_lenT, a_seqT, a_seqV, a_lstT, a_ixV, a_addV, a_slV1, a_slV2, a_lenV, a_ixN0, a_ixN1, a_ixN2, a_ixP0, a_ixP1, a_ixK, a_gP, a_gN, a_mm, a_ixTn0, a_ixTn1, a_ixTn2, a_ltT, a_slV3, a_slV4, a_lstV, f_loop, f_nest, f_vec1, f_cut1, f_cut2, f_cut3, f_cut4, f_map1, f_map2, f_cnt, f_stp, p_addVT, p_addTV, ↓startD, ↓List.map_cons, ↓List.map_nil, List.length_cons, List.length_nil, Nat.reduceAdd, Nat.reduceSub, Nat.reduceLeDiff, Int.reducePow, Int.reduceNeg, Int.reduceLE, Int.reduceLT, List.replicate, ↓List.cons_append, ↓List.nil_append, List.set_cons_zero, List.set_cons_succ, true_and, and_true, ↓reduceIte, Bool.not_true, Bool.not_false, decide_true, decide_false, Bool.false_eq_true, if_false]
  exact ⟨n, ns, k, rfl, hp, hp2, hk, q⟩
theorem ok_Pm_rmul (T : Tx K mg) : FnOk P w K mg base CX0 8 T.f_Pm_rmul T.fd_Pm_rmul P_Pm_rmul (spD (spAmounts K mg T)) :=
  fn0D T.F_Pm_rmul sc_Pm_rmul (fun _ _ _ _ ⟨_, _, _, e, _⟩ => by rw [e]; rfl) fun cdv A outer s H E hr => let ⟨t, h1, h2⟩ := (red_Pm_rmul P w base T).2 cdv A outer s H E hr; ⟨t, h1, fun AM Y => ⟨_, h2 AM Y, body_Pm_rmul T Y⟩⟩
end
end K11
namespace K11
open PySem PySem.Spec PyProof.Rows L2 DL
section
variable {P : Program} {w : World} {K : PySem.W.Frag} {mg : Str → Option Value} {base : Heap}
theorem ok__law_mixed (T : Tx K mg) : FnOk P w K mg base CX0 1 T.f__law_mixed T.fd__law_mixed P__law_mixed (spD spMixed) :=
  fn0D T.F__law_mixed sc__law_mixed (fun _ _ _ _ ⟨_, _, e, _⟩ => by rw [e]; rfl) fun cdv A outer s H E hr => by
  have hu := hr.units
  haveI : Amb := amb0
  have sc := sc__law_mixed
  refine ⟨_, (pss_cons (ps_set (i := 2) sc.nd rfl (by first | exact Or.inl rfl | exact Or.inr rfl) ((pe_op op_mod ((pe_op op_addD ((pe_op op_addD ((pe_op op_addD ((pe_op op_mulD (pv 0) (pe_int))) ((pe_op op_mulD ((pe_op op_mulD (pe_int) (pv 1))) (pv 1))))) (pv 1))) (pe_int))) (pe_int)))) (pss_cons (ps_set (i := 2) sc.nd rfl (by first | exact Or.inl rfl | exact Or.inr rfl) ((pe_op op_mod ((pe_op op_addD ((pe_op op_mulD (pv 2) (pv 2))) (pe_int))) (pe_int)))) (pss_one (ps_ret ((pe_op op_mod ((pe_op op_mulD (pv 2) (pe_int))) (pe_int))))))), fun AM Y => ?_⟩
  refine ⟨_, (ls_seq (ls_asg ((l_op l2_mod ((l_op l2_add ((l_op l2_add ((l_op l2_add ((l_op l2_mul (l_var) (l_int))) ((l_op l2_mul ((l_op l2_mul (l_int) (l_var))) (l_var))))) (l_var))) (l_int))) (l_int))) lg_name) (ls_seq (ls_asg ((l_op l2_mod ((l_op l2_add ((l_op l2_mul (l_var) (l_var))) (l_int))) (l_int))) lg_name) (ls_ret ((l_op l2_mod ((l_op l2_mul (l_var) (l_int))) (l_int)))))), fun xs μ Kk h => ?_⟩
  obtain ⟨c, k, rfl, c0, c1, k0, k1, q⟩ := h
  refine ⟨.int c, rfl, mulS (by omega) (by omega) (by decide) (by decide), .int k, rfl, mulS (by decide) (by decide) (by omega) (by omega), .int k, rfl, mulS (by omega) (by omega) (by omega) (by omega), .int k, rfl, _, _, rfl, rfl, (by show (0 : Int) < _; decide), ?_⟩
  dsimp only
  generalize hz : (c * 1103515245 + 7919 * k * k + k + 1) % 2147483647 = z
  obtain ⟨z0, z1⟩ : 0 ≤ z ∧ z < 2147483647 := by rw [← hz]; exact mod_in (by decide)
  refine ⟨.int z, rfl, .int z, rfl, mulS (by omega) (by omega) (by omega) (by omega), _, _, rfl, rfl, (by show (0 : Int) < _; decide), ?_⟩
  dsimp only
  generalize hy : (z * z + 69621) % 2147483629 = y
  obtain ⟨y0, y1⟩ : 0 ≤ y ∧ y < 2147483629 := by rw [← hy]; exact mod_in (by decide)
  refine ⟨.int y, rfl, mulS (by omega) (by omega) (by decide) (by decide), _, _, rfl, rfl, (by show (0 : Int) < _; decide), ?_⟩
  obtain ⟨x0, x1⟩ := mod_in (i := y * 48271) (m := 2147483587) (by decide)
  exact q _ x0 x1
end
end K11
namespace K11
open PySem PySem.Spec PyProof.Rows L2 DL
section
variable {P : Program} {w : World} {K : PySem.W.Frag} {mg : Str → Option Value} {base : Heap}
theorem ok__law_purse (T : Tx K mg) : FnOk P w K mg base CX0 1 T.f__law_purse T.fd__law_purse P__law_purse (spD (spPurse K)) :=
  fn0D T.F__law_purse sc__law_purse (fun _ _ _ _ ⟨_, _, e, _⟩ => by rw [e]; rfl) fun cdv A outer s H E hr => by
  have hu := hr.units
  haveI : Amb := amb0
  have sc := sc__law_purse
  refine ⟨_, (pss_cons (ps_set (i := 2) sc.nd rfl (by first | exact Or.inl rfl | exact Or.inr rfl) ((pe_callB (cr_sum rfl) rfl T.n_sum (by decide +kernel) (pa_cons ((pe_slice sl_D (pv 0) (po_some (pv 1)) (po_some ((pe_op op_addD (pv 1) (pe_int)))))) pa_nil)))) (pss_one (ps_ret ((pe_lst (pa_cons ((pe_op op_mod ((pe_callB (call_max2D rfl) rfl T.n_max (by decide +kernel) (pa_cons ((pe_op op_sub (pv 2) ((pe_op op_powD (pe_int) (pe_int))))) (pa_cons (pe_int) pa_nil)))) ((pe_op op_powD ((pe_op op_powD (pe_int) (pe_int))) (pe_int))))) (pa_cons ((pe_op op_mod (pv 2) (pe_int))) (pa_cons ((pe_op op_mulD (pe_int) (pv 1))) pa_nil)))))))), fun AM Y => ?_⟩
  refine ⟨_, (ls_seq (ls_asg ((l_cb lc_sum (l_cons ((l_slS (l_var) (lo_some (l_var)) (lo_some ((l_op l2_add (l_var) (l_int)))))) l_nil))) lg_name) (ls_ret ((l_lstM (l_cons ((l_op l2_mod ((l_cb lc_max2 (l_cons ((l_op l2_sub (l_var) ((l_op l2_pow (l_int) (l_int))))) (l_cons (l_int) l_nil)))) ((l_op l2_pow ((l_op l2_pow (l_int) (l_int))) (l_int))))) (l_cons ((l_op l2_mod (l_var) (l_int))) (l_cons ((l_op l2_mul (l_int) (l_var))) l_nil))))))), fun xs μ Kk h => ?_⟩
  obtain ⟨ns, t, rfl, t0, t1, q⟩ := h
  refine ⟨_, rfl, _, rfl, _, rfl, _, rfl, _, rfl, ns, rfl, ?_⟩
  refine ⟨_, (ns.drop (HT.sIx (ns.map D.int).length 0 (some t))).take (HT.sIx (ns.map D.int).length (ns.map D.int).length (some (t + 1)) - HT.sIx (ns.map D.int).length 0 (some t)), rfl, ?_, ?_⟩
  · show some _ = some _
    unfold DL.cutD
    rw [List.map_take, List.map_drop]
  generalize ((ns.drop (HT.sIx (ns.map D.int).length 0 (some t))).take (HT.sIx (ns.map D.int).length (ns.map D.int).length (some (t + 1)) - HT.sIx (ns.map D.int).length 0 (some t))).sum = z
  refine ⟨.int z, rfl, 10, 18, rfl, rfl, ⟨by decide, by decide⟩, z, _, rfl, rfl, True.intro, _, _, rfl, 10, 60, rfl, rfl, ⟨by decide, by decide⟩, _, 10, rfl, rfl, ⟨by decide, by decide +kernel⟩, _, _, rfl, rfl, ?_, .int z, rfl, _, _, rfl, rfl, (by show (0 : Int) < _; decide), .int t, rfl, mulS (by decide) (by decide) (by omega) (by omega), (by show 3 ≤ 100000; decide), fun p hp => ?_⟩
  · exact Int.pow_pos (Int.pow_pos (by decide))
  · obtain ⟨x0, x1⟩ := mod_in (i := z) (m := 2147483647) (by decide)
    exact q p _ hp ⟨_, _, _, mup_same, x0, x1, by omega, by omega⟩
end
end K11
namespace K11
open PySem PySem.Spec PyProof.Rows L2 DL
section
variable {P : Program} {w : World} {K : PySem.W.Frag} {mg : Str → Option Value} {base : Heap}
theorem ok__law_draw (T : Tx K mg) : FnOk P w K mg base CX0 2 T.f__law_draw T.fd__law_draw P__law_draw (spD spDraw) :=
  fn0D T.F__law_draw sc__law_draw (fun _ _ _ _ ⟨_, _, _, e, _⟩ => by rw [e]; rfl) fun cdv A outer s H E hr => by
  have hu := hr.units
  haveI : Amb := amb0
  have sc := sc__law_draw
  refine ⟨_, (pss_cons (ps_if (pt_cmpR op_gt ((pe_ix ix_seq (pv 0) (pe_int) (fun _ _ => rfl))) (pe_int) (nomark _)) (pss_cons (ps_set (i := 2) sc.nd rfl (by first | exact Or.inl rfl | exact Or.inr rfl) ((pe_op op_mod ((pe_ix ix_seq (pv 0) (pe_int) (fun _ _ => rfl))) (pv 1)))) (pss_cons (ps_asg ((pe_op op_fdivW ((pe_ix ix_seq (pv 0) (pe_int) (fun _ _ => rfl))) (pv 1))) (pg_sub (pv 0) (pe_int) set_list)) (pss_one (ps_ret (pv 2))))) pss_nil) (pss_cons (ps_set (i := 3) sc.nd rfl (by first | exact Or.inl rfl | exact Or.inr rfl) (pe_int)) (pss_cons (ps_for PassesOwn.never rfl (pi_range1 rfl T.n_range (pa_cons ((pe_op op_addD (pe_int) ((pe_op op_fdivW ((pe_bits (pv 1))) (pe_int))))) pa_nil)) (pg_name (i := 4) sc.nd rfl (by first | exact Or.inl rfl | exact Or.inr rfl)) (pss_cons (ps_asg ((pe_op op_addD ((pe_ix ix_seq (pv 0) (pe_int) (fun _ _ => rfl))) (pe_int))) (pg_sub (pv 0) (pe_int) set_list)) (pss_one (ps_set (i := 3) sc.nd rfl (by first | exact Or.inl rfl | exact Or.inr rfl) ((pe_op op_addD ((pe_op op_mulD (pv 3) (pe_int))) ((pe_call (ok__law_mixed T) (hr.mono (by decide)) rfl T.g__law_mixed T.F__law_mixed.kp T.b__law_mixed .nil pass0 (pa_cons ((pe_ix ix_seq (pv 0) (pe_int) (fun _ _ => rfl))) (pa_cons ((pe_ix ix_seq (pv 0) (pe_int) (fun _ _ => rfl))) pa_nil)))))))))) (pss_one (ps_ret ((pe_op op_mod (pv 3) (pv 1)))))))), fun AM Y => ?_⟩
  refine ⟨_, (ls_seq (ls_if (l_test (l_op l2_gt ((l_op l2_ix (l_var) (l_int))) (l_int))) (ls_seq (ls_asg ((l_op l2_mod ((l_op l2_ix (l_var) (l_int))) (l_var))) lg_name) (ls_seq (ls_asg ((l_op l2_fdiv ((l_op l2_ix (l_var) (l_int))) (l_var))) (lg_sub (l_var) (l_int))) (ls_ret (l_var)))) ls_next) (ls_seq (ls_asg (l_int) lg_name) (ls_seq (ls_for (li_rg1 (l_cons ((l_op l2_add (l_int) ((l_op l2_fdiv ((l_bits (l_var))) (l_int))))) l_nil)) lg_name (ls_seq (ls_asg ((l_op l2_add ((l_op l2_ix (l_var) (l_int))) (l_int))) (lg_sub (l_var) (l_int))) (ls_asg ((l_op l2_add ((l_op l2_mul (l_var) (l_int))) ((l_call XOk.never (l_cons ((l_op l2_ix (l_var) (l_int))) (l_cons ((l_op l2_ix (l_var) (l_int))) l_nil)))))) lg_name))) (ls_ret ((l_op l2_mod (l_var) (l_var))))))), fun xs μ Kk h => ?_⟩
  obtain ⟨a, m, b, rfl, m1, m2, hb, ⟨p0, p1, p2, hm, p10, p11, p20, p2b⟩, q⟩ := h
  refine ⟨.val (.ref a), rfl, [.int p0, .int p1, .int p2], 0, .int p0, by show (match μ a with | some (.lst xs) => some xs | _ => none) = _; rw [hm], rfl, rfl, p0, 0, rfl, rfl, True.intro, _, rfl, and_if (fun e => ?_) fun e => ?_⟩
  · have e' : 0 < p0 := by simpa using e
    refine ⟨_, rfl, [.int p0, .int p1, .int p2], 0, .int p0, asS_m hm, rfl, rfl, _, rfl, p0, m, rfl, rfl, (by show (0 : Int) < m; omega), ?_⟩
    refine ⟨_, rfl, [.int p0, .int p1, .int p2], 0, .int p0, asS_m hm, rfl, rfl, _, rfl, p0, m, rfl, rfl, ⟨by omega, 250, by unfold Bt; omega, by decide, by decide⟩, ?_⟩
    refine ⟨_, rfl, a, _, 0, 0, rfl, rfl, hm, rfl, _, rfl, ?_⟩
    obtain ⟨x0, x1⟩ := mod_in (i := p0) (m := m) (by omega)
    exact q _ _ x0 x1 ⟨_, _, _, mup_same, p10, p11, p20, by omega⟩
  · have hbits : Builtin.Int.intBits m ≤ 200 := bits_le (by omega)
    refine ⟨_, rfl, m, rfl, _, 30, rfl, rfl, ⟨by decide, 8, by unfold Bt; decide, by decide, by decide⟩, _, rfl, ?_, ?_, ?_⟩
    · omega
    · omega
    have hn : (1 + (Builtin.Int.intBits m : Int) / 30).toNat ≤ 7 := by omega
    have e0 : mup μ a (.lst [.int p0, .int p1, .int p2]) = μ := mup_self hm
    refine loop_by (I := fun r ρ μ' => ∃ (num z : Int) (k : Option D), ρ = [some (.val (.ref a)), some (.int m), none, some (.int num), k] ∧ r.length ≤ 7 ∧ 0 ≤ num ∧ num < 2147483587 ^ (7 - r.length) ∧ μ' = mup μ a (.lst [.int p0, .int p1, .int z]) ∧ 0 ≤ z ∧ z + r.length ≤ b + 7)
      (fun _ _ _ _ => True.intro) ?_ ?_ _ _ _ ⟨0, p2, none, rfl, by rw [rgD_length]; exact hn, by decide, Int.pow_pos (by decide), e0.symm, p20, by rw [rgD_length]; omega⟩
    · rintro x r ρ μ' N ⟨num, z, k, rfl, hl, n0, n1, rfl, z0, z1⟩ hN
      simp only [List.length_cons] at hl n1 z1
      have hp : (2147483587 : Int) ^ (7 - (r.length + 1)) ≤ 2147483587 ^ 7 := pow7 (by omega)
      have hp2 : (2147483587 : Int) ^ (7 - r.length) = 2147483587 ^ (7 - (r.length + 1)) * 2147483587 := by rw [← Int.pow_succ]; congr 1; omega
      have hp3 : (2147483587 : Int) ^ 7 < 2 ^ 250 := by decide
      refine ⟨_, rfl, _, 2, .int z, asS_m mup_same, rfl, rfl, _, rfl, a, _, 2, 2, rfl, rfl, mup_same, rfl, ?_⟩
      rw [mup_mup]
      refine ⟨.int num, rfl, mulS (by omega) (by omega) (by decide) (by decide), _, rfl, [.int p0, .int p1, .int (z + 1)], 1, .int p1, asS_m mup_same, rfl, rfl, _, rfl, [.int p0, .int p1, .int (z + 1)], 2, .int (z + 1), asS_m mup_same, rfl, rfl, p1, z + 1, rfl, p10, p11, by omega, by omega, fun n n0' n1' => ?_⟩
      exact hN _ _ ⟨num * 2147483587 + n, z + 1, some x, rfl, by omega, by omega, by rw [hp2]; omega, rfl, by omega, by omega⟩
    · rintro ρ μ' ⟨num, z, k, rfl, hl, n0, n1, rfl, z0, z1⟩
      refine ⟨.int num, rfl, .int m, rfl, num, m, rfl, rfl, (by show (0 : Int) < m; omega), ?_⟩
      obtain ⟨x0, x1⟩ := mod_in (i := num) (m := m) (by omega)
      exact q _ _ x0 x1 ⟨_, _, _, mup_same, p10, p11, z0, by simp at z1; omega⟩
end
end K11
namespace K11
open PySem PySem.Spec PyProof.Rows L2 DL
section
variable {P : Program} {w : World} {K : PySem.W.Frag} {mg : Str → Option Value} {base : Heap}
theorem ok__law_cell_drawn (T : Tx K mg) : FnOk P w K mg base CX0 3 T.f__law_cell_drawn T.fd__law_cell_drawn P__law_cell_drawn (spD spCell) :=
  fn0D T.F__law_cell_drawn sc__law_cell_drawn (fun _ _ _ _ ⟨_, _, _, _, e, _⟩ => by rw [e]; rfl) fun cdv A outer s H E hr => by
  have hu := hr.units
  haveI : Amb := amb0
  have sc := sc__law_cell_drawn
  refine ⟨_, (pss_one (ps_ret ((pe_callTy call_tupD rfl T.n_tuple (by decide +kernel) (pa_cons ((pe_lc (own := [("_law_axis", 3)]) (g := (gName 3)) rfl sc.nd (pi_range1 rfl T.n_range (pa_cons (pv 1) pa_nil)) (blkOk_by (own := [("_law_axis", 3)]) (N := N__law_cell_drawn) (sc := defScope s__law_cell_drawn) (by decide +kernel)) (fun _ _ _ _ _ => (pg_name (i := 3) sc.nd rfl (by first | exact Or.inl rfl | exact Or.inr rfl))) (fun _ _ _ _ _ => pts_nil) (fun _ _ _ _ _ => (pe_op op_sub ((pe_call (ok__law_draw T) (hr.mono (by decide)) rfl T.g__law_draw T.F__law_draw.kp T.b__law_draw .nil pass0 (pa_cons (pv 0) (pa_cons ((pe_op (k_add (K := K) rfl) ((pe_op (k_mul (K := K) rfl) (pe_int) (pv 2))) (pe_int))) pa_nil)))) (pv 2))))) pa_nil))))), fun AM Y => ?_⟩
  refine ⟨_, (ls_ret ((l_cb lc_tuple (l_cons ((l_comp (li_rg1 (l_cons (l_var) l_nil)) (lgw_name (by decide)) l_yes ((l_op l2_sub ((l_call XOk.never (l_cons (l_var) (l_cons ((l_op l2_add ((l_op l2_mul (l_int) (l_var))) (l_int))) l_nil)))) (l_var))))) l_nil)))), fun xs μ Kk h => ?_⟩
  obtain ⟨a, n, w, b, rfl, n3, w0, w1, hb, hP, q⟩ := h
  have hna : ∀ c, μ c = none → a ≠ c := fun c hc e => by obtain ⟨_, _, _, z, _⟩ := hP; rw [e, hc] at z; cases z
  obtain ⟨l0, hl0⟩ : ∃ l0, μ a = some (.lst l0) := let ⟨_, _, _, z, _⟩ := hP; ⟨_, z⟩
  refine ⟨.int n, rfl, n, rfl, by omega, by omega, fun c hc => ?_⟩
  refine comp_inv (fun acc μ' => ∃ is : List Int, acc = is.map D.int ∧ (∀ i ∈ is, -w ≤ i ∧ i ≤ w) ∧ Pu (b + 10 * is.length) μ' a ∧ ∃ l, μ' = mup μ a (.lst l)) ?_ (fun _ _ _ => True.intro) ?_ (by rw [rgD_length]; omega) ⟨[], rfl, (fun _ h => nomatch h), hP.mono (by simp), l0, (mup_self hl0).symm⟩ ?_
  · rintro acc μ' ⟨is, _, _, _, l, rfl⟩
    rw [mup_ne (hna c hc).symm]; exact hc
  · rintro x hx acc μ' L hl ⟨is, rfl, hi, hPu, l, rfl⟩ hL
    rw [List.length_map] at hl
    refine ⟨.val (.ref a), rfl, .int w, rfl, mulS (by decide) (by decide) (by omega) (by omega), a, 2 * w + 1, b + 10 * is.length, rfl, by omega, by omega, by omega, hPu.up (hna c hc), fun n l2 n0 n1 hP2 => ?_⟩
    rw [mup_comm (hna c hc).symm, mup_mup] at hP2 ⊢
    refine ⟨.int w, rfl, n, w, rfl, rfl, True.intro, hL _ _ ⟨is ++ [n - w], by simp, ?_, ?_, l2, rfl⟩⟩
    · intro i hi'
      rcases List.mem_append.1 hi' with h | h
      · exact hi i h
      · rw [List.mem_singleton.1 h]; omega
    · obtain ⟨p0, p1, p2, e, r⟩ := hP2
      rw [mup_ne (hna c hc)] at e
      exact ⟨p0, p1, p2, e, r.1, r.2.1, r.2.2.1, by simp; omega⟩
  · rintro r μ' ⟨is, rfl, hi, hPu, l, rfl⟩ hl
    rw [List.length_map, rgD_length] at hl
    refine ⟨_, is.map D.int, rfl, rfl, q _ _ ⟨is, rfl, by omega, hi⟩ (hPu.mono (by omega))⟩
end
end K11
namespace K11
open PySem PySem.Spec PyProof.Rows L2 DL
section
variable {P : Program} {w : World} {K : PySem.W.Frag} {mg : Str → Option Value} {base : Heap}
def spNestG : DSp := fun ds μ Q _ => ∃ (a : Addr) (n m : Nat) (c w b : Int), ds = [.val (.ref a), .int (n : Int), .int (m : Int), .int c, .int w] ∧ n ≤ 3 ∧ m ≤ 3 ∧ 1 ≤ c ∧ c < 2 ^ 190 ∧ 0 ≤ w ∧ w < 2 ^ 180 ∧ b ≤ 10 ^ 6 ∧ Pu b μ a ∧
  ∀ (N : NestD) μ', N.place.length = n → N.loops.length ≤ m → (∀ x ∈ N.loops, 0 ≤ x.1 ∧ x.1 < c ∧ x.2.length = n ∧ ∀ i ∈ x.2, -w ≤ i ∧ i ≤ w) → (∀ i ∈ N.place, -(2 * w) ≤ i ∧ i ≤ 2 * w) → -3 ≤ N.amount → N.amount ≤ 3 → SubX a μ μ' → Pu (b + 300) μ' a → Q N.d μ'
end
end K11
namespace K11
open PySem PySem.Spec PyProof.Rows L2 DL
section
variable {P : Program} {w : World} {K : PySem.W.Frag} {mg : Str → Option Value} {base : Heap}
theorem ok__law_nest_drawn (T : Tx K mg) : FnOk P w K mg base CX0 4 T.f__law_nest_drawn T.fd__law_nest_drawn P__law_nest_drawn (spD spNestG) :=
  fn0D T.F__law_nest_drawn sc__law_nest_drawn (fun _ _ _ _ ⟨_, _, _, _, _, _, e, _⟩ => by rw [e]; rfl) fun cdv A outer s H E hr => by
  have hu := hr.units
  haveI : Amb := amb0
  have sc := sc__law_nest_drawn
  refine ⟨_, (pss_cons (ps_set (i := 5) sc.nd rfl (by first | exact Or.inl rfl | exact Or.inr rfl) ((pe_lst pa_nil))) (pss_cons (ps_for PassesOwn.never rfl (pi_range1 rfl T.n_range (pa_cons ((pe_call (ok__law_draw T) (hr.mono (by decide)) rfl T.g__law_draw T.F__law_draw.kp T.b__law_draw .nil pass0 (pa_cons (pv 0) (pa_cons ((pe_op op_addD (pv 2) (pe_int))) pa_nil)))) pa_nil)) (pg_name (i := 6) sc.nd rfl (by first | exact Or.inl rfl | exact Or.inr rfl)) (pss_one (ps_expr ((pe_bm PySem.F.plainAttrs_list PySem.F.slot_list_append PySem.F.type_list_append mt_append (pv 5) (pa_cons ((pe_tup (pa_cons ((pe_call (ok__law_draw T) (hr.mono (by decide)) rfl T.g__law_draw T.F__law_draw.kp T.b__law_draw .nil pass0 (pa_cons (pv 0) (pa_cons (pv 3) pa_nil)))) (pa_cons ((pe_call (ok__law_cell_drawn T) (hr.mono (by decide)) rfl T.g__law_cell_drawn T.F__law_cell_drawn.kp T.b__law_cell_drawn .nil pass0 (pa_cons (pv 0) (pa_cons (pv 1) (pa_cons (pv 4) pa_nil))))) pa_nil)))) pa_nil)))))) (pss_one (ps_ret ((pe_tup (pa_cons (pv 5) (pa_cons ((pe_call (ok__law_cell_drawn T) (hr.mono (by decide)) rfl T.g__law_cell_drawn T.F__law_cell_drawn.kp T.b__law_cell_drawn .nil pass0 (pa_cons (pv 0) (pa_cons (pv 1) (pa_cons ((pe_op op_mulD (pe_int) (pv 4))) pa_nil))))) (pa_cons ((pe_op op_sub ((pe_call (ok__law_draw T) (hr.mono (by decide)) rfl T.g__law_draw T.F__law_draw.kp T.b__law_draw .nil pass0 (pa_cons (pv 0) (pa_cons (pe_int) pa_nil)))) (pe_int))) pa_nil))))))))), fun AM Y => ?_⟩
  refine ⟨_, (ls_seq (ls_asg ((l_lstM l_nil)) lg_name) (ls_seq (ls_for (li_rg1 (l_cons ((l_call XOk.never (l_cons (l_var) (l_cons ((l_op l2_add (l_var) (l_int))) l_nil)))) l_nil)) lg_name (ls_drop ((l_app (l_var) ((l_tup (l_cons ((l_call XOk.never (l_cons (l_var) (l_cons (l_var) l_nil)))) (l_cons ((l_call XOk.never (l_cons (l_var) (l_cons (l_var) (l_cons (l_var) l_nil))))) l_nil)))))))) (ls_ret (l_frz (i := 5) ((l_tup (l_cons (l_var) (l_cons ((l_call XOk.never (l_cons (l_var) (l_cons (l_var) (l_cons ((l_op l2_mul (l_int) (l_var))) l_nil))))) (l_cons ((l_op l2_sub ((l_call XOk.never (l_cons (l_var) (l_cons (l_int) l_nil)))) (l_int))) l_nil))))))))), fun xs μ Kk h => ?_⟩
  obtain ⟨a, n, m, c, w, b, rfl, n3, m3, c1, c2, w0, w1, hb, hP, q⟩ := h
  have hna : ∀ c, μ c = none → a ≠ c := fun c hc e => by obtain ⟨_, _, _, z, _⟩ := hP; rw [e, hc] at z; cases z
  obtain ⟨l0, hl0⟩ : ∃ l0, μ a = some (.lst l0) := let ⟨_, _, _, z, _⟩ := hP; ⟨_, z⟩
  refine ⟨Nat.zero_le _, fun d hd => ?_⟩
  have had := hna d hd
  refine ⟨_, rfl, .int (m : Int), rfl, a, (m : Int) + 1, b, rfl, by omega, by omega, by omega, hP.up had, fun k l1 k0 k1 hP1 => ?_⟩
  refine ⟨k, rfl, by omega, by omega, ?_⟩
  refine loop_by (I := fun r ρ μ' => ∃ (ls l : List D) (x : Option D), ρ = [some (.val (.ref a)), some (.int n), some (.int (m : Int)), some (.int c), some (.int w), some (.val (.ref d)), x] ∧ μ' = mup (mup μ d (.lst ls)) a (.lst l) ∧ ls.length + r.length ≤ m ∧ (∀ y ∈ ls, LoopOk n c w y) ∧ Pu (b + 10 + 40 * ls.length) μ' a)
    (fun _ _ _ _ => True.intro) ?_ ?_ _ _ _ ⟨[], l1, none, rfl, rfl, by rw [rgD_length]; show 0 + _ ≤ m; omega, (fun _ h => nomatch h), hP1.mono (by simp)⟩
  · rintro x r ρ μ' N ⟨ls, l, y, rfl, rfl, hl, hls, hPu⟩ hN
    simp only [List.length_cons] at hl
    refine ⟨_, rfl, d, rfl, ⟨ls, by rw [mup_ne had.symm, mup_same]⟩, _, rfl, .int c, rfl, a, c, _, rfl, c1, by omega, ?_, hPu, fun i l2 i0 i1 hP2 => ?_⟩
    · omega
    rw [mup_mup] at hP2 ⊢
    refine ⟨_, rfl, .int n, rfl, .int w, rfl, a, n, w, _, rfl, n3, w0, by omega, ?_, hP2, fun s l3 hs hP3 => ?_⟩
    · omega
    rw [mup_mup] at hP3 ⊢
    refine ⟨by show 2 ≤ 100000; decide, ls, by rw [mup_ne had.symm, mup_same], by omega, hN _ _ ⟨ls ++ [.tup [.int i, s]], l3, some x, rfl, ?_, ?_, ?_, ?_⟩⟩
    · rw [mup_comm had.symm, mup_mup, mup_comm had.symm]
    · simp; omega
    · intro z hz
      rcases List.mem_append.1 hz with h | h
      · exact hls z h
      · rw [List.mem_singleton.1 h]; exact ⟨i, s, rfl, i0, i1, hs⟩
    · exact (hP3.up had).mono (by simp; omega)
  · rintro ρ μ' ⟨ls, l, y, rfl, rfl, hl, hls, hPu⟩
    have hl' : ls.length ≤ m := by simpa using hl
    refine ⟨d, ls, rfl, by rw [mup_ne had.symm, mup_same], ?_⟩
    rw [mup_comm had.symm] at hPu ⊢
    rw [mdel_mup (by rw [mup_ne had.symm]; exact hd)]
    have hPu' : Pu (b + 10 + 40 * ls.length) (mup μ a (.lst l)) a := let ⟨p0, p1, p2, e, r⟩ := hPu; ⟨p0, p1, p2, by rw [mup_ne had] at e; exact e, r⟩
    refine ⟨_, rfl, _, rfl, .int n, rfl, .int w, rfl, mulS (by decide) (by decide) (by omega) (by omega), a, n, 2 * w, _, rfl, n3, by omega, by omega, ?_, hPu', fun s l3 hs hP3 => ?_⟩
    · omega
    rw [mup_mup] at hP3 ⊢
    refine ⟨_, rfl, a, 7, _, rfl, by decide, by decide, ?_, hP3, fun i l4 i0 i1 hP4 => ?_⟩
    · omega
    rw [mup_mup] at hP4 ⊢
    obtain ⟨l5, rfl, hl5⟩ := loops_of hls
    obtain ⟨is5, rfl, e51, e52⟩ := cell_of hs
    exact ⟨i, 3, rfl, rfl, True.intro, by show 3 ≤ 100000; decide, q ⟨l5, is5, i - 3⟩ _ e51 (by simpa using hl') hl5 e52 (by show -3 ≤ i - 3; omega) (by show i - 3 ≤ 3; omega) SubX.refl.purse (hP4.mono (by omega))⟩
end
end K11
namespace K11
open PySem PySem.Spec PyProof.Rows L2 DL
section
variable {P : Program} {w : World} {K : PySem.W.Frag} {mg : Str → Option Value} {base : Heap}
def spTimesL : DSp := fun ds μ Q _ => ∃ (n : Nat) (ns : List NestD) (k : Int), ds = [.lst (ns.map NestD.d), .int k] ∧ POk n ns ∧ Sm k ∧ Q (.lst ((ns.map (timesN k)).map NestD.d)) μ
def spProdL : DSp := fun ds μ Q _ => ∃ (n : Nat) (ns ms : List NestD), ds = [.lst (ns.map NestD.d), .lst (ms.map NestD.d)] ∧ POk n ns ∧ POk n ms ∧ Q (.lst ((prodL ns ms).map NestD.d)) μ
end
end K11
namespace K11
open PySem PySem.Spec PyProof.Rows L2 DL
section
variable {P : Program} {w : World} {K : PySem.W.Frag} {mg : Str → Option Value} {base : Heap}
noncomputable def red__law_times (P : Program) (w : World) (base : Heap) (T : Tx K mg) : { ds : KX → DS // ∀ (cdv : Value) (A : Around) (outer : List Env) (s : Shared) (H : Hp) (E : XK), Room 0 (A.deeper (envOfC "_law_times" (defScope s__law_times) s.heap.objs.size T.f__law_times cdv)) →
    ∃ t, PSs (cxOf CX0 P w K mg base N__law_times "_law_times" (defScope s__law_times) T.f__law_times cdv A outer s H E).nox (defBody s__law_times) t ∧ ∀ (AM : Amb) (Y : KX), LiftS t (ds Y) } :=
  ⟨_, fun cdv A outer s H E hr => by
    have hu := hr.units
    haveI : Amb := amb0
    have sc := sc__law_times
    exact ⟨_, (pss_one (ps_ret ((pe_lc (own := [("_law_loops", 2), ("_law_place", 3), ("_law_amount", 4)]) (g := (gTup K 3 (gCons (gName 2) (gCons (gName 3) (gCons (gName 4) gNil))))) rfl sc.nd (pi_seq (pv 0)) (blkOk_by (own := [("_law_loops", 2), ("_law_place", 3), ("_law_amount", 4)]) (N := N__law_times) (sc := defScope s__law_times) (by decide +kernel)) (fun _ _ _ _ _ => (pg_tup (n := 3) rfl (pgs_cons (pg_name (i := 2) sc.nd rfl (by first | exact Or.inl rfl | exact Or.inr rfl)) (pgs_cons (pg_name (i := 3) sc.nd rfl (by first | exact Or.inl rfl | exact Or.inr rfl)) (pgs_cons (pg_name (i := 4) sc.nd rfl (by first | exact Or.inl rfl | exact Or.inr rfl)) pgs_nil))))) (fun _ _ _ _ _ => pts_nil) (fun _ _ _ _ _ => (pe_tup (pa_cons (pv 2) (pa_cons (pv 3) (pa_cons ((pe_op (k_mul (K := K) rfl) (pv 4) (pv 1))) pa_nil))))))))), fun AM Y => (ls_ret ((l_comp (li_seq (l_var)) (lgw_tup (lgsw_cons (lgw_name (by decide)) (lgsw_cons (lgw_name (by decide)) (lgsw_cons (lgw_name (by decide)) lgsw_nil)))) l_yes ((l_tup (l_cons (l_var) (l_cons (l_var) (l_cons ((l_op l2_mul (l_var) (l_var))) l_nil))))))))⟩⟩
end
end K11
namespace K11
open PySem PySem.Spec PyProof.Rows L2 DL
section
variable {P : Program} {w : World} {K : PySem.W.Frag} {mg : Str → Option Value} {base : Heap}
theorem body__law_times (T : Tx K mg) (Y : KX) : ∀ xs μ Kk, spTimesL xs μ Kk Y → (red__law_times P w base T).1 Y { nx := fun _ μ' => Kk .non μ', rt := Kk } (startD N__law_times xs) μ := by
  intro xs μ Kk h
  haveI : Amb := amb0
  obtain ⟨n, ns, k, rfl, hp, hk, q⟩ := h
  try simp only [↓a_seq, ↓a_next, ↓a_brk, ↓a_cont, ↓a_ifS, ↓a_ret, ↓a_retN, ↓a_drop, ↓a_asg, ↓a_name, ↓a_gnil, ↓a_gcons, ↓a_gtup2, ↓a_gtup3, ↓a_var0, ↓a_varS, ↓a_c, ↓a_op, ↓a_un, ↓a_nil, ↓a_cons, ↓a_cb, ↓a_tup, ↓a_lst, ↓a_lstM, ↓a_ife, ↓a_test, ↓a_and, ↓a_or, ↓a_not, ↓a_andV, ↓a_orV, ↓a_notV, ↓a_bl, ↓a_if1, ↓a_if0, ↓a_int, ↓a_int0, ↓a_addI, ↓a_addT, ↓a_addL, ↓a_addS, ↓a_mulI, ↓a_neg, ↓a_eqI, ↓a_isN, ↓a_ixT0, ↓a_ixL0, ↓a_ixT1, ↓a_ixL1, ↓a_ixT2, ↓a_ixL2, ↓a_nopart, ↓a_part, ↓a_intE, ↓a_sl, ↓a_slT, ↓a_slL, ↓a_lenT, ↓a_lenL, ↓a_lenM, ↓a_call, ↓a_for, ↓a_rg1, ↓a_rg1E, ↓a_seqI, ↓a_seqT, ↓a_seqL, ↓a_seqV, ↓a_comp, ↓a_compM, ↓a_emp, ↓a_tupL, ↓a_tupT, ↓a_lstL, ↓a_lstT, ↓a_yes, ↓a_ixV, ↓a_addV, ↓a_slV1, ↓a_slV2, ↓a_lenV, ↓a_ixN0, ↓a_ixN1, ↓a_ixN2, ↓a_ixP0, ↓a_ixP1, ↓a_ixK, ↓a_gP, ↓a_gN, ↓a_gl2, ↓a_gl3, ↓a_subI, ↓a_app, ↓a_refE, ↓a_ixTn0, ↓a_ixTn1, ↓a_ixTn2, ↓a_lstMN, ↓a_att, ↓a_zipB, ↓a_ltT, ↓a_abs, ↓a_lstRg, ↓a_tupRg, ↓a_r1, ↓a_r2, ↓a_r2E, ↓a_int1I, ↓a_int1B, ↓a_rg2, ↓a_i2E, ↓a_l2E, ↓a_l3E, ↓a_chain, ↓a_wipe0, ↓a_wipe1, ↓a_raise, ↓a_err, ↓a_errE, ↓a_par, ↓a_par3, ↓a_rem, ↓a_try, ↓a_callS, ↓a_slV3, ↓a_slV4, ↓a_lstV, ↓a_lstMV, ↓a_zip, ↓a_zipLL, ↓a_zipVV, ↓a_tab2, ↓a_make, ↓a_meth, ↓a_binI, ↓a_binJ, ↓a_binK, ↓a_negI, ↓a_sfld, ↓a_aug, ↓a_ipI, ↓a_ipII, ↓a_ipIJ, a_addT, a_ixT0, a_ixT1, a_ixT2, a_slT, a_lenT, a_seqT, a_seqV, a_lstT, a_ixV, a_addV, a_slV1, a_slV2, a_lenV, a_ixN0, a_ixN1, a_ixN2, a_ixP0, a_ixP1, a_ixK, a_gP, a_gN, a_mm, a_ixTn0, a_ixTn1, a_ixTn2, a_ltT, a_slV3, a_slV4, a_lstV, f_loop, f_nest, f_vec1, f_cut1, f_cut2, f_cut3, f_cut4, f_map1, f_map2, f_cnt, f_stp, p_addVT, p_addTV, ↓startD, ↓List.map_cons, ↓List.map_nil, List.length_cons, List.length_nil, Nat.reduceAdd, Nat.reduceSub, Nat.reduceLeDiff, Int.reducePow, Int.reduceNeg, Int.reduceLE, Int.reduceLT, List.replicate, ↓List.cons_append, ↓List.nil_append, List.set_cons_zero, List.set_cons_succ, true_and, and_true, ↓reduceIte, Bool.not_true, Bool.not_false, decide_true, decide_false, Bool.false_eq_true, if_false, red__law_times]
  refine fun a ha => comp_mapG ha (fun _ => True.intro) (timesD k) ?_ (by rw [List.length_map]; have := hp.len; show 0 + _ ≤ _; omega) ?_
  · intro x hx μ' L' hL
    obtain ⟨N, hN, rfl⟩ := List.mem_map.1 hx
    rw [nd_eq]
    try simp only [↓a_seq, ↓a_next, ↓a_brk, ↓a_cont, ↓a_ifS, ↓a_ret, ↓a_retN, ↓a_drop, ↓a_asg, ↓a_name, ↓a_gnil, ↓a_gcons, ↓a_gtup2, ↓a_gtup3, ↓a_var0, ↓a_varS, ↓a_c, ↓a_op, ↓a_un, ↓a_nil, ↓a_cons, ↓a_cb, ↓a_tup, ↓a_lst, ↓a_lstM, ↓a_ife, ↓a_test, ↓a_and, ↓a_or, ↓a_not, ↓a_andV, ↓a_orV, ↓a_notV, ↓a_bl, ↓a_if1, ↓a_if0, ↓a_int, ↓a_int0, ↓a_addI, ↓a_addT, ↓a_addL, ↓a_addS, ↓a_mulI, ↓a_neg, ↓a_eqI, ↓a_isN, ↓a_ixT0, ↓a_ixL0, ↓a_ixT1, ↓a_ixL1, ↓a_ixT2, ↓a_ixL2, ↓a_nopart, ↓a_part, ↓a_intE, ↓a_sl, ↓a_slT, ↓a_slL, ↓a_lenT, ↓a_lenL, ↓a_lenM, ↓a_call, ↓a_for, ↓a_rg1, ↓a_rg1E, ↓a_seqI, ↓a_seqT, ↓a_seqL, ↓a_seqV, ↓a_comp, ↓a_compM, ↓a_emp, ↓a_tupL, ↓a_tupT, ↓a_lstL, ↓a_lstT, ↓a_yes, ↓a_ixV, ↓a_addV, ↓a_slV1, ↓a_slV2, ↓a_lenV, ↓a_ixN0, ↓a_ixN1, ↓a_ixN2, ↓a_ixP0, ↓a_ixP1, ↓a_ixK, ↓a_gP, ↓a_gN, ↓a_gl2, ↓a_gl3, ↓a_subI, ↓a_app, ↓a_refE, ↓a_ixTn0, ↓a_ixTn1, ↓a_ixTn2, ↓a_lstMN, ↓a_att, ↓a_zipB, ↓a_ltT, ↓a_abs, ↓a_lstRg, ↓a_tupRg, ↓a_r1, ↓a_r2, ↓a_r2E, ↓a_int1I, ↓a_int1B, ↓a_rg2, ↓a_i2E, ↓a_l2E, ↓a_l3E, ↓a_chain, ↓a_wipe0, ↓a_wipe1, ↓a_raise, ↓a_err, ↓a_errE, ↓a_par, ↓a_par3, ↓a_rem, ↓a_try, ↓a_callS, ↓a_slV3, ↓a_slV4, ↓a_lstV, ↓a_lstMV, ↓a_zip, ↓a_zipLL, ↓a_zipVV, ↓a_tab2, ↓a_make, ↓a_meth, ↓a_binI, ↓a_binJ, ↓a_binK, ↓a_negI, ↓a_sfld, ↓a_aug, ↓a_ipI, ↓a_ipII, ↓a_ipIJ, a_addT, a_ixT0, a_ixT1, a_ixT2, a_slT, a_lenT, a_seqT, a_seqV, a_lstT, a_ixV, a_addV, a_slV1, a_slV2, a_lenV, a_ixN0, a_ixN1, a_ixN2, a_ixP0, a_ixP1, a_ixK, a_gP, a_gN, a_mm, a_ixTn0, a_ixTn1, a_ixTn2, a_ltT, a_slV3, a_slV4, a_lstV, f_loop, f_nest, f_vec1, f_cut1, f_cut2, f_cut3, f_cut4, f_map1, f_map2, f_cnt, f_stp, p_addVT, p_addTV, ↓startD, ↓List.map_cons, ↓List.map_nil, List.length_cons, List.length_nil, Nat.reduceAdd, Nat.reduceSub, Nat.reduceLeDiff, Int.reducePow, Int.reduceNeg, Int.reduceLE, Int.reduceLT, List.replicate, ↓List.cons_append, ↓List.nil_append, List.set_cons_zero, List.set_cons_succ, true_and, and_true, ↓reduceIte, Bool.not_true, Bool.not_false, decide_true, decide_false, Bool.false_eq_true, if_false]
    exact ⟨mulSm (hp.v N hN).2.2 hk, hL⟩
  · rw [List.nil_append, times_map]
    exact q
theorem ok__law_times (T : Tx K mg) : FnOk P w K mg base CX0 1 T.f__law_times T.fd__law_times P__law_times (spD spTimesL) :=
  fn0D T.F__law_times sc__law_times (fun _ _ _ _ ⟨_, _, _, e, _⟩ => by rw [e]; rfl) fun cdv A outer s H E hr => let ⟨t, h1, h2⟩ := (red__law_times P w base T).2 cdv A outer s H E hr; ⟨t, h1, fun AM Y => ⟨_, h2 AM Y, body__law_times T Y⟩⟩
end
end K11
namespace K11
open PySem PySem.Spec PyProof.Rows L2 DL
section
variable {P : Program} {w : World} {K : PySem.W.Frag} {mg : Str → Option Value} {base : Heap}
noncomputable def red__law_product (P : Program) (w : World) (base : Heap) (T : Tx K mg) : { ds : KX → DS // ∀ (cdv : Value) (A : Around) (outer : List Env) (s : Shared) (H : Hp) (E : XK), Room 0 (A.deeper (envOfC "_law_product" (defScope s__law_product) s.heap.objs.size T.f__law_product cdv)) →
    ∃ t, PSs (cxOf CX0 P w K mg base N__law_product "_law_product" (defScope s__law_product) T.f__law_product cdv A outer s H E).nox (defBody s__law_product) t ∧ ∀ (AM : Amb) (Y : KX), LiftS t (ds Y) } :=
  ⟨_, fun cdv A outer s H E hr => by
    have hu := hr.units
    haveI : Amb := amb0
    have sc := sc__law_product
    exact ⟨_, (pss_cons (ps_set (i := 2) sc.nd rfl (by first | exact Or.inl rfl | exact Or.inr rfl) ((pe_lst pa_nil))) (pss_cons (ps_for PassesOwn.never rfl (pi_seq (pv 0)) (pg_tup (n := 3) rfl (pgs_cons (pg_name (i := 3) sc.nd rfl (by first | exact Or.inl rfl | exact Or.inr rfl)) (pgs_cons (pg_name (i := 4) sc.nd rfl (by first | exact Or.inl rfl | exact Or.inr rfl)) (pgs_cons (pg_name (i := 5) sc.nd rfl (by first | exact Or.inl rfl | exact Or.inr rfl)) pgs_nil)))) (pss_one (ps_for PassesOwn.never rfl (pi_seq (pv 1)) (pg_tup (n := 3) rfl (pgs_cons (pg_name (i := 6) sc.nd rfl (by first | exact Or.inl rfl | exact Or.inr rfl)) (pgs_cons (pg_name (i := 7) sc.nd rfl (by first | exact Or.inl rfl | exact Or.inr rfl)) (pgs_cons (pg_name (i := 8) sc.nd rfl (by first | exact Or.inl rfl | exact Or.inr rfl)) pgs_nil)))) (pss_cons (ps_set (i := 9) sc.nd rfl (by first | exact Or.inl rfl | exact Or.inr rfl) ((pe_callTy call_tupD rfl T.n_tuple (by decide +kernel) (pa_cons ((pe_lc (own := [("_law_number", 10), ("_law_other", 11)]) (g := (gTup K 2 (gCons (gName 10) (gCons (gName 11) gNil)))) rfl sc.nd (RZ.pi_zipA rfl T.n_zip (pa_cons (pv 4) (pa_cons (pv 7) pa_nil))) (blkOk_by (own := [("_law_number", 10), ("_law_other", 11)]) (N := N__law_product) (sc := defScope s__law_product) (by decide +kernel)) (fun _ _ _ _ _ => (pg_tup (n := 2) rfl (pgs_cons (pg_name (i := 10) sc.nd rfl (by first | exact Or.inl rfl | exact Or.inr rfl)) (pgs_cons (pg_name (i := 11) sc.nd rfl (by first | exact Or.inl rfl | exact Or.inr rfl)) pgs_nil)))) (fun _ _ _ _ _ => pts_nil) (fun _ _ _ _ _ => (pe_op (k_add (K := K) rfl) (pv 10) (pv 11))))) pa_nil)))) (pss_one (ps_expr ((pe_bm PySem.F.plainAttrs_list PySem.F.slot_list_append PySem.F.type_list_append mt_append (pv 2) (pa_cons ((pe_tup (pa_cons ((pe_op op_addD (pv 3) (pv 6))) (pa_cons (pv 9) (pa_cons ((pe_op op_mulD (pv 5) (pv 8))) pa_nil))))) pa_nil))))))))) (pss_one (ps_ret (pv 2))))), fun AM Y => (ls_seq (ls_asg ((l_lstM l_nil)) lg_name) (ls_seq (ls_for (li_seq (l_var)) (lg_tup (lgs_cons lg_name (lgs_cons lg_name (lgs_cons lg_name lgs_nil)))) (ls_for (li_seq (l_var)) (lg_tup (lgs_cons lg_name (lgs_cons lg_name (lgs_cons lg_name lgs_nil)))) (ls_seq (ls_asg ((l_cb lc_tuple (l_cons ((l_comp (li_zip (l_cons (l_var) (l_cons (l_var) l_nil))) (lgw_tup (lgsw_cons (lgw_name (by decide)) (lgsw_cons (lgw_name (by decide)) lgsw_nil))) l_yes ((l_op l2_add (l_var) (l_var))))) l_nil))) lg_name) (ls_drop ((l_app (l_var) ((l_tup (l_cons ((l_op l2_add (l_var) (l_var))) (l_cons (l_var) (l_cons ((l_op l2_mul (l_var) (l_var))) l_nil))))))))))) (ls_ret (l_frz (i := 2) (l_var)))))⟩⟩
end
end K11
namespace K11
open PySem PySem.Spec PyProof.Rows L2 DL
section
variable {P : Program} {w : World} {K : PySem.W.Frag} {mg : Str → Option Value} {base : Heap}
theorem body__law_product (T : Tx K mg) (Y : KX) : ∀ xs μ Kk, spProdL xs μ Kk Y → (red__law_product P w base T).1 Y { nx := fun _ μ' => Kk .non μ', rt := Kk } (startD N__law_product xs) μ := by
  intro xs μ Kk h
  haveI : Amb := amb0
  obtain ⟨n, ns, ms, rfl, hp, hp2, q⟩ := h
  try simp only [↓a_seq, ↓a_next, ↓a_brk, ↓a_cont, ↓a_ifS, ↓a_ret, ↓a_retN, ↓a_drop, ↓a_asg, ↓a_name, ↓a_gnil, ↓a_gcons, ↓a_gtup2, ↓a_gtup3, ↓a_var0, ↓a_varS, ↓a_c, ↓a_op, ↓a_un, ↓a_nil, ↓a_cons, ↓a_cb, ↓a_tup, ↓a_lst, ↓a_lstM, ↓a_ife, ↓a_test, ↓a_and, ↓a_or, ↓a_not, ↓a_andV, ↓a_orV, ↓a_notV, ↓a_bl, ↓a_if1, ↓a_if0, ↓a_int, ↓a_int0, ↓a_addI, ↓a_addT, ↓a_addL, ↓a_addS, ↓a_mulI, ↓a_neg, ↓a_eqI, ↓a_isN, ↓a_ixT0, ↓a_ixL0, ↓a_ixT1, ↓a_ixL1, ↓a_ixT2, ↓a_ixL2, ↓a_nopart, ↓a_part, ↓a_intE, ↓a_sl, ↓a_slT, ↓a_slL, ↓a_lenT, ↓a_lenL, ↓a_lenM, ↓a_call, ↓a_for, ↓a_rg1, ↓a_rg1E, ↓a_seqI, ↓a_seqT, ↓a_seqL, ↓a_seqV, ↓a_comp, ↓a_compM, ↓a_emp, ↓a_tupL, ↓a_tupT, ↓a_lstL, ↓a_lstT, ↓a_yes, ↓a_ixV, ↓a_addV, ↓a_slV1, ↓a_slV2, ↓a_lenV, ↓a_ixN0, ↓a_ixN1, ↓a_ixN2, ↓a_ixP0, ↓a_ixP1, ↓a_ixK, ↓a_gP, ↓a_gN, ↓a_gl2, ↓a_gl3, ↓a_subI, ↓a_app, ↓a_refE, ↓a_ixTn0, ↓a_ixTn1, ↓a_ixTn2, ↓a_lstMN, ↓a_att, ↓a_zipB, ↓a_ltT, ↓a_abs, ↓a_lstRg, ↓a_tupRg, ↓a_r1, ↓a_r2, ↓a_r2E, ↓a_int1I, ↓a_int1B, ↓a_rg2, ↓a_i2E, ↓a_l2E, ↓a_l3E, ↓a_chain, ↓a_wipe0, ↓a_wipe1, ↓a_raise, ↓a_err, ↓a_errE, ↓a_par, ↓a_par3, ↓a_rem, ↓a_try, ↓a_callS, ↓a_slV3, ↓a_slV4, ↓a_lstV, ↓a_lstMV, ↓a_zip, ↓a_zipLL, ↓a_zipVV, ↓a_tab2, ↓a_make, ↓a_meth, ↓a_binI, ↓a_binJ, ↓a_binK, ↓a_negI, ↓a_sfld, ↓a_aug, ↓a_ipI, ↓a_ipII, ↓a_ipIJ, a_addT, a_ixT0, a_ixT1, a_ixT2, a_slT, a_lenT, a_seqT, a_seqV, a_lstT, a_ixV, a_addV, a_slV1, a_slV2, a_lenV, a_ixN0, a_ixN1, a_ixN2, a_ixP0, a_ixP1, a_ixK, a_gP, a_gN, a_mm, a_ixTn0, a_ixTn1, a_ixTn2, a_ltT, a_slV3, a_slV4, a_lstV, f_loop, f_nest, f_vec1, f_cut1, f_cut2, f_cut3, f_cut4, f_map1, f_map2, f_cnt, f_stp, p_addVT, p_addTV, ↓startD, ↓List.map_cons, ↓List.map_nil, List.length_cons, List.length_nil, Nat.reduceAdd, Nat.reduceSub, Nat.reduceLeDiff, Int.reducePow, Int.reduceNeg, Int.reduceLE, Int.reduceLT, List.replicate, ↓List.cons_append, ↓List.nil_append, List.set_cons_zero, List.set_cons_succ, true_and, and_true, ↓reduceIte, Bool.not_true, Bool.not_false, decide_true, decide_false, Bool.false_eq_true, if_false, red__law_product]
  refine fun p hp0 => ?_
  refine loop_by (I := fun r ρ μ' => ∃ (dn td : List NestD) (y3 y4 y5 y6 y7 y8 y9 y10 y11 : Option D), r = td.map NestD.d ∧ dn ++ td = ns ∧ ρ = [some (.lst (ns.map NestD.d)), some (.lst (ms.map NestD.d)), some (.val (.ref p)), y3, y4, y5, y6, y7, y8, y9, y10, y11] ∧ μ' = mup μ p (.lst ((prodL dn ms).map NestD.d))) (fun _ _ _ _ => True.intro) ?_ ?_ _ _ _ ⟨[], ns, _, _, _, _, _, _, _, _, _, rfl, rfl, rfl, rfl⟩
  · rintro x r ρ μ' N0 ⟨dn, td, y3, y4, y5, y6, y7, y8, y9, y10, y11, hr, hd, rfl, rfl⟩ hN
    cases td with
    | nil => cases hr
    | cons A td =>
    rw [List.map_cons] at hr
    injection hr with e1 e2
    subst e1 e2
    have hA := hp.v A (by rw [← hd]; simp)
    rw [nd_eq]
    try simp only [↓a_seq, ↓a_next, ↓a_brk, ↓a_cont, ↓a_ifS, ↓a_ret, ↓a_retN, ↓a_drop, ↓a_asg, ↓a_name, ↓a_gnil, ↓a_gcons, ↓a_gtup2, ↓a_gtup3, ↓a_var0, ↓a_varS, ↓a_c, ↓a_op, ↓a_un, ↓a_nil, ↓a_cons, ↓a_cb, ↓a_tup, ↓a_lst, ↓a_lstM, ↓a_ife, ↓a_test, ↓a_and, ↓a_or, ↓a_not, ↓a_andV, ↓a_orV, ↓a_notV, ↓a_bl, ↓a_if1, ↓a_if0, ↓a_int, ↓a_int0, ↓a_addI, ↓a_addT, ↓a_addL, ↓a_addS, ↓a_mulI, ↓a_neg, ↓a_eqI, ↓a_isN, ↓a_ixT0, ↓a_ixL0, ↓a_ixT1, ↓a_ixL1, ↓a_ixT2, ↓a_ixL2, ↓a_nopart, ↓a_part, ↓a_intE, ↓a_sl, ↓a_slT, ↓a_slL, ↓a_lenT, ↓a_lenL, ↓a_lenM, ↓a_call, ↓a_for, ↓a_rg1, ↓a_rg1E, ↓a_seqI, ↓a_seqT, ↓a_seqL, ↓a_seqV, ↓a_comp, ↓a_compM, ↓a_emp, ↓a_tupL, ↓a_tupT, ↓a_lstL, ↓a_lstT, ↓a_yes, ↓a_ixV, ↓a_addV, ↓a_slV1, ↓a_slV2, ↓a_lenV, ↓a_ixN0, ↓a_ixN1, ↓a_ixN2, ↓a_ixP0, ↓a_ixP1, ↓a_ixK, ↓a_gP, ↓a_gN, ↓a_gl2, ↓a_gl3, ↓a_subI, ↓a_app, ↓a_refE, ↓a_ixTn0, ↓a_ixTn1, ↓a_ixTn2, ↓a_lstMN, ↓a_att, ↓a_zipB, ↓a_ltT, ↓a_abs, ↓a_lstRg, ↓a_tupRg, ↓a_r1, ↓a_r2, ↓a_r2E, ↓a_int1I, ↓a_int1B, ↓a_rg2, ↓a_i2E, ↓a_l2E, ↓a_l3E, ↓a_chain, ↓a_wipe0, ↓a_wipe1, ↓a_raise, ↓a_err, ↓a_errE, ↓a_par, ↓a_par3, ↓a_rem, ↓a_try, ↓a_callS, ↓a_slV3, ↓a_slV4, ↓a_lstV, ↓a_lstMV, ↓a_zip, ↓a_zipLL, ↓a_zipVV, ↓a_tab2, ↓a_make, ↓a_meth, ↓a_binI, ↓a_binJ, ↓a_binK, ↓a_negI, ↓a_sfld, ↓a_aug, ↓a_ipI, ↓a_ipII, ↓a_ipIJ, a_addT, a_ixT0, a_ixT1, a_ixT2, a_slT, a_lenT, a_seqT, a_seqV, a_lstT, a_ixV, a_addV, a_slV1, a_slV2, a_lenV, a_ixN0, a_ixN1, a_ixN2, a_ixP0, a_ixP1, a_ixK, a_gP, a_gN, a_mm, a_ixTn0, a_ixTn1, a_ixTn2, a_ltT, a_slV3, a_slV4, a_lstV, f_loop, f_nest, f_vec1, f_cut1, f_cut2, f_cut3, f_cut4, f_map1, f_map2, f_cnt, f_stp, p_addVT, p_addTV, ↓startD, ↓List.map_cons, ↓List.map_nil, List.length_cons, List.length_nil, Nat.reduceAdd, Nat.reduceSub, Nat.reduceLeDiff, Int.reducePow, Int.reduceNeg, Int.reduceLE, Int.reduceLT, List.replicate, ↓List.cons_append, ↓List.nil_append, List.set_cons_zero, List.set_cons_succ, true_and, and_true, ↓reduceIte, Bool.not_true, Bool.not_false, decide_true, decide_false, Bool.false_eq_true, if_false]
    refine loop_by (I := fun r ρ μ' => ∃ (dm tm : List NestD) (y6 y7 y8 y9 y10 y11 : Option D), r = tm.map NestD.d ∧ dm ++ tm = ms ∧ ρ = [some (.lst (ns.map NestD.d)), some (.lst (ms.map NestD.d)), some (.val (.ref p)), some (.lst (A.loops.map loopD)), some (vec A.place), some (.int A.amount), y6, y7, y8, y9, y10, y11] ∧ μ' = mup μ p (.lst ((prodL dn ms ++ dm.map (prodN A)).map NestD.d))) (fun _ _ _ _ => True.intro) ?_ ?_ _ _ _ ⟨[], ms, _, _, _, _, _, _, rfl, rfl, rfl, by simp⟩
    · rintro x r ρ μ' N1 ⟨dm, tm, y6, y7, y8, y9, y10, y11, hr, hdm, rfl, rfl⟩ hN1
      cases tm with
      | nil => cases hr
      | cons B tm =>
      rw [List.map_cons] at hr
      injection hr with e1 e2
      subst e1 e2
      have hB := hp2.v B (by rw [← hdm]; simp)
      rw [nd_eq]
      try simp only [↓a_seq, ↓a_next, ↓a_brk, ↓a_cont, ↓a_ifS, ↓a_ret, ↓a_retN, ↓a_drop, ↓a_asg, ↓a_name, ↓a_gnil, ↓a_gcons, ↓a_gtup2, ↓a_gtup3, ↓a_var0, ↓a_varS, ↓a_c, ↓a_op, ↓a_un, ↓a_nil, ↓a_cons, ↓a_cb, ↓a_tup, ↓a_lst, ↓a_lstM, ↓a_ife, ↓a_test, ↓a_and, ↓a_or, ↓a_not, ↓a_andV, ↓a_orV, ↓a_notV, ↓a_bl, ↓a_if1, ↓a_if0, ↓a_int, ↓a_int0, ↓a_addI, ↓a_addT, ↓a_addL, ↓a_addS, ↓a_mulI, ↓a_neg, ↓a_eqI, ↓a_isN, ↓a_ixT0, ↓a_ixL0, ↓a_ixT1, ↓a_ixL1, ↓a_ixT2, ↓a_ixL2, ↓a_nopart, ↓a_part, ↓a_intE, ↓a_sl, ↓a_slT, ↓a_slL, ↓a_lenT, ↓a_lenL, ↓a_lenM, ↓a_call, ↓a_for, ↓a_rg1, ↓a_rg1E, ↓a_seqI, ↓a_seqT, ↓a_seqL, ↓a_seqV, ↓a_comp, ↓a_compM, ↓a_emp, ↓a_tupL, ↓a_tupT, ↓a_lstL, ↓a_lstT, ↓a_yes, ↓a_ixV, ↓a_addV, ↓a_slV1, ↓a_slV2, ↓a_lenV, ↓a_ixN0, ↓a_ixN1, ↓a_ixN2, ↓a_ixP0, ↓a_ixP1, ↓a_ixK, ↓a_gP, ↓a_gN, ↓a_gl2, ↓a_gl3, ↓a_subI, ↓a_app, ↓a_refE, ↓a_ixTn0, ↓a_ixTn1, ↓a_ixTn2, ↓a_lstMN, ↓a_att, ↓a_zipB, ↓a_ltT, ↓a_abs, ↓a_lstRg, ↓a_tupRg, ↓a_r1, ↓a_r2, ↓a_r2E, ↓a_int1I, ↓a_int1B, ↓a_rg2, ↓a_i2E, ↓a_l2E, ↓a_l3E, ↓a_chain, ↓a_wipe0, ↓a_wipe1, ↓a_raise, ↓a_err, ↓a_errE, ↓a_par, ↓a_par3, ↓a_rem, ↓a_try, ↓a_callS, ↓a_slV3, ↓a_slV4, ↓a_lstV, ↓a_lstMV, ↓a_zip, ↓a_zipLL, ↓a_zipVV, ↓a_tab2, ↓a_make, ↓a_meth, ↓a_binI, ↓a_binJ, ↓a_binK, ↓a_negI, ↓a_sfld, ↓a_aug, ↓a_ipI, ↓a_ipII, ↓a_ipIJ, a_addT, a_ixT0, a_ixT1, a_ixT2, a_slT, a_lenT, a_seqT, a_seqV, a_lstT, a_ixV, a_addV, a_slV1, a_slV2, a_lenV, a_ixN0, a_ixN1, a_ixN2, a_ixP0, a_ixP1, a_ixK, a_gP, a_gN, a_mm, a_ixTn0, a_ixTn1, a_ixTn2, a_ltT, a_slV3, a_slV4, a_lstV, f_loop, f_nest, f_vec1, f_cut1, f_cut2, f_cut3, f_cut4, f_map1, f_map2, f_cnt, f_stp, p_addVT, p_addTV, ↓startD, ↓List.map_cons, ↓List.map_nil, List.length_cons, List.length_nil, Nat.reduceAdd, Nat.reduceSub, Nat.reduceLeDiff, Int.reducePow, Int.reduceNeg, Int.reduceLE, Int.reduceLT, List.replicate, ↓List.cons_append, ↓List.nil_append, List.set_cons_zero, List.set_cons_succ, true_and, and_true, ↓reduceIte, Bool.not_true, Bool.not_false, decide_true, decide_false, Bool.false_eq_true, if_false]
      have l1 := prod_len dn ms
      have l2 : dn.length ≤ 100 := by have := hp.len; rw [← hd, List.length_append] at this; omega
      have l3 : dm.length ≤ 100 := by have := hp2.len; rw [← hdm, List.length_append] at this; omega
      have l4 := Nat.mul_le_mul l2 hp2.len
      have l5 : A.place.length = B.place.length := by rw [hA.2.1, hB.2.1]
      have l6 : A.place.length ≤ 3 := hA.1.n3
      refine ⟨l5, fun c hc => comp_mapG hc (fun _ => True.intro) (zipF fun a b => a + b) ?_ (by simp [pairsD]; omega) ?_⟩
      · intro x hx μ' L' hL
        obtain ⟨a, b, rfl, _⟩ := pairs_mem hx
        try simp only [↓a_seq, ↓a_next, ↓a_brk, ↓a_cont, ↓a_ifS, ↓a_ret, ↓a_retN, ↓a_drop, ↓a_asg, ↓a_name, ↓a_gnil, ↓a_gcons, ↓a_gtup2, ↓a_gtup3, ↓a_var0, ↓a_varS, ↓a_c, ↓a_op, ↓a_un, ↓a_nil, ↓a_cons, ↓a_cb, ↓a_tup, ↓a_lst, ↓a_lstM, ↓a_ife, ↓a_test, ↓a_and, ↓a_or, ↓a_not, ↓a_andV, ↓a_orV, ↓a_notV, ↓a_bl, ↓a_if1, ↓a_if0, ↓a_int, ↓a_int0, ↓a_addI, ↓a_addT, ↓a_addL, ↓a_addS, ↓a_mulI, ↓a_neg, ↓a_eqI, ↓a_isN, ↓a_ixT0, ↓a_ixL0, ↓a_ixT1, ↓a_ixL1, ↓a_ixT2, ↓a_ixL2, ↓a_nopart, ↓a_part, ↓a_intE, ↓a_sl, ↓a_slT, ↓a_slL, ↓a_lenT, ↓a_lenL, ↓a_lenM, ↓a_call, ↓a_for, ↓a_rg1, ↓a_rg1E, ↓a_seqI, ↓a_seqT, ↓a_seqL, ↓a_seqV, ↓a_comp, ↓a_compM, ↓a_emp, ↓a_tupL, ↓a_tupT, ↓a_lstL, ↓a_lstT, ↓a_yes, ↓a_ixV, ↓a_addV, ↓a_slV1, ↓a_slV2, ↓a_lenV, ↓a_ixN0, ↓a_ixN1, ↓a_ixN2, ↓a_ixP0, ↓a_ixP1, ↓a_ixK, ↓a_gP, ↓a_gN, ↓a_gl2, ↓a_gl3, ↓a_subI, ↓a_app, ↓a_refE, ↓a_ixTn0, ↓a_ixTn1, ↓a_ixTn2, ↓a_lstMN, ↓a_att, ↓a_zipB, ↓a_ltT, ↓a_abs, ↓a_lstRg, ↓a_tupRg, ↓a_r1, ↓a_r2, ↓a_r2E, ↓a_int1I, ↓a_int1B, ↓a_rg2, ↓a_i2E, ↓a_l2E, ↓a_l3E, ↓a_chain, ↓a_wipe0, ↓a_wipe1, ↓a_raise, ↓a_err, ↓a_errE, ↓a_par, ↓a_par3, ↓a_rem, ↓a_try, ↓a_callS, ↓a_slV3, ↓a_slV4, ↓a_lstV, ↓a_lstMV, ↓a_zip, ↓a_zipLL, ↓a_zipVV, ↓a_tab2, ↓a_make, ↓a_meth, ↓a_binI, ↓a_binJ, ↓a_binK, ↓a_negI, ↓a_sfld, ↓a_aug, ↓a_ipI, ↓a_ipII, ↓a_ipIJ, a_addT, a_ixT0, a_ixT1, a_ixT2, a_slT, a_lenT, a_seqT, a_seqV, a_lstT, a_ixV, a_addV, a_slV1, a_slV2, a_lenV, a_ixN0, a_ixN1, a_ixN2, a_ixP0, a_ixP1, a_ixK, a_gP, a_gN, a_mm, a_ixTn0, a_ixTn1, a_ixTn2, a_ltT, a_slV3, a_slV4, a_lstV, f_loop, f_nest, f_vec1, f_cut1, f_cut2, f_cut3, f_cut4, f_map1, f_map2, f_cnt, f_stp, p_addVT, p_addTV, ↓startD, ↓List.map_cons, ↓List.map_nil, List.length_cons, List.length_nil, Nat.reduceAdd, Nat.reduceSub, Nat.reduceLeDiff, Int.reducePow, Int.reduceNeg, Int.reduceLE, Int.reduceLT, List.replicate, ↓List.cons_append, ↓List.nil_append, List.set_cons_zero, List.set_cons_succ, true_and, and_true, ↓reduceIte, Bool.not_true, Bool.not_false, decide_true, decide_false, Bool.false_eq_true, if_false]
        exact hL
      · rw [List.nil_append, zip_map]
        rw [a_tupL]
        refine ⟨⟨_, mup_same⟩, (by rw [List.length_map, List.length_map]; have := hA.1.ll; have := hB.1.ll; omega), mulSm hA.2.2 hB.2.2, _, mup_same, (by rw [List.length_map, List.length_append, List.length_map, l1]; omega), ?_⟩
        rw [mup_mup]
        refine hN1 _ _ ⟨dm ++ [B], tm, _, _, _, _, _, _, rfl, by rw [List.append_assoc]; exact hdm, rfl, ?_⟩
        exact prod_step μ p _ dm A B
    · rintro ρ μ' ⟨dm, tm, y6, y7, y8, y9, y10, y11, hr, hdm, rfl, rfl⟩
      cases tm with
      | cons B tm => cases hr
      | nil =>
      rw [List.append_nil] at hdm
      refine hN _ _ ⟨dn ++ [A], td, _, _, _, _, _, _, _, _, _, rfl, by rw [List.append_assoc]; exact hd, rfl, ?_⟩
      rw [hdm, prod_snoc]
  · rintro ρ μ' ⟨dn, td, y3, y4, y5, y6, y7, y8, y9, y10, y11, hr, hd, rfl, rfl⟩
    cases td with
    | cons A td => cases hr
    | nil =>
    rw [List.append_nil] at hd
    subst hd
    try simp only [↓a_seq, ↓a_next, ↓a_brk, ↓a_cont, ↓a_ifS, ↓a_ret, ↓a_retN, ↓a_drop, ↓a_asg, ↓a_name, ↓a_gnil, ↓a_gcons, ↓a_gtup2, ↓a_gtup3, ↓a_var0, ↓a_varS, ↓a_c, ↓a_op, ↓a_un, ↓a_nil, ↓a_cons, ↓a_cb, ↓a_tup, ↓a_lst, ↓a_lstM, ↓a_ife, ↓a_test, ↓a_and, ↓a_or, ↓a_not, ↓a_andV, ↓a_orV, ↓a_notV, ↓a_bl, ↓a_if1, ↓a_if0, ↓a_int, ↓a_int0, ↓a_addI, ↓a_addT, ↓a_addL, ↓a_addS, ↓a_mulI, ↓a_neg, ↓a_eqI, ↓a_isN, ↓a_ixT0, ↓a_ixL0, ↓a_ixT1, ↓a_ixL1, ↓a_ixT2, ↓a_ixL2, ↓a_nopart, ↓a_part, ↓a_intE, ↓a_sl, ↓a_slT, ↓a_slL, ↓a_lenT, ↓a_lenL, ↓a_lenM, ↓a_call, ↓a_for, ↓a_rg1, ↓a_rg1E, ↓a_seqI, ↓a_seqT, ↓a_seqL, ↓a_seqV, ↓a_comp, ↓a_compM, ↓a_emp, ↓a_tupL, ↓a_tupT, ↓a_lstL, ↓a_lstT, ↓a_yes, ↓a_ixV, ↓a_addV, ↓a_slV1, ↓a_slV2, ↓a_lenV, ↓a_ixN0, ↓a_ixN1, ↓a_ixN2, ↓a_ixP0, ↓a_ixP1, ↓a_ixK, ↓a_gP, ↓a_gN, ↓a_gl2, ↓a_gl3, ↓a_subI, ↓a_app, ↓a_refE, ↓a_ixTn0, ↓a_ixTn1, ↓a_ixTn2, ↓a_lstMN, ↓a_att, ↓a_zipB, ↓a_ltT, ↓a_abs, ↓a_lstRg, ↓a_tupRg, ↓a_r1, ↓a_r2, ↓a_r2E, ↓a_int1I, ↓a_int1B, ↓a_rg2, ↓a_i2E, ↓a_l2E, ↓a_l3E, ↓a_chain, ↓a_wipe0, ↓a_wipe1, ↓a_raise, ↓a_err, ↓a_errE, ↓a_par, ↓a_par3, ↓a_rem, ↓a_try, ↓a_callS, ↓a_slV3, ↓a_slV4, ↓a_lstV, ↓a_lstMV, ↓a_zip, ↓a_zipLL, ↓a_zipVV, ↓a_tab2, ↓a_make, ↓a_meth, ↓a_binI, ↓a_binJ, ↓a_binK, ↓a_negI, ↓a_sfld, ↓a_aug, ↓a_ipI, ↓a_ipII, ↓a_ipIJ, a_addT, a_ixT0, a_ixT1, a_ixT2, a_slT, a_lenT, a_seqT, a_seqV, a_lstT, a_ixV, a_addV, a_slV1, a_slV2, a_lenV, a_ixN0, a_ixN1, a_ixN2, a_ixP0, a_ixP1, a_ixK, a_gP, a_gN, a_mm, a_ixTn0, a_ixTn1, a_ixTn2, a_ltT, a_slV3, a_slV4, a_lstV, f_loop, f_nest, f_vec1, f_cut1, f_cut2, f_cut3, f_cut4, f_map1, f_map2, f_cnt, f_stp, p_addVT, p_addTV, ↓startD, ↓List.map_cons, ↓List.map_nil, List.length_cons, List.length_nil, Nat.reduceAdd, Nat.reduceSub, Nat.reduceLeDiff, Int.reducePow, Int.reduceNeg, Int.reduceLE, Int.reduceLT, List.replicate, ↓List.cons_append, ↓List.nil_append, List.set_cons_zero, List.set_cons_succ, true_and, and_true, ↓reduceIte, Bool.not_true, Bool.not_false, decide_true, decide_false, Bool.false_eq_true, if_false]
    refine ⟨p, _, rfl, mup_same, ?_⟩
    rw [mdel_mup hp0]
    try simp only [↓a_seq, ↓a_next, ↓a_brk, ↓a_cont, ↓a_ifS, ↓a_ret, ↓a_retN, ↓a_drop, ↓a_asg, ↓a_name, ↓a_gnil, ↓a_gcons, ↓a_gtup2, ↓a_gtup3, ↓a_var0, ↓a_varS, ↓a_c, ↓a_op, ↓a_un, ↓a_nil, ↓a_cons, ↓a_cb, ↓a_tup, ↓a_lst, ↓a_lstM, ↓a_ife, ↓a_test, ↓a_and, ↓a_or, ↓a_not, ↓a_andV, ↓a_orV, ↓a_notV, ↓a_bl, ↓a_if1, ↓a_if0, ↓a_int, ↓a_int0, ↓a_addI, ↓a_addT, ↓a_addL, ↓a_addS, ↓a_mulI, ↓a_neg, ↓a_eqI, ↓a_isN, ↓a_ixT0, ↓a_ixL0, ↓a_ixT1, ↓a_ixL1, ↓a_ixT2, ↓a_ixL2, ↓a_nopart, ↓a_part, ↓a_intE, ↓a_sl, ↓a_slT, ↓a_slL, ↓a_lenT, ↓a_lenL, ↓a_lenM, ↓a_call, ↓a_for, ↓a_rg1, ↓a_rg1E, ↓a_seqI, ↓a_seqT, ↓a_seqL, ↓a_seqV, ↓a_comp, ↓a_compM, ↓a_emp, ↓a_tupL, ↓a_tupT, ↓a_lstL, ↓a_lstT, ↓a_yes, ↓a_ixV, ↓a_addV, ↓a_slV1, ↓a_slV2, ↓a_lenV, ↓a_ixN0, ↓a_ixN1, ↓a_ixN2, ↓a_ixP0, ↓a_ixP1, ↓a_ixK, ↓a_gP, ↓a_gN, ↓a_gl2, ↓a_gl3, ↓a_subI, ↓a_app, ↓a_refE, ↓a_ixTn0, ↓a_ixTn1, ↓a_ixTn2, ↓a_lstMN, ↓a_att, ↓a_zipB, ↓a_ltT, ↓a_abs, ↓a_lstRg, ↓a_tupRg, ↓a_r1, ↓a_r2, ↓a_r2E, ↓a_int1I, ↓a_int1B, ↓a_rg2, ↓a_i2E, ↓a_l2E, ↓a_l3E, ↓a_chain, ↓a_wipe0, ↓a_wipe1, ↓a_raise, ↓a_err, ↓a_errE, ↓a_par, ↓a_par3, ↓a_rem, ↓a_try, ↓a_callS, ↓a_slV3, ↓a_slV4, ↓a_lstV, ↓a_lstMV, ↓a_zip, ↓a_zipLL, ↓a_zipVV, ↓a_tab2, ↓a_make, ↓a_meth, ↓a_binI, ↓a_binJ, ↓a_binK, ↓a_negI, ↓a_sfld, ↓a_aug, ↓a_ipI, ↓a_ipII, ↓a_ipIJ, a_addT, a_ixT0, a_ixT1, a_ixT2, a_slT, a_lenT, a_seqT, a_seqV, a_lstT, a_ixV, a_addV, a_slV1, a_slV2, a_lenV, a_ixN0, a_ixN1, a_ixN2, a_ixP0, a_ixP1, a_ixK, a_gP, a_gN, a_mm, a_ixTn0, a_ixTn1, a_ixTn2, a_ltT, a_slV3, a_slV4, a_lstV, f_loop, f_nest, f_vec1, f_cut1, f_cut2, f_cut3, f_cut4, f_map1, f_map2, f_cnt, f_stp, p_addVT, p_addTV, ↓startD, ↓List.map_cons, ↓List.map_nil, List.length_cons, List.length_nil, Nat.reduceAdd, Nat.reduceSub, Nat.reduceLeDiff, Int.reducePow, Int.reduceNeg, Int.reduceLE, Int.reduceLT, List.replicate, ↓List.cons_append, ↓List.nil_append, List.set_cons_zero, List.set_cons_succ, true_and, and_true, ↓reduceIte, Bool.not_true, Bool.not_false, decide_true, decide_false, Bool.false_eq_true, if_false]
    exact q
theorem ok__law_product (T : Tx K mg) : FnOk P w K mg base CX0 1 T.f__law_product T.fd__law_product P__law_product (spD spProdL) :=
  fn0D T.F__law_product sc__law_product (fun _ _ _ _ ⟨_, _, _, e, _⟩ => by rw [e]; rfl) fun cdv A outer s H E hr => let ⟨t, h1, h2⟩ := (red__law_product P w base T).2 cdv A outer s H E hr; ⟨t, h1, fun AM Y => ⟨_, h2 AM Y, body__law_product T Y⟩⟩
end
end K11
namespace K11
open PySem PySem.Spec PyProof.Rows L2 DL
section
variable {P : Program} {w : World} {K : PySem.W.Frag} {mg : Str → Option Value} {base : Heap}
def axesD (n m : Nat) : PyData := .tuple [.int n, .int m]
def spCaught (K : PySem.W.Frag) (mg : Str → Option Value) (T : Tx K mg) : DSp := fun ds μ Q _ => ∃ (i : Int) (n m : Nat) (ns ms : List NestD), ds = [.int i, progD T.C_Program n ns, progD T.C_Program m ms] ∧ 0 ≤ i ∧ i < 3 ∧ POk n ns ∧ POk m ms ∧ POk m (ms.map (timesN (-1))) ∧ n ≠ m ∧ Q (.str (axesD n m).shown) μ
theorem two_lv {n m : Nat} (h : n ≤ 3) (g : m ≤ 3) : Pl (.tup [.int n, .int m]) := by
  have h1 : Lv 0 (.int (n : Int)) := .int (by omega) (by omega)
  have h2 : Lv 0 (.int (m : Int)) := .int (by omega) (by omega)
  have h3 : Lv 1 (.tup [.int (n : Int), .int (m : Int)]) := .tup leB (.cons h1 (.cons h2 .nil))
  exact h3.pl (by decide)
end
end K11
namespace K11
open PySem PySem.Spec PyProof.Rows L2 DL
section
variable {P : Program} {w : World} {K : PySem.W.Frag} {mg : Str → Option Value} {base : Heap}
noncomputable def red__law_caught (P : Program) (w : World) (base : Heap) (T : Tx K mg) : { ds : KX → DS // ∀ (cdv : Value) (A : Around) (outer : List Env) (s : Shared) (H : Hp) (E : XK), A.guards = some [] → Room 9 (A.deeper (envOfC "_law_caught" (defScope s__law_caught) s.heap.objs.size T.f__law_caught cdv)) →
    ∃ t, PSs (cxOf CX0 P w K mg base N__law_caught "_law_caught" (defScope s__law_caught) T.f__law_caught cdv A outer s H E).nox (defBody s__law_caught) t ∧ ∀ (AM : Amb) (Y : KX), LiftS t (ds Y) } :=
  ⟨_, fun cdv A outer s H E hG hr => by
    have hu := hr.units
    haveI : Amb := amb0
    have sc := sc__law_caught
    exact ⟨_, (pss_cons (ps_set (i := 3) sc.nd rfl (by first | exact Or.inl rfl | exact Or.inr rfl) (pe_non)) (pss_cons (ps_try_keep (i := 4) (j := 3) rfl rfl sc.nd rfl rfl rfl rfl rfl ⟨rfl, by decide, .inl T.g_AddError⟩ takes0 (fun W pn xe tk _ => (pss_one (ps_if (pt_cmpR (op_eqX hu) (pv 0) (pe_int) (nomark _)) (pss_one (ps_expr ((pe_binI (pv 1) (pv 2) T.ci_Program (at_op dop_add T.at_Pm_add) T.fn_Pm_add (ok_Pm_add T (base := base)) (hr.mono (by decide)) T.b_Pm_add (fun σ => passAt tk σ))))) (pss_one (ps_if (pt_cmpR (op_eqX hu) (pv 0) (pe_int) (nomark _)) (pss_one (ps_expr ((pe_binI (pv 1) (pv 2) T.ci_Program (at_op dop_sub T.at_Pm_sub) T.fn_Pm_sub (ok_Pm_sub T (base := base)) (hr.mono (by decide)) T.b_Pm_sub (fun σ => passAt tk σ))))) (pss_one (ps_expr ((pe_binI (pv 1) (pv 2) T.ci_Program (at_op dop_mul T.at_Pm_mul) T.fn_Pm_mul (ok_Pm_mul T (base := base)) (hr.mono (by decide)) T.b_Pm_mul (fun σ => passAt tk σ))))))))))) (pss_one (ps_ret ((pe_ifExp ((pt_val ((pe_callB call_isP rfl T.n_isinstance (by decide +kernel) (pa_cons (pv 3) (pa_cons ((pe_glob (v := .ref T.C_UnlikeAxes) rfl T.g_UnlikeAxes rfl)) pa_nil)))))) ((pe_callB (call_reprD hG hu) rfl T.n_repr (by decide +kernel) (pa_cons ((pe_att (pv 3) rfl)) pa_nil))) (pe_non))))))), fun AM Y => (ls_seq (ls_asg (l_non) lg_name) (ls_seq (ls_tryKeep (by decide) (fun A' W Y hx => (ls_if (l_test (l_op l2_eqX (l_var) (l_int))) (ls_drop ((l_binS hx (l_var) (l_var)))) (ls_if (l_test (l_op l2_eqX (l_var) (l_int))) (ls_drop ((l_binS hx (l_var) (l_var)))) (ls_drop ((l_binS hx (l_var) (l_var)))))))) (ls_ret ((l_if ((l_tB ((l_cb lc_isP (l_cons (l_var) (l_cons (l_val) l_nil)))))) ((l_cb lc_repr (l_cons ((l_att (l_var))) l_nil))) (l_non))))))⟩⟩
end
end K11
namespace K11
open PySem PySem.Spec PyProof.Rows L2 DL
section
variable {P : Program} {w : World} {K : PySem.W.Frag} {mg : Str → Option Value} {base : Heap}
theorem body__law_caught (T : Tx K mg) (Y : KX) : ∀ xs μ Kk, (spCaught K mg T) xs μ Kk Y → (red__law_caught P w base T).1 Y { nx := fun _ μ' => Kk .non μ', rt := Kk } (startD N__law_caught xs) μ := by
  intro xs μ Kk h
  haveI : Amb := amb0
  obtain ⟨i, n, m, ns, ms, rfl, i0, i3, hp, hp2, hn, ne, q⟩ := h
  try simp only [↓a_seq, ↓a_next, ↓a_brk, ↓a_cont, ↓a_ifS, ↓a_ret, ↓a_retN, ↓a_drop, ↓a_asg, ↓a_name, ↓a_gnil, ↓a_gcons, ↓a_gtup2, ↓a_gtup3, ↓a_var0, ↓a_varS, ↓a_c, ↓a_op, ↓a_un, ↓a_nil, ↓a_cons, ↓a_cb, ↓a_tup, ↓a_lst, ↓a_lstM, ↓a_ife, ↓a_test, ↓a_and, ↓a_or, ↓a_not, ↓a_andV, ↓a_orV, ↓a_notV, ↓a_bl, ↓a_if1, ↓a_if0, ↓a_int, ↓a_int0, ↓a_addI, ↓a_addT, ↓a_addL, ↓a_addS, ↓a_mulI, ↓a_neg, ↓a_eqI, ↓a_isN, ↓a_ixT0, ↓a_ixL0, ↓a_ixT1, ↓a_ixL1, ↓a_ixT2, ↓a_ixL2, ↓a_nopart, ↓a_part, ↓a_intE, ↓a_sl, ↓a_slT, ↓a_slL, ↓a_lenT, ↓a_lenL, ↓a_lenM, ↓a_call, ↓a_for, ↓a_rg1, ↓a_rg1E, ↓a_seqI, ↓a_seqT, ↓a_seqL, ↓a_seqV, ↓a_comp, ↓a_compM, ↓a_emp, ↓a_tupL, ↓a_tupT, ↓a_lstL, ↓a_lstT, ↓a_yes, ↓a_ixV, ↓a_addV, ↓a_slV1, ↓a_slV2, ↓a_lenV, ↓a_ixN0, ↓a_ixN1, ↓a_ixN2, ↓a_ixP0, ↓a_ixP1, ↓a_ixK, ↓a_gP, ↓a_gN, ↓a_gl2, ↓a_gl3, ↓a_subI, ↓a_app, ↓a_refE, ↓a_ixTn0, ↓a_ixTn1, ↓a_ixTn2, ↓a_lstMN, ↓a_att, ↓a_zipB, ↓a_ltT, ↓a_abs, ↓a_lstRg, ↓a_tupRg, ↓a_r1, ↓a_r2, ↓a_r2E, ↓a_int1I, ↓a_int1B, ↓a_rg2, ↓a_i2E, ↓a_l2E, ↓a_l3E, ↓a_chain, ↓a_wipe0, ↓a_wipe1, ↓a_raise, ↓a_err, ↓a_errE, ↓a_par, ↓a_par3, ↓a_rem, ↓a_try, ↓a_callS, ↓a_slV3, ↓a_slV4, ↓a_lstV, ↓a_lstMV, ↓a_zip, ↓a_zipLL, ↓a_zipVV, ↓a_tab2, ↓a_make, ↓a_meth, ↓a_binI, ↓a_binJ, ↓a_binK, ↓a_negI, ↓a_sfld, ↓a_aug, ↓a_ipI, ↓a_ipII, ↓a_ipIJ, a_addT, a_ixT0, a_ixT1, a_ixT2, a_slT, a_lenT, a_seqT, a_seqV, a_lstT, a_ixV, a_addV, a_slV1, a_slV2, a_lenV, a_ixN0, a_ixN1, a_ixN2, a_ixP0, a_ixP1, a_ixK, a_gP, a_gN, a_mm, a_ixTn0, a_ixTn1, a_ixTn2, a_ltT, a_slV3, a_slV4, a_lstV, f_loop, f_nest, f_vec1, f_cut1, f_cut2, f_cut3, f_cut4, f_map1, f_map2, f_cnt, f_stp, p_addVT, p_addTV, ↓startD, ↓List.map_cons, ↓List.map_nil, List.length_cons, List.length_nil, Nat.reduceAdd, Nat.reduceSub, Nat.reduceLeDiff, Int.reducePow, Int.reduceNeg, Int.reduceLE, Int.reduceLT, List.replicate, ↓List.cons_append, ↓List.nil_append, List.set_cons_zero, List.set_cons_succ, true_and, and_true, ↓reduceIte, Bool.not_true, Bool.not_false, decide_true, decide_false, Bool.false_eq_true, if_false, red__law_caught, a_try, a_callS]
  have fin : PySem.W.exmOne K (.ref T.C_UnlikeAxes) (.ref T.B_AddError) = some true ∧ 4 < 5 ∧ fIsP K [D.exc T.C_UnlikeAxes [("axes", .tup [.int (n : Int), .int (m : Int)])], D.val (.ref T.C_UnlikeAxes)] μ fun x μ1 => ∃ b, x = .bl b ∧ if b = true then fAttr K "axes" (D.exc T.C_UnlikeAxes [("axes", .tup [.int (n : Int), .int (m : Int)])]) μ1 fun x μ1 => fRepr [x] μ1 Kk else Kk .non μ1 :=
    ⟨T.xm_UnlikeAxes, by decide, isX_of T.xk_UnlikeAxes T.xi_UnlikeAxes ⟨_, rfl, if_yes (attr_exc T.xk_UnlikeAxes T.e_UnlikeAxes.noF (repr_of (two_lv hp.n3 hp2.n3) rfl q))⟩⟩
  exact and_if (fun _ => ⟨_, _, rfl, rfl, n, ns, m, ms, rfl, hp, hp2, fun e => absurd e ne, fun _ => fin⟩) fun _ => and_if (fun _ => ⟨_, _, rfl, rfl, n, ns, m, ms, rfl, hp, hp2, hn, fun e => absurd e ne, fun _ => fin⟩) fun _ => ⟨_, _, rfl, rfl, .inl ⟨n, ns, m, ms, rfl, hp, hp2, fun e => absurd e ne, fun _ => fin⟩⟩
theorem ok__law_caught (T : Tx K mg) : FnG P w K mg base CX0 10 T.f__law_caught T.fd__law_caught P__law_caught (spD (spCaught K mg T)) :=
  fnGD T.F__law_caught sc__law_caught (fun _ _ _ _ ⟨_, _, _, _, _, e, _⟩ => by rw [e]; rfl) fun cdv A outer s H E hG hr => let ⟨t, h1, h2⟩ := (red__law_caught P w base T).2 cdv A outer s H E hG hr; ⟨t, h1, fun AM Y => ⟨_, h2 AM Y, body__law_caught T Y⟩⟩
end
end K11
namespace K11
open PySem PySem.Spec PyProof.Rows L2 DL
section
variable {P : Program} {w : World} {K : PySem.W.Frag} {mg : Str → Option Value} {base : Heap}
theorem eq_nests {μ : Mu} (Ns : List NestD) : EqB μ (.lst (Ns.map NestD.d)) (.lst (Ns.map NestD.d)) true := by
  have e := EqB.py (Vw.py (μ := μ) (nests_py Ns)) (Vw.py (μ := μ) (nests_py Ns)) (shaped_nests Ns) (shaped_nests Ns)
  rwa [show PyData.eqv (.list (Ns.map NestD.py)) (.list (Ns.map NestD.py)) = true from (eqv_nests Ns Ns).2 rfl] at e
def nssD (Nss : List (List NestD)) : D := .lst (Nss.map fun Ns => D.lst (Ns.map NestD.d))
def nssP (Nss : List (List NestD)) : PyData := .list (Nss.map fun Ns => PyData.list (Ns.map NestD.py))
theorem nss_py (Nss : List (List NestD)) : toPy (nssD Nss) = some (nssP Nss) := by
  unfold nssD toPy
  rw [toPyAll_map (g := fun Ns => PyData.list (Ns.map NestD.py)) nests_py]; rfl
theorem shaped_nss (Nss : List (List NestD)) : SeqAt.shaped (nssP Nss) = true := by
  have h1 := depthAll_of (k := 5) (ps := Nss.map fun Ns => PyData.list (Ns.map NestD.py)) fun p hp => by
    obtain ⟨x, _, rfl⟩ := List.mem_map.1 hp
    have := depthAll_of (k := 4) (ps := x.map NestD.py) fun p hp => by
      obtain ⟨y, _, rfl⟩ := List.mem_map.1 hp
      exact dep_nest y
    simp only [PyData.depth]; omega
  unfold SeqAt.shaped
  have e : PyData.canLay0 (nssP Nss) = true := by
    unfold nssP
    rw [show PyData.canLay0 (.list (Nss.map fun Ns => PyData.list (Ns.map NestD.py))) = PyData.canLayAll0 (Nss.map fun Ns => PyData.list (Ns.map NestD.py)) from rfl]
    exact lay_all (f := fun Ns => PyData.list (Ns.map NestD.py)) (fun Ns => (by rw [show PyData.canLay0 (.list (Ns.map NestD.py)) = PyData.canLayAll0 (Ns.map NestD.py) from rfl]; exact lay_all lay_nest Ns)) Nss
  have e2 : (nssP Nss).depth ≤ 64 := by unfold nssP; simp only [PyData.depth]; omega
  rw [e, decide_eq_true e2]; rfl
theorem eqv_nss : ∀ Nss : List (List NestD), PyData.eqvAll (Nss.map fun Ns => PyData.list (Ns.map NestD.py)) (Nss.map fun Ns => PyData.list (Ns.map NestD.py)) = true
  | [] => rfl
  | Ns :: r => by
    show (PyData.eqv (.list (Ns.map NestD.py)) (.list (Ns.map NestD.py)) && PyData.eqvAll _ _) = true
    rw [show PyData.eqv (.list (Ns.map NestD.py)) (.list (Ns.map NestD.py)) = true from (eqv_nests Ns Ns).2 rfl, eqv_nss r]; rfl
theorem eq_nss {μ : Mu} (Nss : List (List NestD)) : EqB μ (nssD Nss) (nssD Nss) true := by
  have e := EqB.py (Vw.py (μ := μ) (nss_py Nss)) (Vw.py (μ := μ) (nss_py Nss)) (shaped_nss Nss) (shaped_nss Nss)
  rwa [show PyData.eqv (nssP Nss) (nssP Nss) = true from eqv_nss Nss] at e
/-- bounds -/
structure Bd (n L P A : Nat) (N : NestD) : Prop where
  pl : N.place.length = n
  ll : N.loops.length ≤ L
  lp : ∀ l ∈ N.loops, 0 ≤ l.1 ∧ l.1 < 10 ^ 40 ∧ l.2.length = n ∧ ∀ x ∈ l.2, -100 ≤ x ∧ x ≤ 100
  pb : ∀ x ∈ N.place, x.natAbs ≤ P
  am : N.amount.natAbs ≤ A
structure PB (n c L P A : Nat) (ns : List NestD) : Prop where
  n1 : 1 ≤ n
  n3 : n ≤ 3
  len : ns.length ≤ c
  v : ∀ N ∈ ns, Bd n L P A N
theorem PB.ok {n c L P A : Nat} {ns : List NestD} (h : PB n c L P A ns) (hc : c ≤ 100) (hL : L ≤ 8) (hP : P ≤ 10 ^ 20) (hA : A ≤ 10 ^ 60) : POk n ns :=
  ⟨h.n1, h.n3, Nat.le_trans h.len hc, fun N hN => by
    have b := h.v N hN
    have e := b.pl
    have n1 := h.n1
    have n3 := h.n3
    have am := b.am
    refine ⟨⟨by omega, by omega, Nat.le_trans b.ll hL, fun l hl => ?_, fun x hx => ?_, by omega⟩, e, by unfold Sm; omega⟩
    · obtain ⟨h1, h2, h3, h4⟩ := b.lp l hl
      exact ⟨h1, by omega, by omega, fun x hx => by have := h4 x hx; omega⟩
    · have := b.pb x hx; omega⟩
theorem PB.app {n c d L P A : Nat} {ns ms : List NestD} (h : PB n c L P A ns) (g : PB n d L P A ms) : PB n (c + d) L P A (ns ++ ms) :=
  ⟨h.n1, h.n3, by rw [List.length_append]; have := h.len; have := g.len; omega, fun N hN => (List.mem_append.1 hN).elim (h.v N) (g.v N)⟩
theorem PB.times {n c L P A B : Nat} {ns : List NestD} {k : Int} (h : PB n c L P A ns) (hk : k.natAbs ≤ B) : PB n c L P (A * B) (ns.map (timesN k)) :=
  ⟨h.n1, h.n3, by rw [List.length_map]; exact h.len, fun N hN => by
    obtain ⟨M, hM, rfl⟩ := List.mem_map.1 hN
    have b := h.v M hM
    exact ⟨b.pl, b.ll, b.lp, b.pb, by show (M.amount * k).natAbs ≤ _; rw [Int.natAbs_mul]; exact Nat.mul_le_mul b.am hk⟩⟩
theorem zip_mem {x : Int} : ∀ {s t : List Int}, x ∈ List.zipWith (fun a b => a + b) s t → ∃ a ∈ s, ∃ b ∈ t, x = a + b
  | [], _, h => by simp at h
  | _ :: _, [], h => by simp at h
  | a :: s, b :: t, h => by
    rw [List.zipWith_cons_cons] at h
    rcases List.mem_cons.1 h with rfl | h
    · exact ⟨a, List.mem_cons_self, b, List.mem_cons_self, rfl⟩
    · obtain ⟨a', h1, b', h2, e⟩ := zip_mem h
      exact ⟨a', List.mem_cons_of_mem _ h1, b', List.mem_cons_of_mem _ h2, e⟩
theorem PB.prod {n c d L P A L' P' A' : Nat} {ns ms : List NestD} (h : PB n c L P A ns) (g : PB n d L' P' A' ms) : PB n (c * d) (L + L') (P + P') (A * A') (prodL ns ms) :=
  ⟨h.n1, h.n3, by rw [prod_len]; exact Nat.mul_le_mul h.len g.len, fun N hN => by
    obtain ⟨M, hM, hN⟩ := List.mem_flatMap.1 hN
    obtain ⟨M2, hM2, rfl⟩ := List.mem_map.1 hN
    have b := h.v M hM
    have b2 := g.v M2 hM2
    refine ⟨?_, ?_, fun l hl => (List.mem_append.1 hl).elim (b.lp l) (b2.lp l), fun x hx => ?_, ?_⟩
    · show (List.zipWith _ M.place M2.place).length = n
      rw [List.length_zipWith, b.pl, b2.pl, Nat.min_self]
    · show (M.loops ++ M2.loops).length ≤ _
      rw [List.length_append]; have := b.ll; have := b2.ll; omega
    · obtain ⟨u, h1, v, h2, rfl⟩ := zip_mem hx
      have := b.pb u h1; have := b2.pb v h2; omega
    · show (M.amount * M2.amount).natAbs ≤ _
      rw [Int.natAbs_mul]; exact Nat.mul_le_mul b.am b2.am⟩
theorem PB.mono {n c L P A d L' P' A' : Nat} {ns : List NestD} (h : PB n c L P A ns) (h1 : c ≤ d) (h2 : L ≤ L') (h3 : P ≤ P') (h4 : A ≤ A') : PB n d L' P' A' ns :=
  ⟨h.n1, h.n3, Nat.le_trans h.len h1, fun N hN => by
    have b := h.v N hN
    exact ⟨b.pl, Nat.le_trans b.ll h2, b.lp, fun x hx => Nat.le_trans (b.pb x hx) h3, Nat.le_trans b.am h4⟩⟩
theorem pick5 {μ : Mu} {Kk : KD} {x y m : Int} (h0 : 0 ≤ m) (h1 : m < 5) (x0 : 0 ≤ x) (x1 : x < 10 ^ 30) (y0 : 0 ≤ y) (y1 : y < 100) (k : ∀ c : Int, c.natAbs ≤ 10 ^ 30 → Kk (.int c) μ) : fIx (.lst [.int 0, .int 1, .int (-1), .int x, .int (0 - y)]) (.int m) μ Kk := by
  have : m = 0 ∨ m = 1 ∨ m = 2 ∨ m = 3 ∨ m = 4 := by omega
  rcases this with rfl | rfl | rfl | rfl | rfl
  · exact ⟨_, _, _, rfl, rfl, DL.atI_nat (k := 0) rfl, k _ (by decide)⟩
  · exact ⟨_, _, _, rfl, rfl, DL.atI_nat (k := 1) rfl, k _ (by decide)⟩
  · exact ⟨_, _, _, rfl, rfl, DL.atI_nat (k := 2) rfl, k _ (by decide)⟩
  · exact ⟨_, _, _, rfl, rfl, DL.atI_nat (k := 3) rfl, k _ (by omega)⟩
  · exact ⟨_, _, _, rfl, rfl, DL.atI_nat (k := 4) rfl, k _ (by omega)⟩
def axesOf : D → D
  | .ins _ [(_, v), _] => v
  | x => x
def nestsOf : D → D
  | .ins _ [_, (_, v)] => v
  | x => x
def spRight (K : PySem.W.Frag) (mg : Str → Option Value) (T : Tx K mg) : DSp := fun ds μ Q _ => ∃ (a : Addr) (n : Nat) (b : Int) (ns ms : List NestD), ds = [.val (.ref a), .int n, .lst (ns.map NestD.d), .lst (ms.map NestD.d)] ∧ PB n 5 3 8 3 ns ∧ PB n 5 3 8 3 ms ∧ b ≤ 10 ^ 6 ∧ Pu b μ a ∧ ∀ μ', SubX a μ μ' → Pu (b + 100) μ' a → Q (.bl true) μ'
end
end K11
namespace K11
open PySem PySem.Spec PyProof.Rows L2 DL
section
variable {P : Program} {w : World} {K : PySem.W.Frag} {mg : Str → Option Value} {base : Heap}
noncomputable def red__law_right (P : Program) (w : World) (base : Heap) (T : Tx K mg) : { ds : KX → DS // ∀ (cdv : Value) (A : Around) (outer : List Env) (s : Shared) (H : Hp) (E : XK), Room 9 (A.deeper (envOfC "_law_right" (defScope s__law_right) s.heap.objs.size T.f__law_right cdv)) →
    ∃ t, PSs (cxOf CX0 P w K mg base N__law_right "_law_right" (defScope s__law_right) T.f__law_right cdv A outer s H E).nox (defBody s__law_right) t ∧ ∀ (AM : Amb) (Y : KX), LiftS t (ds Y) } :=
  ⟨_, fun cdv A outer s H E hr => by
    have hu := hr.units
    haveI : Amb := amb0
    have sc := sc__law_right
    exact ⟨_, (pss_cons (ps_par (i := 4) (j := 5) rfl sc.nd rfl rfl (by decide) rfl rfl (pa_cons ((pe_make (dvs := []) (ds := []) T.mk_Program (ok_Pm_init T) (hr.mono (by decide)) rfl T.g_Program T.b_Pm_init .nil pass0 (pa_cons (pv 1) (pa_cons (pv 2) pa_nil)))) (pa_cons ((pe_make (dvs := []) (ds := []) T.mk_Program (ok_Pm_init T) (hr.mono (by decide)) rfl T.g_Program T.b_Pm_init .nil pass0 (pa_cons (pv 1) (pa_cons (pv 3) pa_nil)))) pa_nil)) rfl) (pss_cons (ps_set (i := 6) sc.nd rfl (by first | exact Or.inl rfl | exact Or.inr rfl) ((pe_ix ix_seq ((pe_lst (pa_cons (pe_int) (pa_cons (pe_int) (pa_cons ((pe_un un_neg (pe_int))) (pa_cons ((pe_call (ok__law_draw T) (hr.mono (by decide)) rfl T.g__law_draw T.F__law_draw.kp T.b__law_draw .nil pass0 (pa_cons (pv 0) (pa_cons ((pe_op op_powD (pe_int) (pe_int))) pa_nil)))) (pa_cons ((pe_op op_sub (pe_int) ((pe_call (ok__law_draw T) (hr.mono (by decide)) rfl T.g__law_draw T.F__law_draw.kp T.b__law_draw .nil pass0 (pa_cons (pv 0) (pa_cons (pe_int) pa_nil)))))) pa_nil))))))) ((pe_call (ok__law_draw T) (hr.mono (by decide)) rfl T.g__law_draw T.F__law_draw.kp T.b__law_draw .nil pass0 (pa_cons (pv 0) (pa_cons (pe_int) pa_nil)))) (fun _ _ => rfl)))) (pss_cons (ps_set (i := 7) sc.nd rfl (by first | exact Or.inl rfl | exact Or.inr rfl) ((pe_lst (pa_cons ((pe_binI (pv 4) (pv 5) T.ci_Program (at_op dop_add T.at_Pm_add) T.fn_Pm_add (ok_Pm_add T (base := base)) (hr.mono (by decide)) T.b_Pm_add (pat passL))) (pa_cons ((pe_binI (pv 4) (pv 5) T.ci_Program (at_op dop_sub T.at_Pm_sub) T.fn_Pm_sub (ok_Pm_sub T (base := base)) (hr.mono (by decide)) T.b_Pm_sub (pat passL))) (pa_cons ((pe_negI (pv 4) T.at_Pm_neg T.fn_Pm_neg (ok_Pm_neg T (base := base)) (hr.mono (by decide)) T.b_Pm_neg (pat pass0))) (pa_cons ((pe_binJ (pv 4) (pv 6) T.ci_Program (at_op dop_mul T.at_Pm_mul) T.fn_Pm_mul T.rop_Pm_mul T.rop1_Pm_mul T.iop_mul T.iopR_mul T.isub_Program (ok_Pm_mul T (base := base)) (hr.mono (by decide)) T.b_Pm_mul (pat passL))) (pa_cons ((pe_binK (pv 6) (pv 4) T.ci_Program T.at_Pm_mul T.at_Pm_rmul T.fn_Pm_rmul T.subi_Program (ok_Pm_rmul T (base := base)) (hr.mono (by decide)) T.b_Pm_rmul (pat pass0))) (pa_cons ((pe_binI (pv 4) (pv 5) T.ci_Program (at_op dop_mul T.at_Pm_mul) T.fn_Pm_mul (ok_Pm_mul T (base := base)) (hr.mono (by decide)) T.b_Pm_mul (pat passL))) (pa_cons ((pe_binI (pv 4) (pv 4) T.ci_Program (at_op dop_add T.at_Pm_add) T.fn_Pm_add (ok_Pm_add T (base := base)) (hr.mono (by decide)) T.b_Pm_add (pat passL))) (pa_cons ((pe_binI (pv 4) (pv 4) T.ci_Program (at_op dop_mul T.at_Pm_mul) T.fn_Pm_mul (ok_Pm_mul T (base := base)) (hr.mono (by decide)) T.b_Pm_mul (pat passL))) pa_nil))))))))))) (pss_cons (ps_set (i := 8) sc.nd rfl (by first | exact Or.inl rfl | exact Or.inr rfl) ((pe_lst (pa_cons ((pe_op op_addD (pv 2) (pv 3))) (pa_cons ((pe_op op_addD (pv 2) ((pe_call (ok__law_times T) (hr.mono (by decide)) rfl T.g__law_times T.F__law_times.kp T.b__law_times .nil pass0 (pa_cons (pv 3) (pa_cons ((pe_un un_neg (pe_int))) pa_nil)))))) (pa_cons ((pe_call (ok__law_times T) (hr.mono (by decide)) rfl T.g__law_times T.F__law_times.kp T.b__law_times .nil pass0 (pa_cons (pv 2) (pa_cons ((pe_un un_neg (pe_int))) pa_nil)))) (pa_cons ((pe_call (ok__law_times T) (hr.mono (by decide)) rfl T.g__law_times T.F__law_times.kp T.b__law_times .nil pass0 (pa_cons (pv 2) (pa_cons (pv 6) pa_nil)))) pa_nil))))))) (pss_cons (ps_set (i := 8) sc.nd rfl (by first | exact Or.inl rfl | exact Or.inr rfl) ((pe_op op_addD (pv 8) ((pe_lst (pa_cons ((pe_call (ok__law_times T) (hr.mono (by decide)) rfl T.g__law_times T.F__law_times.kp T.b__law_times .nil pass0 (pa_cons (pv 2) (pa_cons (pv 6) pa_nil)))) (pa_cons ((pe_call (ok__law_product T) (hr.mono (by decide)) rfl T.g__law_product T.F__law_product.kp T.b__law_product .nil pass0 (pa_cons (pv 2) (pa_cons (pv 3) pa_nil)))) (pa_cons ((pe_op op_addD (pv 2) (pv 2))) (pa_cons ((pe_call (ok__law_product T) (hr.mono (by decide)) rfl T.g__law_product T.F__law_product.kp T.b__law_product .nil pass0 (pa_cons (pv 2) (pa_cons (pv 2) pa_nil)))) pa_nil))))))))) (pss_cons (ps_if (PW.pt (pw_or (pt_cmpR (op_neX hu) ((pe_lc (own := [("_law_program", 9)]) (g := (gName 9)) rfl sc.nd (pi_seq (pv 7)) (blkOk_by (own := [("_law_program", 9)]) (N := N__law_right) (sc := defScope s__law_right) (by decide +kernel)) (fun _ _ _ _ _ => (pg_name (i := 9) sc.nd rfl (by first | exact Or.inl rfl | exact Or.inr rfl))) (fun _ _ _ _ _ => pts_nil) (fun _ _ _ _ _ => (pe_att (pv 9) rfl)))) ((pe_op op_mulD ((pe_lst (pa_cons (pv 1) pa_nil))) (pe_int))) (nomark _)) (pw_or1 (pt_cmpR (op_neX hu) ((pe_lc (own := [("_law_program", 9)]) (g := (gName 9)) rfl sc.nd (pi_seq (pv 7)) (blkOk_by (own := [("_law_program", 9)]) (N := N__law_right) (sc := defScope s__law_right) (by decide +kernel)) (fun _ _ _ _ _ => (pg_name (i := 9) sc.nd rfl (by first | exact Or.inl rfl | exact Or.inr rfl))) (fun _ _ _ _ _ => pts_nil) (fun _ _ _ _ _ => (pe_meth0 (dvs := []) (ds := []) (o := _) (pv 9) T.ci_Program.cl ⟨T.at_Pm_nests, T.fn_Pm_nests, T.F_Pm_nests.kp⟩ (ok_Pm_nests T) (hr.mono (by decide)) T.b_Pm_nests .nil pass0)))) (pv 8) (nomark _))))) (pss_one (ps_ret (pe_bl))) pss_nil) (pss_cons (ps_set (i := 10) sc.nd rfl (by first | exact Or.inl rfl | exact Or.inr rfl) (pv 4)) (pss_cons (ps_aug (i := 4) sc.nd rfl (by first | exact Or.inl rfl | exact Or.inr rfl) (pv 5) (ip_II T.ni_add T.ci_Program (at_op dop_add T.at_Pm_add) T.fn_Pm_add (ok_Pm_add T (base := base)) (hr.mono (by decide)) T.b_Pm_add (pat passL))) (pss_cons (ps_if (PW.pt (pw_or (pt_cmpR (op_neX hu) ((pe_meth0 (dvs := []) (ds := []) (o := _) (pv 10) T.ci_Program.cl ⟨T.at_Pm_nests, T.fn_Pm_nests, T.F_Pm_nests.kp⟩ (ok_Pm_nests T) (hr.mono (by decide)) T.b_Pm_nests .nil pass0)) (pv 2) (nomark _)) (pw_or1 (pt_cmpR (op_neX hu) ((pe_meth0 (dvs := []) (ds := []) (o := _) (pv 4) T.ci_Program.cl ⟨T.at_Pm_nests, T.fn_Pm_nests, T.F_Pm_nests.kp⟩ (ok_Pm_nests T) (hr.mono (by decide)) T.b_Pm_nests .nil pass0)) ((pe_op op_addD (pv 2) (pv 3))) (nomark _))))) (pss_one (ps_ret (pe_bl))) pss_nil) (pss_cons (ps_aug (i := 4) sc.nd rfl (by first | exact Or.inl rfl | exact Or.inr rfl) (pv 5) (ip_II T.ni_sub T.ci_Program (at_op dop_sub T.at_Pm_sub) T.fn_Pm_sub (ok_Pm_sub T (base := base)) (hr.mono (by decide)) T.b_Pm_sub (pat passL))) (pss_cons (ps_if (pt_cmpR (op_neX hu) ((pe_meth0 (dvs := []) (ds := []) (o := _) (pv 4) T.ci_Program.cl ⟨T.at_Pm_nests, T.fn_Pm_nests, T.F_Pm_nests.kp⟩ (ok_Pm_nests T) (hr.mono (by decide)) T.b_Pm_nests .nil pass0)) ((pe_op op_addD ((pe_op op_addD (pv 2) (pv 3))) ((pe_call (ok__law_times T) (hr.mono (by decide)) rfl T.g__law_times T.F__law_times.kp T.b__law_times .nil pass0 (pa_cons (pv 3) (pa_cons ((pe_un un_neg (pe_int))) pa_nil)))))) (nomark _)) (pss_one (ps_ret (pe_bl))) pss_nil) (pss_cons (ps_set (i := 4) sc.nd rfl (by first | exact Or.inl rfl | exact Or.inr rfl) (pv 10)) (pss_cons (ps_aug (i := 4) sc.nd rfl (by first | exact Or.inl rfl | exact Or.inr rfl) (pv 6) (ip_IJ T.ni_mul T.ci_Program (at_op dop_mul T.at_Pm_mul) T.fn_Pm_mul T.rop_Pm_mul T.rop1_Pm_mul T.iop_mul T.iopR_mul T.isub_Program (ok_Pm_mul T (base := base)) (hr.mono (by decide)) T.b_Pm_mul (pat passL))) (pss_cons (ps_if (PW.pt (pw_or (pt_cmpR (op_neX hu) ((pe_meth0 (dvs := []) (ds := []) (o := _) (pv 10) T.ci_Program.cl ⟨T.at_Pm_nests, T.fn_Pm_nests, T.F_Pm_nests.kp⟩ (ok_Pm_nests T) (hr.mono (by decide)) T.b_Pm_nests .nil pass0)) (pv 2) (nomark _)) (pw_or1 (pt_cmpR (op_neX hu) ((pe_meth0 (dvs := []) (ds := []) (o := _) (pv 4) T.ci_Program.cl ⟨T.at_Pm_nests, T.fn_Pm_nests, T.F_Pm_nests.kp⟩ (ok_Pm_nests T) (hr.mono (by decide)) T.b_Pm_nests .nil pass0)) ((pe_call (ok__law_times T) (hr.mono (by decide)) rfl T.g__law_times T.F__law_times.kp T.b__law_times .nil pass0 (pa_cons (pv 2) (pa_cons (pv 6) pa_nil)))) (nomark _))))) (pss_one (ps_ret (pe_bl))) pss_nil) (pss_cons (ps_set (i := 4) sc.nd rfl (by first | exact Or.inl rfl | exact Or.inr rfl) (pv 10)) (pss_cons (ps_aug (i := 4) sc.nd rfl (by first | exact Or.inl rfl | exact Or.inr rfl) (pv 5) (ip_II T.ni_mul T.ci_Program (at_op dop_mul T.at_Pm_mul) T.fn_Pm_mul (ok_Pm_mul T (base := base)) (hr.mono (by decide)) T.b_Pm_mul (pat passL))) (pss_cons (ps_if (pt_cmpR (op_neX hu) ((pe_meth0 (dvs := []) (ds := []) (o := _) (pv 4) T.ci_Program.cl ⟨T.at_Pm_nests, T.fn_Pm_nests, T.F_Pm_nests.kp⟩ (ok_Pm_nests T) (hr.mono (by decide)) T.b_Pm_nests .nil pass0)) ((pe_call (ok__law_product T) (hr.mono (by decide)) rfl T.g__law_product T.F__law_product.kp T.b__law_product .nil pass0 (pa_cons (pv 2) (pa_cons (pv 3) pa_nil)))) (nomark _)) (pss_one (ps_ret (pe_bl))) pss_nil) (pss_one (ps_ret ((pe_and ((pe_cmpR (op_eqX hu) ((pe_meth0 (dvs := []) (ds := []) (o := _) (pv 10) T.ci_Program.cl ⟨T.at_Pm_nests, T.fn_Pm_nests, T.F_Pm_nests.kp⟩ (ok_Pm_nests T) (hr.mono (by decide)) T.b_Pm_nests .nil pass0)) (pv 2) (nomark _))) (pe_one ((pe_cmpR (op_eqX hu) ((pe_meth0 (dvs := []) (ds := []) (o := _) (pv 5) T.ci_Program.cl ⟨T.at_Pm_nests, T.fn_Pm_nests, T.F_Pm_nests.kp⟩ (ok_Pm_nests T) (hr.mono (by decide)) T.b_Pm_nests .nil pass0)) (pv 3) (nomark _))))))))))))))))))))))))), fun AM Y => (ls_seq (ls_par (l_cons ((l_make XOk.never (l_cons (l_var) (l_cons (l_var) l_nil)))) (l_cons ((l_make XOk.never (l_cons (l_var) (l_cons (l_var) l_nil)))) l_nil))) (ls_seq (ls_asg ((l_op l2_ix ((l_lst (l_cons (l_int) (l_cons (l_int) (l_cons ((l_un l1_neg (l_int))) (l_cons ((l_call XOk.never (l_cons (l_var) (l_cons ((l_op l2_pow (l_int) (l_int))) l_nil)))) (l_cons ((l_op l2_sub (l_int) ((l_call XOk.never (l_cons (l_var) (l_cons (l_int) l_nil)))))) l_nil))))))) ((l_call XOk.never (l_cons (l_var) (l_cons (l_int) l_nil)))))) lg_name) (ls_seq (ls_asg ((l_lst (l_cons ((l_binI XOk.never (l_var) (l_var))) (l_cons ((l_binI XOk.never (l_var) (l_var))) (l_cons ((l_negI XOk.never (l_var))) (l_cons ((l_binJ XOk.never (l_var) (l_var))) (l_cons ((l_binK XOk.never (l_var) (l_var))) (l_cons ((l_binI XOk.never (l_var) (l_var))) (l_cons ((l_binI XOk.never (l_var) (l_var))) (l_cons ((l_binI XOk.never (l_var) (l_var))) l_nil)))))))))) lg_name) (ls_seq (ls_asg ((l_lst (l_cons ((l_op l2_add (l_var) (l_var))) (l_cons ((l_op l2_add (l_var) ((l_call XOk.never (l_cons (l_var) (l_cons ((l_un l1_neg (l_int))) l_nil)))))) (l_cons ((l_call XOk.never (l_cons (l_var) (l_cons ((l_un l1_neg (l_int))) l_nil)))) (l_cons ((l_call XOk.never (l_cons (l_var) (l_cons (l_var) l_nil)))) l_nil)))))) lg_name) (ls_seq (ls_asg ((l_op l2_add (l_var) ((l_lst (l_cons ((l_call XOk.never (l_cons (l_var) (l_cons (l_var) l_nil)))) (l_cons ((l_call XOk.never (l_cons (l_var) (l_cons (l_var) l_nil)))) (l_cons ((l_op l2_add (l_var) (l_var))) (l_cons ((l_call XOk.never (l_cons (l_var) (l_cons (l_var) l_nil)))) l_nil)))))))) lg_name) (ls_seq (ls_if (l_or (l_test (l_op l2_eqX ((l_comp (li_seq (l_var)) (lgw_name (by decide)) l_yes ((l_att (l_var))))) ((l_op l2_mul ((l_lst (l_cons (l_var) l_nil))) (l_int))))) (l_test (l_op l2_eqX ((l_comp (li_seq (l_var)) (lgw_name (by decide)) l_yes ((l_meth XOk.never (l_var) l_nil)))) (l_var)))) (ls_ret (l_bl)) ls_next) (ls_seq (ls_asg (l_var) lg_name) (ls_seq (ls_aug (l_var) (li_II XOk.never)) (ls_seq (ls_if (l_or (l_test (l_op l2_eqX ((l_meth XOk.never (l_var) l_nil)) (l_var))) (l_test (l_op l2_eqX ((l_meth XOk.never (l_var) l_nil)) ((l_op l2_add (l_var) (l_var)))))) (ls_ret (l_bl)) ls_next) (ls_seq (ls_aug (l_var) (li_II XOk.never)) (ls_seq (ls_if (l_test (l_op l2_eqX ((l_meth XOk.never (l_var) l_nil)) ((l_op l2_add ((l_op l2_add (l_var) (l_var))) ((l_call XOk.never (l_cons (l_var) (l_cons ((l_un l1_neg (l_int))) l_nil)))))))) (ls_ret (l_bl)) ls_next) (ls_seq (ls_asg (l_var) lg_name) (ls_seq (ls_aug (l_var) (li_IJ XOk.never)) (ls_seq (ls_if (l_or (l_test (l_op l2_eqX ((l_meth XOk.never (l_var) l_nil)) (l_var))) (l_test (l_op l2_eqX ((l_meth XOk.never (l_var) l_nil)) ((l_call XOk.never (l_cons (l_var) (l_cons (l_var) l_nil))))))) (ls_ret (l_bl)) ls_next) (ls_seq (ls_asg (l_var) lg_name) (ls_seq (ls_aug (l_var) (li_II XOk.never)) (ls_seq (ls_if (l_test (l_op l2_eqX ((l_meth XOk.never (l_var) l_nil)) ((l_call XOk.never (l_cons (l_var) (l_cons (l_var) l_nil)))))) (ls_ret (l_bl)) ls_next) (ls_ret ((l_andV ((l_op l2_eqX ((l_meth XOk.never (l_var) l_nil)) (l_var))) ((l_op l2_eqX ((l_meth XOk.never (l_var) l_nil)) (l_var)))))))))))))))))))))))⟩⟩
end
end K11
namespace K11
open PySem PySem.Spec PyProof.Rows L2 DL
section
variable {P : Program} {w : World} {K : PySem.W.Frag} {mg : Str → Option Value} {base : Heap}
theorem body__law_right (T : Tx K mg) (Y : KX) : ∀ xs μ Kk, (spRight K mg T) xs μ Kk Y → (red__law_right P w base T).1 Y { nx := fun _ μ' => Kk .non μ', rt := Kk } (startD N__law_right xs) μ := by
  intro xs μ Kk h
  haveI : Amb := amb0
  obtain ⟨a, n, b, ns, ms, rfl, hn, hm, hb, hP, q⟩ := h
  have pn : POk n ns := hn.ok (by decide) (by decide) (by decide) (by decide)
  have pm : POk n ms := hm.ok (by decide) (by decide) (by decide) (by decide)
  try simp only [↓a_seq, ↓a_next, ↓a_brk, ↓a_cont, ↓a_ifS, ↓a_ret, ↓a_retN, ↓a_drop, ↓a_asg, ↓a_name, ↓a_gnil, ↓a_gcons, ↓a_gtup2, ↓a_gtup3, ↓a_var0, ↓a_varS, ↓a_c, ↓a_op, ↓a_un, ↓a_nil, ↓a_cons, ↓a_cb, ↓a_tup, ↓a_lst, ↓a_lstM, ↓a_ife, ↓a_test, ↓a_and, ↓a_or, ↓a_not, ↓a_andV, ↓a_orV, ↓a_notV, ↓a_bl, ↓a_if1, ↓a_if0, ↓a_int, ↓a_int0, ↓a_addI, ↓a_addT, ↓a_addL, ↓a_addS, ↓a_mulI, ↓a_neg, ↓a_eqI, ↓a_isN, ↓a_ixT0, ↓a_ixL0, ↓a_ixT1, ↓a_ixL1, ↓a_ixT2, ↓a_ixL2, ↓a_nopart, ↓a_part, ↓a_intE, ↓a_sl, ↓a_slT, ↓a_slL, ↓a_lenT, ↓a_lenL, ↓a_lenM, ↓a_call, ↓a_for, ↓a_rg1, ↓a_rg1E, ↓a_seqI, ↓a_seqT, ↓a_seqL, ↓a_seqV, ↓a_comp, ↓a_compM, ↓a_emp, ↓a_tupL, ↓a_tupT, ↓a_lstL, ↓a_lstT, ↓a_yes, ↓a_ixV, ↓a_addV, ↓a_slV1, ↓a_slV2, ↓a_lenV, ↓a_ixN0, ↓a_ixN1, ↓a_ixN2, ↓a_ixP0, ↓a_ixP1, ↓a_ixK, ↓a_gP, ↓a_gN, ↓a_gl2, ↓a_gl3, ↓a_subI, ↓a_app, ↓a_refE, ↓a_ixTn0, ↓a_ixTn1, ↓a_ixTn2, ↓a_lstMN, ↓a_att, ↓a_zipB, ↓a_ltT, ↓a_abs, ↓a_lstRg, ↓a_tupRg, ↓a_r1, ↓a_r2, ↓a_r2E, ↓a_int1I, ↓a_int1B, ↓a_rg2, ↓a_i2E, ↓a_l2E, ↓a_l3E, ↓a_chain, ↓a_wipe0, ↓a_wipe1, ↓a_raise, ↓a_err, ↓a_errE, ↓a_par, ↓a_par3, ↓a_rem, ↓a_try, ↓a_callS, ↓a_slV3, ↓a_slV4, ↓a_lstV, ↓a_lstMV, ↓a_zip, ↓a_zipLL, ↓a_zipVV, ↓a_tab2, ↓a_make, ↓a_meth, ↓a_binI, ↓a_binJ, ↓a_binK, ↓a_negI, ↓a_sfld, ↓a_aug, ↓a_ipI, ↓a_ipII, ↓a_ipIJ, a_addT, a_ixT0, a_ixT1, a_ixT2, a_slT, a_lenT, a_seqT, a_seqV, a_lstT, a_ixV, a_addV, a_slV1, a_slV2, a_lenV, a_ixN0, a_ixN1, a_ixN2, a_ixP0, a_ixP1, a_ixK, a_gP, a_gN, a_mm, a_ixTn0, a_ixTn1, a_ixTn2, a_ltT, a_slV3, a_slV4, a_lstV, f_loop, f_nest, f_vec1, f_cut1, f_cut2, f_cut3, f_cut4, f_map1, f_map2, f_cnt, f_stp, p_addVT, p_addTV, ↓startD, ↓List.map_cons, ↓List.map_nil, List.length_cons, List.length_nil, Nat.reduceAdd, Nat.reduceSub, Nat.reduceLeDiff, Int.reducePow, Int.reduceNeg, Int.reduceLE, Int.reduceLT, List.replicate, ↓List.cons_append, ↓List.nil_append, List.set_cons_zero, List.set_cons_succ, true_and, and_true, ↓reduceIte, Bool.not_true, Bool.not_false, decide_true, decide_false, Bool.false_eq_true, if_false, red__law_right]
  refine fun p1 h1 => ⟨p1, n, ns, rfl, mup_same, pn, rfl, _, mup_same, ?_⟩
  rw [mup_mup, mdel_mup h1]
  try simp only [↓a_seq, ↓a_next, ↓a_brk, ↓a_cont, ↓a_ifS, ↓a_ret, ↓a_retN, ↓a_drop, ↓a_asg, ↓a_name, ↓a_gnil, ↓a_gcons, ↓a_gtup2, ↓a_gtup3, ↓a_var0, ↓a_varS, ↓a_c, ↓a_op, ↓a_un, ↓a_nil, ↓a_cons, ↓a_cb, ↓a_tup, ↓a_lst, ↓a_lstM, ↓a_ife, ↓a_test, ↓a_and, ↓a_or, ↓a_not, ↓a_andV, ↓a_orV, ↓a_notV, ↓a_bl, ↓a_if1, ↓a_if0, ↓a_int, ↓a_int0, ↓a_addI, ↓a_addT, ↓a_addL, ↓a_addS, ↓a_mulI, ↓a_neg, ↓a_eqI, ↓a_isN, ↓a_ixT0, ↓a_ixL0, ↓a_ixT1, ↓a_ixL1, ↓a_ixT2, ↓a_ixL2, ↓a_nopart, ↓a_part, ↓a_intE, ↓a_sl, ↓a_slT, ↓a_slL, ↓a_lenT, ↓a_lenL, ↓a_lenM, ↓a_call, ↓a_for, ↓a_rg1, ↓a_rg1E, ↓a_seqI, ↓a_seqT, ↓a_seqL, ↓a_seqV, ↓a_comp, ↓a_compM, ↓a_emp, ↓a_tupL, ↓a_tupT, ↓a_lstL, ↓a_lstT, ↓a_yes, ↓a_ixV, ↓a_addV, ↓a_slV1, ↓a_slV2, ↓a_lenV, ↓a_ixN0, ↓a_ixN1, ↓a_ixN2, ↓a_ixP0, ↓a_ixP1, ↓a_ixK, ↓a_gP, ↓a_gN, ↓a_gl2, ↓a_gl3, ↓a_subI, ↓a_app, ↓a_refE, ↓a_ixTn0, ↓a_ixTn1, ↓a_ixTn2, ↓a_lstMN, ↓a_att, ↓a_zipB, ↓a_ltT, ↓a_abs, ↓a_lstRg, ↓a_tupRg, ↓a_r1, ↓a_r2, ↓a_r2E, ↓a_int1I, ↓a_int1B, ↓a_rg2, ↓a_i2E, ↓a_l2E, ↓a_l3E, ↓a_chain, ↓a_wipe0, ↓a_wipe1, ↓a_raise, ↓a_err, ↓a_errE, ↓a_par, ↓a_par3, ↓a_rem, ↓a_try, ↓a_callS, ↓a_slV3, ↓a_slV4, ↓a_lstV, ↓a_lstMV, ↓a_zip, ↓a_zipLL, ↓a_zipVV, ↓a_tab2, ↓a_make, ↓a_meth, ↓a_binI, ↓a_binJ, ↓a_binK, ↓a_negI, ↓a_sfld, ↓a_aug, ↓a_ipI, ↓a_ipII, ↓a_ipIJ, a_addT, a_ixT0, a_ixT1, a_ixT2, a_slT, a_lenT, a_seqT, a_seqV, a_lstT, a_ixV, a_addV, a_slV1, a_slV2, a_lenV, a_ixN0, a_ixN1, a_ixN2, a_ixP0, a_ixP1, a_ixK, a_gP, a_gN, a_mm, a_ixTn0, a_ixTn1, a_ixTn2, a_ltT, a_slV3, a_slV4, a_lstV, f_loop, f_nest, f_vec1, f_cut1, f_cut2, f_cut3, f_cut4, f_map1, f_map2, f_cnt, f_stp, p_addVT, p_addTV, ↓startD, ↓List.map_cons, ↓List.map_nil, List.length_cons, List.length_nil, Nat.reduceAdd, Nat.reduceSub, Nat.reduceLeDiff, Int.reducePow, Int.reduceNeg, Int.reduceLE, Int.reduceLT, List.replicate, ↓List.cons_append, ↓List.nil_append, List.set_cons_zero, List.set_cons_succ, true_and, and_true, ↓reduceIte, Bool.not_true, Bool.not_false, decide_true, decide_false, Bool.false_eq_true, if_false]
  refine fun p1 h1 => ⟨p1, n, ms, rfl, mup_same, pm, rfl, _, mup_same, ?_⟩
  rw [mup_mup, mdel_mup h1]
  try simp only [↓a_seq, ↓a_next, ↓a_brk, ↓a_cont, ↓a_ifS, ↓a_ret, ↓a_retN, ↓a_drop, ↓a_asg, ↓a_name, ↓a_gnil, ↓a_gcons, ↓a_gtup2, ↓a_gtup3, ↓a_var0, ↓a_varS, ↓a_c, ↓a_op, ↓a_un, ↓a_nil, ↓a_cons, ↓a_cb, ↓a_tup, ↓a_lst, ↓a_lstM, ↓a_ife, ↓a_test, ↓a_and, ↓a_or, ↓a_not, ↓a_andV, ↓a_orV, ↓a_notV, ↓a_bl, ↓a_if1, ↓a_if0, ↓a_int, ↓a_int0, ↓a_addI, ↓a_addT, ↓a_addL, ↓a_addS, ↓a_mulI, ↓a_neg, ↓a_eqI, ↓a_isN, ↓a_ixT0, ↓a_ixL0, ↓a_ixT1, ↓a_ixL1, ↓a_ixT2, ↓a_ixL2, ↓a_nopart, ↓a_part, ↓a_intE, ↓a_sl, ↓a_slT, ↓a_slL, ↓a_lenT, ↓a_lenL, ↓a_lenM, ↓a_call, ↓a_for, ↓a_rg1, ↓a_rg1E, ↓a_seqI, ↓a_seqT, ↓a_seqL, ↓a_seqV, ↓a_comp, ↓a_compM, ↓a_emp, ↓a_tupL, ↓a_tupT, ↓a_lstL, ↓a_lstT, ↓a_yes, ↓a_ixV, ↓a_addV, ↓a_slV1, ↓a_slV2, ↓a_lenV, ↓a_ixN0, ↓a_ixN1, ↓a_ixN2, ↓a_ixP0, ↓a_ixP1, ↓a_ixK, ↓a_gP, ↓a_gN, ↓a_gl2, ↓a_gl3, ↓a_subI, ↓a_app, ↓a_refE, ↓a_ixTn0, ↓a_ixTn1, ↓a_ixTn2, ↓a_lstMN, ↓a_att, ↓a_zipB, ↓a_ltT, ↓a_abs, ↓a_lstRg, ↓a_tupRg, ↓a_r1, ↓a_r2, ↓a_r2E, ↓a_int1I, ↓a_int1B, ↓a_rg2, ↓a_i2E, ↓a_l2E, ↓a_l3E, ↓a_chain, ↓a_wipe0, ↓a_wipe1, ↓a_raise, ↓a_err, ↓a_errE, ↓a_par, ↓a_par3, ↓a_rem, ↓a_try, ↓a_callS, ↓a_slV3, ↓a_slV4, ↓a_lstV, ↓a_lstMV, ↓a_zip, ↓a_zipLL, ↓a_zipVV, ↓a_tab2, ↓a_make, ↓a_meth, ↓a_binI, ↓a_binJ, ↓a_binK, ↓a_negI, ↓a_sfld, ↓a_aug, ↓a_ipI, ↓a_ipII, ↓a_ipIJ, a_addT, a_ixT0, a_ixT1, a_ixT2, a_slT, a_lenT, a_seqT, a_seqV, a_lstT, a_ixV, a_addV, a_slV1, a_slV2, a_lenV, a_ixN0, a_ixN1, a_ixN2, a_ixP0, a_ixP1, a_ixK, a_gP, a_gN, a_mm, a_ixTn0, a_ixTn1, a_ixTn2, a_ltT, a_slV3, a_slV4, a_lstV, f_loop, f_nest, f_vec1, f_cut1, f_cut2, f_cut3, f_cut4, f_map1, f_map2, f_cnt, f_stp, p_addVT, p_addTV, ↓startD, ↓List.map_cons, ↓List.map_nil, List.length_cons, List.length_nil, Nat.reduceAdd, Nat.reduceSub, Nat.reduceLeDiff, Int.reducePow, Int.reduceNeg, Int.reduceLE, Int.reduceLT, List.replicate, ↓List.cons_append, ↓List.nil_append, List.set_cons_zero, List.set_cons_succ, true_and, and_true, ↓reduceIte, Bool.not_true, Bool.not_false, decide_true, decide_false, Bool.false_eq_true, if_false]
  refine ⟨powSm (by decide) (by decide) (by decide), ?_⟩
  refine draw_x (by decide) (by decide) (by omega) hP fun x μ2 x0 x1 s2 hP2 => ?_
  refine draw_x (by decide) (by decide) (by omega) hP2 fun y μ3 y0 y1 s3 hP3 => ?_
  try simp only [↓a_seq, ↓a_next, ↓a_brk, ↓a_cont, ↓a_ifS, ↓a_ret, ↓a_retN, ↓a_drop, ↓a_asg, ↓a_name, ↓a_gnil, ↓a_gcons, ↓a_gtup2, ↓a_gtup3, ↓a_var0, ↓a_varS, ↓a_c, ↓a_op, ↓a_un, ↓a_nil, ↓a_cons, ↓a_cb, ↓a_tup, ↓a_lst, ↓a_lstM, ↓a_ife, ↓a_test, ↓a_and, ↓a_or, ↓a_not, ↓a_andV, ↓a_orV, ↓a_notV, ↓a_bl, ↓a_if1, ↓a_if0, ↓a_int, ↓a_int0, ↓a_addI, ↓a_addT, ↓a_addL, ↓a_addS, ↓a_mulI, ↓a_neg, ↓a_eqI, ↓a_isN, ↓a_ixT0, ↓a_ixL0, ↓a_ixT1, ↓a_ixL1, ↓a_ixT2, ↓a_ixL2, ↓a_nopart, ↓a_part, ↓a_intE, ↓a_sl, ↓a_slT, ↓a_slL, ↓a_lenT, ↓a_lenL, ↓a_lenM, ↓a_call, ↓a_for, ↓a_rg1, ↓a_rg1E, ↓a_seqI, ↓a_seqT, ↓a_seqL, ↓a_seqV, ↓a_comp, ↓a_compM, ↓a_emp, ↓a_tupL, ↓a_tupT, ↓a_lstL, ↓a_lstT, ↓a_yes, ↓a_ixV, ↓a_addV, ↓a_slV1, ↓a_slV2, ↓a_lenV, ↓a_ixN0, ↓a_ixN1, ↓a_ixN2, ↓a_ixP0, ↓a_ixP1, ↓a_ixK, ↓a_gP, ↓a_gN, ↓a_gl2, ↓a_gl3, ↓a_subI, ↓a_app, ↓a_refE, ↓a_ixTn0, ↓a_ixTn1, ↓a_ixTn2, ↓a_lstMN, ↓a_att, ↓a_zipB, ↓a_ltT, ↓a_abs, ↓a_lstRg, ↓a_tupRg, ↓a_r1, ↓a_r2, ↓a_r2E, ↓a_int1I, ↓a_int1B, ↓a_rg2, ↓a_i2E, ↓a_l2E, ↓a_l3E, ↓a_chain, ↓a_wipe0, ↓a_wipe1, ↓a_raise, ↓a_err, ↓a_errE, ↓a_par, ↓a_par3, ↓a_rem, ↓a_try, ↓a_callS, ↓a_slV3, ↓a_slV4, ↓a_lstV, ↓a_lstMV, ↓a_zip, ↓a_zipLL, ↓a_zipVV, ↓a_tab2, ↓a_make, ↓a_meth, ↓a_binI, ↓a_binJ, ↓a_binK, ↓a_negI, ↓a_sfld, ↓a_aug, ↓a_ipI, ↓a_ipII, ↓a_ipIJ, a_addT, a_ixT0, a_ixT1, a_ixT2, a_slT, a_lenT, a_seqT, a_seqV, a_lstT, a_ixV, a_addV, a_slV1, a_slV2, a_lenV, a_ixN0, a_ixN1, a_ixN2, a_ixP0, a_ixP1, a_ixK, a_gP, a_gN, a_mm, a_ixTn0, a_ixTn1, a_ixTn2, a_ltT, a_slV3, a_slV4, a_lstV, f_loop, f_nest, f_vec1, f_cut1, f_cut2, f_cut3, f_cut4, f_map1, f_map2, f_cnt, f_stp, p_addVT, p_addTV, ↓startD, ↓List.map_cons, ↓List.map_nil, List.length_cons, List.length_nil, Nat.reduceAdd, Nat.reduceSub, Nat.reduceLeDiff, Int.reducePow, Int.reduceNeg, Int.reduceLE, Int.reduceLT, List.replicate, ↓List.cons_append, ↓List.nil_append, List.set_cons_zero, List.set_cons_succ, true_and, and_true, ↓reduceIte, Bool.not_true, Bool.not_false, decide_true, decide_false, Bool.false_eq_true, if_false]
  refine draw_x (by decide) (by decide) (by omega) hP3 fun i μ4 i0 i1 s4 hP4 => ?_
  refine pick5 i0 i1 x0 x1 y0 y1 fun k hk => ?_
  have hk2 : Sm k := by unfold Sm; omega
  have hmm := hm.times (k := -1) (B := 1) (by decide)
  have hnn := hn.times (k := -1) (B := 1) (by decide)
  have hnk := hn.times hk
  have hs := hn.app hm
  have pS : POk n (ns ++ ms) := hs.ok (by decide) (by decide) (by decide) (by decide)
  have pD : POk n (ns ++ ms.map (timesN (-1))) := (hn.app hmm).ok (by decide) (by decide) (by decide) (by decide)
  have pMm : POk n (ms.map (timesN (-1))) := hmm.ok (by decide) (by decide) (by decide) (by decide)
  have pN : POk n (ns.map (timesN (-1))) := hnn.ok (by decide) (by decide) (by decide) (by decide)
  have pK : POk n (ns.map (timesN k)) := hnk.ok (by decide) (by decide) (by decide) (by decide)
  have pP : POk n (prodL ns ms) := (hn.prod hm).ok (by decide) (by decide) (by decide) (by decide)
  have pQ : POk n (prodL ns ns) := (hn.prod hn).ok (by decide) (by decide) (by decide) (by decide)
  have pT : POk n (ns ++ ns) := (hn.app hn).ok (by decide) (by decide) (by decide) (by decide)
  refine ⟨_, _, rfl, rfl, n, ns, n, ms, rfl, pn, pm, fun _ => ⟨pS, ?_⟩, fun e => absurd rfl e⟩
  refine ⟨_, _, rfl, rfl, n, ns, n, ms, rfl, pn, pm, pMm, fun _ => ⟨pD, ?_⟩, fun e => absurd rfl e⟩
  refine ⟨_, rfl, n, ns, rfl, pn, pN, ?_⟩
  refine ⟨_, _, rfl, rfl, .inr ⟨n, ns, k, rfl, pn, pK, hk2, ?_⟩⟩
  refine ⟨_, _, rfl, rfl, n, ns, k, rfl, pn, pK, hk2, ?_⟩
  refine ⟨_, _, rfl, rfl, .inl ⟨n, ns, n, ms, rfl, pn, pm, fun _ => ⟨pP, ?_⟩, fun e => absurd rfl e⟩⟩
  refine ⟨_, _, rfl, rfl, n, ns, n, ns, rfl, pn, pn, fun _ => ⟨pT, ?_⟩, fun e => absurd rfl e⟩
  refine ⟨_, _, rfl, rfl, .inl ⟨n, ns, n, ns, rfl, pn, pn, fun _ => ⟨pQ, ?_⟩, fun e => absurd rfl e⟩⟩
  try simp only [↓a_seq, ↓a_next, ↓a_brk, ↓a_cont, ↓a_ifS, ↓a_ret, ↓a_retN, ↓a_drop, ↓a_asg, ↓a_name, ↓a_gnil, ↓a_gcons, ↓a_gtup2, ↓a_gtup3, ↓a_var0, ↓a_varS, ↓a_c, ↓a_op, ↓a_un, ↓a_nil, ↓a_cons, ↓a_cb, ↓a_tup, ↓a_lst, ↓a_lstM, ↓a_ife, ↓a_test, ↓a_and, ↓a_or, ↓a_not, ↓a_andV, ↓a_orV, ↓a_notV, ↓a_bl, ↓a_if1, ↓a_if0, ↓a_int, ↓a_int0, ↓a_addI, ↓a_addT, ↓a_addL, ↓a_addS, ↓a_mulI, ↓a_neg, ↓a_eqI, ↓a_isN, ↓a_ixT0, ↓a_ixL0, ↓a_ixT1, ↓a_ixL1, ↓a_ixT2, ↓a_ixL2, ↓a_nopart, ↓a_part, ↓a_intE, ↓a_sl, ↓a_slT, ↓a_slL, ↓a_lenT, ↓a_lenL, ↓a_lenM, ↓a_call, ↓a_for, ↓a_rg1, ↓a_rg1E, ↓a_seqI, ↓a_seqT, ↓a_seqL, ↓a_seqV, ↓a_comp, ↓a_compM, ↓a_emp, ↓a_tupL, ↓a_tupT, ↓a_lstL, ↓a_lstT, ↓a_yes, ↓a_ixV, ↓a_addV, ↓a_slV1, ↓a_slV2, ↓a_lenV, ↓a_ixN0, ↓a_ixN1, ↓a_ixN2, ↓a_ixP0, ↓a_ixP1, ↓a_ixK, ↓a_gP, ↓a_gN, ↓a_gl2, ↓a_gl3, ↓a_subI, ↓a_app, ↓a_refE, ↓a_ixTn0, ↓a_ixTn1, ↓a_ixTn2, ↓a_lstMN, ↓a_att, ↓a_zipB, ↓a_ltT, ↓a_abs, ↓a_lstRg, ↓a_tupRg, ↓a_r1, ↓a_r2, ↓a_r2E, ↓a_int1I, ↓a_int1B, ↓a_rg2, ↓a_i2E, ↓a_l2E, ↓a_l3E, ↓a_chain, ↓a_wipe0, ↓a_wipe1, ↓a_raise, ↓a_err, ↓a_errE, ↓a_par, ↓a_par3, ↓a_rem, ↓a_try, ↓a_callS, ↓a_slV3, ↓a_slV4, ↓a_lstV, ↓a_lstMV, ↓a_zip, ↓a_zipLL, ↓a_zipVV, ↓a_tab2, ↓a_make, ↓a_meth, ↓a_binI, ↓a_binJ, ↓a_binK, ↓a_negI, ↓a_sfld, ↓a_aug, ↓a_ipI, ↓a_ipII, ↓a_ipIJ, a_addT, a_ixT0, a_ixT1, a_ixT2, a_slT, a_lenT, a_seqT, a_seqV, a_lstT, a_ixV, a_addV, a_slV1, a_slV2, a_lenV, a_ixN0, a_ixN1, a_ixN2, a_ixP0, a_ixP1, a_ixK, a_gP, a_gN, a_mm, a_ixTn0, a_ixTn1, a_ixTn2, a_ltT, a_slV3, a_slV4, a_lstV, f_loop, f_nest, f_vec1, f_cut1, f_cut2, f_cut3, f_cut4, f_map1, f_map2, f_cnt, f_stp, p_addVT, p_addTV, ↓startD, ↓List.map_cons, ↓List.map_nil, List.length_cons, List.length_nil, Nat.reduceAdd, Nat.reduceSub, Nat.reduceLeDiff, Int.reducePow, Int.reduceNeg, Int.reduceLE, Int.reduceLT, List.replicate, ↓List.cons_append, ↓List.nil_append, List.set_cons_zero, List.set_cons_succ, true_and, and_true, ↓reduceIte, Bool.not_true, Bool.not_false, decide_true, decide_false, Bool.false_eq_true, if_false]
  have ln : (ns.map NestD.d).length ≤ 5 := by rw [List.length_map]; exact hn.len
  have lm : (ms.map NestD.d).length ≤ 5 := by rw [List.length_map]; exact hm.len
  have lmm : ((ms.map (timesN (-1))).map NestD.d).length ≤ 5 := by rw [List.length_map]; exact hmm.len
  have s1 : Sm (-1) := by unfold Sm; omega
  refine ⟨by omega, n, ms, -1, rfl, pm, s1, ?_⟩
  try simp only [↓a_seq, ↓a_next, ↓a_brk, ↓a_cont, ↓a_ifS, ↓a_ret, ↓a_retN, ↓a_drop, ↓a_asg, ↓a_name, ↓a_gnil, ↓a_gcons, ↓a_gtup2, ↓a_gtup3, ↓a_var0, ↓a_varS, ↓a_c, ↓a_op, ↓a_un, ↓a_nil, ↓a_cons, ↓a_cb, ↓a_tup, ↓a_lst, ↓a_lstM, ↓a_ife, ↓a_test, ↓a_and, ↓a_or, ↓a_not, ↓a_andV, ↓a_orV, ↓a_notV, ↓a_bl, ↓a_if1, ↓a_if0, ↓a_int, ↓a_int0, ↓a_addI, ↓a_addT, ↓a_addL, ↓a_addS, ↓a_mulI, ↓a_neg, ↓a_eqI, ↓a_isN, ↓a_ixT0, ↓a_ixL0, ↓a_ixT1, ↓a_ixL1, ↓a_ixT2, ↓a_ixL2, ↓a_nopart, ↓a_part, ↓a_intE, ↓a_sl, ↓a_slT, ↓a_slL, ↓a_lenT, ↓a_lenL, ↓a_lenM, ↓a_call, ↓a_for, ↓a_rg1, ↓a_rg1E, ↓a_seqI, ↓a_seqT, ↓a_seqL, ↓a_seqV, ↓a_comp, ↓a_compM, ↓a_emp, ↓a_tupL, ↓a_tupT, ↓a_lstL, ↓a_lstT, ↓a_yes, ↓a_ixV, ↓a_addV, ↓a_slV1, ↓a_slV2, ↓a_lenV, ↓a_ixN0, ↓a_ixN1, ↓a_ixN2, ↓a_ixP0, ↓a_ixP1, ↓a_ixK, ↓a_gP, ↓a_gN, ↓a_gl2, ↓a_gl3, ↓a_subI, ↓a_app, ↓a_refE, ↓a_ixTn0, ↓a_ixTn1, ↓a_ixTn2, ↓a_lstMN, ↓a_att, ↓a_zipB, ↓a_ltT, ↓a_abs, ↓a_lstRg, ↓a_tupRg, ↓a_r1, ↓a_r2, ↓a_r2E, ↓a_int1I, ↓a_int1B, ↓a_rg2, ↓a_i2E, ↓a_l2E, ↓a_l3E, ↓a_chain, ↓a_wipe0, ↓a_wipe1, ↓a_raise, ↓a_err, ↓a_errE, ↓a_par, ↓a_par3, ↓a_rem, ↓a_try, ↓a_callS, ↓a_slV3, ↓a_slV4, ↓a_lstV, ↓a_lstMV, ↓a_zip, ↓a_zipLL, ↓a_zipVV, ↓a_tab2, ↓a_make, ↓a_meth, ↓a_binI, ↓a_binJ, ↓a_binK, ↓a_negI, ↓a_sfld, ↓a_aug, ↓a_ipI, ↓a_ipII, ↓a_ipIJ, a_addT, a_ixT0, a_ixT1, a_ixT2, a_slT, a_lenT, a_seqT, a_seqV, a_lstT, a_ixV, a_addV, a_slV1, a_slV2, a_lenV, a_ixN0, a_ixN1, a_ixN2, a_ixP0, a_ixP1, a_ixK, a_gP, a_gN, a_mm, a_ixTn0, a_ixTn1, a_ixTn2, a_ltT, a_slV3, a_slV4, a_lstV, f_loop, f_nest, f_vec1, f_cut1, f_cut2, f_cut3, f_cut4, f_map1, f_map2, f_cnt, f_stp, p_addVT, p_addTV, ↓startD, ↓List.map_cons, ↓List.map_nil, List.length_cons, List.length_nil, Nat.reduceAdd, Nat.reduceSub, Nat.reduceLeDiff, Int.reducePow, Int.reduceNeg, Int.reduceLE, Int.reduceLT, List.replicate, ↓List.cons_append, ↓List.nil_append, List.set_cons_zero, List.set_cons_succ, true_and, and_true, ↓reduceIte, Bool.not_true, Bool.not_false, decide_true, decide_false, Bool.false_eq_true, if_false]
  refine ⟨by omega, n, ns, -1, rfl, pn, s1, ?_⟩
  try simp only [↓a_seq, ↓a_next, ↓a_brk, ↓a_cont, ↓a_ifS, ↓a_ret, ↓a_retN, ↓a_drop, ↓a_asg, ↓a_name, ↓a_gnil, ↓a_gcons, ↓a_gtup2, ↓a_gtup3, ↓a_var0, ↓a_varS, ↓a_c, ↓a_op, ↓a_un, ↓a_nil, ↓a_cons, ↓a_cb, ↓a_tup, ↓a_lst, ↓a_lstM, ↓a_ife, ↓a_test, ↓a_and, ↓a_or, ↓a_not, ↓a_andV, ↓a_orV, ↓a_notV, ↓a_bl, ↓a_if1, ↓a_if0, ↓a_int, ↓a_int0, ↓a_addI, ↓a_addT, ↓a_addL, ↓a_addS, ↓a_mulI, ↓a_neg, ↓a_eqI, ↓a_isN, ↓a_ixT0, ↓a_ixL0, ↓a_ixT1, ↓a_ixL1, ↓a_ixT2, ↓a_ixL2, ↓a_nopart, ↓a_part, ↓a_intE, ↓a_sl, ↓a_slT, ↓a_slL, ↓a_lenT, ↓a_lenL, ↓a_lenM, ↓a_call, ↓a_for, ↓a_rg1, ↓a_rg1E, ↓a_seqI, ↓a_seqT, ↓a_seqL, ↓a_seqV, ↓a_comp, ↓a_compM, ↓a_emp, ↓a_tupL, ↓a_tupT, ↓a_lstL, ↓a_lstT, ↓a_yes, ↓a_ixV, ↓a_addV, ↓a_slV1, ↓a_slV2, ↓a_lenV, ↓a_ixN0, ↓a_ixN1, ↓a_ixN2, ↓a_ixP0, ↓a_ixP1, ↓a_ixK, ↓a_gP, ↓a_gN, ↓a_gl2, ↓a_gl3, ↓a_subI, ↓a_app, ↓a_refE, ↓a_ixTn0, ↓a_ixTn1, ↓a_ixTn2, ↓a_lstMN, ↓a_att, ↓a_zipB, ↓a_ltT, ↓a_abs, ↓a_lstRg, ↓a_tupRg, ↓a_r1, ↓a_r2, ↓a_r2E, ↓a_int1I, ↓a_int1B, ↓a_rg2, ↓a_i2E, ↓a_l2E, ↓a_l3E, ↓a_chain, ↓a_wipe0, ↓a_wipe1, ↓a_raise, ↓a_err, ↓a_errE, ↓a_par, ↓a_par3, ↓a_rem, ↓a_try, ↓a_callS, ↓a_slV3, ↓a_slV4, ↓a_lstV, ↓a_lstMV, ↓a_zip, ↓a_zipLL, ↓a_zipVV, ↓a_tab2, ↓a_make, ↓a_meth, ↓a_binI, ↓a_binJ, ↓a_binK, ↓a_negI, ↓a_sfld, ↓a_aug, ↓a_ipI, ↓a_ipII, ↓a_ipIJ, a_addT, a_ixT0, a_ixT1, a_ixT2, a_slT, a_lenT, a_seqT, a_seqV, a_lstT, a_ixV, a_addV, a_slV1, a_slV2, a_lenV, a_ixN0, a_ixN1, a_ixN2, a_ixP0, a_ixP1, a_ixK, a_gP, a_gN, a_mm, a_ixTn0, a_ixTn1, a_ixTn2, a_ltT, a_slV3, a_slV4, a_lstV, f_loop, f_nest, f_vec1, f_cut1, f_cut2, f_cut3, f_cut4, f_map1, f_map2, f_cnt, f_stp, p_addVT, p_addTV, ↓startD, ↓List.map_cons, ↓List.map_nil, List.length_cons, List.length_nil, Nat.reduceAdd, Nat.reduceSub, Nat.reduceLeDiff, Int.reducePow, Int.reduceNeg, Int.reduceLE, Int.reduceLT, List.replicate, ↓List.cons_append, ↓List.nil_append, List.set_cons_zero, List.set_cons_succ, true_and, and_true, ↓reduceIte, Bool.not_true, Bool.not_false, decide_true, decide_false, Bool.false_eq_true, if_false]
  refine ⟨n, ns, k, rfl, pn, hk2, ?_⟩
  try simp only [↓a_seq, ↓a_next, ↓a_brk, ↓a_cont, ↓a_ifS, ↓a_ret, ↓a_retN, ↓a_drop, ↓a_asg, ↓a_name, ↓a_gnil, ↓a_gcons, ↓a_gtup2, ↓a_gtup3, ↓a_var0, ↓a_varS, ↓a_c, ↓a_op, ↓a_un, ↓a_nil, ↓a_cons, ↓a_cb, ↓a_tup, ↓a_lst, ↓a_lstM, ↓a_ife, ↓a_test, ↓a_and, ↓a_or, ↓a_not, ↓a_andV, ↓a_orV, ↓a_notV, ↓a_bl, ↓a_if1, ↓a_if0, ↓a_int, ↓a_int0, ↓a_addI, ↓a_addT, ↓a_addL, ↓a_addS, ↓a_mulI, ↓a_neg, ↓a_eqI, ↓a_isN, ↓a_ixT0, ↓a_ixL0, ↓a_ixT1, ↓a_ixL1, ↓a_ixT2, ↓a_ixL2, ↓a_nopart, ↓a_part, ↓a_intE, ↓a_sl, ↓a_slT, ↓a_slL, ↓a_lenT, ↓a_lenL, ↓a_lenM, ↓a_call, ↓a_for, ↓a_rg1, ↓a_rg1E, ↓a_seqI, ↓a_seqT, ↓a_seqL, ↓a_seqV, ↓a_comp, ↓a_compM, ↓a_emp, ↓a_tupL, ↓a_tupT, ↓a_lstL, ↓a_lstT, ↓a_yes, ↓a_ixV, ↓a_addV, ↓a_slV1, ↓a_slV2, ↓a_lenV, ↓a_ixN0, ↓a_ixN1, ↓a_ixN2, ↓a_ixP0, ↓a_ixP1, ↓a_ixK, ↓a_gP, ↓a_gN, ↓a_gl2, ↓a_gl3, ↓a_subI, ↓a_app, ↓a_refE, ↓a_ixTn0, ↓a_ixTn1, ↓a_ixTn2, ↓a_lstMN, ↓a_att, ↓a_zipB, ↓a_ltT, ↓a_abs, ↓a_lstRg, ↓a_tupRg, ↓a_r1, ↓a_r2, ↓a_r2E, ↓a_int1I, ↓a_int1B, ↓a_rg2, ↓a_i2E, ↓a_l2E, ↓a_l3E, ↓a_chain, ↓a_wipe0, ↓a_wipe1, ↓a_raise, ↓a_err, ↓a_errE, ↓a_par, ↓a_par3, ↓a_rem, ↓a_try, ↓a_callS, ↓a_slV3, ↓a_slV4, ↓a_lstV, ↓a_lstMV, ↓a_zip, ↓a_zipLL, ↓a_zipVV, ↓a_tab2, ↓a_make, ↓a_meth, ↓a_binI, ↓a_binJ, ↓a_binK, ↓a_negI, ↓a_sfld, ↓a_aug, ↓a_ipI, ↓a_ipII, ↓a_ipIJ, a_addT, a_ixT0, a_ixT1, a_ixT2, a_slT, a_lenT, a_seqT, a_seqV, a_lstT, a_ixV, a_addV, a_slV1, a_slV2, a_lenV, a_ixN0, a_ixN1, a_ixN2, a_ixP0, a_ixP1, a_ixK, a_gP, a_gN, a_mm, a_ixTn0, a_ixTn1, a_ixTn2, a_ltT, a_slV3, a_slV4, a_lstV, f_loop, f_nest, f_vec1, f_cut1, f_cut2, f_cut3, f_cut4, f_map1, f_map2, f_cnt, f_stp, p_addVT, p_addTV, ↓startD, ↓List.map_cons, ↓List.map_nil, List.length_cons, List.length_nil, Nat.reduceAdd, Nat.reduceSub, Nat.reduceLeDiff, Int.reducePow, Int.reduceNeg, Int.reduceLE, Int.reduceLT, List.replicate, ↓List.cons_append, ↓List.nil_append, List.set_cons_zero, List.set_cons_succ, true_and, and_true, ↓reduceIte, Bool.not_true, Bool.not_false, decide_true, decide_false, Bool.false_eq_true, if_false]
  refine ⟨n, ns, k, rfl, pn, hk2, ?_⟩
  try simp only [↓a_seq, ↓a_next, ↓a_brk, ↓a_cont, ↓a_ifS, ↓a_ret, ↓a_retN, ↓a_drop, ↓a_asg, ↓a_name, ↓a_gnil, ↓a_gcons, ↓a_gtup2, ↓a_gtup3, ↓a_var0, ↓a_varS, ↓a_c, ↓a_op, ↓a_un, ↓a_nil, ↓a_cons, ↓a_cb, ↓a_tup, ↓a_lst, ↓a_lstM, ↓a_ife, ↓a_test, ↓a_and, ↓a_or, ↓a_not, ↓a_andV, ↓a_orV, ↓a_notV, ↓a_bl, ↓a_if1, ↓a_if0, ↓a_int, ↓a_int0, ↓a_addI, ↓a_addT, ↓a_addL, ↓a_addS, ↓a_mulI, ↓a_neg, ↓a_eqI, ↓a_isN, ↓a_ixT0, ↓a_ixL0, ↓a_ixT1, ↓a_ixL1, ↓a_ixT2, ↓a_ixL2, ↓a_nopart, ↓a_part, ↓a_intE, ↓a_sl, ↓a_slT, ↓a_slL, ↓a_lenT, ↓a_lenL, ↓a_lenM, ↓a_call, ↓a_for, ↓a_rg1, ↓a_rg1E, ↓a_seqI, ↓a_seqT, ↓a_seqL, ↓a_seqV, ↓a_comp, ↓a_compM, ↓a_emp, ↓a_tupL, ↓a_tupT, ↓a_lstL, ↓a_lstT, ↓a_yes, ↓a_ixV, ↓a_addV, ↓a_slV1, ↓a_slV2, ↓a_lenV, ↓a_ixN0, ↓a_ixN1, ↓a_ixN2, ↓a_ixP0, ↓a_ixP1, ↓a_ixK, ↓a_gP, ↓a_gN, ↓a_gl2, ↓a_gl3, ↓a_subI, ↓a_app, ↓a_refE, ↓a_ixTn0, ↓a_ixTn1, ↓a_ixTn2, ↓a_lstMN, ↓a_att, ↓a_zipB, ↓a_ltT, ↓a_abs, ↓a_lstRg, ↓a_tupRg, ↓a_r1, ↓a_r2, ↓a_r2E, ↓a_int1I, ↓a_int1B, ↓a_rg2, ↓a_i2E, ↓a_l2E, ↓a_l3E, ↓a_chain, ↓a_wipe0, ↓a_wipe1, ↓a_raise, ↓a_err, ↓a_errE, ↓a_par, ↓a_par3, ↓a_rem, ↓a_try, ↓a_callS, ↓a_slV3, ↓a_slV4, ↓a_lstV, ↓a_lstMV, ↓a_zip, ↓a_zipLL, ↓a_zipVV, ↓a_tab2, ↓a_make, ↓a_meth, ↓a_binI, ↓a_binJ, ↓a_binK, ↓a_negI, ↓a_sfld, ↓a_aug, ↓a_ipI, ↓a_ipII, ↓a_ipIJ, a_addT, a_ixT0, a_ixT1, a_ixT2, a_slT, a_lenT, a_seqT, a_seqV, a_lstT, a_ixV, a_addV, a_slV1, a_slV2, a_lenV, a_ixN0, a_ixN1, a_ixN2, a_ixP0, a_ixP1, a_ixK, a_gP, a_gN, a_mm, a_ixTn0, a_ixTn1, a_ixTn2, a_ltT, a_slV3, a_slV4, a_lstV, f_loop, f_nest, f_vec1, f_cut1, f_cut2, f_cut3, f_cut4, f_map1, f_map2, f_cnt, f_stp, p_addVT, p_addTV, ↓startD, ↓List.map_cons, ↓List.map_nil, List.length_cons, List.length_nil, Nat.reduceAdd, Nat.reduceSub, Nat.reduceLeDiff, Int.reducePow, Int.reduceNeg, Int.reduceLE, Int.reduceLT, List.replicate, ↓List.cons_append, ↓List.nil_append, List.set_cons_zero, List.set_cons_succ, true_and, and_true, ↓reduceIte, Bool.not_true, Bool.not_false, decide_true, decide_false, Bool.false_eq_true, if_false]
  refine ⟨n, ns, ms, rfl, pn, pm, ?_⟩
  try simp only [↓a_seq, ↓a_next, ↓a_brk, ↓a_cont, ↓a_ifS, ↓a_ret, ↓a_retN, ↓a_drop, ↓a_asg, ↓a_name, ↓a_gnil, ↓a_gcons, ↓a_gtup2, ↓a_gtup3, ↓a_var0, ↓a_varS, ↓a_c, ↓a_op, ↓a_un, ↓a_nil, ↓a_cons, ↓a_cb, ↓a_tup, ↓a_lst, ↓a_lstM, ↓a_ife, ↓a_test, ↓a_and, ↓a_or, ↓a_not, ↓a_andV, ↓a_orV, ↓a_notV, ↓a_bl, ↓a_if1, ↓a_if0, ↓a_int, ↓a_int0, ↓a_addI, ↓a_addT, ↓a_addL, ↓a_addS, ↓a_mulI, ↓a_neg, ↓a_eqI, ↓a_isN, ↓a_ixT0, ↓a_ixL0, ↓a_ixT1, ↓a_ixL1, ↓a_ixT2, ↓a_ixL2, ↓a_nopart, ↓a_part, ↓a_intE, ↓a_sl, ↓a_slT, ↓a_slL, ↓a_lenT, ↓a_lenL, ↓a_lenM, ↓a_call, ↓a_for, ↓a_rg1, ↓a_rg1E, ↓a_seqI, ↓a_seqT, ↓a_seqL, ↓a_seqV, ↓a_comp, ↓a_compM, ↓a_emp, ↓a_tupL, ↓a_tupT, ↓a_lstL, ↓a_lstT, ↓a_yes, ↓a_ixV, ↓a_addV, ↓a_slV1, ↓a_slV2, ↓a_lenV, ↓a_ixN0, ↓a_ixN1, ↓a_ixN2, ↓a_ixP0, ↓a_ixP1, ↓a_ixK, ↓a_gP, ↓a_gN, ↓a_gl2, ↓a_gl3, ↓a_subI, ↓a_app, ↓a_refE, ↓a_ixTn0, ↓a_ixTn1, ↓a_ixTn2, ↓a_lstMN, ↓a_att, ↓a_zipB, ↓a_ltT, ↓a_abs, ↓a_lstRg, ↓a_tupRg, ↓a_r1, ↓a_r2, ↓a_r2E, ↓a_int1I, ↓a_int1B, ↓a_rg2, ↓a_i2E, ↓a_l2E, ↓a_l3E, ↓a_chain, ↓a_wipe0, ↓a_wipe1, ↓a_raise, ↓a_err, ↓a_errE, ↓a_par, ↓a_par3, ↓a_rem, ↓a_try, ↓a_callS, ↓a_slV3, ↓a_slV4, ↓a_lstV, ↓a_lstMV, ↓a_zip, ↓a_zipLL, ↓a_zipVV, ↓a_tab2, ↓a_make, ↓a_meth, ↓a_binI, ↓a_binJ, ↓a_binK, ↓a_negI, ↓a_sfld, ↓a_aug, ↓a_ipI, ↓a_ipII, ↓a_ipIJ, a_addT, a_ixT0, a_ixT1, a_ixT2, a_slT, a_lenT, a_seqT, a_seqV, a_lstT, a_ixV, a_addV, a_slV1, a_slV2, a_lenV, a_ixN0, a_ixN1, a_ixN2, a_ixP0, a_ixP1, a_ixK, a_gP, a_gN, a_mm, a_ixTn0, a_ixTn1, a_ixTn2, a_ltT, a_slV3, a_slV4, a_lstV, f_loop, f_nest, f_vec1, f_cut1, f_cut2, f_cut3, f_cut4, f_map1, f_map2, f_cnt, f_stp, p_addVT, p_addTV, ↓startD, ↓List.map_cons, ↓List.map_nil, List.length_cons, List.length_nil, Nat.reduceAdd, Nat.reduceSub, Nat.reduceLeDiff, Int.reducePow, Int.reduceNeg, Int.reduceLE, Int.reduceLT, List.replicate, ↓List.cons_append, ↓List.nil_append, List.set_cons_zero, List.set_cons_succ, true_and, and_true, ↓reduceIte, Bool.not_true, Bool.not_false, decide_true, decide_false, Bool.false_eq_true, if_false]
  refine ⟨by omega, n, ns, ns, rfl, pn, pn, ?_⟩
  try simp only [↓a_seq, ↓a_next, ↓a_brk, ↓a_cont, ↓a_ifS, ↓a_ret, ↓a_retN, ↓a_drop, ↓a_asg, ↓a_name, ↓a_gnil, ↓a_gcons, ↓a_gtup2, ↓a_gtup3, ↓a_var0, ↓a_varS, ↓a_c, ↓a_op, ↓a_un, ↓a_nil, ↓a_cons, ↓a_cb, ↓a_tup, ↓a_lst, ↓a_lstM, ↓a_ife, ↓a_test, ↓a_and, ↓a_or, ↓a_not, ↓a_andV, ↓a_orV, ↓a_notV, ↓a_bl, ↓a_if1, ↓a_if0, ↓a_int, ↓a_int0, ↓a_addI, ↓a_addT, ↓a_addL, ↓a_addS, ↓a_mulI, ↓a_neg, ↓a_eqI, ↓a_isN, ↓a_ixT0, ↓a_ixL0, ↓a_ixT1, ↓a_ixL1, ↓a_ixT2, ↓a_ixL2, ↓a_nopart, ↓a_part, ↓a_intE, ↓a_sl, ↓a_slT, ↓a_slL, ↓a_lenT, ↓a_lenL, ↓a_lenM, ↓a_call, ↓a_for, ↓a_rg1, ↓a_rg1E, ↓a_seqI, ↓a_seqT, ↓a_seqL, ↓a_seqV, ↓a_comp, ↓a_compM, ↓a_emp, ↓a_tupL, ↓a_tupT, ↓a_lstL, ↓a_lstT, ↓a_yes, ↓a_ixV, ↓a_addV, ↓a_slV1, ↓a_slV2, ↓a_lenV, ↓a_ixN0, ↓a_ixN1, ↓a_ixN2, ↓a_ixP0, ↓a_ixP1, ↓a_ixK, ↓a_gP, ↓a_gN, ↓a_gl2, ↓a_gl3, ↓a_subI, ↓a_app, ↓a_refE, ↓a_ixTn0, ↓a_ixTn1, ↓a_ixTn2, ↓a_lstMN, ↓a_att, ↓a_zipB, ↓a_ltT, ↓a_abs, ↓a_lstRg, ↓a_tupRg, ↓a_r1, ↓a_r2, ↓a_r2E, ↓a_int1I, ↓a_int1B, ↓a_rg2, ↓a_i2E, ↓a_l2E, ↓a_l3E, ↓a_chain, ↓a_wipe0, ↓a_wipe1, ↓a_raise, ↓a_err, ↓a_errE, ↓a_par, ↓a_par3, ↓a_rem, ↓a_try, ↓a_callS, ↓a_slV3, ↓a_slV4, ↓a_lstV, ↓a_lstMV, ↓a_zip, ↓a_zipLL, ↓a_zipVV, ↓a_tab2, ↓a_make, ↓a_meth, ↓a_binI, ↓a_binJ, ↓a_binK, ↓a_negI, ↓a_sfld, ↓a_aug, ↓a_ipI, ↓a_ipII, ↓a_ipIJ, a_addT, a_ixT0, a_ixT1, a_ixT2, a_slT, a_lenT, a_seqT, a_seqV, a_lstT, a_ixV, a_addV, a_slV1, a_slV2, a_lenV, a_ixN0, a_ixN1, a_ixN2, a_ixP0, a_ixP1, a_ixK, a_gP, a_gN, a_mm, a_ixTn0, a_ixTn1, a_ixTn2, a_ltT, a_slV3, a_slV4, a_lstV, f_loop, f_nest, f_vec1, f_cut1, f_cut2, f_cut3, f_cut4, f_map1, f_map2, f_cnt, f_stp, p_addVT, p_addTV, ↓startD, ↓List.map_cons, ↓List.map_nil, List.length_cons, List.length_nil, Nat.reduceAdd, Nat.reduceSub, Nat.reduceLeDiff, Int.reducePow, Int.reduceNeg, Int.reduceLE, Int.reduceLT, List.replicate, ↓List.cons_append, ↓List.nil_append, List.set_cons_zero, List.set_cons_succ, true_and, and_true, ↓reduceIte, Bool.not_true, Bool.not_false, decide_true, decide_false, Bool.false_eq_true, if_false]
  have hall : ∀ x ∈ [progD T.C_Program n (ns ++ ms), progD T.C_Program n (ns ++ List.map (timesN (-1)) ms), progD T.C_Program n (List.map (timesN (-1)) ns), progD T.C_Program n (List.map (timesN k) ns), progD T.C_Program n (List.map (timesN k) ns), progD T.C_Program n (prodL ns ms), progD T.C_Program n (ns ++ ns), progD T.C_Program n (prodL ns ns)], ∃ N, POk n N ∧ x = progD T.C_Program n N :=
    all_cons ⟨_, pS, rfl⟩ (all_cons ⟨_, pD, rfl⟩ (all_cons ⟨_, pN, rfl⟩ (all_cons ⟨_, pK, rfl⟩ (all_cons ⟨_, pK, rfl⟩ (all_cons ⟨_, pP, rfl⟩ (all_cons ⟨_, pT, rfl⟩ (all_cons ⟨_, pQ, rfl⟩ all_nil)))))))
  refine fun c hc => comp_map hc (fun _ => True.intro) axesOf (fun x hx μ' L' hL => ?_) leB ?_
  · obtain ⟨N, hN, rfl⟩ := hall x hx
    try simp only [↓a_seq, ↓a_next, ↓a_brk, ↓a_cont, ↓a_ifS, ↓a_ret, ↓a_retN, ↓a_drop, ↓a_asg, ↓a_name, ↓a_gnil, ↓a_gcons, ↓a_gtup2, ↓a_gtup3, ↓a_var0, ↓a_varS, ↓a_c, ↓a_op, ↓a_un, ↓a_nil, ↓a_cons, ↓a_cb, ↓a_tup, ↓a_lst, ↓a_lstM, ↓a_ife, ↓a_test, ↓a_and, ↓a_or, ↓a_not, ↓a_andV, ↓a_orV, ↓a_notV, ↓a_bl, ↓a_if1, ↓a_if0, ↓a_int, ↓a_int0, ↓a_addI, ↓a_addT, ↓a_addL, ↓a_addS, ↓a_mulI, ↓a_neg, ↓a_eqI, ↓a_isN, ↓a_ixT0, ↓a_ixL0, ↓a_ixT1, ↓a_ixL1, ↓a_ixT2, ↓a_ixL2, ↓a_nopart, ↓a_part, ↓a_intE, ↓a_sl, ↓a_slT, ↓a_slL, ↓a_lenT, ↓a_lenL, ↓a_lenM, ↓a_call, ↓a_for, ↓a_rg1, ↓a_rg1E, ↓a_seqI, ↓a_seqT, ↓a_seqL, ↓a_seqV, ↓a_comp, ↓a_compM, ↓a_emp, ↓a_tupL, ↓a_tupT, ↓a_lstL, ↓a_lstT, ↓a_yes, ↓a_ixV, ↓a_addV, ↓a_slV1, ↓a_slV2, ↓a_lenV, ↓a_ixN0, ↓a_ixN1, ↓a_ixN2, ↓a_ixP0, ↓a_ixP1, ↓a_ixK, ↓a_gP, ↓a_gN, ↓a_gl2, ↓a_gl3, ↓a_subI, ↓a_app, ↓a_refE, ↓a_ixTn0, ↓a_ixTn1, ↓a_ixTn2, ↓a_lstMN, ↓a_att, ↓a_zipB, ↓a_ltT, ↓a_abs, ↓a_lstRg, ↓a_tupRg, ↓a_r1, ↓a_r2, ↓a_r2E, ↓a_int1I, ↓a_int1B, ↓a_rg2, ↓a_i2E, ↓a_l2E, ↓a_l3E, ↓a_chain, ↓a_wipe0, ↓a_wipe1, ↓a_raise, ↓a_err, ↓a_errE, ↓a_par, ↓a_par3, ↓a_rem, ↓a_try, ↓a_callS, ↓a_slV3, ↓a_slV4, ↓a_lstV, ↓a_lstMV, ↓a_zip, ↓a_zipLL, ↓a_zipVV, ↓a_tab2, ↓a_make, ↓a_meth, ↓a_binI, ↓a_binJ, ↓a_binK, ↓a_negI, ↓a_sfld, ↓a_aug, ↓a_ipI, ↓a_ipII, ↓a_ipIJ, a_addT, a_ixT0, a_ixT1, a_ixT2, a_slT, a_lenT, a_seqT, a_seqV, a_lstT, a_ixV, a_addV, a_slV1, a_slV2, a_lenV, a_ixN0, a_ixN1, a_ixN2, a_ixP0, a_ixP1, a_ixK, a_gP, a_gN, a_mm, a_ixTn0, a_ixTn1, a_ixTn2, a_ltT, a_slV3, a_slV4, a_lstV, f_loop, f_nest, f_vec1, f_cut1, f_cut2, f_cut3, f_cut4, f_map1, f_map2, f_cnt, f_stp, p_addVT, p_addTV, ↓startD, ↓List.map_cons, ↓List.map_nil, List.length_cons, List.length_nil, Nat.reduceAdd, Nat.reduceSub, Nat.reduceLeDiff, Int.reducePow, Int.reduceNeg, Int.reduceLE, Int.reduceLT, List.replicate, ↓List.cons_append, ↓List.nil_append, List.set_cons_zero, List.set_cons_succ, true_and, and_true, ↓reduceIte, Bool.not_true, Bool.not_false, decide_true, decide_false, Bool.false_eq_true, if_false]
    exact at_axes T hL
  try simp only [↓a_seq, ↓a_next, ↓a_brk, ↓a_cont, ↓a_ifS, ↓a_ret, ↓a_retN, ↓a_drop, ↓a_asg, ↓a_name, ↓a_gnil, ↓a_gcons, ↓a_gtup2, ↓a_gtup3, ↓a_var0, ↓a_varS, ↓a_c, ↓a_op, ↓a_un, ↓a_nil, ↓a_cons, ↓a_cb, ↓a_tup, ↓a_lst, ↓a_lstM, ↓a_ife, ↓a_test, ↓a_and, ↓a_or, ↓a_not, ↓a_andV, ↓a_orV, ↓a_notV, ↓a_bl, ↓a_if1, ↓a_if0, ↓a_int, ↓a_int0, ↓a_addI, ↓a_addT, ↓a_addL, ↓a_addS, ↓a_mulI, ↓a_neg, ↓a_eqI, ↓a_isN, ↓a_ixT0, ↓a_ixL0, ↓a_ixT1, ↓a_ixL1, ↓a_ixT2, ↓a_ixL2, ↓a_nopart, ↓a_part, ↓a_intE, ↓a_sl, ↓a_slT, ↓a_slL, ↓a_lenT, ↓a_lenL, ↓a_lenM, ↓a_call, ↓a_for, ↓a_rg1, ↓a_rg1E, ↓a_seqI, ↓a_seqT, ↓a_seqL, ↓a_seqV, ↓a_comp, ↓a_compM, ↓a_emp, ↓a_tupL, ↓a_tupT, ↓a_lstL, ↓a_lstT, ↓a_yes, ↓a_ixV, ↓a_addV, ↓a_slV1, ↓a_slV2, ↓a_lenV, ↓a_ixN0, ↓a_ixN1, ↓a_ixN2, ↓a_ixP0, ↓a_ixP1, ↓a_ixK, ↓a_gP, ↓a_gN, ↓a_gl2, ↓a_gl3, ↓a_subI, ↓a_app, ↓a_refE, ↓a_ixTn0, ↓a_ixTn1, ↓a_ixTn2, ↓a_lstMN, ↓a_att, ↓a_zipB, ↓a_ltT, ↓a_abs, ↓a_lstRg, ↓a_tupRg, ↓a_r1, ↓a_r2, ↓a_r2E, ↓a_int1I, ↓a_int1B, ↓a_rg2, ↓a_i2E, ↓a_l2E, ↓a_l3E, ↓a_chain, ↓a_wipe0, ↓a_wipe1, ↓a_raise, ↓a_err, ↓a_errE, ↓a_par, ↓a_par3, ↓a_rem, ↓a_try, ↓a_callS, ↓a_slV3, ↓a_slV4, ↓a_lstV, ↓a_lstMV, ↓a_zip, ↓a_zipLL, ↓a_zipVV, ↓a_tab2, ↓a_make, ↓a_meth, ↓a_binI, ↓a_binJ, ↓a_binK, ↓a_negI, ↓a_sfld, ↓a_aug, ↓a_ipI, ↓a_ipII, ↓a_ipIJ, a_addT, a_ixT0, a_ixT1, a_ixT2, a_slT, a_lenT, a_seqT, a_seqV, a_lstT, a_ixV, a_addV, a_slV1, a_slV2, a_lenV, a_ixN0, a_ixN1, a_ixN2, a_ixP0, a_ixP1, a_ixK, a_gP, a_gN, a_mm, a_ixTn0, a_ixTn1, a_ixTn2, a_ltT, a_slV3, a_slV4, a_lstV, f_loop, f_nest, f_vec1, f_cut1, f_cut2, f_cut3, f_cut4, f_map1, f_map2, f_cnt, f_stp, p_addVT, p_addTV, ↓startD, ↓List.map_cons, ↓List.map_nil, List.length_cons, List.length_nil, Nat.reduceAdd, Nat.reduceSub, Nat.reduceLeDiff, Int.reducePow, Int.reduceNeg, Int.reduceLE, Int.reduceLT, List.replicate, ↓List.cons_append, ↓List.nil_append, List.set_cons_zero, List.set_cons_succ, true_and, and_true, ↓reduceIte, Bool.not_true, Bool.not_false, decide_true, decide_false, Bool.false_eq_true, if_false]
  refine ⟨[.int n], 8, rfl, rfl, by decide, by decide, leB, ?_⟩
  refine .inr ⟨_, eq_ints (List.replicate 8 (n : Int)), ?_⟩
  try simp only [↓a_seq, ↓a_next, ↓a_brk, ↓a_cont, ↓a_ifS, ↓a_ret, ↓a_retN, ↓a_drop, ↓a_asg, ↓a_name, ↓a_gnil, ↓a_gcons, ↓a_gtup2, ↓a_gtup3, ↓a_var0, ↓a_varS, ↓a_c, ↓a_op, ↓a_un, ↓a_nil, ↓a_cons, ↓a_cb, ↓a_tup, ↓a_lst, ↓a_lstM, ↓a_ife, ↓a_test, ↓a_and, ↓a_or, ↓a_not, ↓a_andV, ↓a_orV, ↓a_notV, ↓a_bl, ↓a_if1, ↓a_if0, ↓a_int, ↓a_int0, ↓a_addI, ↓a_addT, ↓a_addL, ↓a_addS, ↓a_mulI, ↓a_neg, ↓a_eqI, ↓a_isN, ↓a_ixT0, ↓a_ixL0, ↓a_ixT1, ↓a_ixL1, ↓a_ixT2, ↓a_ixL2, ↓a_nopart, ↓a_part, ↓a_intE, ↓a_sl, ↓a_slT, ↓a_slL, ↓a_lenT, ↓a_lenL, ↓a_lenM, ↓a_call, ↓a_for, ↓a_rg1, ↓a_rg1E, ↓a_seqI, ↓a_seqT, ↓a_seqL, ↓a_seqV, ↓a_comp, ↓a_compM, ↓a_emp, ↓a_tupL, ↓a_tupT, ↓a_lstL, ↓a_lstT, ↓a_yes, ↓a_ixV, ↓a_addV, ↓a_slV1, ↓a_slV2, ↓a_lenV, ↓a_ixN0, ↓a_ixN1, ↓a_ixN2, ↓a_ixP0, ↓a_ixP1, ↓a_ixK, ↓a_gP, ↓a_gN, ↓a_gl2, ↓a_gl3, ↓a_subI, ↓a_app, ↓a_refE, ↓a_ixTn0, ↓a_ixTn1, ↓a_ixTn2, ↓a_lstMN, ↓a_att, ↓a_zipB, ↓a_ltT, ↓a_abs, ↓a_lstRg, ↓a_tupRg, ↓a_r1, ↓a_r2, ↓a_r2E, ↓a_int1I, ↓a_int1B, ↓a_rg2, ↓a_i2E, ↓a_l2E, ↓a_l3E, ↓a_chain, ↓a_wipe0, ↓a_wipe1, ↓a_raise, ↓a_err, ↓a_errE, ↓a_par, ↓a_par3, ↓a_rem, ↓a_try, ↓a_callS, ↓a_slV3, ↓a_slV4, ↓a_lstV, ↓a_lstMV, ↓a_zip, ↓a_zipLL, ↓a_zipVV, ↓a_tab2, ↓a_make, ↓a_meth, ↓a_binI, ↓a_binJ, ↓a_binK, ↓a_negI, ↓a_sfld, ↓a_aug, ↓a_ipI, ↓a_ipII, ↓a_ipIJ, a_addT, a_ixT0, a_ixT1, a_ixT2, a_slT, a_lenT, a_seqT, a_seqV, a_lstT, a_ixV, a_addV, a_slV1, a_slV2, a_lenV, a_ixN0, a_ixN1, a_ixN2, a_ixP0, a_ixP1, a_ixK, a_gP, a_gN, a_mm, a_ixTn0, a_ixTn1, a_ixTn2, a_ltT, a_slV3, a_slV4, a_lstV, f_loop, f_nest, f_vec1, f_cut1, f_cut2, f_cut3, f_cut4, f_map1, f_map2, f_cnt, f_stp, p_addVT, p_addTV, ↓startD, ↓List.map_cons, ↓List.map_nil, List.length_cons, List.length_nil, Nat.reduceAdd, Nat.reduceSub, Nat.reduceLeDiff, Int.reducePow, Int.reduceNeg, Int.reduceLE, Int.reduceLT, List.replicate, ↓List.cons_append, ↓List.nil_append, List.set_cons_zero, List.set_cons_succ, true_and, and_true, ↓reduceIte, Bool.not_true, Bool.not_false, decide_true, decide_false, Bool.false_eq_true, if_false]
  refine fun c hc => comp_map hc (fun _ => True.intro) nestsOf (fun x hx μ' L' hL => ?_) leB ?_
  · obtain ⟨N, hN, rfl⟩ := hall x hx
    try simp only [↓a_seq, ↓a_next, ↓a_brk, ↓a_cont, ↓a_ifS, ↓a_ret, ↓a_retN, ↓a_drop, ↓a_asg, ↓a_name, ↓a_gnil, ↓a_gcons, ↓a_gtup2, ↓a_gtup3, ↓a_var0, ↓a_varS, ↓a_c, ↓a_op, ↓a_un, ↓a_nil, ↓a_cons, ↓a_cb, ↓a_tup, ↓a_lst, ↓a_lstM, ↓a_ife, ↓a_test, ↓a_and, ↓a_or, ↓a_not, ↓a_andV, ↓a_orV, ↓a_notV, ↓a_bl, ↓a_if1, ↓a_if0, ↓a_int, ↓a_int0, ↓a_addI, ↓a_addT, ↓a_addL, ↓a_addS, ↓a_mulI, ↓a_neg, ↓a_eqI, ↓a_isN, ↓a_ixT0, ↓a_ixL0, ↓a_ixT1, ↓a_ixL1, ↓a_ixT2, ↓a_ixL2, ↓a_nopart, ↓a_part, ↓a_intE, ↓a_sl, ↓a_slT, ↓a_slL, ↓a_lenT, ↓a_lenL, ↓a_lenM, ↓a_call, ↓a_for, ↓a_rg1, ↓a_rg1E, ↓a_seqI, ↓a_seqT, ↓a_seqL, ↓a_seqV, ↓a_comp, ↓a_compM, ↓a_emp, ↓a_tupL, ↓a_tupT, ↓a_lstL, ↓a_lstT, ↓a_yes, ↓a_ixV, ↓a_addV, ↓a_slV1, ↓a_slV2, ↓a_lenV, ↓a_ixN0, ↓a_ixN1, ↓a_ixN2, ↓a_ixP0, ↓a_ixP1, ↓a_ixK, ↓a_gP, ↓a_gN, ↓a_gl2, ↓a_gl3, ↓a_subI, ↓a_app, ↓a_refE, ↓a_ixTn0, ↓a_ixTn1, ↓a_ixTn2, ↓a_lstMN, ↓a_att, ↓a_zipB, ↓a_ltT, ↓a_abs, ↓a_lstRg, ↓a_tupRg, ↓a_r1, ↓a_r2, ↓a_r2E, ↓a_int1I, ↓a_int1B, ↓a_rg2, ↓a_i2E, ↓a_l2E, ↓a_l3E, ↓a_chain, ↓a_wipe0, ↓a_wipe1, ↓a_raise, ↓a_err, ↓a_errE, ↓a_par, ↓a_par3, ↓a_rem, ↓a_try, ↓a_callS, ↓a_slV3, ↓a_slV4, ↓a_lstV, ↓a_lstMV, ↓a_zip, ↓a_zipLL, ↓a_zipVV, ↓a_tab2, ↓a_make, ↓a_meth, ↓a_binI, ↓a_binJ, ↓a_binK, ↓a_negI, ↓a_sfld, ↓a_aug, ↓a_ipI, ↓a_ipII, ↓a_ipIJ, a_addT, a_ixT0, a_ixT1, a_ixT2, a_slT, a_lenT, a_seqT, a_seqV, a_lstT, a_ixV, a_addV, a_slV1, a_slV2, a_lenV, a_ixN0, a_ixN1, a_ixN2, a_ixP0, a_ixP1, a_ixK, a_gP, a_gN, a_mm, a_ixTn0, a_ixTn1, a_ixTn2, a_ltT, a_slV3, a_slV4, a_lstV, f_loop, f_nest, f_vec1, f_cut1, f_cut2, f_cut3, f_cut4, f_map1, f_map2, f_cnt, f_stp, p_addVT, p_addTV, ↓startD, ↓List.map_cons, ↓List.map_nil, List.length_cons, List.length_nil, Nat.reduceAdd, Nat.reduceSub, Nat.reduceLeDiff, Int.reducePow, Int.reduceNeg, Int.reduceLE, Int.reduceLT, List.replicate, ↓List.cons_append, ↓List.nil_append, List.set_cons_zero, List.set_cons_succ, true_and, and_true, ↓reduceIte, Bool.not_true, Bool.not_false, decide_true, decide_false, Bool.false_eq_true, if_false]
    exact ⟨_, rfl, rfl, n, N, rfl, hN, hL⟩
  try simp only [↓a_seq, ↓a_next, ↓a_brk, ↓a_cont, ↓a_ifS, ↓a_ret, ↓a_retN, ↓a_drop, ↓a_asg, ↓a_name, ↓a_gnil, ↓a_gcons, ↓a_gtup2, ↓a_gtup3, ↓a_var0, ↓a_varS, ↓a_c, ↓a_op, ↓a_un, ↓a_nil, ↓a_cons, ↓a_cb, ↓a_tup, ↓a_lst, ↓a_lstM, ↓a_ife, ↓a_test, ↓a_and, ↓a_or, ↓a_not, ↓a_andV, ↓a_orV, ↓a_notV, ↓a_bl, ↓a_if1, ↓a_if0, ↓a_int, ↓a_int0, ↓a_addI, ↓a_addT, ↓a_addL, ↓a_addS, ↓a_mulI, ↓a_neg, ↓a_eqI, ↓a_isN, ↓a_ixT0, ↓a_ixL0, ↓a_ixT1, ↓a_ixL1, ↓a_ixT2, ↓a_ixL2, ↓a_nopart, ↓a_part, ↓a_intE, ↓a_sl, ↓a_slT, ↓a_slL, ↓a_lenT, ↓a_lenL, ↓a_lenM, ↓a_call, ↓a_for, ↓a_rg1, ↓a_rg1E, ↓a_seqI, ↓a_seqT, ↓a_seqL, ↓a_seqV, ↓a_comp, ↓a_compM, ↓a_emp, ↓a_tupL, ↓a_tupT, ↓a_lstL, ↓a_lstT, ↓a_yes, ↓a_ixV, ↓a_addV, ↓a_slV1, ↓a_slV2, ↓a_lenV, ↓a_ixN0, ↓a_ixN1, ↓a_ixN2, ↓a_ixP0, ↓a_ixP1, ↓a_ixK, ↓a_gP, ↓a_gN, ↓a_gl2, ↓a_gl3, ↓a_subI, ↓a_app, ↓a_refE, ↓a_ixTn0, ↓a_ixTn1, ↓a_ixTn2, ↓a_lstMN, ↓a_att, ↓a_zipB, ↓a_ltT, ↓a_abs, ↓a_lstRg, ↓a_tupRg, ↓a_r1, ↓a_r2, ↓a_r2E, ↓a_int1I, ↓a_int1B, ↓a_rg2, ↓a_i2E, ↓a_l2E, ↓a_l3E, ↓a_chain, ↓a_wipe0, ↓a_wipe1, ↓a_raise, ↓a_err, ↓a_errE, ↓a_par, ↓a_par3, ↓a_rem, ↓a_try, ↓a_callS, ↓a_slV3, ↓a_slV4, ↓a_lstV, ↓a_lstMV, ↓a_zip, ↓a_zipLL, ↓a_zipVV, ↓a_tab2, ↓a_make, ↓a_meth, ↓a_binI, ↓a_binJ, ↓a_binK, ↓a_negI, ↓a_sfld, ↓a_aug, ↓a_ipI, ↓a_ipII, ↓a_ipIJ, a_addT, a_ixT0, a_ixT1, a_ixT2, a_slT, a_lenT, a_seqT, a_seqV, a_lstT, a_ixV, a_addV, a_slV1, a_slV2, a_lenV, a_ixN0, a_ixN1, a_ixN2, a_ixP0, a_ixP1, a_ixK, a_gP, a_gN, a_mm, a_ixTn0, a_ixTn1, a_ixTn2, a_ltT, a_slV3, a_slV4, a_lstV, f_loop, f_nest, f_vec1, f_cut1, f_cut2, f_cut3, f_cut4, f_map1, f_map2, f_cnt, f_stp, p_addVT, p_addTV, ↓startD, ↓List.map_cons, ↓List.map_nil, List.length_cons, List.length_nil, Nat.reduceAdd, Nat.reduceSub, Nat.reduceLeDiff, Int.reducePow, Int.reduceNeg, Int.reduceLE, Int.reduceLT, List.replicate, ↓List.cons_append, ↓List.nil_append, List.set_cons_zero, List.set_cons_succ, true_and, and_true, ↓reduceIte, Bool.not_true, Bool.not_false, decide_true, decide_false, Bool.false_eq_true, if_false]
  simp only [← List.map_append]
  refine .inr ⟨_, eq_nss [ns ++ ms, ns ++ ms.map (timesN (-1)), ns.map (timesN (-1)), ns.map (timesN k), ns.map (timesN k), prodL ns ms, ns ++ ns, prodL ns ns], ?_⟩
  try simp only [↓a_seq, ↓a_next, ↓a_brk, ↓a_cont, ↓a_ifS, ↓a_ret, ↓a_retN, ↓a_drop, ↓a_asg, ↓a_name, ↓a_gnil, ↓a_gcons, ↓a_gtup2, ↓a_gtup3, ↓a_var0, ↓a_varS, ↓a_c, ↓a_op, ↓a_un, ↓a_nil, ↓a_cons, ↓a_cb, ↓a_tup, ↓a_lst, ↓a_lstM, ↓a_ife, ↓a_test, ↓a_and, ↓a_or, ↓a_not, ↓a_andV, ↓a_orV, ↓a_notV, ↓a_bl, ↓a_if1, ↓a_if0, ↓a_int, ↓a_int0, ↓a_addI, ↓a_addT, ↓a_addL, ↓a_addS, ↓a_mulI, ↓a_neg, ↓a_eqI, ↓a_isN, ↓a_ixT0, ↓a_ixL0, ↓a_ixT1, ↓a_ixL1, ↓a_ixT2, ↓a_ixL2, ↓a_nopart, ↓a_part, ↓a_intE, ↓a_sl, ↓a_slT, ↓a_slL, ↓a_lenT, ↓a_lenL, ↓a_lenM, ↓a_call, ↓a_for, ↓a_rg1, ↓a_rg1E, ↓a_seqI, ↓a_seqT, ↓a_seqL, ↓a_seqV, ↓a_comp, ↓a_compM, ↓a_emp, ↓a_tupL, ↓a_tupT, ↓a_lstL, ↓a_lstT, ↓a_yes, ↓a_ixV, ↓a_addV, ↓a_slV1, ↓a_slV2, ↓a_lenV, ↓a_ixN0, ↓a_ixN1, ↓a_ixN2, ↓a_ixP0, ↓a_ixP1, ↓a_ixK, ↓a_gP, ↓a_gN, ↓a_gl2, ↓a_gl3, ↓a_subI, ↓a_app, ↓a_refE, ↓a_ixTn0, ↓a_ixTn1, ↓a_ixTn2, ↓a_lstMN, ↓a_att, ↓a_zipB, ↓a_ltT, ↓a_abs, ↓a_lstRg, ↓a_tupRg, ↓a_r1, ↓a_r2, ↓a_r2E, ↓a_int1I, ↓a_int1B, ↓a_rg2, ↓a_i2E, ↓a_l2E, ↓a_l3E, ↓a_chain, ↓a_wipe0, ↓a_wipe1, ↓a_raise, ↓a_err, ↓a_errE, ↓a_par, ↓a_par3, ↓a_rem, ↓a_try, ↓a_callS, ↓a_slV3, ↓a_slV4, ↓a_lstV, ↓a_lstMV, ↓a_zip, ↓a_zipLL, ↓a_zipVV, ↓a_tab2, ↓a_make, ↓a_meth, ↓a_binI, ↓a_binJ, ↓a_binK, ↓a_negI, ↓a_sfld, ↓a_aug, ↓a_ipI, ↓a_ipII, ↓a_ipIJ, a_addT, a_ixT0, a_ixT1, a_ixT2, a_slT, a_lenT, a_seqT, a_seqV, a_lstT, a_ixV, a_addV, a_slV1, a_slV2, a_lenV, a_ixN0, a_ixN1, a_ixN2, a_ixP0, a_ixP1, a_ixK, a_gP, a_gN, a_mm, a_ixTn0, a_ixTn1, a_ixTn2, a_ltT, a_slV3, a_slV4, a_lstV, f_loop, f_nest, f_vec1, f_cut1, f_cut2, f_cut3, f_cut4, f_map1, f_map2, f_cnt, f_stp, p_addVT, p_addTV, ↓startD, ↓List.map_cons, ↓List.map_nil, List.length_cons, List.length_nil, Nat.reduceAdd, Nat.reduceSub, Nat.reduceLeDiff, Int.reducePow, Int.reduceNeg, Int.reduceLE, Int.reduceLT, List.replicate, ↓List.cons_append, ↓List.nil_append, List.set_cons_zero, List.set_cons_succ, true_and, and_true, ↓reduceIte, Bool.not_true, Bool.not_false, decide_true, decide_false, Bool.false_eq_true, if_false]
  refine ⟨n, ns, n, ms, rfl, pn, pm, fun _ => ⟨pS, ?_⟩, fun e => absurd rfl e⟩
  refine ⟨_, rfl, rfl, n, ns, rfl, pn, .inr ⟨_, eq_nests ns, ?_⟩⟩
  try simp only [↓a_seq, ↓a_next, ↓a_brk, ↓a_cont, ↓a_ifS, ↓a_ret, ↓a_retN, ↓a_drop, ↓a_asg, ↓a_name, ↓a_gnil, ↓a_gcons, ↓a_gtup2, ↓a_gtup3, ↓a_var0, ↓a_varS, ↓a_c, ↓a_op, ↓a_un, ↓a_nil, ↓a_cons, ↓a_cb, ↓a_tup, ↓a_lst, ↓a_lstM, ↓a_ife, ↓a_test, ↓a_and, ↓a_or, ↓a_not, ↓a_andV, ↓a_orV, ↓a_notV, ↓a_bl, ↓a_if1, ↓a_if0, ↓a_int, ↓a_int0, ↓a_addI, ↓a_addT, ↓a_addL, ↓a_addS, ↓a_mulI, ↓a_neg, ↓a_eqI, ↓a_isN, ↓a_ixT0, ↓a_ixL0, ↓a_ixT1, ↓a_ixL1, ↓a_ixT2, ↓a_ixL2, ↓a_nopart, ↓a_part, ↓a_intE, ↓a_sl, ↓a_slT, ↓a_slL, ↓a_lenT, ↓a_lenL, ↓a_lenM, ↓a_call, ↓a_for, ↓a_rg1, ↓a_rg1E, ↓a_seqI, ↓a_seqT, ↓a_seqL, ↓a_seqV, ↓a_comp, ↓a_compM, ↓a_emp, ↓a_tupL, ↓a_tupT, ↓a_lstL, ↓a_lstT, ↓a_yes, ↓a_ixV, ↓a_addV, ↓a_slV1, ↓a_slV2, ↓a_lenV, ↓a_ixN0, ↓a_ixN1, ↓a_ixN2, ↓a_ixP0, ↓a_ixP1, ↓a_ixK, ↓a_gP, ↓a_gN, ↓a_gl2, ↓a_gl3, ↓a_subI, ↓a_app, ↓a_refE, ↓a_ixTn0, ↓a_ixTn1, ↓a_ixTn2, ↓a_lstMN, ↓a_att, ↓a_zipB, ↓a_ltT, ↓a_abs, ↓a_lstRg, ↓a_tupRg, ↓a_r1, ↓a_r2, ↓a_r2E, ↓a_int1I, ↓a_int1B, ↓a_rg2, ↓a_i2E, ↓a_l2E, ↓a_l3E, ↓a_chain, ↓a_wipe0, ↓a_wipe1, ↓a_raise, ↓a_err, ↓a_errE, ↓a_par, ↓a_par3, ↓a_rem, ↓a_try, ↓a_callS, ↓a_slV3, ↓a_slV4, ↓a_lstV, ↓a_lstMV, ↓a_zip, ↓a_zipLL, ↓a_zipVV, ↓a_tab2, ↓a_make, ↓a_meth, ↓a_binI, ↓a_binJ, ↓a_binK, ↓a_negI, ↓a_sfld, ↓a_aug, ↓a_ipI, ↓a_ipII, ↓a_ipIJ, a_addT, a_ixT0, a_ixT1, a_ixT2, a_slT, a_lenT, a_seqT, a_seqV, a_lstT, a_ixV, a_addV, a_slV1, a_slV2, a_lenV, a_ixN0, a_ixN1, a_ixN2, a_ixP0, a_ixP1, a_ixK, a_gP, a_gN, a_mm, a_ixTn0, a_ixTn1, a_ixTn2, a_ltT, a_slV3, a_slV4, a_lstV, f_loop, f_nest, f_vec1, f_cut1, f_cut2, f_cut3, f_cut4, f_map1, f_map2, f_cnt, f_stp, p_addVT, p_addTV, ↓startD, ↓List.map_cons, ↓List.map_nil, List.length_cons, List.length_nil, Nat.reduceAdd, Nat.reduceSub, Nat.reduceLeDiff, Int.reducePow, Int.reduceNeg, Int.reduceLE, Int.reduceLT, List.replicate, ↓List.cons_append, ↓List.nil_append, List.set_cons_zero, List.set_cons_succ, true_and, and_true, ↓reduceIte, Bool.not_true, Bool.not_false, decide_true, decide_false, Bool.false_eq_true, if_false]
  have pSM : POk n ((ns ++ ms) ++ ms.map (timesN (-1))) := (hs.app hmm).ok (by decide) (by decide) (by decide) (by decide)
  have lSM : ((ns ++ ms).map NestD.d).length ≤ 10 := by rw [List.length_map, List.length_append]; have := hn.len; have := hm.len; omega
  refine ⟨_, rfl, rfl, n, ns ++ ms, rfl, pS, by omega, .inr ⟨_, eq_nests _, ?_⟩⟩
  try simp only [↓a_seq, ↓a_next, ↓a_brk, ↓a_cont, ↓a_ifS, ↓a_ret, ↓a_retN, ↓a_drop, ↓a_asg, ↓a_name, ↓a_gnil, ↓a_gcons, ↓a_gtup2, ↓a_gtup3, ↓a_var0, ↓a_varS, ↓a_c, ↓a_op, ↓a_un, ↓a_nil, ↓a_cons, ↓a_cb, ↓a_tup, ↓a_lst, ↓a_lstM, ↓a_ife, ↓a_test, ↓a_and, ↓a_or, ↓a_not, ↓a_andV, ↓a_orV, ↓a_notV, ↓a_bl, ↓a_if1, ↓a_if0, ↓a_int, ↓a_int0, ↓a_addI, ↓a_addT, ↓a_addL, ↓a_addS, ↓a_mulI, ↓a_neg, ↓a_eqI, ↓a_isN, ↓a_ixT0, ↓a_ixL0, ↓a_ixT1, ↓a_ixL1, ↓a_ixT2, ↓a_ixL2, ↓a_nopart, ↓a_part, ↓a_intE, ↓a_sl, ↓a_slT, ↓a_slL, ↓a_lenT, ↓a_lenL, ↓a_lenM, ↓a_call, ↓a_for, ↓a_rg1, ↓a_rg1E, ↓a_seqI, ↓a_seqT, ↓a_seqL, ↓a_seqV, ↓a_comp, ↓a_compM, ↓a_emp, ↓a_tupL, ↓a_tupT, ↓a_lstL, ↓a_lstT, ↓a_yes, ↓a_ixV, ↓a_addV, ↓a_slV1, ↓a_slV2, ↓a_lenV, ↓a_ixN0, ↓a_ixN1, ↓a_ixN2, ↓a_ixP0, ↓a_ixP1, ↓a_ixK, ↓a_gP, ↓a_gN, ↓a_gl2, ↓a_gl3, ↓a_subI, ↓a_app, ↓a_refE, ↓a_ixTn0, ↓a_ixTn1, ↓a_ixTn2, ↓a_lstMN, ↓a_att, ↓a_zipB, ↓a_ltT, ↓a_abs, ↓a_lstRg, ↓a_tupRg, ↓a_r1, ↓a_r2, ↓a_r2E, ↓a_int1I, ↓a_int1B, ↓a_rg2, ↓a_i2E, ↓a_l2E, ↓a_l3E, ↓a_chain, ↓a_wipe0, ↓a_wipe1, ↓a_raise, ↓a_err, ↓a_errE, ↓a_par, ↓a_par3, ↓a_rem, ↓a_try, ↓a_callS, ↓a_slV3, ↓a_slV4, ↓a_lstV, ↓a_lstMV, ↓a_zip, ↓a_zipLL, ↓a_zipVV, ↓a_tab2, ↓a_make, ↓a_meth, ↓a_binI, ↓a_binJ, ↓a_binK, ↓a_negI, ↓a_sfld, ↓a_aug, ↓a_ipI, ↓a_ipII, ↓a_ipIJ, a_addT, a_ixT0, a_ixT1, a_ixT2, a_slT, a_lenT, a_seqT, a_seqV, a_lstT, a_ixV, a_addV, a_slV1, a_slV2, a_lenV, a_ixN0, a_ixN1, a_ixN2, a_ixP0, a_ixP1, a_ixK, a_gP, a_gN, a_mm, a_ixTn0, a_ixTn1, a_ixTn2, a_ltT, a_slV3, a_slV4, a_lstV, f_loop, f_nest, f_vec1, f_cut1, f_cut2, f_cut3, f_cut4, f_map1, f_map2, f_cnt, f_stp, p_addVT, p_addTV, ↓startD, ↓List.map_cons, ↓List.map_nil, List.length_cons, List.length_nil, Nat.reduceAdd, Nat.reduceSub, Nat.reduceLeDiff, Int.reducePow, Int.reduceNeg, Int.reduceLE, Int.reduceLT, List.replicate, ↓List.cons_append, ↓List.nil_append, List.set_cons_zero, List.set_cons_succ, true_and, and_true, ↓reduceIte, Bool.not_true, Bool.not_false, decide_true, decide_false, Bool.false_eq_true, if_false]
  refine ⟨_, _, rfl, rfl, n, ns ++ ms, n, ms, rfl, pS, pm, pMm, fun _ => ⟨pSM, ?_⟩, fun e => absurd rfl e⟩
  refine ⟨_, rfl, rfl, n, _, rfl, pSM, by omega, n, ms, -1, rfl, pm, s1, ?_⟩
  try simp only [↓a_seq, ↓a_next, ↓a_brk, ↓a_cont, ↓a_ifS, ↓a_ret, ↓a_retN, ↓a_drop, ↓a_asg, ↓a_name, ↓a_gnil, ↓a_gcons, ↓a_gtup2, ↓a_gtup3, ↓a_var0, ↓a_varS, ↓a_c, ↓a_op, ↓a_un, ↓a_nil, ↓a_cons, ↓a_cb, ↓a_tup, ↓a_lst, ↓a_lstM, ↓a_ife, ↓a_test, ↓a_and, ↓a_or, ↓a_not, ↓a_andV, ↓a_orV, ↓a_notV, ↓a_bl, ↓a_if1, ↓a_if0, ↓a_int, ↓a_int0, ↓a_addI, ↓a_addT, ↓a_addL, ↓a_addS, ↓a_mulI, ↓a_neg, ↓a_eqI, ↓a_isN, ↓a_ixT0, ↓a_ixL0, ↓a_ixT1, ↓a_ixL1, ↓a_ixT2, ↓a_ixL2, ↓a_nopart, ↓a_part, ↓a_intE, ↓a_sl, ↓a_slT, ↓a_slL, ↓a_lenT, ↓a_lenL, ↓a_lenM, ↓a_call, ↓a_for, ↓a_rg1, ↓a_rg1E, ↓a_seqI, ↓a_seqT, ↓a_seqL, ↓a_seqV, ↓a_comp, ↓a_compM, ↓a_emp, ↓a_tupL, ↓a_tupT, ↓a_lstL, ↓a_lstT, ↓a_yes, ↓a_ixV, ↓a_addV, ↓a_slV1, ↓a_slV2, ↓a_lenV, ↓a_ixN0, ↓a_ixN1, ↓a_ixN2, ↓a_ixP0, ↓a_ixP1, ↓a_ixK, ↓a_gP, ↓a_gN, ↓a_gl2, ↓a_gl3, ↓a_subI, ↓a_app, ↓a_refE, ↓a_ixTn0, ↓a_ixTn1, ↓a_ixTn2, ↓a_lstMN, ↓a_att, ↓a_zipB, ↓a_ltT, ↓a_abs, ↓a_lstRg, ↓a_tupRg, ↓a_r1, ↓a_r2, ↓a_r2E, ↓a_int1I, ↓a_int1B, ↓a_rg2, ↓a_i2E, ↓a_l2E, ↓a_l3E, ↓a_chain, ↓a_wipe0, ↓a_wipe1, ↓a_raise, ↓a_err, ↓a_errE, ↓a_par, ↓a_par3, ↓a_rem, ↓a_try, ↓a_callS, ↓a_slV3, ↓a_slV4, ↓a_lstV, ↓a_lstMV, ↓a_zip, ↓a_zipLL, ↓a_zipVV, ↓a_tab2, ↓a_make, ↓a_meth, ↓a_binI, ↓a_binJ, ↓a_binK, ↓a_negI, ↓a_sfld, ↓a_aug, ↓a_ipI, ↓a_ipII, ↓a_ipIJ, a_addT, a_ixT0, a_ixT1, a_ixT2, a_slT, a_lenT, a_seqT, a_seqV, a_lstT, a_ixV, a_addV, a_slV1, a_slV2, a_lenV, a_ixN0, a_ixN1, a_ixN2, a_ixP0, a_ixP1, a_ixK, a_gP, a_gN, a_mm, a_ixTn0, a_ixTn1, a_ixTn2, a_ltT, a_slV3, a_slV4, a_lstV, f_loop, f_nest, f_vec1, f_cut1, f_cut2, f_cut3, f_cut4, f_map1, f_map2, f_cnt, f_stp, p_addVT, p_addTV, ↓startD, ↓List.map_cons, ↓List.map_nil, List.length_cons, List.length_nil, Nat.reduceAdd, Nat.reduceSub, Nat.reduceLeDiff, Int.reducePow, Int.reduceNeg, Int.reduceLE, Int.reduceLT, List.replicate, ↓List.cons_append, ↓List.nil_append, List.set_cons_zero, List.set_cons_succ, true_and, and_true, ↓reduceIte, Bool.not_true, Bool.not_false, decide_true, decide_false, Bool.false_eq_true, if_false]
  refine ⟨by omega, ?_⟩
  simp only [← List.map_append]
  refine .inr ⟨_, eq_nests _, ?_⟩
  try simp only [↓a_seq, ↓a_next, ↓a_brk, ↓a_cont, ↓a_ifS, ↓a_ret, ↓a_retN, ↓a_drop, ↓a_asg, ↓a_name, ↓a_gnil, ↓a_gcons, ↓a_gtup2, ↓a_gtup3, ↓a_var0, ↓a_varS, ↓a_c, ↓a_op, ↓a_un, ↓a_nil, ↓a_cons, ↓a_cb, ↓a_tup, ↓a_lst, ↓a_lstM, ↓a_ife, ↓a_test, ↓a_and, ↓a_or, ↓a_not, ↓a_andV, ↓a_orV, ↓a_notV, ↓a_bl, ↓a_if1, ↓a_if0, ↓a_int, ↓a_int0, ↓a_addI, ↓a_addT, ↓a_addL, ↓a_addS, ↓a_mulI, ↓a_neg, ↓a_eqI, ↓a_isN, ↓a_ixT0, ↓a_ixL0, ↓a_ixT1, ↓a_ixL1, ↓a_ixT2, ↓a_ixL2, ↓a_nopart, ↓a_part, ↓a_intE, ↓a_sl, ↓a_slT, ↓a_slL, ↓a_lenT, ↓a_lenL, ↓a_lenM, ↓a_call, ↓a_for, ↓a_rg1, ↓a_rg1E, ↓a_seqI, ↓a_seqT, ↓a_seqL, ↓a_seqV, ↓a_comp, ↓a_compM, ↓a_emp, ↓a_tupL, ↓a_tupT, ↓a_lstL, ↓a_lstT, ↓a_yes, ↓a_ixV, ↓a_addV, ↓a_slV1, ↓a_slV2, ↓a_lenV, ↓a_ixN0, ↓a_ixN1, ↓a_ixN2, ↓a_ixP0, ↓a_ixP1, ↓a_ixK, ↓a_gP, ↓a_gN, ↓a_gl2, ↓a_gl3, ↓a_subI, ↓a_app, ↓a_refE, ↓a_ixTn0, ↓a_ixTn1, ↓a_ixTn2, ↓a_lstMN, ↓a_att, ↓a_zipB, ↓a_ltT, ↓a_abs, ↓a_lstRg, ↓a_tupRg, ↓a_r1, ↓a_r2, ↓a_r2E, ↓a_int1I, ↓a_int1B, ↓a_rg2, ↓a_i2E, ↓a_l2E, ↓a_l3E, ↓a_chain, ↓a_wipe0, ↓a_wipe1, ↓a_raise, ↓a_err, ↓a_errE, ↓a_par, ↓a_par3, ↓a_rem, ↓a_try, ↓a_callS, ↓a_slV3, ↓a_slV4, ↓a_lstV, ↓a_lstMV, ↓a_zip, ↓a_zipLL, ↓a_zipVV, ↓a_tab2, ↓a_make, ↓a_meth, ↓a_binI, ↓a_binJ, ↓a_binK, ↓a_negI, ↓a_sfld, ↓a_aug, ↓a_ipI, ↓a_ipII, ↓a_ipIJ, a_addT, a_ixT0, a_ixT1, a_ixT2, a_slT, a_lenT, a_seqT, a_seqV, a_lstT, a_ixV, a_addV, a_slV1, a_slV2, a_lenV, a_ixN0, a_ixN1, a_ixN2, a_ixP0, a_ixP1, a_ixK, a_gP, a_gN, a_mm, a_ixTn0, a_ixTn1, a_ixTn2, a_ltT, a_slV3, a_slV4, a_lstV, f_loop, f_nest, f_vec1, f_cut1, f_cut2, f_cut3, f_cut4, f_map1, f_map2, f_cnt, f_stp, p_addVT, p_addTV, ↓startD, ↓List.map_cons, ↓List.map_nil, List.length_cons, List.length_nil, Nat.reduceAdd, Nat.reduceSub, Nat.reduceLeDiff, Int.reducePow, Int.reduceNeg, Int.reduceLE, Int.reduceLT, List.replicate, ↓List.cons_append, ↓List.nil_append, List.set_cons_zero, List.set_cons_succ, true_and, and_true, ↓reduceIte, Bool.not_true, Bool.not_false, decide_true, decide_false, Bool.false_eq_true, if_false]
  refine .inr ⟨n, ns, k, rfl, pn, pK, hk2, ?_⟩
  refine ⟨_, rfl, rfl, n, ns, rfl, pn, .inr ⟨_, eq_nests _, ?_⟩⟩
  try simp only [↓a_seq, ↓a_next, ↓a_brk, ↓a_cont, ↓a_ifS, ↓a_ret, ↓a_retN, ↓a_drop, ↓a_asg, ↓a_name, ↓a_gnil, ↓a_gcons, ↓a_gtup2, ↓a_gtup3, ↓a_var0, ↓a_varS, ↓a_c, ↓a_op, ↓a_un, ↓a_nil, ↓a_cons, ↓a_cb, ↓a_tup, ↓a_lst, ↓a_lstM, ↓a_ife, ↓a_test, ↓a_and, ↓a_or, ↓a_not, ↓a_andV, ↓a_orV, ↓a_notV, ↓a_bl, ↓a_if1, ↓a_if0, ↓a_int, ↓a_int0, ↓a_addI, ↓a_addT, ↓a_addL, ↓a_addS, ↓a_mulI, ↓a_neg, ↓a_eqI, ↓a_isN, ↓a_ixT0, ↓a_ixL0, ↓a_ixT1, ↓a_ixL1, ↓a_ixT2, ↓a_ixL2, ↓a_nopart, ↓a_part, ↓a_intE, ↓a_sl, ↓a_slT, ↓a_slL, ↓a_lenT, ↓a_lenL, ↓a_lenM, ↓a_call, ↓a_for, ↓a_rg1, ↓a_rg1E, ↓a_seqI, ↓a_seqT, ↓a_seqL, ↓a_seqV, ↓a_comp, ↓a_compM, ↓a_emp, ↓a_tupL, ↓a_tupT, ↓a_lstL, ↓a_lstT, ↓a_yes, ↓a_ixV, ↓a_addV, ↓a_slV1, ↓a_slV2, ↓a_lenV, ↓a_ixN0, ↓a_ixN1, ↓a_ixN2, ↓a_ixP0, ↓a_ixP1, ↓a_ixK, ↓a_gP, ↓a_gN, ↓a_gl2, ↓a_gl3, ↓a_subI, ↓a_app, ↓a_refE, ↓a_ixTn0, ↓a_ixTn1, ↓a_ixTn2, ↓a_lstMN, ↓a_att, ↓a_zipB, ↓a_ltT, ↓a_abs, ↓a_lstRg, ↓a_tupRg, ↓a_r1, ↓a_r2, ↓a_r2E, ↓a_int1I, ↓a_int1B, ↓a_rg2, ↓a_i2E, ↓a_l2E, ↓a_l3E, ↓a_chain, ↓a_wipe0, ↓a_wipe1, ↓a_raise, ↓a_err, ↓a_errE, ↓a_par, ↓a_par3, ↓a_rem, ↓a_try, ↓a_callS, ↓a_slV3, ↓a_slV4, ↓a_lstV, ↓a_lstMV, ↓a_zip, ↓a_zipLL, ↓a_zipVV, ↓a_tab2, ↓a_make, ↓a_meth, ↓a_binI, ↓a_binJ, ↓a_binK, ↓a_negI, ↓a_sfld, ↓a_aug, ↓a_ipI, ↓a_ipII, ↓a_ipIJ, a_addT, a_ixT0, a_ixT1, a_ixT2, a_slT, a_lenT, a_seqT, a_seqV, a_lstT, a_ixV, a_addV, a_slV1, a_slV2, a_lenV, a_ixN0, a_ixN1, a_ixN2, a_ixP0, a_ixP1, a_ixK, a_gP, a_gN, a_mm, a_ixTn0, a_ixTn1, a_ixTn2, a_ltT, a_slV3, a_slV4, a_lstV, f_loop, f_nest, f_vec1, f_cut1, f_cut2, f_cut3, f_cut4, f_map1, f_map2, f_cnt, f_stp, p_addVT, p_addTV, ↓startD, ↓List.map_cons, ↓List.map_nil, List.length_cons, List.length_nil, Nat.reduceAdd, Nat.reduceSub, Nat.reduceLeDiff, Int.reducePow, Int.reduceNeg, Int.reduceLE, Int.reduceLT, List.replicate, ↓List.cons_append, ↓List.nil_append, List.set_cons_zero, List.set_cons_succ, true_and, and_true, ↓reduceIte, Bool.not_true, Bool.not_false, decide_true, decide_false, Bool.false_eq_true, if_false]
  refine ⟨_, rfl, rfl, n, _, rfl, pK, ?_⟩
  try simp only [↓a_seq, ↓a_next, ↓a_brk, ↓a_cont, ↓a_ifS, ↓a_ret, ↓a_retN, ↓a_drop, ↓a_asg, ↓a_name, ↓a_gnil, ↓a_gcons, ↓a_gtup2, ↓a_gtup3, ↓a_var0, ↓a_varS, ↓a_c, ↓a_op, ↓a_un, ↓a_nil, ↓a_cons, ↓a_cb, ↓a_tup, ↓a_lst, ↓a_lstM, ↓a_ife, ↓a_test, ↓a_and, ↓a_or, ↓a_not, ↓a_andV, ↓a_orV, ↓a_notV, ↓a_bl, ↓a_if1, ↓a_if0, ↓a_int, ↓a_int0, ↓a_addI, ↓a_addT, ↓a_addL, ↓a_addS, ↓a_mulI, ↓a_neg, ↓a_eqI, ↓a_isN, ↓a_ixT0, ↓a_ixL0, ↓a_ixT1, ↓a_ixL1, ↓a_ixT2, ↓a_ixL2, ↓a_nopart, ↓a_part, ↓a_intE, ↓a_sl, ↓a_slT, ↓a_slL, ↓a_lenT, ↓a_lenL, ↓a_lenM, ↓a_call, ↓a_for, ↓a_rg1, ↓a_rg1E, ↓a_seqI, ↓a_seqT, ↓a_seqL, ↓a_seqV, ↓a_comp, ↓a_compM, ↓a_emp, ↓a_tupL, ↓a_tupT, ↓a_lstL, ↓a_lstT, ↓a_yes, ↓a_ixV, ↓a_addV, ↓a_slV1, ↓a_slV2, ↓a_lenV, ↓a_ixN0, ↓a_ixN1, ↓a_ixN2, ↓a_ixP0, ↓a_ixP1, ↓a_ixK, ↓a_gP, ↓a_gN, ↓a_gl2, ↓a_gl3, ↓a_subI, ↓a_app, ↓a_refE, ↓a_ixTn0, ↓a_ixTn1, ↓a_ixTn2, ↓a_lstMN, ↓a_att, ↓a_zipB, ↓a_ltT, ↓a_abs, ↓a_lstRg, ↓a_tupRg, ↓a_r1, ↓a_r2, ↓a_r2E, ↓a_int1I, ↓a_int1B, ↓a_rg2, ↓a_i2E, ↓a_l2E, ↓a_l3E, ↓a_chain, ↓a_wipe0, ↓a_wipe1, ↓a_raise, ↓a_err, ↓a_errE, ↓a_par, ↓a_par3, ↓a_rem, ↓a_try, ↓a_callS, ↓a_slV3, ↓a_slV4, ↓a_lstV, ↓a_lstMV, ↓a_zip, ↓a_zipLL, ↓a_zipVV, ↓a_tab2, ↓a_make, ↓a_meth, ↓a_binI, ↓a_binJ, ↓a_binK, ↓a_negI, ↓a_sfld, ↓a_aug, ↓a_ipI, ↓a_ipII, ↓a_ipIJ, a_addT, a_ixT0, a_ixT1, a_ixT2, a_slT, a_lenT, a_seqT, a_seqV, a_lstT, a_ixV, a_addV, a_slV1, a_slV2, a_lenV, a_ixN0, a_ixN1, a_ixN2, a_ixP0, a_ixP1, a_ixK, a_gP, a_gN, a_mm, a_ixTn0, a_ixTn1, a_ixTn2, a_ltT, a_slV3, a_slV4, a_lstV, f_loop, f_nest, f_vec1, f_cut1, f_cut2, f_cut3, f_cut4, f_map1, f_map2, f_cnt, f_stp, p_addVT, p_addTV, ↓startD, ↓List.map_cons, ↓List.map_nil, List.length_cons, List.length_nil, Nat.reduceAdd, Nat.reduceSub, Nat.reduceLeDiff, Int.reducePow, Int.reduceNeg, Int.reduceLE, Int.reduceLT, List.replicate, ↓List.cons_append, ↓List.nil_append, List.set_cons_zero, List.set_cons_succ, true_and, and_true, ↓reduceIte, Bool.not_true, Bool.not_false, decide_true, decide_false, Bool.false_eq_true, if_false]
  refine ⟨n, ns, k, rfl, pn, hk2, .inr ⟨_, eq_nests _, ?_⟩⟩
  try simp only [↓a_seq, ↓a_next, ↓a_brk, ↓a_cont, ↓a_ifS, ↓a_ret, ↓a_retN, ↓a_drop, ↓a_asg, ↓a_name, ↓a_gnil, ↓a_gcons, ↓a_gtup2, ↓a_gtup3, ↓a_var0, ↓a_varS, ↓a_c, ↓a_op, ↓a_un, ↓a_nil, ↓a_cons, ↓a_cb, ↓a_tup, ↓a_lst, ↓a_lstM, ↓a_ife, ↓a_test, ↓a_and, ↓a_or, ↓a_not, ↓a_andV, ↓a_orV, ↓a_notV, ↓a_bl, ↓a_if1, ↓a_if0, ↓a_int, ↓a_int0, ↓a_addI, ↓a_addT, ↓a_addL, ↓a_addS, ↓a_mulI, ↓a_neg, ↓a_eqI, ↓a_isN, ↓a_ixT0, ↓a_ixL0, ↓a_ixT1, ↓a_ixL1, ↓a_ixT2, ↓a_ixL2, ↓a_nopart, ↓a_part, ↓a_intE, ↓a_sl, ↓a_slT, ↓a_slL, ↓a_lenT, ↓a_lenL, ↓a_lenM, ↓a_call, ↓a_for, ↓a_rg1, ↓a_rg1E, ↓a_seqI, ↓a_seqT, ↓a_seqL, ↓a_seqV, ↓a_comp, ↓a_compM, ↓a_emp, ↓a_tupL, ↓a_tupT, ↓a_lstL, ↓a_lstT, ↓a_yes, ↓a_ixV, ↓a_addV, ↓a_slV1, ↓a_slV2, ↓a_lenV, ↓a_ixN0, ↓a_ixN1, ↓a_ixN2, ↓a_ixP0, ↓a_ixP1, ↓a_ixK, ↓a_gP, ↓a_gN, ↓a_gl2, ↓a_gl3, ↓a_subI, ↓a_app, ↓a_refE, ↓a_ixTn0, ↓a_ixTn1, ↓a_ixTn2, ↓a_lstMN, ↓a_att, ↓a_zipB, ↓a_ltT, ↓a_abs, ↓a_lstRg, ↓a_tupRg, ↓a_r1, ↓a_r2, ↓a_r2E, ↓a_int1I, ↓a_int1B, ↓a_rg2, ↓a_i2E, ↓a_l2E, ↓a_l3E, ↓a_chain, ↓a_wipe0, ↓a_wipe1, ↓a_raise, ↓a_err, ↓a_errE, ↓a_par, ↓a_par3, ↓a_rem, ↓a_try, ↓a_callS, ↓a_slV3, ↓a_slV4, ↓a_lstV, ↓a_lstMV, ↓a_zip, ↓a_zipLL, ↓a_zipVV, ↓a_tab2, ↓a_make, ↓a_meth, ↓a_binI, ↓a_binJ, ↓a_binK, ↓a_negI, ↓a_sfld, ↓a_aug, ↓a_ipI, ↓a_ipII, ↓a_ipIJ, a_addT, a_ixT0, a_ixT1, a_ixT2, a_slT, a_lenT, a_seqT, a_seqV, a_lstT, a_ixV, a_addV, a_slV1, a_slV2, a_lenV, a_ixN0, a_ixN1, a_ixN2, a_ixP0, a_ixP1, a_ixK, a_gP, a_gN, a_mm, a_ixTn0, a_ixTn1, a_ixTn2, a_ltT, a_slV3, a_slV4, a_lstV, f_loop, f_nest, f_vec1, f_cut1, f_cut2, f_cut3, f_cut4, f_map1, f_map2, f_cnt, f_stp, p_addVT, p_addTV, ↓startD, ↓List.map_cons, ↓List.map_nil, List.length_cons, List.length_nil, Nat.reduceAdd, Nat.reduceSub, Nat.reduceLeDiff, Int.reducePow, Int.reduceNeg, Int.reduceLE, Int.reduceLT, List.replicate, ↓List.cons_append, ↓List.nil_append, List.set_cons_zero, List.set_cons_succ, true_and, and_true, ↓reduceIte, Bool.not_true, Bool.not_false, decide_true, decide_false, Bool.false_eq_true, if_false]
  refine .inl ⟨n, ns, n, ms, rfl, pn, pm, fun _ => ⟨pP, ?_⟩, fun e => absurd rfl e⟩
  refine ⟨_, rfl, rfl, n, _, rfl, pP, n, ns, ms, rfl, pn, pm, .inr ⟨_, eq_nests _, ?_⟩⟩
  try simp only [↓a_seq, ↓a_next, ↓a_brk, ↓a_cont, ↓a_ifS, ↓a_ret, ↓a_retN, ↓a_drop, ↓a_asg, ↓a_name, ↓a_gnil, ↓a_gcons, ↓a_gtup2, ↓a_gtup3, ↓a_var0, ↓a_varS, ↓a_c, ↓a_op, ↓a_un, ↓a_nil, ↓a_cons, ↓a_cb, ↓a_tup, ↓a_lst, ↓a_lstM, ↓a_ife, ↓a_test, ↓a_and, ↓a_or, ↓a_not, ↓a_andV, ↓a_orV, ↓a_notV, ↓a_bl, ↓a_if1, ↓a_if0, ↓a_int, ↓a_int0, ↓a_addI, ↓a_addT, ↓a_addL, ↓a_addS, ↓a_mulI, ↓a_neg, ↓a_eqI, ↓a_isN, ↓a_ixT0, ↓a_ixL0, ↓a_ixT1, ↓a_ixL1, ↓a_ixT2, ↓a_ixL2, ↓a_nopart, ↓a_part, ↓a_intE, ↓a_sl, ↓a_slT, ↓a_slL, ↓a_lenT, ↓a_lenL, ↓a_lenM, ↓a_call, ↓a_for, ↓a_rg1, ↓a_rg1E, ↓a_seqI, ↓a_seqT, ↓a_seqL, ↓a_seqV, ↓a_comp, ↓a_compM, ↓a_emp, ↓a_tupL, ↓a_tupT, ↓a_lstL, ↓a_lstT, ↓a_yes, ↓a_ixV, ↓a_addV, ↓a_slV1, ↓a_slV2, ↓a_lenV, ↓a_ixN0, ↓a_ixN1, ↓a_ixN2, ↓a_ixP0, ↓a_ixP1, ↓a_ixK, ↓a_gP, ↓a_gN, ↓a_gl2, ↓a_gl3, ↓a_subI, ↓a_app, ↓a_refE, ↓a_ixTn0, ↓a_ixTn1, ↓a_ixTn2, ↓a_lstMN, ↓a_att, ↓a_zipB, ↓a_ltT, ↓a_abs, ↓a_lstRg, ↓a_tupRg, ↓a_r1, ↓a_r2, ↓a_r2E, ↓a_int1I, ↓a_int1B, ↓a_rg2, ↓a_i2E, ↓a_l2E, ↓a_l3E, ↓a_chain, ↓a_wipe0, ↓a_wipe1, ↓a_raise, ↓a_err, ↓a_errE, ↓a_par, ↓a_par3, ↓a_rem, ↓a_try, ↓a_callS, ↓a_slV3, ↓a_slV4, ↓a_lstV, ↓a_lstMV, ↓a_zip, ↓a_zipLL, ↓a_zipVV, ↓a_tab2, ↓a_make, ↓a_meth, ↓a_binI, ↓a_binJ, ↓a_binK, ↓a_negI, ↓a_sfld, ↓a_aug, ↓a_ipI, ↓a_ipII, ↓a_ipIJ, a_addT, a_ixT0, a_ixT1, a_ixT2, a_slT, a_lenT, a_seqT, a_seqV, a_lstT, a_ixV, a_addV, a_slV1, a_slV2, a_lenV, a_ixN0, a_ixN1, a_ixN2, a_ixP0, a_ixP1, a_ixK, a_gP, a_gN, a_mm, a_ixTn0, a_ixTn1, a_ixTn2, a_ltT, a_slV3, a_slV4, a_lstV, f_loop, f_nest, f_vec1, f_cut1, f_cut2, f_cut3, f_cut4, f_map1, f_map2, f_cnt, f_stp, p_addVT, p_addTV, ↓startD, ↓List.map_cons, ↓List.map_nil, List.length_cons, List.length_nil, Nat.reduceAdd, Nat.reduceSub, Nat.reduceLeDiff, Int.reducePow, Int.reduceNeg, Int.reduceLE, Int.reduceLT, List.replicate, ↓List.cons_append, ↓List.nil_append, List.set_cons_zero, List.set_cons_succ, true_and, and_true, ↓reduceIte, Bool.not_true, Bool.not_false, decide_true, decide_false, Bool.false_eq_true, if_false]
  refine ⟨_, rfl, rfl, n, ns, rfl, pn, .inr ⟨_, eq_nests _, ?_⟩⟩
  try simp only [↓a_seq, ↓a_next, ↓a_brk, ↓a_cont, ↓a_ifS, ↓a_ret, ↓a_retN, ↓a_drop, ↓a_asg, ↓a_name, ↓a_gnil, ↓a_gcons, ↓a_gtup2, ↓a_gtup3, ↓a_var0, ↓a_varS, ↓a_c, ↓a_op, ↓a_un, ↓a_nil, ↓a_cons, ↓a_cb, ↓a_tup, ↓a_lst, ↓a_lstM, ↓a_ife, ↓a_test, ↓a_and, ↓a_or, ↓a_not, ↓a_andV, ↓a_orV, ↓a_notV, ↓a_bl, ↓a_if1, ↓a_if0, ↓a_int, ↓a_int0, ↓a_addI, ↓a_addT, ↓a_addL, ↓a_addS, ↓a_mulI, ↓a_neg, ↓a_eqI, ↓a_isN, ↓a_ixT0, ↓a_ixL0, ↓a_ixT1, ↓a_ixL1, ↓a_ixT2, ↓a_ixL2, ↓a_nopart, ↓a_part, ↓a_intE, ↓a_sl, ↓a_slT, ↓a_slL, ↓a_lenT, ↓a_lenL, ↓a_lenM, ↓a_call, ↓a_for, ↓a_rg1, ↓a_rg1E, ↓a_seqI, ↓a_seqT, ↓a_seqL, ↓a_seqV, ↓a_comp, ↓a_compM, ↓a_emp, ↓a_tupL, ↓a_tupT, ↓a_lstL, ↓a_lstT, ↓a_yes, ↓a_ixV, ↓a_addV, ↓a_slV1, ↓a_slV2, ↓a_lenV, ↓a_ixN0, ↓a_ixN1, ↓a_ixN2, ↓a_ixP0, ↓a_ixP1, ↓a_ixK, ↓a_gP, ↓a_gN, ↓a_gl2, ↓a_gl3, ↓a_subI, ↓a_app, ↓a_refE, ↓a_ixTn0, ↓a_ixTn1, ↓a_ixTn2, ↓a_lstMN, ↓a_att, ↓a_zipB, ↓a_ltT, ↓a_abs, ↓a_lstRg, ↓a_tupRg, ↓a_r1, ↓a_r2, ↓a_r2E, ↓a_int1I, ↓a_int1B, ↓a_rg2, ↓a_i2E, ↓a_l2E, ↓a_l3E, ↓a_chain, ↓a_wipe0, ↓a_wipe1, ↓a_raise, ↓a_err, ↓a_errE, ↓a_par, ↓a_par3, ↓a_rem, ↓a_try, ↓a_callS, ↓a_slV3, ↓a_slV4, ↓a_lstV, ↓a_lstMV, ↓a_zip, ↓a_zipLL, ↓a_zipVV, ↓a_tab2, ↓a_make, ↓a_meth, ↓a_binI, ↓a_binJ, ↓a_binK, ↓a_negI, ↓a_sfld, ↓a_aug, ↓a_ipI, ↓a_ipII, ↓a_ipIJ, a_addT, a_ixT0, a_ixT1, a_ixT2, a_slT, a_lenT, a_seqT, a_seqV, a_lstT, a_ixV, a_addV, a_slV1, a_slV2, a_lenV, a_ixN0, a_ixN1, a_ixN2, a_ixP0, a_ixP1, a_ixK, a_gP, a_gN, a_mm, a_ixTn0, a_ixTn1, a_ixTn2, a_ltT, a_slV3, a_slV4, a_lstV, f_loop, f_nest, f_vec1, f_cut1, f_cut2, f_cut3, f_cut4, f_map1, f_map2, f_cnt, f_stp, p_addVT, p_addTV, ↓startD, ↓List.map_cons, ↓List.map_nil, List.length_cons, List.length_nil, Nat.reduceAdd, Nat.reduceSub, Nat.reduceLeDiff, Int.reducePow, Int.reduceNeg, Int.reduceLE, Int.reduceLT, List.replicate, ↓List.cons_append, ↓List.nil_append, List.set_cons_zero, List.set_cons_succ, true_and, and_true, ↓reduceIte, Bool.not_true, Bool.not_false, decide_true, decide_false, Bool.false_eq_true, if_false]
  exact ⟨_, rfl, rfl, n, ms, rfl, pm, .inr ⟨_, eq_nests _, q _ (s2.tr (s3.tr s4)) (hP4.mono (by omega))⟩⟩
theorem ok__law_right (T : Tx K mg) : FnOk P w K mg base CX0 10 T.f__law_right T.fd__law_right P__law_right (spD (spRight K mg T)) :=
  fn0D T.F__law_right sc__law_right (fun _ _ _ _ ⟨_, _, _, _, _, e, _⟩ => by rw [e]; rfl) fun cdv A outer s H E hr => let ⟨t, h1, h2⟩ := (red__law_right P w base T).2 cdv A outer s H E hr; ⟨t, h1, fun AM Y => ⟨_, h2 AM Y, body__law_right T Y⟩⟩
end
end K11
namespace K11
open PySem PySem.Spec PyProof.Rows L2 DL
section
variable {P : Program} {w : World} {K : PySem.W.Frag} {mg : Str → Option Value} {base : Heap}
theorem pu_del {b : Int} {μ : Mu} {a c : Addr} (h : Pu b μ a) (ne : a ≠ c) : Pu b (mdel μ c) a := let ⟨p0, p1, p2, h1, h2⟩ := h; ⟨p0, p1, p2, by unfold mdel; rw [if_neg ne]; exact h1, h2⟩
theorem draw_nests [AM : Amb] {ρ : Ro} {Kk : KD} {a c : Addr} {n i : Nat} {B cc : Int} {de : DE} (hde : ∀ x μ' L, spNestG [.val (.ref a), .int (n : Int), .int 3, .int cc, .int 4] μ' L (fun _ _ _ => False) → de (ρ.set i (some x)) μ' L) (ne : a ≠ c) (n3 : n ≤ 3) (c1 : 1 ≤ cc) (c2 : cc ≤ 10 ^ 40) (hB : B ≤ 10 ^ 6)
    (k : ∀ (Ns : List NestD) (μ' : Mu), (∀ N ∈ Ns, Bd n 3 8 3 N) → Ns.length ≤ 5 → Pu B μ' a → Kk (.lst (Ns.map NestD.d)) μ') : ∀ (xs : List D) (Ns : List NestD) (b : Int) (μ : Mu), xs.length + Ns.length ≤ 5 → b + 300 * xs.length ≤ B → (∀ N ∈ Ns, Bd n 3 8 3 N) → μ c = some (.lst (Ns.map NestD.d)) → Pu b μ a →
    dCompL (fun _ => True) (dName i) dYes de ρ c Kk xs (Ns.map NestD.d) μ
  | [], Ns, b, μ, hl, hb, hN, hc, hP => ⟨True.intro, hc, k Ns _ hN (by simpa using hl) ((pu_del hP ne).mono (by simpa using hb))⟩
  | x :: xs, Ns, b, μ, hl, hb, hN, hc, hP => by
    rw [List.length_cons] at hl hb
    refine ⟨True.intro, hde x _ _ ⟨a, n, 3, cc, 4, b, rfl, n3, by decide, c1, by omega, by decide, by decide, by omega, hP, fun N μ' e1 e2 e3 e4 e5 e6 s hP' => ⟨s c _ (Ne.symm ne) hc, by rw [List.length_map]; omega, ?_⟩⟩⟩
    have hd : Bd n 3 8 3 N := ⟨e1, e2, fun l hl => by
      obtain ⟨a1, a2, a3, a4⟩ := e3 l hl
      exact ⟨a1, by omega, a3, fun x hx => by have := a4 x hx; omega⟩, fun x hx => by have := e4 x hx; omega, by omega⟩
    rw [show Ns.map NestD.d ++ [N.d] = (Ns ++ [N]).map NestD.d by simp]
    exact draw_nests hde ne n3 c1 c2 hB k xs (Ns ++ [N]) (b + 300) _ (by rw [List.length_append, List.length_singleton]; omega) (by omega) (fun M hM => (List.mem_append.1 hM).elim (hN M) (fun h => by rw [List.mem_singleton.1 h]; exact hd)) mup_same (hP'.up ne)
end
end K11
namespace K11
open PySem PySem.Spec PyProof.Rows L2 DL
section
variable {P : Program} {w : World} {K : PySem.W.Frag} {mg : Str → Option Value} {base : Heap}
noncomputable def red_law (P : Program) (w : World) (base : Heap) (T : Tx K mg) : { ds : KX → DS // ∀ (cdv : Value) (A : Around) (outer : List Env) (s : Shared) (H : Hp) (E : XK), A.guards = some [] → Room 10 (A.deeper (envOfC "law" (defScope s_law) s.heap.objs.size T.f_law cdv)) →
    ∃ t, PSs (cxOf CX0 P w K mg base N_law "law" (defScope s_law) T.f_law cdv A outer s H E).nox (defBody s_law) t ∧ ∀ (AM : Amb) (Y : KX), LiftS t (ds Y) } :=
  ⟨_, fun cdv A outer s H E hG hr => by
    have hu := hr.units
    haveI : Amb := amb0
    have sc := sc_law
    exact ⟨_, (pss_cons (ps_for PassesOwn.never rfl (pi_range1 rfl T.n_range (pa_cons (pe_int) pa_nil)) (pg_name (i := 1) sc.nd rfl (by first | exact Or.inl rfl | exact Or.inr rfl)) (pss_cons (ps_set (i := 2) sc.nd rfl (by first | exact Or.inl rfl | exact Or.inr rfl) ((pe_call (ok__law_purse T) (hr.mono (by decide)) rfl T.g__law_purse T.F__law_purse.kp T.b__law_purse .nil pass0 (pa_cons (pv 0) (pa_cons (pv 1) pa_nil))))) (pss_cons (ps_asg ((pe_tup (pa_cons ((pe_op op_addD (pe_int) ((pe_call (ok__law_draw T) (hr.mono (by decide)) rfl T.g__law_draw T.F__law_draw.kp T.b__law_draw .nil pass0 (pa_cons (pv 2) (pa_cons (pe_int) pa_nil)))))) (pa_cons ((pe_ix ix_seq ((pe_lst (pa_cons (pe_int) (pa_cons ((pe_op op_powD (pe_int) (pe_int))) pa_nil)))) ((pe_call (ok__law_draw T) (hr.mono (by decide)) rfl T.g__law_draw T.F__law_draw.kp T.b__law_draw .nil pass0 (pa_cons (pv 2) (pa_cons (pe_int) pa_nil)))) (fun _ _ => rfl))) pa_nil)))) (pg_tup (n := 2) rfl (pgs_cons (pg_name (i := 3) sc.nd rfl (by first | exact Or.inl rfl | exact Or.inr rfl)) (pgs_cons (pg_name (i := 4) sc.nd rfl (by first | exact Or.inl rfl | exact Or.inr rfl)) pgs_nil)))) (pss_cons (ps_setLc (i := 5) (own := [("_law_turn", 6)]) (g := (gName 6)) rfl sc.nd rfl rfl (sw_true rfl rfl rfl (by decide +kernel)) (pi_range1 rfl T.n_range (pa_cons ((pe_call (ok__law_draw T) (hr.mono (by decide)) rfl T.g__law_draw T.F__law_draw.kp T.b__law_draw .nil pass0 (pa_cons (pv 2) (pa_cons (pe_int) pa_nil)))) pa_nil)) (blkOk_by (own := [("_law_turn", 6)]) (N := N_law) (sc := defScope s_law) (by decide +kernel)) (fun _ _ _ _ _ => (pg_name (i := 6) sc.nd rfl (by first | exact Or.inl rfl | exact Or.inr rfl))) (fun _ _ _ _ _ => pts_nil) (fun _ _ _ _ _ => (pe_call (ok__law_nest_drawn T) (hr.mono (by decide)) rfl T.g__law_nest_drawn T.F__law_nest_drawn.kp T.b__law_nest_drawn .nil pass0 (pa_cons (pv 2) (pa_cons (pv 3) (pa_cons (pe_int) (pa_cons (pv 4) (pa_cons (pe_int) pa_nil)))))))) (pss_cons (ps_setLc (i := 7) (own := [("_law_turn", 6)]) (g := (gName 6)) rfl sc.nd rfl rfl (sw_true rfl rfl rfl (by decide +kernel)) (pi_range1 rfl T.n_range (pa_cons ((pe_call (ok__law_draw T) (hr.mono (by decide)) rfl T.g__law_draw T.F__law_draw.kp T.b__law_draw .nil pass0 (pa_cons (pv 2) (pa_cons (pe_int) pa_nil)))) pa_nil)) (blkOk_by (own := [("_law_turn", 6)]) (N := N_law) (sc := defScope s_law) (by decide +kernel)) (fun _ _ _ _ _ => (pg_name (i := 6) sc.nd rfl (by first | exact Or.inl rfl | exact Or.inr rfl))) (fun _ _ _ _ _ => pts_nil) (fun _ _ _ _ _ => (pe_call (ok__law_nest_drawn T) (hr.mono (by decide)) rfl T.g__law_nest_drawn T.F__law_nest_drawn.kp T.b__law_nest_drawn .nil pass0 (pa_cons (pv 2) (pa_cons (pv 3) (pa_cons (pe_int) (pa_cons (pv 4) (pa_cons (pe_int) pa_nil)))))))) (pss_cons (ps_if (PW.pt (pw_or (pt_not (pt_val ((pe_call (ok__law_right T) (hr.mono (by decide)) rfl T.g__law_right T.F__law_right.kp T.b__law_right .nil pass0 (pa_cons (pv 2) (pa_cons (pv 3) (pa_cons (pv 5) (pa_cons (pv 7) pa_nil)))))))) (pw_or1 (pt_not (pt_val ((pe_call (ok__law_right T) (hr.mono (by decide)) rfl T.g__law_right T.F__law_right.kp T.b__law_right .nil pass0 (pa_cons (pv 2) (pa_cons (pv 3) (pa_cons (pv 7) (pa_cons (pv 5) pa_nil))))))))))) (pss_one (ps_ret (pe_bl))) pss_nil) (pss_cons (ps_set (i := 8) sc.nd rfl (by first | exact Or.inl rfl | exact Or.inr rfl) ((pe_make (dvs := []) (ds := []) T.mk_Program (ok_Pm_init T) (hr.mono (by decide)) rfl T.g_Program T.b_Pm_init .nil pass0 (pa_cons ((pe_op op_addD ((pe_op op_mod (pv 3) (pe_int))) (pe_int))) (pa_cons ((pe_lst pa_nil)) pa_nil))))) (pss_one (ps_for PassesOwn.never rfl (pi_range1 rfl T.n_range (pa_cons (pe_int) pa_nil)) (pg_name (i := 9) sc.nd rfl (by first | exact Or.inl rfl | exact Or.inr rfl)) (pss_cons (ps_if (pt_cmpR (op_neX hu) ((pe_callG (ok__law_caught T) hG (hr.mono (by decide)) rfl T.g__law_caught T.F__law_caught.kp T.b__law_caught pass0 (pa_cons (pv 9) (pa_cons ((pe_make (dvs := []) (ds := []) T.mk_Program (ok_Pm_init T) (hr.mono (by decide)) rfl T.g_Program T.b_Pm_init .nil pass0 (pa_cons (pv 3) (pa_cons (pv 5) pa_nil)))) (pa_cons (pv 8) pa_nil))))) ((pe_callB (call_reprD hG hu) rfl T.n_repr (by decide +kernel) (pa_cons ((pe_tup (pa_cons (pv 3) (pa_cons ((pe_op op_addD ((pe_op op_mod (pv 3) (pe_int))) (pe_int))) pa_nil)))) pa_nil))) (nomark _)) (pss_one (ps_ret (pe_bl))) pss_nil) (pss_one (ps_if (pt_cmpR (op_neX hu) ((pe_callG (ok__law_caught T) hG (hr.mono (by decide)) rfl T.g__law_caught T.F__law_caught.kp T.b__law_caught pass0 (pa_cons (pv 9) (pa_cons (pv 8) (pa_cons ((pe_make (dvs := []) (ds := []) T.mk_Program (ok_Pm_init T) (hr.mono (by decide)) rfl T.g_Program T.b_Pm_init .nil pass0 (pa_cons (pv 3) (pa_cons (pv 5) pa_nil)))) pa_nil))))) ((pe_callB (call_reprD hG hu) rfl T.n_repr (by decide +kernel) (pa_cons ((pe_tup (pa_cons ((pe_op op_addD ((pe_op op_mod (pv 3) (pe_int))) (pe_int))) (pa_cons (pv 3) pa_nil)))) pa_nil))) (nomark _)) (pss_one (ps_ret (pe_bl))) pss_nil)))))))))))) (pss_one (ps_ret (pe_bl)))), fun AM Y => (ls_seq (ls_for (li_rg1 (l_cons (l_int) l_nil)) lg_name (ls_seq (ls_asg ((l_call XOk.never (l_cons (l_var) (l_cons (l_var) l_nil)))) lg_name) (ls_seq (ls_asg ((l_tup (l_cons ((l_op l2_add (l_int) ((l_call XOk.never (l_cons (l_var) (l_cons (l_int) l_nil)))))) (l_cons ((l_op l2_ix ((l_lst (l_cons (l_int) (l_cons ((l_op l2_pow (l_int) (l_int))) l_nil)))) ((l_call XOk.never (l_cons (l_var) (l_cons (l_int) l_nil)))))) l_nil)))) (lg_tup (lgs_cons lg_name (lgs_cons lg_name lgs_nil)))) (ls_seq (ls_asg (l_comp (li_rg1 (l_cons ((l_call XOk.never (l_cons (l_var) (l_cons (l_int) l_nil)))) l_nil)) (lgw_name (by decide)) l_yes ((l_call XOk.never (l_cons (l_var) (l_cons (l_var) (l_cons (l_int) (l_cons (l_var) (l_cons (l_int) l_nil)))))))) lg_name) (ls_seq (ls_asg (l_comp (li_rg1 (l_cons ((l_call XOk.never (l_cons (l_var) (l_cons (l_int) l_nil)))) l_nil)) (lgw_name (by decide)) l_yes ((l_call XOk.never (l_cons (l_var) (l_cons (l_var) (l_cons (l_int) (l_cons (l_var) (l_cons (l_int) l_nil)))))))) lg_name) (ls_seq (ls_if (l_or (l_not (l_tB ((l_call XOk.never (l_cons (l_var) (l_cons (l_var) (l_cons (l_var) (l_cons (l_var) l_nil)))))))) (l_not (l_tB ((l_call XOk.never (l_cons (l_var) (l_cons (l_var) (l_cons (l_var) (l_cons (l_var) l_nil))))))))) (ls_ret (l_bl)) ls_next) (ls_seq (ls_asg ((l_make XOk.never (l_cons ((l_op l2_add ((l_op l2_mod (l_var) (l_int))) (l_int))) (l_cons ((l_lst l_nil)) l_nil)))) lg_name) (ls_for (li_rg1 (l_cons (l_int) l_nil)) lg_name (ls_seq (ls_if (l_test (l_op l2_eqX ((l_call XOk.never (l_cons (l_var) (l_cons ((l_make XOk.never (l_cons (l_var) (l_cons (l_var) l_nil)))) (l_cons (l_var) l_nil))))) ((l_cb lc_repr (l_cons ((l_tup (l_cons (l_var) (l_cons ((l_op l2_add ((l_op l2_mod (l_var) (l_int))) (l_int))) l_nil)))) l_nil))))) (ls_ret (l_bl)) ls_next) (ls_if (l_test (l_op l2_eqX ((l_call XOk.never (l_cons (l_var) (l_cons (l_var) (l_cons ((l_make XOk.never (l_cons (l_var) (l_cons (l_var) l_nil)))) l_nil))))) ((l_cb lc_repr (l_cons ((l_tup (l_cons ((l_op l2_add ((l_op l2_mod (l_var) (l_int))) (l_int))) (l_cons (l_var) l_nil)))) l_nil))))) (ls_ret (l_bl)) ls_next)))))))))) (ls_ret (l_bl)))⟩⟩
end
end K11
namespace K11
open PySem PySem.Spec PyProof.Rows L2 DL
section
variable {P : Program} {w : World} {K : PySem.W.Frag} {mg : Str → Option Value} {base : Heap}
theorem body_law (T : Tx K mg) (Y : KX) : ∀ xs μ Kk, (spLawD K) xs μ Kk Y → (red_law P w base T).1 Y { nx := fun _ μ' => Kk .non μ', rt := Kk } (startD N_law xs) μ := by
  intro xs μ Kk h
  haveI : Amb := amb0
  obtain ⟨zs, rfl, hzs, q⟩ := h
  try simp only [↓a_seq, ↓a_next, ↓a_brk, ↓a_cont, ↓a_ifS, ↓a_ret, ↓a_retN, ↓a_drop, ↓a_asg, ↓a_name, ↓a_gnil, ↓a_gcons, ↓a_gtup2, ↓a_gtup3, ↓a_var0, ↓a_varS, ↓a_c, ↓a_op, ↓a_un, ↓a_nil, ↓a_cons, ↓a_cb, ↓a_tup, ↓a_lst, ↓a_lstM, ↓a_ife, ↓a_test, ↓a_and, ↓a_or, ↓a_not, ↓a_andV, ↓a_orV, ↓a_notV, ↓a_bl, ↓a_if1, ↓a_if0, ↓a_int, ↓a_int0, ↓a_addI, ↓a_addT, ↓a_addL, ↓a_addS, ↓a_mulI, ↓a_neg, ↓a_eqI, ↓a_isN, ↓a_ixT0, ↓a_ixL0, ↓a_ixT1, ↓a_ixL1, ↓a_ixT2, ↓a_ixL2, ↓a_nopart, ↓a_part, ↓a_intE, ↓a_sl, ↓a_slT, ↓a_slL, ↓a_lenT, ↓a_lenL, ↓a_lenM, ↓a_call, ↓a_for, ↓a_rg1, ↓a_rg1E, ↓a_seqI, ↓a_seqT, ↓a_seqL, ↓a_seqV, ↓a_comp, ↓a_compM, ↓a_emp, ↓a_tupL, ↓a_tupT, ↓a_lstL, ↓a_lstT, ↓a_yes, ↓a_ixV, ↓a_addV, ↓a_slV1, ↓a_slV2, ↓a_lenV, ↓a_ixN0, ↓a_ixN1, ↓a_ixN2, ↓a_ixP0, ↓a_ixP1, ↓a_ixK, ↓a_gP, ↓a_gN, ↓a_gl2, ↓a_gl3, ↓a_subI, ↓a_app, ↓a_refE, ↓a_ixTn0, ↓a_ixTn1, ↓a_ixTn2, ↓a_lstMN, ↓a_att, ↓a_zipB, ↓a_ltT, ↓a_abs, ↓a_lstRg, ↓a_tupRg, ↓a_r1, ↓a_r2, ↓a_r2E, ↓a_int1I, ↓a_int1B, ↓a_rg2, ↓a_i2E, ↓a_l2E, ↓a_l3E, ↓a_chain, ↓a_wipe0, ↓a_wipe1, ↓a_raise, ↓a_err, ↓a_errE, ↓a_par, ↓a_par3, ↓a_rem, ↓a_try, ↓a_callS, ↓a_slV3, ↓a_slV4, ↓a_lstV, ↓a_lstMV, ↓a_zip, ↓a_zipLL, ↓a_zipVV, ↓a_tab2, ↓a_make, ↓a_meth, ↓a_binI, ↓a_binJ, ↓a_binK, ↓a_negI, ↓a_sfld, ↓a_aug, ↓a_ipI, ↓a_ipII, ↓a_ipIJ, a_addT, a_ixT0, a_ixT1, a_ixT2, a_slT, a_lenT, a_seqT, a_seqV, a_lstT, a_ixV, a_addV, a_slV1, a_slV2, a_lenV, a_ixN0, a_ixN1, a_ixN2, a_ixP0, a_ixP1, a_ixK, a_gP, a_gN, a_mm, a_ixTn0, a_ixTn1, a_ixTn2, a_ltT, a_slV3, a_slV4, a_lstV, f_loop, f_nest, f_vec1, f_cut1, f_cut2, f_cut3, f_cut4, f_map1, f_map2, f_cnt, f_stp, p_addVT, p_addTV, ↓startD, ↓List.map_cons, ↓List.map_nil, List.length_cons, List.length_nil, Nat.reduceAdd, Nat.reduceSub, Nat.reduceLeDiff, Int.reducePow, Int.reduceNeg, Int.reduceLE, Int.reduceLT, List.replicate, ↓List.cons_append, ↓List.nil_append, List.set_cons_zero, List.set_cons_succ, true_and, and_true, ↓reduceIte, Bool.not_true, Bool.not_false, decide_true, decide_false, Bool.false_eq_true, if_false, red_law]
  refine loop_by (I := fun r ρ μ' => ∃ (y1 y2 y3 y4 y5 y6 y7 y8 y9 : Option D), ρ = [some (D.scr K zs), y1, y2, y3, y4, y5, y6, y7, y8, y9] ∧ ∀ k ∈ r, ∃ i : Int, k = .int i ∧ 0 ≤ i ∧ i ≤ 2) (fun _ _ _ _ => True.intro) ?_ ?_ _ _ _ ⟨_, _, _, _, _, _, _, _, _, rfl, fun k hk => ?_⟩
  rotate_left
  · rintro ρ μ1 ⟨y1, y2, y3, y4, y5, y6, y7, y8, y9, rfl, _⟩
    try simp only [↓a_seq, ↓a_next, ↓a_brk, ↓a_cont, ↓a_ifS, ↓a_ret, ↓a_retN, ↓a_drop, ↓a_asg, ↓a_name, ↓a_gnil, ↓a_gcons, ↓a_gtup2, ↓a_gtup3, ↓a_var0, ↓a_varS, ↓a_c, ↓a_op, ↓a_un, ↓a_nil, ↓a_cons, ↓a_cb, ↓a_tup, ↓a_lst, ↓a_lstM, ↓a_ife, ↓a_test, ↓a_and, ↓a_or, ↓a_not, ↓a_andV, ↓a_orV, ↓a_notV, ↓a_bl, ↓a_if1, ↓a_if0, ↓a_int, ↓a_int0, ↓a_addI, ↓a_addT, ↓a_addL, ↓a_addS, ↓a_mulI, ↓a_neg, ↓a_eqI, ↓a_isN, ↓a_ixT0, ↓a_ixL0, ↓a_ixT1, ↓a_ixL1, ↓a_ixT2, ↓a_ixL2, ↓a_nopart, ↓a_part, ↓a_intE, ↓a_sl, ↓a_slT, ↓a_slL, ↓a_lenT, ↓a_lenL, ↓a_lenM, ↓a_call, ↓a_for, ↓a_rg1, ↓a_rg1E, ↓a_seqI, ↓a_seqT, ↓a_seqL, ↓a_seqV, ↓a_comp, ↓a_compM, ↓a_emp, ↓a_tupL, ↓a_tupT, ↓a_lstL, ↓a_lstT, ↓a_yes, ↓a_ixV, ↓a_addV, ↓a_slV1, ↓a_slV2, ↓a_lenV, ↓a_ixN0, ↓a_ixN1, ↓a_ixN2, ↓a_ixP0, ↓a_ixP1, ↓a_ixK, ↓a_gP, ↓a_gN, ↓a_gl2, ↓a_gl3, ↓a_subI, ↓a_app, ↓a_refE, ↓a_ixTn0, ↓a_ixTn1, ↓a_ixTn2, ↓a_lstMN, ↓a_att, ↓a_zipB, ↓a_ltT, ↓a_abs, ↓a_lstRg, ↓a_tupRg, ↓a_r1, ↓a_r2, ↓a_r2E, ↓a_int1I, ↓a_int1B, ↓a_rg2, ↓a_i2E, ↓a_l2E, ↓a_l3E, ↓a_chain, ↓a_wipe0, ↓a_wipe1, ↓a_raise, ↓a_err, ↓a_errE, ↓a_par, ↓a_par3, ↓a_rem, ↓a_try, ↓a_callS, ↓a_slV3, ↓a_slV4, ↓a_lstV, ↓a_lstMV, ↓a_zip, ↓a_zipLL, ↓a_zipVV, ↓a_tab2, ↓a_make, ↓a_meth, ↓a_binI, ↓a_binJ, ↓a_binK, ↓a_negI, ↓a_sfld, ↓a_aug, ↓a_ipI, ↓a_ipII, ↓a_ipIJ, a_addT, a_ixT0, a_ixT1, a_ixT2, a_slT, a_lenT, a_seqT, a_seqV, a_lstT, a_ixV, a_addV, a_slV1, a_slV2, a_lenV, a_ixN0, a_ixN1, a_ixN2, a_ixP0, a_ixP1, a_ixK, a_gP, a_gN, a_mm, a_ixTn0, a_ixTn1, a_ixTn2, a_ltT, a_slV3, a_slV4, a_lstV, f_loop, f_nest, f_vec1, f_cut1, f_cut2, f_cut3, f_cut4, f_map1, f_map2, f_cnt, f_stp, p_addVT, p_addTV, ↓startD, ↓List.map_cons, ↓List.map_nil, List.length_cons, List.length_nil, Nat.reduceAdd, Nat.reduceSub, Nat.reduceLeDiff, Int.reducePow, Int.reduceNeg, Int.reduceLE, Int.reduceLT, List.replicate, ↓List.cons_append, ↓List.nil_append, List.set_cons_zero, List.set_cons_succ, true_and, and_true, ↓reduceIte, Bool.not_true, Bool.not_false, decide_true, decide_false, Bool.false_eq_true, if_false]
    exact q _
  · obtain ⟨j, hj, rfl⟩ := List.mem_map.1 hk
    have hj2 : j < 3 := List.mem_range.1 hj
    exact ⟨_, rfl, by omega, by omega⟩
  rintro x r ρ μ1 N1 ⟨y1, y2, y3, y4, y5, y6, y7, y8, y9, rfl, hr⟩ hN1
  obtain ⟨i, rfl, i0, i1⟩ := hr x List.mem_cons_self
  try simp only [↓a_seq, ↓a_next, ↓a_brk, ↓a_cont, ↓a_ifS, ↓a_ret, ↓a_retN, ↓a_drop, ↓a_asg, ↓a_name, ↓a_gnil, ↓a_gcons, ↓a_gtup2, ↓a_gtup3, ↓a_var0, ↓a_varS, ↓a_c, ↓a_op, ↓a_un, ↓a_nil, ↓a_cons, ↓a_cb, ↓a_tup, ↓a_lst, ↓a_lstM, ↓a_ife, ↓a_test, ↓a_and, ↓a_or, ↓a_not, ↓a_andV, ↓a_orV, ↓a_notV, ↓a_bl, ↓a_if1, ↓a_if0, ↓a_int, ↓a_int0, ↓a_addI, ↓a_addT, ↓a_addL, ↓a_addS, ↓a_mulI, ↓a_neg, ↓a_eqI, ↓a_isN, ↓a_ixT0, ↓a_ixL0, ↓a_ixT1, ↓a_ixL1, ↓a_ixT2, ↓a_ixL2, ↓a_nopart, ↓a_part, ↓a_intE, ↓a_sl, ↓a_slT, ↓a_slL, ↓a_lenT, ↓a_lenL, ↓a_lenM, ↓a_call, ↓a_for, ↓a_rg1, ↓a_rg1E, ↓a_seqI, ↓a_seqT, ↓a_seqL, ↓a_seqV, ↓a_comp, ↓a_compM, ↓a_emp, ↓a_tupL, ↓a_tupT, ↓a_lstL, ↓a_lstT, ↓a_yes, ↓a_ixV, ↓a_addV, ↓a_slV1, ↓a_slV2, ↓a_lenV, ↓a_ixN0, ↓a_ixN1, ↓a_ixN2, ↓a_ixP0, ↓a_ixP1, ↓a_ixK, ↓a_gP, ↓a_gN, ↓a_gl2, ↓a_gl3, ↓a_subI, ↓a_app, ↓a_refE, ↓a_ixTn0, ↓a_ixTn1, ↓a_ixTn2, ↓a_lstMN, ↓a_att, ↓a_zipB, ↓a_ltT, ↓a_abs, ↓a_lstRg, ↓a_tupRg, ↓a_r1, ↓a_r2, ↓a_r2E, ↓a_int1I, ↓a_int1B, ↓a_rg2, ↓a_i2E, ↓a_l2E, ↓a_l3E, ↓a_chain, ↓a_wipe0, ↓a_wipe1, ↓a_raise, ↓a_err, ↓a_errE, ↓a_par, ↓a_par3, ↓a_rem, ↓a_try, ↓a_callS, ↓a_slV3, ↓a_slV4, ↓a_lstV, ↓a_lstMV, ↓a_zip, ↓a_zipLL, ↓a_zipVV, ↓a_tab2, ↓a_make, ↓a_meth, ↓a_binI, ↓a_binJ, ↓a_binK, ↓a_negI, ↓a_sfld, ↓a_aug, ↓a_ipI, ↓a_ipII, ↓a_ipIJ, a_addT, a_ixT0, a_ixT1, a_ixT2, a_slT, a_lenT, a_seqT, a_seqV, a_lstT, a_ixV, a_addV, a_slV1, a_slV2, a_lenV, a_ixN0, a_ixN1, a_ixN2, a_ixP0, a_ixP1, a_ixK, a_gP, a_gN, a_mm, a_ixTn0, a_ixTn1, a_ixTn2, a_ltT, a_slV3, a_slV4, a_lstV, f_loop, f_nest, f_vec1, f_cut1, f_cut2, f_cut3, f_cut4, f_map1, f_map2, f_cnt, f_stp, p_addVT, p_addTV, ↓startD, ↓List.map_cons, ↓List.map_nil, List.length_cons, List.length_nil, Nat.reduceAdd, Nat.reduceSub, Nat.reduceLeDiff, Int.reducePow, Int.reduceNeg, Int.reduceLE, Int.reduceLT, List.replicate, ↓List.cons_append, ↓List.nil_append, List.set_cons_zero, List.set_cons_succ, true_and, and_true, ↓reduceIte, Bool.not_true, Bool.not_false, decide_true, decide_false, Bool.false_eq_true, if_false]
  refine ⟨zs, i, rfl, i0, by omega, fun a l ha hP => ?_⟩
  refine draw_x (by decide) (by decide) (by decide) hP fun m μ2 m0 m1 s1 hP1 => ?_
  obtain ⟨n, hn⟩ := Int.eq_ofNat_of_zero_le (show 0 ≤ 1 + m by omega)
  have n1 : 1 ≤ n := by omega
  have n3 : n ≤ 3 := by omega
  try simp only [↓a_seq, ↓a_next, ↓a_brk, ↓a_cont, ↓a_ifS, ↓a_ret, ↓a_retN, ↓a_drop, ↓a_asg, ↓a_name, ↓a_gnil, ↓a_gcons, ↓a_gtup2, ↓a_gtup3, ↓a_var0, ↓a_varS, ↓a_c, ↓a_op, ↓a_un, ↓a_nil, ↓a_cons, ↓a_cb, ↓a_tup, ↓a_lst, ↓a_lstM, ↓a_ife, ↓a_test, ↓a_and, ↓a_or, ↓a_not, ↓a_andV, ↓a_orV, ↓a_notV, ↓a_bl, ↓a_if1, ↓a_if0, ↓a_int, ↓a_int0, ↓a_addI, ↓a_addT, ↓a_addL, ↓a_addS, ↓a_mulI, ↓a_neg, ↓a_eqI, ↓a_isN, ↓a_ixT0, ↓a_ixL0, ↓a_ixT1, ↓a_ixL1, ↓a_ixT2, ↓a_ixL2, ↓a_nopart, ↓a_part, ↓a_intE, ↓a_sl, ↓a_slT, ↓a_slL, ↓a_lenT, ↓a_lenL, ↓a_lenM, ↓a_call, ↓a_for, ↓a_rg1, ↓a_rg1E, ↓a_seqI, ↓a_seqT, ↓a_seqL, ↓a_seqV, ↓a_comp, ↓a_compM, ↓a_emp, ↓a_tupL, ↓a_tupT, ↓a_lstL, ↓a_lstT, ↓a_yes, ↓a_ixV, ↓a_addV, ↓a_slV1, ↓a_slV2, ↓a_lenV, ↓a_ixN0, ↓a_ixN1, ↓a_ixN2, ↓a_ixP0, ↓a_ixP1, ↓a_ixK, ↓a_gP, ↓a_gN, ↓a_gl2, ↓a_gl3, ↓a_subI, ↓a_app, ↓a_refE, ↓a_ixTn0, ↓a_ixTn1, ↓a_ixTn2, ↓a_lstMN, ↓a_att, ↓a_zipB, ↓a_ltT, ↓a_abs, ↓a_lstRg, ↓a_tupRg, ↓a_r1, ↓a_r2, ↓a_r2E, ↓a_int1I, ↓a_int1B, ↓a_rg2, ↓a_i2E, ↓a_l2E, ↓a_l3E, ↓a_chain, ↓a_wipe0, ↓a_wipe1, ↓a_raise, ↓a_err, ↓a_errE, ↓a_par, ↓a_par3, ↓a_rem, ↓a_try, ↓a_callS, ↓a_slV3, ↓a_slV4, ↓a_lstV, ↓a_lstMV, ↓a_zip, ↓a_zipLL, ↓a_zipVV, ↓a_tab2, ↓a_make, ↓a_meth, ↓a_binI, ↓a_binJ, ↓a_binK, ↓a_negI, ↓a_sfld, ↓a_aug, ↓a_ipI, ↓a_ipII, ↓a_ipIJ, a_addT, a_ixT0, a_ixT1, a_ixT2, a_slT, a_lenT, a_seqT, a_seqV, a_lstT, a_ixV, a_addV, a_slV1, a_slV2, a_lenV, a_ixN0, a_ixN1, a_ixN2, a_ixP0, a_ixP1, a_ixK, a_gP, a_gN, a_mm, a_ixTn0, a_ixTn1, a_ixTn2, a_ltT, a_slV3, a_slV4, a_lstV, f_loop, f_nest, f_vec1, f_cut1, f_cut2, f_cut3, f_cut4, f_map1, f_map2, f_cnt, f_stp, p_addVT, p_addTV, ↓startD, ↓List.map_cons, ↓List.map_nil, List.length_cons, List.length_nil, Nat.reduceAdd, Nat.reduceSub, Nat.reduceLeDiff, Int.reducePow, Int.reduceNeg, Int.reduceLE, Int.reduceLT, List.replicate, ↓List.cons_append, ↓List.nil_append, List.set_cons_zero, List.set_cons_succ, true_and, and_true, ↓reduceIte, Bool.not_true, Bool.not_false, decide_true, decide_false, Bool.false_eq_true, if_false]
  rw [hn]
  refine ⟨powSm (by decide) (by decide) (by decide), ?_⟩
  refine draw_x (by decide) (by decide) (by omega) hP1 fun k μ4 k0 k1 s4 hP4 => ?_
  refine pick2_of k0 k1 fun w hw => ?_
  have w0 : 1 ≤ w := by rcases hw with rfl | rfl <;> decide
  have w1 : w ≤ 10 ^ 40 := by rcases hw with rfl | rfl <;> decide
  try simp only [↓a_seq, ↓a_next, ↓a_brk, ↓a_cont, ↓a_ifS, ↓a_ret, ↓a_retN, ↓a_drop, ↓a_asg, ↓a_name, ↓a_gnil, ↓a_gcons, ↓a_gtup2, ↓a_gtup3, ↓a_var0, ↓a_varS, ↓a_c, ↓a_op, ↓a_un, ↓a_nil, ↓a_cons, ↓a_cb, ↓a_tup, ↓a_lst, ↓a_lstM, ↓a_ife, ↓a_test, ↓a_and, ↓a_or, ↓a_not, ↓a_andV, ↓a_orV, ↓a_notV, ↓a_bl, ↓a_if1, ↓a_if0, ↓a_int, ↓a_int0, ↓a_addI, ↓a_addT, ↓a_addL, ↓a_addS, ↓a_mulI, ↓a_neg, ↓a_eqI, ↓a_isN, ↓a_ixT0, ↓a_ixL0, ↓a_ixT1, ↓a_ixL1, ↓a_ixT2, ↓a_ixL2, ↓a_nopart, ↓a_part, ↓a_intE, ↓a_sl, ↓a_slT, ↓a_slL, ↓a_lenT, ↓a_lenL, ↓a_lenM, ↓a_call, ↓a_for, ↓a_rg1, ↓a_rg1E, ↓a_seqI, ↓a_seqT, ↓a_seqL, ↓a_seqV, ↓a_comp, ↓a_compM, ↓a_emp, ↓a_tupL, ↓a_tupT, ↓a_lstL, ↓a_lstT, ↓a_yes, ↓a_ixV, ↓a_addV, ↓a_slV1, ↓a_slV2, ↓a_lenV, ↓a_ixN0, ↓a_ixN1, ↓a_ixN2, ↓a_ixP0, ↓a_ixP1, ↓a_ixK, ↓a_gP, ↓a_gN, ↓a_gl2, ↓a_gl3, ↓a_subI, ↓a_app, ↓a_refE, ↓a_ixTn0, ↓a_ixTn1, ↓a_ixTn2, ↓a_lstMN, ↓a_att, ↓a_zipB, ↓a_ltT, ↓a_abs, ↓a_lstRg, ↓a_tupRg, ↓a_r1, ↓a_r2, ↓a_r2E, ↓a_int1I, ↓a_int1B, ↓a_rg2, ↓a_i2E, ↓a_l2E, ↓a_l3E, ↓a_chain, ↓a_wipe0, ↓a_wipe1, ↓a_raise, ↓a_err, ↓a_errE, ↓a_par, ↓a_par3, ↓a_rem, ↓a_try, ↓a_callS, ↓a_slV3, ↓a_slV4, ↓a_lstV, ↓a_lstMV, ↓a_zip, ↓a_zipLL, ↓a_zipVV, ↓a_tab2, ↓a_make, ↓a_meth, ↓a_binI, ↓a_binJ, ↓a_binK, ↓a_negI, ↓a_sfld, ↓a_aug, ↓a_ipI, ↓a_ipII, ↓a_ipIJ, a_addT, a_ixT0, a_ixT1, a_ixT2, a_slT, a_lenT, a_seqT, a_seqV, a_lstT, a_ixV, a_addV, a_slV1, a_slV2, a_lenV, a_ixN0, a_ixN1, a_ixN2, a_ixP0, a_ixP1, a_ixK, a_gP, a_gN, a_mm, a_ixTn0, a_ixTn1, a_ixTn2, a_ltT, a_slV3, a_slV4, a_lstV, f_loop, f_nest, f_vec1, f_cut1, f_cut2, f_cut3, f_cut4, f_map1, f_map2, f_cnt, f_stp, p_addVT, p_addTV, ↓startD, ↓List.map_cons, ↓List.map_nil, List.length_cons, List.length_nil, Nat.reduceAdd, Nat.reduceSub, Nat.reduceLeDiff, Int.reducePow, Int.reduceNeg, Int.reduceLE, Int.reduceLT, List.replicate, ↓List.cons_append, ↓List.nil_append, List.set_cons_zero, List.set_cons_succ, true_and, and_true, ↓reduceIte, Bool.not_true, Bool.not_false, decide_true, decide_false, Bool.false_eq_true, if_false]
  refine draw_x (by decide) (by decide) (by omega) hP4 fun j μ5 j0 j1 s5 hP5 => ?_
  refine ⟨j, rfl, by omega, by omega, fun c hc => ?_⟩
  have ne : a ≠ c := by
    rintro rfl
    obtain ⟨p0, p1, p2, h, _⟩ := hP5
    rw [hc] at h
    cases h
  refine draw_nests (a := a) (n := n) (cc := w) (B := 102000) (fun x μ' L h => ?_) ne n3 w0 w1 (by omega) (fun Ns μ6 hN hNl hP6 => ?_) (rgD 0 j.toNat) [] 100030 _ (by rw [rgD_length]; show _ + 0 ≤ 5; omega) (by rw [rgD_length]; omega) (by simp) mup_same ((hP5.up ne).mono (by omega))
  · try simp only [↓a_seq, ↓a_next, ↓a_brk, ↓a_cont, ↓a_ifS, ↓a_ret, ↓a_retN, ↓a_drop, ↓a_asg, ↓a_name, ↓a_gnil, ↓a_gcons, ↓a_gtup2, ↓a_gtup3, ↓a_var0, ↓a_varS, ↓a_c, ↓a_op, ↓a_un, ↓a_nil, ↓a_cons, ↓a_cb, ↓a_tup, ↓a_lst, ↓a_lstM, ↓a_ife, ↓a_test, ↓a_and, ↓a_or, ↓a_not, ↓a_andV, ↓a_orV, ↓a_notV, ↓a_bl, ↓a_if1, ↓a_if0, ↓a_int, ↓a_int0, ↓a_addI, ↓a_addT, ↓a_addL, ↓a_addS, ↓a_mulI, ↓a_neg, ↓a_eqI, ↓a_isN, ↓a_ixT0, ↓a_ixL0, ↓a_ixT1, ↓a_ixL1, ↓a_ixT2, ↓a_ixL2, ↓a_nopart, ↓a_part, ↓a_intE, ↓a_sl, ↓a_slT, ↓a_slL, ↓a_lenT, ↓a_lenL, ↓a_lenM, ↓a_call, ↓a_for, ↓a_rg1, ↓a_rg1E, ↓a_seqI, ↓a_seqT, ↓a_seqL, ↓a_seqV, ↓a_comp, ↓a_compM, ↓a_emp, ↓a_tupL, ↓a_tupT, ↓a_lstL, ↓a_lstT, ↓a_yes, ↓a_ixV, ↓a_addV, ↓a_slV1, ↓a_slV2, ↓a_lenV, ↓a_ixN0, ↓a_ixN1, ↓a_ixN2, ↓a_ixP0, ↓a_ixP1, ↓a_ixK, ↓a_gP, ↓a_gN, ↓a_gl2, ↓a_gl3, ↓a_subI, ↓a_app, ↓a_refE, ↓a_ixTn0, ↓a_ixTn1, ↓a_ixTn2, ↓a_lstMN, ↓a_att, ↓a_zipB, ↓a_ltT, ↓a_abs, ↓a_lstRg, ↓a_tupRg, ↓a_r1, ↓a_r2, ↓a_r2E, ↓a_int1I, ↓a_int1B, ↓a_rg2, ↓a_i2E, ↓a_l2E, ↓a_l3E, ↓a_chain, ↓a_wipe0, ↓a_wipe1, ↓a_raise, ↓a_err, ↓a_errE, ↓a_par, ↓a_par3, ↓a_rem, ↓a_try, ↓a_callS, ↓a_slV3, ↓a_slV4, ↓a_lstV, ↓a_lstMV, ↓a_zip, ↓a_zipLL, ↓a_zipVV, ↓a_tab2, ↓a_make, ↓a_meth, ↓a_binI, ↓a_binJ, ↓a_binK, ↓a_negI, ↓a_sfld, ↓a_aug, ↓a_ipI, ↓a_ipII, ↓a_ipIJ, a_addT, a_ixT0, a_ixT1, a_ixT2, a_slT, a_lenT, a_seqT, a_seqV, a_lstT, a_ixV, a_addV, a_slV1, a_slV2, a_lenV, a_ixN0, a_ixN1, a_ixN2, a_ixP0, a_ixP1, a_ixK, a_gP, a_gN, a_mm, a_ixTn0, a_ixTn1, a_ixTn2, a_ltT, a_slV3, a_slV4, a_lstV, f_loop, f_nest, f_vec1, f_cut1, f_cut2, f_cut3, f_cut4, f_map1, f_map2, f_cnt, f_stp, p_addVT, p_addTV, ↓startD, ↓List.map_cons, ↓List.map_nil, List.length_cons, List.length_nil, Nat.reduceAdd, Nat.reduceSub, Nat.reduceLeDiff, Int.reducePow, Int.reduceNeg, Int.reduceLE, Int.reduceLT, List.replicate, ↓List.cons_append, ↓List.nil_append, List.set_cons_zero, List.set_cons_succ, true_and, and_true, ↓reduceIte, Bool.not_true, Bool.not_false, decide_true, decide_false, Bool.false_eq_true, if_false]
    exact h
  try simp only [↓a_seq, ↓a_next, ↓a_brk, ↓a_cont, ↓a_ifS, ↓a_ret, ↓a_retN, ↓a_drop, ↓a_asg, ↓a_name, ↓a_gnil, ↓a_gcons, ↓a_gtup2, ↓a_gtup3, ↓a_var0, ↓a_varS, ↓a_c, ↓a_op, ↓a_un, ↓a_nil, ↓a_cons, ↓a_cb, ↓a_tup, ↓a_lst, ↓a_lstM, ↓a_ife, ↓a_test, ↓a_and, ↓a_or, ↓a_not, ↓a_andV, ↓a_orV, ↓a_notV, ↓a_bl, ↓a_if1, ↓a_if0, ↓a_int, ↓a_int0, ↓a_addI, ↓a_addT, ↓a_addL, ↓a_addS, ↓a_mulI, ↓a_neg, ↓a_eqI, ↓a_isN, ↓a_ixT0, ↓a_ixL0, ↓a_ixT1, ↓a_ixL1, ↓a_ixT2, ↓a_ixL2, ↓a_nopart, ↓a_part, ↓a_intE, ↓a_sl, ↓a_slT, ↓a_slL, ↓a_lenT, ↓a_lenL, ↓a_lenM, ↓a_call, ↓a_for, ↓a_rg1, ↓a_rg1E, ↓a_seqI, ↓a_seqT, ↓a_seqL, ↓a_seqV, ↓a_comp, ↓a_compM, ↓a_emp, ↓a_tupL, ↓a_tupT, ↓a_lstL, ↓a_lstT, ↓a_yes, ↓a_ixV, ↓a_addV, ↓a_slV1, ↓a_slV2, ↓a_lenV, ↓a_ixN0, ↓a_ixN1, ↓a_ixN2, ↓a_ixP0, ↓a_ixP1, ↓a_ixK, ↓a_gP, ↓a_gN, ↓a_gl2, ↓a_gl3, ↓a_subI, ↓a_app, ↓a_refE, ↓a_ixTn0, ↓a_ixTn1, ↓a_ixTn2, ↓a_lstMN, ↓a_att, ↓a_zipB, ↓a_ltT, ↓a_abs, ↓a_lstRg, ↓a_tupRg, ↓a_r1, ↓a_r2, ↓a_r2E, ↓a_int1I, ↓a_int1B, ↓a_rg2, ↓a_i2E, ↓a_l2E, ↓a_l3E, ↓a_chain, ↓a_wipe0, ↓a_wipe1, ↓a_raise, ↓a_err, ↓a_errE, ↓a_par, ↓a_par3, ↓a_rem, ↓a_try, ↓a_callS, ↓a_slV3, ↓a_slV4, ↓a_lstV, ↓a_lstMV, ↓a_zip, ↓a_zipLL, ↓a_zipVV, ↓a_tab2, ↓a_make, ↓a_meth, ↓a_binI, ↓a_binJ, ↓a_binK, ↓a_negI, ↓a_sfld, ↓a_aug, ↓a_ipI, ↓a_ipII, ↓a_ipIJ, a_addT, a_ixT0, a_ixT1, a_ixT2, a_slT, a_lenT, a_seqT, a_seqV, a_lstT, a_ixV, a_addV, a_slV1, a_slV2, a_lenV, a_ixN0, a_ixN1, a_ixN2, a_ixP0, a_ixP1, a_ixK, a_gP, a_gN, a_mm, a_ixTn0, a_ixTn1, a_ixTn2, a_ltT, a_slV3, a_slV4, a_lstV, f_loop, f_nest, f_vec1, f_cut1, f_cut2, f_cut3, f_cut4, f_map1, f_map2, f_cnt, f_stp, p_addVT, p_addTV, ↓startD, ↓List.map_cons, ↓List.map_nil, List.length_cons, List.length_nil, Nat.reduceAdd, Nat.reduceSub, Nat.reduceLeDiff, Int.reducePow, Int.reduceNeg, Int.reduceLE, Int.reduceLT, List.replicate, ↓List.cons_append, ↓List.nil_append, List.set_cons_zero, List.set_cons_succ, true_and, and_true, ↓reduceIte, Bool.not_true, Bool.not_false, decide_true, decide_false, Bool.false_eq_true, if_false]
  refine draw_x (by decide) (by decide) (by omega) hP6 fun j μ7 j0 j1 s5 hP7 => ?_
  refine ⟨j, rfl, by omega, by omega, fun c hc => ?_⟩
  have ne : a ≠ c := by
    rintro rfl
    obtain ⟨p0, p1, p2, h, _⟩ := hP7
    rw [hc] at h
    cases h
  refine draw_nests (a := a) (n := n) (cc := w) (B := 104000) (fun x μ' L h => ?_) ne n3 w0 w1 (by omega) (fun Ms μ8 hM hMl hP8 => ?_) (rgD 0 j.toNat) [] 102010 _ (by rw [rgD_length]; show _ + 0 ≤ 5; omega) (by rw [rgD_length]; omega) (by simp) mup_same ((hP7.up ne).mono (by omega))
  · try simp only [↓a_seq, ↓a_next, ↓a_brk, ↓a_cont, ↓a_ifS, ↓a_ret, ↓a_retN, ↓a_drop, ↓a_asg, ↓a_name, ↓a_gnil, ↓a_gcons, ↓a_gtup2, ↓a_gtup3, ↓a_var0, ↓a_varS, ↓a_c, ↓a_op, ↓a_un, ↓a_nil, ↓a_cons, ↓a_cb, ↓a_tup, ↓a_lst, ↓a_lstM, ↓a_ife, ↓a_test, ↓a_and, ↓a_or, ↓a_not, ↓a_andV, ↓a_orV, ↓a_notV, ↓a_bl, ↓a_if1, ↓a_if0, ↓a_int, ↓a_int0, ↓a_addI, ↓a_addT, ↓a_addL, ↓a_addS, ↓a_mulI, ↓a_neg, ↓a_eqI, ↓a_isN, ↓a_ixT0, ↓a_ixL0, ↓a_ixT1, ↓a_ixL1, ↓a_ixT2, ↓a_ixL2, ↓a_nopart, ↓a_part, ↓a_intE, ↓a_sl, ↓a_slT, ↓a_slL, ↓a_lenT, ↓a_lenL, ↓a_lenM, ↓a_call, ↓a_for, ↓a_rg1, ↓a_rg1E, ↓a_seqI, ↓a_seqT, ↓a_seqL, ↓a_seqV, ↓a_comp, ↓a_compM, ↓a_emp, ↓a_tupL, ↓a_tupT, ↓a_lstL, ↓a_lstT, ↓a_yes, ↓a_ixV, ↓a_addV, ↓a_slV1, ↓a_slV2, ↓a_lenV, ↓a_ixN0, ↓a_ixN1, ↓a_ixN2, ↓a_ixP0, ↓a_ixP1, ↓a_ixK, ↓a_gP, ↓a_gN, ↓a_gl2, ↓a_gl3, ↓a_subI, ↓a_app, ↓a_refE, ↓a_ixTn0, ↓a_ixTn1, ↓a_ixTn2, ↓a_lstMN, ↓a_att, ↓a_zipB, ↓a_ltT, ↓a_abs, ↓a_lstRg, ↓a_tupRg, ↓a_r1, ↓a_r2, ↓a_r2E, ↓a_int1I, ↓a_int1B, ↓a_rg2, ↓a_i2E, ↓a_l2E, ↓a_l3E, ↓a_chain, ↓a_wipe0, ↓a_wipe1, ↓a_raise, ↓a_err, ↓a_errE, ↓a_par, ↓a_par3, ↓a_rem, ↓a_try, ↓a_callS, ↓a_slV3, ↓a_slV4, ↓a_lstV, ↓a_lstMV, ↓a_zip, ↓a_zipLL, ↓a_zipVV, ↓a_tab2, ↓a_make, ↓a_meth, ↓a_binI, ↓a_binJ, ↓a_binK, ↓a_negI, ↓a_sfld, ↓a_aug, ↓a_ipI, ↓a_ipII, ↓a_ipIJ, a_addT, a_ixT0, a_ixT1, a_ixT2, a_slT, a_lenT, a_seqT, a_seqV, a_lstT, a_ixV, a_addV, a_slV1, a_slV2, a_lenV, a_ixN0, a_ixN1, a_ixN2, a_ixP0, a_ixP1, a_ixK, a_gP, a_gN, a_mm, a_ixTn0, a_ixTn1, a_ixTn2, a_ltT, a_slV3, a_slV4, a_lstV, f_loop, f_nest, f_vec1, f_cut1, f_cut2, f_cut3, f_cut4, f_map1, f_map2, f_cnt, f_stp, p_addVT, p_addTV, ↓startD, ↓List.map_cons, ↓List.map_nil, List.length_cons, List.length_nil, Nat.reduceAdd, Nat.reduceSub, Nat.reduceLeDiff, Int.reducePow, Int.reduceNeg, Int.reduceLE, Int.reduceLT, List.replicate, ↓List.cons_append, ↓List.nil_append, List.set_cons_zero, List.set_cons_succ, true_and, and_true, ↓reduceIte, Bool.not_true, Bool.not_false, decide_true, decide_false, Bool.false_eq_true, if_false]
    exact h
  try simp only [↓a_seq, ↓a_next, ↓a_brk, ↓a_cont, ↓a_ifS, ↓a_ret, ↓a_retN, ↓a_drop, ↓a_asg, ↓a_name, ↓a_gnil, ↓a_gcons, ↓a_gtup2, ↓a_gtup3, ↓a_var0, ↓a_varS, ↓a_c, ↓a_op, ↓a_un, ↓a_nil, ↓a_cons, ↓a_cb, ↓a_tup, ↓a_lst, ↓a_lstM, ↓a_ife, ↓a_test, ↓a_and, ↓a_or, ↓a_not, ↓a_andV, ↓a_orV, ↓a_notV, ↓a_bl, ↓a_if1, ↓a_if0, ↓a_int, ↓a_int0, ↓a_addI, ↓a_addT, ↓a_addL, ↓a_addS, ↓a_mulI, ↓a_neg, ↓a_eqI, ↓a_isN, ↓a_ixT0, ↓a_ixL0, ↓a_ixT1, ↓a_ixL1, ↓a_ixT2, ↓a_ixL2, ↓a_nopart, ↓a_part, ↓a_intE, ↓a_sl, ↓a_slT, ↓a_slL, ↓a_lenT, ↓a_lenL, ↓a_lenM, ↓a_call, ↓a_for, ↓a_rg1, ↓a_rg1E, ↓a_seqI, ↓a_seqT, ↓a_seqL, ↓a_seqV, ↓a_comp, ↓a_compM, ↓a_emp, ↓a_tupL, ↓a_tupT, ↓a_lstL, ↓a_lstT, ↓a_yes, ↓a_ixV, ↓a_addV, ↓a_slV1, ↓a_slV2, ↓a_lenV, ↓a_ixN0, ↓a_ixN1, ↓a_ixN2, ↓a_ixP0, ↓a_ixP1, ↓a_ixK, ↓a_gP, ↓a_gN, ↓a_gl2, ↓a_gl3, ↓a_subI, ↓a_app, ↓a_refE, ↓a_ixTn0, ↓a_ixTn1, ↓a_ixTn2, ↓a_lstMN, ↓a_att, ↓a_zipB, ↓a_ltT, ↓a_abs, ↓a_lstRg, ↓a_tupRg, ↓a_r1, ↓a_r2, ↓a_r2E, ↓a_int1I, ↓a_int1B, ↓a_rg2, ↓a_i2E, ↓a_l2E, ↓a_l3E, ↓a_chain, ↓a_wipe0, ↓a_wipe1, ↓a_raise, ↓a_err, ↓a_errE, ↓a_par, ↓a_par3, ↓a_rem, ↓a_try, ↓a_callS, ↓a_slV3, ↓a_slV4, ↓a_lstV, ↓a_lstMV, ↓a_zip, ↓a_zipLL, ↓a_zipVV, ↓a_tab2, ↓a_make, ↓a_meth, ↓a_binI, ↓a_binJ, ↓a_binK, ↓a_negI, ↓a_sfld, ↓a_aug, ↓a_ipI, ↓a_ipII, ↓a_ipIJ, a_addT, a_ixT0, a_ixT1, a_ixT2, a_slT, a_lenT, a_seqT, a_seqV, a_lstT, a_ixV, a_addV, a_slV1, a_slV2, a_lenV, a_ixN0, a_ixN1, a_ixN2, a_ixP0, a_ixP1, a_ixK, a_gP, a_gN, a_mm, a_ixTn0, a_ixTn1, a_ixTn2, a_ltT, a_slV3, a_slV4, a_lstV, f_loop, f_nest, f_vec1, f_cut1, f_cut2, f_cut3, f_cut4, f_map1, f_map2, f_cnt, f_stp, p_addVT, p_addTV, ↓startD, ↓List.map_cons, ↓List.map_nil, List.length_cons, List.length_nil, Nat.reduceAdd, Nat.reduceSub, Nat.reduceLeDiff, Int.reducePow, Int.reduceNeg, Int.reduceLE, Int.reduceLT, List.replicate, ↓List.cons_append, ↓List.nil_append, List.set_cons_zero, List.set_cons_succ, true_and, and_true, ↓reduceIte, Bool.not_true, Bool.not_false, decide_true, decide_false, Bool.false_eq_true, if_false]
  have pN : PB n 5 3 8 3 Ns := ⟨n1, n3, hNl, hN⟩
  have pM : PB n 5 3 8 3 Ms := ⟨n1, n3, hMl, hM⟩
  refine ⟨a, n, _, Ns, Ms, rfl, pN, pM, by omega, hP8, fun μ9 _ hP9 => ?_⟩
  try simp only [↓a_seq, ↓a_next, ↓a_brk, ↓a_cont, ↓a_ifS, ↓a_ret, ↓a_retN, ↓a_drop, ↓a_asg, ↓a_name, ↓a_gnil, ↓a_gcons, ↓a_gtup2, ↓a_gtup3, ↓a_var0, ↓a_varS, ↓a_c, ↓a_op, ↓a_un, ↓a_nil, ↓a_cons, ↓a_cb, ↓a_tup, ↓a_lst, ↓a_lstM, ↓a_ife, ↓a_test, ↓a_and, ↓a_or, ↓a_not, ↓a_andV, ↓a_orV, ↓a_notV, ↓a_bl, ↓a_if1, ↓a_if0, ↓a_int, ↓a_int0, ↓a_addI, ↓a_addT, ↓a_addL, ↓a_addS, ↓a_mulI, ↓a_neg, ↓a_eqI, ↓a_isN, ↓a_ixT0, ↓a_ixL0, ↓a_ixT1, ↓a_ixL1, ↓a_ixT2, ↓a_ixL2, ↓a_nopart, ↓a_part, ↓a_intE, ↓a_sl, ↓a_slT, ↓a_slL, ↓a_lenT, ↓a_lenL, ↓a_lenM, ↓a_call, ↓a_for, ↓a_rg1, ↓a_rg1E, ↓a_seqI, ↓a_seqT, ↓a_seqL, ↓a_seqV, ↓a_comp, ↓a_compM, ↓a_emp, ↓a_tupL, ↓a_tupT, ↓a_lstL, ↓a_lstT, ↓a_yes, ↓a_ixV, ↓a_addV, ↓a_slV1, ↓a_slV2, ↓a_lenV, ↓a_ixN0, ↓a_ixN1, ↓a_ixN2, ↓a_ixP0, ↓a_ixP1, ↓a_ixK, ↓a_gP, ↓a_gN, ↓a_gl2, ↓a_gl3, ↓a_subI, ↓a_app, ↓a_refE, ↓a_ixTn0, ↓a_ixTn1, ↓a_ixTn2, ↓a_lstMN, ↓a_att, ↓a_zipB, ↓a_ltT, ↓a_abs, ↓a_lstRg, ↓a_tupRg, ↓a_r1, ↓a_r2, ↓a_r2E, ↓a_int1I, ↓a_int1B, ↓a_rg2, ↓a_i2E, ↓a_l2E, ↓a_l3E, ↓a_chain, ↓a_wipe0, ↓a_wipe1, ↓a_raise, ↓a_err, ↓a_errE, ↓a_par, ↓a_par3, ↓a_rem, ↓a_try, ↓a_callS, ↓a_slV3, ↓a_slV4, ↓a_lstV, ↓a_lstMV, ↓a_zip, ↓a_zipLL, ↓a_zipVV, ↓a_tab2, ↓a_make, ↓a_meth, ↓a_binI, ↓a_binJ, ↓a_binK, ↓a_negI, ↓a_sfld, ↓a_aug, ↓a_ipI, ↓a_ipII, ↓a_ipIJ, a_addT, a_ixT0, a_ixT1, a_ixT2, a_slT, a_lenT, a_seqT, a_seqV, a_lstT, a_ixV, a_addV, a_slV1, a_slV2, a_lenV, a_ixN0, a_ixN1, a_ixN2, a_ixP0, a_ixP1, a_ixK, a_gP, a_gN, a_mm, a_ixTn0, a_ixTn1, a_ixTn2, a_ltT, a_slV3, a_slV4, a_lstV, f_loop, f_nest, f_vec1, f_cut1, f_cut2, f_cut3, f_cut4, f_map1, f_map2, f_cnt, f_stp, p_addVT, p_addTV, ↓startD, ↓List.map_cons, ↓List.map_nil, List.length_cons, List.length_nil, Nat.reduceAdd, Nat.reduceSub, Nat.reduceLeDiff, Int.reducePow, Int.reduceNeg, Int.reduceLE, Int.reduceLT, List.replicate, ↓List.cons_append, ↓List.nil_append, List.set_cons_zero, List.set_cons_succ, true_and, and_true, ↓reduceIte, Bool.not_true, Bool.not_false, decide_true, decide_false, Bool.false_eq_true, if_false]
  refine ⟨a, n, _, Ms, Ns, rfl, pM, pN, by omega, hP9, fun μ10 _ hP10 => ?_⟩
  try simp only [↓a_seq, ↓a_next, ↓a_brk, ↓a_cont, ↓a_ifS, ↓a_ret, ↓a_retN, ↓a_drop, ↓a_asg, ↓a_name, ↓a_gnil, ↓a_gcons, ↓a_gtup2, ↓a_gtup3, ↓a_var0, ↓a_varS, ↓a_c, ↓a_op, ↓a_un, ↓a_nil, ↓a_cons, ↓a_cb, ↓a_tup, ↓a_lst, ↓a_lstM, ↓a_ife, ↓a_test, ↓a_and, ↓a_or, ↓a_not, ↓a_andV, ↓a_orV, ↓a_notV, ↓a_bl, ↓a_if1, ↓a_if0, ↓a_int, ↓a_int0, ↓a_addI, ↓a_addT, ↓a_addL, ↓a_addS, ↓a_mulI, ↓a_neg, ↓a_eqI, ↓a_isN, ↓a_ixT0, ↓a_ixL0, ↓a_ixT1, ↓a_ixL1, ↓a_ixT2, ↓a_ixL2, ↓a_nopart, ↓a_part, ↓a_intE, ↓a_sl, ↓a_slT, ↓a_slL, ↓a_lenT, ↓a_lenL, ↓a_lenM, ↓a_call, ↓a_for, ↓a_rg1, ↓a_rg1E, ↓a_seqI, ↓a_seqT, ↓a_seqL, ↓a_seqV, ↓a_comp, ↓a_compM, ↓a_emp, ↓a_tupL, ↓a_tupT, ↓a_lstL, ↓a_lstT, ↓a_yes, ↓a_ixV, ↓a_addV, ↓a_slV1, ↓a_slV2, ↓a_lenV, ↓a_ixN0, ↓a_ixN1, ↓a_ixN2, ↓a_ixP0, ↓a_ixP1, ↓a_ixK, ↓a_gP, ↓a_gN, ↓a_gl2, ↓a_gl3, ↓a_subI, ↓a_app, ↓a_refE, ↓a_ixTn0, ↓a_ixTn1, ↓a_ixTn2, ↓a_lstMN, ↓a_att, ↓a_zipB, ↓a_ltT, ↓a_abs, ↓a_lstRg, ↓a_tupRg, ↓a_r1, ↓a_r2, ↓a_r2E, ↓a_int1I, ↓a_int1B, ↓a_rg2, ↓a_i2E, ↓a_l2E, ↓a_l3E, ↓a_chain, ↓a_wipe0, ↓a_wipe1, ↓a_raise, ↓a_err, ↓a_errE, ↓a_par, ↓a_par3, ↓a_rem, ↓a_try, ↓a_callS, ↓a_slV3, ↓a_slV4, ↓a_lstV, ↓a_lstMV, ↓a_zip, ↓a_zipLL, ↓a_zipVV, ↓a_tab2, ↓a_make, ↓a_meth, ↓a_binI, ↓a_binJ, ↓a_binK, ↓a_negI, ↓a_sfld, ↓a_aug, ↓a_ipI, ↓a_ipII, ↓a_ipIJ, a_addT, a_ixT0, a_ixT1, a_ixT2, a_slT, a_lenT, a_seqT, a_seqV, a_lstT, a_ixV, a_addV, a_slV1, a_slV2, a_lenV, a_ixN0, a_ixN1, a_ixN2, a_ixP0, a_ixP1, a_ixK, a_gP, a_gN, a_mm, a_ixTn0, a_ixTn1, a_ixTn2, a_ltT, a_slV3, a_slV4, a_lstV, f_loop, f_nest, f_vec1, f_cut1, f_cut2, f_cut3, f_cut4, f_map1, f_map2, f_cnt, f_stp, p_addVT, p_addTV, ↓startD, ↓List.map_cons, ↓List.map_nil, List.length_cons, List.length_nil, Nat.reduceAdd, Nat.reduceSub, Nat.reduceLeDiff, Int.reducePow, Int.reduceNeg, Int.reduceLE, Int.reduceLT, List.replicate, ↓List.cons_append, ↓List.nil_append, List.set_cons_zero, List.set_cons_succ, true_and, and_true, ↓reduceIte, Bool.not_true, Bool.not_false, decide_true, decide_false, Bool.false_eq_true, if_false]
  have e3 : ((n : Int) % 3 + 1) = ((n % 3 + 1 : Nat) : Int) := by omega
  simp only [e3]
  have qF : POk (n % 3 + 1) [] := ⟨by omega, by omega, by simp, by simp⟩
  refine fun p hp => ⟨p, n % 3 + 1, [], rfl, mup_same, qF, rfl, _, mup_same, ?_⟩
  rw [mup_mup, mdel_mup hp]
  try simp only [↓a_seq, ↓a_next, ↓a_brk, ↓a_cont, ↓a_ifS, ↓a_ret, ↓a_retN, ↓a_drop, ↓a_asg, ↓a_name, ↓a_gnil, ↓a_gcons, ↓a_gtup2, ↓a_gtup3, ↓a_var0, ↓a_varS, ↓a_c, ↓a_op, ↓a_un, ↓a_nil, ↓a_cons, ↓a_cb, ↓a_tup, ↓a_lst, ↓a_lstM, ↓a_ife, ↓a_test, ↓a_and, ↓a_or, ↓a_not, ↓a_andV, ↓a_orV, ↓a_notV, ↓a_bl, ↓a_if1, ↓a_if0, ↓a_int, ↓a_int0, ↓a_addI, ↓a_addT, ↓a_addL, ↓a_addS, ↓a_mulI, ↓a_neg, ↓a_eqI, ↓a_isN, ↓a_ixT0, ↓a_ixL0, ↓a_ixT1, ↓a_ixL1, ↓a_ixT2, ↓a_ixL2, ↓a_nopart, ↓a_part, ↓a_intE, ↓a_sl, ↓a_slT, ↓a_slL, ↓a_lenT, ↓a_lenL, ↓a_lenM, ↓a_call, ↓a_for, ↓a_rg1, ↓a_rg1E, ↓a_seqI, ↓a_seqT, ↓a_seqL, ↓a_seqV, ↓a_comp, ↓a_compM, ↓a_emp, ↓a_tupL, ↓a_tupT, ↓a_lstL, ↓a_lstT, ↓a_yes, ↓a_ixV, ↓a_addV, ↓a_slV1, ↓a_slV2, ↓a_lenV, ↓a_ixN0, ↓a_ixN1, ↓a_ixN2, ↓a_ixP0, ↓a_ixP1, ↓a_ixK, ↓a_gP, ↓a_gN, ↓a_gl2, ↓a_gl3, ↓a_subI, ↓a_app, ↓a_refE, ↓a_ixTn0, ↓a_ixTn1, ↓a_ixTn2, ↓a_lstMN, ↓a_att, ↓a_zipB, ↓a_ltT, ↓a_abs, ↓a_lstRg, ↓a_tupRg, ↓a_r1, ↓a_r2, ↓a_r2E, ↓a_int1I, ↓a_int1B, ↓a_rg2, ↓a_i2E, ↓a_l2E, ↓a_l3E, ↓a_chain, ↓a_wipe0, ↓a_wipe1, ↓a_raise, ↓a_err, ↓a_errE, ↓a_par, ↓a_par3, ↓a_rem, ↓a_try, ↓a_callS, ↓a_slV3, ↓a_slV4, ↓a_lstV, ↓a_lstMV, ↓a_zip, ↓a_zipLL, ↓a_zipVV, ↓a_tab2, ↓a_make, ↓a_meth, ↓a_binI, ↓a_binJ, ↓a_binK, ↓a_negI, ↓a_sfld, ↓a_aug, ↓a_ipI, ↓a_ipII, ↓a_ipIJ, a_addT, a_ixT0, a_ixT1, a_ixT2, a_slT, a_lenT, a_seqT, a_seqV, a_lstT, a_ixV, a_addV, a_slV1, a_slV2, a_lenV, a_ixN0, a_ixN1, a_ixN2, a_ixP0, a_ixP1, a_ixK, a_gP, a_gN, a_mm, a_ixTn0, a_ixTn1, a_ixTn2, a_ltT, a_slV3, a_slV4, a_lstV, f_loop, f_nest, f_vec1, f_cut1, f_cut2, f_cut3, f_cut4, f_map1, f_map2, f_cnt, f_stp, p_addVT, p_addTV, ↓startD, ↓List.map_cons, ↓List.map_nil, List.length_cons, List.length_nil, Nat.reduceAdd, Nat.reduceSub, Nat.reduceLeDiff, Int.reducePow, Int.reduceNeg, Int.reduceLE, Int.reduceLT, List.replicate, ↓List.cons_append, ↓List.nil_append, List.set_cons_zero, List.set_cons_succ, true_and, and_true, ↓reduceIte, Bool.not_true, Bool.not_false, decide_true, decide_false, Bool.false_eq_true, if_false]
  have qN : POk n Ns := pN.ok (by decide) (by decide) (by decide) (by decide)
  have qT : POk n (Ns.map (timesN (-1))) := (pN.times (k := -1) (B := 1) (by decide)).ok (by decide) (by decide) (by decide) (by decide)
  have ne2 : n ≠ n % 3 + 1 := by omega
  refine loop_by (I := fun r ρ μ' => ∃ (y6 y9 : Option D), ρ = [some (D.scr K zs), some (.int i), some (.val (.ref a)), some (.int (n : Int)), some (.int w), some (.lst (Ns.map NestD.d)), y6, some (.lst (Ms.map NestD.d)), some (.ins T.C_Program (fieldsP (n % 3 + 1) [])), y9] ∧ ∀ k ∈ r, ∃ i : Int, k = .int i ∧ 0 ≤ i ∧ i ≤ 2) (fun _ _ _ _ => True.intro) ?_ ?_ _ _ _ ⟨_, _, rfl, fun k hk => ?_⟩
  rotate_left
  · rintro ρ μ1 ⟨y6, y9, rfl, _⟩
    exact hN1 _ _ ⟨_, _, _, _, _, _, _, _, _, rfl, fun k hk => hr k (List.mem_cons_of_mem _ hk)⟩
  · obtain ⟨j, hj, rfl⟩ := List.mem_map.1 hk
    have hj2 : j < 3 := List.mem_range.1 hj
    exact ⟨_, rfl, by omega, by omega⟩
  rintro x r2 ρ μ11 N2 ⟨y6, y9, rfl, hr2⟩ hN2
  obtain ⟨d, rfl, d0, d1⟩ := hr2 x List.mem_cons_self
  try simp only [↓a_seq, ↓a_next, ↓a_brk, ↓a_cont, ↓a_ifS, ↓a_ret, ↓a_retN, ↓a_drop, ↓a_asg, ↓a_name, ↓a_gnil, ↓a_gcons, ↓a_gtup2, ↓a_gtup3, ↓a_var0, ↓a_varS, ↓a_c, ↓a_op, ↓a_un, ↓a_nil, ↓a_cons, ↓a_cb, ↓a_tup, ↓a_lst, ↓a_lstM, ↓a_ife, ↓a_test, ↓a_and, ↓a_or, ↓a_not, ↓a_andV, ↓a_orV, ↓a_notV, ↓a_bl, ↓a_if1, ↓a_if0, ↓a_int, ↓a_int0, ↓a_addI, ↓a_addT, ↓a_addL, ↓a_addS, ↓a_mulI, ↓a_neg, ↓a_eqI, ↓a_isN, ↓a_ixT0, ↓a_ixL0, ↓a_ixT1, ↓a_ixL1, ↓a_ixT2, ↓a_ixL2, ↓a_nopart, ↓a_part, ↓a_intE, ↓a_sl, ↓a_slT, ↓a_slL, ↓a_lenT, ↓a_lenL, ↓a_lenM, ↓a_call, ↓a_for, ↓a_rg1, ↓a_rg1E, ↓a_seqI, ↓a_seqT, ↓a_seqL, ↓a_seqV, ↓a_comp, ↓a_compM, ↓a_emp, ↓a_tupL, ↓a_tupT, ↓a_lstL, ↓a_lstT, ↓a_yes, ↓a_ixV, ↓a_addV, ↓a_slV1, ↓a_slV2, ↓a_lenV, ↓a_ixN0, ↓a_ixN1, ↓a_ixN2, ↓a_ixP0, ↓a_ixP1, ↓a_ixK, ↓a_gP, ↓a_gN, ↓a_gl2, ↓a_gl3, ↓a_subI, ↓a_app, ↓a_refE, ↓a_ixTn0, ↓a_ixTn1, ↓a_ixTn2, ↓a_lstMN, ↓a_att, ↓a_zipB, ↓a_ltT, ↓a_abs, ↓a_lstRg, ↓a_tupRg, ↓a_r1, ↓a_r2, ↓a_r2E, ↓a_int1I, ↓a_int1B, ↓a_rg2, ↓a_i2E, ↓a_l2E, ↓a_l3E, ↓a_chain, ↓a_wipe0, ↓a_wipe1, ↓a_raise, ↓a_err, ↓a_errE, ↓a_par, ↓a_par3, ↓a_rem, ↓a_try, ↓a_callS, ↓a_slV3, ↓a_slV4, ↓a_lstV, ↓a_lstMV, ↓a_zip, ↓a_zipLL, ↓a_zipVV, ↓a_tab2, ↓a_make, ↓a_meth, ↓a_binI, ↓a_binJ, ↓a_binK, ↓a_negI, ↓a_sfld, ↓a_aug, ↓a_ipI, ↓a_ipII, ↓a_ipIJ, a_addT, a_ixT0, a_ixT1, a_ixT2, a_slT, a_lenT, a_seqT, a_seqV, a_lstT, a_ixV, a_addV, a_slV1, a_slV2, a_lenV, a_ixN0, a_ixN1, a_ixN2, a_ixP0, a_ixP1, a_ixK, a_gP, a_gN, a_mm, a_ixTn0, a_ixTn1, a_ixTn2, a_ltT, a_slV3, a_slV4, a_lstV, f_loop, f_nest, f_vec1, f_cut1, f_cut2, f_cut3, f_cut4, f_map1, f_map2, f_cnt, f_stp, p_addVT, p_addTV, ↓startD, ↓List.map_cons, ↓List.map_nil, List.length_cons, List.length_nil, Nat.reduceAdd, Nat.reduceSub, Nat.reduceLeDiff, Int.reducePow, Int.reduceNeg, Int.reduceLE, Int.reduceLT, List.replicate, ↓List.cons_append, ↓List.nil_append, List.set_cons_zero, List.set_cons_succ, true_and, and_true, ↓reduceIte, Bool.not_true, Bool.not_false, decide_true, decide_false, Bool.false_eq_true, if_false]
  refine fun p2 hp2 => ⟨p2, n, Ns, rfl, mup_same, qN, rfl, _, mup_same, ?_⟩
  rw [mup_mup, mdel_mup hp2]
  refine ⟨d, n, n % 3 + 1, Ns, [], rfl, d0, by omega, qN, qF, qF, ne2, ?_⟩
  try simp only [↓a_seq, ↓a_next, ↓a_brk, ↓a_cont, ↓a_ifS, ↓a_ret, ↓a_retN, ↓a_drop, ↓a_asg, ↓a_name, ↓a_gnil, ↓a_gcons, ↓a_gtup2, ↓a_gtup3, ↓a_var0, ↓a_varS, ↓a_c, ↓a_op, ↓a_un, ↓a_nil, ↓a_cons, ↓a_cb, ↓a_tup, ↓a_lst, ↓a_lstM, ↓a_ife, ↓a_test, ↓a_and, ↓a_or, ↓a_not, ↓a_andV, ↓a_orV, ↓a_notV, ↓a_bl, ↓a_if1, ↓a_if0, ↓a_int, ↓a_int0, ↓a_addI, ↓a_addT, ↓a_addL, ↓a_addS, ↓a_mulI, ↓a_neg, ↓a_eqI, ↓a_isN, ↓a_ixT0, ↓a_ixL0, ↓a_ixT1, ↓a_ixL1, ↓a_ixT2, ↓a_ixL2, ↓a_nopart, ↓a_part, ↓a_intE, ↓a_sl, ↓a_slT, ↓a_slL, ↓a_lenT, ↓a_lenL, ↓a_lenM, ↓a_call, ↓a_for, ↓a_rg1, ↓a_rg1E, ↓a_seqI, ↓a_seqT, ↓a_seqL, ↓a_seqV, ↓a_comp, ↓a_compM, ↓a_emp, ↓a_tupL, ↓a_tupT, ↓a_lstL, ↓a_lstT, ↓a_yes, ↓a_ixV, ↓a_addV, ↓a_slV1, ↓a_slV2, ↓a_lenV, ↓a_ixN0, ↓a_ixN1, ↓a_ixN2, ↓a_ixP0, ↓a_ixP1, ↓a_ixK, ↓a_gP, ↓a_gN, ↓a_gl2, ↓a_gl3, ↓a_subI, ↓a_app, ↓a_refE, ↓a_ixTn0, ↓a_ixTn1, ↓a_ixTn2, ↓a_lstMN, ↓a_att, ↓a_zipB, ↓a_ltT, ↓a_abs, ↓a_lstRg, ↓a_tupRg, ↓a_r1, ↓a_r2, ↓a_r2E, ↓a_int1I, ↓a_int1B, ↓a_rg2, ↓a_i2E, ↓a_l2E, ↓a_l3E, ↓a_chain, ↓a_wipe0, ↓a_wipe1, ↓a_raise, ↓a_err, ↓a_errE, ↓a_par, ↓a_par3, ↓a_rem, ↓a_try, ↓a_callS, ↓a_slV3, ↓a_slV4, ↓a_lstV, ↓a_lstMV, ↓a_zip, ↓a_zipLL, ↓a_zipVV, ↓a_tab2, ↓a_make, ↓a_meth, ↓a_binI, ↓a_binJ, ↓a_binK, ↓a_negI, ↓a_sfld, ↓a_aug, ↓a_ipI, ↓a_ipII, ↓a_ipIJ, a_addT, a_ixT0, a_ixT1, a_ixT2, a_slT, a_lenT, a_seqT, a_seqV, a_lstT, a_ixV, a_addV, a_slV1, a_slV2, a_lenV, a_ixN0, a_ixN1, a_ixN2, a_ixP0, a_ixP1, a_ixK, a_gP, a_gN, a_mm, a_ixTn0, a_ixTn1, a_ixTn2, a_ltT, a_slV3, a_slV4, a_lstV, f_loop, f_nest, f_vec1, f_cut1, f_cut2, f_cut3, f_cut4, f_map1, f_map2, f_cnt, f_stp, p_addVT, p_addTV, ↓startD, ↓List.map_cons, ↓List.map_nil, List.length_cons, List.length_nil, Nat.reduceAdd, Nat.reduceSub, Nat.reduceLeDiff, Int.reducePow, Int.reduceNeg, Int.reduceLE, Int.reduceLT, List.replicate, ↓List.cons_append, ↓List.nil_append, List.set_cons_zero, List.set_cons_succ, true_and, and_true, ↓reduceIte, Bool.not_true, Bool.not_false, decide_true, decide_false, Bool.false_eq_true, if_false]
  simp only [e3]
  refine repr_of (two_lv n3 qF.n3) rfl (eqStr ?_)
  try simp only [↓a_seq, ↓a_next, ↓a_brk, ↓a_cont, ↓a_ifS, ↓a_ret, ↓a_retN, ↓a_drop, ↓a_asg, ↓a_name, ↓a_gnil, ↓a_gcons, ↓a_gtup2, ↓a_gtup3, ↓a_var0, ↓a_varS, ↓a_c, ↓a_op, ↓a_un, ↓a_nil, ↓a_cons, ↓a_cb, ↓a_tup, ↓a_lst, ↓a_lstM, ↓a_ife, ↓a_test, ↓a_and, ↓a_or, ↓a_not, ↓a_andV, ↓a_orV, ↓a_notV, ↓a_bl, ↓a_if1, ↓a_if0, ↓a_int, ↓a_int0, ↓a_addI, ↓a_addT, ↓a_addL, ↓a_addS, ↓a_mulI, ↓a_neg, ↓a_eqI, ↓a_isN, ↓a_ixT0, ↓a_ixL0, ↓a_ixT1, ↓a_ixL1, ↓a_ixT2, ↓a_ixL2, ↓a_nopart, ↓a_part, ↓a_intE, ↓a_sl, ↓a_slT, ↓a_slL, ↓a_lenT, ↓a_lenL, ↓a_lenM, ↓a_call, ↓a_for, ↓a_rg1, ↓a_rg1E, ↓a_seqI, ↓a_seqT, ↓a_seqL, ↓a_seqV, ↓a_comp, ↓a_compM, ↓a_emp, ↓a_tupL, ↓a_tupT, ↓a_lstL, ↓a_lstT, ↓a_yes, ↓a_ixV, ↓a_addV, ↓a_slV1, ↓a_slV2, ↓a_lenV, ↓a_ixN0, ↓a_ixN1, ↓a_ixN2, ↓a_ixP0, ↓a_ixP1, ↓a_ixK, ↓a_gP, ↓a_gN, ↓a_gl2, ↓a_gl3, ↓a_subI, ↓a_app, ↓a_refE, ↓a_ixTn0, ↓a_ixTn1, ↓a_ixTn2, ↓a_lstMN, ↓a_att, ↓a_zipB, ↓a_ltT, ↓a_abs, ↓a_lstRg, ↓a_tupRg, ↓a_r1, ↓a_r2, ↓a_r2E, ↓a_int1I, ↓a_int1B, ↓a_rg2, ↓a_i2E, ↓a_l2E, ↓a_l3E, ↓a_chain, ↓a_wipe0, ↓a_wipe1, ↓a_raise, ↓a_err, ↓a_errE, ↓a_par, ↓a_par3, ↓a_rem, ↓a_try, ↓a_callS, ↓a_slV3, ↓a_slV4, ↓a_lstV, ↓a_lstMV, ↓a_zip, ↓a_zipLL, ↓a_zipVV, ↓a_tab2, ↓a_make, ↓a_meth, ↓a_binI, ↓a_binJ, ↓a_binK, ↓a_negI, ↓a_sfld, ↓a_aug, ↓a_ipI, ↓a_ipII, ↓a_ipIJ, a_addT, a_ixT0, a_ixT1, a_ixT2, a_slT, a_lenT, a_seqT, a_seqV, a_lstT, a_ixV, a_addV, a_slV1, a_slV2, a_lenV, a_ixN0, a_ixN1, a_ixN2, a_ixP0, a_ixP1, a_ixK, a_gP, a_gN, a_mm, a_ixTn0, a_ixTn1, a_ixTn2, a_ltT, a_slV3, a_slV4, a_lstV, f_loop, f_nest, f_vec1, f_cut1, f_cut2, f_cut3, f_cut4, f_map1, f_map2, f_cnt, f_stp, p_addVT, p_addTV, ↓startD, ↓List.map_cons, ↓List.map_nil, List.length_cons, List.length_nil, Nat.reduceAdd, Nat.reduceSub, Nat.reduceLeDiff, Int.reducePow, Int.reduceNeg, Int.reduceLE, Int.reduceLT, List.replicate, ↓List.cons_append, ↓List.nil_append, List.set_cons_zero, List.set_cons_succ, true_and, and_true, ↓reduceIte, Bool.not_true, Bool.not_false, decide_true, decide_false, Bool.false_eq_true, if_false]
  refine fun p3 hp3 => ⟨p3, n, Ns, rfl, mup_same, qN, rfl, _, mup_same, ?_⟩
  rw [mup_mup, mdel_mup hp3]
  refine ⟨d, n % 3 + 1, n, [], Ns, rfl, d0, by omega, qF, qN, qT, ne2.symm, ?_⟩
  try simp only [↓a_seq, ↓a_next, ↓a_brk, ↓a_cont, ↓a_ifS, ↓a_ret, ↓a_retN, ↓a_drop, ↓a_asg, ↓a_name, ↓a_gnil, ↓a_gcons, ↓a_gtup2, ↓a_gtup3, ↓a_var0, ↓a_varS, ↓a_c, ↓a_op, ↓a_un, ↓a_nil, ↓a_cons, ↓a_cb, ↓a_tup, ↓a_lst, ↓a_lstM, ↓a_ife, ↓a_test, ↓a_and, ↓a_or, ↓a_not, ↓a_andV, ↓a_orV, ↓a_notV, ↓a_bl, ↓a_if1, ↓a_if0, ↓a_int, ↓a_int0, ↓a_addI, ↓a_addT, ↓a_addL, ↓a_addS, ↓a_mulI, ↓a_neg, ↓a_eqI, ↓a_isN, ↓a_ixT0, ↓a_ixL0, ↓a_ixT1, ↓a_ixL1, ↓a_ixT2, ↓a_ixL2, ↓a_nopart, ↓a_part, ↓a_intE, ↓a_sl, ↓a_slT, ↓a_slL, ↓a_lenT, ↓a_lenL, ↓a_lenM, ↓a_call, ↓a_for, ↓a_rg1, ↓a_rg1E, ↓a_seqI, ↓a_seqT, ↓a_seqL, ↓a_seqV, ↓a_comp, ↓a_compM, ↓a_emp, ↓a_tupL, ↓a_tupT, ↓a_lstL, ↓a_lstT, ↓a_yes, ↓a_ixV, ↓a_addV, ↓a_slV1, ↓a_slV2, ↓a_lenV, ↓a_ixN0, ↓a_ixN1, ↓a_ixN2, ↓a_ixP0, ↓a_ixP1, ↓a_ixK, ↓a_gP, ↓a_gN, ↓a_gl2, ↓a_gl3, ↓a_subI, ↓a_app, ↓a_refE, ↓a_ixTn0, ↓a_ixTn1, ↓a_ixTn2, ↓a_lstMN, ↓a_att, ↓a_zipB, ↓a_ltT, ↓a_abs, ↓a_lstRg, ↓a_tupRg, ↓a_r1, ↓a_r2, ↓a_r2E, ↓a_int1I, ↓a_int1B, ↓a_rg2, ↓a_i2E, ↓a_l2E, ↓a_l3E, ↓a_chain, ↓a_wipe0, ↓a_wipe1, ↓a_raise, ↓a_err, ↓a_errE, ↓a_par, ↓a_par3, ↓a_rem, ↓a_try, ↓a_callS, ↓a_slV3, ↓a_slV4, ↓a_lstV, ↓a_lstMV, ↓a_zip, ↓a_zipLL, ↓a_zipVV, ↓a_tab2, ↓a_make, ↓a_meth, ↓a_binI, ↓a_binJ, ↓a_binK, ↓a_negI, ↓a_sfld, ↓a_aug, ↓a_ipI, ↓a_ipII, ↓a_ipIJ, a_addT, a_ixT0, a_ixT1, a_ixT2, a_slT, a_lenT, a_seqT, a_seqV, a_lstT, a_ixV, a_addV, a_slV1, a_slV2, a_lenV, a_ixN0, a_ixN1, a_ixN2, a_ixP0, a_ixP1, a_ixK, a_gP, a_gN, a_mm, a_ixTn0, a_ixTn1, a_ixTn2, a_ltT, a_slV3, a_slV4, a_lstV, f_loop, f_nest, f_vec1, f_cut1, f_cut2, f_cut3, f_cut4, f_map1, f_map2, f_cnt, f_stp, p_addVT, p_addTV, ↓startD, ↓List.map_cons, ↓List.map_nil, List.length_cons, List.length_nil, Nat.reduceAdd, Nat.reduceSub, Nat.reduceLeDiff, Int.reducePow, Int.reduceNeg, Int.reduceLE, Int.reduceLT, List.replicate, ↓List.cons_append, ↓List.nil_append, List.set_cons_zero, List.set_cons_succ, true_and, and_true, ↓reduceIte, Bool.not_true, Bool.not_false, decide_true, decide_false, Bool.false_eq_true, if_false]
  refine repr_of (two_lv qF.n3 n3) rfl (eqStr ?_)
  try simp only [↓a_seq, ↓a_next, ↓a_brk, ↓a_cont, ↓a_ifS, ↓a_ret, ↓a_retN, ↓a_drop, ↓a_asg, ↓a_name, ↓a_gnil, ↓a_gcons, ↓a_gtup2, ↓a_gtup3, ↓a_var0, ↓a_varS, ↓a_c, ↓a_op, ↓a_un, ↓a_nil, ↓a_cons, ↓a_cb, ↓a_tup, ↓a_lst, ↓a_lstM, ↓a_ife, ↓a_test, ↓a_and, ↓a_or, ↓a_not, ↓a_andV, ↓a_orV, ↓a_notV, ↓a_bl, ↓a_if1, ↓a_if0, ↓a_int, ↓a_int0, ↓a_addI, ↓a_addT, ↓a_addL, ↓a_addS, ↓a_mulI, ↓a_neg, ↓a_eqI, ↓a_isN, ↓a_ixT0, ↓a_ixL0, ↓a_ixT1, ↓a_ixL1, ↓a_ixT2, ↓a_ixL2, ↓a_nopart, ↓a_part, ↓a_intE, ↓a_sl, ↓a_slT, ↓a_slL, ↓a_lenT, ↓a_lenL, ↓a_lenM, ↓a_call, ↓a_for, ↓a_rg1, ↓a_rg1E, ↓a_seqI, ↓a_seqT, ↓a_seqL, ↓a_seqV, ↓a_comp, ↓a_compM, ↓a_emp, ↓a_tupL, ↓a_tupT, ↓a_lstL, ↓a_lstT, ↓a_yes, ↓a_ixV, ↓a_addV, ↓a_slV1, ↓a_slV2, ↓a_lenV, ↓a_ixN0, ↓a_ixN1, ↓a_ixN2, ↓a_ixP0, ↓a_ixP1, ↓a_ixK, ↓a_gP, ↓a_gN, ↓a_gl2, ↓a_gl3, ↓a_subI, ↓a_app, ↓a_refE, ↓a_ixTn0, ↓a_ixTn1, ↓a_ixTn2, ↓a_lstMN, ↓a_att, ↓a_zipB, ↓a_ltT, ↓a_abs, ↓a_lstRg, ↓a_tupRg, ↓a_r1, ↓a_r2, ↓a_r2E, ↓a_int1I, ↓a_int1B, ↓a_rg2, ↓a_i2E, ↓a_l2E, ↓a_l3E, ↓a_chain, ↓a_wipe0, ↓a_wipe1, ↓a_raise, ↓a_err, ↓a_errE, ↓a_par, ↓a_par3, ↓a_rem, ↓a_try, ↓a_callS, ↓a_slV3, ↓a_slV4, ↓a_lstV, ↓a_lstMV, ↓a_zip, ↓a_zipLL, ↓a_zipVV, ↓a_tab2, ↓a_make, ↓a_meth, ↓a_binI, ↓a_binJ, ↓a_binK, ↓a_negI, ↓a_sfld, ↓a_aug, ↓a_ipI, ↓a_ipII, ↓a_ipIJ, a_addT, a_ixT0, a_ixT1, a_ixT2, a_slT, a_lenT, a_seqT, a_seqV, a_lstT, a_ixV, a_addV, a_slV1, a_slV2, a_lenV, a_ixN0, a_ixN1, a_ixN2, a_ixP0, a_ixP1, a_ixK, a_gP, a_gN, a_mm, a_ixTn0, a_ixTn1, a_ixTn2, a_ltT, a_slV3, a_slV4, a_lstV, f_loop, f_nest, f_vec1, f_cut1, f_cut2, f_cut3, f_cut4, f_map1, f_map2, f_cnt, f_stp, p_addVT, p_addTV, ↓startD, ↓List.map_cons, ↓List.map_nil, List.length_cons, List.length_nil, Nat.reduceAdd, Nat.reduceSub, Nat.reduceLeDiff, Int.reducePow, Int.reduceNeg, Int.reduceLE, Int.reduceLT, List.replicate, ↓List.cons_append, ↓List.nil_append, List.set_cons_zero, List.set_cons_succ, true_and, and_true, ↓reduceIte, Bool.not_true, Bool.not_false, decide_true, decide_false, Bool.false_eq_true, if_false]
  exact hN2 _ _ ⟨_, _, rfl, fun k hk => hr2 k (List.mem_cons_of_mem _ hk)⟩
theorem ok_law (T : Tx K mg) : FnG P w K mg base CX0 11 T.f_law T.fd_law P_law (spD (spLawD K)) :=
  fnGD T.F_law sc_law (fun _ _ _ _ ⟨_, e, _⟩ => by rw [e]; rfl) fun cdv A outer s H E hG hr => let ⟨t, h1, h2⟩ := (red_law P w base T).2 cdv A outer s H E hG hr; ⟨t, h1, fun AM Y => ⟨_, h2 AM Y, body_law T Y⟩⟩
end
end K11
namespace K11
open PySem PySem.Spec PyProof.Rows L2 DL
theorem all_mk {P : Program} {w : World} {K : PySem.W.Frag} {h : Heap} {mg : Str → Option Value} {fa B C_Program f_is_whole f_plus f_is_axes f_is_vector f_is_loop f_is_nest f_Pm_init f_Pm_nests f_check_axes f_with_amounts f_convolved f_Pm_add f_Pm_neg f_Pm_sub f_Pm_mul f_Pm_rmul f__law_mixed f__law_purse f__law_draw f__law_cell_drawn f__law_nest_drawn f__law_times f__law_product f__law_caught f__law_right f_law : Addr} {t_MOST_AXES : Tok} (X : K.In h) (G : h.Ns mainGlobals mg) (hfa : mg "law" = some (.ref fa))
    {od_is_whole an_is_whole od_plus an_plus od_is_axes an_is_axes od_is_vector an_is_vector od_is_loop an_is_loop od_is_nest an_is_nest od_Pm_init an_Pm_init od_Pm_nests an_Pm_nests od_check_axes an_check_axes od_with_amounts an_with_amounts od_convolved an_convolved od_Pm_add an_Pm_add od_Pm_neg an_Pm_neg od_Pm_sub an_Pm_sub od_Pm_mul an_Pm_mul od_Pm_rmul an_Pm_rmul od__law_mixed an__law_mixed od__law_purse an__law_purse od__law_draw an__law_draw od__law_cell_drawn an__law_cell_drawn od__law_nest_drawn an__law_nest_drawn od__law_times an__law_times od__law_product an__law_product od__law_caught an__law_caught od__law_right an__law_right od_law an_law : Option Addr} {sl_is_whole sl_plus sl_is_axes sl_is_vector sl_is_loop sl_is_nest sl_Pm_init sl_Pm_nests sl_check_axes sl_with_amounts sl_convolved sl_Pm_add sl_Pm_neg sl_Pm_sub sl_Pm_mul sl_Pm_rmul sl__law_mixed sl__law_purse sl__law_draw sl__law_cell_drawn sl__law_nest_drawn sl__law_times sl__law_product sl__law_caught sl__law_right sl_law : Array (Option Value)} {oc_is_whole kV_is_whole dc_is_whole pm_is_whole cd_is_whole ct_is_whole oc_plus kV_plus dc_plus pm_plus cd_plus ct_plus oc_is_axes kV_is_axes dc_is_axes pm_is_axes cd_is_axes ct_is_axes oc_is_vector kV_is_vector dc_is_vector pm_is_vector cd_is_vector ct_is_vector oc_is_loop kV_is_loop dc_is_loop pm_is_loop cd_is_loop ct_is_loop oc_is_nest kV_is_nest dc_is_nest pm_is_nest cd_is_nest ct_is_nest oc_Pm_init kV_Pm_init dc_Pm_init pm_Pm_init cd_Pm_init ct_Pm_init oc_Pm_nests kV_Pm_nests dc_Pm_nests pm_Pm_nests cd_Pm_nests ct_Pm_nests oc_check_axes kV_check_axes dc_check_axes pm_check_axes cd_check_axes ct_check_axes oc_with_amounts kV_with_amounts dc_with_amounts pm_with_amounts cd_with_amounts ct_with_amounts oc_convolved kV_convolved dc_convolved pm_convolved cd_convolved ct_convolved oc_Pm_add kV_Pm_add dc_Pm_add pm_Pm_add cd_Pm_add ct_Pm_add oc_Pm_neg kV_Pm_neg dc_Pm_neg pm_Pm_neg cd_Pm_neg ct_Pm_neg oc_Pm_sub kV_Pm_sub dc_Pm_sub pm_Pm_sub cd_Pm_sub ct_Pm_sub oc_Pm_mul kV_Pm_mul dc_Pm_mul pm_Pm_mul cd_Pm_mul ct_Pm_mul oc_Pm_rmul kV_Pm_rmul dc_Pm_rmul pm_Pm_rmul cd_Pm_rmul ct_Pm_rmul oc__law_mixed kV__law_mixed dc__law_mixed pm__law_mixed cd__law_mixed ct__law_mixed oc__law_purse kV__law_purse dc__law_purse pm__law_purse cd__law_purse ct__law_purse oc__law_draw kV__law_draw dc__law_draw pm__law_draw cd__law_draw ct__law_draw oc__law_cell_drawn kV__law_cell_drawn dc__law_cell_drawn pm__law_cell_drawn cd__law_cell_drawn ct__law_cell_drawn oc__law_nest_drawn kV__law_nest_drawn dc__law_nest_drawn pm__law_nest_drawn cd__law_nest_drawn ct__law_nest_drawn oc__law_times kV__law_times dc__law_times pm__law_times cd__law_times ct__law_times oc__law_product kV__law_product dc__law_product pm__law_product cd__law_product ct__law_product oc__law_caught kV__law_caught dc__law_caught pm__law_caught cd__law_caught ct__law_caught oc__law_right kV__law_right dc__law_right pm__law_right cd__law_right ct__law_right oc_law kV_law dc_law pm_law cd_law ct_law : Value}
    {C_InvalidNumber fI_InvalidNumber TI_InvalidNumber N_InvalidNumber : Addr} {odI_InvalidNumber anI_InvalidNumber odT_InvalidNumber dd_InvalidNumber : Option Addr} {slI_InvalidNumber slT_InvalidNumber : Array (Option Value)} {ocI_InvalidNumber kVI_InvalidNumber dcI_InvalidNumber pmI_InvalidNumber cdI_InvalidNumber ctI_InvalidNumber ocT_InvalidNumber : Value} {nT_InvalidNumber : Nat} {nm_InvalidNumber q_InvalidNumber : Str} {bs_InvalidNumber bm_InvalidNumber sub_InvalidNumber : List Value} {sn_InvalidNumber : List Str} {ab_InvalidNumber : Bool} {col_InvalidNumber : Option Bool} {m0_InvalidNumber m1_InvalidNumber m2_InvalidNumber m3_InvalidNumber m5_InvalidNumber : Option Value} {C_InvalidNest fI_InvalidNest TI_InvalidNest N_InvalidNest : Addr} {odI_InvalidNest anI_InvalidNest odT_InvalidNest dd_InvalidNest : Option Addr} {slI_InvalidNest slT_InvalidNest : Array (Option Value)} {ocI_InvalidNest kVI_InvalidNest dcI_InvalidNest pmI_InvalidNest cdI_InvalidNest ctI_InvalidNest ocT_InvalidNest : Value} {nT_InvalidNest : Nat} {nm_InvalidNest q_InvalidNest : Str} {bs_InvalidNest bm_InvalidNest sub_InvalidNest : List Value} {sn_InvalidNest : List Str} {ab_InvalidNest : Bool} {col_InvalidNest : Option Bool} {m0_InvalidNest m1_InvalidNest m2_InvalidNest m3_InvalidNest m5_InvalidNest : Option Value} {C_InvalidList fI_InvalidList TI_InvalidList N_InvalidList : Addr} {odI_InvalidList anI_InvalidList odT_InvalidList dd_InvalidList : Option Addr} {slI_InvalidList slT_InvalidList : Array (Option Value)} {ocI_InvalidList kVI_InvalidList dcI_InvalidList pmI_InvalidList cdI_InvalidList ctI_InvalidList ocT_InvalidList : Value} {nT_InvalidList : Nat} {nm_InvalidList q_InvalidList : Str} {bs_InvalidList bm_InvalidList sub_InvalidList : List Value} {sn_InvalidList : List Str} {ab_InvalidList : Bool} {col_InvalidList : Option Bool} {m0_InvalidList m1_InvalidList m2_InvalidList m3_InvalidList m5_InvalidList : Option Value} {C_UnlikeAxes fI_UnlikeAxes TI_UnlikeAxes N_UnlikeAxes : Addr} {odI_UnlikeAxes anI_UnlikeAxes odT_UnlikeAxes dd_UnlikeAxes : Option Addr} {slI_UnlikeAxes slT_UnlikeAxes : Array (Option Value)} {ocI_UnlikeAxes kVI_UnlikeAxes dcI_UnlikeAxes pmI_UnlikeAxes cdI_UnlikeAxes ctI_UnlikeAxes ocT_UnlikeAxes : Value} {nT_UnlikeAxes : Nat} {nm_UnlikeAxes q_UnlikeAxes : Str} {bs_UnlikeAxes bm_UnlikeAxes sub_UnlikeAxes : List Value} {sn_UnlikeAxes : List Str} {ab_UnlikeAxes : Bool} {col_UnlikeAxes : Option Bool} {m0_UnlikeAxes m1_UnlikeAxes m2_UnlikeAxes m3_UnlikeAxes m5_UnlikeAxes : Option Value}
    (aP_Program : PySem.W.nsIn K mainGlobals "Program" = some (some (.ref C_Program)))
    (a_is_whole : PySem.W.nsIn K mainGlobals "is_whole" = some (some (.ref f_is_whole)))
    (l_is_whole : K.lookup f_is_whole = some ⟨oc_is_whole, od_is_whole, .func (PySem.W.fnOf "is_whole" "is_whole" (defArgs s_is_whole) (defBody s_is_whole) (defScope s_is_whole) .none kV_is_whole dc_is_whole pm_is_whole an_is_whole cd_is_whole ct_is_whole), sl_is_whole⟩)
    (c_is_whole : PySem.W.codeIn K cd_is_whole "is_whole" = true)
    (k_is_whole : PySem.W.keepIn K (.ref f_is_whole) = true)
    (a_plus : PySem.W.nsIn K mainGlobals "plus" = some (some (.ref f_plus)))
    (l_plus : K.lookup f_plus = some ⟨oc_plus, od_plus, .func (PySem.W.fnOf "plus" "plus" (defArgs s_plus) (defBody s_plus) (defScope s_plus) .none kV_plus dc_plus pm_plus an_plus cd_plus ct_plus), sl_plus⟩)
    (c_plus : PySem.W.codeIn K cd_plus "plus" = true)
    (k_plus : PySem.W.keepIn K (.ref f_plus) = true)
    (a_is_axes : PySem.W.nsIn K mainGlobals "is_axes" = some (some (.ref f_is_axes)))
    (l_is_axes : K.lookup f_is_axes = some ⟨oc_is_axes, od_is_axes, .func (PySem.W.fnOf "is_axes" "is_axes" (defArgs s_is_axes) (defBody s_is_axes) (defScope s_is_axes) .none kV_is_axes dc_is_axes pm_is_axes an_is_axes cd_is_axes ct_is_axes), sl_is_axes⟩)
    (c_is_axes : PySem.W.codeIn K cd_is_axes "is_axes" = true)
    (k_is_axes : PySem.W.keepIn K (.ref f_is_axes) = true)
    (a_is_vector : PySem.W.nsIn K mainGlobals "is_vector" = some (some (.ref f_is_vector)))
    (l_is_vector : K.lookup f_is_vector = some ⟨oc_is_vector, od_is_vector, .func (PySem.W.fnOf "is_vector" "is_vector" (defArgs s_is_vector) (defBody s_is_vector) (defScope s_is_vector) .none kV_is_vector dc_is_vector pm_is_vector an_is_vector cd_is_vector ct_is_vector), sl_is_vector⟩)
    (c_is_vector : PySem.W.codeIn K cd_is_vector "is_vector" = true)
    (k_is_vector : PySem.W.keepIn K (.ref f_is_vector) = true)
    (a_is_loop : PySem.W.nsIn K mainGlobals "is_loop" = some (some (.ref f_is_loop)))
    (l_is_loop : K.lookup f_is_loop = some ⟨oc_is_loop, od_is_loop, .func (PySem.W.fnOf "is_loop" "is_loop" (defArgs s_is_loop) (defBody s_is_loop) (defScope s_is_loop) .none kV_is_loop dc_is_loop pm_is_loop an_is_loop cd_is_loop ct_is_loop), sl_is_loop⟩)
    (c_is_loop : PySem.W.codeIn K cd_is_loop "is_loop" = true)
    (k_is_loop : PySem.W.keepIn K (.ref f_is_loop) = true)
    (a_is_nest : PySem.W.nsIn K mainGlobals "is_nest" = some (some (.ref f_is_nest)))
    (l_is_nest : K.lookup f_is_nest = some ⟨oc_is_nest, od_is_nest, .func (PySem.W.fnOf "is_nest" "is_nest" (defArgs s_is_nest) (defBody s_is_nest) (defScope s_is_nest) .none kV_is_nest dc_is_nest pm_is_nest an_is_nest cd_is_nest ct_is_nest), sl_is_nest⟩)
    (c_is_nest : PySem.W.codeIn K cd_is_nest "is_nest" = true)
    (k_is_nest : PySem.W.keepIn K (.ref f_is_nest) = true)
    (a_Pm_init : PySem.W.findIn K (.ref C_Program) "__init__" = some (some (.ref f_Pm_init)))
    (l_Pm_init : K.lookup f_Pm_init = some ⟨oc_Pm_init, od_Pm_init, .func (PySem.W.fnOf "__init__" "Program.__init__" (defArgs s_Pm_init) (defBody s_Pm_init) (defScope s_Pm_init) .none kV_Pm_init dc_Pm_init pm_Pm_init an_Pm_init cd_Pm_init ct_Pm_init), sl_Pm_init⟩)
    (c_Pm_init : PySem.W.codeIn K cd_Pm_init "Program.__init__" = true)
    (k_Pm_init : PySem.W.keepIn K (.ref f_Pm_init) = true)
    (a_Pm_nests : PySem.W.findIn K (.ref C_Program) "nests" = some (some (.ref f_Pm_nests)))
    (l_Pm_nests : K.lookup f_Pm_nests = some ⟨oc_Pm_nests, od_Pm_nests, .func (PySem.W.fnOf "nests" "Program.nests" (defArgs s_Pm_nests) (defBody s_Pm_nests) (defScope s_Pm_nests) .none kV_Pm_nests dc_Pm_nests pm_Pm_nests an_Pm_nests cd_Pm_nests ct_Pm_nests), sl_Pm_nests⟩)
    (c_Pm_nests : PySem.W.codeIn K cd_Pm_nests "Program.nests" = true)
    (k_Pm_nests : PySem.W.keepIn K (.ref f_Pm_nests) = true)
    (a_check_axes : PySem.W.nsIn K mainGlobals "check_axes" = some (some (.ref f_check_axes)))
    (l_check_axes : K.lookup f_check_axes = some ⟨oc_check_axes, od_check_axes, .func (PySem.W.fnOf "check_axes" "check_axes" (defArgs s_check_axes) (defBody s_check_axes) (defScope s_check_axes) .none kV_check_axes dc_check_axes pm_check_axes an_check_axes cd_check_axes ct_check_axes), sl_check_axes⟩)
    (c_check_axes : PySem.W.codeIn K cd_check_axes "check_axes" = true)
    (k_check_axes : PySem.W.keepIn K (.ref f_check_axes) = true)
    (a_with_amounts : PySem.W.nsIn K mainGlobals "with_amounts" = some (some (.ref f_with_amounts)))
    (l_with_amounts : K.lookup f_with_amounts = some ⟨oc_with_amounts, od_with_amounts, .func (PySem.W.fnOf "with_amounts" "with_amounts" (defArgs s_with_amounts) (defBody s_with_amounts) (defScope s_with_amounts) .none kV_with_amounts dc_with_amounts pm_with_amounts an_with_amounts cd_with_amounts ct_with_amounts), sl_with_amounts⟩)
    (c_with_amounts : PySem.W.codeIn K cd_with_amounts "with_amounts" = true)
    (k_with_amounts : PySem.W.keepIn K (.ref f_with_amounts) = true)
    (a_convolved : PySem.W.nsIn K mainGlobals "convolved" = some (some (.ref f_convolved)))
    (l_convolved : K.lookup f_convolved = some ⟨oc_convolved, od_convolved, .func (PySem.W.fnOf "convolved" "convolved" (defArgs s_convolved) (defBody s_convolved) (defScope s_convolved) .none kV_convolved dc_convolved pm_convolved an_convolved cd_convolved ct_convolved), sl_convolved⟩)
    (c_convolved : PySem.W.codeIn K cd_convolved "convolved" = true)
    (k_convolved : PySem.W.keepIn K (.ref f_convolved) = true)
    (a_Pm_add : PySem.W.findIn K (.ref C_Program) "__add__" = some (some (.ref f_Pm_add)))
    (l_Pm_add : K.lookup f_Pm_add = some ⟨oc_Pm_add, od_Pm_add, .func (PySem.W.fnOf "__add__" "Program.__add__" (defArgs s_Pm_add) (defBody s_Pm_add) (defScope s_Pm_add) .none kV_Pm_add dc_Pm_add pm_Pm_add an_Pm_add cd_Pm_add ct_Pm_add), sl_Pm_add⟩)
    (c_Pm_add : PySem.W.codeIn K cd_Pm_add "Program.__add__" = true)
    (k_Pm_add : PySem.W.keepIn K (.ref f_Pm_add) = true)
    (a_Pm_neg : PySem.W.findIn K (.ref C_Program) "__neg__" = some (some (.ref f_Pm_neg)))
    (l_Pm_neg : K.lookup f_Pm_neg = some ⟨oc_Pm_neg, od_Pm_neg, .func (PySem.W.fnOf "__neg__" "Program.__neg__" (defArgs s_Pm_neg) (defBody s_Pm_neg) (defScope s_Pm_neg) .none kV_Pm_neg dc_Pm_neg pm_Pm_neg an_Pm_neg cd_Pm_neg ct_Pm_neg), sl_Pm_neg⟩)
    (c_Pm_neg : PySem.W.codeIn K cd_Pm_neg "Program.__neg__" = true)
    (k_Pm_neg : PySem.W.keepIn K (.ref f_Pm_neg) = true)
    (a_Pm_sub : PySem.W.findIn K (.ref C_Program) "__sub__" = some (some (.ref f_Pm_sub)))
    (l_Pm_sub : K.lookup f_Pm_sub = some ⟨oc_Pm_sub, od_Pm_sub, .func (PySem.W.fnOf "__sub__" "Program.__sub__" (defArgs s_Pm_sub) (defBody s_Pm_sub) (defScope s_Pm_sub) .none kV_Pm_sub dc_Pm_sub pm_Pm_sub an_Pm_sub cd_Pm_sub ct_Pm_sub), sl_Pm_sub⟩)
    (c_Pm_sub : PySem.W.codeIn K cd_Pm_sub "Program.__sub__" = true)
    (k_Pm_sub : PySem.W.keepIn K (.ref f_Pm_sub) = true)
    (a_Pm_mul : PySem.W.findIn K (.ref C_Program) "__mul__" = some (some (.ref f_Pm_mul)))
    (l_Pm_mul : K.lookup f_Pm_mul = some ⟨oc_Pm_mul, od_Pm_mul, .func (PySem.W.fnOf "__mul__" "Program.__mul__" (defArgs s_Pm_mul) (defBody s_Pm_mul) (defScope s_Pm_mul) .none kV_Pm_mul dc_Pm_mul pm_Pm_mul an_Pm_mul cd_Pm_mul ct_Pm_mul), sl_Pm_mul⟩)
    (c_Pm_mul : PySem.W.codeIn K cd_Pm_mul "Program.__mul__" = true)
    (k_Pm_mul : PySem.W.keepIn K (.ref f_Pm_mul) = true)
    (a_Pm_rmul : PySem.W.findIn K (.ref C_Program) "__rmul__" = some (some (.ref f_Pm_rmul)))
    (l_Pm_rmul : K.lookup f_Pm_rmul = some ⟨oc_Pm_rmul, od_Pm_rmul, .func (PySem.W.fnOf "__rmul__" "Program.__rmul__" (defArgs s_Pm_rmul) (defBody s_Pm_rmul) (defScope s_Pm_rmul) .none kV_Pm_rmul dc_Pm_rmul pm_Pm_rmul an_Pm_rmul cd_Pm_rmul ct_Pm_rmul), sl_Pm_rmul⟩)
    (c_Pm_rmul : PySem.W.codeIn K cd_Pm_rmul "Program.__rmul__" = true)
    (k_Pm_rmul : PySem.W.keepIn K (.ref f_Pm_rmul) = true)
    (a__law_mixed : PySem.W.nsIn K mainGlobals "_law_mixed" = some (some (.ref f__law_mixed)))
    (l__law_mixed : K.lookup f__law_mixed = some ⟨oc__law_mixed, od__law_mixed, .func (PySem.W.fnOf "_law_mixed" "_law_mixed" (defArgs s__law_mixed) (defBody s__law_mixed) (defScope s__law_mixed) .none kV__law_mixed dc__law_mixed pm__law_mixed an__law_mixed cd__law_mixed ct__law_mixed), sl__law_mixed⟩)
    (c__law_mixed : PySem.W.codeIn K cd__law_mixed "_law_mixed" = true)
    (k__law_mixed : PySem.W.keepIn K (.ref f__law_mixed) = true)
    (a__law_purse : PySem.W.nsIn K mainGlobals "_law_purse" = some (some (.ref f__law_purse)))
    (l__law_purse : K.lookup f__law_purse = some ⟨oc__law_purse, od__law_purse, .func (PySem.W.fnOf "_law_purse" "_law_purse" (defArgs s__law_purse) (defBody s__law_purse) (defScope s__law_purse) .none kV__law_purse dc__law_purse pm__law_purse an__law_purse cd__law_purse ct__law_purse), sl__law_purse⟩)
    (c__law_purse : PySem.W.codeIn K cd__law_purse "_law_purse" = true)
    (k__law_purse : PySem.W.keepIn K (.ref f__law_purse) = true)
    (a__law_draw : PySem.W.nsIn K mainGlobals "_law_draw" = some (some (.ref f__law_draw)))
    (l__law_draw : K.lookup f__law_draw = some ⟨oc__law_draw, od__law_draw, .func (PySem.W.fnOf "_law_draw" "_law_draw" (defArgs s__law_draw) (defBody s__law_draw) (defScope s__law_draw) .none kV__law_draw dc__law_draw pm__law_draw an__law_draw cd__law_draw ct__law_draw), sl__law_draw⟩)
    (c__law_draw : PySem.W.codeIn K cd__law_draw "_law_draw" = true)
    (k__law_draw : PySem.W.keepIn K (.ref f__law_draw) = true)
    (a__law_cell_drawn : PySem.W.nsIn K mainGlobals "_law_cell_drawn" = some (some (.ref f__law_cell_drawn)))
    (l__law_cell_drawn : K.lookup f__law_cell_drawn = some ⟨oc__law_cell_drawn, od__law_cell_drawn, .func (PySem.W.fnOf "_law_cell_drawn" "_law_cell_drawn" (defArgs s__law_cell_drawn) (defBody s__law_cell_drawn) (defScope s__law_cell_drawn) .none kV__law_cell_drawn dc__law_cell_drawn pm__law_cell_drawn an__law_cell_drawn cd__law_cell_drawn ct__law_cell_drawn), sl__law_cell_drawn⟩)
    (c__law_cell_drawn : PySem.W.codeIn K cd__law_cell_drawn "_law_cell_drawn" = true)
    (k__law_cell_drawn : PySem.W.keepIn K (.ref f__law_cell_drawn) = true)
    (a__law_nest_drawn : PySem.W.nsIn K mainGlobals "_law_nest_drawn" = some (some (.ref f__law_nest_drawn)))
    (l__law_nest_drawn : K.lookup f__law_nest_drawn = some ⟨oc__law_nest_drawn, od__law_nest_drawn, .func (PySem.W.fnOf "_law_nest_drawn" "_law_nest_drawn" (defArgs s__law_nest_drawn) (defBody s__law_nest_drawn) (defScope s__law_nest_drawn) .none kV__law_nest_drawn dc__law_nest_drawn pm__law_nest_drawn an__law_nest_drawn cd__law_nest_drawn ct__law_nest_drawn), sl__law_nest_drawn⟩)
    (c__law_nest_drawn : PySem.W.codeIn K cd__law_nest_drawn "_law_nest_drawn" = true)
    (k__law_nest_drawn : PySem.W.keepIn K (.ref f__law_nest_drawn) = true)
    (a__law_times : PySem.W.nsIn K mainGlobals "_law_times" = some (some (.ref f__law_times)))
    (l__law_times : K.lookup f__law_times = some ⟨oc__law_times, od__law_times, .func (PySem.W.fnOf "_law_times" "_law_times" (defArgs s__law_times) (defBody s__law_times) (defScope s__law_times) .none kV__law_times dc__law_times pm__law_times an__law_times cd__law_times ct__law_times), sl__law_times⟩)
    (c__law_times : PySem.W.codeIn K cd__law_times "_law_times" = true)
    (k__law_times : PySem.W.keepIn K (.ref f__law_times) = true)
    (a__law_product : PySem.W.nsIn K mainGlobals "_law_product" = some (some (.ref f__law_product)))
    (l__law_product : K.lookup f__law_product = some ⟨oc__law_product, od__law_product, .func (PySem.W.fnOf "_law_product" "_law_product" (defArgs s__law_product) (defBody s__law_product) (defScope s__law_product) .none kV__law_product dc__law_product pm__law_product an__law_product cd__law_product ct__law_product), sl__law_product⟩)
    (c__law_product : PySem.W.codeIn K cd__law_product "_law_product" = true)
    (k__law_product : PySem.W.keepIn K (.ref f__law_product) = true)
    (a__law_caught : PySem.W.nsIn K mainGlobals "_law_caught" = some (some (.ref f__law_caught)))
    (l__law_caught : K.lookup f__law_caught = some ⟨oc__law_caught, od__law_caught, .func (PySem.W.fnOf "_law_caught" "_law_caught" (defArgs s__law_caught) (defBody s__law_caught) (defScope s__law_caught) .none kV__law_caught dc__law_caught pm__law_caught an__law_caught cd__law_caught ct__law_caught), sl__law_caught⟩)
    (c__law_caught : PySem.W.codeIn K cd__law_caught "_law_caught" = true)
    (k__law_caught : PySem.W.keepIn K (.ref f__law_caught) = true)
    (a__law_right : PySem.W.nsIn K mainGlobals "_law_right" = some (some (.ref f__law_right)))
    (l__law_right : K.lookup f__law_right = some ⟨oc__law_right, od__law_right, .func (PySem.W.fnOf "_law_right" "_law_right" (defArgs s__law_right) (defBody s__law_right) (defScope s__law_right) .none kV__law_right dc__law_right pm__law_right an__law_right cd__law_right ct__law_right), sl__law_right⟩)
    (c__law_right : PySem.W.codeIn K cd__law_right "_law_right" = true)
    (k__law_right : PySem.W.keepIn K (.ref f__law_right) = true)
    (a_law : PySem.W.nsIn K mainGlobals "law" = some (some (.ref f_law)))
    (l_law : K.lookup f_law = some ⟨oc_law, od_law, .func (PySem.W.fnOf "law" "law" (defArgs s_law) (defBody s_law) (defScope s_law) .none kV_law dc_law pm_law an_law cd_law ct_law), sl_law⟩)
    (c_law : PySem.W.codeIn K cd_law "law" = true)
    (k_law : PySem.W.keepIn K (.ref f_law) = true)
    (z_int : PySem.W.nsIn K mainGlobals "int" = some none)
    (z_bool : PySem.W.nsIn K mainGlobals "bool" = some none)
    (z_list : PySem.W.nsIn K mainGlobals "list" = some none)
    (z_tuple : PySem.W.nsIn K mainGlobals "tuple" = some none)
    (z_isinstance : PySem.W.nsIn K mainGlobals "isinstance" = some none)
    (z_len : PySem.W.nsIn K mainGlobals "len" = some none)
    (z_all : PySem.W.nsIn K mainGlobals "all" = some none)
    (z_any : PySem.W.nsIn K mainGlobals "any" = some none)
    (z_range : PySem.W.nsIn K mainGlobals "range" = some none)
    (z_zip : PySem.W.nsIn K mainGlobals "zip" = some none)
    (z_repr : PySem.W.nsIn K mainGlobals "repr" = some none)
    (z_max : PySem.W.nsIn K mainGlobals "max" = some none)
    (z_sum : PySem.W.nsIn K mainGlobals "sum" = some none)
    (m_MOST_AXES : PySem.W.nsIn K mainGlobals "MOST_AXES" = some (some (.int 3 t_MOST_AXES)))
    (aB : PySem.W.nsIn K mainGlobals "AddError" = some (some (.ref B)))
    (bs1 : PySem.W.specialIn K (.ref B) "__getattribute__" = some (some (.builtin "type.__getattribute__")))
    (brd : PySem.W.readsIn K B (.type "type") = true)
    (bfc : PySem.W.findCls K (.ref B) (.type "type") "__init__" = some (.val (.builtin "ValueError.__init__")))
    (aC_InvalidNumber : PySem.W.nsIn K mainGlobals "InvalidNumber" = some (some (.ref C_InvalidNumber)))
    (iC_InvalidNumber : PySem.W.findIn K (.ref C_InvalidNumber) "__init__" = some (some (.ref fI_InvalidNumber)))
    (tI_InvalidNumber : PySem.W.typeIn K (.ref fI_InvalidNumber) = some (.type "function"))
    (lI_InvalidNumber : K.lookup fI_InvalidNumber = some ⟨ocI_InvalidNumber, odI_InvalidNumber, .func (PySem.W.fnOf "__init__" "InvalidNumber.__init__" (defArgs s_init_InvalidNumber) (defBody s_init_InvalidNumber) (defScope s_init_InvalidNumber) (.ref TI_InvalidNumber) kVI_InvalidNumber dcI_InvalidNumber pmI_InvalidNumber anI_InvalidNumber cdI_InvalidNumber ctI_InvalidNumber), slI_InvalidNumber⟩)
    (lT_InvalidNumber : K.lookup TI_InvalidNumber = some ⟨ocT_InvalidNumber, odT_InvalidNumber, .seq #[.none] nT_InvalidNumber, slT_InvalidNumber⟩)
    (cI_InvalidNumber : PySem.W.codeIn K cdI_InvalidNumber "InvalidNumber.__init__" = true)
    (kI_InvalidNumber : PySem.W.keepIn K (.ref fI_InvalidNumber) = true)
    (xL_InvalidNumber : K.lookup C_InvalidNumber = some (excClassObj nm_InvalidNumber q_InvalidNumber C_InvalidNumber N_InvalidNumber bs_InvalidNumber bm_InvalidNumber true sn_InvalidNumber sub_InvalidNumber ab_InvalidNumber col_InvalidNumber dd_InvalidNumber m0_InvalidNumber m1_InvalidNumber m2_InvalidNumber m3_InvalidNumber m5_InvalidNumber "ValueError.__new__"))
    (rB_InvalidNumber : HandSPX.refsVE bm_InvalidNumber = true)
    (sa_InvalidNumber : PySem.W.findIn K (.ref C_InvalidNumber) "__setattr__" = some (some (.builtin "object.__setattr__")))
    (eC_InvalidNumber : PySem.W.subIn K (.ref C_InvalidNumber) (.type "BaseException") = some true)
    (tC_InvalidNumber : PySem.W.typeIn K (.ref C_InvalidNumber) = some (.type "type"))
    (kC_InvalidNumber : PySem.W.keepIn K (.ref C_InvalidNumber) = true)
    (nF_InvalidNumber : PySem.W.findIn K (.ref C_InvalidNumber) "value" = some none)
    (aC_InvalidNest : PySem.W.nsIn K mainGlobals "InvalidNest" = some (some (.ref C_InvalidNest)))
    (iC_InvalidNest : PySem.W.findIn K (.ref C_InvalidNest) "__init__" = some (some (.ref fI_InvalidNest)))
    (tI_InvalidNest : PySem.W.typeIn K (.ref fI_InvalidNest) = some (.type "function"))
    (lI_InvalidNest : K.lookup fI_InvalidNest = some ⟨ocI_InvalidNest, odI_InvalidNest, .func (PySem.W.fnOf "__init__" "InvalidNest.__init__" (defArgs s_init_InvalidNest) (defBody s_init_InvalidNest) (defScope s_init_InvalidNest) (.ref TI_InvalidNest) kVI_InvalidNest dcI_InvalidNest pmI_InvalidNest anI_InvalidNest cdI_InvalidNest ctI_InvalidNest), slI_InvalidNest⟩)
    (lT_InvalidNest : K.lookup TI_InvalidNest = some ⟨ocT_InvalidNest, odT_InvalidNest, .seq #[.none] nT_InvalidNest, slT_InvalidNest⟩)
    (cI_InvalidNest : PySem.W.codeIn K cdI_InvalidNest "InvalidNest.__init__" = true)
    (kI_InvalidNest : PySem.W.keepIn K (.ref fI_InvalidNest) = true)
    (xL_InvalidNest : K.lookup C_InvalidNest = some (excClassObj nm_InvalidNest q_InvalidNest C_InvalidNest N_InvalidNest bs_InvalidNest bm_InvalidNest true sn_InvalidNest sub_InvalidNest ab_InvalidNest col_InvalidNest dd_InvalidNest m0_InvalidNest m1_InvalidNest m2_InvalidNest m3_InvalidNest m5_InvalidNest "ValueError.__new__"))
    (rB_InvalidNest : HandSPX.refsVE bm_InvalidNest = true)
    (sa_InvalidNest : PySem.W.findIn K (.ref C_InvalidNest) "__setattr__" = some (some (.builtin "object.__setattr__")))
    (eC_InvalidNest : PySem.W.subIn K (.ref C_InvalidNest) (.type "BaseException") = some true)
    (tC_InvalidNest : PySem.W.typeIn K (.ref C_InvalidNest) = some (.type "type"))
    (kC_InvalidNest : PySem.W.keepIn K (.ref C_InvalidNest) = true)
    (nF_InvalidNest : PySem.W.findIn K (.ref C_InvalidNest) "value" = some none)
    (aC_InvalidList : PySem.W.nsIn K mainGlobals "InvalidList" = some (some (.ref C_InvalidList)))
    (iC_InvalidList : PySem.W.findIn K (.ref C_InvalidList) "__init__" = some (some (.ref fI_InvalidList)))
    (tI_InvalidList : PySem.W.typeIn K (.ref fI_InvalidList) = some (.type "function"))
    (lI_InvalidList : K.lookup fI_InvalidList = some ⟨ocI_InvalidList, odI_InvalidList, .func (PySem.W.fnOf "__init__" "InvalidList.__init__" (defArgs s_init_InvalidList) (defBody s_init_InvalidList) (defScope s_init_InvalidList) (.ref TI_InvalidList) kVI_InvalidList dcI_InvalidList pmI_InvalidList anI_InvalidList cdI_InvalidList ctI_InvalidList), slI_InvalidList⟩)
    (lT_InvalidList : K.lookup TI_InvalidList = some ⟨ocT_InvalidList, odT_InvalidList, .seq #[.none] nT_InvalidList, slT_InvalidList⟩)
    (cI_InvalidList : PySem.W.codeIn K cdI_InvalidList "InvalidList.__init__" = true)
    (kI_InvalidList : PySem.W.keepIn K (.ref fI_InvalidList) = true)
    (xL_InvalidList : K.lookup C_InvalidList = some (excClassObj nm_InvalidList q_InvalidList C_InvalidList N_InvalidList bs_InvalidList bm_InvalidList true sn_InvalidList sub_InvalidList ab_InvalidList col_InvalidList dd_InvalidList m0_InvalidList m1_InvalidList m2_InvalidList m3_InvalidList m5_InvalidList "ValueError.__new__"))
    (rB_InvalidList : HandSPX.refsVE bm_InvalidList = true)
    (sa_InvalidList : PySem.W.findIn K (.ref C_InvalidList) "__setattr__" = some (some (.builtin "object.__setattr__")))
    (eC_InvalidList : PySem.W.subIn K (.ref C_InvalidList) (.type "BaseException") = some true)
    (tC_InvalidList : PySem.W.typeIn K (.ref C_InvalidList) = some (.type "type"))
    (kC_InvalidList : PySem.W.keepIn K (.ref C_InvalidList) = true)
    (nF_InvalidList : PySem.W.findIn K (.ref C_InvalidList) "value" = some none)
    (aC_UnlikeAxes : PySem.W.nsIn K mainGlobals "UnlikeAxes" = some (some (.ref C_UnlikeAxes)))
    (iC_UnlikeAxes : PySem.W.findIn K (.ref C_UnlikeAxes) "__init__" = some (some (.ref fI_UnlikeAxes)))
    (tI_UnlikeAxes : PySem.W.typeIn K (.ref fI_UnlikeAxes) = some (.type "function"))
    (lI_UnlikeAxes : K.lookup fI_UnlikeAxes = some ⟨ocI_UnlikeAxes, odI_UnlikeAxes, .func (PySem.W.fnOf "__init__" "UnlikeAxes.__init__" (defArgs s_init_UnlikeAxes) (defBody s_init_UnlikeAxes) (defScope s_init_UnlikeAxes) (.ref TI_UnlikeAxes) kVI_UnlikeAxes dcI_UnlikeAxes pmI_UnlikeAxes anI_UnlikeAxes cdI_UnlikeAxes ctI_UnlikeAxes), slI_UnlikeAxes⟩)
    (lT_UnlikeAxes : K.lookup TI_UnlikeAxes = some ⟨ocT_UnlikeAxes, odT_UnlikeAxes, .seq #[.none] nT_UnlikeAxes, slT_UnlikeAxes⟩)
    (cI_UnlikeAxes : PySem.W.codeIn K cdI_UnlikeAxes "UnlikeAxes.__init__" = true)
    (kI_UnlikeAxes : PySem.W.keepIn K (.ref fI_UnlikeAxes) = true)
    (xL_UnlikeAxes : K.lookup C_UnlikeAxes = some (excClassObj nm_UnlikeAxes q_UnlikeAxes C_UnlikeAxes N_UnlikeAxes bs_UnlikeAxes bm_UnlikeAxes true sn_UnlikeAxes sub_UnlikeAxes ab_UnlikeAxes col_UnlikeAxes dd_UnlikeAxes m0_UnlikeAxes m1_UnlikeAxes m2_UnlikeAxes m3_UnlikeAxes m5_UnlikeAxes "ValueError.__new__"))
    (rB_UnlikeAxes : HandSPX.refsVE bm_UnlikeAxes = true)
    (sa_UnlikeAxes : PySem.W.findIn K (.ref C_UnlikeAxes) "__setattr__" = some (some (.builtin "object.__setattr__")))
    (eC_UnlikeAxes : PySem.W.subIn K (.ref C_UnlikeAxes) (.type "BaseException") = some true)
    (tC_UnlikeAxes : PySem.W.typeIn K (.ref C_UnlikeAxes) = some (.type "type"))
    (kC_UnlikeAxes : PySem.W.keepIn K (.ref C_UnlikeAxes) = true)
    (nF_UnlikeAxes : PySem.W.findIn K (.ref C_UnlikeAxes) "axes" = some none)
    (xga_UnlikeAxes : PySem.W.findIn K (.ref C_UnlikeAxes) "__getattribute__" = some (some (.builtin "BaseException.__getattribute__")))
    (xgt_UnlikeAxes : PySem.W.findIn K (.ref C_UnlikeAxes) "__getattr__" = some none)
    (xhd_UnlikeAxes : PySem.W.hasDictIn K C_UnlikeAxes = true)
    (xha_UnlikeAxes : PySem.W.findIn K (.ref C_UnlikeAxes) "__class__" = some (some (.builtin "object.__class__")))
    (xhn_UnlikeAxes : PySem.W.specialIn K (.builtin "object.__class__") "__get__" = some (some (.builtin "getset_descriptor.__get__")))
    (xtk_UnlikeAxes : PySem.W.takesIn K (.builtin "object.__class__") = some true)
    (xhm_UnlikeAxes : PySem.W.mroIn K C_UnlikeAxes (.type "object") = some true)
    (xem_UnlikeAxes : PySem.W.exmOne K (.ref C_UnlikeAxes) (.ref B) = some true)
    (xki_UnlikeAxes : PySem.W.kitOne K (.ref C_UnlikeAxes) (.ref C_UnlikeAxes) = some true)
    (pc_pg_Program : PySem.W.plainGet K C_Program Str.empty = true)
    (pc_hd_Program : PySem.W.hasDictIn K C_Program = true)
    (pc_po_Program : PySem.W.plainOver K C_Program = true)
    (pc_sa_Program : PySem.W.findIn K (.ref C_Program) "__setattr__" = some (some (.builtin "object.__setattr__")))
    (pc_mk_Program : PySem.W.makesIn K C_Program = true)
    (pc_kc_Program : PySem.W.keepIn K (.ref C_Program) = true)
    (pc_ha_Program : PySem.W.findIn K (.ref C_Program) "__class__" = some (some (.builtin "object.__class__")))
    (pc_hn_Program : PySem.W.specialIn K (.builtin "object.__class__") "__get__" = some (some (.builtin "getset_descriptor.__get__")))
    (pc_htk_Program : PySem.W.takesIn K (.builtin "object.__class__") = some true)
    (pc_hm_Program : PySem.W.mroIn K C_Program (.type "object") = some true)
    (pc_sf_Program : PySem.W.selfFirst K C_Program = true)
    (pc_ki_Program : PySem.W.kitOne K (.ref C_Program) (.ref C_Program) = some true)
    (pc_kn_Program : PySem.W.kitOne K (.type "int") (.ref C_Program) = some false)
    (pc_is_Program : PySem.W.subIn K (.type "int") (.ref C_Program) = some false)
    (pc_si_Program : PySem.W.subIn K (.ref C_Program) (.type "int") = some false)
    (pc_na_axes_Program : PySem.W.findIn K (.ref C_Program) "axes" = some none)
    (pc_na_parts_Program : PySem.W.findIn K (.ref C_Program) "parts" = some none)
    (pc_mro_Program : (PySem.W.clsIn K C_Program).map (fun cd => cd.mro) = some [.ref C_Program, .type "object"])
    (pc_io_add_Program : PySem.W.findIn K (.ref C_Program) "__iadd__" = some none)
    (pc_oo_add_Program : PySem.W.findIn K (.type "object") "__iadd__" = some none)
    (pc_io_sub_Program : PySem.W.findIn K (.ref C_Program) "__isub__" = some none)
    (pc_oo_sub_Program : PySem.W.findIn K (.type "object") "__isub__" = some none)
    (pc_io_mul_Program : PySem.W.findIn K (.ref C_Program) "__imul__" = some none)
    (pc_oo_mul_Program : PySem.W.findIn K (.type "object") "__imul__" = some none)
    (pc_i1_mul_Program : PySem.W.findIn K (.type "int") "__mul__" = some (some (.builtin "int.__mul__")))
    (pc_i2_mul_Program : PySem.W.findIn K (.type "int") "__rmul__" = some (some (.builtin "int.__rmul__")))
    (pf_Pm_init : PySem.W.isFn K (.ref f_Pm_init) = true)
    (pf_Pm_nests : PySem.W.isFn K (.ref f_Pm_nests) = true)
    (pf_Pm_add : PySem.W.isFn K (.ref f_Pm_add) = true)
    (pf_Pm_neg : PySem.W.isFn K (.ref f_Pm_neg) = true)
    (pf_Pm_sub : PySem.W.isFn K (.ref f_Pm_sub) = true)
    (pf_Pm_mul : PySem.W.isFn K (.ref f_Pm_mul) = true)
    (pf_Pm_rmul : PySem.W.isFn K (.ref f_Pm_rmul) = true)
    : ∃ fd : FuncData, (∀ (s : Shared) (u : Value), BindsTo s fd ⟨[u], []⟩ [("_law_script", u)]) ∧ ∀ base : Heap, K.In base → base.Ns mainGlobals mg → FnG P w K mg base CX0 11 fa fd ["_law_script"] (spD (spLawD K)) := by
  have e := hfa.symm.trans (PySem.W.mg_of X G a_law)
  cases e
  have F_is_whole := fun_mk (st := s_is_whole) l_is_whole c_is_whole k_is_whole
  have b_is_whole := F_is_whole.binds (ps := P_is_whole) fun _ _ _ _ _ _ us hl => match us, hl with | [_], _ => rfl
  have F_plus := fun_mk (st := s_plus) l_plus c_plus k_plus
  have b_plus := F_plus.binds (ps := P_plus) fun _ _ _ _ _ _ us hl => match us, hl with | [_, _], _ => rfl
  have F_is_axes := fun_mk (st := s_is_axes) l_is_axes c_is_axes k_is_axes
  have b_is_axes := F_is_axes.binds (ps := P_is_axes) fun _ _ _ _ _ _ us hl => match us, hl with | [_], _ => rfl
  have F_is_vector := fun_mk (st := s_is_vector) l_is_vector c_is_vector k_is_vector
  have b_is_vector := F_is_vector.binds (ps := P_is_vector) fun _ _ _ _ _ _ us hl => match us, hl with | [_, _], _ => rfl
  have F_is_loop := fun_mk (st := s_is_loop) l_is_loop c_is_loop k_is_loop
  have b_is_loop := F_is_loop.binds (ps := P_is_loop) fun _ _ _ _ _ _ us hl => match us, hl with | [_, _], _ => rfl
  have F_is_nest := fun_mk (st := s_is_nest) l_is_nest c_is_nest k_is_nest
  have b_is_nest := F_is_nest.binds (ps := P_is_nest) fun _ _ _ _ _ _ us hl => match us, hl with | [_, _], _ => rfl
  have F_Pm_init := fun_mk (st := s_Pm_init) l_Pm_init c_Pm_init k_Pm_init
  have b_Pm_init := F_Pm_init.binds (ps := P_Pm_init) fun _ _ _ _ _ _ us hl => match us, hl with | [_, _, _], _ => rfl
  have F_Pm_nests := fun_mk (st := s_Pm_nests) l_Pm_nests c_Pm_nests k_Pm_nests
  have b_Pm_nests := F_Pm_nests.binds (ps := P_Pm_nests) fun _ _ _ _ _ _ us hl => match us, hl with | [_], _ => rfl
  have F_check_axes := fun_mk (st := s_check_axes) l_check_axes c_check_axes k_check_axes
  have b_check_axes := F_check_axes.binds (ps := P_check_axes) fun _ _ _ _ _ _ us hl => match us, hl with | [_, _], _ => rfl
  have F_with_amounts := fun_mk (st := s_with_amounts) l_with_amounts c_with_amounts k_with_amounts
  have b_with_amounts := F_with_amounts.binds (ps := P_with_amounts) fun _ _ _ _ _ _ us hl => match us, hl with | [_, _], _ => rfl
  have F_convolved := fun_mk (st := s_convolved) l_convolved c_convolved k_convolved
  have b_convolved := F_convolved.binds (ps := P_convolved) fun _ _ _ _ _ _ us hl => match us, hl with | [_, _], _ => rfl
  have F_Pm_add := fun_mk (st := s_Pm_add) l_Pm_add c_Pm_add k_Pm_add
  have b_Pm_add := F_Pm_add.binds (ps := P_Pm_add) fun _ _ _ _ _ _ us hl => match us, hl with | [_, _], _ => rfl
  have F_Pm_neg := fun_mk (st := s_Pm_neg) l_Pm_neg c_Pm_neg k_Pm_neg
  have b_Pm_neg := F_Pm_neg.binds (ps := P_Pm_neg) fun _ _ _ _ _ _ us hl => match us, hl with | [_], _ => rfl
  have F_Pm_sub := fun_mk (st := s_Pm_sub) l_Pm_sub c_Pm_sub k_Pm_sub
  have b_Pm_sub := F_Pm_sub.binds (ps := P_Pm_sub) fun _ _ _ _ _ _ us hl => match us, hl with | [_, _], _ => rfl
  have F_Pm_mul := fun_mk (st := s_Pm_mul) l_Pm_mul c_Pm_mul k_Pm_mul
  have b_Pm_mul := F_Pm_mul.binds (ps := P_Pm_mul) fun _ _ _ _ _ _ us hl => match us, hl with | [_, _], _ => rfl
  have F_Pm_rmul := fun_mk (st := s_Pm_rmul) l_Pm_rmul c_Pm_rmul k_Pm_rmul
  have b_Pm_rmul := F_Pm_rmul.binds (ps := P_Pm_rmul) fun _ _ _ _ _ _ us hl => match us, hl with | [_, _], _ => rfl
  have F__law_mixed := fun_mk (st := s__law_mixed) l__law_mixed c__law_mixed k__law_mixed
  have b__law_mixed := F__law_mixed.binds (ps := P__law_mixed) fun _ _ _ _ _ _ us hl => match us, hl with | [_, _], _ => rfl
  have F__law_purse := fun_mk (st := s__law_purse) l__law_purse c__law_purse k__law_purse
  have b__law_purse := F__law_purse.binds (ps := P__law_purse) fun _ _ _ _ _ _ us hl => match us, hl with | [_, _], _ => rfl
  have F__law_draw := fun_mk (st := s__law_draw) l__law_draw c__law_draw k__law_draw
  have b__law_draw := F__law_draw.binds (ps := P__law_draw) fun _ _ _ _ _ _ us hl => match us, hl with | [_, _], _ => rfl
  have F__law_cell_drawn := fun_mk (st := s__law_cell_drawn) l__law_cell_drawn c__law_cell_drawn k__law_cell_drawn
  have b__law_cell_drawn := F__law_cell_drawn.binds (ps := P__law_cell_drawn) fun _ _ _ _ _ _ us hl => match us, hl with | [_, _, _], _ => rfl
  have F__law_nest_drawn := fun_mk (st := s__law_nest_drawn) l__law_nest_drawn c__law_nest_drawn k__law_nest_drawn
  have b__law_nest_drawn := F__law_nest_drawn.binds (ps := P__law_nest_drawn) fun _ _ _ _ _ _ us hl => match us, hl with | [_, _, _, _, _], _ => rfl
  have F__law_times := fun_mk (st := s__law_times) l__law_times c__law_times k__law_times
  have b__law_times := F__law_times.binds (ps := P__law_times) fun _ _ _ _ _ _ us hl => match us, hl with | [_, _], _ => rfl
  have F__law_product := fun_mk (st := s__law_product) l__law_product c__law_product k__law_product
  have b__law_product := F__law_product.binds (ps := P__law_product) fun _ _ _ _ _ _ us hl => match us, hl with | [_, _], _ => rfl
  have F__law_caught := fun_mk (st := s__law_caught) l__law_caught c__law_caught k__law_caught
  have b__law_caught := F__law_caught.binds (ps := P__law_caught) fun _ _ _ _ _ _ us hl => match us, hl with | [_, _, _], _ => rfl
  have F__law_right := fun_mk (st := s__law_right) l__law_right c__law_right k__law_right
  have b__law_right := F__law_right.binds (ps := P__law_right) fun _ _ _ _ _ _ us hl => match us, hl with | [_, _, _, _], _ => rfl
  have F_law := fun_mk (st := s_law) l_law c_law k_law
  have b_law := F_law.binds (ps := P_law) fun _ _ _ _ _ _ us hl => match us, hl with | [_], _ => rfl
  have gB := PySem.W.mg_of X G aB
  have FI_InvalidNumber : FunD K "__init__" "InvalidNumber.__init__" (defArgs s_init_InvalidNumber) (defBody s_init_InvalidNumber) (defScope s_init_InvalidNumber) [.non] [] fI_InvalidNumber _ := ⟨⟨_, _, _, _, _, _, _, _, _, _, rfl, lI_InvalidNumber, cI_InvalidNumber, .inr ⟨by simp, TI_InvalidNumber, _, [.none], nT_InvalidNumber, rfl, lT_InvalidNumber, rfl, .cons rfl .nil⟩, .inl rfl⟩, kI_InvalidNumber⟩
  obtain ⟨dI_InvalidNumber, vI_InvalidNumber, bI_InvalidNumber⟩ := FI_InvalidNumber.binds1 (ps := ["self", "value"]) 2 1 (by simp) rfl fun T kV doc pm an cdv ct us its hu hi => match us, its, hu, hi with
    | [_, _], [_], _, _ => ⟨_, rfl, rfl⟩
  obtain rfl : dI_InvalidNumber = [] := by cases vI_InvalidNumber; rfl
  have oex_InvalidNumber : OexC K C_InvalidNumber := ⟨⟨nm_InvalidNumber, q_InvalidNumber, N_InvalidNumber, bs_InvalidNumber, bm_InvalidNumber, sn_InvalidNumber, sub_InvalidNumber, ab_InvalidNumber, col_InvalidNumber, dd_InvalidNumber, m0_InvalidNumber, m1_InvalidNumber, m2_InvalidNumber, m3_InvalidNumber, m5_InvalidNumber, xL_InvalidNumber, rB_InvalidNumber⟩, sa_InvalidNumber, eC_InvalidNumber, tC_InvalidNumber, kC_InvalidNumber⟩
  have xcl_InvalidNumber : (PySem.W.clsIn K C_InvalidNumber).isSome = true := by unfold PySem.W.clsIn; rw [xL_InvalidNumber]; rfl
  have gC_InvalidNumber := PySem.W.mg_of X G aC_InvalidNumber
  have FI_InvalidNest : FunD K "__init__" "InvalidNest.__init__" (defArgs s_init_InvalidNest) (defBody s_init_InvalidNest) (defScope s_init_InvalidNest) [.non] [] fI_InvalidNest _ := ⟨⟨_, _, _, _, _, _, _, _, _, _, rfl, lI_InvalidNest, cI_InvalidNest, .inr ⟨by simp, TI_InvalidNest, _, [.none], nT_InvalidNest, rfl, lT_InvalidNest, rfl, .cons rfl .nil⟩, .inl rfl⟩, kI_InvalidNest⟩
  obtain ⟨dI_InvalidNest, vI_InvalidNest, bI_InvalidNest⟩ := FI_InvalidNest.binds1 (ps := ["self", "value"]) 2 1 (by simp) rfl fun T kV doc pm an cdv ct us its hu hi => match us, its, hu, hi with
    | [_, _], [_], _, _ => ⟨_, rfl, rfl⟩
  obtain rfl : dI_InvalidNest = [] := by cases vI_InvalidNest; rfl
  have oex_InvalidNest : OexC K C_InvalidNest := ⟨⟨nm_InvalidNest, q_InvalidNest, N_InvalidNest, bs_InvalidNest, bm_InvalidNest, sn_InvalidNest, sub_InvalidNest, ab_InvalidNest, col_InvalidNest, dd_InvalidNest, m0_InvalidNest, m1_InvalidNest, m2_InvalidNest, m3_InvalidNest, m5_InvalidNest, xL_InvalidNest, rB_InvalidNest⟩, sa_InvalidNest, eC_InvalidNest, tC_InvalidNest, kC_InvalidNest⟩
  have xcl_InvalidNest : (PySem.W.clsIn K C_InvalidNest).isSome = true := by unfold PySem.W.clsIn; rw [xL_InvalidNest]; rfl
  have gC_InvalidNest := PySem.W.mg_of X G aC_InvalidNest
  have FI_InvalidList : FunD K "__init__" "InvalidList.__init__" (defArgs s_init_InvalidList) (defBody s_init_InvalidList) (defScope s_init_InvalidList) [.non] [] fI_InvalidList _ := ⟨⟨_, _, _, _, _, _, _, _, _, _, rfl, lI_InvalidList, cI_InvalidList, .inr ⟨by simp, TI_InvalidList, _, [.none], nT_InvalidList, rfl, lT_InvalidList, rfl, .cons rfl .nil⟩, .inl rfl⟩, kI_InvalidList⟩
  obtain ⟨dI_InvalidList, vI_InvalidList, bI_InvalidList⟩ := FI_InvalidList.binds1 (ps := ["self", "value"]) 2 1 (by simp) rfl fun T kV doc pm an cdv ct us its hu hi => match us, its, hu, hi with
    | [_, _], [_], _, _ => ⟨_, rfl, rfl⟩
  obtain rfl : dI_InvalidList = [] := by cases vI_InvalidList; rfl
  have oex_InvalidList : OexC K C_InvalidList := ⟨⟨nm_InvalidList, q_InvalidList, N_InvalidList, bs_InvalidList, bm_InvalidList, sn_InvalidList, sub_InvalidList, ab_InvalidList, col_InvalidList, dd_InvalidList, m0_InvalidList, m1_InvalidList, m2_InvalidList, m3_InvalidList, m5_InvalidList, xL_InvalidList, rB_InvalidList⟩, sa_InvalidList, eC_InvalidList, tC_InvalidList, kC_InvalidList⟩
  have xcl_InvalidList : (PySem.W.clsIn K C_InvalidList).isSome = true := by unfold PySem.W.clsIn; rw [xL_InvalidList]; rfl
  have gC_InvalidList := PySem.W.mg_of X G aC_InvalidList
  have FI_UnlikeAxes : FunD K "__init__" "UnlikeAxes.__init__" (defArgs s_init_UnlikeAxes) (defBody s_init_UnlikeAxes) (defScope s_init_UnlikeAxes) [.non] [] fI_UnlikeAxes _ := ⟨⟨_, _, _, _, _, _, _, _, _, _, rfl, lI_UnlikeAxes, cI_UnlikeAxes, .inr ⟨by simp, TI_UnlikeAxes, _, [.none], nT_UnlikeAxes, rfl, lT_UnlikeAxes, rfl, .cons rfl .nil⟩, .inl rfl⟩, kI_UnlikeAxes⟩
  obtain ⟨dI_UnlikeAxes, vI_UnlikeAxes, bI_UnlikeAxes⟩ := FI_UnlikeAxes.binds1 (ps := ["self", "axes"]) 2 1 (by simp) rfl fun T kV doc pm an cdv ct us its hu hi => match us, its, hu, hi with
    | [_, _], [_], _, _ => ⟨_, rfl, rfl⟩
  obtain rfl : dI_UnlikeAxes = [] := by cases vI_UnlikeAxes; rfl
  have oex_UnlikeAxes : OexC K C_UnlikeAxes := ⟨⟨nm_UnlikeAxes, q_UnlikeAxes, N_UnlikeAxes, bs_UnlikeAxes, bm_UnlikeAxes, sn_UnlikeAxes, sub_UnlikeAxes, ab_UnlikeAxes, col_UnlikeAxes, dd_UnlikeAxes, m0_UnlikeAxes, m1_UnlikeAxes, m2_UnlikeAxes, m3_UnlikeAxes, m5_UnlikeAxes, xL_UnlikeAxes, rB_UnlikeAxes⟩, sa_UnlikeAxes, eC_UnlikeAxes, tC_UnlikeAxes, kC_UnlikeAxes⟩
  have xcl_UnlikeAxes : (PySem.W.clsIn K C_UnlikeAxes).isSome = true := by unfold PySem.W.clsIn; rw [xL_UnlikeAxes]; rfl
  have gC_UnlikeAxes := PySem.W.mg_of X G aC_UnlikeAxes
  exact ⟨_, fun s u => .of_eq rfl, fun base _ _ => ok_law { f_is_whole := f_is_whole, fd_is_whole := _, F_is_whole := F_is_whole, b_is_whole := b_is_whole, g_is_whole := PySem.W.mg_of X G a_is_whole, f_plus := f_plus, fd_plus := _, F_plus := F_plus, b_plus := b_plus, g_plus := PySem.W.mg_of X G a_plus, f_is_axes := f_is_axes, fd_is_axes := _, F_is_axes := F_is_axes, b_is_axes := b_is_axes, g_is_axes := PySem.W.mg_of X G a_is_axes, f_is_vector := f_is_vector, fd_is_vector := _, F_is_vector := F_is_vector, b_is_vector := b_is_vector, g_is_vector := PySem.W.mg_of X G a_is_vector, f_is_loop := f_is_loop, fd_is_loop := _, F_is_loop := F_is_loop, b_is_loop := b_is_loop, g_is_loop := PySem.W.mg_of X G a_is_loop, f_is_nest := f_is_nest, fd_is_nest := _, F_is_nest := F_is_nest, b_is_nest := b_is_nest, g_is_nest := PySem.W.mg_of X G a_is_nest, f_Pm_init := f_Pm_init, fd_Pm_init := _, F_Pm_init := F_Pm_init, b_Pm_init := b_Pm_init, at_Pm_init := a_Pm_init, fn_Pm_init := pf_Pm_init, f_Pm_nests := f_Pm_nests, fd_Pm_nests := _, F_Pm_nests := F_Pm_nests, b_Pm_nests := b_Pm_nests, at_Pm_nests := a_Pm_nests, fn_Pm_nests := pf_Pm_nests, f_check_axes := f_check_axes, fd_check_axes := _, F_check_axes := F_check_axes, b_check_axes := b_check_axes, g_check_axes := PySem.W.mg_of X G a_check_axes, f_with_amounts := f_with_amounts, fd_with_amounts := _, F_with_amounts := F_with_amounts, b_with_amounts := b_with_amounts, g_with_amounts := PySem.W.mg_of X G a_with_amounts, f_convolved := f_convolved, fd_convolved := _, F_convolved := F_convolved, b_convolved := b_convolved, g_convolved := PySem.W.mg_of X G a_convolved, f_Pm_add := f_Pm_add, fd_Pm_add := _, F_Pm_add := F_Pm_add, b_Pm_add := b_Pm_add, at_Pm_add := a_Pm_add, fn_Pm_add := pf_Pm_add, f_Pm_neg := f_Pm_neg, fd_Pm_neg := _, F_Pm_neg := F_Pm_neg, b_Pm_neg := b_Pm_neg, at_Pm_neg := a_Pm_neg, fn_Pm_neg := pf_Pm_neg, f_Pm_sub := f_Pm_sub, fd_Pm_sub := _, F_Pm_sub := F_Pm_sub, b_Pm_sub := b_Pm_sub, at_Pm_sub := a_Pm_sub, fn_Pm_sub := pf_Pm_sub, f_Pm_mul := f_Pm_mul, fd_Pm_mul := _, F_Pm_mul := F_Pm_mul, b_Pm_mul := b_Pm_mul, at_Pm_mul := a_Pm_mul, fn_Pm_mul := pf_Pm_mul, f_Pm_rmul := f_Pm_rmul, fd_Pm_rmul := _, F_Pm_rmul := F_Pm_rmul, b_Pm_rmul := b_Pm_rmul, at_Pm_rmul := a_Pm_rmul, fn_Pm_rmul := pf_Pm_rmul, f__law_mixed := f__law_mixed, fd__law_mixed := _, F__law_mixed := F__law_mixed, b__law_mixed := b__law_mixed, g__law_mixed := PySem.W.mg_of X G a__law_mixed, f__law_purse := f__law_purse, fd__law_purse := _, F__law_purse := F__law_purse, b__law_purse := b__law_purse, g__law_purse := PySem.W.mg_of X G a__law_purse, f__law_draw := f__law_draw, fd__law_draw := _, F__law_draw := F__law_draw, b__law_draw := b__law_draw, g__law_draw := PySem.W.mg_of X G a__law_draw, f__law_cell_drawn := f__law_cell_drawn, fd__law_cell_drawn := _, F__law_cell_drawn := F__law_cell_drawn, b__law_cell_drawn := b__law_cell_drawn, g__law_cell_drawn := PySem.W.mg_of X G a__law_cell_drawn, f__law_nest_drawn := f__law_nest_drawn, fd__law_nest_drawn := _, F__law_nest_drawn := F__law_nest_drawn, b__law_nest_drawn := b__law_nest_drawn, g__law_nest_drawn := PySem.W.mg_of X G a__law_nest_drawn, f__law_times := f__law_times, fd__law_times := _, F__law_times := F__law_times, b__law_times := b__law_times, g__law_times := PySem.W.mg_of X G a__law_times, f__law_product := f__law_product, fd__law_product := _, F__law_product := F__law_product, b__law_product := b__law_product, g__law_product := PySem.W.mg_of X G a__law_product, f__law_caught := f__law_caught, fd__law_caught := _, F__law_caught := F__law_caught, b__law_caught := b__law_caught, g__law_caught := PySem.W.mg_of X G a__law_caught, f__law_right := f__law_right, fd__law_right := _, F__law_right := F__law_right, b__law_right := b__law_right, g__law_right := PySem.W.mg_of X G a__law_right, f_law := fa, fd_law := _, F_law := F_law, b_law := b_law, g_law := PySem.W.mg_of X G a_law, C_Program := C_Program, g_Program := PySem.W.mg_of X G aP_Program, mk_Program := ⟨pc_mk_Program, a_Pm_init, pf_Pm_init, pc_kc_Program⟩, ci_Program := ⟨⟨pc_pg_Program, pc_hd_Program, pc_po_Program, pc_sa_Program⟩, pc_ha_Program, pc_hn_Program, pc_htk_Program, pc_hm_Program, pc_sf_Program⟩, ki_Program := pc_ki_Program, kn_Program := pc_kn_Program, isub_Program := pc_is_Program, subi_Program := pc_si_Program, na_axes := pc_na_axes_Program, na_parts := pc_na_parts_Program, ni_add := noip dip_add (by obtain ⟨cd, e1, e2⟩ := Option.map_eq_some_iff.1 pc_mro_Program; exact ⟨cd, e1, e2⟩) pc_io_add_Program pc_oo_add_Program, ni_sub := noip dip_sub (by obtain ⟨cd, e1, e2⟩ := Option.map_eq_some_iff.1 pc_mro_Program; exact ⟨cd, e1, e2⟩) pc_io_sub_Program pc_oo_sub_Program, ni_mul := noip dip_mul (by obtain ⟨cd, e1, e2⟩ := Option.map_eq_some_iff.1 pc_mro_Program; exact ⟨cd, e1, e2⟩) pc_io_mul_Program pc_oo_mul_Program, rop_Pm_mul := at_opR dop_rmul a_Pm_rmul, rop1_Pm_mul := .inr ⟨_, rfl⟩, iop_mul := at_op dop_mul pc_i1_mul_Program, iopR_mul := at_opR dop_rmul pc_i2_mul_Program, n_int := PySem.W.mg_none_of X G z_int, n_bool := PySem.W.mg_none_of X G z_bool, n_list := PySem.W.mg_none_of X G z_list, n_tuple := PySem.W.mg_none_of X G z_tuple, n_isinstance := PySem.W.mg_none_of X G z_isinstance, n_len := PySem.W.mg_none_of X G z_len, n_all := PySem.W.mg_none_of X G z_all, n_any := PySem.W.mg_none_of X G z_any, n_range := PySem.W.mg_none_of X G z_range, n_zip := PySem.W.mg_none_of X G z_zip, n_repr := PySem.W.mg_none_of X G z_repr, n_max := PySem.W.mg_none_of X G z_max, n_sum := PySem.W.mg_none_of X G z_sum, t_MOST_AXES := t_MOST_AXES, c_MOST_AXES := PySem.W.mg_of X G m_MOST_AXES, B_AddError := B, bc := ⟨gB, bs1, brd, bfc⟩, g_AddError := gB, C_InvalidNumber := C_InvalidNumber, fI_InvalidNumber := fI_InvalidNumber, fdI_InvalidNumber := _, FI_InvalidNumber := FI_InvalidNumber, bi_InvalidNumber := bI_InvalidNumber, e_InvalidNumber := ⟨gC_InvalidNumber, oex_InvalidNumber, iC_InvalidNumber, tI_InvalidNumber, nF_InvalidNumber⟩, g_InvalidNumber := gC_InvalidNumber, C_InvalidNest := C_InvalidNest, fI_InvalidNest := fI_InvalidNest, fdI_InvalidNest := _, FI_InvalidNest := FI_InvalidNest, bi_InvalidNest := bI_InvalidNest, e_InvalidNest := ⟨gC_InvalidNest, oex_InvalidNest, iC_InvalidNest, tI_InvalidNest, nF_InvalidNest⟩, g_InvalidNest := gC_InvalidNest, C_InvalidList := C_InvalidList, fI_InvalidList := fI_InvalidList, fdI_InvalidList := _, FI_InvalidList := FI_InvalidList, bi_InvalidList := bI_InvalidList, e_InvalidList := ⟨gC_InvalidList, oex_InvalidList, iC_InvalidList, tI_InvalidList, nF_InvalidList⟩, g_InvalidList := gC_InvalidList, C_UnlikeAxes := C_UnlikeAxes, fI_UnlikeAxes := fI_UnlikeAxes, fdI_UnlikeAxes := _, FI_UnlikeAxes := FI_UnlikeAxes, bi_UnlikeAxes := bI_UnlikeAxes, e_UnlikeAxes := ⟨gC_UnlikeAxes, oex_UnlikeAxes, iC_UnlikeAxes, tI_UnlikeAxes, nF_UnlikeAxes⟩, g_UnlikeAxes := gC_UnlikeAxes, xk_UnlikeAxes := ⟨xcl_UnlikeAxes, xga_UnlikeAxes, xgt_UnlikeAxes, eC_UnlikeAxes, xhd_UnlikeAxes, xha_UnlikeAxes, xhn_UnlikeAxes, xtk_UnlikeAxes, xhm_UnlikeAxes⟩, xm_UnlikeAxes := xem_UnlikeAxes, xi_UnlikeAxes := xki_UnlikeAxes }⟩
end K11
set_option maxHeartbeats 0
open PySem PySem.W PyProof.Rows
open_top head for PySem.Challenge.rw_addnests_k11_programs_added
set_option maxRecDepth 100000 in
set_option maxHeartbeats 0 in
theorem PySem.Challenge.cw_addnests_k11_programs_added_holds : PySem.Challenge.rw_addnests_k11_programs_added.Holds := by
  refine head ?_
  k_fill
  refine DL.walkD (l := PySem.Challenge.rw_addnests_k11_programs_added) (k := 11) (x := "_law_script") rfl rfl ⟨rfl, by decide, by decide⟩ (by first | rfl | decide +kernel | k_is) ?hK (fun w h Y => PySem.W.km_in_of Y) ?F
  case hK => intro w; first | rfl | k_is
  case F =>
    intro w mg fa h KX G hmg
    refine' K11.all_mk KX G hmg ?aP_Program ?a_is_whole ?l_is_whole ?c_is_whole ?k_is_whole ?a_plus ?l_plus ?c_plus ?k_plus ?a_is_axes ?l_is_axes ?c_is_axes ?k_is_axes ?a_is_vector ?l_is_vector ?c_is_vector ?k_is_vector ?a_is_loop ?l_is_loop ?c_is_loop ?k_is_loop ?a_is_nest ?l_is_nest ?c_is_nest ?k_is_nest ?a_Pm_init ?l_Pm_init ?c_Pm_init ?k_Pm_init ?a_Pm_nests ?l_Pm_nests ?c_Pm_nests ?k_Pm_nests ?a_check_axes ?l_check_axes ?c_check_axes ?k_check_axes ?a_with_amounts ?l_with_amounts ?c_with_amounts ?k_with_amounts ?a_convolved ?l_convolved ?c_convolved ?k_convolved ?a_Pm_add ?l_Pm_add ?c_Pm_add ?k_Pm_add ?a_Pm_neg ?l_Pm_neg ?c_Pm_neg ?k_Pm_neg ?a_Pm_sub ?l_Pm_sub ?c_Pm_sub ?k_Pm_sub ?a_Pm_mul ?l_Pm_mul ?c_Pm_mul ?k_Pm_mul ?a_Pm_rmul ?l_Pm_rmul ?c_Pm_rmul ?k_Pm_rmul ?a__law_mixed ?l__law_mixed ?c__law_mixed ?k__law_mixed ?a__law_purse ?l__law_purse ?c__law_purse ?k__law_purse ?a__law_draw ?l__law_draw ?c__law_draw ?k__law_draw ?a__law_cell_drawn ?l__law_cell_drawn ?c__law_cell_drawn ?k__law_cell_drawn ?a__law_nest_drawn ?l__law_nest_drawn ?c__law_nest_drawn ?k__law_nest_drawn ?a__law_times ?l__law_times ?c__law_times ?k__law_times ?a__law_product ?l__law_product ?c__law_product ?k__law_product ?a__law_caught ?l__law_caught ?c__law_caught ?k__law_caught ?a__law_right ?l__law_right ?c__law_right ?k__law_right ?a_law ?l_law ?c_law ?k_law ?z_int ?z_bool ?z_list ?z_tuple ?z_isinstance ?z_len ?z_all ?z_any ?z_range ?z_zip ?z_repr ?z_max ?z_sum ?m_MOST_AXES ?aB ?bs1 ?brd ?bfc ?aC_InvalidNumber ?iC_InvalidNumber ?tI_InvalidNumber ?lI_InvalidNumber ?lT_InvalidNumber ?cI_InvalidNumber ?kI_InvalidNumber ?xL_InvalidNumber ?rB_InvalidNumber ?sa_InvalidNumber ?eC_InvalidNumber ?tC_InvalidNumber ?kC_InvalidNumber ?nF_InvalidNumber ?aC_InvalidNest ?iC_InvalidNest ?tI_InvalidNest ?lI_InvalidNest ?lT_InvalidNest ?cI_InvalidNest ?kI_InvalidNest ?xL_InvalidNest ?rB_InvalidNest ?sa_InvalidNest ?eC_InvalidNest ?tC_InvalidNest ?kC_InvalidNest ?nF_InvalidNest ?aC_InvalidList ?iC_InvalidList ?tI_InvalidList ?lI_InvalidList ?lT_InvalidList ?cI_InvalidList ?kI_InvalidList ?xL_InvalidList ?rB_InvalidList ?sa_InvalidList ?eC_InvalidList ?tC_InvalidList ?kC_InvalidList ?nF_InvalidList ?aC_UnlikeAxes ?iC_UnlikeAxes ?tI_UnlikeAxes ?lI_UnlikeAxes ?lT_UnlikeAxes ?cI_UnlikeAxes ?kI_UnlikeAxes ?xL_UnlikeAxes ?rB_UnlikeAxes ?sa_UnlikeAxes ?eC_UnlikeAxes ?tC_UnlikeAxes ?kC_UnlikeAxes ?nF_UnlikeAxes ?xga_UnlikeAxes ?xgt_UnlikeAxes ?xhd_UnlikeAxes ?xha_UnlikeAxes ?xhn_UnlikeAxes ?xtk_UnlikeAxes ?xhm_UnlikeAxes ?xem_UnlikeAxes ?xki_UnlikeAxes ?pc_pg_Program ?pc_hd_Program ?pc_po_Program ?pc_sa_Program ?pc_mk_Program ?pc_kc_Program ?pc_ha_Program ?pc_hn_Program ?pc_htk_Program ?pc_hm_Program ?pc_sf_Program ?pc_ki_Program ?pc_kn_Program ?pc_is_Program ?pc_si_Program ?pc_na_axes_Program ?pc_na_parts_Program ?pc_mro_Program ?pc_io_add_Program ?pc_oo_add_Program ?pc_io_sub_Program ?pc_oo_sub_Program ?pc_io_mul_Program ?pc_oo_mul_Program ?pc_i1_mul_Program ?pc_i2_mul_Program ?pf_Pm_init ?pf_Pm_nests ?pf_Pm_add ?pf_Pm_neg ?pf_Pm_sub ?pf_Pm_mul ?pf_Pm_rmul
    (case aP_Program => k_is)
    (case a_is_whole => k_is)
    (case l_is_whole => k_is)
    (case c_is_whole => k_is)
    (case k_is_whole => k_is)
    (case a_plus => k_is)
    (case l_plus => k_is)
    (case c_plus => k_is)
    (case k_plus => k_is)
    (case a_is_axes => k_is)
    (case l_is_axes => k_is)
    (case c_is_axes => k_is)
    (case k_is_axes => k_is)
    (case a_is_vector => k_is)
    (case l_is_vector => k_is)
    (case c_is_vector => k_is)
    (case k_is_vector => k_is)
    (case a_is_loop => k_is)
    (case l_is_loop => k_is)
    (case c_is_loop => k_is)
    (case k_is_loop => k_is)
    (case a_is_nest => k_is)
    (case l_is_nest => k_is)
    (case c_is_nest => k_is)
    (case k_is_nest => k_is)
    (case a_Pm_init => k_is)
    (case l_Pm_init => k_is)
    (case c_Pm_init => k_is)
    (case k_Pm_init => k_is)
    (case a_Pm_nests => k_is)
    (case l_Pm_nests => k_is)
    (case c_Pm_nests => k_is)
    (case k_Pm_nests => k_is)
    (case a_check_axes => k_is)
    (case l_check_axes => k_is)
    (case c_check_axes => k_is)
    (case k_check_axes => k_is)
    (case a_with_amounts => k_is)
    (case l_with_amounts => k_is)
    (case c_with_amounts => k_is)
    (case k_with_amounts => k_is)
    (case a_convolved => k_is)
    (case l_convolved => k_is)
    (case c_convolved => k_is)
    (case k_convolved => k_is)
    (case a_Pm_add => k_is)
    (case l_Pm_add => k_is)
    (case c_Pm_add => k_is)
    (case k_Pm_add => k_is)
    (case a_Pm_neg => k_is)
    (case l_Pm_neg => k_is)
    (case c_Pm_neg => k_is)
    (case k_Pm_neg => k_is)
    (case a_Pm_sub => k_is)
    (case l_Pm_sub => k_is)
    (case c_Pm_sub => k_is)
    (case k_Pm_sub => k_is)
    (case a_Pm_mul => k_is)
    (case l_Pm_mul => k_is)
    (case c_Pm_mul => k_is)
    (case k_Pm_mul => k_is)
    (case a_Pm_rmul => k_is)
    (case l_Pm_rmul => k_is)
    (case c_Pm_rmul => k_is)
    (case k_Pm_rmul => k_is)
    (case a__law_mixed => k_is)
    (case l__law_mixed => k_is)
    (case c__law_mixed => k_is)
    (case k__law_mixed => k_is)
    (case a__law_purse => k_is)
    (case l__law_purse => k_is)
    (case c__law_purse => k_is)
    (case k__law_purse => k_is)
    (case a__law_draw => k_is)
    (case l__law_draw => k_is)
    (case c__law_draw => k_is)
    (case k__law_draw => k_is)
    (case a__law_cell_drawn => k_is)
    (case l__law_cell_drawn => k_is)
    (case c__law_cell_drawn => k_is)
    (case k__law_cell_drawn => k_is)
    (case a__law_nest_drawn => k_is)
    (case l__law_nest_drawn => k_is)
    (case c__law_nest_drawn => k_is)
    (case k__law_nest_drawn => k_is)
    (case a__law_times => k_is)
    (case l__law_times => k_is)
    (case c__law_times => k_is)
    (case k__law_times => k_is)
    (case a__law_product => k_is)
    (case l__law_product => k_is)
    (case c__law_product => k_is)
    (case k__law_product => k_is)
    (case a__law_caught => k_is)
    (case l__law_caught => k_is)
    (case c__law_caught => k_is)
    (case k__law_caught => k_is)
    (case a__law_right => k_is)
    (case l__law_right => k_is)
    (case c__law_right => k_is)
    (case k__law_right => k_is)
    (case a_law => k_is)
    (case l_law => k_is)
    (case c_law => k_is)
    (case k_law => k_is)
    (case z_int => k_is)
    (case z_bool => k_is)
    (case z_list => k_is)
    (case z_tuple => k_is)
    (case z_isinstance => k_is)
    (case z_len => k_is)
    (case z_all => k_is)
    (case z_any => k_is)
    (case z_range => k_is)
    (case z_zip => k_is)
    (case z_repr => k_is)
    (case z_max => k_is)
    (case z_sum => k_is)
    (case m_MOST_AXES => k_is)
    (case aB => k_is)
    (case bs1 => k_is)
    (case brd => k_is)
    (case bfc => k_is)
    (case aC_InvalidNumber => k_is)
    (case iC_InvalidNumber => k_is)
    (case tI_InvalidNumber => k_is)
    (case lI_InvalidNumber => k_is)
    (case lT_InvalidNumber => k_is)
    (case cI_InvalidNumber => k_is)
    (case kI_InvalidNumber => k_is)
    (case xL_InvalidNumber => k_is)
    (case rB_InvalidNumber => first | rfl | decide +kernel | k_is)
    (case sa_InvalidNumber => k_is)
    (case eC_InvalidNumber => k_is)
    (case tC_InvalidNumber => k_is)
    (case kC_InvalidNumber => k_is)
    (case nF_InvalidNumber => k_is)
    (case aC_InvalidNest => k_is)
    (case iC_InvalidNest => k_is)
    (case tI_InvalidNest => k_is)
    (case lI_InvalidNest => k_is)
    (case lT_InvalidNest => k_is)
    (case cI_InvalidNest => k_is)
    (case kI_InvalidNest => k_is)
    (case xL_InvalidNest => k_is)
    (case rB_InvalidNest => first | rfl | decide +kernel | k_is)
    (case sa_InvalidNest => k_is)
    (case eC_InvalidNest => k_is)
    (case tC_InvalidNest => k_is)
    (case kC_InvalidNest => k_is)
    (case nF_InvalidNest => k_is)
    (case aC_InvalidList => k_is)
    (case iC_InvalidList => k_is)
    (case tI_InvalidList => k_is)
    (case lI_InvalidList => k_is)
    (case lT_InvalidList => k_is)
    (case cI_InvalidList => k_is)
    (case kI_InvalidList => k_is)
    (case xL_InvalidList => k_is)
    (case rB_InvalidList => first | rfl | decide +kernel | k_is)
    (case sa_InvalidList => k_is)
    (case eC_InvalidList => k_is)
    (case tC_InvalidList => k_is)
    (case kC_InvalidList => k_is)
    (case nF_InvalidList => k_is)
    (case aC_UnlikeAxes => k_is)
    (case iC_UnlikeAxes => k_is)
    (case tI_UnlikeAxes => k_is)
    (case lI_UnlikeAxes => k_is)
    (case lT_UnlikeAxes => k_is)
    (case cI_UnlikeAxes => k_is)
    (case kI_UnlikeAxes => k_is)
    (case xL_UnlikeAxes => k_is)
    (case rB_UnlikeAxes => first | rfl | decide +kernel | k_is)
    (case sa_UnlikeAxes => k_is)
    (case eC_UnlikeAxes => k_is)
    (case tC_UnlikeAxes => k_is)
    (case kC_UnlikeAxes => k_is)
    (case nF_UnlikeAxes => k_is)
    (case xga_UnlikeAxes => k_is)
    (case xgt_UnlikeAxes => k_is)
    (case xhd_UnlikeAxes => k_is)
    (case xha_UnlikeAxes => k_is)
    (case xhn_UnlikeAxes => k_is)
    (case xtk_UnlikeAxes => k_is)
    (case xhm_UnlikeAxes => k_is)
    (case xem_UnlikeAxes => first | rfl | decide +kernel | k_is)
    (case xki_UnlikeAxes => first | rfl | decide +kernel | k_is)
    (case pc_pg_Program => first | k_is | rfl | decide +kernel)
    (case pc_hd_Program => first | k_is | rfl | decide +kernel)
    (case pc_po_Program => first | k_is | rfl | decide +kernel)
    (case pc_sa_Program => first | k_is | rfl | decide +kernel)
    (case pc_mk_Program => first | k_is | rfl | decide +kernel)
    (case pc_kc_Program => first | k_is | rfl | decide +kernel)
    (case pc_ha_Program => first | k_is | rfl | decide +kernel)
    (case pc_hn_Program => first | k_is | rfl | decide +kernel)
    (case pc_htk_Program => first | k_is | rfl | decide +kernel)
    (case pc_hm_Program => first | k_is | rfl | decide +kernel)
    (case pc_sf_Program => first | k_is | rfl | decide +kernel)
    (case pc_ki_Program => first | k_is | rfl | decide +kernel)
    (case pc_kn_Program => first | k_is | rfl | decide +kernel)
    (case pc_is_Program => first | k_is | rfl | decide +kernel)
    (case pc_si_Program => first | k_is | rfl | decide +kernel)
    (case pc_na_axes_Program => first | k_is | rfl | decide +kernel)
    (case pc_na_parts_Program => first | k_is | rfl | decide +kernel)
    (case pc_mro_Program => first | k_is | rfl | decide +kernel)
    (case pc_io_add_Program => first | k_is | rfl | decide +kernel)
    (case pc_oo_add_Program => first | k_is | rfl | decide +kernel)
    (case pc_io_sub_Program => first | k_is | rfl | decide +kernel)
    (case pc_oo_sub_Program => first | k_is | rfl | decide +kernel)
    (case pc_io_mul_Program => first | k_is | rfl | decide +kernel)
    (case pc_oo_mul_Program => first | k_is | rfl | decide +kernel)
    (case pc_i1_mul_Program => first | k_is | rfl | decide +kernel)
    (case pc_i2_mul_Program => first | k_is | rfl | decide +kernel)
    (case pf_Pm_init => first | k_is | rfl | decide +kernel)
    (case pf_Pm_nests => first | k_is | rfl | decide +kernel)
    (case pf_Pm_add => first | k_is | rfl | decide +kernel)
    (case pf_Pm_neg => first | k_is | rfl | decide +kernel)
    (case pf_Pm_sub => first | k_is | rfl | decide +kernel)
    (case pf_Pm_mul => first | k_is | rfl | decide +kernel)
    (case pf_Pm_rmul => first | k_is | rfl | decide +kernel)
