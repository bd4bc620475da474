import PyProof.Rows.All
import Wide.All
import OpenK.AllK
import Wide.FinOn
import HandS.ForMost
import HandS.Evl
import HandS.TupAny
import HandS.TupMul
import HandS.WideBits
import HandS.IsInst
import HandS.Conv
import PyProof.ReprRoads
import HandS.Codes
import HandS.Walk
import HandS.Zip
import HandS.ExcInit
import HandS.ExcField
import HandS.ExcIs
import HandS.ExcValue
import HandS.TryOnly
import KE.KExcIs
import HandS.WordsExc
import HandS.ExcOwn
import PyProof.CallFns
import HandS.Defaults
import PySem.Challenge.RW_addnests_k02_cells_and_nests_told
set_option Elab.async false
set_option linter.all false
set_option maxRecDepth 100000
set_option maxHeartbeats 4000000
/-! DL1: data as trees over the abstract heap; readings lifted to data. -/
namespace DL
open PySem PySem.Spec PyProof.Rows L2
open Evl (Ex ex_rd ex_l ex_t fresh_back)

/-- data: what a value is as a tree; val: an opaque value (a def, a class, an address of a thing that changes); any: whatever a word holds of -/
inductive D where
  | non | bl (b : Bool) | int (i : Int) | str (x : Str)
  | lst (xs : List D) | tup (xs : List D) | dct (kvs : List (Key × D))
  | ins (C : Addr) (fs : List (Str × D))
  | val (v : V)
  | any (P : Hp → V → Prop)

mutual
inductive Dt (H : Hp) : V → D → Prop
  | non : Dt H .non .non
  | bl (b) : Dt H (.bl b) (.bl b)
  | int (i) : Dt H (.int i) (.int i)
  | str (x) : Dt H (.str x) (.str x)
  | lst {a vs ds} : H a = some (.lst vs) → DtAll H vs ds → Dt H (.ref a) (.lst ds)
  | tup {a vs ds} : H a = some (.tup vs) → DtAll H vs ds → Dt H (.ref a) (.tup ds)
  | dct {a kvs ds} : H a = some (.dK kvs) → kvs.map (·.1) = ds.map (·.1) → DtAll H (kvs.map (·.2)) (ds.map (·.2)) → Dt H (.ref a) (.dct ds)
  | ins {a C dx fvs fs} : H a = some (.ins C dx fvs) → fvs.map (·.1) = fs.map (·.1) → DtAll H (fvs.map (·.2)) (fs.map (·.2)) → Dt H (.ref a) (.ins C fs)
  | val (v) : Dt H v (.val v)
  | any {v P} : P H v → (∀ H1 H2 u, Ex H1 H2 → P H1 u → P H2 u) → Dt H v (.any P)
inductive DtAll (H : Hp) : List V → List D → Prop
  | nil : DtAll H [] []
  | cons {v d vs ds} : Dt H v d → DtAll H vs ds → DtAll H (v :: vs) (d :: ds)
end

mutual
theorem Dt.mono {H H' : Hp} (e : Ex H H') : ∀ {v : V} {d : D}, Dt H v d → Dt H' v d
  | _, _, .non => .non
  | _, _, .bl b => .bl b
  | _, _, .int i => .int i
  | _, _, .str x => .str x
  | _, _, .lst r t => .lst (e _ _ r) (DtAll.mono e t)
  | _, _, .tup r t => .tup (e _ _ r) (DtAll.mono e t)
  | _, _, .dct r k t => .dct (e _ _ r) k (DtAll.mono e t)
  | _, _, .ins r k t => .ins (e _ _ r) k (DtAll.mono e t)
  | _, _, .val v => .val v
  | _, _, .any p m => .any (m _ _ _ e p) m
theorem DtAll.mono {H H' : Hp} (e : Ex H H') : ∀ {vs : List V} {ds : List D}, DtAll H vs ds → DtAll H' vs ds
  | _, _, .nil => .nil
  | _, _, .cons r t => .cons (Dt.mono e r) (DtAll.mono e t)
end
theorem DtAll.length {H : Hp} : ∀ {vs : List V} {ds : List D}, DtAll H vs ds → vs.length = ds.length
  | _, _, .nil => rfl
  | _, _, .cons _ t => congrArg (· + 1) (DtAll.length t)
theorem DtAll.append {H : Hp} : ∀ {vs ws : List V} {ds es : List D}, DtAll H vs ds → DtAll H ws es → DtAll H (vs ++ ws) (ds ++ es)
  | _, _, _, _, .nil, s => s
  | _, _, _, _, .cons r t, s => .cons r (DtAll.append t s)
theorem DtAll.get {H : Hp} : ∀ {vs : List V} {ds : List D} {i : Nat} {d : D}, DtAll H vs ds → ds[i]? = some d → ∃ v, vs[i]? = some v ∧ Dt H v d
  | _, _, _, _, .nil, e => by simp at e
  | _, _, 0, _, .cons r _, e => by simp at e; subst e; exact ⟨_, rfl, r⟩
  | _, _, i + 1, d, .cons _ t, e => by
    obtain ⟨v, h1, h2⟩ := DtAll.get (i := i) (d := d) t (by simpa using e)
    exact ⟨v, by simpa using h1, h2⟩
theorem DtAll.getV {H : Hp} : ∀ {vs : List V} {ds : List D} {i : Nat} {v : V}, DtAll H vs ds → vs[i]? = some v → ∃ d, ds[i]? = some d ∧ Dt H v d
  | _, _, _, _, .nil, e => by simp at e
  | _, _, 0, _, .cons r _, e => by simp at e; subst e; exact ⟨_, rfl, r⟩
  | _, _, i + 1, v, .cons _ t, e => by
    obtain ⟨d, h1, h2⟩ := DtAll.getV (i := i) (v := v) t (by simpa using e)
    exact ⟨d, by simpa using h1, h2⟩
theorem DtAll.take {H : Hp} : ∀ {vs : List V} {ds : List D} (n : Nat), DtAll H vs ds → DtAll H (vs.take n) (ds.take n)
  | _, _, 0, _ => .nil
  | _, _, _ + 1, .nil => .nil
  | _, _, n + 1, .cons r t => .cons r (DtAll.take n t)
theorem DtAll.drop {H : Hp} : ∀ {vs : List V} {ds : List D} (n : Nat), DtAll H vs ds → DtAll H (vs.drop n) (ds.drop n)
  | _, _, 0, r => r
  | _, _, _ + 1, .nil => .nil
  | _, _, n + 1, .cons _ t => DtAll.drop n t

/-! ### the state: data in H0, things that change by μ, the heap H1 -/
inductive MO where
  | lst (ds : List D)
  | ins (C : Addr) (fs : List (Str × D))
abbrev Mu := Addr → Option MO
def mup (μ : Mu) (a : Addr) (m : MO) : Mu := fun b => if b = a then some m else μ b
theorem mup_same {μ : Mu} {a : Addr} {m : MO} : mup μ a m a = some m := by unfold mup; rw [if_pos rfl]
theorem mup_ne {μ : Mu} {a b : Addr} {m : MO} (h : b ≠ a) : mup μ a m b = μ b := by unfold mup; rw [if_neg h]
def MoOk (H0 H1 : Hp) (a : Addr) : MO → Prop
  | .lst ds => ∃ vs, H1 a = some (.lst vs) ∧ DtAll H0 vs ds
  | .ins C fs => ∃ dx fvs, H1 a = some (.ins C dx fvs) ∧ fvs.map (·.1) = fs.map (·.1) ∧ DtAll H0 (fvs.map (·.2)) (fs.map (·.2))
/-- the modules' dict stands where nothing new will: so a list is never it -/
def Sys (H : Hp) : Prop := ∃ o : Obj, H sysModules = some (.frz o (.own 0))
theorem Sys.upd {H : Hp} {p : Addr} {o : HO} (s : Sys H) (h : ∀ φ, H p ≠ some (.frz φ (.own 0))) : Sys (upd H p o) := by
  obtain ⟨φ, e⟩ := s
  refine ⟨φ, ?_⟩
  rw [upd_ne]
  · exact e
  · intro z
    rw [z] at e
    exact h φ e
/-- what holds of the data's heap wherever one stands (a def's entry: it extends that of the entry) -/
class Amb where
  P : Hp → Prop
  mono : ∀ H H', Ex H H' → P H → P H'
structure Rw0 (μ : Mu) (H0 H1 : Hp) : Prop where
  ex : Ex H0 H1
  sys : Sys H1
  mu : ∀ a m, μ a = some m → H0 a = none ∧ MoOk H0 H1 a m
variable [AM : Amb]
structure Rw (μ : Mu) (H0 H1 : Hp) : Prop extends Rw0 μ H0 H1 where
  am : Amb.P H0
abbrev Ro := List (Option D)
structure Sl (ρ : Ro) (σ : L2.St) (H0 : Hp) : Prop where
  len : σ.length = ρ.length
  at_ : ∀ (i : Nat) (d : D), ρ[i]? = some (some d) → ∃ v, σ[i]? = some (some v) ∧ Dt H0 v d
theorem Sl.mono {ρ : Ro} {σ : L2.St} {H0 H0' : Hp} (e : Ex H0 H0') (s : Sl ρ σ H0) : Sl ρ σ H0' :=
  ⟨s.len, fun i d h => let ⟨v, a, b⟩ := s.at_ i d h; ⟨v, a, b.mono e⟩⟩
theorem Sl.set {ρ : Ro} {σ : L2.St} {H0 : Hp} (s : Sl ρ σ H0) (i : Nat) {v : V} {d : D} (r : Dt H0 v d) : Sl (ρ.set i (some d)) (σ.set i (some v)) H0 :=
  ⟨by simp [s.len], fun j e h => by
    by_cases hj : i = j
    · subst hj
      by_cases hi : i < ρ.length
      · rw [List.getElem?_set_self hi] at h
        cases h
        exact ⟨v, by rw [List.getElem?_set_self (by rw [s.len]; exact hi)], r⟩
      · rw [List.getElem?_eq_none (by simpa using hi)] at h
        cases h
    · rw [List.getElem?_set_ne hj] at h ⊢
      exact s.at_ j e h⟩
/-- a new object of data -/
theorem Rw0.new {μ : Mu} {H0 H1 : Hp} {p : Addr} {o : HO} (r : Rw0 μ H0 H1) (hp : H1 p = none) : Ex H0 (upd H0 p o) ∧ Rw0 μ (upd H0 p o) (upd H1 p o) := by
  have h0 : H0 p = none := fresh_back r.ex hp
  refine ⟨Ex.new h0, ⟨fun a u h => ?_, r.sys.upd (fun φ z => by rw [hp] at z; cases z), fun a m h => ?_⟩⟩
  · by_cases ha : a = p
    · subst ha; rw [upd_same] at h ⊢; exact h
    · rw [upd_ne ha] at h ⊢; exact r.ex a u h
  · obtain ⟨q1, q2⟩ := r.mu a m h
    have ha : a ≠ p := by
      rintro rfl
      cases m with
      | lst ds => obtain ⟨vs, e, _⟩ := q2; rw [hp] at e; cases e
      | ins C fs => obtain ⟨_, _, e, _⟩ := q2; rw [hp] at e; cases e
    refine ⟨by rw [upd_ne ha]; exact q1, ?_⟩
    cases m with
    | lst ds =>
      obtain ⟨vs, e, t⟩ := q2
      exact ⟨vs, by rw [upd_ne ha]; exact e, t.mono (Ex.new h0)⟩
    | ins C fs =>
      obtain ⟨dx, fvs, e, k, t⟩ := q2
      exact ⟨dx, fvs, by rw [upd_ne ha]; exact e, k, t.mono (Ex.new h0)⟩
theorem Rw.new {μ : Mu} {H0 H1 : Hp} {p : Addr} {o : HO} (r : Rw μ H0 H1) (hp : H1 p = none) : Ex H0 (upd H0 p o) ∧ Rw μ (upd H0 p o) (upd H1 p o) :=
  let ⟨e, r2⟩ := r.toRw0.new (o := o) hp
  ⟨e, ⟨r2, Amb.mono _ _ e r.am⟩⟩

/-! ### readings over data -/
abbrev KD := D → Mu → Prop
abbrev DE := Ro → Mu → KD → Prop
abbrev DT := Ro → Mu → (Bool → Mu → Prop) → Prop
abbrev DA := Ro → Mu → (List D → Mu → Prop) → Prop
def Lift (te : TE) (de : DE) : Prop := ∀ ρ μ K, de ρ μ K → ∀ σ H0 H1, Sl ρ σ H0 → Rw μ H0 H1 → ∀ Q : VK,
  (∀ d v μ' H0' H1', Ex H0 H0' → Rw μ' H0' H1' → Dt H0' v d → K d μ' → Q v H1') → te σ H1 Q
def LiftT (te : TT) (de : DT) : Prop := ∀ ρ μ K, de ρ μ K → ∀ σ H0 H1, Sl ρ σ H0 → Rw μ H0 H1 → ∀ Q : Bool → Hp → Prop,
  (∀ b μ' H0' H1', Ex H0 H0' → Rw μ' H0' H1' → K b μ' → Q b H1') → te σ H1 Q
def LiftA (te : TA) (de : DA) : Prop := ∀ ρ μ K, de ρ μ K → ∀ σ H0 H1, Sl ρ σ H0 → Rw μ H0 H1 → ∀ Q : List V → Hp → Prop,
  (∀ ds vs μ' H0' H1', Ex H0 H0' → Rw μ' H0' H1' → DtAll H0' vs ds → K ds μ' → Q vs H1') → te σ H1 Q

/-! operations on values -/
abbrev DO2 := D → D → Mu → KD → Prop
abbrev DOn := List D → Mu → KD → Prop
def Lift2 (r : R2) (f : DO2) : Prop := ∀ x y μ K, f x y μ K → ∀ u v H0 H1, Dt H0 u x → Dt H0 v y → Rw μ H0 H1 → ∀ Q : VK,
  (∀ d v μ' H0' H1', Ex H0 H0' → Rw μ' H0' H1' → Dt H0' v d → K d μ' → Q v H1') → r u v H1 Q
def Lift1 (r : V → Hp → VK → Prop) (f : D → Mu → KD → Prop) : Prop := ∀ x μ K, f x μ K → ∀ u H0 H1, Dt H0 u x → Rw μ H0 H1 → ∀ Q : VK,
  (∀ d v μ' H0' H1', Ex H0 H0' → Rw μ' H0' H1' → Dt H0' v d → K d μ' → Q v H1') → r u H1 Q
def LiftC (r : List V → Hp → VK → Prop) (f : DOn) : Prop := ∀ xs μ K, f xs μ K → ∀ us H0 H1, DtAll H0 us xs → Rw μ H0 H1 → ∀ Q : VK,
  (∀ d v μ' H0' H1', Ex H0 H0' → Rw μ' H0' H1' → Dt H0' v d → K d μ' → Q v H1') → r us H1 Q

theorem exr (H : Hp) : Ex H H := Evl.Ex.refl H

def dVar (i : Nat) : DE := fun ρ μ K => ∃ d : D, ρ[i]? = some (some d) ∧ K d μ
def dC (d : D) : DE := fun _ μ K => K d μ
def dOp (f : DO2) (da db : DE) : DE := fun ρ μ K => da ρ μ fun x μ1 => db ρ μ1 fun y μ2 => f x y μ2 K
def dUn (f : D → Mu → KD → Prop) (da : DE) : DE := fun ρ μ K => da ρ μ fun x μ1 => f x μ1 K
def dNil : DA := fun _ μ K => K [] μ
def dCons (da : DE) (dr : DA) : DA := fun ρ μ K => da ρ μ fun x μ1 => dr ρ μ1 fun xs μ2 => K (x :: xs) μ2
def dCB (f : DOn) (da : DA) : DE := fun ρ μ K => da ρ μ fun xs μ1 => f xs μ1 K
def dTup (da : DA) : DE := fun ρ μ K => da ρ μ fun xs μ1 => xs.length ≤ 100000 ∧ K (.tup xs) μ1
def dLst (da : DA) : DE := fun ρ μ K => da ρ μ fun xs μ1 => xs.length ≤ 100000 ∧ K (.lst xs) μ1
def dIf (dc : DT) (da db : DE) : DE := fun ρ μ K => dc ρ μ fun b μ1 => if b = true then da ρ μ1 K else db ρ μ1 K
def dTest (da : DE) : DT := fun ρ μ K => da ρ μ fun x μ1 => ∃ b, x = .bl b ∧ K b μ1
def dAnd (t u : DT) : DT := fun ρ μ K => t ρ μ fun c μ1 => if c = true then u ρ μ1 K else K false μ1
def dOr (t u : DT) : DT := fun ρ μ K => t ρ μ fun c μ1 => if c = true then K true μ1 else u ρ μ1 K
def dNot (t : DT) : DT := fun ρ μ K => t ρ μ fun c μ1 => K (!c) μ1
def dAndV (da db : DE) : DE := fun ρ μ K => da ρ μ fun x μ1 => ∃ c, x = .bl c ∧ if c = true then db ρ μ1 K else K (.bl false) μ1
def dOrV (da db : DE) : DE := fun ρ μ K => da ρ μ fun x μ1 => ∃ c, x = .bl c ∧ if c = true then K (.bl true) μ1 else db ρ μ1 K
def dNotV (da : DE) : DE := fun ρ μ K => da ρ μ fun x μ1 => ∃ c, x = .bl c ∧ K (.bl (!c)) μ1

section
variable {te ta tb : TE} {de da db : DE} {t u : TT} {dt du : DT} {i : Nat}
theorem l_var : Lift (tVar i) (dVar i) := fun ρ μ K ⟨d, h, k⟩ σ H0 H1 sl rw Q q => by
  obtain ⟨v, e, r⟩ := sl.at_ i d h
  exact ⟨v, e, q d v μ H0 H1 (exr _) rw r k⟩
theorem l_c {v : V} {d : D} (h : ∀ H, Dt H v d) : Lift (tC v) (dC d) := fun ρ μ K k σ H0 H1 sl rw Q q => q d v μ H0 H1 (exr _) rw (h _) k
theorem l_int {i : Int} : Lift (tC (.int i)) (dC (.int i)) := l_c fun _ => .int i
theorem l_bl {b : Bool} : Lift (tC (.bl b)) (dC (.bl b)) := l_c fun _ => .bl b
theorem l_str {x : Str} : Lift (tC (.str x)) (dC (.str x)) := l_c fun _ => .str x
theorem l_non : Lift (tC .non) (dC .non) := l_c fun _ => .non
theorem l_val {v : V} : Lift (tC v) (dC (.val v)) := l_c fun _ => .val v
theorem l_op {r : R2} {f : DO2} (hr : Lift2 r f) (ha : Lift ta da) (hb : Lift tb db) : Lift (tOp r ta tb) (dOp f da db) := fun ρ μ K h σ H0 H1 sl rw Q q =>
  ha ρ μ _ h σ H0 H1 sl rw _ fun x u μ1 H01 H11 e1 rw1 r1 h1 => hb ρ μ1 _ h1 σ H01 H11 (sl.mono e1) rw1 _ fun y v μ2 H02 H12 e2 rw2 r2 h2 =>
    hr x y μ2 K h2 u v H02 H12 (r1.mono e2) r2 rw2 Q fun d v' μ' H0' H1' e3 => q d v' μ' H0' H1' ((e1.trans e2).trans e3)
theorem l_un {r : V → Hp → VK → Prop} {f : D → Mu → KD → Prop} (hr : Lift1 r f) (ha : Lift ta da) : Lift (tUn r ta) (dUn f da) := fun ρ μ K h σ H0 H1 sl rw Q q =>
  ha ρ μ _ h σ H0 H1 sl rw _ fun x u μ1 H01 H11 e1 rw1 r1 h1 => hr x μ1 K h1 u H01 H11 r1 rw1 Q fun d v' μ' H0' H1' e3 => q d v' μ' H0' H1' (e1.trans e3)
theorem l_nil : LiftA tNil dNil := fun ρ μ K h σ H0 H1 sl rw Q q => q [] [] μ H0 H1 (exr _) rw .nil h
theorem l_cons {tr : TA} {dr : DA} (ha : Lift ta da) (hr : LiftA tr dr) : LiftA (tCons ta tr) (dCons da dr) := fun ρ μ K h σ H0 H1 sl rw Q q =>
  ha ρ μ _ h σ H0 H1 sl rw _ fun x u μ1 H01 H11 e1 rw1 r1 h1 => hr ρ μ1 _ h1 σ H01 H11 (sl.mono e1) rw1 _ fun xs us μ2 H02 H12 e2 rw2 r2 h2 =>
    q (x :: xs) (u :: us) μ2 H02 H12 (e1.trans e2) rw2 (.cons (r1.mono e2) r2) h2
theorem l_tup {tr : TA} {dr : DA} (hr : LiftA tr dr) : Lift (tTup tr) (dTup dr) := fun ρ μ K h σ H0 H1 sl rw Q q =>
  hr ρ μ _ h σ H0 H1 sl rw _ fun xs us μ1 H01 H11 e1 rw1 r1 ⟨hz, h1⟩ => ⟨Evl.sz_of (by rw [r1.length]; exact hz), fun p hp => by
    obtain ⟨e2, rw2⟩ := rw1.new (o := .tup us) hp
    exact q (.tup xs) (.ref p) μ1 _ _ (e1.trans e2) rw2 (.tup upd_same (r1.mono e2)) h1⟩
theorem l_lst {tr : TA} {dr : DA} (hr : LiftA tr dr) : Lift (tLst tr) (dLst dr) := fun ρ μ K h σ H0 H1 sl rw Q q =>
  hr ρ μ _ h σ H0 H1 sl rw _ fun xs us μ1 H01 H11 e1 rw1 r1 ⟨hz, h1⟩ => ⟨Evl.sz_of (by rw [r1.length]; exact hz), fun p hp => by
    obtain ⟨e2, rw2⟩ := rw1.new (o := .lst us) hp
    exact q (.lst xs) (.ref p) μ1 _ _ (e1.trans e2) rw2 (.lst upd_same (r1.mono e2)) h1⟩
theorem l_cb {r : List V → Hp → VK → Prop} {f : DOn} {tr : TA} {dr : DA} (hr : LiftC r f) (ha : LiftA tr dr) : Lift (tCB r tr) (dCB f dr) := fun ρ μ K h σ H0 H1 sl rw Q q =>
  ha ρ μ _ h σ H0 H1 sl rw _ fun xs us μ1 H01 H11 e1 rw1 r1 h1 => hr xs μ1 K h1 us H01 H11 r1 rw1 Q fun d v' μ' H0' H1' e3 => q d v' μ' H0' H1' (e1.trans e3)
theorem l_if (hc : LiftT t dt) (ha : Lift ta da) (hb : Lift tb db) : Lift (tIf t ta tb) (dIf dt da db) := fun ρ μ K h σ H0 H1 sl rw Q q =>
  hc ρ μ _ h σ H0 H1 sl rw _ fun b μ1 H01 H11 e1 rw1 h1 => by
    cases b with
    | true => exact ha ρ μ1 K h1 σ H01 H11 (sl.mono e1) rw1 Q fun d v' μ' H0' H1' e3 => q d v' μ' H0' H1' (e1.trans e3)
    | false => exact hb ρ μ1 K h1 σ H01 H11 (sl.mono e1) rw1 Q fun d v' μ' H0' H1' e3 => q d v' μ' H0' H1' (e1.trans e3)
/-- a Boolean out of data -/
theorem Dt.bl_of {H : Hp} {v : V} {b : Bool} (h : Dt H v (.bl b)) : v = .bl b := by cases h; rfl
theorem Dt.int_of {H : Hp} {v : V} {i : Int} (h : Dt H v (.int i)) : v = .int i := by cases h; rfl
theorem Dt.str_of {H : Hp} {v : V} {x : Str} (h : Dt H v (.str x)) : v = .str x := by cases h; rfl
theorem Dt.non_of {H : Hp} {v : V} (h : Dt H v .non) : v = .non := by cases h; rfl
theorem Dt.val_of {H : Hp} {v w : V} (h : Dt H v (.val w)) : v = w := by cases h; rfl
theorem Dt.lst_of {H : Hp} {v : V} {xs : List D} (h : Dt H v (.lst xs)) : ∃ a vs, v = .ref a ∧ H a = some (.lst vs) ∧ DtAll H vs xs := by
  cases h with | lst r t => exact ⟨_, _, rfl, r, t⟩
theorem Dt.tup_of {H : Hp} {v : V} {xs : List D} (h : Dt H v (.tup xs)) : ∃ a vs, v = .ref a ∧ H a = some (.tup vs) ∧ DtAll H vs xs := by
  cases h with | tup r t => exact ⟨_, _, rfl, r, t⟩
theorem l_test (ha : Lift te de) : LiftT (tTest te) (dTest de) := fun ρ μ K h σ H0 H1 sl rw Q q =>
  ha ρ μ _ h σ H0 H1 sl rw _ fun x u μ1 H01 H11 e1 rw1 r1 ⟨b, eb, h1⟩ => by subst eb; exact ⟨b, r1.bl_of, q b μ1 H01 H11 e1 rw1 h1⟩
theorem l_tB (ha : Lift te de) : LiftT (tB te) (dTest de) := fun ρ μ K h σ H0 H1 sl rw Q q =>
  ha ρ μ _ h σ H0 H1 sl rw _ fun x u μ1 H01 H11 e1 rw1 r1 ⟨b, eb, h1⟩ => by subst eb; exact ⟨b, r1.bl_of, q b μ1 H01 H11 e1 rw1 h1⟩
theorem l_and (h1 : LiftT t dt) (h2 : LiftT u du) : LiftT (tAnd t u) (dAnd dt du) := fun ρ μ K h σ H0 H1 sl rw Q q =>
  h1 ρ μ _ h σ H0 H1 sl rw _ fun b μ1 H01 H11 e1 rw1 g => by
    cases b with
    | true => exact h2 ρ μ1 K g σ H01 H11 (sl.mono e1) rw1 Q fun d μ' H0' H1' e3 => q d μ' H0' H1' (e1.trans e3)
    | false => exact q false μ1 H01 H11 e1 rw1 g
theorem l_or (h1 : LiftT t dt) (h2 : LiftT u du) : LiftT (tOr t u) (dOr dt du) := fun ρ μ K h σ H0 H1 sl rw Q q =>
  h1 ρ μ _ h σ H0 H1 sl rw _ fun b μ1 H01 H11 e1 rw1 g => by
    cases b with
    | true => exact q true μ1 H01 H11 e1 rw1 g
    | false => exact h2 ρ μ1 K g σ H01 H11 (sl.mono e1) rw1 Q fun d μ' H0' H1' e3 => q d μ' H0' H1' (e1.trans e3)
theorem l_not (h1 : LiftT t dt) : LiftT (tNot t) (dNot dt) := fun ρ μ K h σ H0 H1 sl rw Q q =>
  h1 ρ μ _ h σ H0 H1 sl rw _ fun b μ1 H01 H11 e1 rw1 g => q (!b) μ1 H01 H11 e1 rw1 g
theorem l_andV (ha : Lift ta da) (hb : Lift tb db) : Lift (tAndV ta tb) (dAndV da db) := fun ρ μ K h σ H0 H1 sl rw Q q =>
  ha ρ μ _ h σ H0 H1 sl rw _ fun x u μ1 H01 H11 e1 rw1 r1 ⟨c, ec, g⟩ => by
    subst ec
    refine ⟨c, r1.bl_of, ?_⟩
    cases c with
    | true => exact hb ρ μ1 K g σ H01 H11 (sl.mono e1) rw1 Q fun d v' μ' H0' H1' e3 => q d v' μ' H0' H1' (e1.trans e3)
    | false => exact q (.bl false) _ μ1 H01 H11 e1 rw1 (.bl false) g
theorem l_orV (ha : Lift ta da) (hb : Lift tb db) : Lift (tOrV ta tb) (dOrV da db) := fun ρ μ K h σ H0 H1 sl rw Q q =>
  ha ρ μ _ h σ H0 H1 sl rw _ fun x u μ1 H01 H11 e1 rw1 r1 ⟨c, ec, g⟩ => by
    subst ec
    refine ⟨c, r1.bl_of, ?_⟩
    cases c with
    | true => exact q (.bl true) _ μ1 H01 H11 e1 rw1 (.bl true) g
    | false => exact hb ρ μ1 K g σ H01 H11 (sl.mono e1) rw1 Q fun d v' μ' H0' H1' e3 => q d v' μ' H0' H1' (e1.trans e3)
theorem l_notV (ha : Lift ta da) : Lift (tNotV ta) (dNotV da) := fun ρ μ K h σ H0 H1 sl rw Q q =>
  ha ρ μ _ h σ H0 H1 sl rw _ fun x u μ1 H01 H11 e1 rw1 r1 ⟨c, ec, g⟩ => by
    subst ec
    exact ⟨c, r1.bl_of, q (.bl (!c)) _ μ1 H01 H11 e1 rw1 (.bl (!c)) g⟩
end
end DL
namespace DL
open PySem PySem.Spec PyProof.Rows L2
open Evl (Ex ex_rd ex_l ex_t fresh_back)
variable [AM : Amb]

def keyPy : Key → PyData
  | .inl i => .int i
  | .inr x => .str x
mutual
def toPy : D → Option PyData
  | .non => some .none
  | .bl b => some (.bool b)
  | .int i => some (.int i)
  | .str x => some (.str x)
  | .lst xs => (toPyAll xs).map PyData.list
  | .tup xs => (toPyAll xs).map PyData.tuple
  | .dct kvs => (toPyKv kvs).map PyData.dict
  | .ins _ _ => none
  | .val _ => none
  | .any _ => none
def toPyAll : List D → Option (List PyData)
  | [] => some []
  | d :: ds => (toPy d).bind fun p => (toPyAll ds).map fun ps => p :: ps
def toPyKv : List (Key × D) → Option (List (PyData × PyData))
  | [] => some []
  | (k, d) :: r => (toPy d).bind fun p => (toPyKv r).map fun ps => (keyPy k, p) :: ps
end

section
variable {X : Cx} {pins : List (Addr × Obj)} {σ : L2.St} {H0 H1 : Hp} {s : Shared}
theorem sys_ne {a : Addr} {u : HO} (sy : Sys H1) (h : H1 a = some u) (hu : ∀ φ, u ≠ .frz φ (.own 0)) : sysModules ≠ a := by
  obtain ⟨φ, e⟩ := sy
  rintro rfl
  rw [e] at h
  exact hu φ (Option.some.inj h).symm
theorem keyPy_reads {h : Heap} {k : Key} {u : Value} (e : keyIs k u = true) : Reads h u (keyPy k) [] := by
  rcases keyIs_shape e with ⟨i, t, rfl, rfl⟩ | ⟨x, t, rfl, rfl⟩
  · exact .int i t
  · exact .str x t
theorem kv_keys {h : Heap} {P : Program} {w : World} {es : List DictEntry} {us : List (Key × Value)} (hp : Pairs (mixKind P w) es us) : ∀ {kvs : List (Key × V)} {ds : List (Key × D)} {ps : List (PyData × PyData)},
    KV kvs us → kvs.map (·.1) = ds.map (·.1) → toPyKv ds = some ps → ReadsAll h (es.map (·.key)) (ps.map (·.1)) [] := by
  induction hp with
  | nil =>
    intro kvs ds ps r e t
    cases r
    cases ds with
    | nil => cases t; exact .nil
    | cons d ds => cases e
  | cons h1 h2 h3 ih =>
    intro kvs ds ps r e t
    cases r with
    | cons r1 r2 =>
      cases ds with
      | nil => cases e
      | cons d ds =>
        obtain ⟨k, d⟩ := d
        rw [toPyKv] at t
        obtain ⟨p, t1, t2⟩ := Option.bind_eq_some_iff.mp t
        obtain ⟨ps, t3, rfl⟩ := Option.map_eq_some_iff.mp t2
        rw [List.map_cons, List.map_cons] at e
        injection e with e1 e2
        refine ReadsAll.cons (as := []) (bs := []) ?_ (ih r2 e2 t3)
        have z := r1.1
        rw [e1] at z
        have z' : k = _ := z
        subst z'
        exact keyPy_reads h1
theorem kv_vals {P : Program} {w : World} {es : List DictEntry} {us : List (Key × Value)} (hp : Pairs (mixKind P w) es us) : ∀ {kvs : List (Key × V)}, KV kvs us → Vals (kvs.map (·.2)) (es.map (·.val)) := by
  induction hp with
  | nil =>
    intro kvs r
    cases r
    exact .nil
  | cons h1 h2 h3 ih =>
    intro kvs r
    cases r with
    | cons r1 r2 => exact .cons (by show L2.RelV _ (DictEntry.val _); rw [h2]; exact r1.2) (ih r2)
theorem kv_py : ∀ {ds : List (Key × D)} {ps : List (PyData × PyData)}, toPyKv ds = some ps → toPyAll (ds.map (·.2)) = some (ps.map (·.2))
  | [], _, t => by cases t; rfl
  | (k, d) :: ds, _, t => by
    rw [toPyKv] at t
    obtain ⟨p, t1, t2⟩ := Option.bind_eq_some_iff.mp t
    obtain ⟨ps, t3, rfl⟩ := Option.map_eq_some_iff.mp t2
    show (toPy d).bind _ = _
    rw [t1, Option.bind_some, kv_py t3]
    rfl
theorem sz_snd : ∀ kvs : List (Key × D), sizeOf (kvs.map (·.2)) ≤ sizeOf kvs
  | [] => Nat.le_refl _
  | (k, d) :: r => by
    have := sz_snd r
    simp only [List.map_cons, List.cons.sizeOf_spec, Prod.mk.sizeOf_spec]
    omega
mutual
theorem Dt.reads (I : Inv X pins σ H1 s) (e : Ex H0 H1) (sy : Sys H1) : ∀ (d : D) (v : V) (u : Value) (p : PyData), Dt H0 v d → toPy d = some p → RelV v u → ∃ as, Reads s.heap u p as ∧ sysModules ∉ as
  | .non, _, _, _, h, t, r => by
    cases h; cases t; cases r
    exact ⟨_, Reads.none, by simp⟩
  | .bl b, _, _, _, h, t, r => by
    cases h; cases t; cases r
    exact ⟨_, Reads.bool b, by simp⟩
  | .int i, _, _, _, h, t, r => by
    cases h; cases t
    obtain ⟨t, rfl⟩ := r
    exact ⟨_, Reads.int i t, by simp⟩
  | .str x, _, _, _, h, t, r => by
    cases h; cases t
    obtain ⟨t, rfl⟩ := r
    exact ⟨_, Reads.str x t, by simp⟩
  | .lst ds, _, _, p, h, t, r => by
    cases h with
    | @lst a vs _ ha hd =>
      cases r
      rw [toPy] at t
      obtain ⟨ps, tp, rfl⟩ := Option.map_eq_some_iff.mp t
      obtain ⟨its, rv, ⟨o, n, ho, hc, _, hdd⟩, _⟩ := I.list (SqL.of (e _ _ ha))
      obtain ⟨as, hr, hn⟩ := Dt.readsAll I e sy ds vs its ps hd tp rv
      exact ⟨_, Reads.list ho hc hdd hr, by
        rw [List.mem_cons, not_or]
        exact ⟨sys_ne sy (e _ _ ha) (fun φ z => by cases z), hn⟩⟩
  | .tup ds, _, _, p, h, t, r => by
    cases h with
    | @tup a vs _ ha hd =>
      cases r
      rw [toPy] at t
      obtain ⟨ps, tp, rfl⟩ := Option.map_eq_some_iff.mp t
      obtain ⟨its, rv, ⟨o, ho, hc, n, hdd⟩, _⟩ := I.tuple (SqT.of (e _ _ ha))
      obtain ⟨as, hr, hn⟩ := Dt.readsAll I e sy ds vs its ps hd tp rv
      exact ⟨_, Reads.tuple ho hc hdd hr, hn⟩
  | .dct kvs, _, _, p, h, t, r => by
    cases h with
    | @dct a vs _ ha hk hd =>
      cases r
      rw [toPy] at t
      obtain ⟨ps, tp, rfl⟩ := Option.map_eq_some_iff.mp t
      obtain ⟨_, hs, us, rk, o, es, ep, ho, hx, hdd, _, hes, _⟩ := dk_of I.hok (e _ _ ha)
      obtain ⟨bs, hr, hn⟩ := Dt.readsAll I e sy (kvs.map (·.2)) _ _ _ hd (kv_py tp) (kv_vals hes rk)
      refine ⟨_, Reads.dict ho hx.1 hdd (kv_keys hes rk hk tp) hr, ?_⟩
      rw [List.mem_append, not_or, List.mem_singleton]
      exact ⟨fun z => by rw [← z] at hs; simp at hs, hn⟩
  | .ins _ _, _, _, _, _, t, _ => by cases t
  | .val _, _, _, _, _, t, _ => by cases t
  | .any _, _, _, _, _, t, _ => by cases t
termination_by d => sizeOf d
decreasing_by
  all_goals simp only [D.lst.sizeOf_spec, D.tup.sizeOf_spec, D.dct.sizeOf_spec]
  all_goals first | omega | (have := sz_snd kvs; omega)
theorem Dt.readsAll (I : Inv X pins σ H1 s) (e : Ex H0 H1) (sy : Sys H1) : ∀ (ds : List D) (vs : List V) (us : List Value) (ps : List PyData), DtAll H0 vs ds → toPyAll ds = some ps → Vals vs us → ∃ as, ReadsAll s.heap us ps as ∧ sysModules ∉ as
  | [], _, _, _, h, t, r => by
    cases h; cases t; cases r
    exact ⟨_, ReadsAll.nil, by simp⟩
  | d :: ds, _, _, _, h, t, r => by
    cases h with
    | cons h1 h2 =>
      cases r with
      | cons r1 r2 =>
        rw [toPyAll] at t
        obtain ⟨p, t1, t2⟩ := Option.bind_eq_some_iff.mp t
        obtain ⟨ps, t3, rfl⟩ := Option.map_eq_some_iff.mp t2
        obtain ⟨as, q1, n1⟩ := Dt.reads I e sy d _ _ p h1 t1 r1
        obtain ⟨bs, q2, n2⟩ := Dt.readsAll I e sy ds _ _ ps h2 t3 r2
        exact ⟨_, ReadsAll.cons q1 q2, by rw [List.mem_append, not_or]; exact ⟨n1, n2⟩⟩
termination_by ds => sizeOf ds
decreasing_by
  all_goals simp only [List.cons.sizeOf_spec]
  all_goals omega
end
/-! what a thing reads as, through what changes -/
mutual
inductive Vw (μ : Mu) : D → PyData → Prop
  | py {d : D} {p : PyData} : toPy d = some p → Vw μ d p
  | adr {a : Addr} {ds : List D} {ps : List PyData} : μ a = some (.lst ds) → VwAll μ ds ps → Vw μ (.val (.ref a)) (.list ps)
  | lst {ds : List D} {ps : List PyData} : VwAll μ ds ps → Vw μ (.lst ds) (.list ps)
  | tup {ds : List D} {ps : List PyData} : VwAll μ ds ps → Vw μ (.tup ds) (.tuple ps)
inductive VwAll (μ : Mu) : List D → List PyData → Prop
  | nil : VwAll μ [] []
  | cons {d : D} {p : PyData} {ds : List D} {ps : List PyData} : Vw μ d p → VwAll μ ds ps → VwAll μ (d :: ds) (p :: ps)
end
mutual
theorem Vw.reads {μ : Mu} (I : Inv X pins σ H1 s) (r0 : Rw0 μ H0 H1) : ∀ {d : D} {p : PyData}, Vw μ d p → ∀ (v : V) (u : Value), Dt H0 v d → RelV v u → ∃ as, Reads s.heap u p as ∧ sysModules ∉ as
  | _, _, .py t, v, u, h, r => Dt.reads I r0.ex r0.sys _ v u _ h t r
  | _, _, .adr hm ha, v, u, h, r => by
    have e := h.val_of
    subst e
    cases r
    obtain ⟨_, vs, hv, hd⟩ := r0.mu _ _ hm
    obtain ⟨its, rv, ⟨o, n, ho, hc, _, hdd⟩, _⟩ := I.list (SqL.of hv)
    obtain ⟨as, hr, hn⟩ := VwAll.reads I r0 ha vs its hd rv
    exact ⟨_, Reads.list ho hc hdd hr, by
      rw [List.mem_cons, not_or]
      exact ⟨sys_ne r0.sys hv (fun φ z => by cases z), hn⟩⟩
  | _, _, .lst ha, v, u, h, r => by
    obtain ⟨a, vs, rfl, hv, hd⟩ := h.lst_of
    cases r
    obtain ⟨its, rv, ⟨o, n, ho, hc, _, hdd⟩, _⟩ := I.list (SqL.of (r0.ex _ _ hv))
    obtain ⟨as, hr, hn⟩ := VwAll.reads I r0 ha vs its hd rv
    exact ⟨_, Reads.list ho hc hdd hr, by
      rw [List.mem_cons, not_or]
      exact ⟨sys_ne r0.sys (r0.ex _ _ hv) (fun φ z => by cases z), hn⟩⟩
  | _, _, .tup ha, v, u, h, r => by
    obtain ⟨a, vs, rfl, hv, hd⟩ := h.tup_of
    cases r
    obtain ⟨its, rv, ⟨o, ho, hc, n, hdd⟩, _⟩ := I.tuple (SqT.of (r0.ex _ _ hv))
    obtain ⟨as, hr, hn⟩ := VwAll.reads I r0 ha vs its hd rv
    exact ⟨_, Reads.tuple ho hc hdd hr, hn⟩
theorem VwAll.reads {μ : Mu} (I : Inv X pins σ H1 s) (r0 : Rw0 μ H0 H1) : ∀ {ds : List D} {ps : List PyData}, VwAll μ ds ps → ∀ (vs : List V) (us : List Value), DtAll H0 vs ds → Vals vs us → ∃ as, ReadsAll s.heap us ps as ∧ sysModules ∉ as
  | _, _, .nil, _, _, h, r => by
    cases h; cases r
    exact ⟨_, ReadsAll.nil, by simp⟩
  | _, _, .cons h1 h2, _, _, h, r => by
    cases h with
    | cons d1 d2 =>
      cases r with
      | cons r1 r2 =>
        obtain ⟨as, q1, n1⟩ := Vw.reads I r0 h1 _ _ d1 r1
        obtain ⟨bs, q2, n2⟩ := VwAll.reads I r0 h2 _ _ d2 r2
        exact ⟨_, ReadsAll.cons q1 q2, by rw [List.mem_append, not_or]; exact ⟨n1, n2⟩⟩
end
end
end DL
namespace DL
open PySem PySem.Spec PyProof.Rows L2
open Evl (Ex ex_rd ex_l ex_t fresh_back)
variable [AM : Amb]

/-- the list that a thing is: data, or one that changes -/
def asL (μ : Mu) : D → Option (List D)
  | .lst xs => some xs
  | .val (.ref a) => match μ a with
    | some (.lst xs) => some xs
    | _ => none
  | _ => none
theorem asL_at {μ : Mu} {H0 H1 : Hp} {x : D} {v : V} {xs : List D} (r : Dt H0 v x) (rw_ : Rw μ H0 H1) (h : asL μ x = some xs) : ∃ a vs, v = .ref a ∧ H1 a = some (.lst vs) ∧ DtAll H0 vs xs := by
  cases x with
  | lst ys =>
    cases h
    obtain ⟨a, vs, e, ha, t⟩ := r.lst_of
    exact ⟨a, vs, e, rw_.ex _ _ ha, t⟩
  | val w =>
    have e := r.val_of
    subst e
    cases v with
    | ref a =>
      have h' : (match μ a with
        | some (.lst zs) => some zs
        | _ => none) = some xs := h
      cases hm : μ a with
      | none => rw [hm] at h'; cases h'
      | some m =>
        cases m with
        | ins C fs => rw [hm] at h'; cases h'
        | lst zs =>
          rw [hm] at h'
          cases h'
          obtain ⟨_, vs, e, t⟩ := rw_.mu a _ hm
          exact ⟨a, vs, rfl, e, t⟩
    | _ => cases h
  | _ => cases h
/-- a list or a tuple -/
def asS (μ : Mu) : D → Option (List D)
  | .tup xs => some xs
  | x => asL μ x

/-! ### operators -/
def rAddD (K : PySem.W.Frag) : R2 := fun x y H Q => (rI0 fun i j => V.int (i + j)) x y H Q ∨ ((∃ i j, x = .str i ∧ y = .str j ∧ i.length + j.length ≤ sizeLine ∧ Q (.str (i ++ j)) H) ∨ (rCat x y H Q ∨ rCatA K x y H Q))
theorem op_addD {X : Cx} : OpR X (binaryOp .Add) (rAddD X.K) := op_add.or (op_add_str.or (op_cat.or op_catA))
def fAdd : DO2 := fun x y μ K => match x, y with
  | .int i, .int j => K (.int (i + j)) μ
  | .str a, .str b => a.length + b.length ≤ sizeLine ∧ K (.str (a ++ b)) μ
  | .tup xs, .tup ys => xs.length + ys.length ≤ 100000 ∧ K (.tup (xs ++ ys)) μ
  | x, y => ∃ xs ys, asL μ x = some xs ∧ asL μ y = some ys ∧ xs.length + ys.length ≤ 100000 ∧ K (.lst (xs ++ ys)) μ
theorem l2_cat {K' : PySem.W.Frag} {x y : D} {xs ys : List D} {μ : Mu} {u v : V} {H0 H1 : Hp} (rx : Dt H0 u x) (ry : Dt H0 v y) (rw_ : Rw μ H0 H1) (hx : asL μ x = some xs) (hy : asL μ y = some ys) (hz : xs.length + ys.length ≤ 100000) {Q : VK}
    (q : ∀ p vs ws, H1 p = none → DtAll H0 vs xs → DtAll H0 ws ys → Q (.ref p) (upd H1 p (.lst (vs ++ ws)))) : rAddD K' u v H1 Q := by
  obtain ⟨a, vs, rfl, ha, ta⟩ := asL_at rx rw_ hx
  obtain ⟨b, ws, rfl, hb, tb⟩ := asL_at ry rw_ hy
  refine .inr (.inr (.inl ⟨a, b, vs, ws, rfl, rfl, ha, hb, ?_, fun p hp => q p vs ws hp ta tb⟩))
  rw [ta.length, tb.length]
  exact Evl.sz_of hz
theorem l2_add {K' : PySem.W.Frag} : Lift2 (rAddD K') fAdd := by
  intro x y μ K h u v H0 H1 rx ry rw_ Q q
  have lists : (∃ xs ys, asL μ x = some xs ∧ asL μ y = some ys ∧ xs.length + ys.length ≤ 100000 ∧ K (.lst (xs ++ ys)) μ) → rAddD K' u v H1 Q := fun ⟨xs, ys, hx, hy, hz, k⟩ =>
    l2_cat rx ry rw_ hx hy hz fun p vs ws hp ta tb => by
      obtain ⟨e2, rw2⟩ := rw_.new (o := .lst (vs ++ ws)) hp
      exact q _ _ μ _ _ e2 rw2 (.lst upd_same ((ta.append tb).mono e2)) k
  unfold fAdd at h
  split at h
  · rw [rx.int_of, ry.int_of]
    exact .inl ⟨_, _, rfl, rfl, q _ _ μ H0 H1 (exr _) rw_ (.int _) h⟩
  · rw [rx.str_of, ry.str_of]
    exact .inr (.inl ⟨_, _, rfl, rfl, h.1, q _ _ μ H0 H1 (exr _) rw_ (.str _) h.2⟩)
  · rename_i xs ys
    obtain ⟨a, vs, rfl, ha, ta⟩ := rx.tup_of
    obtain ⟨b, ws, rfl, hb, tb⟩ := ry.tup_of
    obtain ⟨hz, k⟩ := h
    refine .inr (.inr (.inr ⟨a, b, vs, ws, rfl, rfl, SqT.of (rw_.ex _ _ ha), SqT.of (rw_.ex _ _ hb), ?_, fun e => ?_, fun _ e => ?_, fun _ _ p hp => ?_⟩))
    · rw [ta.length, tb.length]; exact Evl.sz_of hz
    · subst e
      cases ta
      exact q _ _ μ H0 H1 (exr _) rw_ (.tup hb tb) k
    · subst e
      cases tb
      rw [List.append_nil] at k
      exact q _ _ μ H0 H1 (exr _) rw_ (.tup ha ta) k
    · obtain ⟨e2, rw2⟩ := rw_.new (o := .tup (vs ++ ws)) hp
      exact q _ _ μ _ _ e2 rw2 (.tup upd_same ((ta.append tb).mono e2)) k
  · exact lists h
def fInt (g : Int → Int → D) (C : Int → Int → Prop) : DO2 := fun x y μ K => ∃ i j, x = .int i ∧ y = .int j ∧ C i j ∧ K (g i j) μ
theorem l2_int {C C' : Int → Int → Prop} {g : Int → Int → V} {f : Int → Int → D} (hc : ∀ i j, C' i j → C i j) (hg : ∀ H i j, Dt H (g i j) (f i j)) : Lift2 (rI C g) (fInt f C') := fun x y μ K ⟨i, j, ex, ey, c, k⟩ u v H0 H1 rx ry rw_ Q q => by
  subst ex ey
  rw [rx.int_of, ry.int_of]
  exact ⟨i, j, rfl, rfl, hc i j c, q _ _ μ H0 H1 (exr _) rw_ (hg _ i j) k⟩
theorem l2_int0 {g : Int → Int → V} {f : Int → Int → D} (hg : ∀ H i j, Dt H (g i j) (f i j)) : Lift2 (rI0 g) (fInt f fun _ _ => True) := fun x y μ K ⟨i, j, ex, ey, c, k⟩ u v H0 H1 rx ry rw_ Q q => by
  subst ex ey
  rw [rx.int_of, ry.int_of]
  exact ⟨i, j, rfl, rfl, q _ _ μ H0 H1 (exr _) rw_ (hg _ i j) k⟩
theorem l2_sub : Lift2 (rI0 fun i j => .int (i - j)) (fInt (fun i j => .int (i - j)) fun _ _ => True) := l2_int0 fun _ _ _ => .int _
theorem l2_lt : Lift2 (rI0 fun i j => .bl (decide (i < j))) (fInt (fun i j => .bl (decide (i < j))) fun _ _ => True) := l2_int0 fun _ _ _ => .bl _
theorem l2_le : Lift2 (rI0 fun i j => .bl (decide (i ≤ j))) (fInt (fun i j => .bl (decide (i ≤ j))) fun _ _ => True) := l2_int0 fun _ _ _ => .bl _
theorem l2_gt : Lift2 (rI0 fun i j => .bl (decide (j < i))) (fInt (fun i j => .bl (decide (j < i))) fun _ _ => True) := l2_int0 fun _ _ _ => .bl _
theorem l2_ge : Lift2 (rI0 fun i j => .bl (decide (j ≤ i))) (fInt (fun i j => .bl (decide (j ≤ i))) fun _ _ => True) := l2_int0 fun _ _ _ => .bl _
/-- below 2 ^ n on either side -/
def Bt (n : Nat) (i : Int) : Prop := i.natAbs < 2 ^ n
def CMulD (i j : Int) : Prop := ∃ a b : Nat, Bt a i ∧ Bt b j ∧ a + b ≤ 134217728
def rMulD (K : PySem.W.Frag) : R2 := fun x y H Q => rI CMulX (fun i j => V.int (i * j)) x y H Q ∨ (rRep x y H Q ∨ rRepT K x y H Q)
theorem op_mulD {X : Cx} : OpR X (binaryOp .Mult) (rMulD X.K) := op_mulX.or (op_rep.or op_repT)
def fMul : DO2 := fun x y μ K => match x, y with
  | .int i, .int j => CMulD i j ∧ K (.int (i * j)) μ
  | .tup xs, .int k => xs ≠ [] ∧ 2 ≤ k ∧ k ≤ 1000 ∧ xs.length ≤ 1000 ∧ K (.tup (List.replicate k.toNat xs).flatten) μ
  | x, y => ∃ xs k, asL μ x = some xs ∧ y = .int k ∧ k ≤ 1000 ∧ -1000 ≤ k ∧ xs.length ≤ 1000 ∧ K (.lst (List.replicate k.toNat xs).flatten) μ
theorem DtAll.rep {H : Hp} {vs : List V} {xs : List D} (t : DtAll H vs xs) : ∀ n : Nat, DtAll H (List.replicate n vs).flatten (List.replicate n xs).flatten
  | 0 => .nil
  | n + 1 => by
    rw [List.replicate_succ, List.replicate_succ, List.flatten_cons, List.flatten_cons]
    exact t.append (DtAll.rep t n)
theorem l2_mul {K' : PySem.W.Frag} : Lift2 (rMulD K') fMul := by
  intro x y μ K h u v H0 H1 rx ry rw_ Q q
  unfold fMul at h
  split at h
  · obtain ⟨⟨a, b, ha, hb, hs⟩, k⟩ := h
    rw [rx.int_of, ry.int_of]
    exact .inl ⟨_, _, rfl, rfl, mulx_ok ha hb hs, q _ _ μ H0 H1 (exr _) rw_ (.int _) k⟩
  · obtain ⟨hn, h1, h2, h3, k⟩ := h
    obtain ⟨a, vs, rfl, ha, ta⟩ := rx.tup_of
    rw [ry.int_of]
    refine .inr (.inr ⟨a, _, vs, rfl, rfl, SqT.of (rw_.ex _ _ ha), fun z => ?_, h1, h2, by rw [ta.length]; exact h3, fun p hp => ?_⟩)
    · subst z; cases ta; exact hn rfl
    · obtain ⟨e2, rw2⟩ := rw_.new (o := .tup (List.replicate _ vs).flatten) hp
      exact q _ _ μ _ _ e2 rw2 (.tup upd_same ((ta.rep _).mono e2)) k
  · obtain ⟨xs, k, hx, ey, h1, h2, h3, kk⟩ := h
    subst ey
    obtain ⟨a, vs, rfl, ha, ta⟩ := asL_at rx rw_ hx
    rw [ry.int_of]
    refine .inr (.inl ⟨a, k, vs, rfl, rfl, ha, by omega, by omega, ?_, fun p hp => ?_⟩)
    · rw [ta.length]
      have : xs.length * k.toNat ≤ 1000 * 1000 := Nat.mul_le_mul h3 (by omega)
      exact Nat.le_trans this (by decide)
    · obtain ⟨e2, rw2⟩ := rw_.new (o := .lst (List.replicate _ vs).flatten) hp
      exact q _ _ μ _ _ e2 rw2 (.lst upd_same ((ta.rep _).mono e2)) kk
theorem l2_fdiv : Lift2 (rI CDivW fun i j => .int (i / j)) (fInt (fun i j => .int (i / j)) fun _ j => 0 < j ∧ ∃ b, Bt b j ∧ 0 < b ∧ b ≤ 9000) := l2_int (fun _ _ ⟨h, b, h1, h2, h3⟩ => wide_div h h1 h2 h3) fun _ _ _ => .int _
theorem l2_mod : Lift2 (rI (fun _ j => 0 < j) fun i j => .int (i % j)) (fInt (fun i j => .int (i % j)) fun _ j => 0 < j) := l2_int (fun _ _ h => h) fun _ _ _ => .int _
def CPowD (i j : Int) : Prop := 0 ≤ j ∧ (Builtin.Int.intBits i : Int) * j ≤ 2 ^ 27
theorem op_powD {X : Cx} : OpR X (binaryOp .Pow) (rI CPowD fun i j => .int (i ^ j.toNat)) := opI fun _ _ _ _ _ _ _ hc q => pow_int hc.1 hc.2 q
theorem l2_pow : Lift2 (rI CPowD fun i j => .int (i ^ j.toNat)) (fInt (fun i j => .int (i ^ j.toNat)) CPowD) := l2_int (fun _ _ h => h) fun _ _ _ => .int _

/-! ### == and != -/
def rEqX (K : PySem.W.Frag) (neg : Bool) (P : Program) (w : World) (h : Hp → V → V → Bool → Prop) : R2 := fun x y H Q => ∃ b, h H x y b ∧ Q (.bl (if neg then !b else b)) H
/-- what == tells of two data -/
inductive EqB (μ : Mu) : D → D → Bool → Prop
  | py {x y : D} {p q : PyData} : Vw μ x p → Vw μ y q → SeqAt.shaped p = true → SeqAt.shaped q = true → EqB μ x y (PyData.eqv p q)
  | len {x y : D} {xs ys : List D} : asL μ x = some xs → asL μ y = some ys → xs.length ≠ ys.length → EqB μ x y false
def rEqB (neg : Bool) : R2 := fun x y H Q => ∃ μ H0 d e b, Dt H0 x d ∧ Dt H0 y e ∧ Rw0 μ H0 H ∧ EqB μ d e b ∧ Q (.bl (if neg then !b else b)) H
omit AM in
theorem eqB_at {X : Cx} {pins : List (Addr × Obj)} {σ : L2.St} {H0 H1 : Hp} {s : Shared} {μ : Mu} {d e : D} {b : Bool} {x y : V} {u v : Value} (I : Inv X pins σ H1 s) (r0 : Rw0 μ H0 H1) (rx : Dt H0 x d) (ry : Dt H0 y e) (h : EqB μ d e b) (vx : L2.RelV x u) (vy : L2.RelV y v) (hu : X.A.units + 64 < cLine) :
    SeqAt.RcAt X.A s u v b := by
  letI : Amb := ⟨fun _ => True, fun _ _ _ h => h⟩
  have rw_ : Rw μ H0 H1 := ⟨r0, True.intro⟩
  cases h with
  | py tx ty sx sy =>
    obtain ⟨as, ra, _⟩ := Vw.reads I rw_.toRw0 tx x u rx vx
    obtain ⟨bs, rb, _⟩ := Vw.reads I rw_.toRw0 ty y v ry vy
    exact SeqAt.rcAt_reads ra rb (SeqAt.canLay_of_shaped sx) (SeqAt.canLay_of_shaped sy) (SeqAt.room_of_shaped sx hu)
  | len hx hy hn =>
    obtain ⟨a, vs, rfl, ha, ta⟩ := asL_at rx rw_ hx
    obtain ⟨b, ws, rfl, hb, tb⟩ := asL_at ry rw_ hy
    cases vx
    cases vy
    obtain ⟨us, r1, p1, _⟩ := I.list (SqL.of ha)
    obtain ⟨zs, r2, p2, _⟩ := I.list (SqL.of hb)
    refine SeqAt.RcAt.lists_lengths p1.isList p2.isList ?_ (by omega)
    have e1 := r1.length
    have e2 := r2.length
    rw [bne_iff_ne]
    intro z
    rw [List.size_toArray, List.size_toArray] at z
    exact hn (by rw [← ta.length, ← tb.length]; omega)
omit AM in
theorem op_eqB {X : Cx} (hu : X.A.units + 64 < cLine) : OpR X (compareOp .Eq) (rEqB false) := by
  intro pins s σ H x y u v Q I vx vy ⟨μ, H0, d, e, b, rx, ry, rw_, h, q⟩
  exact eqB_at I rw_ rx ry h vx vy hu X.prog X.w _ _ ⟨.bl _, H, I, rfl, q⟩
omit AM in
theorem neB_at {X : Cx} {pins : List (Addr × Obj)} {σ : L2.St} {H0 H1 : Hp} {s : Shared} {μ : Mu} {d e : D} {b : Bool} {x y : V} {u v : Value} (I : Inv X pins σ H1 s) (r0 : Rw0 μ H0 H1) (rx : Dt H0 x d) (ry : Dt H0 y e) (h : EqB μ d e b) (vx : L2.RelV x u) (vy : L2.RelV y v) (hu : X.A.units + 64 < cLine) :
    SeqAt.RcNeAt X.A s u v (!b) := by
  letI : Amb := ⟨fun _ => True, fun _ _ _ h => h⟩
  have rw_ : Rw μ H0 H1 := ⟨r0, True.intro⟩
  cases h with
  | py tx ty sx sy =>
    obtain ⟨as, ra, _⟩ := Vw.reads I rw_.toRw0 tx x u rx vx
    obtain ⟨bs, rb, _⟩ := Vw.reads I rw_.toRw0 ty y v ry vy
    exact SeqAt.rcNeAt_reads ra rb (SeqAt.canLay_of_shaped sx) (SeqAt.canLay_of_shaped sy) (SeqAt.room_of_shaped sx hu)
  | len hx hy hn =>
    obtain ⟨a, vs, rfl, ha, ta⟩ := asL_at rx rw_ hx
    obtain ⟨b, ws, rfl, hb, tb⟩ := asL_at ry rw_ hy
    cases vx
    cases vy
    obtain ⟨us, r1, p1, _⟩ := I.list (SqL.of ha)
    obtain ⟨zs, r2, p2, _⟩ := I.list (SqL.of hb)
    refine SeqAt.RcNeAt.lists_lengths p1.isList p2.isList ?_ (by omega)
    have e1 := r1.length
    have e2 := r2.length
    rw [bne_iff_ne]
    intro z
    rw [List.size_toArray, List.size_toArray] at z
    exact hn (by rw [← ta.length, ← tb.length]; omega)
omit AM in
theorem op_neB {X : Cx} (hu : X.A.units + 64 < cLine) : OpR X (compareOp .NotEq) (rEqB true) := by
  intro pins s σ H x y u v Q I vx vy ⟨μ, H0, d, e, b, rx, ry, rw_, h, q⟩
  exact neB_at I rw_ rx ry h vx vy hu X.prog X.w _ _ ⟨.bl _, H, I, rfl, q⟩
def fEq (neg : Bool) : DO2 := fun x y μ K => ∃ b, EqB μ x y b ∧ K (.bl (if neg then !b else b)) μ
theorem l2_eq {neg : Bool} : Lift2 (rEqB neg) (fEq neg) := fun x y μ K ⟨b, h, k⟩ u v H0 H1 rx ry rw_ Q q => ⟨μ, H0, x, y, b, rx, ry, rw_.toRw0, h, q _ _ μ H0 H1 (exr _) rw_ (.bl _) k⟩
/-! scalars, or data -/
def rEqX2 (neg : Bool) : R2 := fun x y H Q => (scal x y = true ∧ Q (V.bl (if neg then !decide (x = y) else decide (x = y))) H) ∨ rEqB neg x y H Q
omit AM in
theorem op_eqX {X : Cx} (hu : X.A.units + 64 < cLine) : OpR X (compareOp .Eq) (rEqX2 false) := op_eq.or (op_eqB hu)
omit AM in
theorem op_neX {X : Cx} (hu : X.A.units + 64 < cLine) : OpR X (compareOp .NotEq) (rEqX2 true) := op_ne.or (op_neB hu)
def eqS : D → D → Option Bool
  | .int i, .int j => some (decide (i = j))
  | .str i, .str j => some (decide (i = j))
  | _, _ => none
def fEqX (neg : Bool) : DO2 := fun x y μ K => (∃ b, eqS x y = some b ∧ K (.bl (if neg then !b else b)) μ) ∨ fEq neg x y μ K
theorem l2_eqX {neg : Bool} : Lift2 (rEqX2 neg) (fEqX neg) := fun x y μ K h u v H0 H1 rx ry rw_ Q q => by
  rcases h with ⟨b, h, k⟩ | h
  · refine .inl ?_
    unfold eqS at h
    split at h
    · cases h
      rename_i i j
      have e1 := rx.int_of
      have e2 := ry.int_of
      subst e1
      subst e2
      have e : decide ((V.int i) = V.int j) = decide (i = j) := by simp
      exact ⟨rfl, by rw [e]; exact q _ _ μ H0 H1 (exr _) rw_ (.bl _) k⟩
    · cases h
      rename_i i j
      have e1 := rx.str_of
      have e2 := ry.str_of
      subst e1
      subst e2
      have e : decide ((V.str i) = V.str j) = decide (i = j) := by simp
      exact ⟨rfl, by rw [e]; exact q _ _ μ H0 H1 (exr _) rw_ (.bl _) k⟩
    · cases h
  · exact .inr (l2_eq x y μ K h u v H0 H1 rx ry rw_ Q q)
end DL
namespace DL
open PySem PySem.Spec PyProof.Rows L2
open Evl (Ex ex_rd ex_l ex_t fresh_back)
variable [AM : Amb]

theorem vals_of_all {H : Hp} {us : List V} {x : D} (h : DtAll H us [x]) : ∃ u, us = [u] ∧ Dt H u x := by
  cases h with
  | cons r t => cases t; exact ⟨_, rfl, r⟩
theorem vals_of_all2 {H : Hp} {us : List V} {x y : D} (h : DtAll H us [x, y]) : ∃ u v, us = [u, v] ∧ Dt H u x ∧ Dt H v y := by
  cases h with
  | cons r t => cases t with
    | cons r2 t => cases t; exact ⟨_, _, rfl, r, r2⟩
theorem all_ints {H : Hp} : ∀ {us : List V} {ns : List Int}, DtAll H us (ns.map D.int) → us = ns.map V.int
  | [], [], _ => rfl
  | [], _ :: _, h => by cases h
  | _ :: _, [], h => by cases h
  | u :: us, n :: ns, h => by
    cases h with
    | cons r t => rw [r.int_of, all_ints t]; rfl
theorem all_bls {H : Hp} : ∀ {us : List V} {ns : List Bool}, DtAll H us (ns.map D.bl) → us = ns.map V.bl
  | [], [], _ => rfl
  | [], _ :: _, h => by cases h
  | _ :: _, [], h => by cases h
  | u :: us, n :: ns, h => by
    cases h with
    | cons r t => rw [r.bl_of, all_bls t]; rfl

/-! ### is None -/
def rIsN : R2 := fun x y H Q => y = .non ∧ Q (.bl (decide (x = .non))) H
def rNotN : R2 := fun x y H Q => y = .non ∧ Q (.bl (!decide (x = .non))) H
def isNon : D → Option Bool
  | .non => some true
  | .any _ => none
  | .val v => some (decide (v = .non))
  | _ => some false
theorem isNon_at {H : Hp} {v : V} {x : D} {b : Bool} (r : Dt H v x) (h : isNon x = some b) : decide (v = .non) = b := by
  cases r <;> first | (cases h; done) | (cases h; rfl) | (cases h; simp)
def fIsN (neg : Bool) : DO2 := fun x y μ K => y = .non ∧ ∃ b, isNon x = some b ∧ K (.bl (if neg then !b else b)) μ
theorem op_isN1 {X : Cx} : OpR X (compareOp .Is) rIsN := op_isN
theorem op_notN1 {X : Cx} : OpR X (compareOp .IsNot) rNotN := op_notN
theorem l2_isN : Lift2 rIsN (fIsN false) := fun x y μ K ⟨ey, b, hb, k⟩ u v H0 H1 rx ry rw_ Q q => by
  subst ey
  refine ⟨ry.non_of, ?_⟩
  rw [isNon_at rx hb]
  exact q _ _ μ H0 H1 (exr _) rw_ (.bl _) k
theorem l2_notN : Lift2 rNotN (fIsN true) := fun x y μ K ⟨ey, b, hb, k⟩ u v H0 H1 rx ry rw_ Q q => by
  subst ey
  refine ⟨ry.non_of, ?_⟩
  rw [isNon_at rx hb]
  exact q _ _ μ H0 H1 (exr _) rw_ (.bl _) k

/-! ### unary -/
def fNeg : D → Mu → KD → Prop := fun x μ K => ∃ i, x = .int i ∧ K (.int (-i)) μ
theorem l1_neg : Lift1 (rU fun i => .int (-i)) fNeg := fun x μ K ⟨i, e, k⟩ u H0 H1 rx rw_ Q q => by
  subst e
  rw [rx.int_of]
  exact ⟨i, rfl, q _ _ μ H0 H1 (exr _) rw_ (.int _) k⟩

/-! ### subscripts -/
def fIx : DO2 := fun x y μ K => ∃ xs i d, asS μ x = some xs ∧ y = .int i ∧ atI xs i = some d ∧ K d μ
theorem atI_all {H : Hp} {vs : List V} {xs : List D} {i : Int} {d : D} (t : DtAll H vs xs) (h : atI xs i = some d) : ∃ v, atI vs i = some v ∧ Dt H v d := by
  unfold atI at h ⊢
  rw [t.length]
  cases e : ixN xs.length i with
  | none => rw [e] at h; cases h
  | some j =>
    rw [e] at h
    exact t.get h
theorem l2_ix {K' : PySem.W.Frag} : Lift2 (rIx K') fIx := by
  intro x y μ K ⟨xs, i, d, hx, ey, hd, k⟩ u v H0 H1 rx ry rw_ Q q
  subst ey
  rw [ry.int_of]
  cases x with
  | tup ys =>
    cases hx
    obtain ⟨a, vs, rfl, ha, ta⟩ := rx.tup_of
    obtain ⟨w, hw, rw'⟩ := atI_all ta hd
    exact .inr (.inl ⟨a, vs, i, w, rfl, rfl, SqT.of (rw_.ex _ _ ha), hw, q _ _ μ H0 H1 (exr _) rw_ rw' k⟩)
  | lst ys =>
    obtain ⟨a, vs, rfl, ha, ta⟩ := asL_at rx rw_ hx
    obtain ⟨w, hw, rw'⟩ := atI_all ta hd
    exact .inl ⟨a, vs, i, w, rfl, rfl, SqL.of ha, hw, q _ _ μ H0 H1 (exr _) rw_ rw' k⟩
  | val z =>
    obtain ⟨a, vs, rfl, ha, ta⟩ := asL_at rx rw_ hx
    obtain ⟨w, hw, rw'⟩ := atI_all ta hd
    exact .inl ⟨a, vs, i, w, rfl, rfl, SqL.of ha, hw, q _ _ μ H0 H1 (exr _) rw_ rw' k⟩
  | _ => cases hx

/-! ### slices -/
abbrev DO := Ro → Mu → (Option Int → Mu → Prop) → Prop
def LiftO (to : TO) (do_ : DO) : Prop := ∀ ρ μ K, do_ ρ μ K → ∀ σ H0 H1, Sl ρ σ H0 → Rw μ H0 H1 → ∀ Q : Option Int → Hp → Prop,
  (∀ o μ' H0' H1', Ex H0 H0' → Rw μ' H0' H1' → K o μ' → Q o H1') → to σ H1 Q
def dNoPart : DO := fun _ μ K => K none μ
def dPart (de : DE) : DO := fun ρ μ K => de ρ μ fun x μ1 => ∃ i, x = .int i ∧ K (some i) μ1
theorem lo_none : LiftO tNoPart dNoPart := fun ρ μ K h σ H0 H1 sl rw_ Q q => q none μ H0 H1 (exr _) rw_ h
theorem lo_some {te : TE} {de : DE} (h : Lift te de) : LiftO (tPart te) (dPart de) := fun ρ μ K hk σ H0 H1 sl rw_ Q q =>
  h ρ μ _ hk σ H0 H1 sl rw_ _ fun x u μ1 H01 H11 e1 rw1 r1 ⟨i, ei, k⟩ => by subst ei; exact ⟨i, r1.int_of, q (some i) μ1 H01 H11 e1 rw1 k⟩
def cutD (xs : List D) (lo hi : Option Int) : List D := (xs.drop (HT.sIx xs.length 0 lo)).take (HT.sIx xs.length xs.length hi - HT.sIx xs.length 0 lo)
theorem cut_all {H : Hp} {vs : List V} {xs : List D} (t : DtAll H vs xs) (lo hi : Option Int) : DtAll H (cutV vs lo hi) (cutD xs lo hi) := by
  unfold cutV cutD
  rw [t.length]
  exact (t.drop _).take _
def rSlD (K : PySem.W.Frag) : V → Option Int → Option Int → Hp → VK → Prop := fun x lo hi H Q => rSlL K x lo hi H Q ∨ rSlA K x lo hi H Q
theorem sl_D {X : Cx} : SlR X (rSlD X.K) := sl_list.or sl_tupA
def fSl (x : D) (lo hi : Option Int) (μ : Mu) (K : KD) : Prop := match x with
  | .tup xs => K (.tup (cutD xs lo hi)) μ
  | x => ∃ xs, asL μ x = some xs ∧ K (.lst (cutD xs lo hi)) μ
theorem cut_whole {α : Type} (xs : List α) (lo hi : Option Int) (h : HT.sIx xs.length 0 lo = 0 ∧ HT.sIx xs.length xs.length hi = xs.length) : (xs.drop (HT.sIx xs.length 0 lo)).take (HT.sIx xs.length xs.length hi - HT.sIx xs.length 0 lo) = xs := by
  rw [h.1, h.2]
  simp
def dSl (f : D → Option Int → Option Int → Mu → KD → Prop) (de : DE) (dl dh : DO) : DE := fun ρ μ K => de ρ μ fun x μ1 => dl ρ μ1 fun l μ2 => dh ρ μ2 fun h μ3 => f x l h μ3 K
theorem l_sl {K' : PySem.W.Frag} {te : TE} {de : DE} {tl th : TO} {dl dh : DO} (he : Lift te de) (hl : LiftO tl dl) (hh : LiftO th dh) : Lift (tSl (rSlD K') te tl th) (dSl fSl de dl dh) := fun ρ μ K h σ H0 H1 sl rw_ Q q =>
  he ρ μ _ h σ H0 H1 sl rw_ _ fun x u μ1 H01 H11 e1 rw1 r1 h1 => hl ρ μ1 _ h1 σ H01 H11 (sl.mono e1) rw1 _ fun lo μ2 H02 H12 e2 rw2 h2 =>
    hh ρ μ2 _ h2 σ H02 H12 (sl.mono (e1.trans e2)) rw2 _ fun hi μ3 H03 H13 e3 rw3 h3 => by
      have r3 := (r1.mono e2).mono e3
      have lists : (∃ xs, asL μ3 x = some xs ∧ K (.lst (cutD xs lo hi)) μ3) → rSlD K' u lo hi H13 Q := fun ⟨xs, hx, k⟩ => by
        obtain ⟨a, vs, rfl, ha, ta⟩ := asL_at r3 rw3 hx
        refine .inl ⟨a, vs, rfl, SqL.of ha, fun p hp => ?_⟩
        obtain ⟨e4, rw4⟩ := rw3.new (o := .lst (cutV vs lo hi)) hp
        exact q _ _ μ3 _ _ (((e1.trans e2).trans e3).trans e4) rw4 (.lst upd_same ((cut_all ta lo hi).mono e4)) k
      unfold fSl at h3
      split at h3
      · rename_i xs
        obtain ⟨a, vs, rfl, ha, ta⟩ := r3.tup_of
        refine .inr ⟨a, vs, rfl, SqT.of (rw3.ex _ _ ha), fun hw => ?_, fun _ p hp => ?_⟩
        · have e : cutD xs lo hi = xs := cut_whole xs lo hi (by rw [← ta.length]; exact hw)
          rw [e] at h3
          exact q _ _ μ3 H03 H13 ((e1.trans e2).trans e3) rw3 (.tup ha ta) h3
        · obtain ⟨e4, rw4⟩ := rw3.new (o := .tup (cutV vs lo hi)) hp
          exact q _ _ μ3 _ _ (((e1.trans e2).trans e3).trans e4) rw4 (.tup upd_same ((cut_all ta lo hi).mono e4)) h3
      · exact lists h3

/-! ### built-in calls -/
def rLenD (K : PySem.W.Frag) : List V → Hp → VK → Prop := fun xs H Q => (∃ p ys, xs = [.ref p] ∧ (SqL K H p ys ∨ SqT K H p ys) ∧ Q (.int ys.length) H) ∨ (∃ z, xs = [.str z] ∧ z.length ≤ sizeLine ∧ Q (.int z.length) H)
theorem call_lenDD {X : Cx} : CallR X (.builtin "len") (rLenD X.K) := call_len_seq.or call_len_str
def fLen : DOn := fun xs μ K => match xs with
  | [.str z] => z.length ≤ sizeLine ∧ K (.int z.length) μ
  | [x] => ∃ ys, asS μ x = some ys ∧ K (.int ys.length) μ
  | _ => False
theorem asS_at {K' : PySem.W.Frag} {μ : Mu} {H0 H1 : Hp} {x : D} {v : V} {xs : List D} (r : Dt H0 v x) (rw_ : Rw μ H0 H1) (h : asS μ x = some xs) : ∃ a vs, v = .ref a ∧ (SqL K' H1 a vs ∨ SqT K' H1 a vs) ∧ DtAll H0 vs xs := by
  cases x with
  | tup ys =>
    cases h
    obtain ⟨a, vs, e, ha, t⟩ := r.tup_of
    exact ⟨a, vs, e, .inr (SqT.of (rw_.ex _ _ ha)), t⟩
  | lst ys =>
    obtain ⟨a, vs, e, ha, t⟩ := asL_at r rw_ (show asL μ (.lst ys) = some xs from h)
    exact ⟨a, vs, e, .inl (SqL.of ha), t⟩
  | val w =>
    obtain ⟨a, vs, e, ha, t⟩ := asL_at r rw_ (show asL μ (.val w) = some xs from h)
    exact ⟨a, vs, e, .inl (SqL.of ha), t⟩
  | _ => cases h
theorem lc_len {K' : PySem.W.Frag} : LiftC (rLenD K') fLen := by
  intro xs μ K h us H0 H1 rx rw_ Q q
  unfold fLen at h
  split at h
  · obtain ⟨u, rfl, r⟩ := vals_of_all rx
    rw [r.str_of]
    exact .inr ⟨_, rfl, h.1, q _ _ μ H0 H1 (exr _) rw_ (.int _) h.2⟩
  · obtain ⟨u, rfl, r⟩ := vals_of_all rx
    obtain ⟨ys, hy, k⟩ := h
    obtain ⟨a, vs, rfl, hs, t⟩ := asS_at (K' := K') r rw_ hy
    rw [← t.length] at k
    exact .inl ⟨a, vs, rfl, hs, q _ _ μ H0 H1 (exr _) rw_ (.int _) k⟩
  · exact h.elim
/-- a thing's built-in type -/
def tyD (μ : Mu) : D → Option String
  | .non => some "NoneType"
  | .bl _ => some "bool"
  | .int _ => some "int"
  | .str _ => some "str"
  | .lst _ => some "list"
  | .tup _ => some "tuple"
  | .dct _ => some "dict"
  | .val (.ref a) => match μ a with
    | some (.lst _) => some "list"
    | _ => none
  | _ => none
theorem ty_at {K' : PySem.W.Frag} {μ : Mu} {H0 H1 : Hp} {x : D} {v : V} {t : String} (r : Dt H0 v x) (rw_ : Rw μ H0 H1) (h : tyD μ x = some t) : TyX K' H1 v (.type t) := by
  cases x with
  | val w =>
    have e := r.val_of
    subst e
    cases v with
    | ref a =>
      have h' : (match μ a with
        | some (.lst _) => some "list"
        | _ => none) = some t := h
      cases hm : μ a with
      | none => rw [hm] at h'; cases h'
      | some m =>
        cases m with
        | ins C fs => rw [hm] at h'; cases h'
        | lst zs =>
          rw [hm] at h'
          cases h'
          obtain ⟨_, vs, e, _⟩ := rw_.mu a _ hm
          exact .base (.lst e)
    | _ => cases h
  | non => cases h; rw [r.non_of]; exact .base .non
  | bl b => cases h; rw [r.bl_of]; exact .base (.bl b)
  | int i => cases h; rw [r.int_of]; exact .base (.int i)
  | str x => cases h; rw [r.str_of]; exact .base (.str x)
  | lst xs =>
    cases h
    obtain ⟨a, vs, rfl, ha, _⟩ := r.lst_of
    exact .base (.lst (rw_.ex _ _ ha))
  | tup xs =>
    cases h
    obtain ⟨a, vs, rfl, ha, _⟩ := r.tup_of
    exact .base (.tup (rw_.ex _ _ ha))
  | dct kvs =>
    cases h
    cases r with
    | dct ha _ _ => exact .base (.dK (rw_.ex _ _ ha))
  | ins C fs => cases h
  | any P => cases h
/-- a class as a thing -/
def clsD : D → Option Value
  | .val (.ty n) => some (.type n)
  | .val (.ref C) => some (.ref C)
  | _ => none
def fIsi (K' : PySem.W.Frag) : DOn := fun xs μ K => ∃ x c t u b, xs = [x, c] ∧ clsD c = some u ∧ tyD μ x = some t ∧ PySem.W.kitOne K' (.type t) u = some b ∧ K (.bl b) μ
theorem clsD_at {H : Hp} {c : D} {v : V} {u : Value} (r : Dt H v c) (h : clsD c = some u) : ClsV v u := by
  cases c with
  | val w =>
    have e := r.val_of
    subst e
    cases v <;> first | (cases h; exact .ty _) | (cases h; exact .own _) | cases h
  | _ => cases h
theorem lc_isi {K' : PySem.W.Frag} : LiftC (rIsi K') (fIsi K') := by
  intro xs μ K ⟨x, c, t, u, b, e, hc, ht, hb, k⟩ us H0 H1 rx rw_ Q q
  subst e
  obtain ⟨w, v, rfl, r1, r2⟩ := vals_of_all2 rx
  exact ⟨w, v, _, u, b, rfl, clsD_at r2 hc, ty_at r1 rw_ ht, hb, q _ _ μ H0 H1 (exr _) rw_ (.bl b) k⟩
def fAll : DOn := fun xs μ K => ∃ (x : D) (bs : List Bool), xs = [x] ∧ asL μ x = some (bs.map D.bl) ∧ K (.bl (bs.all id)) μ
theorem lc_all {K' : PySem.W.Frag} : LiftC (rAll K') fAll := by
  intro xs μ K ⟨x, bs, e, hx, k⟩ us H0 H1 rx rw_ Q q
  subst e
  obtain ⟨u, rfl, r⟩ := vals_of_all rx
  obtain ⟨a, vs, rfl, ha, t⟩ := asL_at r rw_ hx
  rw [all_bls t] at ha
  exact ⟨a, bs, rfl, SqL.of ha, q _ _ μ H0 H1 (exr _) rw_ (.bl _) k⟩
def fAny : DOn := fun xs μ K => ∃ (x : D) (bs : List Bool), xs = [x] ∧ asL μ x = some (bs.map D.bl) ∧ K (.bl (bs.any id)) μ
theorem lc_any {K' : PySem.W.Frag} : LiftC (rAny K') fAny := by
  intro xs μ K ⟨x, bs, e, hx, k⟩ us H0 H1 rx rw_ Q q
  subst e
  obtain ⟨u, rfl, r⟩ := vals_of_all rx
  obtain ⟨a, vs, rfl, ha, t⟩ := asL_at r rw_ hx
  rw [all_bls t] at ha
  exact ⟨a, bs, rfl, SqL.of ha, q _ _ μ H0 H1 (exr _) rw_ (.bl _) k⟩
def fSum : DOn := fun xs μ K => ∃ (x : D) (ns : List Int), xs = [x] ∧ asL μ x = some (ns.map D.int) ∧ K (.int ns.sum) μ
theorem lc_sum {K' : PySem.W.Frag} : LiftC (rSum K') fSum := by
  intro xs μ K ⟨x, bs, e, hx, k⟩ us H0 H1 rx rw_ Q q
  subst e
  obtain ⟨u, rfl, r⟩ := vals_of_all rx
  obtain ⟨a, vs, rfl, ha, t⟩ := asL_at r rw_ hx
  rw [all_ints t] at ha
  exact ⟨a, bs, rfl, SqL.of ha, q _ _ μ H0 H1 (exr _) rw_ (.int _) k⟩
def rMax2D : List V → Hp → VK → Prop := fun xs H Q => ∃ i j, xs = [.int i, .int j] ∧ Q (.int (if j > i then j else i)) H
theorem call_max2D {X : Cx} (hc : X.calm = true) : CallR X (.builtin "max") rMax2D := call_max2 hc
def fMax2 : DOn := fun xs μ K => ∃ i j, xs = [.int i, .int j] ∧ K (.int (if j > i then j else i)) μ
theorem lc_max2 : LiftC rMax2D fMax2 := by
  intro xs μ K ⟨i, j, e, k⟩ us H0 H1 rx rw_ Q q
  subst e
  obtain ⟨u, v, rfl, r1, r2⟩ := vals_of_all2 rx
  rw [r1.int_of, r2.int_of]
  exact ⟨i, j, rfl, q _ _ μ H0 H1 (exr _) rw_ (.int _) k⟩
def rTupD (K : PySem.W.Frag) : List V → Hp → VK → Prop := fun xs H Q => ∃ p ys, xs = [.ref p] ∧ ((SqL K H p ys ∧ ∀ l, H l = none → Q (.ref l) (upd H l (.tup ys))) ∨ (SqT K H p ys ∧ Q (.ref p) H))
theorem call_tupD {X : Cx} : CallR X (.type "tuple") (rTupD X.K) := call_tuple_of
def fTuple : DOn := fun xs μ K => ∃ (x : D) (ys : List D), xs = [x] ∧ asS μ x = some ys ∧ K (.tup ys) μ
theorem lc_tuple {K' : PySem.W.Frag} : LiftC (rTupD K') fTuple := by
  intro xs μ K ⟨x, ys, e, hx, k⟩ us H0 H1 rx rw_ Q q
  subst e
  obtain ⟨u, rfl, r⟩ := vals_of_all rx
  have lists : asL μ x = some ys → rTupD K' [u] H1 Q := fun hx => by
    obtain ⟨a, vs, rfl, ha, t⟩ := asL_at r rw_ hx
    refine ⟨a, vs, rfl, .inl ⟨SqL.of ha, fun l hl => ?_⟩⟩
    obtain ⟨e2, rw2⟩ := rw_.new (o := .tup vs) hl
    exact q _ _ μ _ _ e2 rw2 (.tup upd_same (t.mono e2)) k
  cases x with
  | tup zs =>
    cases hx
    obtain ⟨a, vs, rfl, ha, t⟩ := r.tup_of
    exact ⟨a, vs, rfl, .inr ⟨SqT.of (rw_.ex _ _ ha), q _ _ μ H0 H1 (exr _) rw_ (.tup ha t) k⟩⟩
  | lst zs => exact lists hx
  | val w => exact lists hx
  | _ => cases hx
def rLstD (K : PySem.W.Frag) : List V → Hp → VK → Prop := fun xs H Q => ∃ p ys, xs = [.ref p] ∧ (SqL K H p ys ∨ SqT K H p ys) ∧ ∀ l, H l = none → Q (.ref l) (upd H l (.lst ys))
theorem call_lstD {X : Cx} : CallR X (.type "list") (rLstD X.K) := call_list_of
def fList : DOn := fun xs μ K => ∃ (x : D) (ys : List D), xs = [x] ∧ asS μ x = some ys ∧ K (.lst ys) μ
theorem lc_list' {K' : PySem.W.Frag} : LiftC (rLstD K') fList := by
  intro xs μ K ⟨x, ys, e, hx, k⟩ us H0 H1 rx rw_ Q q
  subst e
  obtain ⟨u, rfl, r⟩ := vals_of_all rx
  obtain ⟨a, vs, rfl, hs, t⟩ := asS_at (K' := K') r rw_ hx
  refine ⟨a, vs, rfl, hs, fun l hl => ?_⟩
  obtain ⟨e2, rw2⟩ := rw_.new (o := .lst vs) hl
  exact q _ _ μ _ _ e2 rw2 (.lst upd_same (t.mono e2)) k
/-- int(b), b an int or a bool -/
def rIntD : List V → Hp → VK → Prop := fun xs H Q => (∃ i, xs = [.int i] ∧ Q (.int i) H) ∨ ∃ k, xs = [.bl k] ∧ Q (.int (if k then 1 else 0)) H
theorem call_intD {X : Cx} : CallR X (.type "int") rIntD := call_int1
def fInt1 : DOn := fun xs μ K => match xs with
  | [.int i] => K (.int i) μ
  | [.bl b] => K (.int (if b then 1 else 0)) μ
  | _ => False
theorem lc_int1 : LiftC rIntD fInt1 := by
  intro xs μ K h us H0 H1 rx rw_ Q q
  unfold fInt1 at h
  split at h
  · obtain ⟨u, rfl, r⟩ := vals_of_all rx
    rw [r.int_of]
    exact .inl ⟨_, rfl, q _ _ μ H0 H1 (exr _) rw_ (.int _) h⟩
  · obtain ⟨u, rfl, r⟩ := vals_of_all rx
    rw [r.bl_of]
    exact .inr ⟨_, rfl, q _ _ μ H0 H1 (exr _) rw_ (.int _) h⟩
  · exact h.elim

/-! ### a new list that will change -/
theorem Rw0.newM {μ : Mu} {H0 H1 : Hp} {p : Addr} {vs : List V} {ds : List D} (r : Rw0 μ H0 H1) (hp : H1 p = none) (t : DtAll H0 vs ds) : μ p = none ∧ Rw0 (mup μ p (.lst ds)) H0 (upd H1 p (.lst vs)) := by
  have h0 : H0 p = none := fresh_back r.ex hp
  have hm : μ p = none := by
    cases e : μ p with
    | none => rfl
    | some m =>
      obtain ⟨_, q2⟩ := r.mu p m e
      cases m with
      | lst ds => obtain ⟨_, z, _⟩ := q2; rw [hp] at z; cases z
      | ins C fs => obtain ⟨_, _, z, _⟩ := q2; rw [hp] at z; cases z
  refine ⟨hm, ⟨fun a u h => ?_, r.sys.upd (fun φ z => by rw [hp] at z; cases z), fun a m h => ?_⟩⟩
  · rw [upd_ne (ne_of_none h h0)]
    exact r.ex a u h
  · by_cases ha : a = p
    · subst ha
      rw [mup_same] at h
      cases h
      exact ⟨h0, vs, upd_same, t⟩
    · rw [mup_ne ha] at h
      obtain ⟨q1, q2⟩ := r.mu a m h
      refine ⟨q1, ?_⟩
      cases m with
      | lst ds => obtain ⟨ws, z, tz⟩ := q2; exact ⟨ws, by rw [upd_ne ha]; exact z, tz⟩
      | ins C fs => obtain ⟨dx, fvs, z, kz, tz⟩ := q2; exact ⟨dx, fvs, by rw [upd_ne ha]; exact z, kz, tz⟩
theorem Rw.newM {μ : Mu} {H0 H1 : Hp} {p : Addr} {vs : List V} {ds : List D} (r : Rw μ H0 H1) (hp : H1 p = none) (t : DtAll H0 vs ds) : μ p = none ∧ Rw (mup μ p (.lst ds)) H0 (upd H1 p (.lst vs)) :=
  let ⟨e, r2⟩ := r.toRw0.newM hp t
  ⟨e, ⟨r2, r.am⟩⟩
def dLstM (da : DA) : DE := fun ρ μ K => da ρ μ fun xs μ1 => xs.length ≤ 100000 ∧ ∀ p, μ1 p = none → K (.val (.ref p)) (mup μ1 p (.lst xs))
theorem l_lstM {tr : TA} {dr : DA} (hr : LiftA tr dr) : Lift (tLst tr) (dLstM dr) := fun ρ μ K h σ H0 H1 sl rw_ Q q =>
  hr ρ μ _ h σ H0 H1 sl rw_ _ fun xs us μ1 H01 H11 e1 rw1 r1 ⟨hz, h1⟩ => ⟨Evl.sz_of (by rw [r1.length]; exact hz), fun p hp => by
    obtain ⟨hm, rw2⟩ := rw1.newM hp r1
    exact q (.val (.ref p)) (.ref p) _ _ _ e1 rw2 (.val _) (h1 p hm)⟩
def fListM : DOn := fun xs μ K => ∃ x ys, xs = [x] ∧ asS μ x = some ys ∧ ∀ p, μ p = none → K (.val (.ref p)) (mup μ p (.lst ys))
theorem lc_listM {K' : PySem.W.Frag} : LiftC (rLstD K') fListM := by
  intro xs μ K ⟨x, ys, e, hx, k⟩ us H0 H1 rx rw_ Q q
  subst e
  obtain ⟨u, rfl, r⟩ := vals_of_all rx
  obtain ⟨a, vs, rfl, hs, t⟩ := asS_at (K' := K') r rw_ hx
  refine ⟨a, vs, rfl, hs, fun l hl => ?_⟩
  obtain ⟨hm, rw2⟩ := rw_.newM hl t
  exact q _ _ _ _ _ (exr _) rw2 (.val _) (k l hm)
def fAddM : DO2 := fun x y μ K => ∃ xs ys, asL μ x = some xs ∧ asL μ y = some ys ∧ xs.length + ys.length ≤ 100000 ∧ ∀ p, μ p = none → K (.val (.ref p)) (mup μ p (.lst (xs ++ ys)))
theorem l2_addM {K' : PySem.W.Frag} : Lift2 (rAddD K') fAddM := fun x y μ K ⟨xs, ys, hx, hy, hz, k⟩ u v H0 H1 rx ry rw_ Q q =>
  l2_cat rx ry rw_ hx hy hz fun p vs ws hp ta tb => by
    obtain ⟨hm, rw2⟩ := rw_.newM hp (ta.append tb)
    exact q _ _ _ _ _ (exr _) rw2 (.val _) (k p hm)
end DL
namespace DL
open PySem PySem.Spec PyProof.Rows L2
open Evl (Ex ex_rd ex_l ex_t fresh_back)
variable [AM : Amb]

/-! ### statements -/
structure DEnds where
  nx : Ro → Mu → Prop
  rt : D → Mu → Prop
  bk : Ro → Mu → Prop := fun _ _ => False
  ct : Ro → Mu → Prop := fun _ _ => False
abbrev DS := DEnds → Ro → Mu → Prop
structure Link (H0 : Hp) (E : DEnds) (F : Ends) : Prop where
  nx : ∀ ρ μ σ H0' H1', Ex H0 H0' → Sl ρ σ H0' → Rw μ H0' H1' → E.nx ρ μ → F.nx σ H1'
  rt : ∀ d v μ H0' H1', Ex H0 H0' → Dt H0' v d → Rw μ H0' H1' → E.rt d μ → F.rt v H1'
  bk : ∀ ρ μ σ H0' H1', Ex H0 H0' → Sl ρ σ H0' → Rw μ H0' H1' → E.bk ρ μ → F.bk σ H1'
  ct : ∀ ρ μ σ H0' H1', Ex H0 H0' → Sl ρ σ H0' → Rw μ H0' H1' → E.ct ρ μ → F.ct σ H1'
theorem Link.mono {H0 H0' : Hp} {E : DEnds} {F : Ends} (l : Link H0 E F) (e : Ex H0 H0') : Link H0' E F :=
  ⟨fun ρ μ σ a b e2 => l.nx ρ μ σ a b (e.trans e2), fun d v μ a b e2 => l.rt d v μ a b (e.trans e2), fun ρ μ σ a b e2 => l.bk ρ μ σ a b (e.trans e2), fun ρ μ σ a b e2 => l.ct ρ μ σ a b (e.trans e2)⟩
def LiftS (ts : TS) (ds : DS) : Prop := ∀ E ρ μ, ds E ρ μ → ∀ F σ H0 H1, Sl ρ σ H0 → Rw μ H0 H1 → Link H0 E F → ts F σ H1
abbrev DG := D → Ro → Mu → (Ro → Mu → Prop) → Prop
abbrev DGs := List D → Ro → Mu → (Ro → Mu → Prop) → Prop
def LiftG (g : TG) (dg : DG) : Prop := ∀ x ρ μ K, dg x ρ μ K → ∀ v σ H0 H1, Dt H0 v x → Sl ρ σ H0 → Rw μ H0 H1 → ∀ Q : L2.St → Hp → Prop,
  (∀ ρ' μ' σ' H0' H1', Ex H0 H0' → Sl ρ' σ' H0' → Rw μ' H0' H1' → K ρ' μ' → Q σ' H1') → g v σ H1 Q
def LiftGs (g : TGs) (dg : DGs) : Prop := ∀ xs ρ μ K, dg xs ρ μ K → ∀ vs σ H0 H1, DtAll H0 vs xs → Sl ρ σ H0 → Rw μ H0 H1 → ∀ Q : L2.St → Hp → Prop,
  (∀ ρ' μ' σ' H0' H1', Ex H0 H0' → Sl ρ' σ' H0' → Rw μ' H0' H1' → K ρ' μ' → Q σ' H1') → g vs σ H1 Q

def dNext : DS := fun E ρ μ => E.nx ρ μ
def dBreak : DS := fun E ρ μ => E.bk ρ μ
def dCont : DS := fun E ρ μ => E.ct ρ μ
def dSeq (d e : DS) : DS := fun E ρ μ => d { E with nx := e E } ρ μ
def dIfS (c : DT) (d e : DS) : DS := fun E ρ μ => c ρ μ fun b μ1 => if b = true then d E ρ μ1 else e E ρ μ1
def dRet (de : DE) : DS := fun E ρ μ => de ρ μ E.rt
def dRetN : DS := fun E _ μ => E.rt .non μ
def dDrop (de : DE) : DS := fun E ρ μ => de ρ μ fun _ μ1 => E.nx ρ μ1
def dAsg (de : DE) (g : DG) : DS := fun E ρ μ => de ρ μ fun x μ1 => g x ρ μ1 E.nx
def dName (i : Nat) : DG := fun x ρ μ K => K (ρ.set i (some x)) μ
def dGNil : DGs := fun xs ρ μ K => xs = [] ∧ K ρ μ
def dGCons (g : DG) (gs : DGs) : DGs := fun xs ρ μ K => ∃ (x : D) (r : List D), xs = x :: r ∧ g x ρ μ fun ρ1 μ1 => gs r ρ1 μ1 K
def dGTup (n : Nat) (gs : DGs) : DG := fun x ρ μ K => ∃ xs : List D, x = .tup xs ∧ xs.length = n ∧ gs xs ρ μ K
section
variable {t u : TS} {d e : DS} {te : TE} {de : DE} {g : TG} {dg : DG}
theorem ls_next : LiftS tNext dNext := fun E ρ μ h F σ H0 H1 sl rw_ l => l.nx _ _ _ H0 H1 (exr _) sl rw_ h
theorem ls_break : LiftS tBreak dBreak := fun E ρ μ h F σ H0 H1 sl rw_ l => l.bk _ _ _ H0 H1 (exr _) sl rw_ h
theorem ls_cont : LiftS tCont dCont := fun E ρ μ h F σ H0 H1 sl rw_ l => l.ct _ _ _ H0 H1 (exr _) sl rw_ h
theorem ls_seq (h1 : LiftS t d) (h2 : LiftS u e) : LiftS (tSeq t u) (dSeq d e) := fun E ρ μ h F σ H0 H1 sl rw_ l =>
  h1 _ ρ μ h { F with nx := u F } σ H0 H1 sl rw_ ⟨fun ρ' μ' σ' H0' H1' e1 sl' rw' k => h2 E ρ' μ' k F σ' H0' H1' sl' rw' (l.mono e1), l.rt, l.bk, l.ct⟩
theorem ls_if {c : TT} {dc : DT} (hc : LiftT c dc) (h1 : LiftS t d) (h2 : LiftS u e) : LiftS (tIfS c t u) (dIfS dc d e) := fun E ρ μ h F σ H0 H1 sl rw_ l =>
  hc ρ μ _ h σ H0 H1 sl rw_ _ fun b μ1 H01 H11 e1 rw1 k => by
    cases b with
    | true => exact h1 E ρ μ1 k F σ H01 H11 (sl.mono e1) rw1 (l.mono e1)
    | false => exact h2 E ρ μ1 k F σ H01 H11 (sl.mono e1) rw1 (l.mono e1)
theorem ls_ret (h1 : Lift te de) : LiftS (tRet te) (dRet de) := fun E ρ μ h F σ H0 H1 sl rw_ l =>
  h1 ρ μ _ h σ H0 H1 sl rw_ _ fun d v μ1 H01 H11 e1 rw1 r k => l.rt d v μ1 H01 H11 e1 r rw1 k
theorem ls_retN : LiftS tRetN dRetN := fun E ρ μ h F σ H0 H1 sl rw_ l => l.rt .non .non μ H0 H1 (exr _) .non rw_ h
theorem ls_drop (h1 : Lift te de) : LiftS (tDrop te) (dDrop de) := fun E ρ μ h F σ H0 H1 sl rw_ l =>
  h1 ρ μ _ h σ H0 H1 sl rw_ _ fun d v μ1 H01 H11 e1 rw1 r k => l.nx ρ μ1 σ H01 H11 e1 (sl.mono e1) rw1 k
theorem ls_asg (h1 : Lift te de) (h2 : LiftG g dg) : LiftS (tAsg te g) (dAsg de dg) := fun E ρ μ h F σ H0 H1 sl rw_ l =>
  h1 ρ μ _ h σ H0 H1 sl rw_ _ fun x v μ1 H01 H11 e1 rw1 r k => h2 x ρ μ1 _ k v σ H01 H11 r (sl.mono e1) rw1 _ fun ρ' μ' σ' H0' H1' e2 sl' rw' k' => l.nx ρ' μ' σ' H0' H1' (e1.trans e2) sl' rw' k'
theorem lg_name {i : Nat} : LiftG (gName i) (dName i) := fun x ρ μ K h v σ H0 H1 r sl rw_ Q q => q _ μ _ H0 H1 (exr _) (sl.set i r) rw_ h
theorem lgs_nil : LiftGs gNil dGNil := fun xs ρ μ K ⟨e, k⟩ vs σ H0 H1 r sl rw_ Q q => by
  subst e
  cases r
  exact ⟨rfl, q ρ μ σ H0 H1 (exr _) sl rw_ k⟩
theorem lgs_cons {gs : TGs} {dgs : DGs} (h1 : LiftG g dg) (h2 : LiftGs gs dgs) : LiftGs (gCons g gs) (dGCons dg dgs) := fun xs ρ μ K ⟨x, r, e, k⟩ vs σ H0 H1 rr sl rw_ Q q => by
  subst e
  cases rr with
  | cons r1 r2 => exact ⟨_, _, rfl, h1 x ρ μ _ k _ σ H0 H1 r1 sl rw_ _ fun ρ1 μ1 σ1 H01 H11 e1 sl1 rw1 k1 => h2 r ρ1 μ1 K k1 _ σ1 H01 H11 (r2.mono e1) sl1 rw1 Q fun ρ' μ' σ' H0' H1' e2 => q ρ' μ' σ' H0' H1' (e1.trans e2)⟩
theorem lg_tup {K' : PySem.W.Frag} {n : Nat} {gs : TGs} {dgs : DGs} (h2 : LiftGs gs dgs) : LiftG (gTup K' n gs) (dGTup n dgs) := fun x ρ μ K ⟨xs, e, hn, k⟩ v σ H0 H1 r sl rw_ Q q => by
  subst e
  obtain ⟨a, vs, rfl, ha, t⟩ := r.tup_of
  exact ⟨a, vs, rfl, SqT.of (rw_.ex _ _ ha), by rw [t.length]; exact hn, h2 xs ρ μ K k vs σ H0 H1 t sl rw_ Q q⟩
end

/-! ### a list that changes -/
theorem Rw.setM {μ : Mu} {H0 H1 : Hp} {a : Addr} {xs ds : List D} {vs : List V} (r : Rw μ H0 H1) (hm : μ a = some (.lst xs)) (t : DtAll H0 vs ds) : Rw (mup μ a (.lst ds)) H0 (upd H1 a (.lst vs)) := by
  obtain ⟨h0, ws, hw, tw⟩ := r.mu a _ hm
  refine ⟨⟨fun b u h => ?_, r.sys.upd (fun φ z => by rw [hw] at z; cases z), fun b m h => ?_⟩, r.am⟩
  · rw [upd_ne (ne_of_none h h0)]
    exact r.ex b u h
  · by_cases ha : b = a
    · subst ha
      rw [mup_same] at h
      cases h
      exact ⟨h0, vs, upd_same, t⟩
    · rw [mup_ne ha] at h
      obtain ⟨q1, q2⟩ := r.mu b m h
      refine ⟨q1, ?_⟩
      cases m with
      | lst ds => obtain ⟨zs, z, tz⟩ := q2; exact ⟨zs, by rw [upd_ne ha]; exact z, tz⟩
      | ins C fs => obtain ⟨dx, fvs, z, kz, tz⟩ := q2; exact ⟨dx, fvs, by rw [upd_ne ha]; exact z, kz, tz⟩
theorem Rw.atM {μ : Mu} {H0 H1 : Hp} {a : Addr} {xs : List D} (r : Rw μ H0 H1) (hm : μ a = some (.lst xs)) : ∃ vs, H1 a = some (.lst vs) ∧ DtAll H0 vs xs := (r.mu a _ hm).2
/-- xs.append(e) as an expression -/
def dApp (da : DE) (de : DE) : DE := fun ρ μ K => da ρ μ fun x μ1 => ∃ a, x = .val (.ref a) ∧ (∃ ys, μ1 a = some (.lst ys)) ∧ de ρ μ1 fun y μ2 => ∃ xs, μ2 a = some (.lst xs) ∧ xs.length < 100000 ∧ K .non (mup μ2 a (.lst (xs ++ [y])))
theorem l_app {K' : PySem.W.Frag} {ta te : TE} {da de : DE} (ha : Lift ta da) (he : Lift te de) : Lift (tBM K' "list" rAppend ta (tCons te tNil)) (dApp da de) := fun ρ μ K h σ H0 H1 sl rw_ Q q =>
  ha ρ μ _ h σ H0 H1 sl rw_ _ fun x v μ1 H01 H11 e1 rw1 r1 ⟨a, ex, ⟨ys, hy⟩, k⟩ => by
    subst ex
    have ev := r1.val_of
    subst ev
    obtain ⟨vs, hv, _⟩ := rw1.atM hy
    refine ⟨.inl ⟨rfl, vs, SqL.of hv⟩, ?_⟩
    exact he ρ μ1 _ k σ H01 H11 (sl.mono e1) rw1 _ fun y u μ2 H02 H12 e2 rw2 r2 ⟨xs, hx, hz, k2⟩ => by
      obtain ⟨ws, hw, tw⟩ := rw2.atM hx
      exact ⟨a, ws, u, rfl, rfl, hw, Evl.sz_lt (by rw [tw.length]; exact hz), q .non .non _ _ _ (e1.trans e2) (rw2.setM hx (tw.append (.cons r2 .nil))) .non k2⟩
/-- xs[i] = e -/
def dSub (da di : DE) : DG := fun x ρ μ K => da ρ μ fun o μ1 => di ρ μ1 fun y μ2 => ∃ (a : Addr) (xs : List D) (i : Int) (j : Nat), o = .val (.ref a) ∧ y = .int i ∧ μ2 a = some (.lst xs) ∧ ixN xs.length i = some j ∧ K ρ (mup μ2 a (.lst (xs.set j x)))
theorem DtAll.set {H : Hp} {v : V} {d : D} (r : Dt H v d) : ∀ {vs : List V} {ds : List D} (j : Nat), DtAll H vs ds → DtAll H (vs.set j v) (ds.set j d)
  | _, _, _, .nil => .nil
  | _, _, 0, .cons _ t => .cons r t
  | _, _, j + 1, .cons q t => .cons q (DtAll.set r j t)
theorem lg_sub {ta ti : TE} {da di : DE} (ha : Lift ta da) (hi : Lift ti di) : LiftG (gSub ta ti rSetL) (dSub da di) := fun x ρ μ K h v σ H0 H1 r sl rw_ Q q =>
  ha ρ μ _ h σ H0 H1 sl rw_ _ fun o w μ1 H01 H11 e1 rw1 r1 k1 => hi ρ μ1 _ k1 σ H01 H11 (sl.mono e1) rw1 _ fun y z μ2 H02 H12 e2 rw2 r2 ⟨a, xs, i, j, eo, ey, hm, hj, k⟩ => by
    subst eo ey
    have ew := (r1.mono e2).val_of
    subst ew
    obtain ⟨vs, hv, t⟩ := rw2.atM hm
    rw [r2.int_of]
    exact ⟨a, vs, i, j, rfl, rfl, hv, by rw [t.length]; exact hj, q ρ _ σ _ _ (e1.trans e2) (sl.mono (e1.trans e2)) (rw2.setM hm (t.set (r.mono (e1.trans e2)) j)) k⟩

/-! ### loops -/
/-- a list or a tuple walked -/
def iSeq (K : PySem.W.Frag) (tl : TE) : TI := fun σ H R => tl σ H fun x H1 => (∃ a, x = .ref a ∧ (∃ xs, SqL K H1 a xs) ∧ R (Itl K a) H1) ∨ (∃ a, x = .ref a ∧ (∃ xs, SqT K H1 a xs) ∧ R (Itt K a) H1)
theorem pi_seq {X : Cx} {tg l : Expr} {tl : TE} (hl : PE X l tl) : PI X tg l (iSeq X.K tl) := by
  constructor
  intro pins s σ H R I h
  refine thn (hl.run pins s σ H _ I h) ?_
  rintro v s1 ⟨x, H1, I1, r1, ⟨a, rfl, ⟨xs, hq⟩, q⟩ | ⟨a, rfl, ⟨xs, hq⟩, q⟩⟩
  · cases r1
    obtain ⟨its, rv, p, hz⟩ := I1.list hq
    refine wpAny_pyIter_list p.isList ?_
    refine ⟨_, [s1.heap.objs.size], _, _, H1, rfl, I1.kept (t' := s1.toks) fun b o e => Heap.get?_push_of_some _ e, turn_list a _, ⟨_, Heap.get?_push_size _ rfl, rfl, rfl⟩, ?_, q⟩
    rintro b hb
    obtain rfl : b = s1.heap.objs.size := by simpa using hb
    exact I1.fpOk (Nat.le_refl _) (I1.hok.fresh (Nat.le_refl _))
  · cases r1
    obtain ⟨its, rv, p, hz⟩ := I1.tuple hq
    refine wpAny_pyIter_tuple (show s1.heap.IsTuple a its.toArray from p) ?_
    refine ⟨_, [s1.heap.objs.size], _, _, H1, rfl, I1.kept (t' := s1.toks) fun b o e => Heap.get?_push_of_some _ e, turn_tuple a _, ⟨_, Heap.get?_push_size _ rfl, rfl, rfl⟩, ?_, q⟩
    rintro b hb
    obtain rfl : b = s1.heap.objs.size := by simpa using hb
    exact I1.fpOk (Nat.le_refl _) (I1.hok.fresh (Nat.le_refl _))
/-- what walks items of data: while keep holds of the things that change, turn i gives the i-th -/
def WalkD (xs : List D) (keep : Mu → Prop) (H0 : Hp) (J : It) : Prop := ∃ (G : Hp → Prop) (Y : Nat → Hp → V → Hp → Prop), Walk J xs.length G Y ∧
  (∀ H0' H μ, Ex H0 H0' → Rw μ H0' H → keep μ → G H) ∧
  ∀ i v H H' H0' μ, i < xs.length → Ex H0 H0' → Rw μ H0' H → keep μ → Y i H v H' → ∃ H02 d, Ex H0' H02 ∧ Rw μ H02 H' ∧ xs[i]? = some d ∧ Dt H02 v d
theorem WalkD.mono {xs : List D} {keep : Mu → Prop} {H0 H0' : Hp} {J : It} (w : WalkD xs keep H0 J) (e : Ex H0 H0') : WalkD xs keep H0' J :=
  let ⟨G, Y, w1, w2, w3⟩ := w
  ⟨G, Y, w1, fun a H μ e2 => w2 a H μ (e.trans e2), fun i v H H' a μ hi e2 => w3 i v H H' a μ hi (e.trans e2)⟩
abbrev DI := Ro → Mu → (List D → (Mu → Prop) → Mu → Prop) → Prop
def LiftI (wi : TI) (di : DI) : Prop := ∀ ρ μ K, di ρ μ K → ∀ σ H0 H1, Sl ρ σ H0 → Rw μ H0 H1 → ∀ R : It → Hp → Prop,
  (∀ xs keep μ' H0' H1' J, Ex H0 H0' → Rw μ' H0' H1' → K xs keep μ' → WalkD xs keep H0' J → R J H1') → wi σ H1 R
theorem walkD_list {K' : PySem.W.Frag} {a : Addr} {x : D} {xs : List D} {keep : Mu → Prop} {H0 H1 : Hp} {μ : Mu} (r : Dt H0 (.ref a) x) (rw_ : Rw μ H0 H1) (hx : asL μ x = some xs) (hk : ∀ μ', keep μ' → asL μ' x = some xs) : (∃ vs, SqL K' H1 a vs) ∧ WalkD xs keep H0 (Itl K' a) := by
  obtain ⟨a', vs, ea, ha, t⟩ := asL_at r rw_ hx
  cases ea
  refine ⟨⟨vs, SqL.of ha⟩, fun H => ∃ ws, H a = some (.lst ws) ∧ ws.length = xs.length, fun i H v H' => H' = H ∧ ∃ ws, H a = some (.lst ws) ∧ ws[i]? = some v, ⟨fun i H hi hg => ?_, fun H hg => ?_, fun i H v H' hi hg y => ?_⟩, fun H0' H μ' e r' hk' => ?_, fun i v H H' H0' μ' hi e r' hk' y => ?_⟩
  · obtain ⟨ws, hw, hl⟩ := hg
    exact ⟨ws, ws[i]'(by rw [hl]; exact hi), SqL.of hw, List.getElem?_eq_getElem _⟩
  · obtain ⟨ws, hw, hl⟩ := hg
    exact ⟨ws, SqL.of hw, by rw [hl]; exact Nat.le_refl _⟩
  · obtain ⟨ws, hw, hl⟩ := hg
    exact ⟨y.1, ws, hw, y.2 ws (SqL.of hw)⟩
  · obtain ⟨a', ws, ea, hw, tw⟩ := asL_at (r.mono e) r' (hk μ' hk')
    cases ea
    exact ⟨ws, hw, tw.length⟩
  · obtain ⟨rfl, ws, hw, hv⟩ := y
    obtain ⟨a', ws', ea, hw', tw⟩ := asL_at (r.mono e) r' (hk μ' hk')
    cases ea
    rw [hw] at hw'
    cases hw'
    obtain ⟨d, hd, rd⟩ := tw.getV hv
    exact ⟨H0', d, exr _, r', hd, rd⟩
theorem walkD_tup {K' : PySem.W.Frag} {a : Addr} {vs : List V} {xs : List D} {H0 : Hp} (ha : H0 a = some (.tup vs)) (t : DtAll H0 vs xs) : WalkD xs (fun _ => True) H0 (Itt K' a) :=
  ⟨fun H => SqT K' H a vs, YAt vs, by rw [← t.length]; exact walk_tup, fun H0' H μ e r _ => SqT.of (r.ex _ _ (e _ _ ha)), fun i v H H' H0' μ hi e r _ y => by
    obtain ⟨rfl, hv⟩ := y
    obtain ⟨d, hd, rd⟩ := t.getV hv
    exact ⟨H0', d, exr _, r, hd, rd.mono e⟩⟩
def dSeqI (de : DE) : DI := fun ρ μ K => de ρ μ fun x μ1 => match x with
  | .tup xs => K xs (fun _ => True) μ1
  | .lst xs => K xs (fun _ => True) μ1
  | x => ∃ xs, asL μ1 x = some xs ∧ K xs (fun μ' => asL μ' x = some xs) μ1
theorem li_seq {K' : PySem.W.Frag} {te : TE} {de : DE} (h : Lift te de) : LiftI (iSeq K' te) (dSeqI de) := fun ρ μ K hk σ H0 H1 sl rw_ R q =>
  h ρ μ _ hk σ H0 H1 sl rw_ _ fun x v μ1 H01 H11 e1 rw1 r1 k => by
    split at k
    · rename_i xs
      obtain ⟨a, vs, rfl, ha, t⟩ := r1.tup_of
      exact .inr ⟨a, rfl, ⟨vs, SqT.of (rw1.ex _ _ ha)⟩, q xs _ μ1 H01 H11 _ e1 rw1 k (walkD_tup ha t)⟩
    · rename_i xs
      obtain ⟨a, vs, rfl, ha, t⟩ := r1.lst_of
      obtain ⟨h1, h2⟩ := walkD_list (K' := K') (keep := fun _ => True) (.lst ha t) rw1 rfl (fun _ _ => rfl)
      exact .inl ⟨a, rfl, h1, q xs _ μ1 H01 H11 _ e1 rw1 k h2⟩
    · obtain ⟨xs, hx, k⟩ := k
      obtain ⟨a, vs, rfl, ha, t⟩ := asL_at r1 rw1 hx
      obtain ⟨h1, h2⟩ := walkD_list (K' := K') r1 rw1 hx (fun _ z => z)
      exact .inl ⟨a, rfl, h1, q xs _ μ1 H01 H11 _ e1 rw1 k h2⟩
/-- lo, lo + 1, .. (n of them) -/
def rgD (lo : Int) (n : Nat) : List D := (List.range n).map fun i => D.int (lo + (i : Nat))
theorem rgD_length (lo : Int) (n : Nat) : (rgD lo n).length = n := by simp [rgD]
theorem rgD_get {lo : Int} {n i : Nat} (h : i < n) : (rgD lo n)[i]? = some (.int (lo + (i : Nat))) := by simp [rgD, h]
theorem walkD_rg {lo : Int} {n : Nat} {H0 : Hp} : WalkD (rgD lo n) (fun _ => True) H0 (Itr lo n) :=
  ⟨fun _ => True, YFn fun i => .int (lo + i), by rw [rgD_length]; exact walk_range, fun _ _ _ _ _ _ => True.intro, fun i v H H' H0' μ hi e r _ y => by
    obtain ⟨rfl, rfl⟩ := y
    rw [rgD_length] at hi
    exact ⟨H0', _, exr _, r, rgD_get hi, .int _⟩⟩
def dRg1 (da : DA) : DI := fun ρ μ K => da ρ μ fun xs μ1 => ∃ j : Int, xs = [.int j] ∧ -(2 ^ 62) ≤ j ∧ j < 2 ^ 62 ∧ K (rgD 0 j.toNat) (fun _ => True) μ1
theorem li_rg1 {ta : TA} {da : DA} (h : LiftA ta da) : LiftI (iRng1 ta) (dRg1 da) := fun ρ μ K hk σ H0 H1 sl rw_ R q =>
  h ρ μ _ hk σ H0 H1 sl rw_ _ fun xs us μ1 H01 H11 e1 rw1 r1 ⟨j, ej, h1, h2, k⟩ => by
    subst ej
    obtain ⟨u, rfl, r⟩ := vals_of_all r1
    rw [r.int_of]
    exact ⟨j, rfl, h1, h2, q _ _ μ1 H01 H11 _ e1 rw1 k walkD_rg⟩
def dRg2 (da : DA) : DI := fun ρ μ K => da ρ μ fun xs μ1 => ∃ i j : Int, xs = [.int i, .int j] ∧ (-(2 ^ 62) ≤ i ∧ i < 2 ^ 62 ∧ -(2 ^ 62) ≤ j ∧ j < 2 ^ 62) ∧ K (rgD i (j - i).toNat) (fun _ => True) μ1
theorem li_rg2 {ta : TA} {da : DA} (h : LiftA ta da) : LiftI (iRng2 ta) (dRg2 da) := fun ρ μ K hk σ H0 H1 sl rw_ R q =>
  h ρ μ _ hk σ H0 H1 sl rw_ _ fun xs us μ1 H01 H11 e1 rw1 r1 ⟨i, j, ej, h1, k⟩ => by
    subst ej
    obtain ⟨u, v, rfl, r, r'⟩ := vals_of_all2 r1
    rw [r.int_of, r'.int_of]
    exact ⟨i, j, rfl, h1, q _ _ μ1 H01 H11 _ e1 rw1 k walkD_rg⟩
/-- zip of two lists or two tuples of data -/
def pairsD (xs ys : List D) : List D := List.zipWith (fun x y => D.tup [x, y]) xs ys
theorem pairs_get {xs ys : List D} {i : Nat} {x y : D} (hx : xs[i]? = some x) (hy : ys[i]? = some y) : (pairsD xs ys)[i]? = some (.tup [x, y]) := by
  unfold pairsD
  rw [List.getElem?_zipWith, hx, hy]
def dZip (da : DA) : DI := fun ρ μ K => da ρ μ fun zs μ1 => match zs with
  | [.lst xs, .lst ys] => K (pairsD xs ys) (fun _ => True) μ1
  | [.tup xs, .tup ys] => xs.length = ys.length ∧ K (pairsD xs ys) (fun _ => True) μ1
  | _ => False
theorem pair_new {H0 H : Hp} {μ : Mu} {T : Addr} {u v : V} {x y : D} (r : Rw μ H0 H) (hT : H T = none) (rx : Dt H0 u x) (ry : Dt H0 v y) : ∃ H02, Ex H0 H02 ∧ Rw μ H02 (upd H T (.tup [u, v])) ∧ Dt H02 (.ref T) (.tup [x, y]) := by
  obtain ⟨e2, rw2⟩ := r.new (o := .tup [u, v]) hT
  exact ⟨_, e2, rw2, .tup upd_same (.cons (rx.mono e2) (.cons (ry.mono e2) .nil))⟩
theorem li_zip {K' : PySem.W.Frag} {ta : TA} {da : DA} (h : LiftA ta da) : LiftI (RZ.iZipA K' ta) (dZip da) := fun ρ μ K hk σ H0 H1 sl rw_ R q =>
  h ρ μ _ hk σ H0 H1 sl rw_ _ fun zs us μ1 H01 H11 e1 rw1 r1 k => by
    split at k
    · rename_i xs ys
      obtain ⟨u, v, rfl, r, r'⟩ := vals_of_all2 r1
      obtain ⟨a, vs, rfl, ha, ta⟩ := r.lst_of
      obtain ⟨b, ws, rfl, hb, tb⟩ := r'.lst_of
      refine ⟨a, b, vs, ws, rfl, .inl ⟨SqL.of (rw1.ex _ _ ha), SqL.of (rw1.ex _ _ hb), q _ _ μ1 H01 H11 _ e1 rw1 k ⟨_, _, walk_zip (xs := vs) (ys := ws) ?_, ?_, ?_⟩⟩⟩
      · rw [ta.length, tb.length]
        simp [pairsD]
      · intro H0' H μ' e r _
        exact ⟨SqL.of (r.ex _ _ (e _ _ ha)), SqL.of (r.ex _ _ (e _ _ hb))⟩
      · rintro i z H H' H0' μ' hi e r _ ⟨T, x, y, rfl, hT, rfl, hx, hy⟩
        obtain ⟨dx, hdx, rx⟩ := ta.getV hx
        obtain ⟨dy, hdy, ry⟩ := tb.getV hy
        obtain ⟨H02, e2, r2, rr⟩ := pair_new r hT (rx.mono e) (ry.mono e)
        exact ⟨H02, _, e2, r2, pairs_get hdx hdy, rr⟩
    · rename_i xs ys
      obtain ⟨hl, k⟩ := k
      obtain ⟨u, v, rfl, r, r'⟩ := vals_of_all2 r1
      obtain ⟨a, vs, rfl, ha, ta⟩ := r.tup_of
      obtain ⟨b, ws, rfl, hb, tb⟩ := r'.tup_of
      refine ⟨a, b, vs, ws, rfl, .inr ⟨SqT.of (rw1.ex _ _ ha), SqT.of (rw1.ex _ _ hb), q _ _ μ1 H01 H11 _ e1 rw1 k ⟨fun H => SqT K' H a vs ∧ SqT K' H b ws, YPair (fun i => vs[i]?) (fun i => ws[i]?), ⟨?_, ?_, ?_⟩, ?_, ?_⟩⟩⟩
      · intro i H hi g
        have hi' : i < vs.length ∧ i < ws.length := by
          simp [pairsD] at hi
          rw [ta.length, tb.length]
          omega
        exact ⟨vs, ws, vs[i]'hi'.1, ws[i]'hi'.2, g.1, g.2, by simp [hi'.1], by simp [hi'.2]⟩
      · intro H g
        refine ⟨vs, ws, g.1, g.2, ?_⟩
        simp [pairsD]
        rw [ta.length, tb.length]
        omega
      · rintro i H v H' hi g ⟨T, x, z, h1, h2, h3, h4, h5⟩
        exact ⟨T, x, z, h1, h2, h3, h4 vs g.1, h5 ws g.2⟩
      · intro H0' H μ' e r _
        exact ⟨SqT.of (r.ex _ _ (e _ _ ha)), SqT.of (r.ex _ _ (e _ _ hb))⟩
      · rintro i z H H' H0' μ' hi e r _ ⟨T, x, y, rfl, hT, rfl, hx, hy⟩
        obtain ⟨dx, hdx, rx⟩ := ta.getV hx
        obtain ⟨dy, hdy, ry⟩ := tb.getV hy
        obtain ⟨H02, e2, r2, rr⟩ := pair_new r hT (rx.mono e) (ry.mono e)
        exact ⟨H02, _, e2, r2, pairs_get hdx hdy, rr⟩
    · exact k.elim
/-- enumerate of a list of data -/
def enumD (xs : List D) : List D := (xs.zipIdx).map fun p => D.tup [.int (p.2 : Nat), p.1]
def dEnum (da : DA) : DI := fun ρ μ K => da ρ μ fun zs μ1 => ∃ xs, zs = [.lst xs] ∧ K (enumD xs) (fun _ => True) μ1
theorem li_enum {K' : PySem.W.Frag} {ta : TA} {da : DA} (h : LiftA ta da) : LiftI (iEnum K' ta) (dEnum da) := fun ρ μ K hk σ H0 H1 sl rw_ R q =>
  h ρ μ _ hk σ H0 H1 sl rw_ _ fun zs us μ1 H01 H11 e1 rw1 r1 ⟨xs, ez, k⟩ => by
    subst ez
    obtain ⟨u, rfl, r⟩ := vals_of_all r1
    obtain ⟨a, vs, rfl, ha, ta⟩ := r.lst_of
    refine ⟨a, vs, rfl, SqL.of (rw1.ex _ _ ha), q _ _ μ1 H01 H11 _ e1 rw1 k ⟨fun H => SqL K' H a vs, YPair (fun i => some (.int (i : Nat))) (fun i => vs[i]?), ?_, ?_, ?_⟩⟩
    · have e : (enumD xs).length = vs.length := by rw [ta.length]; simp [enumD]
      rw [e]
      exact walk_enum
    · intro H0' H μ' e r _
      exact SqL.of (r.ex _ _ (e _ _ ha))
    · rintro i z H H' H0' μ' hi e r _ ⟨T, x, y, rfl, hT, rfl, hx, hy⟩
      cases hx
      obtain ⟨dy, hdy, ry⟩ := ta.getV hy
      obtain ⟨H02, e2, r2, rr⟩ := pair_new r hT (.int _) (ry.mono e)
      exact ⟨H02, _, e2, r2, by simp [enumD, hdy], rr⟩

/-- the turns of a loop over data, one by one; keep: what has to hold of the things that change at each turn's start -/
def dLoop (keep : Mu → Prop) (g : DG) (db : DS) (E : DEnds) : List D → Ro → Mu → Prop
  | [], ρ, μ => keep μ ∧ E.nx ρ μ
  | x :: xs, ρ, μ => keep μ ∧ g x ρ μ fun ρ1 μ1 => db { E with nx := dLoop keep g db E xs, ct := dLoop keep g db E xs, bk := E.nx } ρ1 μ1
theorem dLoop_keep {keep : Mu → Prop} {g : DG} {db : DS} {E : DEnds} : ∀ {xs : List D} {ρ : Ro} {μ : Mu}, dLoop keep g db E xs ρ μ → keep μ
  | [], _, _, h => h.1
  | _ :: _, _, _, h => h.1
def dFor (di : DI) (g : DG) (db : DS) : DS := fun E ρ μ => di ρ μ fun xs keep μ1 => dLoop keep g db E xs ρ μ1
theorem get_drop {α : Type} {xs : List α} {i : Nat} {x : α} (h : xs[i]? = some x) : xs.drop i = x :: xs.drop (i + 1) := by
  obtain ⟨hi, rfl⟩ := List.getElem?_eq_some_iff.mp h
  exact List.drop_eq_getElem_cons hi
/-- the word of a data loop, turn i -/
def LoopW (H0 : Hp) (keep : Mu → Prop) (g : DG) (db : DS) (E : DEnds) (xs : List D) (i : Nat) (σ : L2.St) (H : Hp) : Prop := ∃ ρ μ H0', Ex H0 H0' ∧ Sl ρ σ H0' ∧ Rw μ H0' H ∧ dLoop keep g db E (xs.drop i) ρ μ
theorem ls_for {wi : TI} {di : DI} {tb : TS} {db : DS} {g : TG} {dg : DG} (hi : LiftI wi di) (hg : LiftG g dg) (hb : LiftS tb db) : LiftS (tFor wi g tb) (dFor di dg db) := fun E ρ μ h F σ H0 H1 sl rw_ l =>
  hi ρ μ _ h σ H0 H1 sl rw_ _ fun xs keep μ1 H01 H11 J e1 rw1 k ⟨G, Y, w1, w2, w3⟩ => by
    have l1 := l.mono e1
    refine for_it w1 (LoopW H01 keep dg db E xs) ⟨ρ, μ1, H01, exr _, sl.mono e1, rw1, k⟩ ?_ ?_ ?_
    · rintro i σ' H _ ⟨ρ', μ', H0', e, _, r', h'⟩
      exact w2 H0' H μ' e r' (dLoop_keep h')
    · rintro i v σ' H H' hi ⟨ρ', μ', H0', e, sl', r', h'⟩ y
      obtain ⟨H02, d, e2, r2, hd, rd⟩ := w3 i v H H' H0' μ' hi e r' (dLoop_keep h') y
      rw [get_drop hd] at h'
      refine hg d ρ' μ' _ h'.2 v σ' H02 H' rd (sl'.mono e2) r2 _ fun ρ1 μ2 σ1 H03 H13 e3 sl1 rw3 k1 => ?_
      have e03 := (e.trans e2).trans e3
      exact hb _ ρ1 μ2 k1 _ σ1 H03 H13 sl1 rw3 ⟨fun ρ' μ' σ' a b e4 sl' rw' k' => ⟨ρ', μ', a, e03.trans e4, sl', rw', k'⟩, fun d v μ' a b e4 => l1.rt d v μ' a b (e03.trans e4),
        fun ρ' μ' σ' a b e4 => l1.nx ρ' μ' σ' a b (e03.trans e4), fun ρ' μ' σ' a b e4 sl' rw' k' => ⟨ρ', μ', a, e03.trans e4, sl', rw', k'⟩⟩
    · rintro σ' H ⟨ρ', μ', H0', e, sl', r', h'⟩
      rw [List.drop_length] at h'
      exact l1.nx ρ' μ' σ' H0' H e sl' r' h'.2

/-! ### comprehensions -/
def wipeD (ρ : Ro) : List Nat → Ro
  | [] => ρ
  | v :: vs => (wipeD ρ vs).set v none
theorem Sl.wiped {ρ : Ro} {σ : L2.St} {H0 : Hp} (s : Sl ρ σ H0) : ∀ vs : List Nat, Sl (wipeD ρ vs) (wipe σ vs) H0
  | [] => s
  | v :: vs => by
    have ih := Sl.wiped s vs
    refine ⟨by simp [wipeD, wipe, ih.len], fun i d h => ?_⟩
    by_cases hi : v = i
    · subst hi
      have h' : ((wipeD ρ vs).set v none)[v]? = some (some d) := h
      by_cases hl : v < (wipeD ρ vs).length
      · rw [List.getElem?_set_self hl] at h'; cases h'
      · rw [List.getElem?_eq_none (by simpa using hl)] at h'; cases h'
    · have h' : ((wipeD ρ vs).set v none)[i]? = some (some d) := h
      rw [List.getElem?_set_ne hi] at h'
      obtain ⟨w, hw, r⟩ := ih.at_ i d h'
      exact ⟨w, by show ((wipe σ vs).set v none)[i]? = _; rw [List.getElem?_set_ne hi]; exact hw, r⟩
/-- slots that agree but at vs -/
def AgreeBut (vs : List Nat) (σ σ' : L2.St) : Prop := σ'.length = σ.length ∧ ∀ i, i ∉ vs → σ'[i]? = σ[i]?
theorem wipe_get (σ : L2.St) : ∀ (vs : List Nat) (i : Nat), (wipe σ vs)[i]? = if i ∈ vs then (if i < σ.length then some none else none) else σ[i]?
  | [], i => by simp [wipe]
  | v :: vs, i => by
    show ((wipe σ vs).set v none)[i]? = _
    by_cases hi : v = i
    · subst hi
      by_cases hl : v < σ.length
      · rw [List.getElem?_set_self (by rw [wipe_length]; exact hl)]; simp [hl]
      · rw [List.getElem?_eq_none (by simp [wipe_length]; omega)]; simp [hl]
    · rw [List.getElem?_set_ne hi, wipe_get σ vs i]
      have : (i = v) = False := by simp; exact fun z => hi z.symm
      simp [this]
theorem wipe_agree {vs : List Nat} {σ σ' : L2.St} (h : AgreeBut vs σ σ') : wipe σ' vs = wipe σ vs := by
  apply List.ext_getElem?
  intro i
  rw [wipe_get, wipe_get, h.1]
  split
  · rfl
  · rename_i hn
    exact h.2 i hn
theorem agree_wipe (σ : L2.St) (vs : List Nat) : AgreeBut vs σ (wipe σ vs) := ⟨wipe_length σ vs, fun i hi => by rw [wipe_get]; simp [hi]⟩
theorem AgreeBut.trans {vs : List Nat} {a b c : L2.St} (h : AgreeBut vs a b) (g : AgreeBut vs b c) : AgreeBut vs a c := ⟨g.1.trans h.1, fun i hi => (g.2 i hi).trans (h.2 i hi)⟩
/-- a target that stores at vs alone -/
def LiftGW (vs : List Nat) (g : TG) (dg : DG) : Prop := ∀ x ρ μ K, dg x ρ μ K → ∀ v σ H0 H1, Dt H0 v x → Sl ρ σ H0 → Rw μ H0 H1 → ∀ Q : L2.St → Hp → Prop,
  (∀ ρ' μ' σ' H0' H1', AgreeBut vs σ σ' → Ex H0 H0' → Sl ρ' σ' H0' → Rw μ' H0' H1' → K ρ' μ' → Q σ' H1') → g v σ H1 Q
def LiftGsW (vs : List Nat) (g : TGs) (dg : DGs) : Prop := ∀ xs ρ μ K, dg xs ρ μ K → ∀ us σ H0 H1, DtAll H0 us xs → Sl ρ σ H0 → Rw μ H0 H1 → ∀ Q : L2.St → Hp → Prop,
  (∀ ρ' μ' σ' H0' H1', AgreeBut vs σ σ' → Ex H0 H0' → Sl ρ' σ' H0' → Rw μ' H0' H1' → K ρ' μ' → Q σ' H1') → g us σ H1 Q
theorem agree_set {vs : List Nat} {σ : L2.St} {i : Nat} {v : Option V} (h : i ∈ vs) : AgreeBut vs σ (σ.set i v) := ⟨by simp, fun j hj => by rw [List.getElem?_set_ne]; rintro rfl; exact hj h⟩
theorem lgw_name {vs : List Nat} {i : Nat} (hi : i ∈ vs) : LiftGW vs (gName i) (dName i) := fun x ρ μ K h v σ H0 H1 r sl rw_ Q q => q _ μ _ H0 H1 (agree_set hi) (exr _) (sl.set i r) rw_ h
theorem lgsw_nil {vs : List Nat} : LiftGsW vs gNil dGNil := fun xs ρ μ K ⟨e, k⟩ us σ H0 H1 r sl rw_ Q q => by
  subst e
  cases r
  exact ⟨rfl, q ρ μ σ H0 H1 ⟨rfl, fun _ _ => rfl⟩ (exr _) sl rw_ k⟩
theorem lgsw_cons {vs : List Nat} {g : TG} {dg : DG} {gs : TGs} {dgs : DGs} (h1 : LiftGW vs g dg) (h2 : LiftGsW vs gs dgs) : LiftGsW vs (gCons g gs) (dGCons dg dgs) := fun xs ρ μ K ⟨x, r, e, k⟩ us σ H0 H1 rr sl rw_ Q q => by
  subst e
  cases rr with
  | cons r1 r2 => exact ⟨_, _, rfl, h1 x ρ μ _ k _ σ H0 H1 r1 sl rw_ _ fun ρ1 μ1 σ1 H01 H11 a1 e1 sl1 rw1 k1 => h2 r ρ1 μ1 K k1 _ σ1 H01 H11 (r2.mono e1) sl1 rw1 Q fun ρ' μ' σ' H0' H1' a2 e2 => q ρ' μ' σ' H0' H1' (a1.trans a2) (e1.trans e2)⟩
theorem lgw_tup {vs : List Nat} {K' : PySem.W.Frag} {n : Nat} {gs : TGs} {dgs : DGs} (h2 : LiftGsW vs gs dgs) : LiftGW vs (gTup K' n gs) (dGTup n dgs) := fun x ρ μ K ⟨xs, e, hn, k⟩ v σ H0 H1 r sl rw_ Q q => by
  subst e
  obtain ⟨a, ws, rfl, ha, t⟩ := r.tup_of
  exact ⟨a, ws, rfl, SqT.of (rw_.ex _ _ ha), by rw [t.length]; exact hn, h2 xs ρ μ K k ws σ H0 H1 t sl rw_ Q q⟩
def mdel (μ : Mu) (a : Addr) : Mu := fun b => if b = a then none else μ b
theorem mdel_mup {μ : Mu} {a : Addr} {m : MO} (h : μ a = none) : mdel (mup μ a m) a = μ := by
  funext b
  unfold mdel mup
  split
  · rename_i e; rw [e, h]
  · rfl
theorem mup_mup {μ : Mu} {a : Addr} {m n : MO} : mup (mup μ a m) a n = mup μ a n := by
  funext b
  unfold mup
  split <;> rfl
theorem Rw.freeze {μ : Mu} {H0 H1 : Hp} {a : Addr} {xs : List D} (r : Rw μ H0 H1) (hm : μ a = some (.lst xs)) : ∃ H0', Ex H0 H0' ∧ Rw (mdel μ a) H0' H1 ∧ Dt H0' (.ref a) (.lst xs) := by
  obtain ⟨h0, vs, hv, t⟩ := r.mu a _ hm
  have e : Ex H0 (upd H0 a (.lst vs)) := Ex.new h0
  refine ⟨_, e, ⟨⟨fun b u h => ?_, r.sys, fun b m h => ?_⟩, Amb.mono _ _ e r.am⟩, .lst upd_same (t.mono e)⟩
  · by_cases hb : b = a
    · subst hb; rw [upd_same] at h; cases h; exact hv
    · rw [upd_ne hb] at h; exact r.ex b u h
  · have hb : b ≠ a := by
      rintro rfl
      simp [mdel] at h
    have h' : μ b = some m := by simpa [mdel, hb] using h
    obtain ⟨q1, q2⟩ := r.mu b m h'
    refine ⟨by rw [upd_ne hb]; exact q1, ?_⟩
    cases m with
    | lst ds => obtain ⟨ws, z, tz⟩ := q2; exact ⟨ws, z, tz.mono e⟩
    | ins C fs => obtain ⟨dx, fvs, z, kz, tz⟩ := q2; exact ⟨dx, fvs, z, kz, tz.mono e⟩
def dCompL (keep : Mu → Prop) (g : DG) (dt : DT) (de : DE) (ρ : Ro) (a : Addr) (K : KD) : List D → List D → Mu → Prop
  | [], acc, μ => keep μ ∧ μ a = some (.lst acc) ∧ K (.lst acc) (mdel μ a)
  | x :: xs, acc, μ => keep μ ∧ g x ρ μ fun ρ1 μ1 => dt ρ1 μ1 fun b μ2 => if b = true then de ρ1 μ2 fun y μ3 => μ3 a = some (.lst acc) ∧ acc.length < 100000 ∧ dCompL keep g dt de ρ a K xs (acc ++ [y]) (mup μ3 a (.lst (acc ++ [y])))
    else dCompL keep g dt de ρ a K xs acc μ2
theorem dCompL_keep {keep : Mu → Prop} {g : DG} {dt : DT} {de : DE} {ρ : Ro} {a : Addr} {K : KD} : ∀ {xs acc : List D} {μ : Mu}, dCompL keep g dt de ρ a K xs acc μ → keep μ
  | [], _, _, h => h.1
  | _ :: _, _, _, h => h.1
def dComp (di : DI) (g : DG) (dt : DT) (de : DE) (vs : List Nat) : DE := fun ρ μ K => di ρ μ fun xs keep μ1 => ∀ a, μ1 a = none → dCompL keep g dt de (wipeD ρ vs) a K xs [] (mup μ1 a (.lst []))
def CompW (H0 : Hp) (keep : Mu → Prop) (g : DG) (dt : DT) (de : DE) (ρ : Ro) (a : Addr) (K : KD) (xs : List D) (i : Nat) (H : Hp) : Prop := ∃ acc μ H0', Ex H0 H0' ∧ Rw μ H0' H ∧ dCompL keep g dt de ρ a K (xs.drop i) acc μ
theorem l_comp {wi : TI} {di : DI} {g : TG} {dg : DG} {tt : TT} {dt : DT} {te : TE} {de : DE} {vs : List Nat} (hi : LiftI wi di) (hg : LiftGW vs g dg) (ht : LiftT tt dt) (he : Lift te de) : Lift (tLc wi g tt te vs) (dComp di dg dt de vs) := fun ρ μ K h σ H0 H1 sl rw_ Q q =>
  hi ρ μ _ h σ H0 H1 sl rw_ _ fun xs keep μ1 H01 H11 J e1 rw1 k ⟨G, Y, w1, w2, w3⟩ => fun a ha => by
    obtain ⟨hm, rw2⟩ := rw1.newM (vs := []) (ds := []) ha .nil
    have slw := (sl.mono e1).wiped vs
    refine lc_it w1 (CompW H01 keep dg dt de (wipeD ρ vs) a K xs) ⟨[], _, H01, exr _, rw2, k a hm⟩ ?_ ?_ ?_
    · rintro i H _ ⟨acc, μ', H0', e, r', h'⟩
      exact w2 H0' H μ' e r' (dCompL_keep h')
    · rintro i v H H' hi ⟨acc, μ', H0', e, r', h'⟩ y
      obtain ⟨H02, d, e2, r2, hd, rd⟩ := w3 i v H H' H0' μ' hi e r' (dCompL_keep h') y
      rw [get_drop hd] at h'
      refine hg d _ μ' _ h'.2 v (wipe σ vs) H02 H' rd (slw.mono (e.trans e2)) r2 _ fun ρ1 μ2 σ1 H03 H13 ag e3 sl1 rw3 k1 => ?_
      refine ⟨(wipe_agree ((agree_wipe σ vs).trans ag)), ?_⟩
      refine ht ρ1 μ2 _ k1 σ1 H03 H13 sl1 rw3 _ fun b μ3 H04 H14 e4 rw4 k2 => ?_
      have e04 := ((e.trans e2).trans e3).trans e4
      cases b with
      | false => exact ⟨acc, μ3, H04, e04, rw4, k2⟩
      | true =>
        show te σ1 H14 _
        refine he ρ1 μ3 _ k2 σ1 H04 H14 (sl1.mono e4) rw4 _ fun y u μ4 H05 H15 e5 rw5 r5 ⟨h1, h2, h3⟩ => ?_
        obtain ⟨ws, hw, tw⟩ := rw5.atM h1
        exact ⟨ws, hw, Evl.sz_lt (by rw [tw.length]; exact h2), acc ++ [y], _, H05, e04.trans e5, rw5.setM h1 (tw.append (.cons r5 .nil)), h3⟩
    · rintro H ⟨acc, μ', H0', e, r', h'⟩
      rw [List.drop_length] at h'
      obtain ⟨_, h1, h2⟩ := h'
      obtain ⟨H02, e2, r2, rd⟩ := r'.freeze h1
      exact q _ _ _ H02 H ((e1.trans e).trans e2) r2 rd h2
end DL
namespace DL
open PySem PySem.Spec PyProof.Rows L2
open Evl (Ex ex_rd ex_l ex_t fresh_back)

/-- at a: an exception of the class at C, its own dict at d -/
def exk (C : Addr) (d : Option Addr) (a : Addr) : HO := .ext fun h => ∃ (oe : Obj) (vs : Array Value), h.get? a = some oe ∧ Zc (.ref C) d oe ∧ oe.data = .fields vs
theorem exk_ok {P : Program} {w : World} {H : Hp} {h : Heap} {C a : Addr} {d : Option Addr} {oe : Obj} {vs : Array Value} (e : h.get? a = some oe) (z : Zc (.ref C) d oe) (dd : oe.data = .fields vs) : ObjOk P w H h a (exk C d a) :=
  ⟨⟨oe, vs, e, z, dd⟩, ⟨oe, e⟩, fun _ _ ⟨o, ws, q1, q2, q3⟩ k => ⟨o, ws, k _ q1, q2, q3⟩⟩
theorem exk_at {P : Program} {w : World} {H : Hp} {h : Heap} {C a : Addr} {d : Option Addr} (hok : HOk P w H h) (e : H a = some (exk C d a)) : ∃ (oe : Obj) (vs : Array Value), h.get? a = some oe ∧ Zc (.ref C) d oe ∧ oe.data = .fields vs := (hok a _ e).1

/-! ### an exception as a value -/
def tExc (t : L2.St → Hp → XK → Prop) : TE := fun σ H Q => t σ H fun cls d H' => ∃ C, cls = .ref C ∧ ∀ a, H' a = none → Q (.ref a) (upd H' a (exk C d a))
theorem pe_exc {X : Cx} {e : Expr} {t : L2.St → Hp → XK → Prop} (he : PMk X e t) : PE X e (tExc t) := by
  constructor
  intro pins s σ H Q I h
  refine wpAny_mono (he pins s σ H _ I h) ?_ (fun _ _ z => z)
  rintro u s' ⟨a, oe, vs, sI, H', cls, d, rfl, J, k, hn, ha, hz, hd, _, na, os, ag, _, C, rfl, q⟩
  refine ⟨.ref a, upd H' a (exk C d a), J.call' (ch := []) os ?_ ?_ ag (fun b z => absurd z (by simp)), rfl, q a na⟩
  · exact (Un.laidN k hn na)
  · exact HOk.laidN J.hok k na (exk_ok ha hz hd)

/-! ### making: an own class over AddError (a class of the package, over ValueError), its __init__: AddError.__init__(self, text); self.f = f -/
section
variable {X : Cx} {e : Expr} {es : List Expr} {ta : TA} {p1 p2 pos : Pos}
structure BaseC (K : PySem.W.Frag) (mg : Str → Option Value) (B : Addr) : Prop where
  mgB : mg "AddError" = some (.ref B)
  sp : PySem.W.specialIn K (.ref B) "__getattribute__" = some (some (.builtin "type.__getattribute__"))
  rd : PySem.W.readsIn K B (.type "type") = true
  fc : PySem.W.findCls K (.ref B) (.type "type") "__init__" = some (.val (.builtin "ValueError.__init__"))
theorem pe_binit {pl : Sem Bool} {B : Addr} (T : BaseC X.K X.mg B) (hg : Gl X "AddError") (ha : PA X (e :: es) ta)
    (hc : eval (.Call (.Attribute (.Name "AddError" p1) "__init__" p2) (e :: es) [] pos) X.env = (do
      let ov ← eval (.Name "AddError" p1) X.env
      standAt p2.atName
      let (f, first) ← holding [ov] (getMethod ov "__init__" pl)
      callWith pos f first (backTo pos (starEach (e :: es) X.env)) (backToKw pos (keywordEach [] X.env))) := by rfl)
    (he : starEach (e :: es) X.env = (false, eval e X.env) :: starEach es X.env := by rfl) (hpl : (backTo pos (starEach es X.env)).any (·.1) = false := by rfl) :
    PE X (.Call (.Attribute (.Name "AddError" p1) "__init__" p2) (e :: es) [] pos) (tVeI X.K ta) := by
  constructor
  intro pins s σ H Q I h
  refine PySem.W.methodCall_KW (ld_glob I hg T.mgB ?_) hc
  refine PySem.W.method_cls I.kIn T.sp (PySem.W.cls_value I.kIn T.rd T.fc (by decide +kernel) ?_)
  show wpAny _ _ (callWith pos (Value.builtin "ValueError.__init__") [] (backTo pos (starEach (e :: es) X.env)) []) _ _ _
  refine PyProof.Rows.callWith_method1 (thn (ha.run pos pins _ σ H _ (I.tok _) h) ?_) he hpl
  rintro us s1 ⟨vs, H1, I1, r1, a, C, ws, rfl, hl, T', ea, q⟩
  cases r1 with
  | @cons _ u0 _ ur ra rw' =>
    obtain rfl : u0 = Value.ref a := ra
    refine oinit_ok T' I1 ea ?_ fun s' J => ⟨.non, H1, J, rfl, q⟩
    have := Paired.length rw'
    rw [sizeLine_eq]
    omega
end
/-- what __init__ of such a class does -/
def spErr (K : PySem.W.Frag) (C : Addr) (f : Str) : Sp := fun vs H Q _ => ∃ (a : Addr) (v : V), vs = [.ref a, v] ∧ OexC K C ∧ PySem.W.findIn K (.ref C) f = some none ∧ H a = some (exo a C none) ∧
  ∀ dx, H dx = none → dx ≠ a → Q .non (upd (upd H dx (exd dx [(f, v)])) a (exo a C (some dx)))
theorem err_heap {H1 : Hp} {a dx : Addr} {C : Addr} {f : Str} {v : V} (hd : dx ≠ a) (ha : H1 a = none) : upd (del (upd (upd (upd H1 a (exo a C none)) dx (exd dx [(f, v)])) a (exo a C (some dx))) a) dx (.xd [(f, v)]) = upd H1 dx (.xd [(f, v)]) := by
  funext b
  by_cases h1 : b = dx
  · rw [h1, upd_same, upd_same]
  · rw [upd_ne h1, upd_ne h1]
    by_cases h2 : b = a
    · rw [h2, del_same, ha]
    · rw [del_ne h2, upd_ne h2, upd_ne h1, upd_ne h2]
structure ErrC (K : PySem.W.Frag) (mg : Str → Option Value) (x f : Str) (C fI : Addr) : Prop where
  gC : mg x = some (.ref C)
  oex : OexC K C
  iC : PySem.W.findIn K (.ref C) "__init__" = some (some (.ref fI))
  tI : PySem.W.typeIn K (.ref fI) = some (.type "function")
  noF : PySem.W.findIn K (.ref C) f = some none
variable [AM : Amb]
/-- how an exception is wished for: its class, its fields -/
abbrev KX := Addr → List (Str × D) → Mu → Prop
abbrev DM := Ro → Mu → KX → Prop
def LiftM (t : L2.St → Hp → XK → Prop) (dm : DM) : Prop := ∀ ρ μ K, dm ρ μ K → ∀ σ H0 H1, Sl ρ σ H0 → Rw μ H0 H1 → ∀ Q : XK,
  (∀ C fs μ' dd fvs H0' H1', Ex H0 H0' → Rw μ' H0' H1' → H1' dd = some (.xd fvs) → fvs.map (·.1) = fs.map (·.1) → DtAll H0' (fvs.map (·.2)) (fs.map (·.2)) → K C fs μ' → Q (.ref C) (some dd) H1') → t σ H1 Q
def dErr (C : Addr) (f : Str) (da : DA) : DM := fun ρ μ K => da ρ μ fun xs μ1 => ∃ x : D, xs = [x] ∧ K C [(f, x)] μ1
/-- something new that is no data -/
theorem Rw.side {μ : Mu} {H0 H1 : Hp} {p : Addr} {o : HO} (r : Rw μ H0 H1) (hp : H1 p = none) : Rw μ H0 (upd H1 p o) := by
  refine ⟨⟨fun a u h => ?_, r.sys.upd (fun φ z => by rw [hp] at z; cases z), fun a m h => ?_⟩, r.am⟩
  · have e := r.ex a u h
    rw [upd_ne (ne_of_none e hp)]
    exact e
  · obtain ⟨q1, q2⟩ := r.mu a m h
    refine ⟨q1, ?_⟩
    have ha : a ≠ p := by
      rintro rfl
      cases m with
      | lst ds => obtain ⟨_, z, _⟩ := q2; rw [hp] at z; cases z
      | ins C fs => obtain ⟨_, _, z, _⟩ := q2; rw [hp] at z; cases z
    cases m with
    | lst ds => obtain ⟨ws, z, tz⟩ := q2; exact ⟨ws, by rw [upd_ne ha]; exact z, tz⟩
    | ins C fs => obtain ⟨dx, fvs, z, kz, tz⟩ := q2; exact ⟨dx, fvs, by rw [upd_ne ha]; exact z, kz, tz⟩
theorem lm_err {K' : PySem.W.Frag} {mg : Str → Option Value} {x f : Str} {C fI : Addr} {ta : TA} {da : DA} (T : ErrC K' mg x f C fI) (h : LiftA ta da) : LiftM (tMkO C (spErr K' C f) [] ta) (dErr C f da) := fun ρ μ K hk σ H0 H1 sl rw_ Q q =>
  h ρ μ _ hk σ H0 H1 sl rw_ _ fun xs us μ1 H01 H11 e1 rw1 r1 ⟨y, ey, k⟩ => by
    subst ey
    obtain ⟨u, rfl, r⟩ := vals_of_all r1
    refine ⟨by show 1 ≤ 1000; decide, fun a ha => ⟨a, u, rfl, T.oex, T.noF, upd_same, fun dx hdx hne => ⟨rfl, dx, [(f, u)], upd_same, ?_, ?_, ?_⟩⟩⟩
    · rw [upd_ne hne, upd_same]
    · rw [upd_ne hne] at hdx
      exact hdx
    · rw [err_heap hne ha]
      rw [upd_ne hne] at hdx
      exact q C [(f, y)] μ1 dx [(f, u)] H01 _ e1 (rw1.side hdx) upd_same rfl (.cons r .nil) k
/-- raise -/
def XOk (E : XK) (K : KX) : Prop := ∀ C fs μ' dd fvs H0' H1', Rw μ' H0' H1' → H1' dd = some (.xd fvs) → fvs.map (·.1) = fs.map (·.1) → DtAll H0' (fvs.map (·.2)) (fs.map (·.2)) → K C fs μ' → E (.ref C) (some dd) H1'
def dRaise (K : KX) (dm : DM) : DS := fun _ ρ μ => dm ρ μ K
theorem ls_raise {E : XK} {K : KX} {t : L2.St → Hp → XK → Prop} {dm : DM} (hx : XOk E K) (h : LiftM t dm) : LiftS (fun _ σ H => t σ H fun cls d H' => (fun cls d (_ : L2.St) H' => E cls d H') cls d σ H') (dRaise K dm) := fun _ ρ μ hk F σ H0 H1 sl rw_ l =>
  h ρ μ _ hk σ H0 H1 sl rw_ _ fun C fs μ' dd fvs H0' H1' e r h1 h2 h3 k => hx C fs μ' dd fvs H0' H1' r h1 h2 h3 k

/-- the reading of such a class's __init__ -/
theorem rd_init {K : PySem.W.Frag} {C : Addr} {f : Str} {txt : Str} {vs : List V} {H : Hp} {Q : VK} {E : XK} (h : spErr K C f vs H Q E) :
    (tSeq (tDrop (tVeI K (tCons (tVar 0) (tCons (tC (.str txt)) tNil)))) (tOst K f (tVar 0) (tVar 1))) { nx := fun _ H' => Q .non H', rt := Q } (start ["self", f] vs) H := by
  obtain ⟨a, v, rfl, T1, hno, ha, k⟩ := h
  refine ⟨_, rfl, a, C, [.str txt], rfl, by show 1 ≤ 1000; decide, T1, ha, ?_⟩
  exact ⟨_, rfl, _, rfl, a, C, rfl, T1, hno, .inl ⟨ha, fun dx hdx hne => k dx hdx hne⟩⟩

/-! ### caught, and kept -/
/-- data that is an exception of the class at C with the fields fs -/
def excP (C : Addr) (fs : List (Str × D)) : Hp → V → Prop := fun H v => ∃ (a dd : Addr) (fvs : List (Str × V)), v = .ref a ∧ H a = some (exk C (some dd) a) ∧ H dd = some (.xd fvs) ∧ fvs.map (·.1) = fs.map (·.1) ∧ DtAll H (fvs.map (·.2)) (fs.map (·.2))
abbrev D.exc (C : Addr) (fs : List (Str × D)) : D := .any (excP C fs)
theorem excP_mono {C : Addr} {fs : List (Str × D)} : ∀ H1 H2 u, Ex H1 H2 → excP C fs H1 u → excP C fs H2 u := fun H1 H2 u e ⟨a, dd, fvs, q1, q2, q3, q4, q5⟩ => ⟨a, dd, fvs, q1, e _ _ q2, e _ _ q3, q4, q5.mono e⟩
theorem Inv.adopt {X : Cx} {pins : List (Addr × Obj)} {σ : L2.St} {H : Hp} {s : Shared} {a : Addr} {φ : Heap → Prop} (I : L2.Inv X pins σ H s) (hn : H a = none) (h0 : X.s_0.heap.get? a = none) (hl : a ≠ X.env.locals)
    (hc : ∀ x c, X.env.cells.lookup x = some c → c ≠ a) (hp : ∀ p ∈ X.pn ++ pins, p.1 ≠ a) (ok : ObjOk X.prog X.w (upd H a (.ext φ)) s.heap a (.ext φ)) : L2.Inv X pins σ (upd H a (.ext φ)) s := by
  have ne : ∀ {b : Addr} {o : Obj}, X.s_0.heap.get? b = some o → b ≠ a := fun {b o} e z => by rw [z, h0] at e; cases e
  refine ⟨I.ok, I.os, I.bare, ⟨I.base.keep, I.base.slot, fun b o e n hx => ?_, I.base.there, fun b xs e => ?_, fun b o u e => ?_, fun b ps e => ?_⟩, I.loc, I.cell, ?_, fun x c e => ?_, fun p hm => ?_, fun b o e => ?_, I.len⟩
  · rw [upd_ne (ne e)]
    exact I.base.free b o e n hx
  · have q := I.base.tups b xs e
    rw [upd_ne (ne_of_none q hn)]
    exact q
  · have q := I.base.frzs b o u e
    rw [upd_ne (ne_of_none q hn)]
    exact q
  · obtain ⟨m, q⟩ := I.base.tbls b ps e
    exact ⟨m, by rw [upd_ne (ne_of_none q hn)]; exact q⟩
  · rw [upd_ne (Ne.symm hl)]
    exact I.free
  · rw [upd_ne (hc x c e)]
    exact I.freeC x c e
  · obtain ⟨q1, q2, q3, q4, q5⟩ := I.pin p hm
    exact ⟨q1, by rw [upd_ne (hp p hm)]; exact q2, q3, q4, q5⟩
  · by_cases hb : b = a
    · subst hb
      rw [upd_same] at e
      cases e
      exact ok
    · rw [upd_ne hb] at e
      exact (I.hok b o e).stay (fun c v _ q => q) (fun c q => by rw [upd_ne (ne_of_none q hn)]; exact q) fun c xs q => by rw [upd_ne (ne_of_none q hn)]; exact q
/-- try: .. except x as n: y = n: the exception stands at y behind it (slot i is n's, slot j is y's) -/
def wKeep (K : PySem.W.Frag) (c : Value) (i j : Nat) (Wo : WX) (F : Ends) : WX := fun cls d σ H =>
  ∃ b, PySem.W.exmOne K cls c = some b ∧ (b = true → ∀ a, H a = none → ∃ C, cls = .ref C ∧ F.nx (((σ.set i (some (.ref a))).set j (some (.ref a))).set i none) (upd H a (exk C d a))) ∧ (b = false → Wo cls d σ H)
section
variable {X : Cx} {x n y : Str} {c : Value} {i j : Nat} {body : List Stmt} {np nn py sp pos pos' : Pos} {tb : WX → TS} {Wo : WX}
theorem ps_try_keep (hs : X.stack = X.env :: X.outer) (hf : X.env.frame = some X.env.locals) (hN : X.N.Nodup) (hi : X.N[i]? = some n) (hln : X.env.kindOf n = some .local) (hj : X.N[j]? = some y) (hly : X.env.kindOf y = some .local) (hex : X.ex = []) (hc : Names X x c) (tk : Takes X Wo)
    (hb : ∀ (W : WX) (pn : List (Addr × Obj)) (xe : Value → Shared → Prop), Takes (X.tr pn xe) W → PassesOwn (model X.prog X.w) X.A X.env xe → PSs (X.tr pn xe) body (tb W))
    (hd1 : (n == ("__debug__" : Str)) = false := by decide) (hd2 : (n == ("__classdict__" : Str)) = false := by decide) (hsw : ∀ a pn, swapsWith (.Name n nn) (some (.Name y py)) sp.line (X.suite a pn).env = pure false := by intro _ _; rfl) :
    PS X (.Try body [.ExceptHandler (some (.Name x np)) (some n) [.Assign [.Name y py] (.Name n nn) sp] pos'] [] [] pos) (fun F σ H => tb (wKeep X.K c i j Wo F) F σ H) := by
  constructor
  intro pins s σ H F I h
  have ok := I.ok
  have hfr : X.A.frames = some (X.env :: X.outer) := by rw [ok.frames, hs]
  refine wpAny_Try_except (wpAny_mono ((hb (wKeep X.K c i j Wo F) (X.pn ++ pins) (fun e s₁ => wpAny (model X.prog X.w) X.A (noteFrame e X.env) (fun _ s₂ => wpAny (model X.prog X.w) X.A (setFlight e none) (fun _ s₃ =>
    wpAny (model X.prog X.w) X.A (handleBy e X.env [.ExceptHandler (some (.Name x np)) (some n) [.Assign [.Name y py] (.Name n nn) sp] pos']) (SP X pins F) X.xe s₃) X.xe s₂) X.xe s₁) ?_ PassesOwn.looking).run [] s σ H F (I.toTry _) h) ?_ (fun _ _ z => z))
  · rintro u s' ⟨a, B, sI, pins', σ', H', cls, d, rfl, J', nb, up, sky, na, os, ag, b, hb1, hyes, hno⟩
    have J : L2.Inv X pins σ' H' sI := J'.ofTry ok
    have sky2 : Sky B (X.env :: X.outer) a (Zc cls d) X.env.locals s'.heap := by rw [← hs]; exact sky
    refine (?_ : wpAny (model X.prog X.w) X.A (noteFrame (.ref a) X.env) _ _ _)
    refine Sky.land Zc.steady hfr hf sky2 fun h3 fl3 up3 => ?_
    have J3 : L2.Inv X pins σ' H' { s' with heap := h3 } := J.landed nb fl3.1 (up.trans up3) os ag
    obtain ⟨oe3, vs3, he3, hz3, hd3⟩ := fl3.there
    have nfr : a ∉ frs (X.env :: X.outer) := fun hm => by
      obtain ⟨_, o', e', hnf⟩ := fl3.2.2.1.mem hm
      rw [he3] at e'
      cases e'
      exact hnf _ hd3
    have nL : a ≠ X.env.locals := fun z => nfr (List.mem_filterMap.mpr ⟨X.env, List.mem_cons_self, by rw [hf, z]⟩)
    have nF : a ∉ X.fs := fun hm => by
      obtain ⟨e, he, q⟩ := List.mem_filterMap.mp hm
      exact nfr (List.mem_filterMap.mpr ⟨e, List.mem_cons_of_mem _ he, q⟩)
    have new : sI.heap.get? a = none := by
      cases e : sI.heap.get? a with
      | none => rfl
      | some o =>
        have z := nb a o e (by rw [hs]; exact nfr)
        rw [fl3.2.1] at z
        cases z
    have old : X.s_0.heap.get? a = none := by
      cases e : X.s_0.heap.get? a with
      | none => rfl
      | some o =>
        obtain ⟨o', z⟩ := J.base.there a o e (by rw [hex]; simp)
        rw [new] at z
        cases z
    have nP : ∀ p ∈ X.pn ++ pins, p.1 ≠ a := fun p hp z => by
      have q := (J.pin p hp).1
      rw [z, new] at q
      cases q
    have S3 := J3.suite he3 hd3 na nL nF
    refine wpAny_handleBy_cons (codeAny_handlers_test ?_) (by intro q; cases q)
    have LT : PySem.W.Looks (model X.prog X.w) h3 (typeOf (.ref a)) cls := fun A Q E s k q => wpAny_typeOf_ref (k _ _ he3) (by rw [hz3.1]; exact q)
    have LM := PySem.W.exm_one (M := model X.prog X.w) (J3.kIn) LT hb1
    have test : ∀ {Q : Value → Shared → Prop} {E : Value → Shared → Prop}, Q c { s' with heap := h3 } → wpAny (model X.prog X.w) (X.A.mark (some (.ref a))) (eval (.Name x np) X.env) Q E { s' with heap := h3 } := fun {Q E} q => by
      obtain ⟨hg, hdbg, hm | ⟨hm, hv, hnn⟩⟩ := hc
      · exact ld_glob (X := X.suite a ((a, oe3) :: (X.pn ++ pins))) S3 hg hm q hdbg
      · exact ld_blt (X := X.suite a ((a, oe3) :: (X.pn ++ pins))) S3 hg hm hv q hnn hdbg
    refine test (LM.here ?_)
    cases b with
    | true =>
      obtain ⟨C, rfl, yes⟩ := hyes rfl a na
      refine codeAny_handlers_suite_as (HandSPX.lands_againZ fl3 fun h4 fl4 up4 => ?_)
      have J4 : L2.Inv X pins σ' H' { s' with heap := h4 } := J.landed nb fl4.1 ((up.trans up3).trans up4) os ag
      obtain ⟨oe4, vs4, he4, hz4, hd4⟩ := fl4.there
      have S4 := J4.suite he4 hd4 na nL nF
      refine store_ok (X := X.suite a ((a, oe4) :: (X.pn ++ pins))) (v := .ref a) S4 hN hi (.inl hln) rfl (fun s5 S5 => ?_) (.inr hln)
      have hil : i < σ'.length := by
        have := (List.getElem?_eq_some_iff.mp hi).1
        rw [J.len]
        exact this
      have sp1 : PS (X.suite a ((a, oe4) :: (X.pn ++ pins))) (.Assign [.Name y py] (.Name n nn) sp) (tAsg (tVar i) (gName j)) := ps_set (i := j) hN hj (.inl hly) (pe_var (i := i) hi (.inl hln) hd1 hd2) (hsw _ _) (.inr hly)
      have su : PSs (X.suite a ((a, oe4) :: (X.pn ++ pins))) [.Assign [.Name y py] (.Name n nn) sp] (tAsg (tVar i) (gName j)) := pss_one sp1
      refine wpAny_mono (su.run [] s5 _ H' { nx := fun σ6 H6 => σ6 = (σ'.set i (some (.ref a))).set j (some (.ref a)) ∧ H6 = H', rt := fun _ _ => False } S5 ⟨.ref a, by rw [List.getElem?_set_self hil], rfl, rfl⟩) (fun f s6 hsp => ?_) (fun _ _ z => False.elim z)
      cases f with
      | next =>
        obtain ⟨σ6, H6, S6, rfl, rfl⟩ := hsp
        have S7 : L2.Inv X ((a, oe4) :: pins) ((σ'.set i (some (.ref a))).set j (some (.ref a))) H6 s6 := ⟨ok, S6.os, S6.bare, S6.base, S6.loc, S6.cell, S6.free, S6.freeC, fun p hp => S6.pin p (by
          rw [List.append_nil]
          rcases List.mem_append.mp hp with z | z
          · exact List.mem_cons_of_mem _ (List.mem_append_left _ z)
          · rcases List.mem_cons.mp z with z | z
            · rw [z]; exact List.mem_cons_self
            · exact List.mem_cons_of_mem _ (List.mem_append_right _ z)), S6.hok, S6.len⟩
        refine gone_ok S7 hN hi hln fun s7 S8 => ?_
        have ha7 := S8.pin (a, oe4) (List.mem_append_right _ List.mem_cons_self)
        have J8 : L2.Inv X pins (((σ'.set i (some (.ref a))).set j (some (.ref a))).set i none) H6 s7 := ⟨ok, S8.os, S8.bare, S8.base, S8.loc, S8.cell, S8.free, S8.freeC, fun p hp => S8.pin p (by
          rcases List.mem_append.mp hp with z | z
          · exact List.mem_append_left _ z
          · exact List.mem_append_right _ (List.mem_cons_of_mem _ z)), S8.hok, S8.len⟩
        refine ⟨_, _, Inv.adopt J8 na old nL (fun z c' e q => ?_) nP (exk_ok ha7.1 hz4 hd4), yes⟩
        obtain ⟨v, o, ho, hdd⟩ := J8.cell z c' e
        rw [q, ha7.1] at ho
        cases ho
        rw [hd4] at hdd
        cases hdd
      | brk => obtain ⟨_, _, _, z⟩ := hsp; exact z.elim
      | cont => obtain ⟨_, _, _, z⟩ := hsp; exact z.elim
      | ret u => obtain ⟨_, _, _, _, _, z⟩ := hsp; exact z.elim
    | false =>
      refine (?_ : wpAny _ X.A (handleBy (.ref a) X.env []) _ _ _)
      refine wpAny_handleBy_nil ?_
      obtain ⟨_, _, _, oe, vs, T, oT, ts', he, hz, hd, h1, hr⟩ := id fl3
      unfold PySem.passOn
      refine wpAny_bind (wpAny_field he hd h1 ?_)
      rw [if_neg (show ¬ ((Value.ref T == Value.none) = true) from by simp)]
      have fin : wpAny (model X.prog X.w) X.A (setFlight (.ref a) X.env.frame) (fun _ s4 => wpAny (model X.prog X.w) X.A (throw (.ref a) : Sem Flow) (SP X pins F) X.xe s4) X.xe { s' with heap := h3 } := by
        rw [hf]
        exact HandSPX.setFlight_upZ fl3 fun h4 hh4 up4 => wpAny_throw (tk _ _ ⟨a, B, sI, pins, σ', H', cls, d, rfl, J, nb, (up.trans up3).trans up4, .inr (.inr (by rw [hs]; exact hh4)), na, os, ag, hno rfl⟩)
      first
        | exact wpAny_bind (wpAny_pure (wpAny_bind fin))
        | exact wpAny_bind fin
  · rintro f s1 hsp
    cases f with
    | next => exact let ⟨σ1, H1, J1, q1⟩ := hsp; wpAny_execs_nil ⟨σ1, H1, J1.ofTry ok, q1⟩
    | brk => exact let ⟨σ1, H1, J1, q1⟩ := hsp; ⟨σ1, H1, J1.ofTry ok, q1⟩
    | cont => exact let ⟨σ1, H1, J1, q1⟩ := hsp; ⟨σ1, H1, J1.ofTry ok, q1⟩
    | ret u => exact let ⟨v, σ1, H1, J1, r1, q1⟩ := hsp; ⟨v, σ1, H1, J1.ofTry ok, r1, q1⟩
end
end DL
namespace DL
open PySem PySem.Spec PyProof.Rows L2
open Evl (Ex ex_rd ex_l ex_t fresh_back)

/-! ### what a def promises over data -/
abbrev DSp := List D → Mu → KD → KX → Prop
def spD (dsp : DSp) : Sp := fun vs H Q E => ∃ (ds : List D) (μ : Mu) (H0 : Hp) (K : KD) (Y : KX), dsp ds μ K Y ∧ DtAll H0 vs ds ∧ Rw0 μ H0 H ∧
  (∀ d v μ' H0' H', Ex H0 H0' → Rw0 μ' H0' H' → Dt H0' v d → K d μ' → Q v H') ∧
  (∀ C fs μ' dd fvs H0' H', Ex H0 H0' → Rw0 μ' H0' H' → H' dd = some (.xd fvs) → fvs.map (·.1) = fs.map (·.1) → DtAll H0' (fvs.map (·.2)) (fs.map (·.2)) → Y C fs μ' → E (.ref C) (some dd) H')
def dlen (dsp : DSp) (n : Nat) : Prop := ∀ ds μ K Y, dsp ds μ K Y → ds.length = n
theorem spD_len {dsp : DSp} {n : Nat} (h : dlen dsp n) : ∀ vs H Q E, spD dsp vs H Q E → vs.length = n := fun vs H Q E ⟨ds, μ, H0, K, Y, q, t, _⟩ => by rw [t.length]; exact h ds μ K Y q
theorem spD_imp {dsp dsp' : DSp} (h : ∀ ds μ K Y, dsp' ds μ K Y → dsp ds μ K Y) : ∀ vs H Q E, spD dsp' vs H Q E → spD dsp vs H Q E := fun vs H Q E ⟨ds, μ, H0, K, Y, q, r⟩ => ⟨ds, μ, H0, K, Y, h _ _ _ _ q, r⟩
def startD (N : List Str) (ds : List D) : Ro := ds.map some ++ List.replicate (N.length - ds.length) none
theorem sl_start {N : List Str} {vs : List V} {ds : List D} {H0 : Hp} (t : DtAll H0 vs ds) : Sl (startD N ds) (L2.start N vs) H0 := by
  refine ⟨by simp [startD, L2.start, t.length], fun i d h => ?_⟩
  unfold startD at h
  unfold L2.start
  by_cases hi : i < ds.length
  · rw [List.getElem?_append_left (by simpa using hi), List.getElem?_map] at h
    rw [List.getElem?_append_left (by simpa [t.length] using hi), List.getElem?_map]
    cases e : ds[i]? with
    | none => rw [e] at h; cases h
    | some x =>
      rw [e] at h
      cases h
      obtain ⟨v, hv, r⟩ := t.get e
      exact ⟨v, by rw [hv]; rfl, r⟩
  · rw [List.getElem?_append_right (by simpa using hi)] at h
    rw [List.getElem?_replicate] at h
    split at h <;> cases h
/-- the ambient at a def's entry -/
@[reducible] def ambAt (H0 : Hp) : Amb := ⟨fun H => Ex H0 H, fun _ _ e h => h.trans e⟩
/-- a body over data gives the body over the heap -/
theorem body_of {t : TS} {dsp : DSp} {N : List Str} {E : XK} (hb : ∀ (AM : Amb) (Y : KX), XOk E Y → ∃ ds, LiftS t ds ∧ ∀ xs μ K, dsp xs μ K Y → ds { nx := fun _ μ' => K .non μ', rt := K } (startD N xs) μ)
    {vs : List V} {H : Hp} {Q : VK} (h : spD dsp vs H Q E) : t { nx := fun _ H' => Q .non H', rt := Q } (L2.start N vs) H := by
  obtain ⟨xs, μ, H0, K, Y, q, tt, rw0, kq, kx⟩ := h
  letI : Amb := ambAt H0
  obtain ⟨ds, ls, hd⟩ := hb (ambAt H0) Y (fun C fs μ' dd fvs H0' H' r h1 h2 h3 k => kx C fs μ' dd fvs H0' H' r.am r.toRw0 h1 h2 h3 k)
  exact ls _ _ _ (hd xs μ K q) _ _ H0 H (sl_start tt) ⟨rw0, exr _⟩ ⟨fun ρ μ' σ H0' H' e _ r k => kq .non .non μ' H0' H' e r.toRw0 .non k, fun d v μ' H0' H' e r rr k => kq d v μ' H0' H' e rr.toRw0 r k, fun _ _ _ _ _ _ _ _ k => k.elim, fun _ _ _ _ _ _ _ _ k => k.elim⟩
section
variable {P : Program} {w : World} {K : PySem.W.Frag} {mg : Str → Option Value} {base : Heap}
/-- a def that raises nothing -/
theorem fn0D {x qual : Str} {st : Stmt} {f : Addr} {fd : FuncData} {N ps : List Str} {k : Nat} {dsp : DSp} (F : Fun K x qual st f fd) (S : FnScope N ps (defScope st)) (len : dlen dsp ps.length)
    (hb : ∀ (cdv : Value) (A : Around) (outer : List Env) (s : Shared) (H : Hp) (E : XK), Room k (A.deeper (envOfC qual (defScope st) s.heap.objs.size f cdv)) →
      ∃ t, PSs (cxOf CX0 P w K mg base N qual (defScope st) f cdv A outer s H E).nox (defBody st) t ∧ ∀ (AM : Amb) (Y : KX), ∃ ds, LiftS t ds ∧ ∀ xs μ K, dsp xs μ K Y → ds { nx := fun _ μ' => K .non μ', rt := K } (startD N xs) μ) :
    FnOk P w K mg base CX0 (k + 1) f fd ps (spD dsp) :=
  F.ok S (spD_len len) fun cdv A outer s H vs Q E hr h => let ⟨t, h1, h2⟩ := hb cdv A outer s H E hr; ⟨t, h1, body_of (fun AM Y _ => h2 AM Y) h⟩
/-- a def that may raise -/
theorem fnXD {x qual : Str} {st : Stmt} {f : Addr} {fd : FuncData} {N ps : List Str} {k : Nat} {dsp : DSp} (F : Fun K x qual st f fd) (S : FnScope N ps (defScope st)) (len : dlen dsp ps.length)
    (hb : ∀ (cdv : Value) (A : Around) (outer : List Env) (s : Shared) (H : Hp) (E : XK), Room k (A.deeper (envOfC qual (defScope st) s.heap.objs.size f cdv)) →
      ∃ t, PSs (cxOf (L2.CX P w) P w K mg base N qual (defScope st) f cdv A outer s H E) (defBody st) t ∧ ∀ (AM : Amb) (Y : KX), XOk E Y → ∃ ds, LiftS t ds ∧ ∀ xs μ K, dsp xs μ K Y → ds { nx := fun _ μ' => K .non μ', rt := K } (startD N xs) μ) :
    FnOk P w K mg base (L2.CX P w) (k + 1) f fd ps (spD dsp) :=
  F.okX S (spD_len len) fun cdv A outer s H vs Q E hr h => let ⟨t, h1, h2⟩ := hb cdv A outer s H E hr; ⟨t, h1, body_of h2 h⟩
end

/-! ### calls -/
section
variable [AM : Amb]
theorem XOk.never {E : XK} : XOk E (fun _ _ _ => False) := fun _ _ _ _ _ _ _ _ _ _ _ k => k.elim
def dCall (dsp : DSp) (Y : KX) (da : DA) : DE := fun ρ μ K => da ρ μ fun xs μ1 => dsp xs μ1 K Y
theorem l_call {dsp : DSp} {E : XK} {Y : KX} {t : TA} {da : DA} (hx : XOk E Y) (h : LiftA t da) : Lift (tCall (spD dsp) [] E t) (dCall dsp Y da) := fun ρ μ K hk σ H0 H1 sl rw_ Q q =>
  h ρ μ _ hk σ H0 H1 sl rw_ _ fun xs us μ1 H01 H11 e1 rw1 r1 k => by
    show spD dsp (us ++ []) H11 Q E
    rw [List.append_nil]
    exact ⟨xs, μ1, H01, K, Y, k, r1, rw1.toRw0, fun d v μ' H0' H' e r rd kk => q d v μ' H0' H' (e1.trans e) ⟨r, Amb.mono _ _ e rw1.am⟩ rd kk, fun C fs μ' dd fvs H0' H' e r h1 h2 h3 kk => hx C fs μ' dd fvs H0' H' ⟨r, Amb.mono _ _ e rw1.am⟩ h1 h2 h3 kk⟩
/-- within a try's body -/
def XOkS (W : WX) (Y : Ro → KX) : Prop := ∀ ρ σ C fs μ' dd fvs H0' H1', Sl ρ σ H0' → Rw μ' H0' H1' → H1' dd = some (.xd fvs) → fvs.map (·.1) = fs.map (·.1) → DtAll H0' (fvs.map (·.2)) (fs.map (·.2)) → Y ρ C fs μ' → W (.ref C) (some dd) σ H1'
def dCallS (dsp : DSp) (Y : Ro → KX) (da : DA) : DE := fun ρ μ K => da ρ μ fun xs μ1 => dsp xs μ1 K (Y ρ)
theorem l_callS {dsp : DSp} {W : WX} {Y : Ro → KX} {t : TA} {da : DA} (hx : XOkS W Y) (h : LiftA t da) : Lift (tCallS (spD dsp) (WE W) t) (dCallS dsp Y da) := fun ρ μ K hk σ H0 H1 sl rw_ Q q =>
  h ρ μ _ hk σ H0 H1 sl rw_ _ fun xs us μ1 H01 H11 e1 rw1 r1 k =>
    ⟨xs, μ1, H01, K, Y ρ, k, r1, rw1.toRw0, fun d v μ' H0' H' e r rd kk => q d v μ' H0' H' (e1.trans e) ⟨r, Amb.mono _ _ e rw1.am⟩ rd kk, fun C fs μ' dd fvs H0' H' e r h1 h2 h3 kk => hx ρ σ C fs μ' dd fvs H0' H' (sl.mono (e1.trans e)) ⟨r, Amb.mono _ _ e rw1.am⟩ h1 h2 h3 kk⟩
end
theorem rw_conv (A B : Amb) {μ : Mu} {H0 H1 : Hp} (r : @Rw A μ H0 H1) (h : @Amb.P B H0) : @Rw B μ H0 H1 := @Rw.mk B μ H0 H1 (@Rw.toRw0 A μ H0 H1 r) h
theorem link_conv (A B : Amb) {H0 : Hp} {E : DEnds} {F : Ends} (l : @Link A H0 E F) (h : ∀ H, Ex H0 H → @Amb.P A H) : @Link B H0 E F :=
  @Link.mk B H0 E F (fun ρ μ σ a b e s r k => @Link.nx A H0 E F l ρ μ σ a b e s (rw_conv B A r (h a e)) k) (fun d v μ a b e r rr k => @Link.rt A H0 E F l d v μ a b e r (rw_conv B A rr (h a e)) k)
    (fun ρ μ σ a b e s r k => @Link.bk A H0 E F l ρ μ σ a b e s (rw_conv B A r (h a e)) k) (fun ρ μ σ a b e s r k => @Link.ct A H0 E F l ρ μ σ a b e s (rw_conv B A r (h a e)) k)
/-- try: .. except x as n: y = n, over data -/
def dTryKeep (K : PySem.W.Frag) (c : Value) (i j : Nat) (db : (Ro → KX) → DS) : DS := fun E ρ μ => db (fun ρ' C fs μ' => PySem.W.exmOne K (.ref C) c = some true ∧ i < ρ'.length ∧ E.nx ((ρ'.set j (some (D.exc C fs))).set i none) μ') E ρ μ
theorem ls_tryKeep [AM : Amb] {K : PySem.W.Frag} {c : Value} {i j : Nat} {Wo : WX} {tb : WX → TS} {db : (Ro → KX) → DS} (hij : i ≠ j) (hb : ∀ (A' : Amb) (W : WX) (Y : Ro → KX), XOkS W Y → LiftS (tb W) (db Y)) :
    LiftS (fun F σ H => tb (wKeep K c i j Wo F) F σ H) (dTryKeep K c i j db) := by
  intro E ρ μ hk F σ H0 H1 sl rw_ l
  have up : ∀ H, Ex H0 H → Amb.P H := fun H e => Amb.mono _ _ e rw_.am
  refine @hb (ambAt H0) (wKeep K c i j Wo F) _ ?_ E ρ μ hk F σ H0 H1 sl (rw_conv AM (ambAt H0) rw_ (exr H0)) (link_conv AM (ambAt H0) l up)
  rintro ρ' σ' C fs μ' dd fvs H0' H1' sl' r h1 h2 h3 ⟨he, hi, k⟩
  refine ⟨true, he, fun _ a ha => ⟨C, rfl, ?_⟩, fun z => by cases z⟩
  have h0a : H0' a = none := fresh_back r.ex ha
  -- the exception and its dict become data
  have hdd0 : H0' dd = none ∨ H0' dd = some (.xd fvs) := by
    cases e : H0' dd with
    | none => exact .inl rfl
    | some o =>
      have z := r.ex _ _ e
      rw [h1] at z
      exact .inr z.symm
  have hne : dd ≠ a := fun z => by rw [z, ha] at h1; cases h1
  have e1 : Ex H0' (upd H0' dd (.xd fvs)) := fun b u hb => by
    by_cases hbd : b = dd
    · subst hbd
      rw [upd_same]
      rcases hdd0 with z | z
      · rw [z] at hb; cases hb
      · rw [z] at hb; exact hb
    · rw [upd_ne hbd]; exact hb
  have h1a : upd H0' dd (.xd fvs) a = none := by rw [upd_ne (Ne.symm hne)]; exact h0a
  have e2 : Ex (upd H0' dd (.xd fvs)) (upd (upd H0' dd (.xd fvs)) a (exk C (some dd) a)) := Ex.new h1a
  have e12 := e1.trans e2
  have hmu : ∀ b m, μ' b = some m → b ≠ dd ∧ b ≠ a := fun b m hm => by
    obtain ⟨_, q2⟩ := r.mu b m hm
    refine ⟨fun z => ?_, fun z => ?_⟩
    · subst z
      cases m with
      | lst ds => obtain ⟨_, q, _⟩ := q2; rw [h1] at q; cases q
      | ins C fs => obtain ⟨_, _, q, _⟩ := q2; rw [h1] at q; cases q
    · subst z
      cases m with
      | lst ds => obtain ⟨_, q, _⟩ := q2; rw [ha] at q; cases q
      | ins C fs => obtain ⟨_, _, q, _⟩ := q2; rw [ha] at q; cases q
  have rw2 : Rw0 μ' (upd (upd H0' dd (.xd fvs)) a (exk C (some dd) a)) (upd H1' a (exk C (some dd) a)) := by
    refine ⟨fun b u hb => ?_, r.sys.upd (fun φ z => by rw [ha] at z; cases z), fun b m hm => ?_⟩
    · by_cases hba : b = a
      · subst hba; rw [upd_same] at hb ⊢; exact hb
      · rw [upd_ne hba] at hb ⊢
        by_cases hbd : b = dd
        · subst hbd; rw [upd_same] at hb; cases hb; exact h1
        · rw [upd_ne hbd] at hb; exact r.ex b u hb
    · obtain ⟨n1, n2⟩ := hmu b m hm
      obtain ⟨q1, q2⟩ := r.mu b m hm
      refine ⟨by rw [upd_ne n2, upd_ne n1]; exact q1, ?_⟩
      cases m with
      | lst ds => obtain ⟨ws, z, tz⟩ := q2; exact ⟨ws, by rw [upd_ne n2]; exact z, tz.mono e12⟩
      | ins C fs => obtain ⟨dx, gs, z, kz, tz⟩ := q2; exact ⟨dx, gs, by rw [upd_ne n2]; exact z, kz, tz.mono e12⟩
  have hD : Dt (upd (upd H0' dd (.xd fvs)) a (exk C (some dd) a)) (.ref a) (D.exc C fs) := .any ⟨a, dd, fvs, rfl, upd_same, by rw [upd_ne hne, upd_same], h2, h3.mono e12⟩ excP_mono
  have hr : Ex H0 H0' := @Rw.am (ambAt H0) _ _ _ r
  refine l.nx _ μ' _ _ _ (hr.trans e12) ?_ ⟨rw2, Amb.mono _ _ (hr.trans e12) rw_.am⟩ k
  have s1 := (sl'.mono e12).set j hD
  refine ⟨by simp [sl'.len], fun m d hm => ?_⟩
  by_cases him : i = m
  · subst him
    rw [List.getElem?_set_self (by simpa using hi)] at hm
    cases hm
  · rw [List.getElem?_set_ne him] at hm ⊢
    obtain ⟨v, hv, rv⟩ := s1.at_ m d hm
    refine ⟨v, ?_, rv⟩
    by_cases hjm : j = m
    · subst hjm
      rw [List.getElem?_set] at hv ⊢
      simpa using hv
    · rw [List.getElem?_set_ne hjm] at hv ⊢
      rw [List.getElem?_set_ne him]
      exact hv
end DL
namespace DL
open PySem PySem.Spec PyProof.Rows L2
open Evl (Ex ex_rd ex_l ex_t fresh_back)

/-! ### defs that are run where no repr is under way -/
structure FnG (P : Program) (w : World) (K : PySem.W.Frag) (mg : Str → Option Value) (base : Heap) (CX : CXT) (k : Nat) (f : Addr) (fd : FuncData) (ps : List Str) (sp : Sp) : Prop where
  len : ∀ vs H Q E, sp vs H Q E → vs.length = ps.length
  go : ∀ (A : Around) (outer : List Env) (s : Shared) (H : Hp) (args : Args) (us : List Value) (vs : List V) (Q : VK) (E : XK), A.guards = some [] → Room k A → Env0 P w K mg base A outer s H → BindsTo s fd args (ps.zip us) →
    Vals vs us → sp vs H Q E → codeAny (model P w) A (.call (.ref f) args) (CR CX outer P w H s Q E) s
section
variable {P : Program} {w : World} {K : PySem.W.Frag} {mg : Str → Option Value} {base : Heap} {CX : CXT} {k : Nat} {f : Addr} {fd : FuncData} {ps : List Str} {sp : Sp}
theorem FnG.of (F : FnOk P w K mg base CX k f fd ps sp) : FnG P w K mg base CX k f fd ps sp := ⟨F.len, fun A outer s H args us vs Q E _ => F.run A outer s H args us vs Q E⟩
theorem FnG.mono {j : Nat} (F : FnG P w K mg base CX j f fd ps sp) (h : j ≤ k) : FnG P w K mg base CX k f fd ps sp := ⟨F.len, fun A outer s H args us vs Q E hg hr => F.go A outer s H args us vs Q E hg (hr.mono h)⟩
/-- a def by its body, where no repr is under way -/
theorem fnG {x qual : Str} {st : Stmt} {N : List Str} (F : Fun K x qual st f fd) (S : FnScope N ps (defScope st)) (len : ∀ vs H Q E, sp vs H Q E → vs.length = ps.length)
    (hbody : ∀ (cdv : Value) (A : Around) (outer : List Env) (s : Shared) (H : Hp) (vs : List V) (Q : VK) (E : XK), A.guards = some [] → Room k (A.deeper (envOfC qual (defScope st) s.heap.objs.size f cdv)) → sp vs H Q E →
      ∃ t, PSs (cxOf CX P w K mg base N qual (defScope st) f cdv A outer s H E) (defBody st) t ∧ t { nx := fun _ H' => Q .non H', rt := Q } (L2.start N vs) H) : FnG P w K mg base CX (k + 1) f fd ps sp := by
  obtain ⟨oc, od, kV, doc, pm, an, cdv, ct, osl, rfl, lk, hcd⟩ := F.ex
  refine ⟨len, fun A outer s H args us vs Q E hg hr e0 hb r hsp => ?_⟩
  have keep : ∀ b o, base.get? b = some o → s.heap.get? b = some o := fun b o e => (e0.bs b o e).1
  have KX := e0.mod.kin.keeps keep
  refine codeAny_call_function hr.depth (KX _ _ lk) rfl S.co S.gen rfl (PySem.W.codeRec_of KX hcd) (hb _ _ _ _ (wpAny_newFunctionEnv_cells S.kind ?_ ?_))
  · rintro ⟨n, v⟩ hy
    rcases S.par n (List.of_mem_zip hy).1 with q | q
    · exact .inl q
    · exact .inr ⟨q, PySem.W.cellsFrom_some _ _ _ (.inl q)⟩
  · rintro env rfl s1 x
    refine ⟨(e0.mod.nolimit.keeps keep).keeps x.toInCall.keep, codeAny_func ?_⟩
    obtain ⟨t, ht, hq⟩ := hbody cdv A outer s H vs Q E hg (hr.deeper _) hsp
    refine wpAny_mono (ht.run [] s1 _ H _ (inv_start S hr.hd e0 (len _ _ _ _ hsp) r x) hq) ?_ (fun _ _ z => z)
    rintro fl s' hs
    cases fl with
    | ret u => exact let ⟨v, σ', H', J, rv, q⟩ := hs; ⟨v, H', J.os, J.bare, J.base, J.hok, rv, q⟩
    | next => exact let ⟨σ', H', J, q⟩ := hs; ⟨V.non, H', J.os, J.bare, J.base, J.hok, rfl, q⟩
    | brk => exact let ⟨_, _, _, q⟩ := hs; q.elim
    | cont => exact let ⟨_, _, _, q⟩ := hs; q.elim
/-- over data, nothing raised -/
theorem fnGD {x qual : Str} {st : Stmt} {N : List Str} {dsp : DSp} (F : Fun K x qual st f fd) (S : FnScope N ps (defScope st)) (len : dlen dsp ps.length)
    (hb : ∀ (cdv : Value) (A : Around) (outer : List Env) (s : Shared) (H : Hp) (E : XK), A.guards = some [] → Room k (A.deeper (envOfC qual (defScope st) s.heap.objs.size f cdv)) →
      ∃ t, PSs (cxOf CX0 P w K mg base N qual (defScope st) f cdv A outer s H E).nox (defBody st) t ∧ ∀ (AM : Amb) (Y : KX), ∃ ds, LiftS t ds ∧ ∀ xs μ K, dsp xs μ K Y → ds { nx := fun _ μ' => K .non μ', rt := K } (startD N xs) μ) :
    FnG P w K mg base CX0 (k + 1) f fd ps (spD dsp) :=
  fnG F S (spD_len len) fun cdv A outer s H vs Q E hg hr h => let ⟨t, h1, h2⟩ := hb cdv A outer s H E hg hr; ⟨t, h1.nox, body_of (fun AM Y _ => h2 AM Y) h⟩
end
section
variable {X : Cx} {CX : CXT} {k : Nat} {f : Addr} {fd : FuncData} {ps : List Str} {sp : Sp} {E : XK} {x : Str} {p pos : Pos} {e : Expr} {es : List Expr} {t : TA}
theorem run_g {pins : List (Addr × Obj)} {σ : L2.St} {H : Hp} {s : Shared} {Q : VK} {us : List Value} {vs : List V} (F : FnG X.prog X.w X.K X.mg X.base CX k f fd ps sp) (hG : X.A.guards = some []) (hr : Room k X.A) (hb : Binds X.K fd ps []) (hx : Passes CX X E)
    (I : L2.Inv X pins σ H s) (r : Vals vs us) (h : sp vs H Q E) : wpAny (model X.prog X.w) X.A (call (.ref f) us) (EP X pins σ Q) X.xe s := by
  have hl : us.length = ps.length := by rw [← r.length]; exact F.len _ _ _ _ h
  have hb' := hb s us I.kIn (by rw [List.append_nil]; exact hl)
  rw [List.append_nil] at hb'
  refine wpAny_call (codeAny_mono (F.go X.A X.stack s H ⟨us, []⟩ us vs Q E hG hr I.env0 hb' r h) ?_)
  rintro r s' hq
  cases r with
  | error e => exact hx pins σ H s e s' I hq
  | ok fl =>
    cases fl with
    | ret u => exact I.after hq
    | next => exact False.elim hq
    | brk => exact False.elim hq
    | cont => exact False.elim hq
theorem pe_callG (F : FnG X.prog X.w X.K X.mg X.base CX k f fd ps sp) (hG : X.A.guards = some []) (hr : Room k X.A) (hg : Gl X x) (hm : X.mg x = some (.ref f)) (hk : PySem.W.keepIn X.K (.ref f) = true) (hb : Binds X.K fd ps []) (hx : Passes CX X E)
    (ha : PA X (e :: es) t) (hdb : (x == ("__debug__" : Str)) = false := by decide) (he : starEach (e :: es) X.env = (false, eval e X.env) :: starEach es X.env := by rfl) (hpl : (backTo pos (starEach es X.env)).any (·.1) = false := by rfl) :
    PE X (.Call (.Name x p) (e :: es) [] pos) (tCall sp [] E t) := by
  constructor
  intro pins s σ H Q I h
  refine wpAny_Call_Name_kw (ld_glob I hg hm ?_ hdb)
  refine PySem.W.callWith_K (h₀ := X.base) I.ok.mod.kin hk (thn (ha.run pos pins s σ H _ I h) ?_) he hpl
  rintro us s1 ⟨vs, H1, I1, r, q⟩
  exact ⟨I1.kIn, run_g F hG hr hb hx I1 r (by rw [List.append_nil] at q; exact q)⟩
theorem pe_callG0 (F : FnG X.prog X.w X.K X.mg X.base CX k f fd ps sp) (hG : X.A.guards = some []) (hr : Room k X.A) (hg : Gl X x) (hm : X.mg x = some (.ref f)) (hk : PySem.W.keepIn X.K (.ref f) = true) (hb : Binds X.K fd ps []) (hx : Passes CX X E)
    (hdb : (x == ("__debug__" : Str)) = false := by decide) : PE X (.Call (.Name x p) [] [] pos) (tCall sp [] E tNil) := by
  constructor
  intro pins s σ H Q I h
  exact wpAny_Call_Name_kw (ld_glob I hg hm (PySem.W.callWith_K0 I.kIn hk (run_g (us := []) F hG hr hb hx I .nil h)) hdb)
end

/-! ### repr -/
section
variable [AM : Amb]
def rRepr : List V → Hp → VK → Prop := fun xs H Q => ∃ v μ H0 d p, xs = [v] ∧ Dt H0 v d ∧ Rw0 μ H0 H ∧ Vw μ d p ∧ p.showable = true ∧ p.depth ≤ 60 ∧ p.shown.length ≤ sizeLine ∧ Q (.str p.shown) H
omit AM in
theorem call_reprD {X : Cx} (hG : X.A.guards = some []) (hu : X.A.units + 64 < cLine) : CallR X (.builtin "repr") rRepr := by
  rintro pins s σ H xs us Q I r ⟨v, μ, H0, d, p, rfl, rd, rw_, hv, hs, hd, hz, q⟩
  letI : Amb := ⟨fun _ => True, fun _ _ _ h => h⟩
  obtain ⟨u, rfl, ru⟩ := vals1 r
  obtain ⟨as, hr, hn⟩ := Vw.reads I rw_ hv v u rd ru
  cases hr with
  | none => exact PySem.P.repr_of_none ⟨.str _, H, I.tok _, ⟨_, rfl⟩, q⟩
  | bool b => exact PySem.P.repr_of_bool ⟨.str _, H, I.tok _, ⟨_, rfl⟩, q⟩
  | int i t => exact PySem.P.repr_of_int (of_decide_eq_true hs) ⟨.str _, H, I.tok _, ⟨_, rfl⟩, q⟩
  | str x t => exact PySem.P.repr_of_str ⟨.str _, H, I.tok _, ⟨_, rfl⟩, q⟩ hz
  | list h1 h2 h3 h4 => exact repr_of_reads' (.list h1 h2 h3 h4) hs (fun _ => hn) hG (by omega) (fun _ _ e => e) (fun h' t tk k => ⟨.str _, H, I.kept k, ⟨_, rfl⟩, q⟩) hz
  | tuple h1 h2 h3 h4 => exact repr_of_reads' (.tuple h1 h2 h3 h4) hs (fun _ => hn) hG (by omega) (fun _ _ e => e) (fun h' t tk k => ⟨.str _, H, I.kept k, ⟨_, rfl⟩, q⟩) hz
  | dict h1 h2 h3 h4 h5 => exact repr_of_reads' (.dict h1 h2 h3 h4 h5) hs (fun _ => hn) hG (by omega) (fun _ _ e => e) (fun h' t tk k => ⟨.str _, H, I.kept k, ⟨_, rfl⟩, q⟩) hz
def fRepr : DOn := fun xs μ K => ∃ d p, xs = [d] ∧ Vw μ d p ∧ p.showable = true ∧ p.depth ≤ 60 ∧ p.shown.length ≤ sizeLine ∧ K (.str p.shown) μ
theorem lc_repr : LiftC rRepr fRepr := by
  rintro xs μ K ⟨d, p, rfl, hv, h1, h2, h3, k⟩ us H0 H1 rx rw_ Q q
  obtain ⟨u, rfl, r⟩ := vals_of_all rx
  exact ⟨u, μ, H0, d, p, rfl, r, rw_.toRw0, hv, h1, h2, h3, q _ _ μ H0 H1 (exr _) rw_ (.str _) k⟩
end

/-! ### exceptions that are data: isinstance, fields -/
/-- what the written part says of an exception's class -/
structure ExcK (K : PySem.W.Frag) (C : Addr) : Prop where
  hcl : (PySem.W.clsIn K C).isSome = true
  hga : PySem.W.findIn K (.ref C) "__getattribute__" = some (some (.builtin "BaseException.__getattribute__"))
  hgt : PySem.W.findIn K (.ref C) "__getattr__" = some none
  hsub : PySem.W.subIn K (.ref C) (.type "BaseException") = some true
  hd : PySem.W.hasDictIn K C = true
  ha : PySem.W.findIn K (.ref C) "__class__" = some (some (.builtin "object.__class__"))
  hn : PySem.W.specialIn K (.builtin "object.__class__") "__get__" = some (some (.builtin "getset_descriptor.__get__"))
  htk : PySem.W.takesIn K (.builtin "object.__class__") = some true
  hm : PySem.W.mroIn K C (.type "object") = some true
theorem exc_inst {P : Program} {w : World} {H : Hp} {h : Heap} {C a dd : Addr} {fvs : List (Str × V)} (hok : HOk P w H h) (e : H a = some (exk C (some dd) a)) (e2 : H dd = some (.xd fvs)) :
    ∃ (oe od : Obj) (mA : Str → Option Value), PySem.W.InstAt h a oe C (some od) ∧ (∀ name, PySem.W.lookIn name od = some (mA name)) ∧ ∀ f, RelO (fvs.lookup f) (mA f) := by
  obtain ⟨oe, vs, he, hz, hd⟩ := exk_at hok e
  obtain ⟨mA, hns, hr⟩ := (show ObjOk P w H h dd (.xd fvs) from hok dd _ e2)
  obtain ⟨od, ho, hl⟩ := lookIn_ns hns
  exact ⟨oe, od, mA, ⟨he, hz.1, by unfold PySem.W.notCls; rw [hd], by rw [hz.2]; exact ho⟩, hl, hr⟩
def rIsX (K : PySem.W.Frag) : List V → Hp → VK → Prop := fun xs H Q => ∃ (a dd C : Addr) (fvs : List (Str × V)) (c : V) (u : Value) (b : Bool), xs = [.ref a, c] ∧ H a = some (exk C (some dd) a) ∧ H dd = some (.xd fvs) ∧ ExcK K C ∧ ClsV c u ∧ PySem.W.kitOne K (.ref C) u = some b ∧ Q (.bl b) H
theorem call_isX {X : Cx} : CallR X (.builtin "isinstance") (rIsX X.K) := by
  rintro pins s σ H xs us Q I r ⟨a, dd, C, fvs, c, u, b, rfl, e1, e2, T, hc, hb, q⟩
  obtain ⟨u1, u2, rfl, r1, r2⟩ := vals2 r
  cases (show u1 = Value.ref a from r1)
  have e := hc.eq r2
  subst e
  obtain ⟨oe, od, mA, J, _, _⟩ := exc_inst I.hok e1 e2
  exact PySem.W.kia_one (PySem.W.kitx_exc (x := a) (ox := oe) (od := some od) T.hcl T.hga T.hgt T.hsub T.ha T.hn T.htk T.hm) I.kIn J hb (fun z => nomatch z) fun tk => ⟨.bl b, H, I.tok tk, rfl, q⟩
def rIsP (K : PySem.W.Frag) : List V → Hp → VK → Prop := fun xs H Q => rIsi K xs H Q ∨ rIsX K xs H Q
theorem call_isP {X : Cx} : CallR X (.builtin "isinstance") (rIsP X.K) := call_isi.or call_isX
section
variable [AM : Amb]
theorem lc_isiP {K' : PySem.W.Frag} : LiftC (rIsP K') (fIsi K') := fun xs μ K h us H0 H1 rx rw_ Q q => .inl (lc_isi xs μ K h us H0 H1 rx rw_ Q q)
def fIsX (K' : PySem.W.Frag) : DOn := fun xs μ K => ∃ C fs c u b, xs = [D.exc C fs, c] ∧ clsD c = some u ∧ ExcK K' C ∧ PySem.W.kitOne K' (.ref C) u = some b ∧ K (.bl b) μ
theorem Dt.exc_of {H : Hp} {v : V} {C : Addr} {fs : List (Str × D)} (h : Dt H v (D.exc C fs)) : excP C fs H v := by
  cases h with
  | any p _ => exact p
theorem lc_isX {K' : PySem.W.Frag} : LiftC (rIsP K') (fIsX K') := by
  rintro xs μ K ⟨C, fs, c, u, b, rfl, hc, T, hb, k⟩ us H0 H1 rx rw_ Q q
  obtain ⟨w, v, rfl, r1, r2⟩ := vals_of_all2 rx
  obtain ⟨a, dd, fvs, rfl, e1, e2, _, _⟩ := r1.exc_of
  exact .inr ⟨a, dd, C, fvs, v, u, b, rfl, rw_.ex _ _ e1, rw_.ex _ _ e2, T, clsD_at r2 hc, hb, q _ _ μ H0 H1 (exr _) rw_ (.bl b) k⟩
/-- either -/
def fIsP (K' : PySem.W.Frag) : DOn := fun xs μ K => fIsi K' xs μ K ∨ fIsX K' xs μ K
theorem lc_isP {K' : PySem.W.Frag} : LiftC (rIsP K') (fIsP K') := fun xs μ K h us H0 H1 rx rw_ Q q => h.elim (fun h => lc_isiP xs μ K h us H0 H1 rx rw_ Q q) (fun h => lc_isX xs μ K h us H0 H1 rx rw_ Q q)
end
/-- o.f, o an instance or an exception -/
def tAtt (K : PySem.W.Frag) (ta : TE) (f : Str) : TE := fun σ H Q => ta σ H fun x H1 => (∃ a C dx fs v, x = .ref a ∧ H1 a = some (.ins C dx fs) ∧ Cls K C ∧ NoAttr K C f ∧ fs.lookup f = some v ∧ Q v H1) ∨
  ∃ a dd C fvs v, x = .ref a ∧ H1 a = some (exk C (some dd) a) ∧ H1 dd = some (.xd fvs) ∧ ExcK K C ∧ PySem.W.findIn K (.ref C) f = some none ∧ fvs.lookup f = some v ∧ Q v H1
theorem pe_att {X : Cx} {e : Expr} {ta : TE} {f : Str} {pos : Pos} (he : PE X e ta) (hb : attributeBase e f X.env (eval e X.env) = eval e X.env) : PE X (.Attribute e f pos) (tAtt X.K ta f) := by
  constructor
  intro pins s σ H Q I h
  refine attr_of hb (thn (he.run pins s σ H _ I h) ?_)
  rintro u s1 ⟨x, H1, I1, rx, ⟨a, C, dx, fs, v, rfl, ea, c, n, l, q⟩ | ⟨a, dd, C, fvs, v, rfl, e1, e2, T, hno, l, q⟩⟩
  · obtain rfl : u = Value.ref a := rx
    exact getattr_ok I1 ea c n l fun u' s' I' ru => ⟨v, H1, I', ru, q⟩
  · obtain rfl : u = Value.ref a := rx
    obtain ⟨oe, od, mA, J, hl, hr⟩ := exc_inst I1.hok e1 e2
    obtain ⟨z, hz, rz⟩ := RelO.some_of (v := v) (o := mA f) (by rw [← l]; exact hr f)
    exact HandSPX.exc_get I1.kIn J T.hga T.hgt T.hsub (PySem.W.findObj_own T.hd hno rfl (by rw [hl, hz])) (handed_of rz) ⟨v, H1, I1.tok _, rz, q⟩
theorem lookup_map {H : Hp} {f : Str} {d : D} : ∀ {fvs : List (Str × V)} {fs : List (Str × D)}, fvs.map (·.1) = fs.map (·.1) → DtAll H (fvs.map (·.2)) (fs.map (·.2)) → fs.lookup f = some d → ∃ v, fvs.lookup f = some v ∧ Dt H v d
  | [], [], _, _, h => by cases h
  | [], _ :: _, h, _, _ => by cases h
  | _ :: _, [], h, _, _ => by cases h
  | (g, v) :: fvs, (g', y) :: fs, h, t, l => by
    rw [List.map_cons, List.map_cons] at h
    injection h with h1 h2
    have h1' : g = g' := h1
    subst h1'
    cases t with
    | cons r t =>
      by_cases e : f == g
      · have l' : some y = some d := by rw [← l]; simp [List.lookup, e]
        cases l'
        exact ⟨v, by simp [List.lookup, e], r⟩
      · have l' : fs.lookup f = some d := by rw [← l]; simp [List.lookup, e]
        obtain ⟨w, hw, rw'⟩ := lookup_map h2 t l'
        exact ⟨w, by simp [List.lookup, e, hw], rw'⟩
section
variable [AM : Amb]
/-- the attribute of an exception, of an instance, of an instance that changes -/
def dAtt (K' : PySem.W.Frag) (f : Str) (da : DE) : DE := fun ρ μ K => da ρ μ fun x μ1 => (∃ C fs d, x = D.exc C fs ∧ ExcK K' C ∧ PySem.W.findIn K' (.ref C) f = some none ∧ fs.lookup f = some d ∧ K d μ1) ∨
  (∃ C fs d, x = D.ins C fs ∧ Cls K' C ∧ NoAttr K' C f ∧ fs.lookup f = some d ∧ K d μ1) ∨ (∃ a C fs d, x = .val (.ref a) ∧ μ1 a = some (.ins C fs) ∧ Cls K' C ∧ NoAttr K' C f ∧ fs.lookup f = some d ∧ K d μ1)
theorem l_att {K' : PySem.W.Frag} {f : Str} {te : TE} {de : DE} (h : Lift te de) : Lift (tAtt K' te f) (dAtt K' f de) := fun ρ μ K hk σ H0 H1 sl rw_ Q q =>
  h ρ μ _ hk σ H0 H1 sl rw_ _ fun x v μ1 H01 H11 e1 rw1 r1 k => by
    rcases k with ⟨C, fs, d, rfl, T, hno, hl, k⟩ | ⟨C, fs, d, rfl, c, n, hl, k⟩ | ⟨a, C, fs, d, rfl, hm, c, n, hl, k⟩
    · obtain ⟨a, dd, fvs, rfl, h1, h2, h3, h4⟩ := r1.exc_of
      obtain ⟨w, hw, rw'⟩ := lookup_map h3 h4 hl
      exact .inr ⟨a, dd, C, fvs, w, rfl, rw1.ex _ _ h1, rw1.ex _ _ h2, T, hno, hw, q d w μ1 H01 H11 e1 rw1 rw' k⟩
    · cases r1 with
      | ins h1 h3 h4 =>
        obtain ⟨w, hw, rw'⟩ := lookup_map h3 h4 hl
        exact .inl ⟨_, C, _, _, w, rfl, rw1.ex _ _ h1, c, n, hw, q d w μ1 H01 H11 e1 rw1 rw' k⟩
    · have ev := r1.val_of
      subst ev
      obtain ⟨_, dx, fvs, h1, h3, h4⟩ := rw1.mu a _ hm
      obtain ⟨w, hw, rw'⟩ := lookup_map h3 h4 hl
      exact .inl ⟨a, C, dx, fvs, w, rfl, h1, c, n, hw, q d w μ1 H01 H11 e1 rw1 rw' k⟩
end
end DL
namespace DL
open PySem PySem.Spec PyProof.Rows L2
open Evl (Ex ex_rd ex_l ex_t fresh_back)

/-- the script as a thing: a list of ints, to be read -/
def scrP (K : PySem.W.Frag) (ns : List Int) : Hp → V → Prop := fun H v => ∃ a, v = .ref a ∧ SqL K H a (ns.map V.int)
abbrev D.scr (K : PySem.W.Frag) (ns : List Int) : D := .any (scrP K ns)
theorem scrP_mono {K : PySem.W.Frag} {ns : List Int} : ∀ H1 H2 u, Ex H1 H2 → scrP K ns H1 u → scrP K ns H2 u := fun _ _ _ e ⟨a, h1, h2⟩ => ⟨a, h1, ex_l e h2⟩
/-- the law's promise over data -/
def spLawD (K : PySem.W.Frag) : DSp := fun ds μ Q _ => ∃ ns : List Int, ds = [D.scr K ns] ∧ ns.length ≤ 63 ∧ ∀ μ', Q (.bl true) μ'
/-- at the law's entry: the modules' dict and the script (where it is no object of the module) -/
def entryH (m : Obj) (a : Addr) (o : Obj) (ns : List Int) (scr : Bool) : Hp := fun b => if b = sysModules then some (.frz m (.own 0)) else if scr = true ∧ b = a then some (.frz o (.lst (ns.map V.int))) else none
theorem law_goes {P : Program} {w : World} {K : PySem.W.Frag} {mg mb : Str → Option Value} {k : Nat} {fa a : Addr} {fd : FuncData} {x : Str} {s₁ : Shared} {vs : List Value} {ns : List Int}
    (KX : K.In s₁.heap) (hns : s₁.heap.Ns mainGlobals mg) (hb : s₁.heap.Ns builtinsNs mb) (hbb : ∀ x : Str, x ≠ "__name__" → mb x = bootBuiltins x) (hlim : s₁.heap.NoLimit) (hsm : ∃ mm, s₁.heap.Ns sysModules mm) (hK : K.lookup sysModules = none) (hg : s₁.gens = #[])
    (ha : s₁.heap.get? a = some { cls := .type "list", data := .seq vs.toArray }) (hi : IntsAre vs ns) (hl : ns.length ≤ 63) (hr : Room k callerA)
    (F : ∀ base : Heap, K.In base → base.Ns mainGlobals mg → FnG P w K mg base CX0 k fa fd [x] (spD (spLawD K))) (hbind : ∀ (s : Shared) (u : Value), BindsTo s fd ⟨[u], []⟩ [(x, u)]) :
    codeAny (model P w) callerA (.call (.ref fa) ⟨[.ref a], []⟩) (fun r s' => r = .ok (.ret (.bool true)) ∧ OldK s₁.heap s'.heap ∧ s'.os = s₁.os ∧ AllBare s'.gens) s₁ := by
  letI : Amb := ⟨fun _ => True, fun _ _ _ h => h⟩
  have rv := vals_ints hi
  have lenV := hi.length
  have l63 : ns.length ≤ sizeLine := Nat.le_trans hl (by decide)
  obtain ⟨mm, om, em, epm, hom, hdm, _⟩ := hsm
  have sa : a ≠ sysModules := by
    intro z
    rw [z, hom] at ha
    have z2 := Option.some.inj ha
    rw [z2] at hdm
    cases hdm
  -- whether the script is tracked: just where it is no object of the module
  have core : ∀ scr : Bool, (scr = true → K.lookup a = none) → SqL K (entryH om a { cls := .type "list", data := .seq vs.toArray } ns scr) a (ns.map V.int) →
      codeAny (model P w) callerA (.call (.ref fa) ⟨[.ref a], []⟩) (fun r s' => r = .ok (.ret (.bool true)) ∧ OldK s₁.heap s'.heap ∧ s'.os = s₁.os ∧ AllBare s'.gens) s₁ := by
    intro scr hscr hS
    generalize hH : entryH om a { cls := .type "list", data := .seq vs.toArray } ns scr = H at hS
    have at1 : H sysModules = some (.frz om (.own 0)) := by rw [← hH]; exact if_pos rfl
    have atA : scr = true → H a = some (.frz { cls := .type "list", data := .seq vs.toArray } (.lst (ns.map V.int))) := fun e => by rw [← hH]; exact (if_neg sa).trans (if_pos ⟨e, rfl⟩)
    have atO : ∀ b, b ≠ sysModules → (scr = true → b ≠ a) → H b = none := fun b h1 h2 => by
      rw [← hH]
      exact (if_neg h1).trans (if_neg fun z => h2 z.1 z.2)
    have ok : HOk P w H s₁.heap := by
      intro b u e
      by_cases h1 : b = sysModules
      · subst h1
        rw [at1] at e
        cases e
        exact ⟨hom, _, hom⟩
      · by_cases h2 : scr = true ∧ b = a
        · obtain ⟨h2, rfl⟩ := h2
          rw [atA h2] at e
          cases e
          exact ⟨ha, by rw [List.length_map]; exact l63, vs, _, rv, ha⟩
        · rw [atO b h1 (fun z q => h2 ⟨z, q⟩)] at e
          cases e
    have frzs : ∀ b u, H b = some u → ∃ o w', u = .frz o w' := fun b u e => by
      by_cases h1 : b = sysModules
      · subst h1; rw [at1] at e; cases e; exact ⟨_, _, rfl⟩
      · by_cases h2 : scr = true ∧ b = a
        · obtain ⟨h2, rfl⟩ := h2
          rw [atA h2] at e
          cases e
          exact ⟨_, _, rfl⟩
        · rw [atO b h1 (fun z q => h2 ⟨z, q⟩)] at e
          cases e
    have nsK : ∀ {b : Addr} {m : Str → Option Value}, b ≠ sysModules → s₁.heap.Ns b m → (hidT s₁.heap H).Ns b m := fun {b m} hb1 ⟨o, es, ep, e, d, r⟩ => ⟨o, es, ep, hidT_get e (atO b hb1 fun _ z => by
      rw [z, ha] at e
      cases e
      cases d), d, r⟩
    have hKb : K.In (hidT s₁.heap H) := fun b o e => hidT_get (KX b o e) (atO b (fun z => by rw [z, hK] at e; cases e) (fun z q => by rw [q, hscr z] at e; cases e))
    have hM : Mod K mg (hidT s₁.heap H) := ⟨hKb, nsK (by decide) hns, ⟨mb, nsK (by decide) hb, hbb⟩, let ⟨mc, h1, h2⟩ := hlim; ⟨mc, nsK (by decide) h1, h2⟩⟩
    have e0 : Env0 P w K mg (hidT s₁.heap H) callerA [] s₁ H := ⟨rfl, hM, fun b o e => of_hidT e, Nat.le_of_eq (hidT_size _ _), trivial, (fun b hb => by cases hb), ok, .of_eq hg⟩
    have sp : spD (spLawD K) [.ref a] H (fun v H' => v = .bl true ∧ True) fun _ _ _ => False :=
      ⟨[D.scr K ns], fun _ => none, H, fun d _ => d = .bl true, fun _ _ _ => False, ⟨ns, rfl, hl, fun _ => rfl⟩, .cons (.any ⟨a, rfl, hS⟩ scrP_mono) .nil, ⟨exr _, ⟨om, at1⟩, fun _ _ z => by cases z⟩, fun d v μ' H0' H' _ _ r e => by
        subst e
        exact ⟨r.bl_of, True.intro⟩, fun _ _ _ _ _ _ _ _ _ _ _ _ z => z⟩
    refine codeAny_mono ((F _ hKb (nsK (by decide) hns)).go callerA [] s₁ H ⟨[.ref a], []⟩ [.ref a] [.ref a] _ _ rfl hr e0 (hbind s₁ (.ref a)) (.cons rfl .nil) sp) ?_
    rintro r s' h
    cases r with
    | error e => exact False.elim h
    | ok fl =>
      cases fl with
      | next => exact False.elim h
      | brk => exact False.elim h
      | cont => exact False.elim h
      | ret u =>
        obtain ⟨v, H', os, bare, un, hok', r', rfl, _⟩ := h
        obtain rfl : u = Value.bool true := r'
        refine ⟨rfl, OldK.of_keep fun b o e => ?_, os, bare⟩
        cases q : H b with
        | none => exact un.keep b o e q (fun z => by cases z) (by simp)
        | some u =>
          obtain ⟨ob, w', rfl⟩ := frzs b u q
          obtain ⟨e1, _⟩ := ok b _ q
          obtain ⟨e2, _⟩ := hok' b _ (un.frzs b ob _ q)
          rw [e] at e1
          cases e1
          exact e2
  cases hk : K.lookup a with
  | some o =>
    have e := KX a o hk
    rw [ha] at e
    cases e
    exact core false (fun z => by cases z) (.inr ⟨_, vs.toArray, _, hk, rfl, rfl, rfl, by rw [List.size_toArray, lenV]; exact l63, by simpa using rv⟩)
  | none => exact core true (fun _ => hk) (.inl (.inr ⟨_, (if_neg sa).trans (if_pos ⟨rfl, rfl⟩)⟩))
/-- the goal that the head leaves, from the promise over data -/
theorem walkD {l : PySem.W.OpenLaw} {k : Nat} {q : Program} {loose : List Str} {XP : (Str → Option Value) → Heap → Prop} {YP : World → Heap → Prop} {d : DefRec} {K : Params → PySem.W.Frag} {x : Str}
    (hn : l.most = some 63) (hdf : d.params.defaults = []) (hr : Room k callerA) (hi : importsNone q = true) (hK : ∀ w : World, (K w.params).lookup sysModules = none)
    (hY : ∀ (w : World) (h : Heap), YP w h → (K w.params).In h)
    (F : ∀ (w : World) (mg : Str → Option Value) (fa : Addr) (h : Heap), (K w.params).In h → h.Ns mainGlobals mg → mg d.name = some (.ref fa) →
      ∃ fd : FuncData, (∀ (s : Shared) (u : Value), BindsTo s fd ⟨[u], []⟩ [(x, u)]) ∧
        ∀ base : Heap, (K w.params).In base → base.Ns mainGlobals mg → FnG l.prog w (K w.params) mg base CX0 k fa fd [x] (spD (spLawD (K w.params)))) :
    PySem.W.WalkO q loose XP YP l.row.toRowW d [] (fun f vs => PySem.call f vs) := by
  refine Att.attach_call hn hdf fun w s₀ s₁ mg mb fa o pm cd doc a vs ns G Y ho hd hcd hmg hobj hints hlen hg => ?_
  have KX := hY w _ Y
  obtain ⟨fd, hb, hF⟩ := F w mg fa _ KX G.T.g hmg
  obtain ⟨mm, hmm, _⟩ := (G.T.seer hi).mods
  exact law_goes KX G.T.g G.T.b G.T.builtins G.T.nolimit ⟨mm, hmm⟩ (hK w) hg hobj hints hlen hr hF hb
end DL
namespace DL
open PySem PySem.Spec PyProof.Rows L2
open Evl (Ex ex_rd ex_l ex_t fresh_back)
section
variable [AM : Amb]
def dYes : DT := fun _ μ K => K true μ
theorem l_yes : LiftT tYes dYes := fun ρ μ K h σ H0 H1 sl rw_ Q q => q true μ H0 H1 (exr _) rw_ h
def dChain (f g : DO2) (da db dc : DE) : DE := fun ρ μ K => da ρ μ fun x μ1 => db ρ μ1 fun y μ2 => f x y μ2 fun z μ3 => ∃ k, z = .bl k ∧ if k = true then dc ρ μ3 fun u μ4 => g y u μ4 K else K (.bl false) μ3
theorem l_chain {r r' : R2} {f g : DO2} {ta tb tc : TE} {da db dc : DE} (hr : Lift2 r f) (hg : Lift2 r' g) (ha : Lift ta da) (hb : Lift tb db) (hc : Lift tc dc) : Lift (tChain r r' ta tb tc) (dChain f g da db dc) := fun ρ μ K h σ H0 H1 sl rw_ Q q =>
  ha ρ μ _ h σ H0 H1 sl rw_ _ fun x u μ1 H01 H11 e1 rw1 r1 h1 => hb ρ μ1 _ h1 σ H01 H11 (sl.mono e1) rw1 _ fun y v μ2 H02 H12 e2 rw2 r2 h2 =>
    hr x y μ2 _ h2 u v H02 H12 (r1.mono e2) r2 rw2 _ fun z z' μ3 H03 H13 e3 rw3 r3 ⟨k, ez, h3⟩ => by
      subst ez
      refine ⟨k, r3.bl_of, ?_⟩
      cases k with
      | true => exact hc ρ μ3 _ h3 σ H03 H13 (sl.mono ((e1.trans e2).trans e3)) rw3 _ fun w' w μ4 H04 H14 e4 rw4 r4 h4 => hg y w' μ4 K h4 v w H04 H14 ((r2.mono e3).mono e4) r4 rw4 Q fun d v' μ' H0' H1' e5 => q d v' μ' H0' H1' ((((e1.trans e2).trans e3).trans e4).trans e5)
      | false => exact q _ _ μ3 H03 H13 ((e1.trans e2).trans e3) rw3 (.bl false) h3
def dBits (da : DE) : DE := fun ρ μ K => da ρ μ fun x μ1 => ∃ i, x = .int i ∧ K (.int (Builtin.Int.intBits i : Nat)) μ1
theorem l_bits {ta : TE} {da : DE} (ha : Lift ta da) : Lift (tBits ta) (dBits da) := fun ρ μ K h σ H0 H1 sl rw_ Q q =>
  ha ρ μ _ h σ H0 H1 sl rw_ _ fun x u μ1 H01 H11 e1 rw1 r1 ⟨i, ei, k⟩ => by
    subst ei
    exact ⟨i, r1.int_of, q _ _ μ1 H01 H11 e1 rw1 (.int _) k⟩
@[reducible] def amb0 : Amb := ⟨fun _ => True, fun _ _ _ h => h⟩
/-- one of two defs, out of a table, called within a try -/
def tTab2 (f1 f2 : Addr) (sp1 sp2 : Sp) (W : WX) (tf : TE) (t : TA) : TE := fun σ H Q => tf σ H fun x H1 => (x = .ref f1 ∧ t σ H1 fun vs H2 => sp1 vs H2 Q (WE W σ)) ∨ (x = .ref f2 ∧ t σ H1 fun vs H2 => sp2 vs H2 Q (WE W σ))
theorem pe_tab2 {X : Cx} {CX : CXT} {k1 k2 : Nat} {f1 f2 : Addr} {fd1 fd2 : FuncData} {ps1 ps2 : List Str} {sp1 sp2 : Sp} {W : WX} {fe e : Expr} {es : List Expr} {pos : Pos} {tf : TE} {t : TA} (F1 : FnOk X.prog X.w X.K X.mg X.base CX k1 f1 fd1 ps1 sp1) (F2 : FnOk X.prog X.w X.K X.mg X.base CX k2 f2 fd2 ps2 sp2)
    (hr1 : Room k1 X.A) (hr2 : Room k2 X.A) (hk1 : PySem.W.keepIn X.K (.ref f1) = true) (hk2 : PySem.W.keepIn X.K (.ref f2) = true) (b1 : Binds X.K fd1 ps1 []) (b2 : Binds X.K fd2 ps2 []) (hx : ∀ σ, PassesAt CX X σ (WE W σ)) (hf : PE X fe tf) (ha : PA X (e :: es) t)
    (hc : eval (.Call fe (e :: es) [] pos) X.env = (do callWith pos (← eval fe X.env) [] (backTo pos (starEach (e :: es) X.env)) (backToKw pos (keywordEach [] X.env))) := by rfl)
    (he : starEach (e :: es) X.env = (false, eval e X.env) :: starEach es X.env := by rfl) (hpl : (backTo pos (starEach es X.env)).any (·.1) = false := by rfl) : PE X (.Call fe (e :: es) [] pos) (tTab2 f1 f2 sp1 sp2 W tf t) := by
  constructor
  intro pins s σ H Q I h
  rw [hc]
  refine wpAny_bind (thn (hf.run pins s σ H _ I h) ?_)
  rintro u s1 ⟨x, H1, I1, r1, ⟨rfl, q⟩ | ⟨rfl, q⟩⟩
  · obtain rfl : u = Value.ref f1 := r1
    refine PySem.W.callWith_K (h₀ := X.base) I1.ok.mod.kin hk1 (thn (ha.run pos pins s1 σ H1 _ I1 q) ?_) he hpl
    rintro us s2 ⟨vs, H2, I2, r, q2⟩
    exact ⟨I2.kIn, run_fnS F1 hr1 b1 (hx σ) I2 r q2⟩
  · obtain rfl : u = Value.ref f2 := r1
    refine PySem.W.callWith_K (h₀ := X.base) I1.ok.mod.kin hk2 (thn (ha.run pos pins s1 σ H1 _ I1 q) ?_) he hpl
    rintro us s2 ⟨vs, H2, I2, r, q2⟩
    exact ⟨I2.kIn, run_fnS F2 hr2 b2 (hx σ) I2 r q2⟩
def dTab2 (f1 f2 : Addr) (sp1 sp2 : DSp) (Y : Ro → KX) (df : DE) (da : DA) : DE := fun ρ μ K => df ρ μ fun x μ1 => (x = .val (.ref f1) ∧ da ρ μ1 fun xs μ2 => sp1 xs μ2 K (Y ρ)) ∨ (x = .val (.ref f2) ∧ da ρ μ1 fun xs μ2 => sp2 xs μ2 K (Y ρ))
theorem l_tab2 {f1 f2 : Addr} {sp1 sp2 : DSp} {W : WX} {Y : Ro → KX} {tf : TE} {t : TA} {df : DE} {da : DA} (hx : XOkS W Y) (hf : Lift tf df) (h : LiftA t da) : Lift (tTab2 f1 f2 (spD sp1) (spD sp2) W tf t) (dTab2 f1 f2 sp1 sp2 Y df da) := fun ρ μ K hk σ H0 H1 sl rw_ Q q =>
  hf ρ μ _ hk σ H0 H1 sl rw_ _ fun x u μ1 H01 H11 e1 rw1 r1 h1 => by
    rcases h1 with ⟨rfl, h1⟩ | ⟨rfl, h1⟩
    · exact .inl ⟨r1.val_of, h ρ μ1 _ h1 σ H01 H11 (sl.mono e1) rw1 _ fun xs us μ2 H02 H12 e2 rw2 r2 k =>
        ⟨xs, μ2, H02, K, Y ρ, k, r2, rw2.toRw0, fun d v μ' H0' H' e r rd kk => q d v μ' H0' H' ((e1.trans e2).trans e) ⟨r, Amb.mono _ _ e rw2.am⟩ rd kk, fun C fs μ' dd fvs H0' H' e r h1 h2 h3 kk => hx ρ σ C fs μ' dd fvs H0' H' (sl.mono ((e1.trans e2).trans e)) ⟨r, Amb.mono _ _ e rw2.am⟩ h1 h2 h3 kk⟩⟩
    · exact .inr ⟨r1.val_of, h ρ μ1 _ h1 σ H01 H11 (sl.mono e1) rw1 _ fun xs us μ2 H02 H12 e2 rw2 r2 k =>
        ⟨xs, μ2, H02, K, Y ρ, k, r2, rw2.toRw0, fun d v μ' H0' H' e r rd kk => q d v μ' H0' H' ((e1.trans e2).trans e) ⟨r, Amb.mono _ _ e rw2.am⟩ rd kk, fun C fs μ' dd fvs H0' H' e r h1 h2 h3 kk => hx ρ σ C fs μ' dd fvs H0' H' (sl.mono ((e1.trans e2).trans e)) ⟨r, Amb.mono _ _ e rw2.am⟩ h1 h2 h3 kk⟩⟩
end
end DL
namespace DL
open PySem PySem.Spec PyProof.Rows L2
/-! ### data that is shown in few signs: depth at most k, signs at most n -/
inductive Nc : Nat → Nat → D → Prop
  | non {k n : Nat} : 5 ≤ n → Nc k n .non
  | bl {k n : Nat} {b : Bool} : 5 ≤ n → Nc k n (.bl b)
  | int {k n : Nat} {i : Int} : i.natAbs < 10 ^ 250 → 1100 ≤ n → Nc k n (.int i)
  | str {k n : Nat} {x : Str} : (reprText x).length ≤ n → Nc k n (.str x)
  | emp {k n : Nat} : 5 ≤ n → Nc (k + 1) n (.dct [])
  | lst {k n n' m : Nat} {ds : List D} : m ≤ 1000 → m * (n + 2) + 3 ≤ n' → ds.length ≤ m → (∀ d, d ∈ ds → Nc k n d) → Nc (k + 1) n' (.lst ds)
  | tup {k n n' m : Nat} {ds : List D} : m ≤ 1000 → m * (n + 2) + 3 ≤ n' → ds.length ≤ m → (∀ d, d ∈ ds → Nc k n d) → Nc (k + 1) n' (.tup ds)
theorem Nc.mono {k n k' n' : Nat} {d : D} (h : Nc k n d) (hk : k ≤ k') (hn : n ≤ n') : Nc k' n' d := by
  induction h generalizing k' n' with
  | non h => exact .non (by omega)
  | bl h => exact .bl (by omega)
  | int h h2 => exact .int h (by omega)
  | str h => exact .str (by omega)
  | emp h => 
    obtain ⟨j, rfl⟩ : ∃ j, k' = j + 1 := ⟨k' - 1, by omega⟩
    exact .emp (by omega)
  | lst hm h h2 h3 ih =>
    obtain ⟨j, rfl⟩ : ∃ j, k' = j + 1 := ⟨k' - 1, by omega⟩
    exact .lst hm (by omega) h2 fun d hd => ih d hd (by omega) (Nat.le_refl _)
  | tup hm h h2 h3 ih =>
    obtain ⟨j, rfl⟩ : ∃ j, k' = j + 1 := ⟨k' - 1, by omega⟩
    exact .tup hm (by omega) h2 fun d hd => ih d hd (by omega) (Nat.le_refl _)
theorem len_join (sep : Str) (n : Nat) (hs : sep.length = 2) : ∀ ts : List Str, (∀ t ∈ ts, t.length ≤ n) → (sep.join ts).length ≤ ts.length * (n + 2)
  | [], _ => by simp [Str.join]; rfl
  | [t], h => by
    have := h t List.mem_cons_self
    simp [Str.join]
    omega
  | t :: u :: r, h => by
    have h1 := h t List.mem_cons_self
    have h2 := len_join sep n hs (u :: r) fun x hx => h x (List.mem_cons_of_mem _ hx)
    have e : sep.join (t :: u :: r) = t ++ (sep ++ sep.join (u :: r)) := by rw [show sep.join (t :: u :: r) = t ++ sep ++ sep.join (u :: r) from rfl, Str.append_assoc]
    rw [e, Str.length_append, Str.length_append, hs]
    have : (t :: u :: r).length * (n + 2) = (u :: r).length * (n + 2) + (n + 2) := by
      rw [show (t :: u :: r).length = (u :: r).length + 1 from rfl, Nat.add_mul, Nat.one_mul]
    omega
theorem len_text (n : Nat) : ∀ (ts : List Str) (i : Nat) (st : Str), (∀ t ∈ ts, t.length ≤ n) → (textFrom i st ts).length ≤ st.length + ts.length * (n + 2)
  | [], i, st, _ => by simp [textFrom]
  | t :: r, i, st, h => by
    have h1 := h t List.mem_cons_self
    simp only [textFrom]
    refine Nat.le_trans (len_text n r _ _ fun x hx => h x (List.mem_cons_of_mem _ hx)) ?_
    have e : (t :: r).length * (n + 2) = r.length * (n + 2) + (n + 2) := by
      rw [show (t :: r).length = r.length + 1 from rfl, Nat.add_mul, Nat.one_mul]
    rw [e]
    have q1 : (Str.ofString ", ").length = 2 := rfl
    have q2 : (Str.ofString "").length = 0 := rfl
    split
    · simp only [Str.length_append]
      omega
    · simp only [Str.length_append]
      omega
theorem shownAll_len {n : Nat} : ∀ {ps : List PyData}, (∀ p ∈ ps, p.shown.length ≤ n) → ∀ t ∈ PyData.shownAll ps, t.length ≤ n
  | [], _, t, ht => by simp [PyData.shownAll] at ht
  | p :: ps, h, t, ht => by
    simp only [PyData.shownAll, List.mem_cons] at ht
    rcases ht with rfl | ht
    · exact h p List.mem_cons_self
    · exact shownAll_len (fun x hx => h x (List.mem_cons_of_mem _ hx)) t ht
theorem shownAll_length : ∀ {ps : List PyData}, (PyData.shownAll ps).length = ps.length
  | [] => by simp [PyData.shownAll]
  | p :: ps => by simp [PyData.shownAll, shownAll_length (ps := ps)]
theorem showableAll_of : ∀ {ps : List PyData}, (∀ p ∈ ps, p.showable = true) → PyData.showableAll ps = true
  | [], _ => by simp [PyData.showableAll]
  | p :: ps, h => by simp [PyData.showableAll, h p List.mem_cons_self, showableAll_of (ps := ps) fun x hx => h x (List.mem_cons_of_mem _ hx)]
theorem depthAll_of {k : Nat} : ∀ {ps : List PyData}, (∀ p ∈ ps, p.depth ≤ k) → PyData.depthAll ps ≤ k
  | [], _ => by simp [PyData.depthAll]
  | p :: ps, h => by
    have h1 := h p List.mem_cons_self
    have h2 := depthAll_of (ps := ps) fun x hx => h x (List.mem_cons_of_mem _ hx)
    simp only [PyData.depthAll]
    omega
theorem toPyAll_len : ∀ {ds : List D} {ps : List PyData}, toPyAll ds = some ps → ps.length = ds.length
  | [], ps, h => by simp [toPyAll] at h; subst h; rfl
  | d :: ds, ps, h => by
    simp only [toPyAll] at h
    cases e : toPy d with
    | none => rw [e] at h; cases h
    | some p =>
      cases e2 : toPyAll ds with
      | none => rw [e, e2] at h; cases h
      | some qs =>
        rw [e, e2] at h
        cases h
        simp [toPyAll_len e2]
theorem all_py {P : PyData → Prop} : ∀ {ds : List D}, (∀ d ∈ ds, ∃ p, toPy d = some p ∧ P p) → ∃ ps, toPyAll ds = some ps ∧ ∀ p ∈ ps, P p
  | [], _ => ⟨[], rfl, fun _ h => (nomatch h)⟩
  | d :: ds, h => by
    obtain ⟨p, h1, h2⟩ := h d List.mem_cons_self
    obtain ⟨ps, h3, h4⟩ := all_py (ds := ds) fun x hx => h x (List.mem_cons_of_mem _ hx)
    refine ⟨p :: ps, by unfold toPyAll; rw [h1, h3]; rfl, fun q hq => ?_⟩
    rcases List.mem_cons.1 hq with rfl | hq
    · exact h2
    · exact h4 q hq
theorem cps_len : ∀ (l : List UInt8) (a b : Nat), (cpsOfBytes a b l).length ≤ l.length
  | [], a, b => by simp [cpsOfBytes]
  | x :: l, a, b => by
    unfold cpsOfBytes
    have h := fun a b => cps_len l a b
    split
    · simp
    · rename_i e
      injection e with e1 e2
      subst e1
      subst e2
      have h0 := h 0 0
      split
      · simp; omega
      · split
        · have := h 1 (x.toNat - 192); simp only [List.length_cons]; omega
        · split
          · have := h 2 (x.toNat - 224); simp only [List.length_cons]; omega
          · have := h 3 (x.toNat - 240); simp only [List.length_cons]; omega
    · rename_i e
      injection e with e1 e2
      subst e1
      subst e2
      have h0 := h 0 0
      simp; omega
    · rename_i e
      injection e with e1 e2
      subst e1
      subst e2
      refine Nat.le_trans (h _ _) ?_
      simp
theorem enc_len : ∀ cs : List Char, (List.utf8Encode cs).size ≤ 4 * cs.length
  | [] => by simp
  | c :: cs => by
    have h := enc_len cs
    rw [List.utf8Encode_cons, ByteArray.size_append]
    have h2 : [c].utf8Encode.size ≤ 4 := by
      rw [List.utf8Encode_singleton]
      simp [Char.utf8Size_le_four]
    simp only [List.length_cons]
    omega
theorem ofs_len (cs : List Char) : (Str.ofString (String.ofList cs)).length ≤ 4 * cs.length := by
  unfold Str.ofString Str.length
  have h := cps_len (String.ofList cs).toByteArray.data.toList 0 0
  have h2 := enc_len cs
  rw [← String.toByteArray_ofList] at h2
  have h3 : (String.ofList cs).toByteArray.data.toList.length = (String.ofList cs).toByteArray.size := Array.length_toList
  simp only [List.size_toArray]
  omega
theorem nat_repr_len {n k : Nat} (hk : 0 < k) (h : n < 10 ^ k) : (Nat.toDigits 10 n).length ≤ k := (Nat.length_toDigits_le_iff (by decide) hk).2 h
theorem repr_len {i : Int} (h : i.natAbs < 10 ^ 250) : (Str.ofString i.repr).length ≤ 1100 := by
  cases i with
  | ofNat m =>
    show (Str.ofString (String.ofList (Nat.toDigits 10 m))).length ≤ _
    have h1 := nat_repr_len (n := m) (k := 250) (by decide) h
    have := ofs_len (Nat.toDigits 10 m)
    omega
  | negSucc m =>
    have h1 := nat_repr_len (n := m.succ) (k := 250) (by decide) h
    have e : ("-" ++ m.succ.repr : String) = String.ofList ('-' :: Nat.toDigits 10 m.succ) := by
      rw [show m.succ.repr = String.ofList (Nat.toDigits 10 m.succ) from rfl]
      rw [show ("-" : String) = String.ofList ['-'] from rfl, ← String.ofList_append]
      rfl
    show (Str.ofString ("-" ++ m.succ.repr)).length ≤ _
    rw [e]
    have := ofs_len ('-' :: Nat.toDigits 10 m.succ)
    simp only [List.length_cons] at this
    omega
theorem log_small {i : Int} (h : i.natAbs < 10 ^ 250) : i.natAbs.log2 < 1920 := by
  by_cases z : i.natAbs = 0
  · rw [z]; decide
  · rw [Nat.log2_lt z]
    exact Nat.lt_of_lt_of_le h (by decide)
structure Shows (k n : Nat) (p : PyData) : Prop where
  sh : p.showable = true
  dp : p.depth ≤ k
  ln : p.shown.length ≤ n
theorem Nc.py {k n : Nat} {d : D} (h : Nc k n d) : ∃ p, toPy d = some p ∧ Shows k n p := by
  induction h with
  | non h => exact ⟨_, rfl, by simp [PyData.showable], by simp [PyData.depth], by simp only [PyData.shown]; exact Nat.le_trans (by decide) h⟩
  | @bl k n b h => exact ⟨_, rfl, by simp [PyData.showable], by simp [PyData.depth], by cases b <;> exact Nat.le_trans (by decide) h⟩
  | int h h2 => exact ⟨_, rfl, by simp [PyData.showable]; exact log_small h, by simp [PyData.depth], Nat.le_trans (repr_len h) h2⟩
  | str h => exact ⟨_, rfl, by simp [PyData.showable], by simp [PyData.depth], h⟩
  | emp h => exact ⟨_, rfl, by simp [PyData.showable, PyData.showableKv], by simp [PyData.depth, PyData.depthKv], Nat.le_trans (by decide) h⟩
  | @lst k n n' m ds hm h h2 h3 ih =>
    obtain ⟨ps, e, hp⟩ := all_py ih
    refine ⟨.list ps, by unfold toPy; rw [e]; rfl, ?_, ?_, ?_⟩
    · simp only [PyData.showable]; exact showableAll_of fun p q => (hp p q).sh
    · simp only [PyData.depth]
      have := depthAll_of fun p q => (hp p q).dp
      omega
    · simp only [PyData.shown, listText, Str.length_append]
      have := len_text n _ 0 (Str.ofString "[") (shownAll_len (ps := ps) fun p q => (hp p q).ln)
      rw [shownAll_length, toPyAll_len e] at this
      have e1 : (Str.ofString "[").length = 1 := rfl
      have e2 : (Str.ofString "]").length = 1 := rfl
      have := Nat.mul_le_mul_right (n + 2) h2
      omega
  | @tup k n n' m ds hm h h2 h3 ih =>
    obtain ⟨ps, e, hp⟩ := all_py ih
    refine ⟨.tuple ps, by unfold toPy; rw [e]; rfl, ?_, ?_, ?_⟩
    · simp only [PyData.showable]; exact showableAll_of fun p q => (hp p q).sh
    · simp only [PyData.depth]
      have := depthAll_of fun p q => (hp p q).dp
      omega
    · simp only [PyData.shown, tupleText, Str.length_append]
      have := len_join (Str.ofString ", ") n rfl _ (shownAll_len (ps := ps) fun p q => (hp p q).ln)
      rw [shownAll_length, toPyAll_len e] at this
      have e1 : (Str.ofString "(").length = 1 := rfl
      have e2 : (Str.ofString (if ((PyData.shownAll ps).length == 1) = true then ",)" else ")")).length ≤ 2 := by split <;> decide
      have := Nat.mul_le_mul_right (n + 2) h2
      omega
end DL
namespace DL
open PySem PySem.Spec PyProof.Rows L2
/-! ### plain data -/
def Pl (d : D) : Prop := ∃ k n, Nc k n d ∧ k ≤ 50 ∧ n ≤ 10000000
def PlAll (ds : List D) : Prop := ∀ d ∈ ds, Pl d
theorem Pl.py {d : D} (h : Pl d) : ∃ p, toPy d = some p ∧ p.showable = true ∧ p.depth ≤ 60 ∧ p.shown.length ≤ sizeLine := by
  obtain ⟨k, n, h, hk, hn⟩ := h
  obtain ⟨p, h1, h2⟩ := h.py
  refine ⟨p, h1, h2.sh, by have := h2.dp; omega, Nat.le_trans h2.ln ?_⟩
  rw [sizeLine_eq]
  omega
theorem Pl.some_py {d : D} (h : Pl d) : ∃ p, toPy d = some p := let ⟨p, h, _⟩ := h.py; ⟨p, h⟩
theorem part_le {m n n' l : Nat} (hm : m ≤ 1000) (h : m * (n + 2) + 3 ≤ n') (hl : l ≤ m) : l ≤ 1000 ∧ (0 < l → n ≤ n') := by
  constructor
  · omega
  · intro q
    have : 1 * (n + 2) ≤ m * (n + 2) := Nat.mul_le_mul_right _ (by omega)
    omega
theorem Pl.tup {xs : List D} (h : Pl (.tup xs)) : PlAll xs ∧ xs.length ≤ 100000 := by
  obtain ⟨k, n, h, hk, hn⟩ := h
  cases h with
  | tup h0 h1 h2 h3 =>
    obtain ⟨q1, q2⟩ := part_le h0 h1 h2
    exact ⟨fun d hd => ⟨_, _, h3 d hd, by omega, by have := q2 (List.length_pos_of_mem hd); omega⟩, by omega⟩
theorem Pl.lst {xs : List D} (h : Pl (.lst xs)) : PlAll xs ∧ xs.length ≤ 100000 := by
  obtain ⟨k, n, h, hk, hn⟩ := h
  cases h with
  | lst h0 h1 h2 h3 =>
    obtain ⟨q1, q2⟩ := part_le h0 h1 h2
    exact ⟨fun d hd => ⟨_, _, h3 d hd, by omega, by have := q2 (List.length_pos_of_mem hd); omega⟩, by omega⟩
/-! ### what it is an instance of -/
def isI : D → Bool
  | .int _ => true
  | .bl _ => true
  | _ => false
def isB : D → Bool
  | .bl _ => true
  | _ => false
def isT : D → Bool
  | .tup _ => true
  | _ => false
def isL : D → Bool
  | .lst _ => true
  | _ => false
section
variable {K' : PySem.W.Frag} {μ : Mu} {d : D} {Q : KD}
theorem isP_int (h : Pl d) (k : Q (.bl (isI d)) μ) : fIsP K' [d, .val (.ty "int")] μ Q := by
  obtain ⟨p, hp⟩ := h.some_py
  refine .inl ?_
  cases d with
  | ins C fs => cases hp
  | val v => cases hp
  | any P => cases hp
  | _ => exact ⟨_, _, _, _, _, rfl, rfl, rfl, rfl, k⟩
theorem isP_bool (h : Pl d) (k : Q (.bl (isB d)) μ) : fIsP K' [d, .val (.ty "bool")] μ Q := by
  obtain ⟨p, hp⟩ := h.some_py
  refine .inl ?_
  cases d with
  | ins C fs => cases hp
  | val v => cases hp
  | any P => cases hp
  | _ => exact ⟨_, _, _, _, _, rfl, rfl, rfl, rfl, k⟩
theorem isP_tuple (h : Pl d) (k : Q (.bl (isT d)) μ) : fIsP K' [d, .val (.ty "tuple")] μ Q := by
  obtain ⟨p, hp⟩ := h.some_py
  refine .inl ?_
  cases d with
  | ins C fs => cases hp
  | val v => cases hp
  | any P => cases hp
  | _ => exact ⟨_, _, _, _, _, rfl, rfl, rfl, rfl, k⟩
theorem isP_list (h : Pl d) (k : Q (.bl (isL d)) μ) : fIsP K' [d, .val (.ty "list")] μ Q := by
  obtain ⟨p, hp⟩ := h.some_py
  refine .inl ?_
  cases d with
  | ins C fs => cases hp
  | val v => cases hp
  | any P => cases hp
  | _ => exact ⟨_, _, _, _, _, rfl, rfl, rfl, rfl, k⟩
end
/-! ### mirrors -/
def isWhole : D → Bool
  | .int _ => true
  | _ => false
theorem whole_eq (d : D) : isWhole d = (isI d && !isB d) := by cases d <;> rfl
def isAxes : D → Bool
  | .int i => decide (1 ≤ i) && decide (i ≤ 3)
  | _ => false
def isVec (n : Int) : D → Bool
  | .tup xs => decide ((xs.length : Int) = n) && xs.all isWhole
  | _ => false
def isLoop (n : Int) : D → Bool
  | .tup [.int c, s] => decide (0 ≤ c) && isVec n s
  | _ => false
def isNest (n : Int) : D → Bool
  | .tup [.lst ls, p, a] => ls.all (isLoop n) && isVec n p && isWhole a
  | _ => false
/-! ### comprehensions whose parts change nothing -/
variable [AM : Amb] in
theorem comp_go {keep : Mu → Prop} {i : Nat} {dt : DT} {de : DE} {ρ : Ro} {a : Addr} {K : KD} {μ1 : Mu} (h0 : μ1 a = none) (hk : ∀ ds, keep (mup μ1 a (.lst ds))) (p : D → Bool) (f : D → D) :
    ∀ {xs acc : List D}, (∀ x ∈ xs, ∀ μ' (L : Bool → Mu → Prop), L (p x) μ' → dt (ρ.set i (some x)) μ' L) → (∀ x ∈ xs, p x = true → ∀ μ' (L : KD), L (f x) μ' → de (ρ.set i (some x)) μ' L) → acc.length + xs.length ≤ 100000 →
      K (.lst (acc ++ (xs.filter p).map f)) μ1 → dCompL keep (dName i) dt de ρ a K xs acc (mup μ1 a (.lst acc))
  | [], acc, _, _, _, k => ⟨hk _, mup_same, by rw [mdel_mup h0]; simpa using k⟩
  | x :: xs, acc, ht, he, hl, k => by
    simp only [List.length_cons] at hl
    refine ⟨hk _, ht x List.mem_cons_self _ _ ?_⟩
    have ht' : ∀ x ∈ xs, ∀ μ' (L : Bool → Mu → Prop), L (p x) μ' → dt (ρ.set i (some x)) μ' L := fun x hx => ht x (List.mem_cons_of_mem _ hx)
    have he' : ∀ x ∈ xs, p x = true → ∀ μ' (L : KD), L (f x) μ' → de (ρ.set i (some x)) μ' L := fun x hx => he x (List.mem_cons_of_mem _ hx)
    cases hp : p x with
    | true =>
      rw [if_pos rfl]
      refine he x List.mem_cons_self hp _ _ ⟨mup_same, by omega, ?_⟩
      rw [mup_mup]
      refine comp_go h0 hk p f ht' he' (by simp; omega) ?_
      rw [List.filter_cons_of_pos hp] at k
      simpa using k
    | false =>
      rw [if_neg (by simp)]
      refine comp_go h0 hk p f ht' he' (by omega) ?_
      rw [List.filter_cons_of_neg (by simp [hp])] at k
      exact k
variable [AM : Amb] in
theorem comp_map {keep : Mu → Prop} {i : Nat} {de : DE} {ρ : Ro} {a : Addr} {K : KD} {μ1 : Mu} (h0 : μ1 a = none) (hk : ∀ ds, keep (mup μ1 a (.lst ds))) (f : D → D) {xs : List D}
    (he : ∀ x ∈ xs, ∀ μ' (L : KD), L (f x) μ' → de (ρ.set i (some x)) μ' L) (hl : xs.length ≤ 100000) (k : K (.lst (xs.map f)) μ1) : dCompL keep (dName i) dYes de ρ a K xs [] (mup μ1 a (.lst [])) :=
  comp_go h0 hk (fun _ => true) f (fun _ _ _ _ q => q) (fun x hx _ => he x hx) (by simpa using hl) (by rw [List.nil_append, List.filter_eq_self.2 fun _ _ => rfl]; exact k)
variable [AM : Amb] in
theorem comp_filter {keep : Mu → Prop} {i : Nat} {dt : DT} {de : DE} {ρ : Ro} {a : Addr} {K : KD} {μ1 : Mu} (h0 : μ1 a = none) (hk : ∀ ds, keep (mup μ1 a (.lst ds))) (p : D → Bool) {xs : List D}
    (ht : ∀ x ∈ xs, ∀ μ' (L : Bool → Mu → Prop), L (p x) μ' → dt (ρ.set i (some x)) μ' L) (he : ∀ x ∈ xs, p x = true → ∀ μ' (L : KD), L x μ' → de (ρ.set i (some x)) μ' L) (hl : xs.length ≤ 100000) (k : K (.lst (xs.filter p)) μ1) : dCompL keep (dName i) dt de ρ a K xs [] (mup μ1 a (.lst [])) :=
  comp_go h0 hk p id ht (fun x hx h => he x hx h) (by simpa using hl) (by simpa using k)
theorem eq_emp {μ : Mu} {xs : List D} : ∃ b, EqB μ (.lst xs) (.lst []) b ∧ b = xs.isEmpty := by
  cases xs with
  | nil => exact ⟨_, .py (.py rfl) (.py rfl) rfl rfl, rfl⟩
  | cons x xs => exact ⟨_, .len (x := .lst (x :: xs)) (y := .lst []) rfl rfl (by simp), rfl⟩
theorem filter_emp {p q : D → Bool} (h : ∀ x, q x = !p x) : ∀ xs : List D, (xs.filter q).isEmpty = xs.all p
  | [] => rfl
  | x :: xs => by
    cases e : p x with
    | true =>
      rw [List.filter_cons_of_neg (by rw [h, e]; decide), filter_emp h xs]
      simp [e]
    | false =>
      rw [List.filter_cons_of_pos (by rw [h, e]; decide)]
      simp [e]
theorem bl_of {K : KD} {μ : Mu} {b c : Bool} (k : K (.bl b) μ) (e : b = c) : K (.bl c) μ := e ▸ k
end DL
namespace DL
open PySem PySem.Spec PyProof.Rows L2
theorem and_if {b : Bool} {A B : Prop} (h1 : b = true → A) (h2 : b = false → B) : if b = true then A else B := by
  cases b
  · exact h2 rfl
  · exact h1 rfl
theorem if_yes {A B : Prop} (h : A) : if true = true then A else B := by rw [if_pos rfl]; exact h
theorem loop_by {keep : Mu → Prop} {g : DG} {db : DS} {E : DEnds} (I : List D → Ro → Mu → Prop) (hk : ∀ r ρ μ, I r ρ μ → keep μ)
    (hs : ∀ x r ρ μ (N : Ro → Mu → Prop), I (x :: r) ρ μ → (∀ ρ' μ', I r ρ' μ' → N ρ' μ') → g x ρ μ fun ρ1 μ1 => db { E with nx := N, ct := N, bk := E.nx } ρ1 μ1) (he : ∀ ρ μ, I [] ρ μ → E.nx ρ μ) :
    ∀ xs ρ μ, I xs ρ μ → dLoop keep g db E xs ρ μ
  | [], ρ, μ, h => ⟨hk _ _ _ h, he _ _ h⟩
  | x :: xs, ρ, μ, h => ⟨hk _ _ _ h, hs x xs ρ μ _ h fun ρ' μ' => loop_by I hk hs he xs ρ' μ'⟩
/-! ### the things that change -/
theorem mup_comm {μ : Mu} {a b : Addr} {m n : MO} (h : a ≠ b) : mup (mup μ a m) b n = mup (mup μ b n) a m := by
  funext x
  unfold mup
  by_cases h1 : x = a
  · subst h1
    simp [h]
  · by_cases h2 : x = b
    · subst h2; simp [h1]
    · simp [h1, h2]
variable [AM : Amb] in
theorem comp_inv' {keep : Mu → Prop} {i : Nat} {dt : DT} (hd : ∀ ρ μ (L : Bool → Mu → Prop), L true μ → dt ρ μ L) {de : DE} {ρ : Ro} {c : Addr} {K : KD} (J : List D → Mu → Prop) (hn : ∀ acc μ, J acc μ → μ c = none) (hk : ∀ acc μ, J acc μ → keep (mup μ c (.lst acc))) :
    ∀ {xs acc : List D} {μ : Mu}, (∀ x ∈ xs, ∀ acc μ' (L : KD), acc.length ≤ 100000 → J acc μ' → (∀ y μ'', J (acc ++ [y]) μ'' → L y (mup μ'' c (.lst acc))) → de (ρ.set i (some x)) (mup μ' c (.lst acc)) L) →
      acc.length + xs.length ≤ 100000 → J acc μ → (∀ r μ', J r μ' → r.length = acc.length + xs.length → K (.lst r) μ') → dCompL keep (dName i) dt de ρ c K xs acc (mup μ c (.lst acc))
  | [], acc, μ, _, _, hj, k => ⟨hk _ _ hj, mup_same, by rw [mdel_mup (hn _ _ hj)]; exact k acc μ hj rfl⟩
  | x :: xs, acc, μ, hs, hl, hj, k => by
    simp only [List.length_cons] at hl
    refine ⟨hk _ _ hj, hd _ _ _ ?_⟩
    rw [if_pos rfl]
    refine hs x List.mem_cons_self acc μ _ (by omega) hj fun y μ'' hy => ⟨mup_same, by omega, ?_⟩
    rw [mup_mup]
    exact comp_inv' hd J hn hk (fun x hx => hs x (List.mem_cons_of_mem _ hx)) (by simp; omega) hy fun r μ' hr hl' => k r μ' hr (by rw [hl']; simp; omega)
variable [AM : Amb] in
theorem comp_inv {keep : Mu → Prop} {i : Nat} {de : DE} {ρ : Ro} {c : Addr} {K : KD} (J : List D → Mu → Prop) (hn : ∀ acc μ, J acc μ → μ c = none) (hk : ∀ acc μ, J acc μ → keep (mup μ c (.lst acc)))
    {xs : List D} {μ : Mu} (hs : ∀ x ∈ xs, ∀ acc μ' (L : KD), acc.length ≤ 100000 → J acc μ' → (∀ y μ'', J (acc ++ [y]) μ'' → L y (mup μ'' c (.lst acc))) → de (ρ.set i (some x)) (mup μ' c (.lst acc)) L)
      (hl : xs.length ≤ 100000) (hj : J [] μ) (k : ∀ r μ', J r μ' → r.length = xs.length → K (.lst r) μ') : dCompL keep (dName i) dYes de ρ c K xs [] (mup μ c (.lst [])) :=
  comp_inv' (fun _ _ _ h => h) J hn hk hs (by simpa using hl) hj fun r μ' hr hl' => k r μ' hr (by simpa using hl')
/-! ### freezing: what is done with a list changes no more -/
def dFrz (i : Nat) (de : DE) : DE := fun ρ μ K => ∃ a xs, ρ[i]? = some (some (.val (.ref a))) ∧ μ a = some (.lst xs) ∧ de (ρ.set i (some (.lst xs))) (mdel μ a) K
theorem l_frz [AM : Amb] {i : Nat} {te : TE} {de : DE} (h : Lift te de) : Lift te (dFrz i de) := by
  rintro ρ μ K ⟨a, xs, hi, hm, hk⟩ σ H0 H1 sl rw_ Q q
  obtain ⟨H0', e, r, rd⟩ := rw_.freeze hm
  refine h _ _ K hk σ H0' H1 ?_ r Q fun d v μ' H0'' H1' e2 => q d v μ' H0'' H1' (e.trans e2)
  have s1 := sl.mono e
  refine ⟨by simp [s1.len], fun j d hj => ?_⟩
  by_cases hij : i = j
  · subst hij
    obtain ⟨v, hv, rv⟩ := s1.at_ i _ hi
    have hlt : i < ρ.length := by
      rcases Nat.lt_or_ge i ρ.length with q | q
      · exact q
      · rw [List.getElem?_eq_none q] at hi; cases hi
    rw [List.getElem?_set_self hlt] at hj
    cases hj
    have := rv.val_of
    subst this
    exact ⟨_, hv, rd⟩
  · rw [List.getElem?_set_ne hij] at hj
    exact s1.at_ j d hj
/-! ### the script's slices -/
def fSlS (K' : PySem.W.Frag) (x : D) (lo hi : Option Int) (μ : Mu) (K : KD) : Prop := ∃ ns, x = D.scr K' ns ∧ K (.lst (cutD (ns.map D.int) lo hi)) μ
theorem all_map_int {H : Hp} : ∀ ns : List Int, DtAll H (ns.map V.int) (ns.map D.int)
  | [] => .nil
  | n :: ns => .cons (.int n) (all_map_int ns)
theorem l_slS [AM : Amb] {K' : PySem.W.Frag} {te : TE} {de : DE} {tl th : TO} {dl dh : DO} (he : Lift te de) (hl : LiftO tl dl) (hh : LiftO th dh) : Lift (tSl (rSlD K') te tl th) (dSl (fSlS K') de dl dh) := fun ρ μ K h σ H0 H1 sl rw_ Q q =>
  he ρ μ _ h σ H0 H1 sl rw_ _ fun x u μ1 H01 H11 e1 rw1 r1 h1 => hl ρ μ1 _ h1 σ H01 H11 (sl.mono e1) rw1 _ fun lo μ2 H02 H12 e2 rw2 h2 =>
    hh ρ μ2 _ h2 σ H02 H12 (sl.mono (e1.trans e2)) rw2 _ fun hi μ3 H03 H13 e3 rw3 h3 => by
      have r3 := (r1.mono e2).mono e3
      obtain ⟨ns, rfl, k⟩ := h3
      cases r3 with
      | any p _ =>
        obtain ⟨a, rfl, ha⟩ := p
        refine .inl ⟨a, ns.map V.int, rfl, Evl.ex_l rw3.ex ha, fun p hp => ?_⟩
        obtain ⟨e4, rw4⟩ := rw3.new (o := .lst (cutV (ns.map V.int) lo hi)) hp
        exact q _ _ μ3 _ _ (((e1.trans e2).trans e3).trans e4) rw4 (.lst upd_same (cut_all (all_map_int ns) lo hi)) k
/-! ### {} -/
def dEmp : DE := fun _ μ K => K (.dct []) μ
theorem l_emp [AM : Amb] : Lift tDNewK dEmp := fun ρ μ K h σ H0 H1 sl rw_ Q q => fun p hp => by
  obtain ⟨e, r⟩ := rw_.new (o := .dK []) hp
  exact q _ _ μ _ _ e r (.dct upd_same rfl .nil) h
theorem atI_mem {xs : List D} {k : Int} (h0 : 0 ≤ k) (h1 : k < xs.length) : ∃ d, d ∈ xs ∧ atI xs k = some d := by
  have hk : k.toNat < xs.length := by omega
  refine ⟨xs[k.toNat], List.getElem_mem hk, ?_⟩
  unfold atI ixN
  rw [if_pos h0, if_pos h1]
  simp [hk]
/-! ### forgetting -/
def SubM (μ μ' : Mu) : Prop := ∀ b m, μ b = some m → μ' b = some m
theorem Rw.sub [AM : Amb] {μ ν : Mu} {H0 H1 : Hp} (r : Rw μ H0 H1) (h : SubM ν μ) : Rw ν H0 H1 := ⟨⟨r.ex, r.sys, fun a m hm => r.mu a m (h a m hm)⟩, r.am⟩
def dForget (de : DE) : DE := fun ρ μ K => de ρ μ fun d μ1 => ∃ ν, SubM ν μ1 ∧ K d ν
theorem l_forget [AM : Amb] {te : TE} {de : DE} (h : Lift te de) : Lift te (dForget de) := fun ρ μ K hk σ H0 H1 sl rw_ Q q =>
  h ρ μ _ hk σ H0 H1 sl rw_ Q fun d v μ1 H0' H1' e r rd ⟨ν, hs, k⟩ => q d v ν H0' H1' e (r.sub hs) rd k
/-! ### levels of data: at most four items each -/
def nn : Nat → Nat
  | 0 => 1100
  | j + 1 => 4 * (nn j + 2) + 3
theorem nn_ge : ∀ j, 1100 ≤ nn j
  | 0 => Nat.le_refl _
  | j + 1 => by have := nn_ge j; show 1100 ≤ 4 * (nn j + 2) + 3; omega
theorem nn_mono {j k : Nat} (h : j ≤ k) : nn j ≤ nn k := by
  induction h with
  | refl => exact Nat.le_refl _
  | step _ ih => refine Nat.le_trans ih ?_; show _ ≤ 4 * (nn _ + 2) + 3; omega
def Lv (j : Nat) (d : D) : Prop := Nc j (nn j) d
def LvAll (j : Nat) (ds : List D) : Prop := ∀ d ∈ ds, Lv j d
theorem Lv.mono {j k : Nat} {d : D} (h : Lv j d) (hk : j ≤ k) : Lv k d := Nc.mono h hk (nn_mono hk)
theorem LvAll.mono {j k : Nat} {ds : List D} (h : LvAll j ds) (hk : j ≤ k) : LvAll k ds := fun d hd => (h d hd).mono hk
theorem LvAll.nil {j : Nat} : LvAll j [] := fun _ h => (nomatch h)
theorem LvAll.cons {j : Nat} {d : D} {ds : List D} (h : Lv j d) (t : LvAll j ds) : LvAll j (d :: ds) := fun x hx => by
  rcases List.mem_cons.1 hx with rfl | hx
  · exact h
  · exact t x hx
theorem LvAll.append {j : Nat} {ds es : List D} (h : LvAll j ds) (t : LvAll j es) : LvAll j (ds ++ es) := fun x hx => (List.mem_append.1 hx).elim (h x) (t x)
theorem Lv.tup {j : Nat} {ds : List D} (hl : ds.length ≤ 4) (h : LvAll j ds) : Lv (j + 1) (.tup ds) := Nc.tup (by decide) (Nat.le_refl _) hl h
theorem Lv.lst {j : Nat} {ds : List D} (hl : ds.length ≤ 4) (h : LvAll j ds) : Lv (j + 1) (.lst ds) := Nc.lst (by decide) (Nat.le_refl _) hl h
theorem Lv.int {j : Nat} {i : Int} (h : -(10 ^ 250) < i) (h2 : i < 10 ^ 250) : Lv j (.int i) := Nc.int (by omega) (nn_ge j)
theorem Lv.non {j : Nat} : Lv j .non := Nc.non (Nat.le_trans (by decide) (nn_ge j))
theorem Lv.bl {j : Nat} {b : Bool} : Lv j (.bl b) := Nc.bl (Nat.le_trans (by decide) (nn_ge j))
theorem Lv.str {j : Nat} {x : Str} (h : (reprText x).length ≤ 1100) : Lv j (.str x) := Nc.str (Nat.le_trans h (nn_ge j))
theorem Lv.emp {j : Nat} : Lv (j + 1) (.dct []) := Nc.emp (Nat.le_trans (by decide) (nn_ge _))
theorem Lv.pl {j : Nat} {d : D} (h : Lv j d) (hj : j ≤ 6) : Pl d := ⟨6, nn 6, h.mono hj, by decide, by decide⟩
theorem cut_mem {xs : List D} {lo hi : Option Int} {d : D} (h : d ∈ cutD xs lo hi) : d ∈ xs := List.mem_of_mem_drop (List.mem_of_mem_take h)
theorem cut_len {xs : List D} {lo hi : Option Int} : (cutD xs lo hi).length ≤ xs.length := by unfold cutD; rw [List.length_take, List.length_drop]; omega
theorem LvAll.cut {j : Nat} {ds : List D} (h : LvAll j ds) {lo hi : Option Int} : LvAll j (cutD ds lo hi) := fun x hx => h x (cut_mem hx)
theorem cut_two {xs : List D} {k : Int} : (cutD xs none (some k)).length + (cutD xs (some k) none).length ≤ xs.length := by
  unfold cutD
  simp only [List.length_take, List.length_drop]
  have e : HT.sIx xs.length xs.length (some k) = HT.sIx xs.length 0 (some k) := rfl
  have e0 : HT.sIx xs.length 0 none = 0 := rfl
  rw [e, e0]
  omega
theorem leB {n m : Nat} (h : Nat.ble n m = true := by rfl) : n ≤ m := Nat.le_of_ble_eq_true h
theorem asL_m {μ : Mu} {a : Addr} {xs : List D} (h : μ a = some (.lst xs)) : asL μ (.val (.ref a)) = some xs := by
  show (match μ a with | some (.lst xs) => some xs | _ => none) = _
  rw [h]
theorem SubM.nil {μ μ' : Mu} (h : SubM μ μ') {p : Addr} (hp : μ' p = none) : μ p = none := by
  cases e : μ p with
  | none => rfl
  | some m => rw [h p m e] at hp; cases hp
theorem SubM.up {μ μ' : Mu} (h : SubM μ μ') {p : Addr} {m : MO} (hp : μ p = none) : SubM μ (mup μ' p m) := fun b n hb => by
  rw [mup_ne (fun z => by rw [z, hp] at hb; cases hb)]
  exact h b n hb
theorem SubM.refl {μ : Mu} : SubM μ μ := fun _ _ h => h
/-! ### numbers -/
theorem mulS {i j : Int} (h1 : -(2 ^ 250) < i) (h2 : i < 2 ^ 250) (h3 : -(2 ^ 250) < j) (h4 : j < 2 ^ 250) : CMulD i j := ⟨250, 250, by unfold Bt; omega, by unfold Bt; omega, by decide⟩
/-- a purse: its three numbers -/
def Pu (b : Int) (μ : Mu) (a : Addr) : Prop := ∃ p0 p1 p2 : Int, μ a = some (.lst [.int p0, .int p1, .int p2]) ∧ 0 ≤ p1 ∧ p1 < 2147483647 ∧ 0 ≤ p2 ∧ p2 ≤ b
theorem Pu.mono {b c : Int} {μ : Mu} {a : Addr} (h : Pu b μ a) (hb : b ≤ c) : Pu c μ a := let ⟨p0, p1, p2, h1, h2, h3, h4, h5⟩ := h; ⟨p0, p1, p2, h1, h2, h3, h4, by omega⟩
theorem Pu.up {b : Int} {μ : Mu} {a c : Addr} {m : MO} (h : Pu b μ a) (hc : a ≠ c) : Pu b (mup μ c m) a := let ⟨p0, p1, p2, h1, h2⟩ := h; ⟨p0, p1, p2, by rw [mup_ne hc]; exact h1, h2⟩
/-- a draw: below m, at least 0; only the purse has changed -/
def spDraw : DSp := fun ds μ Q _ => ∃ a m b, ds = [.val (.ref a), .int m] ∧ 1 ≤ m ∧ m < 2 ^ 200 ∧ b ≤ 10 ^ 8 ∧ Pu b μ a ∧ ∀ n l, 0 ≤ n → n < m → Pu (b + 10) (mup μ a (.lst l)) a → Q (.int n) (mup μ a (.lst l))
def spMixed : DSp := fun ds μ Q _ => ∃ c k : Int, ds = [.int c, .int k] ∧ 0 ≤ c ∧ c < 2147483647 ∧ 0 ≤ k ∧ k < 2 ^ 60 ∧ ∀ n : Int, 0 ≤ n → n < 2147483587 → Q (.int n) μ
def spPurse (K : PySem.W.Frag) : DSp := fun ds μ Q _ => ∃ (ns : List Int) (t : Int), ds = [D.scr K ns, .int t] ∧ 0 ≤ t ∧ t ≤ 63 ∧ ∀ a l, μ a = none → Pu 100000 (mup μ a (.lst l)) a → Q (.val (.ref a)) (mup μ a (.lst l))
/-- a cell drawn -/
def CellOk (n : Nat) (w : Int) (d : D) : Prop := ∃ is : List Int, d = .tup (is.map D.int) ∧ is.length = n ∧ ∀ i ∈ is, -w ≤ i ∧ i ≤ w
def spCell : DSp := fun ds μ Q _ => ∃ (a : Addr) (n : Nat) (w b : Int), ds = [.val (.ref a), .int n, .int w] ∧ n ≤ 3 ∧ 0 ≤ w ∧ w < 2 ^ 190 ∧ b ≤ 10 ^ 7 ∧ Pu b μ a ∧ ∀ d l, CellOk n w d → Pu (b + 30) (mup μ a (.lst l)) a → Q d (mup μ a (.lst l))
def LoopOk (n : Nat) (c w : Int) (d : D) : Prop := ∃ i s, d = .tup [.int i, s] ∧ 0 ≤ i ∧ i < c ∧ CellOk n w s
def NestOk (n : Nat) (c w : Int) (d : D) : Prop := ∃ ls p i, d = .tup [.lst ls, p, .int i] ∧ ls.length ≤ 3 ∧ (∀ x ∈ ls, LoopOk n c w x) ∧ CellOk n (2 * w) p ∧ -3 ≤ i ∧ i ≤ 3
theorem CellOk.lv {n : Nat} {w : Int} {d : D} (h : CellOk n w d) (hn : n ≤ 3) (hw : w < 2 ^ 190) : ∃ xs, d = .tup xs ∧ xs.length ≤ 3 ∧ LvAll 0 xs := by
  obtain ⟨is, rfl, hl, hi⟩ := h
  refine ⟨_, rfl, by simp; omega, fun x hx => ?_⟩
  obtain ⟨i, h1, rfl⟩ := List.mem_map.1 hx
  have := hi i h1
  exact .int (by omega) (by omega)
def spBent : DSp := fun ds μ Q _ => ∃ (a : Addr) (n : Nat) (c w b : Int) (e : D), ds = [.val (.ref a), e] ∧ n ≤ 3 ∧ c < 2 ^ 190 ∧ w < 2 ^ 180 ∧ b ≤ 10 ^ 7 ∧ NestOk n c w e ∧ Pu b μ a ∧
  ∀ d l, Lv 6 d → Pu (b + 30) (mup μ a (.lst l)) a → Q d (mup μ a (.lst l))
def spNest : DSp := fun ds μ Q _ => ∃ (a : Addr) (n : Nat) (c w b : Int), ds = [.val (.ref a), .int n, .int 3, .int c, .int w] ∧ n ≤ 3 ∧ 1 ≤ c ∧ c < 2 ^ 190 ∧ 0 ≤ w ∧ w < 2 ^ 180 ∧ b ≤ 10 ^ 6 ∧ Pu b μ a ∧
  ∀ d l, NestOk n c w d → Pu (b + 300) (mup μ a (.lst l)) a → Q d (mup μ a (.lst l))
/-! ### words whose reading names the written part -/
section
variable {X : Cx} {K : PySem.W.Frag} (h : X.K = K)
include h
theorem k_add : OpR X (binaryOp .Add) (rAddD K) := haveI : Amb := amb0; h ▸ op_addD
theorem k_mul : OpR X (binaryOp .Mult) (rMulD K) := haveI : Amb := amb0; h ▸ op_mulD
theorem k_ix : IxR X (rIx K) := h ▸ ix_seq
theorem k_sl : SlR X (rSlD K) := haveI : Amb := amb0; h ▸ sl_D
theorem k_len : CallR X (.builtin "len") (rLenD K) := haveI : Amb := amb0; h ▸ call_lenDD
theorem k_isP : CallR X (.builtin "isinstance") (rIsP K) := h ▸ call_isP
end
end DL
namespace K2
open PySem PySem.Spec PyProof.Rows L2 DL
def top (i : Nat) : Stmt := PySem.Challenge.pw_addnests_k02_cells_and_nests_told.main.body.getD i (.Pass ⟨0, 0, 0, 0⟩)
abbrev s_is_whole : Stmt := top 4
abbrev P_is_whole : List Str := ["value"]
abbrev N_is_whole : List Str := ["value"]
theorem sc_is_whole : FnScope N_is_whole P_is_whole (defScope s_is_whole) := ⟨rfl, rfl, rfl, by decide +kernel, rfl, by decide +kernel, by decide +kernel⟩
abbrev s_is_axes : Stmt := top 7
abbrev P_is_axes : List Str := ["value"]
abbrev N_is_axes : List Str := ["value"]
theorem sc_is_axes : FnScope N_is_axes P_is_axes (defScope s_is_axes) := ⟨rfl, rfl, rfl, by decide +kernel, rfl, by decide +kernel, by decide +kernel⟩
abbrev s_is_vector : Stmt := top 8
abbrev P_is_vector : List Str := ["value", "axes"]
abbrev N_is_vector : List Str := ["value", "axes", "number"]
theorem sc_is_vector : FnScope N_is_vector P_is_vector (defScope s_is_vector) := ⟨rfl, rfl, rfl, by decide +kernel, rfl, by decide +kernel, by decide +kernel⟩
abbrev s_is_loop : Stmt := top 9
abbrev P_is_loop : List Str := ["value", "axes"]
abbrev N_is_loop : List Str := ["value", "axes", "count", "step"]
theorem sc_is_loop : FnScope N_is_loop P_is_loop (defScope s_is_loop) := ⟨rfl, rfl, rfl, by decide +kernel, rfl, by decide +kernel, by decide +kernel⟩
abbrev s_is_cell : Stmt := top 10
abbrev P_is_cell : List Str := ["value", "axes"]
abbrev N_is_cell : List Str := ["value", "axes"]
theorem sc_is_cell : FnScope N_is_cell P_is_cell (defScope s_is_cell) := ⟨rfl, rfl, rfl, by decide +kernel, rfl, by decide +kernel, by decide +kernel⟩
abbrev s_is_nest : Stmt := top 11
abbrev P_is_nest : List Str := ["value", "axes"]
abbrev N_is_nest : List Str := ["value", "axes", "loops", "place", "amount", "loop"]
theorem sc_is_nest : FnScope N_is_nest P_is_nest (defScope s_is_nest) := ⟨rfl, rfl, rfl, by decide +kernel, rfl, by decide +kernel, by decide +kernel⟩
abbrev s__law_mixed : Stmt := top 13
abbrev P__law_mixed : List Str := ["_law_cell", "_law_k"]
abbrev N__law_mixed : List Str := ["_law_cell", "_law_k", "_law_number"]
theorem sc__law_mixed : FnScope N__law_mixed P__law_mixed (defScope s__law_mixed) := ⟨rfl, rfl, rfl, by decide +kernel, rfl, by decide +kernel, by decide +kernel⟩
abbrev s__law_purse : Stmt := top 14
abbrev P__law_purse : List Str := ["_law_script", "_law_at"]
abbrev N__law_purse : List Str := ["_law_script", "_law_at", "_law_cell"]
theorem sc__law_purse : FnScope N__law_purse P__law_purse (defScope s__law_purse) := ⟨rfl, rfl, rfl, by decide +kernel, rfl, by decide +kernel, by decide +kernel⟩
abbrev s__law_draw : Stmt := top 15
abbrev P__law_draw : List Str := ["_law_purse_here", "_law_out_of"]
abbrev N__law_draw : List Str := ["_law_purse_here", "_law_out_of", "_law_drawn", "_law_number", "_law_k"]
theorem sc__law_draw : FnScope N__law_draw P__law_draw (defScope s__law_draw) := ⟨rfl, rfl, rfl, by decide +kernel, rfl, by decide +kernel, by decide +kernel⟩
abbrev s__law_cell_drawn : Stmt := top 16
abbrev P__law_cell_drawn : List Str := ["_law_purse_here", "_law_axes", "_law_wide"]
abbrev N__law_cell_drawn : List Str := ["_law_purse_here", "_law_axes", "_law_wide", "_law_axis"]
theorem sc__law_cell_drawn : FnScope N__law_cell_drawn P__law_cell_drawn (defScope s__law_cell_drawn) := ⟨rfl, rfl, rfl, by decide +kernel, rfl, by decide +kernel, by decide +kernel⟩
abbrev s__law_nest_drawn : Stmt := top 17
abbrev P__law_nest_drawn : List Str := ["_law_purse_here", "_law_axes", "_law_most", "_law_counts_to", "_law_wide"]
abbrev N__law_nest_drawn : List Str := ["_law_purse_here", "_law_axes", "_law_most", "_law_counts_to", "_law_wide", "_law_loops", "_law_turn"]
theorem sc__law_nest_drawn : FnScope N__law_nest_drawn P__law_nest_drawn (defScope s__law_nest_drawn) := ⟨rfl, rfl, rfl, by decide +kernel, rfl, by decide +kernel, by decide +kernel⟩
abbrev s__law_whole : Stmt := top 18
abbrev P__law_whole : List Str := ["_law_thing"]
abbrev N__law_whole : List Str := ["_law_thing"]
theorem sc__law_whole : FnScope N__law_whole P__law_whole (defScope s__law_whole) := ⟨rfl, rfl, rfl, by decide +kernel, rfl, by decide +kernel, by decide +kernel⟩
abbrev s__law_is_cell : Stmt := top 19
abbrev P__law_is_cell : List Str := ["_law_thing", "_law_many"]
abbrev N__law_is_cell : List Str := ["_law_thing", "_law_many", "_law_number"]
theorem sc__law_is_cell : FnScope N__law_is_cell P__law_is_cell (defScope s__law_is_cell) := ⟨rfl, rfl, rfl, by decide +kernel, rfl, by decide +kernel, by decide +kernel⟩
abbrev s__law_is_loop : Stmt := top 20
abbrev P__law_is_loop : List Str := ["_law_thing", "_law_many"]
abbrev N__law_is_loop : List Str := ["_law_thing", "_law_many"]
theorem sc__law_is_loop : FnScope N__law_is_loop P__law_is_loop (defScope s__law_is_loop) := ⟨rfl, rfl, rfl, by decide +kernel, rfl, by decide +kernel, by decide +kernel⟩
abbrev s__law_is_nest : Stmt := top 21
abbrev P__law_is_nest : List Str := ["_law_thing", "_law_many"]
abbrev N__law_is_nest : List Str := ["_law_thing", "_law_many", "_law_loop"]
theorem sc__law_is_nest : FnScope N__law_is_nest P__law_is_nest (defScope s__law_is_nest) := ⟨rfl, rfl, rfl, by decide +kernel, rfl, by decide +kernel, by decide +kernel⟩
abbrev s__law_bent : Stmt := top 22
abbrev P__law_bent : List Str := ["_law_purse_here", "_law_nest"]
abbrev N__law_bent : List Str := ["_law_purse_here", "_law_nest", "_law_loops", "_law_place", "_law_amount", "_law_bad", "_law_at", "_law_some", "_law_count", "_law_step", "_law_rest"]
theorem sc__law_bent : FnScope N__law_bent P__law_bent (defScope s__law_bent) := ⟨rfl, rfl, rfl, by decide +kernel, rfl, by decide +kernel, by decide +kernel⟩
abbrev s__law_right : Stmt := top 23
abbrev P__law_right : List Str := ["_law_thing", "_law_many"]
abbrev N__law_right : List Str := ["_law_thing", "_law_many", "_law_kept", "_law_told"]
theorem sc__law_right : FnScope N__law_right P__law_right (defScope s__law_right) := ⟨rfl, rfl, rfl, by decide +kernel, rfl, by decide +kernel, by decide +kernel⟩
abbrev s__law_refused : Stmt := top 24
abbrev P__law_refused : List Str := ["_law_thing", "_law_odd"]
abbrev N__law_refused : List Str := ["_law_thing", "_law_odd", "_law_door", "_law_caught", "e"]
theorem sc__law_refused : FnScope N__law_refused P__law_refused (defScope s__law_refused) := ⟨rfl, rfl, rfl, by decide +kernel, rfl, by decide +kernel, by decide +kernel⟩
abbrev s_law : Stmt := top 25
abbrev P_law : List Str := ["_law_script"]
abbrev N_law : List Str := ["_law_script", "_law_cell", "_law_purse_here", "_law_many", "_law_nest", "_law_things", "_law_turn", "_law_thing", "_law_loop", "_law_axes", "_law_odd"]
theorem sc_law : FnScope N_law P_law (defScope s_law) := ⟨rfl, rfl, rfl, by decide +kernel, rfl, by decide +kernel, by decide +kernel⟩
abbrev s_init : Stmt := inClass (top 2) 0
structure Tx (K : PySem.W.Frag) (mg : Str → Option Value) where
  f_is_whole : Addr
  fd_is_whole : FuncData
  F_is_whole : Fun K "is_whole" "is_whole" s_is_whole f_is_whole fd_is_whole
  b_is_whole : L2.Binds K fd_is_whole P_is_whole []
  g_is_whole : mg "is_whole" = some (.ref f_is_whole)
  f_is_axes : Addr
  fd_is_axes : FuncData
  F_is_axes : Fun K "is_axes" "is_axes" s_is_axes f_is_axes fd_is_axes
  b_is_axes : L2.Binds K fd_is_axes P_is_axes []
  g_is_axes : mg "is_axes" = some (.ref f_is_axes)
  f_is_vector : Addr
  fd_is_vector : FuncData
  F_is_vector : Fun K "is_vector" "is_vector" s_is_vector f_is_vector fd_is_vector
  b_is_vector : L2.Binds K fd_is_vector P_is_vector []
  g_is_vector : mg "is_vector" = some (.ref f_is_vector)
  f_is_loop : Addr
  fd_is_loop : FuncData
  F_is_loop : Fun K "is_loop" "is_loop" s_is_loop f_is_loop fd_is_loop
  b_is_loop : L2.Binds K fd_is_loop P_is_loop []
  g_is_loop : mg "is_loop" = some (.ref f_is_loop)
  f_is_cell : Addr
  fd_is_cell : FuncData
  F_is_cell : Fun K "is_cell" "is_cell" s_is_cell f_is_cell fd_is_cell
  b_is_cell : L2.Binds K fd_is_cell P_is_cell []
  g_is_cell : mg "is_cell" = some (.ref f_is_cell)
  f_is_nest : Addr
  fd_is_nest : FuncData
  F_is_nest : Fun K "is_nest" "is_nest" s_is_nest f_is_nest fd_is_nest
  b_is_nest : L2.Binds K fd_is_nest P_is_nest []
  g_is_nest : mg "is_nest" = some (.ref f_is_nest)
  f__law_mixed : Addr
  fd__law_mixed : FuncData
  F__law_mixed : Fun K "_law_mixed" "_law_mixed" s__law_mixed f__law_mixed fd__law_mixed
  b__law_mixed : L2.Binds K fd__law_mixed P__law_mixed []
  g__law_mixed : mg "_law_mixed" = some (.ref f__law_mixed)
  f__law_purse : Addr
  fd__law_purse : FuncData
  F__law_purse : Fun K "_law_purse" "_law_purse" s__law_purse f__law_purse fd__law_purse
  b__law_purse : L2.Binds K fd__law_purse P__law_purse []
  g__law_purse : mg "_law_purse" = some (.ref f__law_purse)
  f__law_draw : Addr
  fd__law_draw : FuncData
  F__law_draw : Fun K "_law_draw" "_law_draw" s__law_draw f__law_draw fd__law_draw
  b__law_draw : L2.Binds K fd__law_draw P__law_draw []
  g__law_draw : mg "_law_draw" = some (.ref f__law_draw)
  f__law_cell_drawn : Addr
  fd__law_cell_drawn : FuncData
  F__law_cell_drawn : Fun K "_law_cell_drawn" "_law_cell_drawn" s__law_cell_drawn f__law_cell_drawn fd__law_cell_drawn
  b__law_cell_drawn : L2.Binds K fd__law_cell_drawn P__law_cell_drawn []
  g__law_cell_drawn : mg "_law_cell_drawn" = some (.ref f__law_cell_drawn)
  f__law_nest_drawn : Addr
  fd__law_nest_drawn : FuncData
  F__law_nest_drawn : Fun K "_law_nest_drawn" "_law_nest_drawn" s__law_nest_drawn f__law_nest_drawn fd__law_nest_drawn
  b__law_nest_drawn : L2.Binds K fd__law_nest_drawn P__law_nest_drawn []
  g__law_nest_drawn : mg "_law_nest_drawn" = some (.ref f__law_nest_drawn)
  f__law_whole : Addr
  fd__law_whole : FuncData
  F__law_whole : Fun K "_law_whole" "_law_whole" s__law_whole f__law_whole fd__law_whole
  b__law_whole : L2.Binds K fd__law_whole P__law_whole []
  g__law_whole : mg "_law_whole" = some (.ref f__law_whole)
  f__law_is_cell : Addr
  fd__law_is_cell : FuncData
  F__law_is_cell : Fun K "_law_is_cell" "_law_is_cell" s__law_is_cell f__law_is_cell fd__law_is_cell
  b__law_is_cell : L2.Binds K fd__law_is_cell P__law_is_cell []
  g__law_is_cell : mg "_law_is_cell" = some (.ref f__law_is_cell)
  f__law_is_loop : Addr
  fd__law_is_loop : FuncData
  F__law_is_loop : Fun K "_law_is_loop" "_law_is_loop" s__law_is_loop f__law_is_loop fd__law_is_loop
  b__law_is_loop : L2.Binds K fd__law_is_loop P__law_is_loop []
  g__law_is_loop : mg "_law_is_loop" = some (.ref f__law_is_loop)
  f__law_is_nest : Addr
  fd__law_is_nest : FuncData
  F__law_is_nest : Fun K "_law_is_nest" "_law_is_nest" s__law_is_nest f__law_is_nest fd__law_is_nest
  b__law_is_nest : L2.Binds K fd__law_is_nest P__law_is_nest []
  g__law_is_nest : mg "_law_is_nest" = some (.ref f__law_is_nest)
  f__law_bent : Addr
  fd__law_bent : FuncData
  F__law_bent : Fun K "_law_bent" "_law_bent" s__law_bent f__law_bent fd__law_bent
  b__law_bent : L2.Binds K fd__law_bent P__law_bent []
  g__law_bent : mg "_law_bent" = some (.ref f__law_bent)
  f__law_right : Addr
  fd__law_right : FuncData
  F__law_right : Fun K "_law_right" "_law_right" s__law_right f__law_right fd__law_right
  b__law_right : L2.Binds K fd__law_right P__law_right []
  g__law_right : mg "_law_right" = some (.ref f__law_right)
  f__law_refused : Addr
  fd__law_refused : FuncData
  F__law_refused : Fun K "_law_refused" "_law_refused" s__law_refused f__law_refused fd__law_refused
  b__law_refused : L2.Binds K fd__law_refused P__law_refused []
  g__law_refused : mg "_law_refused" = some (.ref f__law_refused)
  f_law : Addr
  fd_law : FuncData
  F_law : Fun K "law" "law" s_law f_law fd_law
  b_law : L2.Binds K fd_law P_law []
  g_law : mg "law" = some (.ref f_law)
  n_int : mg "int" = none
  n_bool : mg "bool" = none
  n_list : mg "list" = none
  n_tuple : mg "tuple" = none
  n_isinstance : mg "isinstance" = none
  n_len : mg "len" = none
  n_all : mg "all" = none
  n_range : mg "range" = none
  n_repr : mg "repr" = none
  n_max : mg "max" = none
  n_sum : mg "sum" = none
  t_MOST_AXES : Tok
  c_MOST_AXES : mg "MOST_AXES" = some (.int 3 t_MOST_AXES)
  C_InvalidNumber : Addr
  fI_InvalidNumber : Addr
  fdI_InvalidNumber : FuncData
  FI_InvalidNumber : FunD K "__init__" "InvalidNumber.__init__" (defArgs s_init) (defBody s_init) (defScope s_init) [.non] [] fI_InvalidNumber fdI_InvalidNumber
  bi_InvalidNumber : L2.Binds K fdI_InvalidNumber ["self", "value"] []
  e_InvalidNumber : ErrC K mg "InvalidNumber" "value" C_InvalidNumber fI_InvalidNumber
  g_InvalidNumber : mg "InvalidNumber" = some (.ref C_InvalidNumber)
  B_AddError : Addr
  bc : BaseC K mg B_AddError
  g_AddError : mg "AddError" = some (.ref B_AddError)
  xk : ExcK K C_InvalidNumber
  xm : PySem.W.exmOne K (.ref C_InvalidNumber) (.ref B_AddError) = some true
  xi : PySem.W.kitOne K (.ref C_InvalidNumber) (.ref C_InvalidNumber) = some true
def sp1 (f : D → Bool) : DSp := fun ds μ Q _ => ∃ d, ds = [d] ∧ Pl d ∧ Q (.bl (f d)) μ
theorem len_sp1 {f : D → Bool} : dlen (sp1 f) 1 := fun ds μ Q Y ⟨d, e, _⟩ => by rw [e]; rfl
def sp2 (f : Int → D → Bool) : DSp := fun ds μ Q _ => ∃ d n, ds = [d, .int n] ∧ Pl d ∧ Q (.bl (f n d)) μ
theorem len_sp2 {f : Int → D → Bool} : dlen (sp2 f) 2 := fun ds μ Q Y ⟨d, n, e, _⟩ => by rw [e]; rfl
theorem len_is_whole : dlen (sp1 isWhole) 1 := len_sp1
theorem len__law_whole : dlen (sp1 isWhole) 1 := len_sp1
theorem len_is_axes : dlen (sp1 isAxes) 1 := len_sp1
theorem len_is_vector : dlen (sp2 isVec) 2 := len_sp2
theorem len_is_loop : dlen (sp2 isLoop) 2 := len_sp2
theorem len__law_is_cell : dlen (sp2 isVec) 2 := len_sp2
theorem len__law_is_loop : dlen (sp2 isLoop) 2 := len_sp2
theorem len__law_is_nest : dlen (sp2 isNest) 2 := len_sp2
theorem and_if {b : Bool} {A B : Prop} (h1 : b = true → A) (h2 : b = false → B) : if b = true then A else B := by
  cases b
  · exact h2 rfl
  · exact h1 rfl
/-- f(x), the arguments being there -/
theorem map_bl {f : D → Bool} : ∀ xs : List D, xs.map (fun x => D.bl (f x)) = (xs.map f).map D.bl := fun xs => by rw [List.map_map]; rfl
theorem all_id {f : D → Bool} (xs : List D) : (xs.map f).all id = xs.all f := by rw [List.all_map]; rfl
theorem sc_init : FnScope ["self", "value"] ["self", "value"] (defScope s_init) := ⟨rfl, rfl, rfl, by decide +kernel, rfl, by decide +kernel, by decide +kernel⟩
theorem ok_init_InvalidNumber {P : Program} {w : World} {K : PySem.W.Frag} {mg : Str → Option Value} {base : Heap} (T : Tx K mg) : FnOk P w K mg base CX0 1 T.fI_InvalidNumber T.fdI_InvalidNumber ["self", "value"] (spErr K T.C_InvalidNumber "value") :=
  T.FI_InvalidNumber.ok sc_init (fun vs H Q E ⟨a, v, e, _⟩ => by rw [e]; rfl) fun cdv A outer s H vs Q E hr h => haveI : Amb := amb0; ⟨_, pss_cons (ps_expr (pe_binit T.bc rfl (pa_cons (pv 0) (pa_cons pe_str pa_nil)))) (pss_one (ps_ost (pv 0) (pv 1))), rd_init h⟩
/-- refused: an axes that is none -/
def spX (K : PySem.W.Frag) (mg : Str → Option Value) (T : Tx K mg) (f : Int → D → Bool) : DSp := fun ds μ Q Y => ∃ d a, ds = [d, a] ∧ Pl d ∧ Pl a ∧ (∀ n, a = .int n → isAxes a = true → Q (.bl (f n d)) μ) ∧ (isAxes a = false → Y T.C_InvalidNumber [("value", a)] μ)
theorem len_spX {K : PySem.W.Frag} {mg : Str → Option Value} {T : Tx K mg} {f : Int → D → Bool} : dlen (spX K mg T f) 2 := fun ds μ Q Y ⟨d, a, e, _⟩ => by rw [e]; rfl
theorem len_is_cell {K : PySem.W.Frag} {mg : Str → Option Value} {T : Tx K mg} : dlen (spX K mg T isVec) 2 := len_spX
theorem len_is_nest {K : PySem.W.Frag} {mg : Str → Option Value} {T : Tx K mg} : dlen (spX K mg T isNest) 2 := len_spX
theorem axes_int {a : D} (h : isAxes a = true) : ∃ n, a = .int n ∧ 1 ≤ n ∧ n ≤ 3 := by
  cases a with
  | int n => simp [isAxes] at h; exact ⟨n, rfl, h⟩
  | _ => cases h
end K2
namespace K2
open PySem PySem.Spec PyProof.Rows L2 DL
section
variable {P : Program} {w : World} {K : PySem.W.Frag} {mg : Str → Option Value} {base : Heap}
theorem ok_is_whole (T : Tx K mg) : FnOk P w K mg base CX0 1 T.f_is_whole T.fd_is_whole P_is_whole (spD (sp1 isWhole)) :=
  fn0D T.F_is_whole sc_is_whole len_is_whole fun cdv A outer s H E hr => by
  have hu := hr.units
  haveI : Amb := amb0
  have sc := sc_is_whole
  refine ⟨_, (pss_one (ps_ret ((pe_and ((pe_callB call_isP rfl T.n_isinstance (by decide +kernel) (pa_cons (pv 0) (pa_cons ((pe_bltn (v := .ty "int") rfl T.n_int (by decide +kernel) rfl)) pa_nil)))) (pe_one ((pe_not ((pe_callB call_isP rfl T.n_isinstance (by decide +kernel) (pa_cons (pv 0) (pa_cons ((pe_bltn (v := .ty "bool") rfl T.n_bool (by decide +kernel) rfl)) pa_nil))))))))))), fun AM Y => ?_⟩
  refine ⟨_, (ls_ret ((l_andV ((l_cb lc_isP (l_cons (l_var) (l_cons (l_val) l_nil)))) ((l_notV ((l_cb lc_isP (l_cons (l_var) (l_cons (l_val) l_nil))))))))), fun xs μ Kk h => ?_⟩
  obtain ⟨d, rfl, hp, k⟩ := h
  refine ⟨d, rfl, isP_int hp ⟨_, rfl, ?_⟩⟩
  rw [whole_eq] at k
  refine and_if (fun e => ⟨d, rfl, isP_bool hp ⟨_, rfl, ?_⟩⟩) fun e => ?_
  · rw [e] at k; exact k
  · rw [e] at k; exact k
theorem ok__law_whole (T : Tx K mg) : FnOk P w K mg base CX0 1 T.f__law_whole T.fd__law_whole P__law_whole (spD (sp1 isWhole)) :=
  fn0D T.F__law_whole sc__law_whole len__law_whole fun cdv A outer s H E hr => by
  have hu := hr.units
  haveI : Amb := amb0
  have sc := sc__law_whole
  refine ⟨_, (pss_one (ps_ret ((pe_and ((pe_callB call_isP rfl T.n_isinstance (by decide +kernel) (pa_cons (pv 0) (pa_cons ((pe_bltn (v := .ty "int") rfl T.n_int (by decide +kernel) rfl)) pa_nil)))) (pe_one ((pe_not ((pe_callB call_isP rfl T.n_isinstance (by decide +kernel) (pa_cons (pv 0) (pa_cons ((pe_bltn (v := .ty "bool") rfl T.n_bool (by decide +kernel) rfl)) pa_nil))))))))))), fun AM Y => ?_⟩
  refine ⟨_, (ls_ret ((l_andV ((l_cb lc_isP (l_cons (l_var) (l_cons (l_val) l_nil)))) ((l_notV ((l_cb lc_isP (l_cons (l_var) (l_cons (l_val) l_nil))))))))), fun xs μ Kk h => ?_⟩
  obtain ⟨d, rfl, hp, k⟩ := h
  refine ⟨d, rfl, isP_int hp ⟨_, rfl, ?_⟩⟩
  rw [whole_eq] at k
  refine and_if (fun e => ⟨d, rfl, isP_bool hp ⟨_, rfl, ?_⟩⟩) fun e => ?_
  · rw [e] at k; exact k
  · rw [e] at k; exact k
theorem ok_is_axes (T : Tx K mg) : FnOk P w K mg base CX0 2 T.f_is_axes T.fd_is_axes P_is_axes (spD (sp1 isAxes)) :=
  fn0D T.F_is_axes sc_is_axes len_is_axes fun cdv A outer s H E hr => by
  have hu := hr.units
  haveI : Amb := amb0
  have sc := sc_is_axes
  refine ⟨_, (pss_one (ps_ret ((pe_and ((pe_call (ok_is_whole T) (hr.mono (by decide)) rfl T.g_is_whole T.F_is_whole.kp T.b_is_whole .nil pass0 (pa_cons (pv 0) pa_nil))) (pe_one ((pe_chain op_le op_le (pe_int) (pv 0) ((pe_glob (v := .int 3) rfl T.c_MOST_AXES ⟨_, rfl⟩))))))))), fun AM Y => ?_⟩
  refine ⟨_, (ls_ret ((l_andV ((l_call XOk.never (l_cons (l_var) l_nil))) ((l_chain l2_le l2_le (l_int) (l_var) (l_int)))))), fun xs μ Kk h => ?_⟩
  obtain ⟨d, rfl, hp, k⟩ := h
  refine ⟨d, rfl, d, rfl, hp, _, rfl, ?_⟩
  cases d with
  | int i =>
    refine ⟨_, rfl, 1, i, rfl, rfl, True.intro, _, rfl, and_if (fun e => ⟨i, 3, rfl, rfl, True.intro, ?_⟩) fun e => ?_⟩
    · have e' : (decide (1 ≤ i) && decide (i ≤ 3)) = decide (i ≤ 3) := by rw [e]; rfl
      have k' : Kk (.bl (decide (1 ≤ i) && decide (i ≤ 3))) μ := k
      rw [e'] at k'
      exact k'
    · have e' : (decide (1 ≤ i) && decide (i ≤ 3)) = false := by rw [e]; rfl
      have k' : Kk (.bl (decide (1 ≤ i) && decide (i ≤ 3))) μ := k
      rw [e'] at k'
      exact k'
  | _ => exact k
theorem ok_is_vector (T : Tx K mg) : FnOk P w K mg base CX0 2 T.f_is_vector T.fd_is_vector P_is_vector (spD (sp2 isVec)) :=
  fn0D T.F_is_vector sc_is_vector len_is_vector fun cdv A outer s H E hr => by
  have hu := hr.units
  haveI : Amb := amb0
  have sc := sc_is_vector
  refine ⟨_, (pss_one (ps_ret ((pe_and ((pe_callB call_isP rfl T.n_isinstance (by decide +kernel) (pa_cons (pv 0) (pa_cons ((pe_bltn (v := .ty "tuple") rfl T.n_tuple (by decide +kernel) rfl)) pa_nil)))) (pe_and ((pe_cmpR (op_eqX hu) ((pe_callB call_lenDD rfl T.n_len (by decide +kernel) (pa_cons (pv 0) pa_nil))) (pv 1) (nomark _))) (pe_one ((pe_callB (cr_all rfl) rfl T.n_all (by decide +kernel) (pa_cons ((pe_lc (own := [("number", 2)]) (g := (gName 2)) rfl sc.nd (pi_seq (pv 0)) (blkOk_by (own := [("number", 2)]) (N := N_is_vector) (sc := defScope s_is_vector) (by decide +kernel)) (fun _ _ _ _ _ => (pg_name (i := 2) sc.nd rfl (by first | exact Or.inl rfl | exact Or.inr rfl))) (fun _ _ _ _ _ => pts_nil) (fun _ _ _ _ _ => (pe_call (ok_is_whole T) (hr.mono (by decide)) rfl T.g_is_whole T.F_is_whole.kp T.b_is_whole .nil pass0 (pa_cons (pv 2) pa_nil))))) pa_nil))))))))), fun AM Y => ?_⟩
  refine ⟨_, (ls_ret ((l_andV ((l_cb lc_isP (l_cons (l_var) (l_cons (l_val) l_nil)))) ((l_andV ((l_op l2_eqX ((l_cb lc_len (l_cons (l_var) l_nil))) (l_var))) ((l_cb lc_all (l_cons ((l_comp (li_seq (l_var)) (lgw_name (by decide)) l_yes ((l_call XOk.never (l_cons (l_var) l_nil))))) l_nil)))))))), fun xs μ Kk h => ?_⟩
  obtain ⟨d, n, rfl, hp, k⟩ := h
  refine ⟨d, rfl, isP_tuple hp ⟨_, rfl, and_if (fun e => ?_) fun e => ?_⟩⟩
  · cases d with
    | tup xs =>
      obtain ⟨hx, hl⟩ := hp.tup
      refine ⟨_, rfl, ⟨xs, rfl, .int n, rfl, .inl ⟨_, rfl, _, rfl, and_if (fun e2 => ?_) fun e2 => ?_⟩⟩⟩
      · refine ⟨.tup xs, rfl, fun a ha => comp_map ha (fun _ => True.intro) (fun x => .bl (isWhole x)) (fun x hx' μ' L q => ⟨x, rfl, x, rfl, hx x hx', q⟩) hl ?_⟩
        refine ⟨_, xs.map isWhole, rfl, congrArg some (map_bl xs), ?_⟩
        rw [all_id]
        exact bl_of k (by show (decide ((xs.length : Int) = n) && xs.all isWhole) = _; rw [show decide ((xs.length : Int) = n) = true from e2]; rfl)
      · exact bl_of k (by show (decide ((xs.length : Int) = n) && xs.all isWhole) = _; rw [show decide ((xs.length : Int) = n) = false from e2]; rfl)
    | _ => cases e
  · cases d with
    | tup xs => cases e
    | _ => exact k
theorem ok__law_is_cell (T : Tx K mg) : FnOk P w K mg base CX0 2 T.f__law_is_cell T.fd__law_is_cell P__law_is_cell (spD (sp2 isVec)) :=
  fn0D T.F__law_is_cell sc__law_is_cell len__law_is_cell fun cdv A outer s H E hr => by
  have hu := hr.units
  haveI : Amb := amb0
  have sc := sc__law_is_cell
  refine ⟨_, (pss_cons (ps_if (PW.pt (pw_or (pt_not (pt_val ((pe_callB call_isP rfl T.n_isinstance (by decide +kernel) (pa_cons (pv 0) (pa_cons ((pe_bltn (v := .ty "tuple") rfl T.n_tuple (by decide +kernel) rfl)) pa_nil)))))) (pw_or1 (pt_cmpR (op_neX hu) ((pe_callB call_lenDD rfl T.n_len (by decide +kernel) (pa_cons (pv 0) pa_nil))) (pv 1) (nomark _))))) (pss_one (ps_ret (pe_bl))) pss_nil) (pss_one (ps_ret ((pe_cmpR (op_eqX hu) ((pe_lc (own := [("_law_number", 2)]) (g := (gName 2)) rfl sc.nd (pi_seq (pv 0)) (blkOk_by (own := [("_law_number", 2)]) (N := N__law_is_cell) (sc := defScope s__law_is_cell) (by decide +kernel)) (fun _ _ _ _ _ => (pg_name (i := 2) sc.nd rfl (by first | exact Or.inl rfl | exact Or.inr rfl))) (fun _ _ _ _ _ => (pts_one (pt_not (pt_val ((pe_call (ok__law_whole T) (hr.mono (by decide)) rfl T.g__law_whole T.F__law_whole.kp T.b__law_whole .nil pass0 (pa_cons (pv 2) pa_nil))))))) (fun _ _ _ _ _ => pv 2))) ((pe_lst pa_nil)) (nomark _)))))), fun AM Y => ?_⟩
  refine ⟨_, (ls_seq (ls_if (l_or (l_not (l_tB ((l_cb lc_isP (l_cons (l_var) (l_cons (l_val) l_nil)))))) (l_test (l_op l2_eqX ((l_cb lc_len (l_cons (l_var) l_nil))) (l_var)))) (ls_ret (l_bl)) ls_next) (ls_ret ((l_op l2_eqX ((l_comp (li_seq (l_var)) (lgw_name (by decide)) (l_not (l_tB ((l_call XOk.never (l_cons (l_var) l_nil))))) (l_var))) ((l_lst l_nil)))))), fun xs μ Kk h => ?_⟩
  obtain ⟨d, n, rfl, hp, k⟩ := h
  refine ⟨d, rfl, isP_tuple hp ⟨_, rfl, and_if (fun e => ?_) fun e => ?_⟩⟩
  · cases d with
    | tup xs => cases e
    | _ => exact k
  · cases d with
    | tup xs =>
      obtain ⟨hx, hl⟩ := hp.tup
      refine ⟨_, rfl, xs, rfl, .int n, rfl, .inl ⟨_, rfl, _, rfl, and_if (fun e2 => ?_) fun e2 => ?_⟩⟩
      · exact bl_of k (by show (decide ((xs.length : Int) = n) && xs.all isWhole) = _; rw [show decide ((xs.length : Int) = n) = false by simpa using e2]; rfl)
      · refine ⟨.tup xs, rfl, fun a ha => comp_filter ha (fun _ => True.intro) (fun x => !isWhole x) (fun x hx' μ' L q => ⟨x, rfl, x, rfl, hx x hx', _, rfl, q⟩) (fun x hx' _ μ' L q => ⟨x, rfl, q⟩) hl ?_⟩
        obtain ⟨b, hb, eb⟩ := eq_emp (μ := μ) (xs := xs.filter fun x => !isWhole x)
        refine ⟨Nat.zero_le _, Or.inr ⟨b, hb, ?_⟩⟩
        rw [filter_emp (p := isWhole) fun _ => rfl] at eb
        exact bl_of k (by show (decide ((xs.length : Int) = n) && xs.all isWhole) = b; rw [show decide ((xs.length : Int) = n) = true by simpa using e2, eb]; rfl)
    | _ => cases e
theorem ok_is_loop (T : Tx K mg) : FnOk P w K mg base CX0 3 T.f_is_loop T.fd_is_loop P_is_loop (spD (sp2 isLoop)) :=
  fn0D T.F_is_loop sc_is_loop len_is_loop fun cdv A outer s H E hr => by
  have hu := hr.units
  haveI : Amb := amb0
  have sc := sc_is_loop
  refine ⟨_, (pss_cons (ps_if (PW.pt (pw_or (pt_not (pt_val ((pe_callB call_isP rfl T.n_isinstance (by decide +kernel) (pa_cons (pv 0) (pa_cons ((pe_bltn (v := .ty "tuple") rfl T.n_tuple (by decide +kernel) rfl)) pa_nil)))))) (pw_or1 (pt_cmpR (op_neX hu) ((pe_callB call_lenDD rfl T.n_len (by decide +kernel) (pa_cons (pv 0) pa_nil))) (pe_int) (nomark _))))) (pss_one (ps_ret (pe_bl))) pss_nil) (pss_cons (ps_asg (pv 0) (pg_tup rfl (pgs_cons (pg_name (i := 2) sc.nd rfl (by first | exact Or.inl rfl | exact Or.inr rfl)) (pgs_cons (pg_name (i := 3) sc.nd rfl (by first | exact Or.inl rfl | exact Or.inr rfl)) pgs_nil)))) (pss_one (ps_ret ((pe_and ((pe_call (ok_is_whole T) (hr.mono (by decide)) rfl T.g_is_whole T.F_is_whole.kp T.b_is_whole .nil pass0 (pa_cons (pv 2) pa_nil))) (pe_and ((pe_cmpR op_ge (pv 2) (pe_int) (nomark _))) (pe_one ((pe_call (ok_is_vector T) (hr.mono (by decide)) rfl T.g_is_vector T.F_is_vector.kp T.b_is_vector .nil pass0 (pa_cons (pv 3) (pa_cons (pv 1) pa_nil)))))))))))), fun AM Y => ?_⟩
  refine ⟨_, (ls_seq (ls_if (l_or (l_not (l_tB ((l_cb lc_isP (l_cons (l_var) (l_cons (l_val) l_nil)))))) (l_test (l_op l2_eqX ((l_cb lc_len (l_cons (l_var) l_nil))) (l_int)))) (ls_ret (l_bl)) ls_next) (ls_seq (ls_asg (l_var) (lg_tup (lgs_cons lg_name (lgs_cons lg_name lgs_nil)))) (ls_ret ((l_andV ((l_call XOk.never (l_cons (l_var) l_nil))) ((l_andV ((l_op l2_ge (l_var) (l_int))) ((l_call XOk.never (l_cons (l_var) (l_cons (l_var) l_nil))))))))))), fun xs μ Kk h => ?_⟩
  obtain ⟨d, n, rfl, hp, k⟩ := h
  refine ⟨d, rfl, isP_tuple hp ⟨_, rfl, and_if (fun e => ?_) fun e => ?_⟩⟩
  · cases d with
    | tup xs => cases e
    | _ => exact k
  · cases d with
    | tup xs =>
      obtain ⟨hx, hl⟩ := hp.tup
      refine ⟨_, rfl, xs, rfl, .inl ⟨_, rfl, _, rfl, and_if (fun e2 => ?_) fun e2 => ?_⟩⟩
      · refine bl_of k ?_
        have e2' : ¬ (xs.length : Int) = 2 := by simpa using e2
        match xs, e2' with
        | [], _ => rfl
        | [x], _ => cases x <;> rfl
        | [x, y], q => exact absurd rfl q
        | x :: y :: z :: r, _ => cases x <;> rfl
      · have e2' : (xs.length : Int) = 2 := by simpa using e2
        obtain ⟨x, y, rfl⟩ : ∃ x y, xs = [x, y] := match xs, e2' with
          | [x, y], _ => ⟨x, y, rfl⟩
        have hX := hx x (by simp)
        have hY := hx y (by simp)
        refine ⟨_, rfl, [x, y], rfl, rfl, x, [y], rfl, y, [], rfl, rfl, ?_⟩
        refine ⟨x, rfl, x, rfl, hX, _, rfl, and_if (fun e3 => ?_) fun e3 => ?_⟩
        · cases x with
          | int c =>
            refine ⟨.int c, rfl, c, 0, rfl, rfl, True.intro, _, rfl, and_if (fun e4 => ?_) fun e4 => ?_⟩
            · refine ⟨y, rfl, .int n, rfl, y, n, rfl, hY, ?_⟩
              exact bl_of k (by show (decide (0 ≤ c) && isVec n y) = _; rw [show decide (0 ≤ c) = true from e4]; rfl)
            · exact bl_of k (by show (decide (0 ≤ c) && isVec n y) = _; rw [show decide (0 ≤ c) = false from e4]; rfl)
          | _ => cases e3
        · cases x with
          | int c => cases e3
          | _ => exact k
    | _ => cases e
theorem ok__law_is_loop (T : Tx K mg) : FnOk P w K mg base CX0 3 T.f__law_is_loop T.fd__law_is_loop P__law_is_loop (spD (sp2 isLoop)) :=
  fn0D T.F__law_is_loop sc__law_is_loop len__law_is_loop fun cdv A outer s H E hr => by
  have hu := hr.units
  haveI : Amb := amb0
  have sc := sc__law_is_loop
  refine ⟨_, (pss_cons (ps_if (PW.pt (pw_or (pt_not (pt_val ((pe_callB call_isP rfl T.n_isinstance (by decide +kernel) (pa_cons (pv 0) (pa_cons ((pe_bltn (v := .ty "tuple") rfl T.n_tuple (by decide +kernel) rfl)) pa_nil)))))) (pw_or (pt_cmpR (op_neX hu) ((pe_callB call_lenDD rfl T.n_len (by decide +kernel) (pa_cons (pv 0) pa_nil))) (pe_int) (nomark _)) (pw_or1 (pt_not (pt_val ((pe_call (ok__law_whole T) (hr.mono (by decide)) rfl T.g__law_whole T.F__law_whole.kp T.b__law_whole .nil pass0 (pa_cons ((pe_ix ix_seq (pv 0) (pe_int) (fun _ _ => rfl))) pa_nil))))))))) (pss_one (ps_ret (pe_bl))) pss_nil) (pss_one (ps_ret ((pe_and ((pe_cmpR op_ge ((pe_ix ix_seq (pv 0) (pe_int) (fun _ _ => rfl))) (pe_int) (nomark _))) (pe_one ((pe_call (ok__law_is_cell T) (hr.mono (by decide)) rfl T.g__law_is_cell T.F__law_is_cell.kp T.b__law_is_cell .nil pass0 (pa_cons ((pe_ix ix_seq (pv 0) (pe_int) (fun _ _ => rfl))) (pa_cons (pv 1) pa_nil)))))))))), fun AM Y => ?_⟩
  refine ⟨_, (ls_seq (ls_if (l_or (l_not (l_tB ((l_cb lc_isP (l_cons (l_var) (l_cons (l_val) l_nil)))))) (l_or (l_test (l_op l2_eqX ((l_cb lc_len (l_cons (l_var) l_nil))) (l_int))) (l_not (l_tB ((l_call XOk.never (l_cons ((l_op l2_ix (l_var) (l_int))) l_nil))))))) (ls_ret (l_bl)) ls_next) (ls_ret ((l_andV ((l_op l2_ge ((l_op l2_ix (l_var) (l_int))) (l_int))) ((l_call XOk.never (l_cons ((l_op l2_ix (l_var) (l_int))) (l_cons (l_var) l_nil)))))))), fun xs μ Kk h => ?_⟩
  obtain ⟨d, n, rfl, hp, k⟩ := h
  refine ⟨d, rfl, isP_tuple hp ⟨_, rfl, and_if (fun e => ?_) fun e => ?_⟩⟩
  · cases d with
    | tup xs => cases e
    | _ => exact k
  · cases d with
    | tup xs =>
      obtain ⟨hx, hl⟩ := hp.tup
      refine ⟨_, rfl, xs, rfl, .inl ⟨_, rfl, _, rfl, and_if (fun e2 => ?_) fun e2 => ?_⟩⟩
      · refine bl_of k ?_
        have e2' : ¬ (xs.length : Int) = 2 := by simpa using e2
        match xs, e2' with
        | [], _ => rfl
        | [x], _ => cases x <;> rfl
        | [x, y], q => exact absurd rfl q
        | x :: y :: z :: r, _ => cases x <;> rfl
      · have e2' : (xs.length : Int) = 2 := by simpa using e2
        obtain ⟨x, y, rfl⟩ : ∃ x y, xs = [x, y] := match xs, e2' with
          | [x, y], _ => ⟨x, y, rfl⟩
        have hX := hx x (by simp)
        have hY := hx y (by simp)
        refine ⟨_, rfl, [x, y], 0, x, rfl, rfl, rfl, x, rfl, hX, _, rfl, and_if (fun e3 => ?_) fun e3 => ?_⟩
        · cases x with
          | int c => cases e3
          | _ => exact k
        · cases x with
          | int c =>
            refine ⟨_, rfl, [.int c, y], 0, .int c, rfl, rfl, rfl, c, 0, rfl, rfl, True.intro, _, rfl, and_if (fun e4 => ?_) fun e4 => ?_⟩
            · refine ⟨_, rfl, [.int c, y], 1, y, rfl, rfl, rfl, .int n, rfl, y, n, rfl, hY, ?_⟩
              exact bl_of k (by show (decide (0 ≤ c) && isVec n y) = _; rw [show decide (0 ≤ c) = true from e4]; rfl)
            · exact bl_of k (by show (decide (0 ≤ c) && isVec n y) = _; rw [show decide (0 ≤ c) = false from e4]; rfl)
          | _ => cases e3
    | _ => cases e
theorem ok_is_cell (T : Tx K mg) : FnOk P w K mg base (L2.CX P w) 3 T.f_is_cell T.fd_is_cell P_is_cell (spD (spX K mg T isVec)) :=
  fnXD T.F_is_cell sc_is_cell len_is_cell fun cdv A outer s H E hr => by
  have hu := hr.units
  haveI : Amb := amb0
  have sc := sc_is_cell
  refine ⟨_, (pss_cons (ps_if (pt_not (pt_val ((pe_call (ok_is_axes T) (hr.mono (by decide)) rfl T.g_is_axes T.F_is_axes.kp T.b_is_axes .nil pass0 (pa_cons (pv 1) pa_nil))))) (pss_one (ps_raise rfl (takes_of rfl rfl rfl rfl) (pmk_oex (dvs := []) (ds := []) T.e_InvalidNumber.oex T.e_InvalidNumber.iC T.e_InvalidNumber.tI (ok_init_InvalidNumber T) (hr.mono (by decide)) T.bi_InvalidNumber .nil pass0 rfl T.e_InvalidNumber.gC (pa_cons (pv 1) pa_nil)))) pss_nil) (pss_one (ps_ret ((pe_call (ok_is_vector T) (hr.mono (by decide)) rfl T.g_is_vector T.F_is_vector.kp T.b_is_vector .nil pass0 (pa_cons (pv 0) (pa_cons (pv 1) pa_nil))))))), fun AM Y hx => ?_⟩
  refine ⟨_, (ls_seq (ls_if (l_not (l_tB ((l_call XOk.never (l_cons (l_var) l_nil))))) (ls_raise hx (lm_err T.e_InvalidNumber (l_cons (l_var) l_nil))) ls_next) (ls_ret ((l_call XOk.never (l_cons (l_var) (l_cons (l_var) l_nil)))))), fun xs μ Kk h => ?_⟩
  obtain ⟨d, a, rfl, hp, ha, k1, k2⟩ := h
  refine ⟨a, rfl, a, rfl, ha, _, rfl, and_if (fun e => ?_) fun e => ?_⟩
  · have e' : isAxes a = false := by simpa using e
    exact ⟨a, rfl, a, rfl, k2 e'⟩
  · have e' : isAxes a = true := by simpa using e
    obtain ⟨n, rfl, _⟩ := axes_int e'
    exact ⟨d, rfl, .int n, rfl, d, n, rfl, hp, k1 n rfl e'⟩
theorem ok_is_nest (T : Tx K mg) : FnOk P w K mg base (L2.CX P w) 4 T.f_is_nest T.fd_is_nest P_is_nest (spD (spX K mg T isNest)) :=
  fnXD T.F_is_nest sc_is_nest len_is_nest fun cdv A outer s H E hr => by
  have hu := hr.units
  haveI : Amb := amb0
  have sc := sc_is_nest
  refine ⟨_, (pss_cons (ps_if (pt_not (pt_val ((pe_call (ok_is_axes T) (hr.mono (by decide)) rfl T.g_is_axes T.F_is_axes.kp T.b_is_axes .nil pass0 (pa_cons (pv 1) pa_nil))))) (pss_one (ps_raise rfl (takes_of rfl rfl rfl rfl) (pmk_oex (dvs := []) (ds := []) T.e_InvalidNumber.oex T.e_InvalidNumber.iC T.e_InvalidNumber.tI (ok_init_InvalidNumber T) (hr.mono (by decide)) T.bi_InvalidNumber .nil pass0 rfl T.e_InvalidNumber.gC (pa_cons (pv 1) pa_nil)))) pss_nil) (pss_cons (ps_if (PW.pt (pw_or (pt_not (pt_val ((pe_callB call_isP rfl T.n_isinstance (by decide +kernel) (pa_cons (pv 0) (pa_cons ((pe_bltn (v := .ty "tuple") rfl T.n_tuple (by decide +kernel) rfl)) pa_nil)))))) (pw_or1 (pt_cmpR (op_neX hu) ((pe_callB call_lenDD rfl T.n_len (by decide +kernel) (pa_cons (pv 0) pa_nil))) (pe_int) (nomark _))))) (pss_one (ps_ret (pe_bl))) pss_nil) (pss_cons (ps_asg (pv 0) (pg_tup rfl (pgs_cons (pg_name (i := 2) sc.nd rfl (by first | exact Or.inl rfl | exact Or.inr rfl)) (pgs_cons (pg_name (i := 3) sc.nd rfl (by first | exact Or.inl rfl | exact Or.inr rfl)) (pgs_cons (pg_name (i := 4) sc.nd rfl (by first | exact Or.inl rfl | exact Or.inr rfl)) pgs_nil))))) (pss_cons (ps_if (PW.pt (pw_or (pt_not (pt_val ((pe_callB call_isP rfl T.n_isinstance (by decide +kernel) (pa_cons (pv 2) (pa_cons ((pe_bltn (v := .ty "list") rfl T.n_list (by decide +kernel) rfl)) pa_nil)))))) (pw_or1 (pt_not (pt_val ((pe_callB (cr_all rfl) rfl T.n_all (by decide +kernel) (pa_cons ((pe_lc (own := [("loop", 5)]) (g := (gName 5)) rfl sc.nd (pi_seq (pv 2)) (blkOk_by (own := [("loop", 5)]) (N := N_is_nest) (sc := defScope s_is_nest) (by decide +kernel)) (fun _ _ _ _ _ => (pg_name (i := 5) sc.nd rfl (by first | exact Or.inl rfl | exact Or.inr rfl))) (fun _ _ _ _ _ => pts_nil) (fun _ _ _ _ _ => (pe_call (ok_is_loop T) (hr.mono (by decide)) rfl T.g_is_loop T.F_is_loop.kp T.b_is_loop .nil pass0 (pa_cons (pv 5) (pa_cons (pv 1) pa_nil)))))) pa_nil)))))))) (pss_one (ps_ret (pe_bl))) pss_nil) (pss_one (ps_ret ((pe_and ((pe_call (ok_is_vector T) (hr.mono (by decide)) rfl T.g_is_vector T.F_is_vector.kp T.b_is_vector .nil pass0 (pa_cons (pv 3) (pa_cons (pv 1) pa_nil)))) (pe_one ((pe_call (ok_is_whole T) (hr.mono (by decide)) rfl T.g_is_whole T.F_is_whole.kp T.b_is_whole .nil pass0 (pa_cons (pv 4) pa_nil)))))))))))), fun AM Y hx => ?_⟩
  refine ⟨_, (ls_seq (ls_if (l_not (l_tB ((l_call XOk.never (l_cons (l_var) l_nil))))) (ls_raise hx (lm_err T.e_InvalidNumber (l_cons (l_var) l_nil))) ls_next) (ls_seq (ls_if (l_or (l_not (l_tB ((l_cb lc_isP (l_cons (l_var) (l_cons (l_val) l_nil)))))) (l_test (l_op l2_eqX ((l_cb lc_len (l_cons (l_var) l_nil))) (l_int)))) (ls_ret (l_bl)) ls_next) (ls_seq (ls_asg (l_var) (lg_tup (lgs_cons lg_name (lgs_cons lg_name (lgs_cons lg_name lgs_nil))))) (ls_seq (ls_if (l_or (l_not (l_tB ((l_cb lc_isP (l_cons (l_var) (l_cons (l_val) l_nil)))))) (l_not (l_tB ((l_cb lc_all (l_cons ((l_comp (li_seq (l_var)) (lgw_name (by decide)) l_yes ((l_call XOk.never (l_cons (l_var) (l_cons (l_var) l_nil)))))) l_nil)))))) (ls_ret (l_bl)) ls_next) (ls_ret ((l_andV ((l_call XOk.never (l_cons (l_var) (l_cons (l_var) l_nil)))) ((l_call XOk.never (l_cons (l_var) l_nil)))))))))), fun xs μ Kk h => ?_⟩
  obtain ⟨d, a, rfl, hp, ha, k1, k2⟩ := h
  refine ⟨a, rfl, a, rfl, ha, _, rfl, and_if (fun e => ?_) fun e => ?_⟩
  · have e' : isAxes a = false := by simpa using e
    exact ⟨a, rfl, a, rfl, k2 e'⟩
  have e' : isAxes a = true := by simpa using e
  obtain ⟨n, rfl, _⟩ := axes_int e'
  have k := k1 n rfl e'
  refine ⟨d, rfl, isP_tuple hp ⟨_, rfl, and_if (fun e => ?_) fun e => ?_⟩⟩
  · cases d with
    | tup xs => cases e
    | _ => exact k
  · cases d with
    | tup xs =>
      obtain ⟨hx, hl⟩ := hp.tup
      refine ⟨_, rfl, xs, rfl, .inl ⟨_, rfl, _, rfl, and_if (fun e2 => ?_) fun e2 => ?_⟩⟩
      · refine bl_of k ?_
        have e2' : ¬ (xs.length : Int) = 3 := by simpa using e2
        match xs, e2' with
        | [], _ => rfl
        | [x], _ => cases x <;> rfl
        | [x, y], _ => cases x <;> rfl
        | [x, y, z], q => exact absurd rfl q
        | x :: y :: z :: u :: r, _ => cases x <;> rfl
      · have e2' : (xs.length : Int) = 3 := by simpa using e2
        obtain ⟨x, y, z, rfl⟩ : ∃ x y z, xs = [x, y, z] := match xs, e2' with
          | [x, y, z], _ => ⟨x, y, z, rfl⟩
        have hX := hx x (by simp)
        have hY := hx y (by simp)
        have hZ := hx z (by simp)
        refine ⟨_, rfl, [x, y, z], rfl, rfl, x, [y, z], rfl, y, [z], rfl, z, [], rfl, rfl, ?_⟩
        refine ⟨x, rfl, isP_list hX ⟨_, rfl, and_if (fun e3 => ?_) fun e3 => ?_⟩⟩
        · cases x with
          | lst ls => cases e3
          | _ => exact k
        · cases x with
          | lst ls =>
            obtain ⟨hL, hm⟩ := hX.lst
            refine ⟨.lst ls, rfl, fun a ha => comp_map ha (fun _ => True.intro) (fun x => .bl (isLoop n x)) (fun x hx' μ' L q => ⟨x, rfl, .int n, rfl, x, n, rfl, hL x hx', q⟩) hm ?_⟩
            refine ⟨_, ls.map (isLoop n), rfl, congrArg some (map_bl ls), _, rfl, ?_⟩
            rw [all_id]
            refine and_if (fun e4 => ?_) fun e4 => ?_
            · exact bl_of k (by show (ls.all (isLoop n) && isVec n y && isWhole z) = _; rw [show ls.all (isLoop n) = false by simpa using e4]; rfl)
            · have e4' : ls.all (isLoop n) = true := by simpa using e4
              refine ⟨y, rfl, .int n, rfl, y, n, rfl, hY, _, rfl, and_if (fun e5 => ?_) fun e5 => ?_⟩
              · refine ⟨z, rfl, z, rfl, hZ, ?_⟩
                exact bl_of k (by show (ls.all (isLoop n) && isVec n y && isWhole z) = _; rw [e4', e5]; rfl)
              · exact bl_of k (by show (ls.all (isLoop n) && isVec n y && isWhole z) = _; rw [e4', e5]; rfl)
          | _ => cases e3
    | _ => cases e
theorem ok__law_is_nest (T : Tx K mg) : FnOk P w K mg base CX0 4 T.f__law_is_nest T.fd__law_is_nest P__law_is_nest (spD (sp2 isNest)) :=
  fn0D T.F__law_is_nest sc__law_is_nest len__law_is_nest fun cdv A outer s H E hr => by
  have hu := hr.units
  haveI : Amb := amb0
  have sc := sc__law_is_nest
  refine ⟨_, (pss_cons (ps_if (PW.pt (pw_or (pt_not (pt_val ((pe_callB call_isP rfl T.n_isinstance (by decide +kernel) (pa_cons (pv 0) (pa_cons ((pe_bltn (v := .ty "tuple") rfl T.n_tuple (by decide +kernel) rfl)) pa_nil)))))) (pw_or (pt_cmpR (op_neX hu) ((pe_callB call_lenDD rfl T.n_len (by decide +kernel) (pa_cons (pv 0) pa_nil))) (pe_int) (nomark _)) (pw_or1 (pt_not (pt_val ((pe_callB call_isP rfl T.n_isinstance (by decide +kernel) (pa_cons ((pe_ix ix_seq (pv 0) (pe_int) (fun _ _ => rfl))) (pa_cons ((pe_bltn (v := .ty "list") rfl T.n_list (by decide +kernel) rfl)) pa_nil)))))))))) (pss_one (ps_ret (pe_bl))) pss_nil) (pss_cons (ps_if (pt_cmpR (op_neX hu) ((pe_lc (own := [("_law_loop", 2)]) (g := (gName 2)) rfl sc.nd (pi_seq ((pe_ix ix_seq (pv 0) (pe_int) (fun _ _ => rfl)))) (blkOk_by (own := [("_law_loop", 2)]) (N := N__law_is_nest) (sc := defScope s__law_is_nest) (by decide +kernel)) (fun _ _ _ _ _ => (pg_name (i := 2) sc.nd rfl (by first | exact Or.inl rfl | exact Or.inr rfl))) (fun _ _ _ _ _ => (pts_one (pt_not (pt_val ((pe_call (ok__law_is_loop T) (hr.mono (by decide)) rfl T.g__law_is_loop T.F__law_is_loop.kp T.b__law_is_loop .nil pass0 (pa_cons (pv 2) (pa_cons (pv 1) pa_nil)))))))) (fun _ _ _ _ _ => pv 2))) ((pe_lst pa_nil)) (nomark _)) (pss_one (ps_ret (pe_bl))) pss_nil) (pss_one (ps_ret ((pe_and ((pe_call (ok__law_is_cell T) (hr.mono (by decide)) rfl T.g__law_is_cell T.F__law_is_cell.kp T.b__law_is_cell .nil pass0 (pa_cons ((pe_ix ix_seq (pv 0) (pe_int) (fun _ _ => rfl))) (pa_cons (pv 1) pa_nil)))) (pe_one ((pe_call (ok__law_whole T) (hr.mono (by decide)) rfl T.g__law_whole T.F__law_whole.kp T.b__law_whole .nil pass0 (pa_cons ((pe_ix ix_seq (pv 0) (pe_int) (fun _ _ => rfl))) pa_nil)))))))))), fun AM Y => ?_⟩
  refine ⟨_, (ls_seq (ls_if (l_or (l_not (l_tB ((l_cb lc_isP (l_cons (l_var) (l_cons (l_val) l_nil)))))) (l_or (l_test (l_op l2_eqX ((l_cb lc_len (l_cons (l_var) l_nil))) (l_int))) (l_not (l_tB ((l_cb lc_isP (l_cons ((l_op l2_ix (l_var) (l_int))) (l_cons (l_val) l_nil)))))))) (ls_ret (l_bl)) ls_next) (ls_seq (ls_if (l_test (l_op l2_eqX ((l_comp (li_seq ((l_op l2_ix (l_var) (l_int)))) (lgw_name (by decide)) (l_not (l_tB ((l_call XOk.never (l_cons (l_var) (l_cons (l_var) l_nil)))))) (l_var))) ((l_lst l_nil)))) (ls_ret (l_bl)) ls_next) (ls_ret ((l_andV ((l_call XOk.never (l_cons ((l_op l2_ix (l_var) (l_int))) (l_cons (l_var) l_nil)))) ((l_call XOk.never (l_cons ((l_op l2_ix (l_var) (l_int))) l_nil)))))))), fun xs μ Kk h => ?_⟩
  obtain ⟨d, n, rfl, hp, k⟩ := h
  refine ⟨d, rfl, isP_tuple hp ⟨_, rfl, and_if (fun e => ?_) fun e => ?_⟩⟩
  · cases d with
    | tup xs => cases e
    | _ => exact k
  · cases d with
    | tup xs =>
      obtain ⟨hx, hl⟩ := hp.tup
      refine ⟨_, rfl, xs, rfl, .inl ⟨_, rfl, _, rfl, and_if (fun e2 => ?_) fun e2 => ?_⟩⟩
      · refine bl_of k ?_
        have e2' : ¬ (xs.length : Int) = 3 := by simpa using e2
        match xs, e2' with
        | [], _ => rfl
        | [x], _ => cases x <;> rfl
        | [x, y], _ => cases x <;> rfl
        | [x, y, z], q => exact absurd rfl q
        | x :: y :: z :: u :: r, _ => cases x <;> rfl
      · have e2' : (xs.length : Int) = 3 := by simpa using e2
        obtain ⟨x, y, z, rfl⟩ : ∃ x y z, xs = [x, y, z] := match xs, e2' with
          | [x, y, z], _ => ⟨x, y, z, rfl⟩
        have hX := hx x (by simp)
        have hY := hx y (by simp)
        have hZ := hx z (by simp)
        refine ⟨_, rfl, [x, y, z], 0, x, rfl, rfl, rfl, isP_list hX ⟨_, rfl, and_if (fun e3 => ?_) fun e3 => ?_⟩⟩
        · cases x with
          | lst ls => cases e3
          | _ => exact k
        · cases x with
          | lst ls =>
            obtain ⟨hL, hm⟩ := hX.lst
            refine ⟨_, rfl, [.lst ls, y, z], 0, .lst ls, rfl, rfl, rfl, fun a ha => comp_filter ha (fun _ => True.intro) (fun x => !isLoop n x) (fun x hx' μ' L q => ⟨x, rfl, .int n, rfl, x, n, rfl, hL x hx', _, rfl, q⟩) (fun x hx' _ μ' L q => ⟨x, rfl, q⟩) hm ?_⟩
            obtain ⟨b, hb, eb⟩ := eq_emp (μ := μ) (xs := ls.filter fun x => !isLoop n x)
            rw [filter_emp (p := isLoop n) fun _ => rfl] at eb
            subst eb
            refine ⟨Nat.zero_le _, Or.inr ⟨_, hb, _, rfl, and_if (fun e4 => ?_) fun e4 => ?_⟩⟩
            · exact bl_of k (by show (ls.all (isLoop n) && isVec n y && isWhole z) = _; rw [show ls.all (isLoop n) = false by simpa using e4]; rfl)
            · have e4' : ls.all (isLoop n) = true := by simpa using e4
              refine ⟨_, rfl, [.lst ls, y, z], 1, y, rfl, rfl, rfl, .int n, rfl, y, n, rfl, hY, _, rfl, and_if (fun e5 => ?_) fun e5 => ?_⟩
              · refine ⟨_, rfl, [.lst ls, y, z], 2, z, rfl, rfl, rfl, z, rfl, hZ, ?_⟩
                exact bl_of k (by show (ls.all (isLoop n) && isVec n y && isWhole z) = _; rw [e4', e5]; rfl)
              · exact bl_of k (by show (ls.all (isLoop n) && isVec n y && isWhole z) = _; rw [e4', e5]; rfl)
          | _ => cases e3
    | _ => cases e
end
end K2
namespace K2
open PySem PySem.Spec PyProof.Rows L2 DL
section
variable {P : Program} {w : World} {K : PySem.W.Frag} {mg : Str → Option Value} {base : Heap}
theorem len__law_mixed : dlen spMixed 2 := fun ds μ Q Y ⟨d, n, e, _⟩ => by rw [e]; rfl
theorem len__law_purse {K : PySem.W.Frag} : dlen (spPurse K) 2 := fun ds μ Q Y ⟨d, n, e, _⟩ => by rw [e]; rfl
theorem len__law_draw : dlen spDraw 2 := fun ds μ Q Y ⟨d, n, _, e, _⟩ => by rw [e]; rfl
theorem len__law_cell_drawn : dlen spCell 3 := fun ds μ Q Y ⟨d, n, _, _, e, _⟩ => by rw [e]; rfl
theorem len__law_nest_drawn : dlen spNest 5 := fun ds μ Q Y ⟨d, n, _, _, _, e, _⟩ => by rw [e]; rfl
theorem asS_m {μ : Mu} {a : Addr} {xs : List D} (h : μ a = some (.lst xs)) : asS μ (.val (.ref a)) = some xs := by
  show (match μ a with | some (.lst xs) => some xs | _ => none) = _
  rw [h]
theorem bits_le {m : Int} (h : m.natAbs < 2 ^ 200) : Builtin.Int.intBits m ≤ 200 := by
  unfold Builtin.Int.intBits
  split
  · omega
  · have : m.natAbs.log2 < 200 := by
      by_cases z : m.natAbs = 0
      · rw [z]; decide
      · rwa [Nat.log2_lt z]
    omega
theorem mup_self {μ : Mu} {a : Addr} {m : MO} (h : μ a = some m) : mup μ a m = μ := by
  funext b
  unfold mup
  split
  · rename_i e; rw [e, h]
  · rfl
theorem pow7 {e : Nat} (h : e ≤ 7) : (2147483587 : Int) ^ e ≤ 2147483587 ^ 7 := by
  have t : ∀ e : Fin 8, (2147483587 : Int) ^ (e : Nat) ≤ 2147483587 ^ 7 := by decide
  exact t ⟨e, by omega⟩
theorem mod_in {i m : Int} (h : 0 < m) : 0 ≤ i % m ∧ i % m < m := ⟨Int.emod_nonneg _ (by omega), Int.emod_lt_of_pos _ h⟩
theorem ok__law_mixed (T : Tx K mg) : FnOk P w K mg base CX0 1 T.f__law_mixed T.fd__law_mixed P__law_mixed (spD spMixed) :=
  fn0D T.F__law_mixed sc__law_mixed len__law_mixed fun cdv A outer s H E hr => by
  have hu := hr.units
  haveI : Amb := amb0
  have sc := sc__law_mixed
  refine ⟨_, (pss_cons (ps_set (i := 2) sc.nd rfl (by first | exact Or.inl rfl | exact Or.inr rfl) ((pe_op op_mod ((pe_op op_addD ((pe_op op_addD ((pe_op op_addD ((pe_op op_mulD (pv 0) (pe_int))) ((pe_op op_mulD ((pe_op op_mulD (pe_int) (pv 1))) (pv 1))))) (pv 1))) (pe_int))) (pe_int)))) (pss_cons (ps_set (i := 2) sc.nd rfl (by first | exact Or.inl rfl | exact Or.inr rfl) ((pe_op op_mod ((pe_op op_addD ((pe_op op_mulD (pv 2) (pv 2))) (pe_int))) (pe_int)))) (pss_one (ps_ret ((pe_op op_mod ((pe_op op_mulD (pv 2) (pe_int))) (pe_int))))))), fun AM Y => ?_⟩
  refine ⟨_, (ls_seq (ls_asg ((l_op l2_mod ((l_op l2_add ((l_op l2_add ((l_op l2_add ((l_op l2_mul (l_var) (l_int))) ((l_op l2_mul ((l_op l2_mul (l_int) (l_var))) (l_var))))) (l_var))) (l_int))) (l_int))) lg_name) (ls_seq (ls_asg ((l_op l2_mod ((l_op l2_add ((l_op l2_mul (l_var) (l_var))) (l_int))) (l_int))) lg_name) (ls_ret ((l_op l2_mod ((l_op l2_mul (l_var) (l_int))) (l_int)))))), fun xs μ Kk h => ?_⟩
  obtain ⟨c, k, rfl, c0, c1, k0, k1, q⟩ := h
  refine ⟨.int c, rfl, mulS (by omega) (by omega) (by decide) (by decide), .int k, rfl, mulS (by decide) (by decide) (by omega) (by omega), .int k, rfl, mulS (by omega) (by omega) (by omega) (by omega), .int k, rfl, _, _, rfl, rfl, (by show (0 : Int) < _; decide), ?_⟩
  dsimp only
  generalize hz : (c * 1103515245 + 7919 * k * k + k + 1) % 2147483647 = z
  obtain ⟨z0, z1⟩ : 0 ≤ z ∧ z < 2147483647 := by rw [← hz]; exact mod_in (by decide)
  refine ⟨.int z, rfl, .int z, rfl, mulS (by omega) (by omega) (by omega) (by omega), _, _, rfl, rfl, (by show (0 : Int) < _; decide), ?_⟩
  dsimp only
  generalize hy : (z * z + 69621) % 2147483629 = y
  obtain ⟨y0, y1⟩ : 0 ≤ y ∧ y < 2147483629 := by rw [← hy]; exact mod_in (by decide)
  refine ⟨.int y, rfl, mulS (by omega) (by omega) (by decide) (by decide), _, _, rfl, rfl, (by show (0 : Int) < _; decide), ?_⟩
  obtain ⟨x0, x1⟩ := mod_in (i := y * 48271) (m := 2147483587) (by decide)
  exact q _ x0 x1
theorem ok__law_purse (T : Tx K mg) : FnOk P w K mg base CX0 1 T.f__law_purse T.fd__law_purse P__law_purse (spD (spPurse K)) :=
  fn0D T.F__law_purse sc__law_purse len__law_purse fun cdv A outer s H E hr => by
  have hu := hr.units
  haveI : Amb := amb0
  have sc := sc__law_purse
  refine ⟨_, (pss_cons (ps_set (i := 2) sc.nd rfl (by first | exact Or.inl rfl | exact Or.inr rfl) ((pe_callB (cr_sum rfl) rfl T.n_sum (by decide +kernel) (pa_cons ((pe_slice sl_D (pv 0) (po_some (pv 1)) (po_some ((pe_op op_addD (pv 1) (pe_int)))))) pa_nil)))) (pss_one (ps_ret ((pe_lst (pa_cons ((pe_op op_mod ((pe_callB (call_max2D rfl) rfl T.n_max (by decide +kernel) (pa_cons ((pe_op op_sub (pv 2) ((pe_op op_powD (pe_int) (pe_int))))) (pa_cons (pe_int) pa_nil)))) ((pe_op op_powD ((pe_op op_powD (pe_int) (pe_int))) (pe_int))))) (pa_cons ((pe_op op_mod (pv 2) (pe_int))) (pa_cons ((pe_op op_mulD (pe_int) (pv 1))) pa_nil)))))))), fun AM Y => ?_⟩
  refine ⟨_, (ls_seq (ls_asg ((l_cb lc_sum (l_cons ((l_slS (l_var) (lo_some (l_var)) (lo_some ((l_op l2_add (l_var) (l_int)))))) l_nil))) lg_name) (ls_ret ((l_lstM (l_cons ((l_op l2_mod ((l_cb lc_max2 (l_cons ((l_op l2_sub (l_var) ((l_op l2_pow (l_int) (l_int))))) (l_cons (l_int) l_nil)))) ((l_op l2_pow ((l_op l2_pow (l_int) (l_int))) (l_int))))) (l_cons ((l_op l2_mod (l_var) (l_int))) (l_cons ((l_op l2_mul (l_int) (l_var))) l_nil))))))), fun xs μ Kk h => ?_⟩
  obtain ⟨ns, t, rfl, t0, t1, q⟩ := h
  refine ⟨_, rfl, _, rfl, _, rfl, _, rfl, _, rfl, ns, rfl, ?_⟩
  refine ⟨_, (ns.drop (HT.sIx (ns.map D.int).length 0 (some t))).take (HT.sIx (ns.map D.int).length (ns.map D.int).length (some (t + 1)) - HT.sIx (ns.map D.int).length 0 (some t)), rfl, ?_, ?_⟩
  · show some _ = some _
    unfold DL.cutD
    rw [List.map_take, List.map_drop]
  generalize ((ns.drop (HT.sIx (ns.map D.int).length 0 (some t))).take (HT.sIx (ns.map D.int).length (ns.map D.int).length (some (t + 1)) - HT.sIx (ns.map D.int).length 0 (some t))).sum = z
  refine ⟨.int z, rfl, 10, 18, rfl, rfl, ⟨by decide, by decide⟩, z, _, rfl, rfl, True.intro, _, _, rfl, 10, 60, rfl, rfl, ⟨by decide, by decide⟩, _, 10, rfl, rfl, ⟨by decide, by decide +kernel⟩, _, _, rfl, rfl, ?_, .int z, rfl, _, _, rfl, rfl, (by show (0 : Int) < _; decide), .int t, rfl, mulS (by decide) (by decide) (by omega) (by omega), (by show 3 ≤ 100000; decide), fun p hp => ?_⟩
  · exact Int.pow_pos (Int.pow_pos (by decide))
  · obtain ⟨x0, x1⟩ := mod_in (i := z) (m := 2147483647) (by decide)
    exact q p _ hp ⟨_, _, _, mup_same, x0, x1, by omega, by omega⟩
theorem ok__law_draw (T : Tx K mg) : FnOk P w K mg base CX0 2 T.f__law_draw T.fd__law_draw P__law_draw (spD spDraw) :=
  fn0D T.F__law_draw sc__law_draw len__law_draw fun cdv A outer s H E hr => by
  have hu := hr.units
  haveI : Amb := amb0
  have sc := sc__law_draw
  refine ⟨_, (pss_cons (ps_if (pt_cmpR op_gt ((pe_ix ix_seq (pv 0) (pe_int) (fun _ _ => rfl))) (pe_int) (nomark _)) (pss_cons (ps_set (i := 2) sc.nd rfl (by first | exact Or.inl rfl | exact Or.inr rfl) ((pe_op op_mod ((pe_ix ix_seq (pv 0) (pe_int) (fun _ _ => rfl))) (pv 1)))) (pss_cons (ps_asg ((pe_op op_fdivW ((pe_ix ix_seq (pv 0) (pe_int) (fun _ _ => rfl))) (pv 1))) (pg_sub (pv 0) (pe_int) set_list)) (pss_one (ps_ret (pv 2))))) pss_nil) (pss_cons (ps_set (i := 3) sc.nd rfl (by first | exact Or.inl rfl | exact Or.inr rfl) (pe_int)) (pss_cons (ps_for PassesOwn.never rfl (pi_range1 rfl T.n_range (pa_cons ((pe_op op_addD (pe_int) ((pe_op op_fdivW ((pe_bits (pv 1))) (pe_int))))) pa_nil)) (pg_name (i := 4) sc.nd rfl (by first | exact Or.inl rfl | exact Or.inr rfl)) (pss_cons (ps_asg ((pe_op op_addD ((pe_ix ix_seq (pv 0) (pe_int) (fun _ _ => rfl))) (pe_int))) (pg_sub (pv 0) (pe_int) set_list)) (pss_one (ps_set (i := 3) sc.nd rfl (by first | exact Or.inl rfl | exact Or.inr rfl) ((pe_op op_addD ((pe_op op_mulD (pv 3) (pe_int))) ((pe_call (ok__law_mixed T) (hr.mono (by decide)) rfl T.g__law_mixed T.F__law_mixed.kp T.b__law_mixed .nil pass0 (pa_cons ((pe_ix ix_seq (pv 0) (pe_int) (fun _ _ => rfl))) (pa_cons ((pe_ix ix_seq (pv 0) (pe_int) (fun _ _ => rfl))) pa_nil)))))))))) (pss_one (ps_ret ((pe_op op_mod (pv 3) (pv 1)))))))), fun AM Y => ?_⟩
  refine ⟨_, (ls_seq (ls_if (l_test (l_op l2_gt ((l_op l2_ix (l_var) (l_int))) (l_int))) (ls_seq (ls_asg ((l_op l2_mod ((l_op l2_ix (l_var) (l_int))) (l_var))) lg_name) (ls_seq (ls_asg ((l_op l2_fdiv ((l_op l2_ix (l_var) (l_int))) (l_var))) (lg_sub (l_var) (l_int))) (ls_ret (l_var)))) ls_next) (ls_seq (ls_asg (l_int) lg_name) (ls_seq (ls_for (li_rg1 (l_cons ((l_op l2_add (l_int) ((l_op l2_fdiv ((l_bits (l_var))) (l_int))))) l_nil)) lg_name (ls_seq (ls_asg ((l_op l2_add ((l_op l2_ix (l_var) (l_int))) (l_int))) (lg_sub (l_var) (l_int))) (ls_asg ((l_op l2_add ((l_op l2_mul (l_var) (l_int))) ((l_call XOk.never (l_cons ((l_op l2_ix (l_var) (l_int))) (l_cons ((l_op l2_ix (l_var) (l_int))) l_nil)))))) lg_name))) (ls_ret ((l_op l2_mod (l_var) (l_var))))))), fun xs μ Kk h => ?_⟩
  obtain ⟨a, m, b, rfl, m1, m2, hb, ⟨p0, p1, p2, hm, p10, p11, p20, p2b⟩, q⟩ := h
  refine ⟨.val (.ref a), rfl, [.int p0, .int p1, .int p2], 0, .int p0, by show (match μ a with | some (.lst xs) => some xs | _ => none) = _; rw [hm], rfl, rfl, p0, 0, rfl, rfl, True.intro, _, rfl, and_if (fun e => ?_) fun e => ?_⟩
  · have e' : 0 < p0 := by simpa using e
    refine ⟨_, rfl, [.int p0, .int p1, .int p2], 0, .int p0, asS_m hm, rfl, rfl, _, rfl, p0, m, rfl, rfl, (by show (0 : Int) < m; omega), ?_⟩
    refine ⟨_, rfl, [.int p0, .int p1, .int p2], 0, .int p0, asS_m hm, rfl, rfl, _, rfl, p0, m, rfl, rfl, ⟨by omega, 250, by unfold Bt; omega, by decide, by decide⟩, ?_⟩
    refine ⟨_, rfl, a, _, 0, 0, rfl, rfl, hm, rfl, _, rfl, ?_⟩
    obtain ⟨x0, x1⟩ := mod_in (i := p0) (m := m) (by omega)
    exact q _ _ x0 x1 ⟨_, _, _, mup_same, p10, p11, p20, by omega⟩
  · have hbits : Builtin.Int.intBits m ≤ 200 := bits_le (by omega)
    refine ⟨_, rfl, m, rfl, _, 30, rfl, rfl, ⟨by decide, 8, by unfold Bt; decide, by decide, by decide⟩, _, rfl, ?_, ?_, ?_⟩
    · omega
    · omega
    have hn : (1 + (Builtin.Int.intBits m : Int) / 30).toNat ≤ 7 := by omega
    have e0 : mup μ a (.lst [.int p0, .int p1, .int p2]) = μ := mup_self hm
    refine loop_by (I := fun r ρ μ' => ∃ (num z : Int) (k : Option D), ρ = [some (.val (.ref a)), some (.int m), none, some (.int num), k] ∧ r.length ≤ 7 ∧ 0 ≤ num ∧ num < 2147483587 ^ (7 - r.length) ∧ μ' = mup μ a (.lst [.int p0, .int p1, .int z]) ∧ 0 ≤ z ∧ z + r.length ≤ b + 7)
      (fun _ _ _ _ => True.intro) ?_ ?_ _ _ _ ⟨0, p2, none, rfl, by rw [rgD_length]; exact hn, by decide, Int.pow_pos (by decide), e0.symm, p20, by rw [rgD_length]; omega⟩
    · rintro x r ρ μ' N ⟨num, z, k, rfl, hl, n0, n1, rfl, z0, z1⟩ hN
      simp only [List.length_cons] at hl n1 z1
      have hp : (2147483587 : Int) ^ (7 - (r.length + 1)) ≤ 2147483587 ^ 7 := pow7 (by omega)
      have hp2 : (2147483587 : Int) ^ (7 - r.length) = 2147483587 ^ (7 - (r.length + 1)) * 2147483587 := by rw [← Int.pow_succ]; congr 1; omega
      have hp3 : (2147483587 : Int) ^ 7 < 2 ^ 250 := by decide
      refine ⟨_, rfl, _, 2, .int z, asS_m mup_same, rfl, rfl, _, rfl, a, _, 2, 2, rfl, rfl, mup_same, rfl, ?_⟩
      rw [mup_mup]
      refine ⟨.int num, rfl, mulS (by omega) (by omega) (by decide) (by decide), _, rfl, [.int p0, .int p1, .int (z + 1)], 1, .int p1, asS_m mup_same, rfl, rfl, _, rfl, [.int p0, .int p1, .int (z + 1)], 2, .int (z + 1), asS_m mup_same, rfl, rfl, p1, z + 1, rfl, p10, p11, by omega, by omega, fun n n0' n1' => ?_⟩
      exact hN _ _ ⟨num * 2147483587 + n, z + 1, some x, rfl, by omega, by omega, by rw [hp2]; omega, rfl, by omega, by omega⟩
    · rintro ρ μ' ⟨num, z, k, rfl, hl, n0, n1, rfl, z0, z1⟩
      refine ⟨.int num, rfl, .int m, rfl, num, m, rfl, rfl, (by show (0 : Int) < m; omega), ?_⟩
      obtain ⟨x0, x1⟩ := mod_in (i := num) (m := m) (by omega)
      exact q _ _ x0 x1 ⟨_, _, _, mup_same, p10, p11, z0, by simp at z1; omega⟩
theorem ok__law_cell_drawn (T : Tx K mg) : FnOk P w K mg base CX0 3 T.f__law_cell_drawn T.fd__law_cell_drawn P__law_cell_drawn (spD spCell) :=
  fn0D T.F__law_cell_drawn sc__law_cell_drawn len__law_cell_drawn fun cdv A outer s H E hr => by
  have hu := hr.units
  haveI : Amb := amb0
  have sc := sc__law_cell_drawn
  refine ⟨_, (pss_one (ps_ret ((pe_callTy call_tupD rfl T.n_tuple (by decide +kernel) (pa_cons ((pe_lc (own := [("_law_axis", 3)]) (g := (gName 3)) rfl sc.nd (pi_range1 rfl T.n_range (pa_cons (pv 1) pa_nil)) (blkOk_by (own := [("_law_axis", 3)]) (N := N__law_cell_drawn) (sc := defScope s__law_cell_drawn) (by decide +kernel)) (fun _ _ _ _ _ => (pg_name (i := 3) sc.nd rfl (by first | exact Or.inl rfl | exact Or.inr rfl))) (fun _ _ _ _ _ => pts_nil) (fun _ _ _ _ _ => (pe_op op_sub ((pe_call (ok__law_draw T) (hr.mono (by decide)) rfl T.g__law_draw T.F__law_draw.kp T.b__law_draw .nil pass0 (pa_cons (pv 0) (pa_cons ((pe_op (k_add (K := K) rfl) ((pe_op (k_mul (K := K) rfl) (pe_int) (pv 2))) (pe_int))) pa_nil)))) (pv 2))))) pa_nil))))), fun AM Y => ?_⟩
  refine ⟨_, (ls_ret ((l_cb lc_tuple (l_cons ((l_comp (li_rg1 (l_cons (l_var) l_nil)) (lgw_name (by decide)) l_yes ((l_op l2_sub ((l_call XOk.never (l_cons (l_var) (l_cons ((l_op l2_add ((l_op l2_mul (l_int) (l_var))) (l_int))) l_nil)))) (l_var))))) l_nil)))), fun xs μ Kk h => ?_⟩
  obtain ⟨a, n, w, b, rfl, n3, w0, w1, hb, hP, q⟩ := h
  have hna : ∀ c, μ c = none → a ≠ c := fun c hc e => by obtain ⟨_, _, _, z, _⟩ := hP; rw [e, hc] at z; cases z
  obtain ⟨l0, hl0⟩ : ∃ l0, μ a = some (.lst l0) := let ⟨_, _, _, z, _⟩ := hP; ⟨_, z⟩
  refine ⟨.int n, rfl, n, rfl, by omega, by omega, fun c hc => ?_⟩
  refine comp_inv (fun acc μ' => ∃ is : List Int, acc = is.map D.int ∧ (∀ i ∈ is, -w ≤ i ∧ i ≤ w) ∧ Pu (b + 10 * is.length) μ' a ∧ ∃ l, μ' = mup μ a (.lst l)) ?_ (fun _ _ _ => True.intro) ?_ (by rw [rgD_length]; omega) ⟨[], rfl, (fun _ h => nomatch h), hP.mono (by simp), l0, (mup_self hl0).symm⟩ ?_
  · rintro acc μ' ⟨is, _, _, _, l, rfl⟩
    rw [mup_ne (hna c hc).symm]; exact hc
  · rintro x hx acc μ' L hl ⟨is, rfl, hi, hPu, l, rfl⟩ hL
    rw [List.length_map] at hl
    refine ⟨.val (.ref a), rfl, .int w, rfl, mulS (by decide) (by decide) (by omega) (by omega), a, 2 * w + 1, b + 10 * is.length, rfl, by omega, by omega, by omega, hPu.up (hna c hc), fun n l2 n0 n1 hP2 => ?_⟩
    rw [mup_comm (hna c hc).symm, mup_mup] at hP2 ⊢
    refine ⟨.int w, rfl, n, w, rfl, rfl, True.intro, hL _ _ ⟨is ++ [n - w], by simp, ?_, ?_, l2, rfl⟩⟩
    · intro i hi'
      rcases List.mem_append.1 hi' with h | h
      · exact hi i h
      · rw [List.mem_singleton.1 h]; omega
    · obtain ⟨p0, p1, p2, e, r⟩ := hP2
      rw [mup_ne (hna c hc)] at e
      exact ⟨p0, p1, p2, e, r.1, r.2.1, r.2.2.1, by simp; omega⟩
  · rintro r μ' ⟨is, rfl, hi, hPu, l, rfl⟩ hl
    rw [List.length_map, rgD_length] at hl
    refine ⟨_, is.map D.int, rfl, rfl, q _ _ ⟨is, rfl, by omega, hi⟩ (hPu.mono (by omega))⟩
theorem ok__law_nest_drawn (T : Tx K mg) : FnOk P w K mg base CX0 4 T.f__law_nest_drawn T.fd__law_nest_drawn P__law_nest_drawn (spD spNest) :=
  fn0D T.F__law_nest_drawn sc__law_nest_drawn len__law_nest_drawn fun cdv A outer s H E hr => by
  have hu := hr.units
  haveI : Amb := amb0
  have sc := sc__law_nest_drawn
  refine ⟨_, (pss_cons (ps_set (i := 5) sc.nd rfl (by first | exact Or.inl rfl | exact Or.inr rfl) ((pe_lst pa_nil))) (pss_cons (ps_for PassesOwn.never rfl (pi_range1 rfl T.n_range (pa_cons ((pe_call (ok__law_draw T) (hr.mono (by decide)) rfl T.g__law_draw T.F__law_draw.kp T.b__law_draw .nil pass0 (pa_cons (pv 0) (pa_cons ((pe_op op_addD (pv 2) (pe_int))) pa_nil)))) pa_nil)) (pg_name (i := 6) sc.nd rfl (by first | exact Or.inl rfl | exact Or.inr rfl)) (pss_one (ps_expr ((pe_bm PySem.F.plainAttrs_list PySem.F.slot_list_append PySem.F.type_list_append mt_append (pv 5) (pa_cons ((pe_tup (pa_cons ((pe_call (ok__law_draw T) (hr.mono (by decide)) rfl T.g__law_draw T.F__law_draw.kp T.b__law_draw .nil pass0 (pa_cons (pv 0) (pa_cons (pv 3) pa_nil)))) (pa_cons ((pe_call (ok__law_cell_drawn T) (hr.mono (by decide)) rfl T.g__law_cell_drawn T.F__law_cell_drawn.kp T.b__law_cell_drawn .nil pass0 (pa_cons (pv 0) (pa_cons (pv 1) (pa_cons (pv 4) pa_nil))))) pa_nil)))) pa_nil)))))) (pss_one (ps_ret ((pe_tup (pa_cons (pv 5) (pa_cons ((pe_call (ok__law_cell_drawn T) (hr.mono (by decide)) rfl T.g__law_cell_drawn T.F__law_cell_drawn.kp T.b__law_cell_drawn .nil pass0 (pa_cons (pv 0) (pa_cons (pv 1) (pa_cons ((pe_op op_mulD (pe_int) (pv 4))) pa_nil))))) (pa_cons ((pe_op op_sub ((pe_call (ok__law_draw T) (hr.mono (by decide)) rfl T.g__law_draw T.F__law_draw.kp T.b__law_draw .nil pass0 (pa_cons (pv 0) (pa_cons (pe_int) pa_nil)))) (pe_int))) pa_nil))))))))), fun AM Y => ?_⟩
  refine ⟨_, (ls_seq (ls_asg ((l_lstM l_nil)) lg_name) (ls_seq (ls_for (li_rg1 (l_cons ((l_call XOk.never (l_cons (l_var) (l_cons ((l_op l2_add (l_var) (l_int))) l_nil)))) l_nil)) lg_name (ls_drop ((l_app (l_var) ((l_tup (l_cons ((l_call XOk.never (l_cons (l_var) (l_cons (l_var) l_nil)))) (l_cons ((l_call XOk.never (l_cons (l_var) (l_cons (l_var) (l_cons (l_var) l_nil))))) l_nil)))))))) (ls_ret (l_frz (i := 5) ((l_tup (l_cons (l_var) (l_cons ((l_call XOk.never (l_cons (l_var) (l_cons (l_var) (l_cons ((l_op l2_mul (l_int) (l_var))) l_nil))))) (l_cons ((l_op l2_sub ((l_call XOk.never (l_cons (l_var) (l_cons (l_int) l_nil)))) (l_int))) l_nil))))))))), fun xs μ Kk h => ?_⟩
  obtain ⟨a, n, c, w, b, rfl, n3, c1, c2, w0, w1, hb, hP, q⟩ := h
  have hna : ∀ c, μ c = none → a ≠ c := fun c hc e => by obtain ⟨_, _, _, z, _⟩ := hP; rw [e, hc] at z; cases z
  obtain ⟨l0, hl0⟩ : ∃ l0, μ a = some (.lst l0) := let ⟨_, _, _, z, _⟩ := hP; ⟨_, z⟩
  refine ⟨Nat.zero_le _, fun d hd => ?_⟩
  have had := hna d hd
  refine ⟨_, rfl, .int 3, rfl, a, 4, b, rfl, by decide, by decide, by omega, hP.up had, fun k l1 k0 k1 hP1 => ?_⟩
  refine ⟨k, rfl, by omega, by omega, ?_⟩
  refine loop_by (I := fun r ρ μ' => ∃ (ls l : List D) (x : Option D), ρ = [some (.val (.ref a)), some (.int n), some (.int 3), some (.int c), some (.int w), some (.val (.ref d)), x] ∧ μ' = mup (mup μ d (.lst ls)) a (.lst l) ∧ ls.length + r.length ≤ 3 ∧ (∀ y ∈ ls, LoopOk n c w y) ∧ Pu (b + 10 + 40 * ls.length) μ' a)
    (fun _ _ _ _ => True.intro) ?_ ?_ _ _ _ ⟨[], l1, none, rfl, rfl, by rw [rgD_length]; show 0 + _ ≤ 3; omega, (fun _ h => nomatch h), hP1.mono (by simp)⟩
  · rintro x r ρ μ' N ⟨ls, l, y, rfl, rfl, hl, hls, hPu⟩ hN
    simp only [List.length_cons] at hl
    refine ⟨_, rfl, d, rfl, ⟨ls, by rw [mup_ne had.symm, mup_same]⟩, _, rfl, .int c, rfl, a, c, _, rfl, c1, by omega, ?_, hPu, fun i l2 i0 i1 hP2 => ?_⟩
    · omega
    rw [mup_mup] at hP2 ⊢
    refine ⟨_, rfl, .int n, rfl, .int w, rfl, a, n, w, _, rfl, n3, w0, by omega, ?_, hP2, fun s l3 hs hP3 => ?_⟩
    · omega
    rw [mup_mup] at hP3 ⊢
    refine ⟨by show 2 ≤ 100000; decide, ls, by rw [mup_ne had.symm, mup_same], by omega, hN _ _ ⟨ls ++ [.tup [.int i, s]], l3, some x, rfl, ?_, ?_, ?_, ?_⟩⟩
    · rw [mup_comm had.symm, mup_mup, mup_comm had.symm]
    · simp; omega
    · intro z hz
      rcases List.mem_append.1 hz with h | h
      · exact hls z h
      · rw [List.mem_singleton.1 h]; exact ⟨i, s, rfl, i0, i1, hs⟩
    · exact (hP3.up had).mono (by simp; omega)
  · rintro ρ μ' ⟨ls, l, y, rfl, rfl, hl, hls, hPu⟩
    have hl' : ls.length ≤ 3 := by simpa using hl
    refine ⟨d, ls, rfl, by rw [mup_ne had.symm, mup_same], ?_⟩
    rw [mup_comm had.symm] at hPu ⊢
    rw [mdel_mup (by rw [mup_ne had.symm]; exact hd)]
    have hPu' : Pu (b + 10 + 40 * ls.length) (mup μ a (.lst l)) a := let ⟨p0, p1, p2, e, r⟩ := hPu; ⟨p0, p1, p2, by rw [mup_ne had] at e; exact e, r⟩
    refine ⟨_, rfl, _, rfl, .int n, rfl, .int w, rfl, mulS (by decide) (by decide) (by omega) (by omega), a, n, 2 * w, _, rfl, n3, by omega, by omega, ?_, hPu', fun s l3 hs hP3 => ?_⟩
    · omega
    rw [mup_mup] at hP3 ⊢
    refine ⟨_, rfl, a, 7, _, rfl, by decide, by decide, ?_, hP3, fun i l4 i0 i1 hP4 => ?_⟩
    · omega
    rw [mup_mup] at hP4 ⊢
    refine ⟨i, 3, rfl, rfl, True.intro, by show 3 ≤ 100000; decide, q _ _ ⟨ls, s, i - 3, rfl, hl', hls, hs, by omega, by omega⟩ (hP4.mono (by omega))⟩
end
end K2
namespace K2
open PySem PySem.Spec PyProof.Rows L2 DL
section
variable {P : Program} {w : World} {K : PySem.W.Frag} {mg : Str → Option Value} {base : Heap}
theorem len__law_bent : dlen spBent 2 := fun ds μ Q Y ⟨d, n, _, _, _, _, e, _⟩ => by rw [e]; rfl
theorem bad_ok : LvAll 2 [.non, .bl true, .bl false, .str "1", .lst [.int 1], .tup [.int 1], .dct [], .tup [], .lst [], .int (-1), .tup [.int 0, .int 0], .tup [.int 1, .int 2, .int 3], .tup [.bl true], .tup [.tup [.int 1]]] := by
  have i : ∀ {j : Nat} {z : Int}, -(10 ^ 250) < z → z < 10 ^ 250 → Lv j (.int z) := fun h1 h2 => Lv.int h1 h2
  have i1 : ∀ {j : Nat}, Lv j (.int 1) := i (by decide) (by decide)
  refine .cons .non (.cons .bl (.cons .bl (.cons (.str (by decide +kernel)) (.cons (.lst (by decide) (.cons i1 .nil)) (.cons (.tup (by decide) (.cons i1 .nil)) (.cons .emp (.cons (.tup (by decide) .nil) (.cons (.lst (by decide) .nil) (.cons (i (by decide) (by decide)) (.cons (.tup (by decide) (.cons (i (by decide) (by decide)) (.cons (i (by decide) (by decide)) .nil))) (.cons (.tup (by decide) (.cons i1 (.cons (i (by decide) (by decide)) (.cons (i (by decide) (by decide)) .nil)))) (.cons (.tup (by decide) (.cons .bl .nil)) (.cons (.tup (by decide) (.cons (.tup (by decide) (.cons i1 .nil)) .nil)) .nil)))))))))))))
theorem ok__law_bent (T : Tx K mg) : FnOk P w K mg base CX0 3 T.f__law_bent T.fd__law_bent P__law_bent (spD spBent) :=
  fn0D T.F__law_bent sc__law_bent len__law_bent fun cdv A outer s H E hr => by
  have hu := hr.units
  haveI : Amb := amb0
  have sc := sc__law_bent
  refine ⟨_, (pss_cons (ps_asg (pv 1) (pg_tup rfl (pgs_cons (pg_name (i := 2) sc.nd rfl (by first | exact Or.inl rfl | exact Or.inr rfl)) (pgs_cons (pg_name (i := 3) sc.nd rfl (by first | exact Or.inl rfl | exact Or.inr rfl)) (pgs_cons (pg_name (i := 4) sc.nd rfl (by first | exact Or.inl rfl | exact Or.inr rfl)) pgs_nil))))) (pss_cons (ps_set (i := 5) sc.nd rfl (by first | exact Or.inl rfl | exact Or.inr rfl) ((pe_ix ix_seq ((pe_lst (pa_cons (pe_non) (pa_cons (pe_bl) (pa_cons (pe_bl) (pa_cons (pe_str) (pa_cons ((pe_lst (pa_cons (pe_int) pa_nil))) (pa_cons ((pe_tup (pa_cons (pe_int) pa_nil))) (pa_cons (pe_dnewK) (pa_cons ((pe_tup pa_nil)) (pa_cons ((pe_lst pa_nil)) (pa_cons ((pe_un un_neg (pe_int))) (pa_cons ((pe_tup (pa_cons (pe_int) (pa_cons (pe_int) pa_nil)))) (pa_cons ((pe_tup (pa_cons (pe_int) (pa_cons (pe_int) (pa_cons (pe_int) pa_nil))))) (pa_cons ((pe_tup (pa_cons (pe_bl) pa_nil))) (pa_cons ((pe_tup (pa_cons ((pe_tup (pa_cons (pe_int) pa_nil))) pa_nil))) pa_nil)))))))))))))))) ((pe_call (ok__law_draw T) (hr.mono (by decide)) rfl T.g__law_draw T.F__law_draw.kp T.b__law_draw .nil pass0 (pa_cons (pv 0) (pa_cons (pe_int) pa_nil)))) (fun _ _ => rfl)))) (pss_cons (ps_set (i := 6) sc.nd rfl (by first | exact Or.inl rfl | exact Or.inr rfl) ((pe_call (ok__law_draw T) (hr.mono (by decide)) rfl T.g__law_draw T.F__law_draw.kp T.b__law_draw .nil pass0 (pa_cons (pv 0) (pa_cons ((pe_op op_addD ((pe_callB call_lenDD rfl T.n_len (by decide +kernel) (pa_cons (pv 2) pa_nil))) (pe_int))) pa_nil))))) (pss_cons (ps_set (i := 7) sc.nd rfl (by first | exact Or.inl rfl | exact Or.inr rfl) ((pe_lst (pa_cons ((pe_tup (pa_cons (pv 5) (pa_cons (pv 3) (pa_cons (pv 4) pa_nil))))) (pa_cons ((pe_tup (pa_cons (pv 2) (pa_cons (pv 5) (pa_cons (pv 4) pa_nil))))) (pa_cons ((pe_tup (pa_cons (pv 2) (pa_cons (pv 3) (pa_cons (pv 5) pa_nil))))) (pa_cons ((pe_tup (pa_cons (pv 2) (pa_cons (pv 3) pa_nil)))) (pa_cons ((pe_tup (pa_cons (pv 2) (pa_cons (pv 3) (pa_cons (pv 4) (pa_cons (pe_int) pa_nil)))))) pa_nil)))))))) (pss_cons (ps_set (i := 7) sc.nd rfl (by first | exact Or.inl rfl | exact Or.inr rfl) ((pe_op op_addD (pv 7) ((pe_lst (pa_cons ((pe_tup (pa_cons ((pe_callTy call_tupD rfl T.n_tuple (by decide +kernel) (pa_cons (pv 2) pa_nil))) (pa_cons (pv 3) (pa_cons (pv 4) pa_nil))))) (pa_cons ((pe_tup (pa_cons (pv 2) (pa_cons ((pe_callTy call_lstD rfl T.n_list (by decide +kernel) (pa_cons (pv 3) pa_nil))) (pa_cons (pv 4) pa_nil))))) (pa_cons ((pe_lst (pa_cons (pv 2) (pa_cons (pv 3) (pa_cons (pv 4) pa_nil))))) (pa_cons (pv 5) pa_nil))))))))) (pss_cons (ps_expr ((pe_bm PySem.F.plainAttrs_list PySem.F.slot_list_append PySem.F.type_list_append mt_append (pv 7) (pa_cons ((pe_tup (pa_cons ((pe_op op_addD ((pe_op op_addD ((pe_slice sl_D (pv 2) po_none (po_some (pv 6)))) ((pe_lst (pa_cons (pv 5) pa_nil))))) ((pe_slice sl_D (pv 2) (po_some (pv 6)) po_none)))) (pa_cons (pv 3) (pa_cons (pv 4) pa_nil))))) pa_nil)))) (pss_cons (ps_for PassesOwn.never rfl (pi_seq ((pe_slice sl_D (pv 2) po_none (po_some (pe_int))))) (pg_tup rfl (pgs_cons (pg_name (i := 8) sc.nd rfl (by first | exact Or.inl rfl | exact Or.inr rfl)) (pgs_cons (pg_name (i := 9) sc.nd rfl (by first | exact Or.inl rfl | exact Or.inr rfl)) pgs_nil))) (pss_cons (ps_set (i := 10) sc.nd rfl (by first | exact Or.inl rfl | exact Or.inr rfl) ((pe_slice sl_D (pv 2) (po_some (pe_int)) po_none))) (pss_cons (ps_set (i := 7) sc.nd rfl (by first | exact Or.inl rfl | exact Or.inr rfl) ((pe_op op_addD (pv 7) ((pe_lst (pa_cons ((pe_tup (pa_cons ((pe_op op_addD ((pe_lst (pa_cons ((pe_tup (pa_cons (pv 5) (pa_cons (pv 9) pa_nil)))) pa_nil))) (pv 10))) (pa_cons (pv 3) (pa_cons (pv 4) pa_nil))))) (pa_cons ((pe_tup (pa_cons ((pe_op op_addD (pv 10) ((pe_lst (pa_cons ((pe_tup (pa_cons (pv 8) (pa_cons (pv 5) pa_nil)))) pa_nil))))) (pa_cons (pv 3) (pa_cons (pv 4) pa_nil))))) pa_nil))))))) (pss_cons (ps_set (i := 7) sc.nd rfl (by first | exact Or.inl rfl | exact Or.inr rfl) ((pe_op op_addD (pv 7) ((pe_lst (pa_cons ((pe_tup (pa_cons ((pe_op op_addD ((pe_lst (pa_cons ((pe_tup (pa_cons (pv 8) (pa_cons (pv 9) (pa_cons (pe_int) pa_nil))))) pa_nil))) (pv 10))) (pa_cons (pv 3) (pa_cons (pv 4) pa_nil))))) (pa_cons ((pe_tup (pa_cons ((pe_op op_addD ((pe_lst (pa_cons ((pe_lst (pa_cons (pv 8) (pa_cons (pv 9) pa_nil)))) pa_nil))) (pv 10))) (pa_cons (pv 3) (pa_cons (pv 4) pa_nil))))) pa_nil))))))) (pss_cons (ps_expr ((pe_bm PySem.F.plainAttrs_list PySem.F.slot_list_append PySem.F.type_list_append mt_append (pv 7) (pa_cons ((pe_tup (pa_cons ((pe_op op_addD ((pe_lst (pa_cons ((pe_tup (pa_cons (pv 8) (pa_cons ((pe_op op_addD ((pe_slice sl_D (pv 9) po_none (po_some ((pe_un un_neg (pe_int)))))) ((pe_tup (pa_cons (pv 5) pa_nil))))) pa_nil)))) pa_nil))) (pv 10))) (pa_cons (pv 3) (pa_cons (pv 4) pa_nil))))) pa_nil)))) (pss_one (ps_expr ((pe_bm PySem.F.plainAttrs_list PySem.F.slot_list_append PySem.F.type_list_append mt_append (pv 7) (pa_cons ((pe_tup (pa_cons ((pe_op op_addD (pv 10) ((pe_lst (pa_cons ((pe_tup (pa_cons ((pe_op op_sub ((pe_un un_neg (pe_int))) (pv 8))) (pa_cons (pv 9) pa_nil)))) pa_nil))))) (pa_cons (pv 3) (pa_cons (pv 4) pa_nil))))) pa_nil)))))))))) (pss_cons (ps_expr ((pe_bm PySem.F.plainAttrs_list PySem.F.slot_list_append PySem.F.type_list_append mt_append (pv 7) (pa_cons ((pe_tup (pa_cons (pv 2) (pa_cons ((pe_op op_addD ((pe_slice sl_D (pv 3) po_none (po_some ((pe_un un_neg (pe_int)))))) ((pe_tup (pa_cons (pv 5) pa_nil))))) (pa_cons (pv 4) pa_nil))))) pa_nil)))) (pss_one (ps_ret ((pe_ix ix_seq (pv 7) ((pe_call (ok__law_draw T) (hr.mono (by decide)) rfl T.g__law_draw T.F__law_draw.kp T.b__law_draw .nil pass0 (pa_cons (pv 0) (pa_cons ((pe_callB call_lenDD rfl T.n_len (by decide +kernel) (pa_cons (pv 7) pa_nil))) pa_nil)))) (fun _ _ => rfl))))))))))))), fun AM Y => ?_⟩
  refine ⟨_, (ls_seq (ls_asg (l_var) (lg_tup (lgs_cons lg_name (lgs_cons lg_name (lgs_cons lg_name lgs_nil))))) (ls_seq (ls_asg ((l_op l2_ix ((l_lst (l_cons (l_non) (l_cons (l_bl) (l_cons (l_bl) (l_cons (l_str) (l_cons ((l_lst (l_cons (l_int) l_nil))) (l_cons ((l_tup (l_cons (l_int) l_nil))) (l_cons (l_emp) (l_cons ((l_tup l_nil)) (l_cons ((l_lst l_nil)) (l_cons ((l_un l1_neg (l_int))) (l_cons ((l_tup (l_cons (l_int) (l_cons (l_int) l_nil)))) (l_cons ((l_tup (l_cons (l_int) (l_cons (l_int) (l_cons (l_int) l_nil))))) (l_cons ((l_tup (l_cons (l_bl) l_nil))) (l_cons ((l_tup (l_cons ((l_tup (l_cons (l_int) l_nil))) l_nil))) l_nil)))))))))))))))) ((l_call XOk.never (l_cons (l_var) (l_cons (l_int) l_nil)))))) lg_name) (ls_seq (ls_asg ((l_call XOk.never (l_cons (l_var) (l_cons ((l_op l2_add ((l_cb lc_len (l_cons (l_var) l_nil))) (l_int))) l_nil)))) lg_name) (ls_seq (ls_asg ((l_lst (l_cons ((l_tup (l_cons (l_var) (l_cons (l_var) (l_cons (l_var) l_nil))))) (l_cons ((l_tup (l_cons (l_var) (l_cons (l_var) (l_cons (l_var) l_nil))))) (l_cons ((l_tup (l_cons (l_var) (l_cons (l_var) (l_cons (l_var) l_nil))))) (l_cons ((l_tup (l_cons (l_var) (l_cons (l_var) l_nil)))) (l_cons ((l_tup (l_cons (l_var) (l_cons (l_var) (l_cons (l_var) (l_cons (l_int) l_nil)))))) l_nil))))))) lg_name) (ls_seq (ls_asg ((l_op l2_addM (l_var) ((l_lst (l_cons ((l_tup (l_cons ((l_cb lc_tuple (l_cons (l_var) l_nil))) (l_cons (l_var) (l_cons (l_var) l_nil))))) (l_cons ((l_tup (l_cons (l_var) (l_cons ((l_cb lc_list' (l_cons (l_var) l_nil))) (l_cons (l_var) l_nil))))) (l_cons ((l_lst (l_cons (l_var) (l_cons (l_var) (l_cons (l_var) l_nil))))) (l_cons (l_var) l_nil)))))))) lg_name) (ls_seq (ls_drop ((l_app (l_var) ((l_tup (l_cons ((l_op l2_add ((l_op l2_add ((l_sl (l_var) lo_none (lo_some (l_var)))) ((l_lst (l_cons (l_var) l_nil))))) ((l_sl (l_var) (lo_some (l_var)) lo_none)))) (l_cons (l_var) (l_cons (l_var) l_nil)))))))) (ls_seq (ls_for (li_seq ((l_sl (l_var) lo_none (lo_some (l_int))))) (lg_tup (lgs_cons lg_name (lgs_cons lg_name lgs_nil))) (ls_seq (ls_asg ((l_sl (l_var) (lo_some (l_int)) lo_none)) lg_name) (ls_seq (ls_asg ((l_op l2_addM (l_var) ((l_lst (l_cons ((l_tup (l_cons ((l_op l2_add ((l_lst (l_cons ((l_tup (l_cons (l_var) (l_cons (l_var) l_nil)))) l_nil))) (l_var))) (l_cons (l_var) (l_cons (l_var) l_nil))))) (l_cons ((l_tup (l_cons ((l_op l2_add (l_var) ((l_lst (l_cons ((l_tup (l_cons (l_var) (l_cons (l_var) l_nil)))) l_nil))))) (l_cons (l_var) (l_cons (l_var) l_nil))))) l_nil)))))) lg_name) (ls_seq (ls_asg ((l_op l2_addM (l_var) ((l_lst (l_cons ((l_tup (l_cons ((l_op l2_add ((l_lst (l_cons ((l_tup (l_cons (l_var) (l_cons (l_var) (l_cons (l_int) l_nil))))) l_nil))) (l_var))) (l_cons (l_var) (l_cons (l_var) l_nil))))) (l_cons ((l_tup (l_cons ((l_op l2_add ((l_lst (l_cons ((l_lst (l_cons (l_var) (l_cons (l_var) l_nil)))) l_nil))) (l_var))) (l_cons (l_var) (l_cons (l_var) l_nil))))) l_nil)))))) lg_name) (ls_seq (ls_drop ((l_app (l_var) ((l_tup (l_cons ((l_op l2_add ((l_lst (l_cons ((l_tup (l_cons (l_var) (l_cons ((l_op l2_add ((l_sl (l_var) lo_none (lo_some ((l_un l1_neg (l_int)))))) ((l_tup (l_cons (l_var) l_nil))))) l_nil)))) l_nil))) (l_var))) (l_cons (l_var) (l_cons (l_var) l_nil)))))))) (ls_drop ((l_app (l_var) ((l_tup (l_cons ((l_op l2_add (l_var) ((l_lst (l_cons ((l_tup (l_cons ((l_op l2_sub ((l_un l1_neg (l_int))) (l_var))) (l_cons (l_var) l_nil)))) l_nil))))) (l_cons (l_var) (l_cons (l_var) l_nil))))))))))))) (ls_seq (ls_drop ((l_app (l_var) ((l_tup (l_cons (l_var) (l_cons ((l_op l2_add ((l_sl (l_var) lo_none (lo_some ((l_un l1_neg (l_int)))))) ((l_tup (l_cons (l_var) l_nil))))) (l_cons (l_var) l_nil)))))))) (ls_ret (l_forget ((l_op l2_ix (l_var) ((l_call XOk.never (l_cons (l_var) (l_cons ((l_cb lc_len (l_cons (l_var) l_nil))) l_nil)))))))))))))))), fun xs μ Kk h => ?_⟩
  obtain ⟨a, n, c, w, b, e, rfl, n3, hc, hw, hb, ⟨ls, p, i, rfl, ll, hls, hp, i0, i1⟩, hP, q⟩ := h
  obtain ⟨ps, rfl, pl, hps⟩ := hp.lv n3 (by omega)
  have hna : ∀ c, μ c = none → a ≠ c := fun c hc e => by obtain ⟨_, _, _, z, _⟩ := hP; rw [e, hc] at z; cases z
  refine ⟨_, rfl, [.lst ls, .tup ps, .int i], rfl, rfl, .lst ls, [.tup ps, .int i], rfl, .tup ps, [.int i], rfl, .int i, [], rfl, rfl, ?_⟩
  refine ⟨leB, ?_⟩
  repeat (first | refine ⟨leB, ?_⟩ | refine ⟨_, rfl, ?_⟩)
  refine ⟨a, 14, b, rfl, by decide, by decide, by omega, hP, fun k l1 k0 k1 hP1 => ?_⟩
  obtain ⟨bad, hbm, hbe⟩ := atI_mem (xs := [.non, .bl true, .bl false, .str "1", .lst [.int 1], .tup [.int 1], .dct [], .tup [], .lst [], .int (-1), .tup [.int 0, .int 0], .tup [.int 1, .int 2, .int 3], .tup [.bl true], .tup [.tup [.int 1]]]) k0 k1
  have hbad := bad_ok bad hbm
  refine ⟨_, k, bad, rfl, rfl, hbe, ?_⟩
  refine ⟨_, rfl, .lst ls, rfl, ls, rfl, a, ls.length + 1, b + 10, rfl, by omega, by omega, by omega, hP1, fun k2 l2 k20 k21 hP2 => ?_⟩
  rw [mup_mup] at hP2 ⊢
  generalize hM : mup μ a (.lst l2) = M at hP2 ⊢
  have hi5 : Lv 5 (.int i) := .int (by omega) (by omega)
  have hp5 : Lv 5 (.tup ps) := (Lv.tup (by omega) hps).mono (by decide)
  have hl2 : LvAll 2 ls := fun x hx => by
    obtain ⟨j, s, rfl, j0, j1, hs⟩ := hls x hx
    obtain ⟨ss, rfl, sl, hss⟩ := hs.lv n3 (by omega)
    exact .tup leB (.cons (.int (by omega) (by omega)) (.cons (.tup (by omega) hss) .nil))
  have hL5 : Lv 5 (.lst ls) := (Lv.lst (by omega) hl2).mono (by decide)
  have hB5 : Lv 5 bad := hbad.mono (by decide)
  repeat (first | refine ⟨leB, ?_⟩ | refine ⟨_, rfl, ?_⟩)
  refine ⟨_, _, rfl, rfl, ?_⟩
  repeat (first | refine ⟨leB, ?_⟩ | refine ⟨_, rfl, ?_⟩)
  refine ⟨_, _, rfl, rfl, ?_⟩
  repeat (first | refine ⟨leB, ?_⟩ | refine ⟨_, rfl, ?_⟩)
  refine ⟨_, _, rfl, rfl, leB, fun q1 hq1 => ?_⟩
  repeat (first | refine ⟨leB, ?_⟩ | refine ⟨_, rfl, ?_⟩)
  generalize hS : ([D.tup [bad, D.tup ps, D.int i], D.tup [D.lst ls, bad, D.int i], D.tup [D.lst ls, D.tup ps, bad], D.tup [D.lst ls, D.tup ps], D.tup [D.lst ls, D.tup ps, D.int i, D.int 0]] ++ [D.tup [D.tup ls, D.tup ps, D.int i], D.tup [D.lst ls, D.lst ps, D.int i], D.lst [D.lst ls, D.tup ps, D.int i], bad]) = S1
  have hS1 : LvAll 6 S1 := by
    subst hS
    have hLt : Lv 5 (.tup ls) := (Lv.tup (by omega) hl2).mono (by decide)
    have hpl : Lv 5 (.lst ps) := (Lv.lst (by omega) hps).mono (by decide)
    exact .append (.cons (.tup leB (.cons hB5 (.cons hp5 (.cons hi5 .nil)))) (.cons (.tup leB (.cons hL5 (.cons hB5 (.cons hi5 .nil)))) (.cons (.tup leB (.cons hL5 (.cons hp5 (.cons hB5 .nil)))) (.cons (.tup leB (.cons hL5 (.cons hp5 .nil))) (.cons (.tup leB (.cons hL5 (.cons hp5 (.cons hi5 (.cons (.int (by decide) (by decide)) .nil))))) .nil)))))
      (.cons (.tup leB (.cons hLt (.cons hp5 (.cons hi5 .nil)))) (.cons (.tup leB (.cons hL5 (.cons hpl (.cons hi5 .nil)))) (.cons (.lst leB (.cons hL5 (.cons hp5 (.cons hi5 .nil)))) (.cons (hB5.mono (by decide)) .nil))))
  have hS2 : S1.length = 9 := by subst hS; rfl
  refine ⟨⟨_, mup_same⟩, ?_⟩
  repeat (first | refine ⟨leB, ?_⟩ | refine ⟨_, rfl, ?_⟩)
  have cl := fun lo hi => @cut_len ls lo hi
  refine ⟨_, _, rfl, rfl, (by have := cl none (some k2); show _ + 1 ≤ 100000; omega), ?_⟩
  repeat (first | refine ⟨leB, ?_⟩ | refine ⟨_, rfl, ?_⟩)
  refine ⟨_, _, rfl, rfl, (by have := cl none (some k2); have := cl (some k2) none; rw [List.length_append]; show _ + 1 + _ ≤ 100000; omega), ?_⟩
  repeat (first | refine ⟨leB, ?_⟩ | refine ⟨_, rfl, ?_⟩)
  refine ⟨S1, mup_same, (by omega), ?_⟩
  rw [mup_mup]
  have hw : Lv 5 (D.lst (DL.cutD ls none (some k2) ++ [bad] ++ DL.cutD ls (some k2) none)) := by
    have := @cut_two ls k2
    exact (Lv.lst (j := 2) (by rw [List.length_append, List.length_append]; show _ + 1 + _ ≤ 4; omega) (.append (.append hl2.cut (.cons hbad .nil)) hl2.cut)).mono (by decide)
  generalize hS' : S1 ++ [D.tup [D.lst (DL.cutD ls none (some k2) ++ [bad] ++ DL.cutD ls (some k2) none), D.tup ps, D.int i]] = S2
  have hS3 : LvAll 6 S2 := by subst hS'; exact .append hS1 (.cons (.tup leB (.cons hw (.cons hp5 (.cons hi5 .nil)))) .nil)
  have hS4 : S2.length = 10 := by subst hS'; simp [hS2]
  have hMa : M a = some (.lst l2) := by subst hM; exact mup_same
  repeat (first | refine ⟨leB, ?_⟩ | refine ⟨_, rfl, ?_⟩)
  refine loop_by (I := fun r ρ μ' => ∃ (q : Addr) (sm : List D) (x y z : Option D), ρ = [some (.val (.ref a)), some (.tup [.lst ls, .tup ps, .int i]), some (.lst ls), some (.tup ps), some (.int i), some bad, some (.int k2), some (.val (.ref q)), x, y, z] ∧ μ' q = some (.lst sm) ∧ LvAll 6 sm ∧ 1 ≤ sm.length ∧ sm.length + 10 * r.length ≤ 60 ∧ M q = none ∧ SubM M μ' ∧ ∀ y ∈ r, LoopOk n c w y)
    (fun _ _ _ _ => True.intro) ?_ ?_ _ _ _ ⟨q1, S2, none, none, none, rfl, mup_same, hS3, by omega, by have := cl none (some 1); omega, hq1, SubM.refl.up hq1, fun y hy => hls y (cut_mem hy)⟩
  · rintro x r ρ μ' N ⟨q2, sm, x', y', z', rfl, hq, hsm, hs1, hsl, hMq, hsub, hr'⟩ hN
    obtain ⟨ci, s', rfl, ci0, ci1, hs'⟩ := hr' x List.mem_cons_self
    obtain ⟨ss, rfl, ssl, hss⟩ := hs'.lv n3 (by omega)
    simp only [List.length_cons] at hsl
    have hci : ∀ {j : Nat}, Lv j (.int ci) := .int (by omega) (by omega)
    have hs1' : Lv 1 (.tup ss) := .tup (by omega) hss
    have hrest : LvAll 2 (DL.cutD ls (some 1) none) := hl2.cut
    have hrl := cl (some 1) none
    refine ⟨_, rfl, rfl, _, _, rfl, _, _, rfl, rfl, ?_⟩
    repeat (first | refine ⟨leB, ?_⟩ | refine ⟨_, rfl, ?_⟩)
    refine ⟨_, _, rfl, rfl, (by show 1 + _ ≤ 100000; omega), ?_⟩
    repeat (first | refine ⟨leB, ?_⟩ | refine ⟨_, rfl, ?_⟩)
    refine ⟨_, _, rfl, rfl, (by show _ + 1 ≤ 100000; omega), ?_⟩
    repeat (first | refine ⟨leB, ?_⟩ | refine ⟨_, rfl, ?_⟩)
    refine ⟨sm, _, asL_m hq, rfl, (by show sm.length + 2 ≤ 100000; omega), fun q3 hq3 => ?_⟩
    have hM3 := hsub.nil hq3
    have hR : ∀ {e : D}, Lv 4 e → Lv 6 (.tup [.lst ([e] ++ DL.cutD ls (some 1) none), .tup ps, .int i]) := fun he =>
      .tup leB (.cons (.lst (by rw [List.length_append]; show 1 + _ ≤ 4; omega) (.append (.cons he .nil) (hrest.mono (by decide)))) (.cons hp5 (.cons hi5 .nil)))
    have hR' : ∀ {e : D}, Lv 4 e → Lv 6 (.tup [.lst (DL.cutD ls (some 1) none ++ [e]), .tup ps, .int i]) := fun he =>
      .tup leB (.cons (.lst (by rw [List.length_append]; show _ + 1 ≤ 4; omega) (.append (hrest.mono (by decide)) (.cons he .nil))) (.cons hp5 (.cons hi5 .nil)))
    generalize hT : sm ++ [D.tup [.lst ([.tup [bad, .tup ss]] ++ DL.cutD ls (some 1) none), .tup ps, .int i], .tup [.lst (DL.cutD ls (some 1) none ++ [.tup [.int ci, bad]]), .tup ps, .int i]] = sm2
    have t1 : LvAll 6 sm2 := by
      subst hT
      exact .append hsm (.cons (hR ((Lv.tup (j := 2) leB (.cons hbad (.cons (hs1'.mono (by decide)) .nil))).mono (by decide))) (.cons (hR' ((Lv.tup (j := 2) leB (.cons hci (.cons hbad .nil))).mono (by decide))) .nil))
    have t2 : sm2.length = sm.length + 2 := by subst hT; rw [List.length_append]; rfl
    repeat (first | refine ⟨leB, ?_⟩ | refine ⟨_, rfl, ?_⟩)
    refine ⟨_, _, rfl, rfl, (by show 1 + _ ≤ 100000; omega), ?_⟩
    repeat (first | refine ⟨leB, ?_⟩ | refine ⟨_, rfl, ?_⟩)
    refine ⟨_, _, rfl, rfl, (by show 1 + _ ≤ 100000; omega), ?_⟩
    repeat (first | refine ⟨leB, ?_⟩ | refine ⟨_, rfl, ?_⟩)
    refine ⟨sm2, _, asL_m mup_same, rfl, (by show sm2.length + 2 ≤ 100000; omega), fun q4 hq4 => ?_⟩
    have hsub3 := hsub.up (m := .lst sm2) hM3
    have hM4 := hsub3.nil hq4
    generalize hT' : sm2 ++ [D.tup [.lst ([.tup [.int ci, .tup ss, .int 0]] ++ DL.cutD ls (some 1) none), .tup ps, .int i], .tup [.lst ([.lst [.int ci, .tup ss]] ++ DL.cutD ls (some 1) none), .tup ps, .int i]] = sm3
    have t3 : LvAll 6 sm3 := by
      subst hT'
      exact .append t1 (.cons (hR ((Lv.tup (j := 1) leB (.cons hci (.cons hs1' (.cons (.int (by decide) (by decide)) .nil)))).mono (by decide))) (.cons (hR ((Lv.lst (j := 1) leB (.cons hci (.cons hs1' .nil))).mono (by decide))) .nil))
    have t4 : sm3.length = sm2.length + 2 := by subst hT'; rw [List.length_append]; rfl
    have hsub4 := hsub3.up (m := .lst sm3) hM4
    repeat (first | refine ⟨leB, ?_⟩ | refine ⟨_, rfl, ?_⟩)
    refine ⟨⟨_, mup_same⟩, ?_⟩
    repeat (first | refine ⟨leB, ?_⟩ | refine ⟨_, rfl, ?_⟩)
    have cs := @cut_len ss none (some (-1))
    refine ⟨(by show _ + 1 ≤ 100000; omega), ?_⟩
    repeat (first | refine ⟨leB, ?_⟩ | refine ⟨_, rfl, ?_⟩)
    refine ⟨_, _, rfl, rfl, (by show 1 + _ ≤ 100000; omega), ?_⟩
    repeat (first | refine ⟨leB, ?_⟩ | refine ⟨_, rfl, ?_⟩)
    refine ⟨sm3, mup_same, (by omega), ?_⟩
    rw [mup_mup]
    have hst : Lv 3 (.tup (DL.cutD ss none (some (-1)) ++ [bad])) := .tup (j := 2) (by rw [List.length_append]; show _ + 1 ≤ 4; omega) (.append (hss.mono (by decide)).cut (.cons hbad .nil))
    generalize hT2 : sm3 ++ [D.tup [.lst ([.tup [.int ci, .tup (DL.cutD ss none (some (-1)) ++ [bad])]] ++ DL.cutD ls (some 1) none), .tup ps, .int i]] = sm4
    have t5 : LvAll 6 sm4 := by
      subst hT2
      exact .append t3 (.cons (hR (.tup (j := 3) leB (.cons hci (.cons hst .nil)))) .nil)
    have t6 : sm4.length = sm3.length + 1 := by subst hT2; rw [List.length_append]; rfl
    repeat (first | refine ⟨leB, ?_⟩ | refine ⟨_, rfl, ?_⟩)
    refine ⟨⟨_, mup_same⟩, ?_⟩
    repeat (first | refine ⟨leB, ?_⟩ | refine ⟨_, rfl, ?_⟩)
    refine ⟨-1, ci, rfl, rfl, True.intro, ?_⟩
    repeat (first | refine ⟨leB, ?_⟩ | refine ⟨_, rfl, ?_⟩)
    refine ⟨_, _, rfl, rfl, (by show _ + 1 ≤ 100000; omega), ?_⟩
    repeat (first | refine ⟨leB, ?_⟩ | refine ⟨_, rfl, ?_⟩)
    refine ⟨sm4, mup_same, (by omega), ?_⟩
    rw [mup_mup]
    exact hN _ _ ⟨q4, _, _, _, _, rfl, mup_same, .append t5 (.cons (hR' ((Lv.tup (j := 1) leB (.cons (.int (by omega) (by omega)) (.cons hs1' .nil))).mono (by decide))) .nil), by rw [List.length_append]; omega, by rw [List.length_append]; show _ + 1 + _ ≤ 60; omega, hM4, hsub3.up hM4, fun y hy => hr' y (List.mem_cons_of_mem _ hy)⟩
  · rintro ρ μ' ⟨q2, sm, x', y', z', rfl, hq, hsm, hs1, hsl, hMq, hsub, hr'⟩
    repeat (first | refine ⟨leB, ?_⟩ | refine ⟨_, rfl, ?_⟩)
    refine ⟨⟨_, hq⟩, ?_⟩
    repeat (first | refine ⟨leB, ?_⟩ | refine ⟨_, rfl, ?_⟩)
    have cs := @cut_len ps none (some (-1))
    refine ⟨(by show _ + 1 ≤ 100000; omega), ?_⟩
    repeat (first | refine ⟨leB, ?_⟩ | refine ⟨_, rfl, ?_⟩)
    have hsl' : sm.length ≤ 60 := by simpa using hsl
    refine ⟨sm, hq, (by omega), ?_⟩
    have hst : Lv 5 (.tup (DL.cutD ps none (some (-1)) ++ [bad])) := (Lv.tup (j := 2) (by rw [List.length_append]; show _ + 1 ≤ 4; omega) (.append (hps.mono (by decide)).cut (.cons hbad .nil))).mono (by decide)
    generalize hT : sm ++ [D.tup [.lst ls, .tup (DL.cutD ps none (some (-1)) ++ [bad]), .int i]] = sm2
    have t1 : LvAll 6 sm2 := by
      subst hT
      exact .append hsm (.cons (.tup leB (.cons hL5 (.cons hst (.cons hi5 .nil)))) .nil)
    have t2 : sm2.length = sm.length + 1 := by subst hT; rw [List.length_append]; rfl
    have haq : a ≠ q2 := fun z => by rw [z, hMq] at hMa; cases hMa
    have hPa : Pu (b + 10 + 10) (mup μ' q2 (.lst sm2)) a := by
      obtain ⟨p0, p1, p2, e, r⟩ := hP2
      exact ⟨p0, p1, p2, by rw [mup_ne haq]; exact hsub a _ e, r⟩
    repeat (first | refine ⟨leB, ?_⟩ | refine ⟨_, rfl, ?_⟩)
    refine ⟨_, asS_m mup_same, ?_⟩
    refine ⟨a, sm2.length, b + 10 + 10, rfl, by omega, by omega, by omega, hPa, fun k3 l3 k30 k31 hP3 => ?_⟩
    obtain ⟨d, hdm, hde⟩ := atI_mem k30 k31
    refine ⟨sm2, k3, d, asS_m (by rw [mup_ne haq.symm, mup_same]), rfl, hde, mup μ a (.lst l3), fun x m hx => ?_, q d l3 (t1 d hdm) ?_⟩
    · by_cases h : x = a
      · subst h; rw [mup_same] at hx ⊢; exact hx
      · rw [mup_ne h] at hx ⊢
        have hxM : M x = some m := by rw [← hM, mup_ne h]; exact hx
        rw [mup_ne (fun z => by rw [z, hMq] at hxM; cases hxM)]
        exact hsub x m hxM
    · obtain ⟨p0, p1, p2, e, r1, r2, r3, r4⟩ := hP3
      rw [mup_same] at e
      exact ⟨p0, p1, p2, by rw [mup_same]; exact e, r1, r2, r3, by omega⟩
end
end K2
namespace K2
open PySem PySem.Spec PyProof.Rows L2 DL
section
variable {P : Program} {w : World} {K : PySem.W.Frag} {mg : Str → Option Value} {base : Heap}
def spRight : DSp := fun ds μ Q _ => ∃ d m, ds = [d, .int m] ∧ Pl d ∧ 1 ≤ m ∧ m ≤ 3 ∧ Q (.bl true) μ
theorem len__law_right : dlen spRight 2 := fun ds μ Q Y ⟨d, n, e, _⟩ => by rw [e]; rfl
def spRefused : DSp := fun ds μ Q _ => ∃ d m, ds = [d, m] ∧ Pl d ∧ Pl m ∧ isAxes m = false ∧ Q (.bl true) μ
theorem len__law_refused : dlen spRefused 2 := fun ds μ Q Y ⟨d, n, e, _⟩ => by rw [e]; rfl
theorem ok__law_right (T : Tx K mg) : FnG P w K mg base CX0 5 T.f__law_right T.fd__law_right P__law_right (spD spRight) :=
  fnGD T.F__law_right sc__law_right len__law_right fun cdv A outer s H E hG hr => by
  have hu := hr.units
  haveI : Amb := amb0
  have sc := sc__law_right
  refine ⟨_, (pss_cons (ps_set (i := 2) sc.nd rfl (by first | exact Or.inl rfl | exact Or.inr rfl) ((pe_callB (call_reprD hG hu) rfl T.n_repr (by decide +kernel) (pa_cons (pv 0) pa_nil)))) (pss_cons (ps_set (i := 3) sc.nd rfl (by first | exact Or.inl rfl | exact Or.inr rfl) ((pe_lst (pa_cons ((pe_call (ok_is_cell T) (hr.mono (by decide)) rfl T.g_is_cell T.F_is_cell.kp T.b_is_cell .nil passL (pa_cons (pv 0) (pa_cons (pv 1) pa_nil)))) (pa_cons ((pe_call (ok_is_nest T) (hr.mono (by decide)) rfl T.g_is_nest T.F_is_nest.kp T.b_is_nest .nil passL (pa_cons (pv 0) (pa_cons (pv 1) pa_nil)))) pa_nil))))) (pss_one (ps_ret ((pe_and ((pe_cmpR (op_eqX hu) ((pe_callB (call_reprD hG hu) rfl T.n_repr (by decide +kernel) (pa_cons (pv 3) pa_nil))) ((pe_callB (call_reprD hG hu) rfl T.n_repr (by decide +kernel) (pa_cons ((pe_lst (pa_cons ((pe_call (ok__law_is_cell T) (hr.mono (by decide)) rfl T.g__law_is_cell T.F__law_is_cell.kp T.b__law_is_cell .nil pass0 (pa_cons (pv 0) (pa_cons (pv 1) pa_nil)))) (pa_cons ((pe_call (ok__law_is_nest T) (hr.mono (by decide)) rfl T.g__law_is_nest T.F__law_is_nest.kp T.b__law_is_nest .nil pass0 (pa_cons (pv 0) (pa_cons (pv 1) pa_nil)))) pa_nil)))) pa_nil))) (nomark _))) (pe_one ((pe_cmpR (op_eqX hu) ((pe_callB (call_reprD hG hu) rfl T.n_repr (by decide +kernel) (pa_cons (pv 0) pa_nil))) (pv 2) (nomark _)))))))))), fun AM Y => ?_⟩
  refine ⟨_, (ls_seq (ls_asg ((l_cb lc_repr (l_cons (l_var) l_nil))) lg_name) (ls_seq (ls_asg ((l_lst (l_cons ((l_call XOk.never (l_cons (l_var) (l_cons (l_var) l_nil)))) (l_cons ((l_call XOk.never (l_cons (l_var) (l_cons (l_var) l_nil)))) l_nil)))) lg_name) (ls_ret ((l_andV ((l_op l2_eqX ((l_cb lc_repr (l_cons (l_var) l_nil))) ((l_cb lc_repr (l_cons ((l_lst (l_cons ((l_call XOk.never (l_cons (l_var) (l_cons (l_var) l_nil)))) (l_cons ((l_call XOk.never (l_cons (l_var) (l_cons (l_var) l_nil)))) l_nil)))) l_nil))))) ((l_op l2_eqX ((l_cb lc_repr (l_cons (l_var) l_nil))) (l_var)))))))), fun xs μ Kk h => ?_⟩
  obtain ⟨d, m, rfl, hp, m1, m2, q⟩ := h
  obtain ⟨p, py, h1, h2, h3⟩ := hp.py
  have hv : ∀ μ, Vw μ d p := fun μ => .py py
  refine ⟨d, rfl, d, p, rfl, hv _, h1, h2, h3, ?_⟩
  have hm : Pl (.int m) := (Lv.int (j := 0) (by omega) (by omega)).pl (by decide)
  have hx : isAxes (.int m) = true := by simp [isAxes, m1, m2]
  have no : ∀ {A : Prop}, isAxes (.int m) = false → A := fun e => by rw [hx] at e; cases e
  obtain ⟨p2, py2, g1, g2, g3⟩ := ((Lv.lst (j := 0) (ds := [.bl (isVec m d), .bl (isNest m d)]) leB (.cons .bl (.cons .bl .nil))).pl (by decide)).py
  refine ⟨d, rfl, .int m, rfl, d, .int m, rfl, hp, hm, fun n e _ => ?_, no⟩
  cases e
  refine ⟨d, rfl, .int m, rfl, d, .int m, rfl, hp, hm, fun n e _ => ?_, no⟩
  cases e
  refine ⟨leB, _, rfl, _, p2, rfl, .py py2, g1, g2, g3, d, rfl, .int m, rfl, d, m, rfl, hp, d, rfl, .int m, rfl, d, m, rfl, hp, leB, _, p2, rfl, .py py2, g1, g2, g3, ?_⟩
  refine .inl ⟨_, rfl, _, rfl, and_if (fun _ => ?_) fun e => ?_⟩
  · refine ⟨d, rfl, _, p, rfl, hv _, h1, h2, h3, _, rfl, .inl ⟨_, rfl, ?_⟩⟩
    exact bl_of q (by simp)
  · simp at e
theorem ok__law_refused (T : Tx K mg) : FnG P w K mg base CX0 5 T.f__law_refused T.fd__law_refused P__law_refused (spD spRefused) :=
  fnGD T.F__law_refused sc__law_refused len__law_refused fun cdv A outer s H E hG hr => by
  have hu := hr.units
  haveI : Amb := amb0
  have sc := sc__law_refused
  refine ⟨_, (pss_cons (ps_for PassesOwn.never rfl (pi_range1 rfl T.n_range (pa_cons (pe_int) pa_nil)) (pg_name (i := 2) sc.nd rfl (by first | exact Or.inl rfl | exact Or.inr rfl)) (pss_cons (ps_set (i := 3) sc.nd rfl (by first | exact Or.inl rfl | exact Or.inr rfl) (pe_non)) (pss_cons (ps_try_keep (i := 4) (j := 3) rfl rfl sc.nd rfl rfl rfl rfl rfl ⟨rfl, by decide, .inl T.g_AddError⟩ takes0 (fun W pn xe tk _ => (pss_one (ps_expr ((pe_tab2 (W := W) (ok_is_cell T) (ok_is_nest T) (hr.mono (by decide)) (hr.mono (by decide)) T.F_is_cell.kp T.F_is_nest.kp T.b_is_cell T.b_is_nest (fun σ => passAt tk σ) ((pe_ix (k_ix (K := K) rfl) ((pe_lst (pa_cons ((pe_glob (v := .ref T.f_is_cell) rfl T.g_is_cell rfl)) (pa_cons ((pe_glob (v := .ref T.f_is_nest) rfl T.g_is_nest rfl)) pa_nil)))) (pv 2) (fun _ _ => rfl))) (pa_cons (pv 0) (pa_cons (pv 1) pa_nil)))))))) (pss_one (ps_if (PW.pt (pw_or (pt_not (pt_val ((pe_callB call_isP rfl T.n_isinstance (by decide +kernel) (pa_cons (pv 3) (pa_cons ((pe_glob (v := .ref T.C_InvalidNumber) rfl T.g_InvalidNumber rfl)) pa_nil)))))) (pw_or1 (pt_cmpR (op_neX hu) ((pe_callB (call_reprD hG hu) rfl T.n_repr (by decide +kernel) (pa_cons ((pe_att (pv 3) rfl)) pa_nil))) ((pe_callB (call_reprD hG hu) rfl T.n_repr (by decide +kernel) (pa_cons (pv 1) pa_nil))) (nomark _))))) (pss_one (ps_ret (pe_bl))) pss_nil))))) (pss_one (ps_ret (pe_bl)))), fun AM Y => ?_⟩
  refine ⟨_, (ls_seq (ls_for (li_rg1 (l_cons (l_int) l_nil)) lg_name (ls_seq (ls_asg (l_non) lg_name) (ls_seq (ls_tryKeep (by decide) (fun A' W Y hx => (ls_drop ((l_tab2 hx ((l_op l2_ix ((l_lst (l_cons (l_val) (l_cons (l_val) l_nil)))) (l_var))) (l_cons (l_var) (l_cons (l_var) l_nil))))))) (ls_if (l_or (l_not (l_tB ((l_cb lc_isP (l_cons (l_var) (l_cons (l_val) l_nil)))))) (l_test (l_op l2_eqX ((l_cb lc_repr (l_cons ((l_att (l_var))) l_nil))) ((l_cb lc_repr (l_cons (l_var) l_nil)))))) (ls_ret (l_bl)) ls_next)))) (ls_ret (l_bl))), fun xs μ Kk h => ?_⟩
  obtain ⟨d, m, rfl, hp, hm, ha, q⟩ := h
  obtain ⟨p, py, h1, h2, h3⟩ := hm.py
  have no : ∀ n, m = D.int n → isAxes m = true → False := fun n _ e => by rw [ha] at e; cases e
  have hc : ∀ (N : Ro → Mu → Prop) (E' : DEnds) (y z : Option D) (k : D), N [some d, some m, some k, some (D.exc T.C_InvalidNumber [("value", m)]), none] μ → E'.nx = N →
      dIfS (dOr (dNot (dTest (dCB (fIsP K) (dCons (dVar 3) (dCons (dC (D.val (V.ref T.C_InvalidNumber))) dNil))))) (dTest (dOp (fEqX true) (dCB fRepr (dCons (dAtt K "value" (dVar 3)) dNil)) (dCB fRepr (dCons (dVar 1) dNil)))))
        (dRet (dC (D.bl false))) dNext E' [some d, some m, some k, some (D.exc T.C_InvalidNumber [("value", m)]), none] μ := fun N E' y z k hN e => by
    refine ⟨_, rfl, .inr ⟨T.C_InvalidNumber, _, _, _, true, rfl, rfl, T.xk, T.xi, _, rfl, and_if (fun e => by cases e) fun _ => ?_⟩⟩
    refine ⟨_, rfl, .inl ⟨T.C_InvalidNumber, _, m, rfl, T.xk, T.e_InvalidNumber.noF, by simp [List.lookup], m, p, rfl, .py py, h1, h2, h3, m, rfl, m, p, rfl, .py py, h1, h2, h3, .inl ⟨_, rfl, _, rfl, and_if (fun e => by simp at e) fun _ => ?_⟩⟩⟩
    show E'.nx _ _
    rw [e]; exact hN
  refine ⟨2, rfl, by decide, by decide, ?_⟩
  refine loop_by (I := fun r ρ μ' => ∃ (x y z : Option D), ρ = [some d, some m, x, y, z] ∧ μ' = μ ∧ ∀ k ∈ r, k = .int 0 ∨ k = .int 1) (fun _ _ _ _ => True.intro) ?_ ?_ _ _ _ ⟨none, none, none, rfl, rfl, fun k hk => ?_⟩
  · rintro x r ρ μ' N ⟨x', y', z', rfl, rfl, hr'⟩ hN
    have hN' : ∀ k : D, N [some d, some m, some k, some (D.exc T.C_InvalidNumber [("value", m)]), none] μ' := fun k => hN _ _ ⟨_, _, _, rfl, rfl, fun k hk => hr' k (List.mem_cons_of_mem _ hk)⟩
    rcases hr' x List.mem_cons_self with rfl | rfl
    · refine ⟨leB, _, rfl, _, 0, _, rfl, rfl, rfl, .inl ⟨rfl, d, rfl, m, rfl, d, m, rfl, hp, hm, fun n e h => (no n e h).elim, fun _ => ⟨T.xm, leB, ?_⟩⟩⟩
      exact hc N _ none none _ (hN' _) rfl
    · refine ⟨leB, _, rfl, _, 1, _, rfl, rfl, rfl, .inr ⟨rfl, d, rfl, m, rfl, d, m, rfl, hp, hm, fun n e h => (no n e h).elim, fun _ => ⟨T.xm, leB, ?_⟩⟩⟩
      exact hc N _ none none _ (hN' _) rfl
  · rintro ρ μ' ⟨x', y', z', rfl, rfl, hr'⟩
    exact q
  · have e : rgD 0 (2 : Int).toNat = [.int 0, .int 1] := rfl
    rw [e] at hk
    simpa using hk
end
end K2
namespace K2
open PySem PySem.Spec PyProof.Rows L2 DL
section
variable {P : Program} {w : World} {K : PySem.W.Frag} {mg : Str → Option Value} {base : Heap}
theorem len_law {K : PySem.W.Frag} : dlen (spLawD K) 1 := fun ds μ Q Y ⟨n, e, _⟩ => by rw [e]; rfl
theorem CellOk.vec {n : Nat} {w : Int} {d : D} (h : CellOk n w d) : isVec n d = true := by
  obtain ⟨is, rfl, hl, hi⟩ := h
  show (decide (((is.map D.int).length : Int) = n) && (is.map D.int).all isWhole) = true
  rw [List.length_map, hl, decide_eq_true rfl, Bool.true_and, List.all_eq_true]
  intro x hx
  obtain ⟨i, _, rfl⟩ := List.mem_map.1 hx
  rfl
theorem LoopOk.loop {n : Nat} {c w : Int} {d : D} (h : LoopOk n c w d) : isLoop n d = true := by
  obtain ⟨i, s, rfl, i0, _, hs⟩ := h
  show (decide (0 ≤ i) && isVec n s) = true
  rw [decide_eq_true i0, CellOk.vec hs]; rfl
theorem NestOk.nest {n : Nat} {c w : Int} {d : D} (h : NestOk n c w d) : isNest n d = true := by
  obtain ⟨ls, p, i, rfl, _, hl, hp, _⟩ := h
  show (ls.all (isLoop n) && isVec n p && true) = true
  rw [CellOk.vec hp, Bool.and_true, Bool.and_true, List.all_eq_true]
  exact fun x hx => LoopOk.loop (hl x hx)
def sndD : D → D
  | .tup [_, s] => s
  | d => d
theorem pick2 {a b : Int} {k : Int} {c : D} (h : c ∈ [D.int a, D.int b]) : c = .int a ∨ c = .int b := by simpa using h
theorem odd_ok : ∀ d ∈ [D.non, .int 0, .int 4, .int (-1), .bl true, .str "1", .lst [.int 1], .tup [.int 1], .dct []], Pl d ∧ isAxes d = false := by
  have i : ∀ {j : Nat} {z : Int}, -(10 ^ 250) < z → z < 10 ^ 250 → Lv j (.int z) := fun h1 h2 => Lv.int h1 h2
  have h : LvAll 1 [D.non, .int 0, .int 4, .int (-1), .bl true, .str "1", .lst [.int 1], .tup [.int 1], .dct []] :=
    .cons .non (.cons (i (by decide) (by decide)) (.cons (i (by decide) (by decide)) (.cons (i (by decide) (by decide)) (.cons .bl (.cons (.str (by decide +kernel)) (.cons (.lst leB (.cons (i (by decide) (by decide)) .nil)) (.cons (.tup leB (.cons (i (by decide) (by decide)) .nil)) (.cons .emp .nil))))))))
  intro d hd
  refine ⟨(h d hd).pl (by decide), ?_⟩
  simp only [List.mem_cons, List.not_mem_nil, or_false] at hd
  rcases hd with rfl | rfl | rfl | rfl | rfl | rfl | rfl | rfl | rfl <;> rfl
theorem few_ok : LvAll 6 [D.non, .int 0, .str "cell", .tup [], .lst [], .tup [.tup [], .tup [], .int 0], .dct []] := by
  have i : ∀ {j : Nat} {z : Int}, -(10 ^ 250) < z → z < 10 ^ 250 → Lv j (.int z) := fun h1 h2 => Lv.int h1 h2
  exact .cons .non (.cons (i (by decide) (by decide)) (.cons (.str (by decide +kernel)) (.cons (.tup leB .nil) (.cons (.lst leB .nil) (.cons (.tup leB (.cons (.tup leB .nil) (.cons (.tup leB .nil) (.cons (i (by decide) (by decide)) .nil)))) (.cons .emp .nil))))))
theorem ok_law (T : Tx K mg) : FnG P w K mg base CX0 6 T.f_law T.fd_law P_law (spD (spLawD K)) :=
  fnGD T.F_law sc_law len_law fun cdv A outer s H E hG hr => by
  have hu := hr.units
  haveI : Amb := amb0
  have sc := sc_law
  refine ⟨_, (pss_cons (ps_for PassesOwn.never rfl (pi_range1 rfl T.n_range (pa_cons (pe_int) pa_nil)) (pg_name (i := 1) sc.nd rfl (by first | exact Or.inl rfl | exact Or.inr rfl)) (pss_cons (ps_set (i := 2) sc.nd rfl (by first | exact Or.inl rfl | exact Or.inr rfl) ((pe_call (ok__law_purse T) (hr.mono (by decide)) rfl T.g__law_purse T.F__law_purse.kp T.b__law_purse .nil pass0 (pa_cons (pv 0) (pa_cons (pv 1) pa_nil))))) (pss_cons (ps_set (i := 3) sc.nd rfl (by first | exact Or.inl rfl | exact Or.inr rfl) ((pe_op op_addD (pe_int) ((pe_call (ok__law_draw T) (hr.mono (by decide)) rfl T.g__law_draw T.F__law_draw.kp T.b__law_draw .nil pass0 (pa_cons (pv 2) (pa_cons (pe_int) pa_nil))))))) (pss_cons (ps_set (i := 4) sc.nd rfl (by first | exact Or.inl rfl | exact Or.inr rfl) ((pe_call (ok__law_nest_drawn T) (hr.mono (by decide)) rfl T.g__law_nest_drawn T.F__law_nest_drawn.kp T.b__law_nest_drawn .nil pass0 (pa_cons (pv 2) (pa_cons (pv 3) (pa_cons (pe_int) (pa_cons ((pe_ix ix_seq ((pe_lst (pa_cons (pe_int) (pa_cons ((pe_op op_powD (pe_int) (pe_int))) pa_nil)))) ((pe_call (ok__law_draw T) (hr.mono (by decide)) rfl T.g__law_draw T.F__law_draw.kp T.b__law_draw .nil pass0 (pa_cons (pv 2) (pa_cons (pe_int) pa_nil)))) (fun _ _ => rfl))) (pa_cons ((pe_ix ix_seq ((pe_lst (pa_cons (pe_int) (pa_cons ((pe_op op_powD (pe_int) (pe_int))) pa_nil)))) ((pe_call (ok__law_draw T) (hr.mono (by decide)) rfl T.g__law_draw T.F__law_draw.kp T.b__law_draw .nil pass0 (pa_cons (pv 2) (pa_cons (pe_int) pa_nil)))) (fun _ _ => rfl))) pa_nil)))))))) (pss_cons (ps_set (i := 5) sc.nd rfl (by first | exact Or.inl rfl | exact Or.inr rfl) ((pe_op op_addD ((pe_lst (pa_cons (pv 4) (pa_cons ((pe_ix ix_seq (pv 4) (pe_int) (fun _ _ => rfl))) (pa_cons ((pe_ix ix_seq (pv 4) (pe_int) (fun _ _ => rfl))) (pa_cons ((pe_ix ix_seq (pv 4) (pe_int) (fun _ _ => rfl))) pa_nil)))))) ((pe_lc (own := [("_law_turn", 6)]) (g := (gName 6)) rfl sc.nd (pi_range1 rfl T.n_range (pa_cons (pe_int) pa_nil)) (blkOk_by (own := [("_law_turn", 6)]) (N := N_law) (sc := defScope s_law) (by decide +kernel)) (fun _ _ _ _ _ => (pg_name (i := 6) sc.nd rfl (by first | exact Or.inl rfl | exact Or.inr rfl))) (fun _ _ _ _ _ => pts_nil) (fun _ _ _ _ _ => (pe_call (ok__law_bent T) (hr.mono (by decide)) rfl T.g__law_bent T.F__law_bent.kp T.b__law_bent .nil pass0 (pa_cons (pv 2) (pa_cons (pv 4) pa_nil))))))))) (pss_cons (ps_for PassesOwn.never rfl (pi_seq ((pe_op op_addD ((pe_op op_addD (pv 5) ((pe_lc (own := [("_law_loop", 8)]) (g := (gName 8)) rfl sc.nd (pi_seq ((pe_ix ix_seq (pv 4) (pe_int) (fun _ _ => rfl)))) (blkOk_by (own := [("_law_loop", 8)]) (N := N_law) (sc := defScope s_law) (by decide +kernel)) (fun _ _ _ _ _ => (pg_name (i := 8) sc.nd rfl (by first | exact Or.inl rfl | exact Or.inr rfl))) (fun _ _ _ _ _ => pts_nil) (fun _ _ _ _ _ => (pe_ix (k_ix (K := K) rfl) (pv 8) (pe_int) (fun _ _ => rfl))))))) ((pe_lst (pa_cons (pe_non) (pa_cons (pe_int) (pa_cons (pe_str) (pa_cons ((pe_tup pa_nil)) (pa_cons ((pe_lst pa_nil)) (pa_cons ((pe_tup (pa_cons ((pe_tup pa_nil)) (pa_cons ((pe_tup pa_nil)) (pa_cons (pe_int) pa_nil))))) (pa_cons (pe_dnewK) pa_nil)))))))))))) (pg_name (i := 7) sc.nd rfl (by first | exact Or.inl rfl | exact Or.inr rfl)) (pss_one (ps_for PassesOwn.never rfl (pi_seq ((pe_lst (pa_cons (pe_int) (pa_cons (pe_int) (pa_cons (pe_int) pa_nil)))))) (pg_name (i := 9) sc.nd rfl (by first | exact Or.inl rfl | exact Or.inr rfl)) (pss_one (ps_if (pt_not (pt_val ((pe_callG (ok__law_right T) hG (hr.mono (by decide)) rfl T.g__law_right T.F__law_right.kp T.b__law_right pass0 (pa_cons (pv 7) (pa_cons (pv 9) pa_nil)))))) (pss_one (ps_ret (pe_bl))) pss_nil))))) (pss_cons (ps_if (PW.pt (pw_or (pt_not (pt_val ((pe_call (ok_is_nest T) (hr.mono (by decide)) rfl T.g_is_nest T.F_is_nest.kp T.b_is_nest .nil passL (pa_cons (pv 4) (pa_cons (pv 3) pa_nil)))))) (pw_or1 (pt_not (pt_val ((pe_call (ok_is_cell T) (hr.mono (by decide)) rfl T.g_is_cell T.F_is_cell.kp T.b_is_cell .nil passL (pa_cons ((pe_ix ix_seq (pv 4) (pe_int) (fun _ _ => rfl))) (pa_cons (pv 3) pa_nil))))))))) (pss_one (ps_ret (pe_bl))) pss_nil) (pss_one (ps_for PassesOwn.never rfl (pi_seq ((pe_lst (pa_cons (pe_non) (pa_cons (pe_int) (pa_cons (pe_int) (pa_cons ((pe_un un_neg (pe_int))) (pa_cons (pe_bl) (pa_cons (pe_str) (pa_cons ((pe_lst (pa_cons (pe_int) pa_nil))) (pa_cons ((pe_tup (pa_cons (pe_int) pa_nil))) (pa_cons (pe_dnewK) pa_nil)))))))))))) (pg_name (i := 10) sc.nd rfl (by first | exact Or.inl rfl | exact Or.inr rfl)) (pss_one (ps_if (PW.pt (pw_or (pt_not (pt_val ((pe_callG (ok__law_refused T) hG (hr.mono (by decide)) rfl T.g__law_refused T.F__law_refused.kp T.b__law_refused pass0 (pa_cons (pv 4) (pa_cons (pv 10) pa_nil)))))) (pw_or1 (pt_not (pt_val ((pe_callG (ok__law_refused T) hG (hr.mono (by decide)) rfl T.g__law_refused T.F__law_refused.kp T.b__law_refused pass0 (pa_cons (pe_non) (pa_cons (pv 10) pa_nil))))))))) (pss_one (ps_ret (pe_bl))) pss_nil))))))))))) (pss_one (ps_ret (pe_bl)))), fun AM Y => ?_⟩
  refine ⟨_, (ls_seq (ls_for (li_rg1 (l_cons (l_int) l_nil)) lg_name (ls_seq (ls_asg ((l_call XOk.never (l_cons (l_var) (l_cons (l_var) l_nil)))) lg_name) (ls_seq (ls_asg ((l_op l2_add (l_int) ((l_call XOk.never (l_cons (l_var) (l_cons (l_int) l_nil)))))) lg_name) (ls_seq (ls_asg ((l_call XOk.never (l_cons (l_var) (l_cons (l_var) (l_cons (l_int) (l_cons ((l_op l2_ix ((l_lst (l_cons (l_int) (l_cons ((l_op l2_pow (l_int) (l_int))) l_nil)))) ((l_call XOk.never (l_cons (l_var) (l_cons (l_int) l_nil)))))) (l_cons ((l_op l2_ix ((l_lst (l_cons (l_int) (l_cons ((l_op l2_pow (l_int) (l_int))) l_nil)))) ((l_call XOk.never (l_cons (l_var) (l_cons (l_int) l_nil)))))) l_nil))))))) lg_name) (ls_seq (ls_asg ((l_op l2_add ((l_lst (l_cons (l_var) (l_cons ((l_op l2_ix (l_var) (l_int))) (l_cons ((l_op l2_ix (l_var) (l_int))) (l_cons ((l_op l2_ix (l_var) (l_int))) l_nil)))))) ((l_comp (li_rg1 (l_cons (l_int) l_nil)) (lgw_name (by decide)) l_yes ((l_call XOk.never (l_cons (l_var) (l_cons (l_var) l_nil)))))))) lg_name) (ls_seq (ls_for (li_seq ((l_op l2_add ((l_op l2_add (l_var) ((l_comp (li_seq ((l_op l2_ix (l_var) (l_int)))) (lgw_name (by decide)) l_yes ((l_op l2_ix (l_var) (l_int))))))) ((l_lst (l_cons (l_non) (l_cons (l_int) (l_cons (l_str) (l_cons ((l_tup l_nil)) (l_cons ((l_lst l_nil)) (l_cons ((l_tup (l_cons ((l_tup l_nil)) (l_cons ((l_tup l_nil)) (l_cons (l_int) l_nil))))) (l_cons (l_emp) l_nil)))))))))))) lg_name (ls_for (li_seq ((l_lst (l_cons (l_int) (l_cons (l_int) (l_cons (l_int) l_nil)))))) lg_name (ls_if (l_not (l_tB ((l_call XOk.never (l_cons (l_var) (l_cons (l_var) l_nil)))))) (ls_ret (l_bl)) ls_next))) (ls_seq (ls_if (l_or (l_not (l_tB ((l_call XOk.never (l_cons (l_var) (l_cons (l_var) l_nil)))))) (l_not (l_tB ((l_call XOk.never (l_cons ((l_op l2_ix (l_var) (l_int))) (l_cons (l_var) l_nil))))))) (ls_ret (l_bl)) ls_next) (ls_for (li_seq ((l_lst (l_cons (l_non) (l_cons (l_int) (l_cons (l_int) (l_cons ((l_un l1_neg (l_int))) (l_cons (l_bl) (l_cons (l_str) (l_cons ((l_lst (l_cons (l_int) l_nil))) (l_cons ((l_tup (l_cons (l_int) l_nil))) (l_cons (l_emp) l_nil)))))))))))) lg_name (ls_if (l_or (l_not (l_tB ((l_call XOk.never (l_cons (l_var) (l_cons (l_var) l_nil)))))) (l_not (l_tB ((l_call XOk.never (l_cons (l_non) (l_cons (l_var) l_nil))))))) (ls_ret (l_bl)) ls_next))))))))) (ls_ret (l_bl))), fun xs μ Kk h => ?_⟩
  obtain ⟨ns, rfl, hn, q⟩ := h
  have noA : ∀ {n : Int} {A : Prop}, 1 ≤ n → n ≤ 3 → isAxes (.int n) = false → A := fun h1 h2 e => by simp [isAxes, h1, h2] at e
  refine ⟨4, rfl, by decide, by decide, ?_⟩
  refine loop_by (I := fun r ρ μ' => ∃ (x1 x2 x3 x4 x5 x6 x7 x8 x9 x10 : Option D), ρ = [some (D.scr K ns), x1, x2, x3, x4, x5, x6, x7, x8, x9, x10] ∧ ∀ k ∈ r, ∃ i : Int, k = .int i ∧ 0 ≤ i ∧ i ≤ 3) (fun _ _ _ _ => True.intro) ?_ ?_ _ _ _
    ⟨none, none, none, none, none, none, none, none, none, none, rfl, fun k hk => ?_⟩
  · rintro x r ρ μ1 N ⟨x1, x2, x3, x4, x5, x6, x7, x8, x9, x10, rfl, hr'⟩ hN
    obtain ⟨i, rfl, i0, i1⟩ := hr' x List.mem_cons_self
    replace hN : ∀ (x1 x2 x3 x4 x5 x6 x7 x8 x9 x10 : Option D) μ', N [some (D.scr K ns), x1, x2, x3, x4, x5, x6, x7, x8, x9, x10] μ' := fun x1 x2 x3 x4 x5 x6 x7 x8 x9 x10 μ' => hN _ _ ⟨x1, x2, x3, x4, x5, x6, x7, x8, x9, x10, rfl, fun k hk => hr' k (List.mem_cons_of_mem _ hk)⟩
    refine ⟨_, rfl, .int i, rfl, ns, i, rfl, i0, by omega, fun a l ha hP => ?_⟩
    refine ⟨_, rfl, a, 3, 100000, rfl, by decide, by decide, by decide, hP, fun m l1 m0 m1 hP1 => ?_⟩
    rw [mup_mup] at hP1 ⊢
    obtain ⟨n, hn⟩ := Int.eq_ofNat_of_zero_le (show 0 ≤ 1 + m by omega)
    refine ⟨_, rfl, _, rfl, 10, 40, rfl, rfl, ⟨by decide, by decide⟩, leB, _, rfl, a, 2, 100010, rfl, by decide, by decide, by decide, hP1, fun k l2 k0 k1 hP2 => ?_⟩
    rw [mup_mup] at hP2 ⊢
    obtain ⟨c, hc, ec⟩ := atI_mem (xs := [D.int 4, .int (10 ^ (40 : Int).toNat)]) k0 k1
    refine ⟨_, k, c, rfl, rfl, ec, ?_⟩
    obtain ⟨cc, rfl, cc1, cc2⟩ : ∃ cc : Int, c = .int cc ∧ 1 ≤ cc ∧ cc < 2 ^ 190 := by
      rcases pick2 (k := 0) hc with rfl | rfl
      · exact ⟨_, rfl, by decide, by decide⟩
      · exact ⟨_, rfl, by decide, by decide⟩
    refine ⟨10, 39, rfl, rfl, ⟨by decide, by decide⟩, leB, _, rfl, a, 2, 100020, rfl, by decide, by decide, by decide, hP2, fun k' l3 k0' k1' hP3 => ?_⟩
    rw [mup_mup] at hP3 ⊢
    obtain ⟨c', hc', ec'⟩ := atI_mem (xs := [D.int 3, .int (10 ^ (39 : Int).toNat)]) k0' k1'
    refine ⟨_, k', c', rfl, rfl, ec', ?_⟩
    obtain ⟨ww, rfl, ww1, ww2⟩ : ∃ ww : Int, c' = .int ww ∧ 0 ≤ ww ∧ ww < 2 ^ 180 := by
      rcases pick2 (k := 0) hc' with rfl | rfl
      · exact ⟨_, rfl, by decide, by decide⟩
      · exact ⟨_, rfl, by decide, by decide⟩
    have hn3 : n ≤ 3 := by omega
    refine ⟨a, n, cc, ww, 100030, by rw [← hn], hn3, cc1, cc2, ww1, ww2, by decide, hP3, fun e l4 hne hP4 => ?_⟩
    rw [mup_mup] at hP4 ⊢
    obtain ⟨ls, pc, ii, rfl, hll, hls, hpc, ii0, ii1⟩ := id hne
    obtain ⟨ps, rfl, pl, hps⟩ := hpc.lv hn3 (by omega)
    have hl2 : LvAll 2 ls := fun x hx => by
      obtain ⟨j, s, rfl, j0, j1, hs⟩ := hls x hx
      obtain ⟨ss, rfl, sl, hss⟩ := hs.lv hn3 (by omega)
      exact .tup leB (.cons (.int (by omega) (by omega)) (.cons (.tup (by omega) hss) .nil))
    have hii : ∀ {j : Nat}, Lv j (.int ii) := .int (by omega) (by omega)
    have hp1 : Lv 1 (.tup ps) := .tup (by omega) hps
    have hL3 : Lv 3 (.lst ls) := .lst (by omega) hl2
    have hN4 : Lv 4 (.tup [.lst ls, .tup ps, .int ii]) := .tup leB (.cons hL3 (.cons (hp1.mono (by decide)) (.cons hii .nil)))
    generalize hne0 : D.tup [.lst ls, .tup ps, .int ii] = ne at hne hN4 ⊢
    refine ⟨_, rfl, ne, rfl, [.lst ls, .tup ps, .int ii], 0, _, (by subst hne0; rfl), rfl, rfl, ne, rfl, [.lst ls, .tup ps, .int ii], 1, _, (by subst hne0; rfl), rfl, rfl, ne, rfl, [.lst ls, .tup ps, .int ii], 2, _, (by subst hne0; rfl), rfl, rfl, leB, 8, rfl, by decide, by decide, fun c hc => ?_⟩
    have hac : a ≠ c := fun z => by rw [← z, mup_same] at hc; cases hc
    refine comp_inv (fun acc μ'' => LvAll 6 acc ∧ μ'' c = none ∧ Pu (100330 + 30 * acc.length) μ'' a) (fun _ _ h => h.2.1) (fun _ _ _ => True.intro) ?_ leB ⟨.nil, hc, hP4.mono (by simp)⟩ ?_
    · rintro x hx acc μ'' L hl ⟨ha, hcn, hPa⟩ hL
      refine ⟨_, rfl, ne, rfl, a, n, cc, ww, 100330 + 30 * acc.length, ne, rfl, hn3, cc2, ww2, by omega, hne, hPa.up hac, fun d l5 hd hP5 => ?_⟩
      rw [mup_comm hac.symm] at hP5 ⊢
      refine hL d _ ⟨.append ha (.cons hd .nil), by rw [mup_ne hac.symm]; exact hcn, ?_⟩
      obtain ⟨p0, p1, p2, e, r1, r2, r3, r4⟩ := hP5
      rw [mup_ne hac] at e
      exact ⟨p0, p1, p2, e, r1, r2, r3, by simp; omega⟩
    rintro bs μ2 ⟨hbs, -, -⟩ hbl
    rw [rgD_length] at hbl
    have hbl' : bs.length = 8 := hbl
    refine ⟨_, _, rfl, rfl, (by show 4 + bs.length ≤ 100000; omega), ?_⟩
    have hth : LvAll 6 ([ne, .lst ls, .tup ps, .int ii] ++ bs) := .append (.cons (hN4.mono (by decide)) (.cons (hL3.mono (by decide)) (.cons (hp1.mono (by decide)) (.cons hii .nil)))) hbs
    have hthl : ([ne, .lst ls, .tup ps, .int ii] ++ bs).length ≤ 12 := by rw [List.length_append]; show 4 + _ ≤ 12; omega
    generalize [ne, .lst ls, .tup ps, .int ii] ++ bs = things at hth hthl ⊢
    refine ⟨_, rfl, ne, rfl, [.lst ls, .tup ps, .int ii], 0, _, (by subst hne0; rfl), rfl, rfl, fun c2 hc2 => comp_map hc2 (fun _ => True.intro) sndD ?_ (by omega) ?_⟩
    · intro x hx μ' L hL
      obtain ⟨j, s, rfl, _⟩ := hls x hx
      exact ⟨_, rfl, [.int j, s], 1, s, rfl, rfl, rfl, hL⟩
    have hsnd : LvAll 6 (ls.map sndD) := fun x hx => by
      obtain ⟨y, hy, rfl⟩ := List.mem_map.1 hx
      obtain ⟨j, s, rfl, j0, j1, hs⟩ := hls y hy
      obtain ⟨ss, rfl, sl, hss⟩ := hs.lv hn3 (by omega)
      exact (Lv.tup (j := 0) (by omega) hss).mono (by decide)
    refine ⟨things, _, rfl, rfl, (by rw [List.length_map]; omega), leB, leB, leB, leB, leB, leB, things ++ ls.map sndD, _, rfl, rfl, (by rw [List.length_append, List.length_map]; show _ + _ + 7 ≤ 100000; omega), ?_⟩
    have hall := hth.append (hsnd.append few_ok)
    rw [← List.append_assoc] at hall
    generalize (things ++ ls.map sndD) ++ [D.non, .int 0, .str "cell", .tup [], .lst [], .tup [.tup [], .tup [], .int 0], .dct []] = all at hall ⊢
    have hNpl : Pl ne := hN4.pl (by decide)
    have hmpl : Pl (D.int (1 + m)) := (Lv.int (j := 0) (by omega) (by omega)).pl (by decide)
    have hmax : ∀ {A : Prop}, isAxes (D.int (1 + m)) = false → A := fun e => noA (by omega) (by omega) e
    have hnest : isNest (1 + m) ne = true := by rw [hn]; exact NestOk.nest hne
    have hvec : isVec (1 + m) (.tup ps) = true := by rw [hn]; exact CellOk.vec hpc
    refine loop_by (I := fun r ρ μ' => ∃ y7 y9 : Option D, ρ = [some (D.scr K ns), some (D.int i), some (D.val (V.ref a)), some (D.int (1 + m)), some ne, some (D.lst things), x6, y7, x8, y9, x10] ∧ LvAll 6 r) (fun _ _ _ _ => True.intro) ?_ ?_ _ _ _ ⟨x7, x9, rfl, hall⟩
    · rintro x r' ρ μ3 N2 ⟨y7, y9, rfl, hx⟩ hN2
      have hd := (hx x List.mem_cons_self).pl (by decide)
      refine ⟨leB, ?_⟩
      refine loop_by (I := fun r ρ μ' => ∃ y9 : Option D, ρ = [some (D.scr K ns), some (D.int i), some (D.val (V.ref a)), some (D.int (1 + m)), some ne, some (D.lst things), x6, some x, x8, y9, x10] ∧ ∀ k ∈ r, ∃ n : Int, k = .int n ∧ 1 ≤ n ∧ n ≤ 3) (fun _ _ _ _ => True.intro) ?_ ?_ _ _ _ ⟨y9, rfl, fun k hk => ?_⟩
      · rintro z r2 ρ μ4 N3 ⟨y9', rfl, hz⟩ hN3
        obtain ⟨n', rfl, n1, n2⟩ := hz z List.mem_cons_self
        exact ⟨_, rfl, .int n', rfl, x, n', rfl, hd, n1, n2, _, rfl, and_if (fun e => by cases e) fun _ => hN3 _ _ ⟨_, rfl, fun k hk => hz k (List.mem_cons_of_mem _ hk)⟩⟩
      · rintro ρ μ4 ⟨y9', rfl, _⟩
        exact hN2 _ _ ⟨_, _, rfl, fun k hk => hx k (List.mem_cons_of_mem _ hk)⟩
      · simp only [List.mem_cons, List.not_mem_nil, or_false] at hk
        rcases hk with rfl | rfl | rfl
        · exact ⟨1, rfl, by decide, by decide⟩
        · exact ⟨2, rfl, by decide, by decide⟩
        · exact ⟨3, rfl, by decide, by decide⟩
    · rintro ρ μ3 ⟨y7, y9, rfl, -⟩
      refine ⟨ne, rfl, .int (1 + m), rfl, ne, .int (1 + m), rfl, hNpl, hmpl, fun n' e' _ => ?_, hmax⟩
      cases e'
      refine ⟨true, by rw [hnest], and_if (fun e => by cases e) fun _ => ?_⟩
      refine ⟨ne, rfl, [.lst ls, .tup ps, .int ii], 1, _, (by subst hne0; rfl), rfl, rfl, .int (1 + m), rfl, .tup ps, .int (1 + m), rfl, hp1.pl (by decide), hmpl, fun n' e' _ => ?_, hmax⟩
      cases e'
      refine ⟨true, by rw [hvec], and_if (fun e => by cases e) fun _ => ?_⟩
      refine ⟨1, rfl, leB, leB, leB, ?_⟩
      refine loop_by (I := fun r ρ μ' => ∃ y7 y9 y10 : Option D, ρ = [some (D.scr K ns), some (D.int i), some (D.val (V.ref a)), some (D.int (1 + m)), some ne, some (D.lst things), x6, y7, x8, y9, y10] ∧ ∀ k ∈ r, Pl k ∧ isAxes k = false) (fun _ _ _ _ => True.intro) ?_ ?_ _ _ _ ⟨y7, y9, x10, rfl, odd_ok⟩
      · rintro z r2 ρ μ4 N3 ⟨y7', y9', y10', rfl, hz⟩ hN3
        obtain ⟨z1, z2⟩ := hz z List.mem_cons_self
        exact ⟨_, rfl, _, rfl, ne, z, rfl, hNpl, z1, z2, _, rfl, and_if (fun e => by cases e) fun _ => ⟨_, rfl, D.non, z, rfl, (Lv.non (j := 0)).pl (by decide), z1, z2, _, rfl, and_if (fun e => by cases e) fun _ => hN3 _ _ ⟨_, _, _, rfl, fun k hk => hz k (List.mem_cons_of_mem _ hk)⟩⟩⟩
      · rintro ρ μ4 ⟨y7', y9', y10', rfl, -⟩
        exact hN _ _ _ _ _ _ _ _ _ _ _
  · rintro ρ μ1 ⟨x1, x2, x3, x4, x5, x6, x7, x8, x9, x10, rfl, _⟩
    exact q _
  · have e : rgD 0 (4 : Int).toNat = [.int 0, .int 1, .int 2, .int 3] := rfl
    rw [e] at hk
    simp only [List.mem_cons, List.not_mem_nil, or_false] at hk
    rcases hk with rfl | rfl | rfl | rfl
    · exact ⟨0, rfl, by decide, by decide⟩
    · exact ⟨1, rfl, by decide, by decide⟩
    · exact ⟨2, rfl, by decide, by decide⟩
    · exact ⟨3, rfl, by decide, by decide⟩
end
end K2
namespace K2
open PySem PySem.Spec PyProof.Rows L2 DL
theorem all_mk {P : Program} {w : World} {K : PySem.W.Frag} {h : Heap} {mg : Str → Option Value} {fa C B fI TI f_is_whole f_is_axes f_is_vector f_is_loop f_is_cell f_is_nest f__law_mixed f__law_purse f__law_draw f__law_cell_drawn f__law_nest_drawn f__law_whole f__law_is_cell f__law_is_loop f__law_is_nest f__law_bent f__law_right f__law_refused f_law : Addr} {tM : Tok} (X : K.In h) (G : h.Ns mainGlobals mg) (hfa : mg "law" = some (.ref fa))
    {od_is_whole an_is_whole od_is_axes an_is_axes od_is_vector an_is_vector od_is_loop an_is_loop od_is_cell an_is_cell od_is_nest an_is_nest od__law_mixed an__law_mixed od__law_purse an__law_purse od__law_draw an__law_draw od__law_cell_drawn an__law_cell_drawn od__law_nest_drawn an__law_nest_drawn od__law_whole an__law_whole od__law_is_cell an__law_is_cell od__law_is_loop an__law_is_loop od__law_is_nest an__law_is_nest od__law_bent an__law_bent od__law_right an__law_right od__law_refused an__law_refused od_law an_law odI anI odT : Option Addr} {sl_is_whole sl_is_axes sl_is_vector sl_is_loop sl_is_cell sl_is_nest sl__law_mixed sl__law_purse sl__law_draw sl__law_cell_drawn sl__law_nest_drawn sl__law_whole sl__law_is_cell sl__law_is_loop sl__law_is_nest sl__law_bent sl__law_right sl__law_refused sl_law slI slT : Array (Option Value)} {oc_is_whole kV_is_whole dc_is_whole pm_is_whole cd_is_whole ct_is_whole oc_is_axes kV_is_axes dc_is_axes pm_is_axes cd_is_axes ct_is_axes oc_is_vector kV_is_vector dc_is_vector pm_is_vector cd_is_vector ct_is_vector oc_is_loop kV_is_loop dc_is_loop pm_is_loop cd_is_loop ct_is_loop oc_is_cell kV_is_cell dc_is_cell pm_is_cell cd_is_cell ct_is_cell oc_is_nest kV_is_nest dc_is_nest pm_is_nest cd_is_nest ct_is_nest oc__law_mixed kV__law_mixed dc__law_mixed pm__law_mixed cd__law_mixed ct__law_mixed oc__law_purse kV__law_purse dc__law_purse pm__law_purse cd__law_purse ct__law_purse oc__law_draw kV__law_draw dc__law_draw pm__law_draw cd__law_draw ct__law_draw oc__law_cell_drawn kV__law_cell_drawn dc__law_cell_drawn pm__law_cell_drawn cd__law_cell_drawn ct__law_cell_drawn oc__law_nest_drawn kV__law_nest_drawn dc__law_nest_drawn pm__law_nest_drawn cd__law_nest_drawn ct__law_nest_drawn oc__law_whole kV__law_whole dc__law_whole pm__law_whole cd__law_whole ct__law_whole oc__law_is_cell kV__law_is_cell dc__law_is_cell pm__law_is_cell cd__law_is_cell ct__law_is_cell oc__law_is_loop kV__law_is_loop dc__law_is_loop pm__law_is_loop cd__law_is_loop ct__law_is_loop oc__law_is_nest kV__law_is_nest dc__law_is_nest pm__law_is_nest cd__law_is_nest ct__law_is_nest oc__law_bent kV__law_bent dc__law_bent pm__law_bent cd__law_bent ct__law_bent oc__law_right kV__law_right dc__law_right pm__law_right cd__law_right ct__law_right oc__law_refused kV__law_refused dc__law_refused pm__law_refused cd__law_refused ct__law_refused oc_law kV_law dc_law pm_law cd_law ct_law ocI kVI dcI pmI cdI ctI ocT : Value} {nT : Nat}
    {nm q : Str} {N : Addr} {bs bm : List Value} {sn : List Str} {sub : List Value} {ab : Bool} {col : Option Bool} {dd : Option Addr} {m0 m1 m2 m3 m5 : Option Value}
    (a_is_whole : PySem.W.nsIn K mainGlobals "is_whole" = some (some (.ref f_is_whole)))
    (l_is_whole : K.lookup f_is_whole = some ⟨oc_is_whole, od_is_whole, .func (PySem.W.fnOf "is_whole" "is_whole" (defArgs s_is_whole) (defBody s_is_whole) (defScope s_is_whole) .none kV_is_whole dc_is_whole pm_is_whole an_is_whole cd_is_whole ct_is_whole), sl_is_whole⟩)
    (c_is_whole : PySem.W.codeIn K cd_is_whole "is_whole" = true)
    (k_is_whole : PySem.W.keepIn K (.ref f_is_whole) = true)
    (a_is_axes : PySem.W.nsIn K mainGlobals "is_axes" = some (some (.ref f_is_axes)))
    (l_is_axes : K.lookup f_is_axes = some ⟨oc_is_axes, od_is_axes, .func (PySem.W.fnOf "is_axes" "is_axes" (defArgs s_is_axes) (defBody s_is_axes) (defScope s_is_axes) .none kV_is_axes dc_is_axes pm_is_axes an_is_axes cd_is_axes ct_is_axes), sl_is_axes⟩)
    (c_is_axes : PySem.W.codeIn K cd_is_axes "is_axes" = true)
    (k_is_axes : PySem.W.keepIn K (.ref f_is_axes) = true)
    (a_is_vector : PySem.W.nsIn K mainGlobals "is_vector" = some (some (.ref f_is_vector)))
    (l_is_vector : K.lookup f_is_vector = some ⟨oc_is_vector, od_is_vector, .func (PySem.W.fnOf "is_vector" "is_vector" (defArgs s_is_vector) (defBody s_is_vector) (defScope s_is_vector) .none kV_is_vector dc_is_vector pm_is_vector an_is_vector cd_is_vector ct_is_vector), sl_is_vector⟩)
    (c_is_vector : PySem.W.codeIn K cd_is_vector "is_vector" = true)
    (k_is_vector : PySem.W.keepIn K (.ref f_is_vector) = true)
    (a_is_loop : PySem.W.nsIn K mainGlobals "is_loop" = some (some (.ref f_is_loop)))
    (l_is_loop : K.lookup f_is_loop = some ⟨oc_is_loop, od_is_loop, .func (PySem.W.fnOf "is_loop" "is_loop" (defArgs s_is_loop) (defBody s_is_loop) (defScope s_is_loop) .none kV_is_loop dc_is_loop pm_is_loop an_is_loop cd_is_loop ct_is_loop), sl_is_loop⟩)
    (c_is_loop : PySem.W.codeIn K cd_is_loop "is_loop" = true)
    (k_is_loop : PySem.W.keepIn K (.ref f_is_loop) = true)
    (a_is_cell : PySem.W.nsIn K mainGlobals "is_cell" = some (some (.ref f_is_cell)))
    (l_is_cell : K.lookup f_is_cell = some ⟨oc_is_cell, od_is_cell, .func (PySem.W.fnOf "is_cell" "is_cell" (defArgs s_is_cell) (defBody s_is_cell) (defScope s_is_cell) .none kV_is_cell dc_is_cell pm_is_cell an_is_cell cd_is_cell ct_is_cell), sl_is_cell⟩)
    (c_is_cell : PySem.W.codeIn K cd_is_cell "is_cell" = true)
    (k_is_cell : PySem.W.keepIn K (.ref f_is_cell) = true)
    (a_is_nest : PySem.W.nsIn K mainGlobals "is_nest" = some (some (.ref f_is_nest)))
    (l_is_nest : K.lookup f_is_nest = some ⟨oc_is_nest, od_is_nest, .func (PySem.W.fnOf "is_nest" "is_nest" (defArgs s_is_nest) (defBody s_is_nest) (defScope s_is_nest) .none kV_is_nest dc_is_nest pm_is_nest an_is_nest cd_is_nest ct_is_nest), sl_is_nest⟩)
    (c_is_nest : PySem.W.codeIn K cd_is_nest "is_nest" = true)
    (k_is_nest : PySem.W.keepIn K (.ref f_is_nest) = true)
    (a__law_mixed : PySem.W.nsIn K mainGlobals "_law_mixed" = some (some (.ref f__law_mixed)))
    (l__law_mixed : K.lookup f__law_mixed = some ⟨oc__law_mixed, od__law_mixed, .func (PySem.W.fnOf "_law_mixed" "_law_mixed" (defArgs s__law_mixed) (defBody s__law_mixed) (defScope s__law_mixed) .none kV__law_mixed dc__law_mixed pm__law_mixed an__law_mixed cd__law_mixed ct__law_mixed), sl__law_mixed⟩)
    (c__law_mixed : PySem.W.codeIn K cd__law_mixed "_law_mixed" = true)
    (k__law_mixed : PySem.W.keepIn K (.ref f__law_mixed) = true)
    (a__law_purse : PySem.W.nsIn K mainGlobals "_law_purse" = some (some (.ref f__law_purse)))
    (l__law_purse : K.lookup f__law_purse = some ⟨oc__law_purse, od__law_purse, .func (PySem.W.fnOf "_law_purse" "_law_purse" (defArgs s__law_purse) (defBody s__law_purse) (defScope s__law_purse) .none kV__law_purse dc__law_purse pm__law_purse an__law_purse cd__law_purse ct__law_purse), sl__law_purse⟩)
    (c__law_purse : PySem.W.codeIn K cd__law_purse "_law_purse" = true)
    (k__law_purse : PySem.W.keepIn K (.ref f__law_purse) = true)
    (a__law_draw : PySem.W.nsIn K mainGlobals "_law_draw" = some (some (.ref f__law_draw)))
    (l__law_draw : K.lookup f__law_draw = some ⟨oc__law_draw, od__law_draw, .func (PySem.W.fnOf "_law_draw" "_law_draw" (defArgs s__law_draw) (defBody s__law_draw) (defScope s__law_draw) .none kV__law_draw dc__law_draw pm__law_draw an__law_draw cd__law_draw ct__law_draw), sl__law_draw⟩)
    (c__law_draw : PySem.W.codeIn K cd__law_draw "_law_draw" = true)
    (k__law_draw : PySem.W.keepIn K (.ref f__law_draw) = true)
    (a__law_cell_drawn : PySem.W.nsIn K mainGlobals "_law_cell_drawn" = some (some (.ref f__law_cell_drawn)))
    (l__law_cell_drawn : K.lookup f__law_cell_drawn = some ⟨oc__law_cell_drawn, od__law_cell_drawn, .func (PySem.W.fnOf "_law_cell_drawn" "_law_cell_drawn" (defArgs s__law_cell_drawn) (defBody s__law_cell_drawn) (defScope s__law_cell_drawn) .none kV__law_cell_drawn dc__law_cell_drawn pm__law_cell_drawn an__law_cell_drawn cd__law_cell_drawn ct__law_cell_drawn), sl__law_cell_drawn⟩)
    (c__law_cell_drawn : PySem.W.codeIn K cd__law_cell_drawn "_law_cell_drawn" = true)
    (k__law_cell_drawn : PySem.W.keepIn K (.ref f__law_cell_drawn) = true)
    (a__law_nest_drawn : PySem.W.nsIn K mainGlobals "_law_nest_drawn" = some (some (.ref f__law_nest_drawn)))
    (l__law_nest_drawn : K.lookup f__law_nest_drawn = some ⟨oc__law_nest_drawn, od__law_nest_drawn, .func (PySem.W.fnOf "_law_nest_drawn" "_law_nest_drawn" (defArgs s__law_nest_drawn) (defBody s__law_nest_drawn) (defScope s__law_nest_drawn) .none kV__law_nest_drawn dc__law_nest_drawn pm__law_nest_drawn an__law_nest_drawn cd__law_nest_drawn ct__law_nest_drawn), sl__law_nest_drawn⟩)
    (c__law_nest_drawn : PySem.W.codeIn K cd__law_nest_drawn "_law_nest_drawn" = true)
    (k__law_nest_drawn : PySem.W.keepIn K (.ref f__law_nest_drawn) = true)
    (a__law_whole : PySem.W.nsIn K mainGlobals "_law_whole" = some (some (.ref f__law_whole)))
    (l__law_whole : K.lookup f__law_whole = some ⟨oc__law_whole, od__law_whole, .func (PySem.W.fnOf "_law_whole" "_law_whole" (defArgs s__law_whole) (defBody s__law_whole) (defScope s__law_whole) .none kV__law_whole dc__law_whole pm__law_whole an__law_whole cd__law_whole ct__law_whole), sl__law_whole⟩)
    (c__law_whole : PySem.W.codeIn K cd__law_whole "_law_whole" = true)
    (k__law_whole : PySem.W.keepIn K (.ref f__law_whole) = true)
    (a__law_is_cell : PySem.W.nsIn K mainGlobals "_law_is_cell" = some (some (.ref f__law_is_cell)))
    (l__law_is_cell : K.lookup f__law_is_cell = some ⟨oc__law_is_cell, od__law_is_cell, .func (PySem.W.fnOf "_law_is_cell" "_law_is_cell" (defArgs s__law_is_cell) (defBody s__law_is_cell) (defScope s__law_is_cell) .none kV__law_is_cell dc__law_is_cell pm__law_is_cell an__law_is_cell cd__law_is_cell ct__law_is_cell), sl__law_is_cell⟩)
    (c__law_is_cell : PySem.W.codeIn K cd__law_is_cell "_law_is_cell" = true)
    (k__law_is_cell : PySem.W.keepIn K (.ref f__law_is_cell) = true)
    (a__law_is_loop : PySem.W.nsIn K mainGlobals "_law_is_loop" = some (some (.ref f__law_is_loop)))
    (l__law_is_loop : K.lookup f__law_is_loop = some ⟨oc__law_is_loop, od__law_is_loop, .func (PySem.W.fnOf "_law_is_loop" "_law_is_loop" (defArgs s__law_is_loop) (defBody s__law_is_loop) (defScope s__law_is_loop) .none kV__law_is_loop dc__law_is_loop pm__law_is_loop an__law_is_loop cd__law_is_loop ct__law_is_loop), sl__law_is_loop⟩)
    (c__law_is_loop : PySem.W.codeIn K cd__law_is_loop "_law_is_loop" = true)
    (k__law_is_loop : PySem.W.keepIn K (.ref f__law_is_loop) = true)
    (a__law_is_nest : PySem.W.nsIn K mainGlobals "_law_is_nest" = some (some (.ref f__law_is_nest)))
    (l__law_is_nest : K.lookup f__law_is_nest = some ⟨oc__law_is_nest, od__law_is_nest, .func (PySem.W.fnOf "_law_is_nest" "_law_is_nest" (defArgs s__law_is_nest) (defBody s__law_is_nest) (defScope s__law_is_nest) .none kV__law_is_nest dc__law_is_nest pm__law_is_nest an__law_is_nest cd__law_is_nest ct__law_is_nest), sl__law_is_nest⟩)
    (c__law_is_nest : PySem.W.codeIn K cd__law_is_nest "_law_is_nest" = true)
    (k__law_is_nest : PySem.W.keepIn K (.ref f__law_is_nest) = true)
    (a__law_bent : PySem.W.nsIn K mainGlobals "_law_bent" = some (some (.ref f__law_bent)))
    (l__law_bent : K.lookup f__law_bent = some ⟨oc__law_bent, od__law_bent, .func (PySem.W.fnOf "_law_bent" "_law_bent" (defArgs s__law_bent) (defBody s__law_bent) (defScope s__law_bent) .none kV__law_bent dc__law_bent pm__law_bent an__law_bent cd__law_bent ct__law_bent), sl__law_bent⟩)
    (c__law_bent : PySem.W.codeIn K cd__law_bent "_law_bent" = true)
    (k__law_bent : PySem.W.keepIn K (.ref f__law_bent) = true)
    (a__law_right : PySem.W.nsIn K mainGlobals "_law_right" = some (some (.ref f__law_right)))
    (l__law_right : K.lookup f__law_right = some ⟨oc__law_right, od__law_right, .func (PySem.W.fnOf "_law_right" "_law_right" (defArgs s__law_right) (defBody s__law_right) (defScope s__law_right) .none kV__law_right dc__law_right pm__law_right an__law_right cd__law_right ct__law_right), sl__law_right⟩)
    (c__law_right : PySem.W.codeIn K cd__law_right "_law_right" = true)
    (k__law_right : PySem.W.keepIn K (.ref f__law_right) = true)
    (a__law_refused : PySem.W.nsIn K mainGlobals "_law_refused" = some (some (.ref f__law_refused)))
    (l__law_refused : K.lookup f__law_refused = some ⟨oc__law_refused, od__law_refused, .func (PySem.W.fnOf "_law_refused" "_law_refused" (defArgs s__law_refused) (defBody s__law_refused) (defScope s__law_refused) .none kV__law_refused dc__law_refused pm__law_refused an__law_refused cd__law_refused ct__law_refused), sl__law_refused⟩)
    (c__law_refused : PySem.W.codeIn K cd__law_refused "_law_refused" = true)
    (k__law_refused : PySem.W.keepIn K (.ref f__law_refused) = true)
    (a_law : PySem.W.nsIn K mainGlobals "law" = some (some (.ref f_law)))
    (l_law : K.lookup f_law = some ⟨oc_law, od_law, .func (PySem.W.fnOf "law" "law" (defArgs s_law) (defBody s_law) (defScope s_law) .none kV_law dc_law pm_law an_law cd_law ct_law), sl_law⟩)
    (c_law : PySem.W.codeIn K cd_law "law" = true)
    (k_law : PySem.W.keepIn K (.ref f_law) = true)
    (z_int : PySem.W.nsIn K mainGlobals "int" = some none)
    (z_bool : PySem.W.nsIn K mainGlobals "bool" = some none)
    (z_list : PySem.W.nsIn K mainGlobals "list" = some none)
    (z_tuple : PySem.W.nsIn K mainGlobals "tuple" = some none)
    (z_isinstance : PySem.W.nsIn K mainGlobals "isinstance" = some none)
    (z_len : PySem.W.nsIn K mainGlobals "len" = some none)
    (z_all : PySem.W.nsIn K mainGlobals "all" = some none)
    (z_range : PySem.W.nsIn K mainGlobals "range" = some none)
    (z_repr : PySem.W.nsIn K mainGlobals "repr" = some none)
    (z_max : PySem.W.nsIn K mainGlobals "max" = some none)
    (z_sum : PySem.W.nsIn K mainGlobals "sum" = some none)
    (m_axes : PySem.W.nsIn K mainGlobals "MOST_AXES" = some (some (.int 3 tM)))
    (aB : PySem.W.nsIn K mainGlobals "AddError" = some (some (.ref B)))
    (aC : PySem.W.nsIn K mainGlobals "InvalidNumber" = some (some (.ref C)))
    (iC : PySem.W.findIn K (.ref C) "__init__" = some (some (.ref fI)))
    (tI : PySem.W.typeIn K (.ref fI) = some (.type "function"))
    (lI : K.lookup fI = some ⟨ocI, odI, .func (PySem.W.fnOf "__init__" "InvalidNumber.__init__" (defArgs s_init) (defBody s_init) (defScope s_init) (.ref TI) kVI dcI pmI anI cdI ctI), slI⟩)
    (lT : K.lookup TI = some ⟨ocT, odT, .seq #[.none] nT, slT⟩)
    (cI : PySem.W.codeIn K cdI "InvalidNumber.__init__" = true)
    (kI : PySem.W.keepIn K (.ref fI) = true)
    (xL : K.lookup C = some (excClassObj nm q C N bs bm true sn sub ab col dd m0 m1 m2 m3 m5 "ValueError.__new__"))
    (rB : HandSPX.refsVE bm = true)
    (sa : PySem.W.findIn K (.ref C) "__setattr__" = some (some (.builtin "object.__setattr__")))
    (eC : PySem.W.subIn K (.ref C) (.type "BaseException") = some true)
    (tC : PySem.W.typeIn K (.ref C) = some (.type "type"))
    (kC : PySem.W.keepIn K (.ref C) = true)
    (nF : PySem.W.findIn K (.ref C) "value" = some none)
    (bs1 : PySem.W.specialIn K (.ref B) "__getattribute__" = some (some (.builtin "type.__getattribute__")))
    (brd : PySem.W.readsIn K B (.type "type") = true)
    (bfc : PySem.W.findCls K (.ref B) (.type "type") "__init__" = some (.val (.builtin "ValueError.__init__")))
    (xga : PySem.W.findIn K (.ref C) "__getattribute__" = some (some (.builtin "BaseException.__getattribute__")))
    (xgt : PySem.W.findIn K (.ref C) "__getattr__" = some none)
    (xhd : PySem.W.hasDictIn K C = true)
    (xha : PySem.W.findIn K (.ref C) "__class__" = some (some (.builtin "object.__class__")))
    (xhn : PySem.W.specialIn K (.builtin "object.__class__") "__get__" = some (some (.builtin "getset_descriptor.__get__")))
    (xtk : PySem.W.takesIn K (.builtin "object.__class__") = some true)
    (xhm : PySem.W.mroIn K C (.type "object") = some true)
    (xem : PySem.W.exmOne K (.ref C) (.ref B) = some true)
    (xki : PySem.W.kitOne K (.ref C) (.ref C) = some true)
    : ∃ fd : FuncData, (∀ (s : Shared) (u : Value), BindsTo s fd ⟨[u], []⟩ [("_law_script", u)]) ∧ ∀ base : Heap, K.In base → base.Ns mainGlobals mg → FnG P w K mg base CX0 6 fa fd ["_law_script"] (spD (spLawD K)) := by
  have e := hfa.symm.trans (PySem.W.mg_of X G a_law)
  cases e
  have F_is_whole := fun_mk (st := s_is_whole) l_is_whole c_is_whole k_is_whole
  have b_is_whole := F_is_whole.binds (ps := P_is_whole) fun _ _ _ _ _ _ us hl => match us, hl with | [_], _ => rfl
  have F_is_axes := fun_mk (st := s_is_axes) l_is_axes c_is_axes k_is_axes
  have b_is_axes := F_is_axes.binds (ps := P_is_axes) fun _ _ _ _ _ _ us hl => match us, hl with | [_], _ => rfl
  have F_is_vector := fun_mk (st := s_is_vector) l_is_vector c_is_vector k_is_vector
  have b_is_vector := F_is_vector.binds (ps := P_is_vector) fun _ _ _ _ _ _ us hl => match us, hl with | [_, _], _ => rfl
  have F_is_loop := fun_mk (st := s_is_loop) l_is_loop c_is_loop k_is_loop
  have b_is_loop := F_is_loop.binds (ps := P_is_loop) fun _ _ _ _ _ _ us hl => match us, hl with | [_, _], _ => rfl
  have F_is_cell := fun_mk (st := s_is_cell) l_is_cell c_is_cell k_is_cell
  have b_is_cell := F_is_cell.binds (ps := P_is_cell) fun _ _ _ _ _ _ us hl => match us, hl with | [_, _], _ => rfl
  have F_is_nest := fun_mk (st := s_is_nest) l_is_nest c_is_nest k_is_nest
  have b_is_nest := F_is_nest.binds (ps := P_is_nest) fun _ _ _ _ _ _ us hl => match us, hl with | [_, _], _ => rfl
  have F__law_mixed := fun_mk (st := s__law_mixed) l__law_mixed c__law_mixed k__law_mixed
  have b__law_mixed := F__law_mixed.binds (ps := P__law_mixed) fun _ _ _ _ _ _ us hl => match us, hl with | [_, _], _ => rfl
  have F__law_purse := fun_mk (st := s__law_purse) l__law_purse c__law_purse k__law_purse
  have b__law_purse := F__law_purse.binds (ps := P__law_purse) fun _ _ _ _ _ _ us hl => match us, hl with | [_, _], _ => rfl
  have F__law_draw := fun_mk (st := s__law_draw) l__law_draw c__law_draw k__law_draw
  have b__law_draw := F__law_draw.binds (ps := P__law_draw) fun _ _ _ _ _ _ us hl => match us, hl with | [_, _], _ => rfl
  have F__law_cell_drawn := fun_mk (st := s__law_cell_drawn) l__law_cell_drawn c__law_cell_drawn k__law_cell_drawn
  have b__law_cell_drawn := F__law_cell_drawn.binds (ps := P__law_cell_drawn) fun _ _ _ _ _ _ us hl => match us, hl with | [_, _, _], _ => rfl
  have F__law_nest_drawn := fun_mk (st := s__law_nest_drawn) l__law_nest_drawn c__law_nest_drawn k__law_nest_drawn
  have b__law_nest_drawn := F__law_nest_drawn.binds (ps := P__law_nest_drawn) fun _ _ _ _ _ _ us hl => match us, hl with | [_, _, _, _, _], _ => rfl
  have F__law_whole := fun_mk (st := s__law_whole) l__law_whole c__law_whole k__law_whole
  have b__law_whole := F__law_whole.binds (ps := P__law_whole) fun _ _ _ _ _ _ us hl => match us, hl with | [_], _ => rfl
  have F__law_is_cell := fun_mk (st := s__law_is_cell) l__law_is_cell c__law_is_cell k__law_is_cell
  have b__law_is_cell := F__law_is_cell.binds (ps := P__law_is_cell) fun _ _ _ _ _ _ us hl => match us, hl with | [_, _], _ => rfl
  have F__law_is_loop := fun_mk (st := s__law_is_loop) l__law_is_loop c__law_is_loop k__law_is_loop
  have b__law_is_loop := F__law_is_loop.binds (ps := P__law_is_loop) fun _ _ _ _ _ _ us hl => match us, hl with | [_, _], _ => rfl
  have F__law_is_nest := fun_mk (st := s__law_is_nest) l__law_is_nest c__law_is_nest k__law_is_nest
  have b__law_is_nest := F__law_is_nest.binds (ps := P__law_is_nest) fun _ _ _ _ _ _ us hl => match us, hl with | [_, _], _ => rfl
  have F__law_bent := fun_mk (st := s__law_bent) l__law_bent c__law_bent k__law_bent
  have b__law_bent := F__law_bent.binds (ps := P__law_bent) fun _ _ _ _ _ _ us hl => match us, hl with | [_, _], _ => rfl
  have F__law_right := fun_mk (st := s__law_right) l__law_right c__law_right k__law_right
  have b__law_right := F__law_right.binds (ps := P__law_right) fun _ _ _ _ _ _ us hl => match us, hl with | [_, _], _ => rfl
  have F__law_refused := fun_mk (st := s__law_refused) l__law_refused c__law_refused k__law_refused
  have b__law_refused := F__law_refused.binds (ps := P__law_refused) fun _ _ _ _ _ _ us hl => match us, hl with | [_, _], _ => rfl
  have F_law := fun_mk (st := s_law) l_law c_law k_law
  have b_law := F_law.binds (ps := P_law) fun _ _ _ _ _ _ us hl => match us, hl with | [_], _ => rfl
  have FI : FunD K "__init__" "InvalidNumber.__init__" (defArgs s_init) (defBody s_init) (defScope s_init) [.non] [] fI _ := ⟨⟨_, _, _, _, _, _, _, _, _, _, rfl, lI, cI, .inr ⟨by simp, TI, _, [.none], nT, rfl, lT, rfl, .cons rfl .nil⟩, .inl rfl⟩, kI⟩
  obtain ⟨dI, vI, bI⟩ := FI.binds1 (ps := ["self", "value"]) 2 1 (by simp) rfl fun T kV doc pm an cdv ct us its hu hi => match us, its, hu, hi with
    | [_, _], [_], _, _ => ⟨_, rfl, rfl⟩
  obtain rfl : dI = [] := by cases vI; rfl
  have oex : OexC K C := ⟨⟨nm, q, N, bs, bm, sn, sub, ab, col, dd, m0, m1, m2, m3, m5, xL, rB⟩, sa, eC, tC, kC⟩
  have xcl : (PySem.W.clsIn K C).isSome = true := by unfold PySem.W.clsIn; rw [xL]; rfl
  have gC := PySem.W.mg_of X G aC
  have gB := PySem.W.mg_of X G aB
  have T : Tx K mg := { f_is_whole := f_is_whole, fd_is_whole := _, F_is_whole := F_is_whole, b_is_whole := b_is_whole, g_is_whole := PySem.W.mg_of X G a_is_whole, f_is_axes := f_is_axes, fd_is_axes := _, F_is_axes := F_is_axes, b_is_axes := b_is_axes, g_is_axes := PySem.W.mg_of X G a_is_axes, f_is_vector := f_is_vector, fd_is_vector := _, F_is_vector := F_is_vector, b_is_vector := b_is_vector, g_is_vector := PySem.W.mg_of X G a_is_vector, f_is_loop := f_is_loop, fd_is_loop := _, F_is_loop := F_is_loop, b_is_loop := b_is_loop, g_is_loop := PySem.W.mg_of X G a_is_loop, f_is_cell := f_is_cell, fd_is_cell := _, F_is_cell := F_is_cell, b_is_cell := b_is_cell, g_is_cell := PySem.W.mg_of X G a_is_cell, f_is_nest := f_is_nest, fd_is_nest := _, F_is_nest := F_is_nest, b_is_nest := b_is_nest, g_is_nest := PySem.W.mg_of X G a_is_nest, f__law_mixed := f__law_mixed, fd__law_mixed := _, F__law_mixed := F__law_mixed, b__law_mixed := b__law_mixed, g__law_mixed := PySem.W.mg_of X G a__law_mixed, f__law_purse := f__law_purse, fd__law_purse := _, F__law_purse := F__law_purse, b__law_purse := b__law_purse, g__law_purse := PySem.W.mg_of X G a__law_purse, f__law_draw := f__law_draw, fd__law_draw := _, F__law_draw := F__law_draw, b__law_draw := b__law_draw, g__law_draw := PySem.W.mg_of X G a__law_draw, f__law_cell_drawn := f__law_cell_drawn, fd__law_cell_drawn := _, F__law_cell_drawn := F__law_cell_drawn, b__law_cell_drawn := b__law_cell_drawn, g__law_cell_drawn := PySem.W.mg_of X G a__law_cell_drawn, f__law_nest_drawn := f__law_nest_drawn, fd__law_nest_drawn := _, F__law_nest_drawn := F__law_nest_drawn, b__law_nest_drawn := b__law_nest_drawn, g__law_nest_drawn := PySem.W.mg_of X G a__law_nest_drawn, f__law_whole := f__law_whole, fd__law_whole := _, F__law_whole := F__law_whole, b__law_whole := b__law_whole, g__law_whole := PySem.W.mg_of X G a__law_whole, f__law_is_cell := f__law_is_cell, fd__law_is_cell := _, F__law_is_cell := F__law_is_cell, b__law_is_cell := b__law_is_cell, g__law_is_cell := PySem.W.mg_of X G a__law_is_cell, f__law_is_loop := f__law_is_loop, fd__law_is_loop := _, F__law_is_loop := F__law_is_loop, b__law_is_loop := b__law_is_loop, g__law_is_loop := PySem.W.mg_of X G a__law_is_loop, f__law_is_nest := f__law_is_nest, fd__law_is_nest := _, F__law_is_nest := F__law_is_nest, b__law_is_nest := b__law_is_nest, g__law_is_nest := PySem.W.mg_of X G a__law_is_nest, f__law_bent := f__law_bent, fd__law_bent := _, F__law_bent := F__law_bent, b__law_bent := b__law_bent, g__law_bent := PySem.W.mg_of X G a__law_bent, f__law_right := f__law_right, fd__law_right := _, F__law_right := F__law_right, b__law_right := b__law_right, g__law_right := PySem.W.mg_of X G a__law_right, f__law_refused := f__law_refused, fd__law_refused := _, F__law_refused := F__law_refused, b__law_refused := b__law_refused, g__law_refused := PySem.W.mg_of X G a__law_refused, f_law := fa, fd_law := _, F_law := F_law, b_law := b_law, g_law := PySem.W.mg_of X G a_law, n_int := PySem.W.mg_none_of X G z_int, n_bool := PySem.W.mg_none_of X G z_bool, n_list := PySem.W.mg_none_of X G z_list, n_tuple := PySem.W.mg_none_of X G z_tuple, n_isinstance := PySem.W.mg_none_of X G z_isinstance, n_len := PySem.W.mg_none_of X G z_len, n_all := PySem.W.mg_none_of X G z_all, n_range := PySem.W.mg_none_of X G z_range, n_repr := PySem.W.mg_none_of X G z_repr, n_max := PySem.W.mg_none_of X G z_max, n_sum := PySem.W.mg_none_of X G z_sum, t_MOST_AXES := tM, c_MOST_AXES := PySem.W.mg_of X G m_axes, C_InvalidNumber := C, fI_InvalidNumber := fI, fdI_InvalidNumber := _, FI_InvalidNumber := FI, bi_InvalidNumber := bI, e_InvalidNumber := ⟨gC, oex, iC, tI, nF⟩, g_InvalidNumber := gC, B_AddError := B, bc := ⟨gB, bs1, brd, bfc⟩, g_AddError := gB, xk := ⟨xcl, xga, xgt, eC, xhd, xha, xhn, xtk, xhm⟩, xm := xem, xi := xki }
  exact ⟨_, fun s u => .of_eq rfl, fun base _ _ => ok_law { f_is_whole := f_is_whole, fd_is_whole := _, F_is_whole := F_is_whole, b_is_whole := b_is_whole, g_is_whole := PySem.W.mg_of X G a_is_whole, f_is_axes := f_is_axes, fd_is_axes := _, F_is_axes := F_is_axes, b_is_axes := b_is_axes, g_is_axes := PySem.W.mg_of X G a_is_axes, f_is_vector := f_is_vector, fd_is_vector := _, F_is_vector := F_is_vector, b_is_vector := b_is_vector, g_is_vector := PySem.W.mg_of X G a_is_vector, f_is_loop := f_is_loop, fd_is_loop := _, F_is_loop := F_is_loop, b_is_loop := b_is_loop, g_is_loop := PySem.W.mg_of X G a_is_loop, f_is_cell := f_is_cell, fd_is_cell := _, F_is_cell := F_is_cell, b_is_cell := b_is_cell, g_is_cell := PySem.W.mg_of X G a_is_cell, f_is_nest := f_is_nest, fd_is_nest := _, F_is_nest := F_is_nest, b_is_nest := b_is_nest, g_is_nest := PySem.W.mg_of X G a_is_nest, f__law_mixed := f__law_mixed, fd__law_mixed := _, F__law_mixed := F__law_mixed, b__law_mixed := b__law_mixed, g__law_mixed := PySem.W.mg_of X G a__law_mixed, f__law_purse := f__law_purse, fd__law_purse := _, F__law_purse := F__law_purse, b__law_purse := b__law_purse, g__law_purse := PySem.W.mg_of X G a__law_purse, f__law_draw := f__law_draw, fd__law_draw := _, F__law_draw := F__law_draw, b__law_draw := b__law_draw, g__law_draw := PySem.W.mg_of X G a__law_draw, f__law_cell_drawn := f__law_cell_drawn, fd__law_cell_drawn := _, F__law_cell_drawn := F__law_cell_drawn, b__law_cell_drawn := b__law_cell_drawn, g__law_cell_drawn := PySem.W.mg_of X G a__law_cell_drawn, f__law_nest_drawn := f__law_nest_drawn, fd__law_nest_drawn := _, F__law_nest_drawn := F__law_nest_drawn, b__law_nest_drawn := b__law_nest_drawn, g__law_nest_drawn := PySem.W.mg_of X G a__law_nest_drawn, f__law_whole := f__law_whole, fd__law_whole := _, F__law_whole := F__law_whole, b__law_whole := b__law_whole, g__law_whole := PySem.W.mg_of X G a__law_whole, f__law_is_cell := f__law_is_cell, fd__law_is_cell := _, F__law_is_cell := F__law_is_cell, b__law_is_cell := b__law_is_cell, g__law_is_cell := PySem.W.mg_of X G a__law_is_cell, f__law_is_loop := f__law_is_loop, fd__law_is_loop := _, F__law_is_loop := F__law_is_loop, b__law_is_loop := b__law_is_loop, g__law_is_loop := PySem.W.mg_of X G a__law_is_loop, f__law_is_nest := f__law_is_nest, fd__law_is_nest := _, F__law_is_nest := F__law_is_nest, b__law_is_nest := b__law_is_nest, g__law_is_nest := PySem.W.mg_of X G a__law_is_nest, f__law_bent := f__law_bent, fd__law_bent := _, F__law_bent := F__law_bent, b__law_bent := b__law_bent, g__law_bent := PySem.W.mg_of X G a__law_bent, f__law_right := f__law_right, fd__law_right := _, F__law_right := F__law_right, b__law_right := b__law_right, g__law_right := PySem.W.mg_of X G a__law_right, f__law_refused := f__law_refused, fd__law_refused := _, F__law_refused := F__law_refused, b__law_refused := b__law_refused, g__law_refused := PySem.W.mg_of X G a__law_refused, f_law := fa, fd_law := _, F_law := F_law, b_law := b_law, g_law := PySem.W.mg_of X G a_law, n_int := PySem.W.mg_none_of X G z_int, n_bool := PySem.W.mg_none_of X G z_bool, n_list := PySem.W.mg_none_of X G z_list, n_tuple := PySem.W.mg_none_of X G z_tuple, n_isinstance := PySem.W.mg_none_of X G z_isinstance, n_len := PySem.W.mg_none_of X G z_len, n_all := PySem.W.mg_none_of X G z_all, n_range := PySem.W.mg_none_of X G z_range, n_repr := PySem.W.mg_none_of X G z_repr, n_max := PySem.W.mg_none_of X G z_max, n_sum := PySem.W.mg_none_of X G z_sum, t_MOST_AXES := tM, c_MOST_AXES := PySem.W.mg_of X G m_axes, C_InvalidNumber := C, fI_InvalidNumber := fI, fdI_InvalidNumber := _, FI_InvalidNumber := FI, bi_InvalidNumber := bI, e_InvalidNumber := ⟨gC, oex, iC, tI, nF⟩, g_InvalidNumber := gC, B_AddError := B, bc := ⟨gB, bs1, brd, bfc⟩, g_AddError := gB, xk := ⟨xcl, xga, xgt, eC, xhd, xha, xhn, xtk, xhm⟩, xm := xem, xi := xki }⟩
end K2
set_option maxHeartbeats 0
open PySem PySem.W PyProof.Rows
open_top head for PySem.Challenge.rw_addnests_k02_cells_and_nests_told
set_option maxRecDepth 100000 in
set_option maxHeartbeats 0 in
theorem PySem.Challenge.cw_addnests_k02_cells_and_nests_told_holds : PySem.Challenge.rw_addnests_k02_cells_and_nests_told.Holds := by
  refine head ?_
  k_fill
  refine DL.walkD (l := PySem.Challenge.rw_addnests_k02_cells_and_nests_told) (k := 6) (x := "_law_script") rfl rfl ⟨rfl, by decide, by decide⟩ (by first | rfl | decide +kernel | k_is) ?hK (fun w h Y => PySem.W.kIn_of Y) ?F
  case hK => intro w; first | rfl | k_is
  case F =>
    intro w mg fa h KX G hmg
    refine' K2.all_mk KX G hmg ?a_is_whole ?l_is_whole ?c_is_whole ?k_is_whole ?a_is_axes ?l_is_axes ?c_is_axes ?k_is_axes ?a_is_vector ?l_is_vector ?c_is_vector ?k_is_vector ?a_is_loop ?l_is_loop ?c_is_loop ?k_is_loop ?a_is_cell ?l_is_cell ?c_is_cell ?k_is_cell ?a_is_nest ?l_is_nest ?c_is_nest ?k_is_nest ?a__law_mixed ?l__law_mixed ?c__law_mixed ?k__law_mixed ?a__law_purse ?l__law_purse ?c__law_purse ?k__law_purse ?a__law_draw ?l__law_draw ?c__law_draw ?k__law_draw ?a__law_cell_drawn ?l__law_cell_drawn ?c__law_cell_drawn ?k__law_cell_drawn ?a__law_nest_drawn ?l__law_nest_drawn ?c__law_nest_drawn ?k__law_nest_drawn ?a__law_whole ?l__law_whole ?c__law_whole ?k__law_whole ?a__law_is_cell ?l__law_is_cell ?c__law_is_cell ?k__law_is_cell ?a__law_is_loop ?l__law_is_loop ?c__law_is_loop ?k__law_is_loop ?a__law_is_nest ?l__law_is_nest ?c__law_is_nest ?k__law_is_nest ?a__law_bent ?l__law_bent ?c__law_bent ?k__law_bent ?a__law_right ?l__law_right ?c__law_right ?k__law_right ?a__law_refused ?l__law_refused ?c__law_refused ?k__law_refused ?a_law ?l_law ?c_law ?k_law ?z_int ?z_bool ?z_list ?z_tuple ?z_isinstance ?z_len ?z_all ?z_range ?z_repr ?z_max ?z_sum ?m_axes ?aB ?aC ?iC ?tI ?lI ?lT ?cI ?kI ?xL ?rB ?sa ?eC ?tC ?kC ?nF ?bs1 ?brd ?bfc ?xga ?xgt ?xhd ?xha ?xhn ?xtk ?xhm ?xem ?xki
    (case a_is_whole => k_is)
    (case l_is_whole => k_is)
    (case c_is_whole => k_is)
    (case k_is_whole => k_is)
    (case a_is_axes => k_is)
    (case l_is_axes => k_is)
    (case c_is_axes => k_is)
    (case k_is_axes => k_is)
    (case a_is_vector => k_is)
    (case l_is_vector => k_is)
    (case c_is_vector => k_is)
    (case k_is_vector => k_is)
    (case a_is_loop => k_is)
    (case l_is_loop => k_is)
    (case c_is_loop => k_is)
    (case k_is_loop => k_is)
    (case a_is_cell => k_is)
    (case l_is_cell => k_is)
    (case c_is_cell => k_is)
    (case k_is_cell => k_is)
    (case a_is_nest => k_is)
    (case l_is_nest => k_is)
    (case c_is_nest => k_is)
    (case k_is_nest => k_is)
    (case a__law_mixed => k_is)
    (case l__law_mixed => k_is)
    (case c__law_mixed => k_is)
    (case k__law_mixed => k_is)
    (case a__law_purse => k_is)
    (case l__law_purse => k_is)
    (case c__law_purse => k_is)
    (case k__law_purse => k_is)
    (case a__law_draw => k_is)
    (case l__law_draw => k_is)
    (case c__law_draw => k_is)
    (case k__law_draw => k_is)
    (case a__law_cell_drawn => k_is)
    (case l__law_cell_drawn => k_is)
    (case c__law_cell_drawn => k_is)
    (case k__law_cell_drawn => k_is)
    (case a__law_nest_drawn => k_is)
    (case l__law_nest_drawn => k_is)
    (case c__law_nest_drawn => k_is)
    (case k__law_nest_drawn => k_is)
    (case a__law_whole => k_is)
    (case l__law_whole => k_is)
    (case c__law_whole => k_is)
    (case k__law_whole => k_is)
    (case a__law_is_cell => k_is)
    (case l__law_is_cell => k_is)
    (case c__law_is_cell => k_is)
    (case k__law_is_cell => k_is)
    (case a__law_is_loop => k_is)
    (case l__law_is_loop => k_is)
    (case c__law_is_loop => k_is)
    (case k__law_is_loop => k_is)
    (case a__law_is_nest => k_is)
    (case l__law_is_nest => k_is)
    (case c__law_is_nest => k_is)
    (case k__law_is_nest => k_is)
    (case a__law_bent => k_is)
    (case l__law_bent => k_is)
    (case c__law_bent => k_is)
    (case k__law_bent => k_is)
    (case a__law_right => k_is)
    (case l__law_right => k_is)
    (case c__law_right => k_is)
    (case k__law_right => k_is)
    (case a__law_refused => k_is)
    (case l__law_refused => k_is)
    (case c__law_refused => k_is)
    (case k__law_refused => k_is)
    (case a_law => k_is)
    (case l_law => k_is)
    (case c_law => k_is)
    (case k_law => k_is)
    (case z_int => k_is)
    (case z_bool => k_is)
    (case z_list => k_is)
    (case z_tuple => k_is)
    (case z_isinstance => k_is)
    (case z_len => k_is)
    (case z_all => k_is)
    (case z_range => k_is)
    (case z_repr => k_is)
    (case z_max => k_is)
    (case z_sum => k_is)
    (case m_axes => k_is)
    (case aB => k_is)
    (case aC => k_is)
    (case iC => k_is)
    (case tI => k_is)
    (case lI => k_is)
    (case lT => k_is)
    (case cI => k_is)
    (case kI => k_is)
    (case xL => k_is)
    (case rB => first | rfl | decide +kernel | k_is)
    (case sa => k_is)
    (case eC => k_is)
    (case tC => k_is)
    (case kC => k_is)
    (case nF => k_is)
    (case bs1 => k_is)
    (case brd => k_is)
    (case bfc => k_is)
    (case xga => k_is)
    (case xgt => k_is)
    (case xhd => k_is)
    (case xha => k_is)
    (case xhn => k_is)
    (case xtk => k_is)
    (case xhm => k_is)
    (case xem => first | rfl | decide +kernel | k_is)
    (case xki => first | rfl | decide +kernel | k_is)
