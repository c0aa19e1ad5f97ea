import PyProof.Rows.All
import Wide.All
import OpenK.AllK
import Wide.FinOn
import HandS.ForMost
import HandS.ForExc
import HandS.ExcInit
import HandS.TryMany
import HandS.IsInst
import HandS.CallSlots
import HandS.Deep
import HandS.Conv
import HandS.Zip
import HandS.Strs
import HandS.SetKeys
import HandS.Flow
import HandS.Wide
import PyProof.P3In
import HandS.TupAny
import HandS.Style
import HandS.Small
import KE.KTupSum
import KE.DataMinMax
import KE.SortData
import HandS.TupLen
import HandS.ExcField
import KE.KExcInit
import HandS.ExcIs
import KE.KExcIs
import KE.GoesMore
import HandS.Star
import HandS.Iter
import PyProof.DictMoreH
import KE.KDictDisplayH
import PyProof.Rows.TupDisplay
import HandS.More
import HandS.WordsDict
import HandS.SetBool
import HandS.Head0
import HandS.Head1
import HandS.Head2
import HandS.Head3
import HandS.HeadHook1
import HandS.HeadHook2
import HandS.HeadEnd
import PyProof.InstStoreFacts
import PyProof.ExcBaseAll.LookupError
import KE.KMathGC
import HandS.Gcd
import PyProof.TupleOfSeq
import PyProof.Rows.SortShell
import PyProof.Rows.SortWalk
import KE.SortCalls
import HandS.WideBits
import HandS.Rev
import HandS.DictComp
import HandS.TupMul
import HandS.SetFor
import HandS.FStr
import HandS.Text
import PyProof.FString3
import PyProof.Rows.StrIntSpec
import HandS.StrMore
import HandS.ExcValue
import HandS.TryOnly
import KE.KStateDown
import PySem.Challenge.RW_eachhandtied_k24_shares_and_prices_by_ha
set_option Elab.async false
set_option linter.all false
set_option maxRecDepth 100000
set_option maxHeartbeats 0
namespace Sm
open PySem PySem.Spec PyProof.Rows L2
noncomputable section
/-! ### plain data, a plain heap -/
inductive D where
  | non | bl (b : Bool) | int (i : Int) | str (x : Str) | tup (xs : List D) | ref (n : Nat) | fn (k : Nat) | exc
inductive O where
  | lst (xs : List D)
  | dK (kvs : List (Key × D))
  | dT (kvs : List (List Key × D))
  | fK (kvs : List (Key × D))
  | fT (kvs : List (List Key × D))
  | st (ns : List Int)
inductive Tr where
  | e
  | nd (l : Tr) (o : Option O) (r : Tr)
noncomputable def Tr.get (t : Tr) : Nat → Option O := @Tr.rec (fun _ => Nat → Option O) (fun _ => none) (fun _ o _ ihl ihr i => match i with | 0 => o | j + 1 => match j % 2 with | 0 => ihl (j / 2) | _ => ihr (j / 2)) t
--S def Tr.get : Tr → Nat → Option O | .e, _ => none | .nd l o r, i => match i with | 0 => o | j + 1 => match j % 2 with | 0 => l.get (j / 2) | _ => r.get (j / 2)
noncomputable def Tr.put (o : O) (f : Nat) : Tr → Nat → Tr := @Nat.rec (fun _ => Tr → Nat → Tr) (fun t _ => t) (fun _ ih t i => match i with | 0 => (match t with | .e => .nd .e (some o) .e | .nd l _ r => .nd l (some o) r) | j + 1 => (match t with | .e => (match j % 2 with | 0 => .nd (ih .e (j / 2)) none .e | _ => .nd .e none (ih .e (j / 2))) | .nd l p r => (match j % 2 with | 0 => .nd (ih l (j / 2)) p r | _ => .nd l p (ih r (j / 2))))) f
--S def Tr.put (o : O) : Nat → Tr → Nat → Tr | 0, t, _ => t | f + 1, t, i => match i with | 0 => (match t with | .e => .nd .e (some o) .e | .nd l _ r => .nd l (some o) r) | j + 1 => (match t with | .e => (match j % 2 with | 0 => .nd (Tr.put o f .e (j / 2)) none .e | _ => .nd .e none (Tr.put o f .e (j / 2))) | .nd l p r => (match j % 2 with | 0 => .nd (Tr.put o f l (j / 2)) p r | _ => .nd l p (Tr.put o f r (j / 2))))
theorem Tr.get_e (i : Nat) : Tr.get .e i = none := rfl
theorem Tr.get_nd (l r : Tr) (o : Option O) (i : Nat) : Tr.get (.nd l o r) i = match i with | 0 => o | j + 1 => match j % 2 with | 0 => l.get (j / 2) | _ => r.get (j / 2) := rfl
theorem Tr.put_s (o : O) (f : Nat) (t : Tr) (i : Nat) : Tr.put o (f + 1) t i = match i with | 0 => (match t with | .e => .nd .e (some o) .e | .nd l _ r => .nd l (some o) r) | j + 1 => (match t with | .e => (match j % 2 with | 0 => .nd (Tr.put o f .e (j / 2)) none .e | _ => .nd .e none (Tr.put o f .e (j / 2))) | .nd l p r => (match j % 2 with | 0 => .nd (Tr.put o f l (j / 2)) p r | _ => .nd l p (Tr.put o f r (j / 2)))) := rfl
/-! lists, by their recursor: quick to reckon -/
noncomputable def lenR {α : Type} (l : List α) : Nat := @List.rec α (fun _ => Nat) 0 (fun _ _ ih => Nat.succ ih) l
--S def lenR {α : Type} (l : List α) : Nat := l.length
noncomputable def getR {α : Type} (l : List α) : Nat → Option α := @List.rec α (fun _ => Nat → Option α) (fun _ => none) (fun x _ ih i => match i with | 0 => some x | j + 1 => ih j) l
--S def getR {α : Type} : List α → Nat → Option α | [], _ => none | x :: r, i => match i with | 0 => some x | j + 1 => getR r j
noncomputable def setR {α : Type} (l : List α) : Nat → α → List α := @List.rec α (fun _ => Nat → α → List α) (fun _ _ => []) (fun x r ih i y => match i with | 0 => y :: r | j + 1 => x :: ih j y) l
--S def setR {α : Type} : List α → Nat → α → List α | [], _, _ => [] | x :: r, i, y => match i with | 0 => y :: r | j + 1 => x :: setR r j y
noncomputable def appR {α β : Type} (xs : List α) (y : List α) : (List α → β) → β := @List.rec α (fun _ => (List α → β) → β) (fun k => k y) (fun x _ ih k => ih fun l => k (x :: l)) xs
--S def appR {α β : Type} : List α → List α → (List α → β) → β | [], y, k => k y | x :: r, y, k => appR r y fun l => k (x :: l)
theorem lenR_eq {α : Type} (l : List α) : lenR l = l.length := by
  induction l with
  | nil => rfl
  | cons x r ih => exact congrArg (· + 1) ih
theorem getR_eq {α : Type} (l : List α) : ∀ i, getR l i = l[i]? := by
  induction l with
  | nil => intro i; rfl
  | cons x r ih =>
    intro i
    cases i with
    | zero => rfl
    | succ j => exact (ih j).trans (List.getElem?_cons_succ).symm
theorem setR_eq {α : Type} (l : List α) : ∀ i y, setR l i y = l.set i y := by
  induction l with
  | nil => intro i y; rfl
  | cons x r ih =>
    intro i y
    cases i with
    | zero => rfl
    | succ j => exact congrArg (x :: ·) (ih j y)
theorem appR_eq {α β : Type} (xs y : List α) : ∀ k : List α → β, appR xs y k = k (xs ++ y) := by
  induction xs with
  | nil => intro k; rfl
  | cons x r ih => intro k; exact ih fun l => k (x :: l)
theorem Tr.get_put_same (o : O) : ∀ (f : Nat) (t : Tr) (i : Nat), i < f → (Tr.put o f t i).get i = some o
  | 0, _, _, h => absurd h (Nat.not_lt_zero _)
  | f + 1, t, i, h => by
    cases i with
    | zero => cases t <;> rfl
    | succ j =>
      have hj : j / 2 < f := by omega
      have e := fun t => Tr.get_put_same o f t (j / 2) hj
      cases t with
      | e =>
        simp only [Tr.put_s]
        split <;> rename_i q <;> simp only [Tr.get_nd, q] <;> exact e _
      | nd l p r =>
        simp only [Tr.put_s]
        split <;> rename_i q <;> simp only [Tr.get_nd, q] <;> exact e _
theorem Tr.get_put_ne (o : O) : ∀ (f : Nat) (t : Tr) (i k : Nat), i ≠ k → (Tr.put o f t i).get k = t.get k
  | 0, _, _, _, _ => rfl
  | f + 1, t, i, k, h => by
    cases i with
    | zero =>
      cases k with
      | zero => exact absurd rfl h
      | succ k => cases t with
        | e =>
          simp only [Tr.put_s, Tr.get_nd]
          split <;> rfl
        | nd l p r => rfl
    | succ j =>
      have e := fun t k => Tr.get_put_ne o f t (j / 2) k
      cases k with
      | zero => cases t with
        | e => simp only [Tr.put_s]; split <;> rfl
        | nd l p r => simp only [Tr.put_s]; split <;> rfl
      | succ k =>
        cases t with
        | e =>
          simp only [Tr.put_s]
          split <;> rename_i q <;> simp only [Tr.get_nd] <;> split <;> rename_i q2
          · have := e .e (k / 2) (by omega); rw [this]; rfl
          · rfl
          · rfl
          · have : j % 2 = k % 2 := by
              have a1 : j % 2 ≠ 0 := fun z => q z
              have a2 : k % 2 ≠ 0 := fun z => q2 z
              omega
            have := e .e (k / 2) (by omega); rw [this]; rfl
        | nd l p r =>
          simp only [Tr.put_s]
          split <;> rename_i q <;> simp only [Tr.get_nd] <;> split <;> rename_i q2
          · exact e l (k / 2) (by omega)
          · rfl
          · rfl
          · have : j % 2 = k % 2 := by
              have a1 : j % 2 ≠ 0 := fun z => q z
              have a2 : k % 2 ≠ 0 := fun z => q2 z
              omega
            exact e r (k / 2) (by omega)
structure Hm where
  n : Nat
  t : Tr
def Hm.get (h : Hm) (i : Nat) : Option O := h.t.get i
def Hm.put (h : Hm) (i : Nat) (o : O) : Hm := ⟨h.n, Tr.put o (i + 1) h.t i⟩
def Hm.push (h : Hm) (o : O) : Hm := ⟨h.n + 1, Tr.put o (h.n + 1) h.t h.n⟩
theorem Hm.get_put_same (h : Hm) (i : Nat) (o : O) : (h.put i o).get i = some o := (show Tr.get (Tr.put o (i + 1) h.t i) i = some o from Tr.get_put_same o (i + 1) h.t i (Nat.lt_succ_self _))
theorem Hm.get_put_ne {h : Hm} {i k : Nat} {o : O} (e : i ≠ k) : (h.put i o).get k = h.get k := (show Tr.get (Tr.put o (i + 1) h.t i) k = Tr.get h.t k from Tr.get_put_ne o (i + 1) h.t i k e)
theorem Hm.get_push_same (h : Hm) (o : O) : (h.push o).get h.n = some o := (show Tr.get (Tr.put o (h.n + 1) h.t h.n) h.n = some o from Tr.get_put_same o (h.n + 1) h.t h.n (Nat.lt_succ_self _))
theorem Hm.get_push_ne {h : Hm} {k : Nat} {o : O} (e : h.n ≠ k) : (h.push o).get k = h.get k := (show Tr.get (Tr.put o (h.n + 1) h.t h.n) k = Tr.get h.t k from Tr.get_put_ne o (h.n + 1) h.t h.n k e)
def Hm.nil : Hm := ⟨0, .e⟩
/-- what a run of the mirror gives -/
inductive R (α : Type) where
  | ok (a : α) (h : Hm)
  | exn (c : Nat) (ds : List D) (h : Hm)
  | bad
abbrev Loc := List (Option D)
abbrev ME := Loc → Hm → R D
/-! ### what stands for what -/
/-- the program's defs and classes: where they stand, an error class's field -/
structure Cz where
  K : PySem.W.Frag
  w : World
  φ : Nat → Addr
  κ : Nat → Addr
  fld : Nat → List Str
  /-- what stands for good: the script's list -/
  pin : Hp → Prop
  pinm : ∀ H H' : Hp, (∀ b o u, H b = some (.frz o u) → H' b = some (.frz o u)) → pin H → pin H'
mutual
inductive RV (Z : Cz) (ρ : Nat → Addr) (n : Nat) (H : Hp) : D → V → Prop
  | non : RV Z ρ n H .non .non
  | bl (b : Bool) : RV Z ρ n H (.bl b) (.bl b)
  | int (i : Int) : RV Z ρ n H (.int i) (.int i)
  | str (x : Str) : RV Z ρ n H (.str x) (.str x)
  | tup {a : Addr} {ds : List D} {vs : List V} : H a = some (.tup vs) → RVs Z ρ n H ds vs → RV Z ρ n H (.tup ds) (.ref a)
  | ref {i : Nat} : i < n → RV Z ρ n H (.ref i) (.ref (ρ i))
  | fn (k : Nat) : RV Z ρ n H (.fn k) (.ref (Z.φ k))
  | exc (a : Addr) : RV Z ρ n H .exc (.ref a)
inductive RVs (Z : Cz) (ρ : Nat → Addr) (n : Nat) (H : Hp) : List D → List V → Prop
  | nil : RVs Z ρ n H [] []
  | cons {d : D} {v : V} {ds : List D} {vs : List V} : RV Z ρ n H d v → RVs Z ρ n H ds vs → RVs Z ρ n H (d :: ds) (v :: vs)
end
def RKs (Z : Cz) (ρ : Nat → Addr) (n : Nat) (H : Hp) {κ : Type} : List (κ × D) → List (κ × V) → Prop := Paired fun (p : κ × D) (q : κ × V) => p.1 = q.1 ∧ RV Z ρ n H p.2 q.2
def RO (Z : Cz) (ρ : Nat → Addr) (n : Nat) (H : Hp) (a : Addr) : O → Prop
  | .lst ds => ∃ vs, H a = some (.lst vs) ∧ RVs Z ρ n H ds vs
  | .dK kvs => ∃ ws, H a = some (.dK ws) ∧ RKs Z ρ n H kvs ws
  | .dT kvs => ∃ ws, H a = some (.dT ws) ∧ RKs Z ρ n H kvs ws
  | .fK kvs => ∃ ws ob, H a = some (.frz ob (.dK ws)) ∧ RKs Z ρ n H kvs ws
  | .fT kvs => ∃ ws ob, H a = some (.frz ob (.dT ws)) ∧ RKs Z ρ n H kvs ws
  | .st ns => ∃ S, H a = some (SetO Z.w a S ns.length) ∧ (∀ k, S k = true ↔ k ∈ ns) ∧ ns.Pairwise (· < ·)
structure Rep (Z : Cz) (ρ : Nat → Addr) (h : Hm) (H : Hp) : Prop where
  inj : ∀ i j, i < h.n → j < h.n → ρ i = ρ j → i = j
  obj : ∀ i, i < h.n → ∃ o, h.get i = some o ∧ RO Z ρ h.n H (ρ i) o
  pin : Z.pin H
/-- a later state: what stood outside stands; what stood has not gone -/
structure Ext (ρ : Nat → Addr) (n : Nat) (H : Hp) (ρ' : Nat → Addr) (n' : Nat) (H' : Hp) : Prop where
  le : n ≤ n'
  same : ∀ i, i < n → ρ' i = ρ i
  out : ∀ a o, H a = some o → (∀ i, i < n → ρ i ≠ a) → H' a = some o
  dom : ∀ a, H' a = none → H a = none
  new : ∀ i, n ≤ i → i < n' → H (ρ' i) = none
  frz : ∀ b o u, H b = some (.frz o u) → H' b = some (.frz o u)
theorem Ext.refl {ρ : Nat → Addr} {n : Nat} {H : Hp} : Ext ρ n H ρ n H := ⟨Nat.le_refl _, fun _ _ => rfl, fun _ _ h _ => h, fun _ h => h, fun i h1 h2 => absurd h2 (by omega), fun _ _ _ h => h⟩
theorem Ext.trans {ρ ρ1 ρ2 : Nat → Addr} {n n1 n2 : Nat} {H H1 H2 : Hp} (a : Ext ρ n H ρ1 n1 H1) (b : Ext ρ1 n1 H1 ρ2 n2 H2) : Ext ρ n H ρ2 n2 H2 where
  le := Nat.le_trans a.le b.le
  same := fun i h => (b.same i (Nat.lt_of_lt_of_le h a.le)).trans (a.same i h)
  out := fun x o h f => b.out x o (a.out x o h f) fun i hi e => by
    by_cases hn : i < n
    · exact f i hn ((a.same i hn).symm.trans e)
    · have := a.new i (by omega) hi
      rw [e, h] at this
      cases this
  dom := fun x h => a.dom x (b.dom x h)
  new := fun i h1 h2 => by
    by_cases hn : i < n1
    · rw [b.same i hn]
      exact a.new i h1 hn
    · exact a.dom _ (b.new i (by omega) h2)
  frz := fun c o u h => b.frz c o u (a.frz c o u h)
section
variable {Z : Cz} {ρ ρ' : Nat → Addr} {n n' : Nat} {h h' : Hm} {H H' : Hp}
theorem RO.some {a : Addr} {o : O} (r : RO Z ρ n H a o) : ∃ u, H a = some u ∧ (∀ xs, u ≠ .tup xs) ∧ (∀ xs, u ≠ .tup xs) := by
  cases o with
  | lst ds => obtain ⟨vs, e, _⟩ := r; exact ⟨_, e, (by intro _ z; cases z), (by intro _ z; cases z)⟩
  | dK ds => obtain ⟨vs, e, _⟩ := r; exact ⟨_, e, (by intro _ z; cases z), (by intro _ z; cases z)⟩
  | dT ds => obtain ⟨vs, e, _⟩ := r; exact ⟨_, e, (by intro _ z; cases z), (by intro _ z; cases z)⟩
  | fK ds => obtain ⟨vs, ob, e, _⟩ := r; exact ⟨_, e, (by intro _ z; cases z), (by intro _ z; cases z)⟩
  | fT ds => obtain ⟨vs, ob, e, _⟩ := r; exact ⟨_, e, (by intro _ z; cases z), (by intro _ z; cases z)⟩
  | st ns => obtain ⟨S, e, _⟩ := r; exact ⟨_, e, (by intro _ z; cases z), (by intro _ z; cases z)⟩
theorem Ext.tup (r : Rep Z ρ h H) (e : Ext ρ h.n H ρ' n' H') {a : Addr} {vs : List V} (s : H a = some (.tup vs)) : H' a = some (.tup vs) := by
  refine e.out a _ s fun i hi z => ?_
  obtain ⟨o, _, ro⟩ := r.obj i hi
  obtain ⟨u, hu, n1, n2⟩ := ro.some
  rw [z, s] at hu
  exact n1 _ (Option.some.inj hu).symm
mutual
theorem RV.mono (r : Rep Z ρ h H) (e : Ext ρ h.n H ρ' n' H') : ∀ {d : D} {v : V}, RV Z ρ h.n H d v → RV Z ρ' n' H' d v
  | _, _, .non => .non
  | _, _, .bl b => .bl b
  | _, _, .int b => .int b
  | _, _, .str b => .str b
  | _, _, .tup s t => .tup (e.tup r s) (RVs.mono r e t)
  | _, _, .ref (i := i) hi => by
    rw [← e.same i hi]
    exact .ref (Nat.lt_of_lt_of_le hi e.le)
  | _, _, .fn k => .fn k
  | _, _, .exc k => .exc k
theorem RVs.mono (r : Rep Z ρ h H) (e : Ext ρ h.n H ρ' n' H') : ∀ {d : List D} {v : List V}, RVs Z ρ h.n H d v → RVs Z ρ' n' H' d v
  | _, _, .nil => .nil
  | _, _, .cons s t => .cons (RV.mono r e s) (RVs.mono r e t)
end
/-- the same without Rep: a state in which only the places of objects matter -/
theorem RKs.mono (r : Rep Z ρ h H) (e : Ext ρ h.n H ρ' n' H') {κ : Type} {d : List (κ × D)} {v : List (κ × V)} (q : RKs Z ρ h.n H d v) : RKs Z ρ' n' H' d v :=
  Paired.mapP q fun a b z => ⟨z.1, z.2.mono r e⟩
theorem RVs.length : ∀ {d : List D} {v : List V}, RVs Z ρ n H d v → d.length = v.length
  | _, _, .nil => rfl
  | _, _, .cons _ t => congrArg (· + 1) (RVs.length t)
theorem RVs.append : ∀ {d d' : List D} {v v' : List V}, RVs Z ρ n H d v → RVs Z ρ n H d' v' → RVs Z ρ n H (d ++ d') (v ++ v')
  | _, _, _, _, .nil, s => s
  | _, _, _, _, .cons r t, s => .cons r (RVs.append t s)
theorem RVs.get : ∀ {d : List D} {v : List V}, RVs Z ρ n H d v → ∀ {i : Nat} {x : D}, d[i]? = some x → ∃ y, v[i]? = some y ∧ RV Z ρ n H x y
  | _, _, .nil, _, _, e => by simp at e
  | _, _, .cons r t, 0, _, e => ⟨_, rfl, by simp at e; subst e; exact r⟩
  | _, _, .cons r t, i + 1, x, e => by
    obtain ⟨y, h1, h2⟩ := RVs.get t (i := i) (x := x) (by simpa using e)
    exact ⟨y, by simpa using h1, h2⟩
theorem RVs.get' : ∀ {d : List D} {v : List V}, RVs Z ρ n H d v → ∀ {i : Nat} {y : V}, v[i]? = some y → ∃ x, d[i]? = some x ∧ RV Z ρ n H x y
  | _, _, .nil, _, _, e => by simp at e
  | _, _, .cons r t, 0, _, e => ⟨_, rfl, by simp at e; subst e; exact r⟩
  | _, _, .cons r t, i + 1, x, e => by
    obtain ⟨y, h1, h2⟩ := RVs.get' t (i := i) (y := x) (by simpa using e)
    exact ⟨y, by simpa using h1, h2⟩
theorem RVs.set {x : D} {y : V} (r : RV Z ρ n H x y) : ∀ {d : List D} {v : List V} (i : Nat), RVs Z ρ n H d v → RVs Z ρ n H (d.set i x) (v.set i y)
  | _, _, _, .nil => .nil
  | _, _, 0, .cons _ t => .cons r t
  | _, _, i + 1, .cons q t => .cons q (RVs.set r i t)
theorem RVs.drop : ∀ {d : List D} {v : List V} (k : Nat), RVs Z ρ n H d v → RVs Z ρ n H (d.drop k) (v.drop k)
  | _, _, 0, r => r
  | _, _, _ + 1, .nil => .nil
  | _, _, k + 1, .cons r t => RVs.drop k t
theorem RVs.take : ∀ {d : List D} {v : List V} (k : Nat), RVs Z ρ n H d v → RVs Z ρ n H (d.take k) (v.take k)
  | _, _, 0, _ => .nil
  | _, _, _ + 1, .nil => .nil
  | _, _, k + 1, .cons r t => .cons r (RVs.take k t)
/-- an object is laid: a new list, dict -/
theorem Rep.push (r : Rep Z ρ h H) {p : Addr} {o : O} {u : HO} (hp : H p = none)
    (ro : ∀ ρ', Ext ρ h.n H ρ' (h.n + 1) (upd H p u) → RO Z ρ' (h.n + 1) (upd H p u) p o) :
    ∃ ρ', Ext ρ h.n H ρ' (h.n + 1) (upd H p u) ∧ Rep Z ρ' (h.push o) (upd H p u) ∧ ρ' h.n = p := by
  have ex : Ext ρ h.n H (fun i => if i = h.n then p else ρ i) (h.n + 1) (upd H p u) := by
    refine ⟨Nat.le_succ _, fun i hi => ?_, fun a o' e f => ?_, fun a e => ?_, fun i h1 h2 => ?_, fun b o' w e => by rw [upd_ne (ne_of_none e hp)]; exact e⟩
    · show (if i = h.n then p else ρ i) = ρ i
      rw [if_neg (by omega)]
    · rw [upd_ne (ne_of_none e hp)]; exact e
    · by_cases z : a = p
      · rw [z]; exact hp
      · rwa [upd_ne z] at e
    · have e : i = h.n := by omega
      show H (if i = h.n then p else ρ i) = none
      rw [if_pos e]; exact hp
  refine ⟨_, ex, ⟨fun i j hi hj e => ?_, fun i hi => ?_, Z.pinm _ _ ex.frz r.pin⟩, if_pos rfl⟩
  · have hi' : i < h.n + 1 := hi
    have hj' : j < h.n + 1 := hj
    have old : ∀ i, i < h.n → ρ i ≠ p := fun i hi z => by
      obtain ⟨o', _, ro'⟩ := r.obj i hi
      obtain ⟨u', hu, _⟩ := ro'.some
      rw [z, hp] at hu; cases hu
    have e' : (if i = h.n then p else ρ i) = (if j = h.n then p else ρ j) := e
    by_cases h1 : i = h.n <;> by_cases h2 : j = h.n
    · rw [h1, h2]
    · rw [if_pos h1, if_neg h2] at e'
      exact absurd e'.symm (old j (by omega))
    · rw [if_neg h1, if_pos h2] at e'
      exact absurd e' (old i (by omega))
    · rw [if_neg h1, if_neg h2] at e'
      exact r.inj i j (by omega) (by omega) e'
  · have hi' : i < h.n + 1 := hi
    by_cases h1 : i = h.n
    · subst h1
      refine ⟨o, Hm.get_push_same _ _, ?_⟩
      have := ro _ ex
      show RO Z _ (h.n + 1) _ (if h.n = h.n then p else ρ h.n) o
      rw [if_pos rfl]
      exact this
    · obtain ⟨o', e', ro'⟩ := r.obj i (by omega)
      refine ⟨o', (Hm.get_push_ne (Ne.symm h1)).trans e', ?_⟩
      show RO Z _ (h.n + 1) _ (if i = h.n then p else ρ i) o'
      rw [if_neg h1]
      have st : ∀ w, H (ρ i) = some w → upd H p u (ρ i) = some w := fun w hw => by rw [upd_ne (ne_of_none hw hp)]; exact hw
      cases o' with
      | lst ds => obtain ⟨vs, e1, e2⟩ := ro'; exact ⟨vs, st _ e1, e2.mono r ex⟩
      | dK ds => obtain ⟨vs, e1, e2⟩ := ro'; exact ⟨vs, st _ e1, e2.mono r ex⟩
      | dT ds => obtain ⟨vs, e1, e2⟩ := ro'; exact ⟨vs, st _ e1, e2.mono r ex⟩
      | fK ds => obtain ⟨vs, ob, e1, e2⟩ := ro'; exact ⟨vs, ob, st _ e1, e2.mono r ex⟩
      | fT ds => obtain ⟨vs, ob, e1, e2⟩ := ro'; exact ⟨vs, ob, st _ e1, e2.mono r ex⟩
      | st ns => obtain ⟨S, e1, e2⟩ := ro'; exact ⟨S, st _ e1, e2⟩
/-- an object is written -/
theorem Rep.put (r : Rep Z ρ h H) {i : Nat} {o : O} {u : HO} (hi : i < h.n) (nf : ∀ ob w, H (ρ i) ≠ some (.frz ob w))
    (ro : Ext ρ h.n H ρ h.n (upd H (ρ i) u) → RO Z ρ h.n (upd H (ρ i) u) (ρ i) o) :
    Ext ρ h.n H ρ h.n (upd H (ρ i) u) ∧ Rep Z ρ (h.put i o) (upd H (ρ i) u) := by
  have ex : Ext ρ h.n H ρ h.n (upd H (ρ i) u) := by
    refine ⟨Nat.le_refl _, fun _ _ => rfl, fun a o' e f => ?_, fun a e => ?_, fun j h1 h2 => absurd h2 (by omega), fun b o' w e => by rw [upd_ne (fun z => nf _ _ (z ▸ e))]; exact e⟩
    · rw [upd_ne (Ne.symm (f i hi))]; exact e
    · by_cases z : a = ρ i
      · rw [z, upd_same] at e; cases e
      · rwa [upd_ne z] at e
  refine ⟨ex, fun j k hj hk e => r.inj j k hj hk e, fun j hj => ?_, Z.pinm _ _ ex.frz r.pin⟩
  have hj' : j < h.n := hj
  by_cases h1 : j = i
  · subst h1
    exact ⟨o, Hm.get_put_same _ _ _, ro ex⟩
  · obtain ⟨o', e', ro'⟩ := r.obj j hj'
    refine ⟨o', (Hm.get_put_ne (Ne.symm h1)).trans e', ?_⟩
    have nj : ρ j ≠ ρ i := fun z => h1 (r.inj j i hj' hi z)
    have st : ∀ w, H (ρ j) = some w → upd H (ρ i) u (ρ j) = some w := fun w hw => by rw [upd_ne nj]; exact hw
    cases o' with
    | lst ds => obtain ⟨vs, e1, e2⟩ := ro'; exact ⟨vs, st _ e1, e2.mono r ex⟩
    | dK ds => obtain ⟨vs, e1, e2⟩ := ro'; exact ⟨vs, st _ e1, e2.mono r ex⟩
    | dT ds => obtain ⟨vs, e1, e2⟩ := ro'; exact ⟨vs, st _ e1, e2.mono r ex⟩
    | fK ds => obtain ⟨vs, ob, e1, e2⟩ := ro'; exact ⟨vs, ob, st _ e1, e2.mono r ex⟩
    | fT ds => obtain ⟨vs, ob, e1, e2⟩ := ro'; exact ⟨vs, ob, st _ e1, e2.mono r ex⟩
    | st ns => obtain ⟨S, e1, e2⟩ := ro'; exact ⟨S, st _ e1, e2⟩
/-- an untracked new thing (a tuple, a temporary) is laid -/
theorem Rep.aside (r : Rep Z ρ h H) {p : Addr} {u : HO} (hp : H p = none) : Ext ρ h.n H ρ h.n (upd H p u) ∧ Rep Z ρ h (upd H p u) := by
  have ex : Ext ρ h.n H ρ h.n (upd H p u) := by
    refine ⟨Nat.le_refl _, fun _ _ => rfl, fun a o' e f => ?_, fun a e => ?_, fun j h1 h2 => absurd h2 (by omega), fun b o' w e => by rw [upd_ne (ne_of_none e hp)]; exact e⟩
    · rw [upd_ne (ne_of_none e hp)]; exact e
    · by_cases z : a = p
      · rw [z]; exact hp
      · rwa [upd_ne z] at e
  refine ⟨ex, r.inj, fun j hj => ?_, Z.pinm _ _ ex.frz r.pin⟩
  obtain ⟨o', e', ro'⟩ := r.obj j hj
  refine ⟨o', e', ?_⟩
  have st : ∀ w, H (ρ j) = some w → upd H p u (ρ j) = some w := fun w hw => by rw [upd_ne (ne_of_none hw hp)]; exact hw
  cases o' with
  | lst ds => obtain ⟨vs, e1, e2⟩ := ro'; exact ⟨vs, st _ e1, e2.mono r ex⟩
  | dK ds => obtain ⟨vs, e1, e2⟩ := ro'; exact ⟨vs, st _ e1, e2.mono r ex⟩
  | dT ds => obtain ⟨vs, e1, e2⟩ := ro'; exact ⟨vs, st _ e1, e2.mono r ex⟩
  | fK ds => obtain ⟨vs, ob, e1, e2⟩ := ro'; exact ⟨vs, ob, st _ e1, e2.mono r ex⟩
  | fT ds => obtain ⟨vs, ob, e1, e2⟩ := ro'; exact ⟨vs, ob, st _ e1, e2.mono r ex⟩
  | st ns => obtain ⟨S, e1, e2⟩ := ro'; exact ⟨S, st _ e1, e2⟩
end
end
end Sm
namespace Sm
open PySem PySem.Spec PyProof.Rows L2
noncomputable section
/-! ### readings of the mirror -/
abbrev Rl (α β : Type) := (Nat → Addr) → Nat → Hp → α → β → Prop
def RX (Z : Cz) (ρ : Nat → Addr) (n : Nat) (H : Hp) (c : Nat) (ds : List D) (cl : Value) (dd : Option Addr) : Prop :=
  cl = .ref (Z.κ c) ∧ ((ds = [] ∧ dd = none) ∨ ∃ d f v dx, ds = [d] ∧ Z.fld c = [f] ∧ dd = some dx ∧ H dx = some (.xd [(f, v)]) ∧ RV Z ρ n H d v)
/-- what is wanted behind a run of the mirror -/
def Aft (Z : Cz) {α β : Type} (rl : Rl α β) (ρ : Nat → Addr) (h : Hm) (H : Hp) (r : R α) (Q : β → Hp → Prop) (E : XK) : Prop :=
  match r with
  | .ok a h' => ∀ ρ' H' b, Ext ρ h.n H ρ' h'.n H' → Rep Z ρ' h' H' → rl ρ' h'.n H' a b → Q b H'
  | .exn c ds h' => ∀ ρ' H' cl dd, Ext ρ h.n H ρ' h'.n H' → Rep Z ρ' h' H' → RX Z ρ' h'.n H' c ds cl dd → E cl dd H'
  | .bad => False
abbrev rlV (Z : Cz) : Rl D V := fun ρ n H d v => RV Z ρ n H d v
abbrev rlB : Rl Bool Bool := fun _ _ _ a b => a = b
abbrev rlL (Z : Cz) : Rl (List D) (List V) := fun ρ n H d v => RVs Z ρ n H d v
abbrev rlO : Rl (Option Int) (Option Int) := fun _ _ _ a b => a = b
/-- the names of the frame -/
def RS (Z : Cz) (ρ : Nat → Addr) (n : Nat) (H : Hp) (σ : Loc) (τ : L2.St) : Prop :=
  σ.length = τ.length ∧ ∀ (i : Nat) (d : D), σ[i]? = some (some d) → ∃ v, τ[i]? = some (some v) ∧ RV Z ρ n H d v
section
variable {Z : Cz} {ρ ρ' ρ1 : Nat → Addr} {n n' : Nat} {h h' h1 : Hm} {H H' H1 : Hp} {E : XK} {α β γ δ : Type} {rl : Rl α β} {rl2 : Rl γ δ}
theorem RS.mono (r : Rep Z ρ h H) (e : Ext ρ h.n H ρ' n' H') {σ : Loc} {τ : L2.St} (q : RS Z ρ h.n H σ τ) : RS Z ρ' n' H' σ τ :=
  ⟨q.1, fun i d a => let ⟨v, b, c⟩ := q.2 i d a; ⟨v, b, c.mono r e⟩⟩
theorem RS.set {σ : Loc} {τ : L2.St} (q : RS Z ρ n H σ τ) {i : Nat} {d : D} {v : V} (r : RV Z ρ n H d v) : RS Z ρ n H (σ.set i (some d)) (τ.set i (some v)) := by
  refine ⟨by rw [List.length_set, List.length_set]; exact q.1, fun j d' e => ?_⟩
  by_cases hj : i = j
  · subst hj
    have hi : i < σ.length := by
      by_cases z : i < σ.length
      · exact z
      · rw [List.set_eq_of_length_le (by omega), List.getElem?_eq_none (by omega)] at e; cases e
    rw [List.getElem?_set_self hi] at e
    cases e
    exact ⟨v, by rw [List.getElem?_set_self (by rw [← q.1]; exact hi)], r⟩
  · rw [List.getElem?_set_ne hj] at e
    obtain ⟨w, a, b⟩ := q.2 j d' e
    exact ⟨w, by rw [List.getElem?_set_ne hj]; exact a, b⟩
theorem RS.setR {σ : Loc} {τ : L2.St} (q : RS Z ρ n H σ τ) {i : Nat} {d : D} {v : V} (r : RV Z ρ n H d v) : RS Z ρ n H (Sm.setR σ i (some d)) (τ.set i (some v)) := by
  rw [setR_eq]; exact q.set r
theorem Aft.shift {r : R α} {Q : β → Hp → Prop} (e : Ext ρ h.n H ρ1 h1.n H1) (q : Aft Z rl ρ h H r Q E) : Aft Z rl ρ1 h1 H1 r Q E := by
  cases r with
  | ok a h' => exact fun ρ' H' b e' r' l => q ρ' H' b (e.trans e') r' l
  | exn c ds h' => exact fun ρ' H' b dd e' r' l => q ρ' H' b dd (e.trans e') r' l
  | bad => exact q
theorem Aft.ok {a : α} {Q : β → Hp → Prop} (q : ∀ ρ' H' b, Ext ρ h.n H ρ' h'.n H' → Rep Z ρ' h' H' → rl ρ' h'.n H' a b → Q b H') : Aft Z rl ρ h H (.ok a h') Q E := q
/-- the mirror's one step after another -/
def R.bind {α γ : Type} (r : R α) (k : α → Hm → R γ) : R γ := match r with
  | .ok a h => k a h
  | .exn c ds h => .exn c ds h
  | .bad => .bad
theorem Aft.bind {r : R α} {k : α → Hm → R γ} {Q : δ → Hp → Prop} {Q1 : β → Hp → Prop} (q : Aft Z rl2 ρ h H (r.bind k) Q E)
    (go : ∀ a h1 ρ1 H1 b, Ext ρ h.n H ρ1 h1.n H1 → Rep Z ρ1 h1 H1 → rl ρ1 h1.n H1 a b → Aft Z rl2 ρ1 h1 H1 (k a h1) Q E → Q1 b H1) : Aft Z rl ρ h H r Q1 E := by
  cases r with
  | ok a h' => exact fun ρ' H' b e' r' l => go a h' ρ' H' b e' r' l (Aft.shift e' q)
  | exn c ds h' => exact q
  | bad => exact q
theorem Aft.imp {r : R α} {Q Q1 : β → Hp → Prop} (q : Aft Z rl ρ h H r Q E) (go : ∀ b H, Q b H → Q1 b H) : Aft Z rl ρ h H r Q1 E := by
  cases r with
  | ok a h' => exact fun ρ' H' b e' r' l => go _ _ (q ρ' H' b e' r' l)
  | exn c ds h' => exact q
  | bad => exact q
end
/-! ### the judgements: an expression, a test, arguments -/
abbrev MT := Loc → Hm → R Bool
abbrev MA := Loc → Hm → R (List D)
def tM (Z : Cz) {α β : Type} (rl : Rl α β) (E : L2.St → XK) (m : Loc → Hm → R α) : L2.St → Hp → (β → Hp → Prop) → Prop := fun τ H Q =>
  ∃ ρ σ h, Rep Z ρ h H ∧ RS Z ρ h.n H σ τ ∧ Aft Z rl ρ h H (m σ h) Q (E τ)
abbrev tE (Z : Cz) (E : L2.St → XK) (m : ME) : TE := tM Z (rlV Z) E m
abbrev tT (Z : Cz) (E : L2.St → XK) (m : MT) : TT := tM Z rlB E m
abbrev tA (Z : Cz) (E : L2.St → XK) (m : MA) : TA := tM Z (rlL Z) E m
/-- weaken -/
theorem _root_.L2.PE.imp {X : Cx} {e : Expr} {t t' : TE} (p : PE X e t) (w : ∀ σ H Q, t' σ H Q → t σ H Q) : PE X e t' := ⟨fun pins s σ H Q I q => p.run pins s σ H Q I (w σ H Q q)⟩
theorem _root_.L2.PT.imp {X : Cx} {e : Expr} {t t' : TT} (p : PT X e t) (w : ∀ σ H Q, t' σ H Q → t σ H Q) : PT X e t' := ⟨fun pins s σ H Q I q => p.run pins s σ H Q I (w σ H Q q)⟩
theorem _root_.L2.PA.imp {X : Cx} {e : List Expr} {t t' : TA} (p : PA X e t) (w : ∀ σ H Q, t' σ H Q → t σ H Q) : PA X e t' := ⟨fun ps pins s σ H Q I q => p.run ps pins s σ H Q I (w σ H Q q)⟩
section
variable {X : Cx} {Z : Cz} {E : L2.St → XK} {pos : Pos}
/-! names, constants -/
def mVar (i : Nat) : ME := fun σ h => match getR σ i with
  | some (some d) => .ok d h
  | _ => .bad
theorem s_var (i : Nat) {x : Str} (p : PE X (.Name x pos) (tVar i)) : PE X (.Name x pos) (tE Z E (mVar i)) := p.imp fun σ H Q => by
  rintro ⟨ρ, s, h, rep, rs, q⟩
  unfold mVar at q
  rw [getR_eq] at q
  cases e : s[i]? with
  | none => rw [e] at q; exact q.elim
  | some o => cases o with
    | none => rw [e] at q; exact q.elim
    | some d =>
      rw [e] at q
      obtain ⟨v, hv, rv⟩ := rs.2 i d e
      exact ⟨v, hv, q ρ H v Ext.refl rep rv⟩
def mC (d : D) : ME := fun _ h => .ok d h
theorem s_C {e : Expr} {d : D} {v : V} (p : PE X e (tC v)) (r : ∀ ρ n H, RV Z ρ n H d v) : PE X e (tE Z E (mC d)) := p.imp fun σ H Q => by
  rintro ⟨ρ, s, h, rep, rs, q⟩
  exact q ρ H v Ext.refl rep (r _ _ _)
theorem s_int {i : Int} {j : Nat} : PE X (.Constant (.int i) j pos) (tE Z E (mC (.int i))) := s_C pe_int fun _ _ _ => .int i
theorem s_bl {i : Bool} {j : Nat} : PE X (.Constant (.bool i) j pos) (tE Z E (mC (.bl i))) := s_C pe_bl fun _ _ _ => .bl i
theorem s_str {i : Str} {j : Nat} : PE X (.Constant (.str i) j pos) (tE Z E (mC (.str i))) := s_C pe_str fun _ _ _ => .str i
theorem s_non {j : Nat} : PE X (.Constant .none j pos) (tE Z E (mC .non)) := s_C pe_non fun _ _ _ => .non
/-! two operands -/
variable {a b : Expr} {ma mb : ME}
abbrev F2 := D → D → Hm → R D
def m2 (f : F2) (ma mb : ME) : ME := fun σ h => (ma σ h).bind fun d h1 => (mb σ h1).bind fun e h2 => f d e h2
def S2 (Z : Cz) (r : R2) (f : F2) : Prop := ∀ (ρ : Nat → Addr) (h : Hm) (H : Hp) (d e : D) (v w : V) (Q : VK) (E : XK), Rep Z ρ h H → RV Z ρ h.n H d v → RV Z ρ h.n H e w → Aft Z (rlV Z) ρ h H (f d e h) Q E → r v w H Q
theorem op2 {r : R2} {f : F2} (s : S2 Z r f) : ∀ σ H Q, tE Z E (m2 f ma mb) σ H Q → tOp r (tE Z E ma) (tE Z E mb) σ H Q := fun τ H Q => by
  rintro ⟨ρ, σ, h, rep, rs, q⟩
  refine ⟨ρ, σ, h, rep, rs, Aft.bind q fun d h1 ρ1 H1 v e1 rep1 rv q1 => ?_⟩
  refine ⟨ρ1, σ, h1, rep1, rs.mono rep e1, Aft.bind q1 fun e h2 ρ2 H2 w e2 rep2 rw q2 => ?_⟩
  exact s ρ2 h2 H2 d e v w Q _ rep2 (rv.mono rep1 e2) rw q2
theorem s_op {op : Operator} {r : R2} {f : F2} (o : OpR X (binaryOp op) r) (s : S2 Z r f) (pa : PE X a (tE Z E ma)) (pb : PE X b (tE Z E mb)) : PE X (.BinOp a op b pos) (tE Z E (m2 f ma mb)) :=
  (pe_op o pa pb).imp (op2 s)
theorem s_cmp {op : CmpOp} {r : R2} {f : F2} (o : OpR X (compareOp op) r) (s : S2 Z r f) (pa : PE X a (tE Z E ma)) (pb : PE X b (tE Z E mb)) (hm : behindInMarks op b = false) : PE X (.Compare a [op] [b] pos) (tE Z E (m2 f ma mb)) :=
  (pe_cmpR o pa pb hm).imp (op2 s)
def mTest (m : ME) : MT := fun σ h => (m σ h).bind fun d h1 => match d with
  | .bl b => .ok b h1
  | _ => .bad
/-- a test from a value that is a bool -/
theorem tB_of {m : ME} : ∀ σ H Q, tT Z E (mTest m) σ H Q → tE Z E m σ H fun x H1 => ∃ c, x = .bl c ∧ Q c H1 := fun τ H Q => by
  rintro ⟨ρ, σ, h, rep, rs, q⟩
  refine ⟨ρ, σ, h, rep, rs, Aft.bind q fun d h1 ρ1 H1 v e1 rep1 rv q1 => ?_⟩
  cases d <;> first | exact q1.elim | skip
  cases rv
  exact ⟨_, rfl, q1 ρ1 H1 _ Ext.refl rep1 rfl⟩
theorem s_test {e : Expr} {m : ME} (p : PE X e (tE Z E m)) (he : ∀ whole, isTrue e X.env whole = (do let v ← whole; standAt e.pos; holding [v] (truthy v)) := by intro _; rfl) : PT X e (tT Z E (mTest m)) :=
  (pt_val p he).imp fun σ H Q q => tB_of σ H Q q
theorem s_tcmp {op : CmpOp} {r : R2} {f : F2} (o : OpR X (compareOp op) r) (s : S2 Z r f) (pa : PE X a (tE Z E ma)) (pb : PE X b (tE Z E mb)) (hm : behindInMarks op b = false) : PT X (.Compare a [op] [b] pos) (tT Z E (mTest (m2 f ma mb))) :=
  (pt_cmpR o pa pb hm).imp fun σ H Q q => by
    have := tB_of σ H Q q
    exact op2 s σ H _ this
/-! is None -/
def fIsN (neg : Bool) : D → Bool := fun d => match d with
  | .non => !neg
  | _ => neg
def mIsN (neg : Bool) (m : ME) : ME := fun σ h => (m σ h).bind fun d h1 => .ok (.bl (fIsN neg d)) h1
theorem fIsN_ok {ρ : Nat → Addr} {n : Nat} {H : Hp} {d : D} {v : V} (r : RV Z ρ n H d v) : fIsN false d = decide (v = .non) ∧ fIsN true d = !decide (v = .non) := by cases r <;> exact ⟨rfl, rfl⟩
theorem s_isN {pos' : Pos} {j : Nat} {m : ME} (p : PE X a (tE Z E m)) : PE X (.Compare a [.Is] [.Constant .none j pos'] pos) (tE Z E (mIsN false m)) :=
  (pe_cmp (pc_isN p) rfl).imp fun τ H Q => by
    rintro ⟨ρ, σ, h, rep, rs, q⟩
    refine ⟨ρ, σ, h, rep, rs, Aft.bind q fun d h1 ρ1 H1 v e1 rep1 rv q1 => ?_⟩
    rw [← (fIsN_ok rv).1]
    exact q1 ρ1 H1 _ Ext.refl rep1 (.bl _)
theorem s_notN {pos' : Pos} {j : Nat} {m : ME} (p : PE X a (tE Z E m)) : PE X (.Compare a [.IsNot] [.Constant .none j pos'] pos) (tE Z E (mIsN true m)) :=
  (pe_cmp (pc_notN p) rfl).imp fun τ H Q => by
    rintro ⟨ρ, σ, h, rep, rs, q⟩
    refine ⟨ρ, σ, h, rep, rs, Aft.bind q fun d h1 ρ1 H1 v e1 rep1 rv q1 => ?_⟩
    rw [← (fIsN_ok rv).2]
    exact q1 ρ1 H1 _ Ext.refl rep1 (.bl _)
theorem s_tisN {pos' : Pos} {j : Nat} {m : ME} (p : PE X a (tE Z E m)) : PT X (.Compare a [.Is] [.Constant .none j pos'] pos) (tT Z E (mTest (mIsN false m))) :=
  (pt_cmp (pc_isN p) rfl).imp fun τ H Q q => by
    obtain ⟨ρ, σ, h, rep, rs, q⟩ := tB_of τ H Q q
    refine ⟨ρ, σ, h, rep, rs, Aft.bind q fun d h1 ρ1 H1 v e1 rep1 rv q1 => ?_⟩
    rw [← (fIsN_ok rv).1]
    exact q1 ρ1 H1 _ Ext.refl rep1 (.bl _)
theorem s_tnotN {pos' : Pos} {j : Nat} {m : ME} (p : PE X a (tE Z E m)) : PT X (.Compare a [.IsNot] [.Constant .none j pos'] pos) (tT Z E (mTest (mIsN true m))) :=
  (pt_cmp (pc_notN p) rfl).imp fun τ H Q q => by
    obtain ⟨ρ, σ, h, rep, rs, q⟩ := tB_of τ H Q q
    refine ⟨ρ, σ, h, rep, rs, Aft.bind q fun d h1 ρ1 H1 v e1 rep1 rv q1 => ?_⟩
    rw [← (fIsN_ok rv).2]
    exact q1 ρ1 H1 _ Ext.refl rep1 (.bl _)
/-! a op b op' c -/
def mChain (f g : F2) (ma mb mc : ME) : ME := fun σ h => (ma σ h).bind fun d h1 => (mb σ h1).bind fun e h2 => (f d e h2).bind fun t h3 => match t with
  | .bl true => (mc σ h3).bind fun u h4 => g e u h4
  | .bl false => .ok (.bl false) h3
  | _ => .bad
theorem chain_imp {mc : ME} {r r' : R2} {f g : F2} (s : S2 Z r f) (s' : S2 Z r' g) : ∀ τ H Q, tE Z E (mChain f g ma mb mc) τ H Q → tChain r r' (tE Z E ma) (tE Z E mb) (tE Z E mc) τ H Q := fun τ H Q => by
  rintro ⟨ρ, σ, h, rep, rs, q⟩
  refine ⟨ρ, σ, h, rep, rs, Aft.bind q fun d h1 ρ1 H1 v e1 rep1 rv q1 => ?_⟩
  refine ⟨ρ1, σ, h1, rep1, rs.mono rep e1, Aft.bind q1 fun e h2 ρ2 H2 w e2 rep2 rw q2 => ?_⟩
  refine s ρ2 h2 H2 d e v w _ _ rep2 (rv.mono rep1 e2) rw (Aft.bind q2 fun t h3 ρ3 H3 z e3 rep3 rt q3 => ?_)
  cases t <;> first | exact q3.elim | skip
  cases rt
  refine ⟨_, rfl, ?_⟩
  rename_i k
  cases k with
  | false => exact q3 ρ3 H3 _ Ext.refl rep3 (.bl _)
  | true =>
    refine ⟨ρ3, σ, h3, rep3, ((rs.mono rep e1).mono rep1 e2).mono rep2 e3, Aft.bind q3 fun u h4 ρ4 H4 y e4 rep4 ru q4 => ?_⟩
    exact s' ρ4 h4 H4 e u w y Q _ rep4 ((rw.mono rep2 e3).mono rep3 e4) ru q4
theorem s_chain {c : Expr} {mc : ME} {op op' : CmpOp} {r r' : R2} {f g : F2} (o : OpR X (compareOp op) r) (o' : OpR X (compareOp op') r') (s : S2 Z r f) (s' : S2 Z r' g)
    (pa : PE X a (tE Z E ma)) (pb : PE X b (tE Z E mb)) (p : PE X c (tE Z E mc)) (hm : lastMarks [op, op'] [b, c] = false := by with_unfolding_all rfl) : PE X (.Compare a [op, op'] [b, c] pos) (tE Z E (mChain f g ma mb mc)) :=
  (pe_chain o o' pa pb p hm).imp (chain_imp s s')
theorem s_tchain {c : Expr} {mc : ME} {op op' : CmpOp} {r r' : R2} {f g : F2} (o : OpR X (compareOp op) r) (o' : OpR X (compareOp op') r') (s : S2 Z r f) (s' : S2 Z r' g)
    (pa : PE X a (tE Z E ma)) (pb : PE X b (tE Z E mb)) (p : PE X c (tE Z E mc)) (hm : lastMarks [op, op'] [b, c] = false := by with_unfolding_all rfl) : PT X (.Compare a [op, op'] [b, c] pos) (tT Z E (mTest (mChain f g ma mb mc))) :=
  (pt_chain o o' pa pb p hm).imp fun σ H Q h => chain_imp s s' σ H _ (tB_of σ H Q h)
/-! and, or, not, if -/
def mNot (m : ME) : ME := fun σ h => (m σ h).bind fun d h1 => match d with
  | .bl b => .ok (.bl (!b)) h1
  | _ => .bad
def tNotM (m : MT) : MT := fun σ h => (m σ h).bind fun b h1 => .ok (!b) h1
def tAndM (m k : MT) : MT := fun σ h => (m σ h).bind fun b h1 => match b with
  | true => k σ h1
  | false => .ok false h1
def tOrM (m k : MT) : MT := fun σ h => (m σ h).bind fun b h1 => match b with
  | true => .ok true h1
  | false => k σ h1
variable {mt mu : MT} {rest : List Expr}
theorem s_tnot (p : PT X a (tT Z E mt)) : PT X (.UnaryOp .Not a pos) (tT Z E (tNotM mt)) := (pt_not p).imp fun τ H Q => by
  rintro ⟨ρ, σ, h, rep, rs, q⟩
  refine ⟨ρ, σ, h, rep, rs, Aft.bind q fun d h1 ρ1 H1 v e1 rep1 rv q1 => ?_⟩
  cases rv
  exact q1 ρ1 H1 _ Ext.refl rep1 rfl
theorem _root_.L2.PW.imp {e : Expr} {t t' : TT} (p : PW X e t) (w : ∀ σ H Q, t' σ H Q → t σ H Q) : PW X e t' := ⟨fun wh pins s σ H Q I q => p.run wh pins s σ H Q I (w σ H Q q)⟩
theorem s_wand (p : PT X a (tT Z E mt)) (k : PW X (.BoolOp .And (b :: rest) pos) (tT Z E mu)) : PW X (.BoolOp .And (a :: b :: rest) pos) (tT Z E (tAndM mt mu)) := (pw_and p k).imp fun τ H Q => by
  rintro ⟨ρ, σ, h, rep, rs, q⟩
  refine ⟨ρ, σ, h, rep, rs, Aft.bind q fun d h1 ρ1 H1 v e1 rep1 rv q1 => ?_⟩
  cases rv
  cases d with
  | true => exact iteT ⟨ρ1, σ, h1, rep1, rs.mono rep e1, q1⟩
  | false => exact iteF (q1 ρ1 H1 _ Ext.refl rep1 rfl)
theorem s_wor (p : PT X a (tT Z E mt)) (k : PW X (.BoolOp .Or (b :: rest) pos) (tT Z E mu)) : PW X (.BoolOp .Or (a :: b :: rest) pos) (tT Z E (tOrM mt mu)) := (pw_or p k).imp fun τ H Q => by
  rintro ⟨ρ, σ, h, rep, rs, q⟩
  refine ⟨ρ, σ, h, rep, rs, Aft.bind q fun d h1 ρ1 H1 v e1 rep1 rv q1 => ?_⟩
  cases rv
  cases d with
  | true => exact iteT (q1 ρ1 H1 _ Ext.refl rep1 rfl)
  | false => exact iteF ⟨ρ1, σ, h1, rep1, rs.mono rep e1, q1⟩
/-- as values: bools all but the last -/
def mAnd (m k : ME) : ME := fun σ h => (m σ h).bind fun d h1 => match d with
  | .bl true => k σ h1
  | .bl false => .ok (.bl false) h1
  | _ => .bad
def mOr (m k : ME) : ME := fun σ h => (m σ h).bind fun d h1 => match d with
  | .bl true => .ok (.bl true) h1
  | .bl false => k σ h1
  | _ => .bad
theorem s_and (p : PE X a (tE Z E ma)) (k : PE X (.BoolOp .And (b :: rest) pos) (tE Z E mb)) : PE X (.BoolOp .And (a :: b :: rest) pos) (tE Z E (mAnd ma mb)) := (pe_and p k).imp fun τ H Q => by
  rintro ⟨ρ, σ, h, rep, rs, q⟩
  refine ⟨ρ, σ, h, rep, rs, Aft.bind q fun d h1 ρ1 H1 v e1 rep1 rv q1 => ?_⟩
  cases d <;> first | exact q1.elim | skip
  cases rv
  refine ⟨_, rfl, ?_⟩
  rename_i d
  cases d with
  | true => exact iteT ⟨ρ1, σ, h1, rep1, rs.mono rep e1, q1⟩
  | false => exact iteF (q1 ρ1 H1 _ Ext.refl rep1 (.bl _))
theorem s_or (p : PE X a (tE Z E ma)) (k : PE X (.BoolOp .Or (b :: rest) pos) (tE Z E mb)) : PE X (.BoolOp .Or (a :: b :: rest) pos) (tE Z E (mOr ma mb)) := (pe_or p k).imp fun τ H Q => by
  rintro ⟨ρ, σ, h, rep, rs, q⟩
  refine ⟨ρ, σ, h, rep, rs, Aft.bind q fun d h1 ρ1 H1 v e1 rep1 rv q1 => ?_⟩
  cases d <;> first | exact q1.elim | skip
  cases rv
  refine ⟨_, rfl, ?_⟩
  rename_i d
  cases d with
  | true => exact iteT (q1 ρ1 H1 _ Ext.refl rep1 (.bl _))
  | false => exact iteF ⟨ρ1, σ, h1, rep1, rs.mono rep e1, q1⟩
theorem s_not (p : PE X a (tE Z E ma)) : PE X (.UnaryOp .Not a pos) (tE Z E (mNot ma)) := (pe_not p).imp fun τ H Q => by
  rintro ⟨ρ, σ, h, rep, rs, q⟩
  refine ⟨ρ, σ, h, rep, rs, Aft.bind q fun d h1 ρ1 H1 v e1 rep1 rv q1 => ?_⟩
  cases d <;> first | exact q1.elim | skip
  cases rv
  exact ⟨_, rfl, q1 ρ1 H1 _ Ext.refl rep1 (.bl _)⟩
def mIf (c : MT) (ma mb : ME) : ME := fun σ h => (c σ h).bind fun d h1 => match d with
  | true => ma σ h1
  | false => mb σ h1
theorem s_if {c : Expr} (p : PT X c (tT Z E mt)) (pa : PE X a (tE Z E ma)) (pb : PE X b (tE Z E mb)) : PE X (.IfExp c a b pos) (tE Z E (mIf mt ma mb)) := (pe_ifExp p pa pb).imp fun τ H Q => by
  rintro ⟨ρ, σ, h, rep, rs, q⟩
  refine ⟨ρ, σ, h, rep, rs, Aft.bind q fun d h1 ρ1 H1 v e1 rep1 rv q1 => ?_⟩
  cases rv
  cases d with
  | true => exact iteT ⟨ρ1, σ, h1, rep1, rs.mono rep e1, q1⟩
  | false => exact iteF ⟨ρ1, σ, h1, rep1, rs.mono rep e1, q1⟩
/-! arguments, displays -/
def maNil : MA := fun _ h => .ok [] h
def maCons (m : ME) (k : MA) : MA := fun σ h => (m σ h).bind fun d h1 => (k σ h1).bind fun ds h2 => .ok (d :: ds) h2
theorem s_nil : PA X [] (tA Z E maNil) := pa_nil.imp fun τ H Q => by
  rintro ⟨ρ, σ, h, rep, rs, q⟩
  exact q ρ H _ Ext.refl rep .nil
theorem s_cons {e : Expr} {es : List Expr} {m : ME} {k : MA} (p : PE X e (tE Z E m)) (ps : PA X es (tA Z E k)) (hs : starEach (e :: es) X.env = (false, eval e X.env) :: starEach es X.env := by rfl) : PA X (e :: es) (tA Z E (maCons m k)) := (pa_cons p ps hs).imp fun τ H Q => by
  rintro ⟨ρ, σ, h, rep, rs, q⟩
  refine ⟨ρ, σ, h, rep, rs, Aft.bind q fun d h1 ρ1 H1 v e1 rep1 rv q1 => ?_⟩
  refine ⟨ρ1, σ, h1, rep1, rs.mono rep e1, Aft.bind q1 fun ds h2 ρ2 H2 vs e2 rep2 rvs q2 => ?_⟩
  exact q2 ρ2 H2 _ Ext.refl rep2 (.cons (rv.mono rep1 e2) rvs)
def small (n : Nat) : Bool := Nat.ble n 100000
theorem small_ok {n : Nat} (h : small n = true) : n ≤ sizeLine := Nat.le_trans (Nat.le_of_ble_eq_true h) (by decide)
theorem small_lt {n : Nat} (h : small n = true) : n < sizeLine := Nat.lt_of_le_of_lt (Nat.le_of_ble_eq_true h) (by decide)
def mTup (k : MA) : ME := fun σ h => (k σ h).bind fun ds h1 => match small ds.length with
  | true => .ok (.tup ds) h1
  | false => .bad
def mLst (k : MA) : ME := fun σ h => (k σ h).bind fun ds h1 => match small ds.length with
  | true => .ok (.ref h1.n) (h1.push (.lst ds))
  | false => .bad
variable {es : List Expr} {mk : MA}
/-- a new tuple of what stands -/
theorem new_tup {ρ : Nat → Addr} {h : Hm} {H : Hp} {ds : List D} {vs : List V} {Q : VK} {E : XK} (rep : Rep Z ρ h H) (rv : RVs Z ρ h.n H ds vs) (q : Aft Z (rlV Z) ρ h H (.ok (.tup ds) h) Q E) {p : Addr} (hp : H p = none) : Q (.ref p) (upd H p (.tup vs)) := by
  obtain ⟨e, r⟩ := rep.aside (u := .tup vs) hp
  exact q ρ _ _ e r (.tup upd_same (rv.mono rep e))
theorem new_lst {ρ : Nat → Addr} {h : Hm} {H : Hp} {ds : List D} {vs : List V} {Q : VK} {E : XK} (rep : Rep Z ρ h H) (rv : RVs Z ρ h.n H ds vs) (q : Aft Z (rlV Z) ρ h H (.ok (.ref h.n) (h.push (.lst ds))) Q E) {p : Addr} (hp : H p = none) : Q (.ref p) (upd H p (.lst vs)) := by
  obtain ⟨ρ', e, r, hr⟩ := rep.push (o := .lst ds) (u := .lst vs) hp fun ρ' e => ⟨vs, upd_same, rv.mono rep e⟩
  have := q ρ' _ (.ref (ρ' h.n)) e r (.ref (Nat.lt_succ_self _))
  rwa [hr] at this
theorem s_tup {x1 : Nat} (p : PA X es (tA Z E mk)) : PE X (.Tuple es x1 pos) (tE Z E (mTup mk)) := (pe_tup p).imp fun τ H Q => by
  rintro ⟨ρ, σ, h, rep, rs, q⟩
  refine ⟨ρ, σ, h, rep, rs, Aft.bind q fun d h1 ρ1 H1 v e1 rep1 rv q1 => ?_⟩
  cases sm : small d.length with
  | false => rw [sm] at q1; exact q1.elim
  | true =>
    rw [sm] at q1
    exact ⟨by rw [← rv.length]; exact small_ok sm, fun p hp => new_tup rep1 rv q1 hp⟩
theorem s_lst (p : PA X es (tA Z E mk)) : PE X (.List es pos) (tE Z E (mLst mk)) := (pe_lst p).imp fun τ H Q => by
  rintro ⟨ρ, σ, h, rep, rs, q⟩
  refine ⟨ρ, σ, h, rep, rs, Aft.bind q fun d h1 ρ1 H1 v e1 rep1 rv q1 => ?_⟩
  cases sm : small d.length with
  | false => rw [sm] at q1; exact q1.elim
  | true =>
    rw [sm] at q1
    exact ⟨by rw [← rv.length]; exact small_ok sm, fun p hp => new_lst rep1 rv q1 hp⟩
end
end
end Sm
namespace Sm
open PySem PySem.Spec PyProof.Rows L2
noncomputable section
/-! ### data read off the plain heap -/
def mapO {α β : Type} (f : α → Option β) : List α → Option (List β)
  | [] => some []
  | x :: r => match f x with
    | some y => match mapO f r with
      | some ys => some (y :: ys)
      | none => none
    | none => none
def toPy (h : Hm) : Nat → D → Option PyData
  | f, d => match d with
    | .non => some .none
    | .bl b => some (.bool b)
    | .int i => some (.int i)
    | .str x => some (.str x)
    | .tup ds => match f with
      | 0 => none
      | g + 1 => (mapO (toPy h g) ds).map PyData.tuple
    | .ref i => match f with
      | 0 => none
      | g + 1 => match h.get i with
        | some (.lst ds) => (mapO (toPy h g) ds).map PyData.list
        | _ => none
    | _ => none
section
variable {Z : Cz} {ρ : Nat → Addr} {h : Hm} {H : Hp}
theorem dpAll_of {n : Nat} {f : D → Option PyData} (ih : ∀ d v p, RV Z ρ n H d v → f d = some p → Dp Z.K H v p) : ∀ {ds : List D} {vs : List V} {ps : List PyData}, RVs Z ρ n H ds vs → mapO f ds = some ps → DpAll Z.K H vs ps
  | _, _, _, .nil, e => by cases e; exact .nil
  | _, _, _, .cons (d := d) (ds := ds) r t, e => by
    unfold mapO at e
    cases e1 : f d with
    | none => rw [e1] at e; cases e
    | some y =>
      rw [e1] at e
      cases e2 : mapO f ds with
      | none => simp only [e2] at e; cases e
      | some ys =>
        simp only [e2] at e
        cases e
        exact .cons (ih d _ y r e1) (dpAll_of ih t e2)
theorem toPy_ok (rep : Rep Z ρ h H) : ∀ (f : Nat) (d : D) (v : V) (p : PyData), RV Z ρ h.n H d v → toPy h f d = some p → Dp Z.K H v p
  | f, .non, _, _, .non, e => by cases f <;> (cases e; exact .non)
  | f, .bl b, _, _, .bl _, e => by cases f <;> (cases e; exact .bl b)
  | f, .int b, _, _, .int _, e => by cases f <;> (cases e; exact .int b)
  | f, .str b, _, _, .str _, e => by cases f <;> (cases e; exact .str b)
  | 0, .tup ds, _, _, _, e => by cases e
  | g + 1, .tup ds, _, _, .tup s t, e => by
    have e : (mapO (toPy h g) ds).map PyData.tuple = some _ := e
    cases q : mapO (toPy h g) ds with
    | none => rw [q] at e; cases e
    | some ps =>
      rw [q] at e
      cases e
      exact .tup (SqT.of s) (dpAll_of (fun d v p r z => toPy_ok rep g d v p r z) t q)
  | 0, .ref i, _, _, _, e => by cases e
  | g + 1, .ref i, _, _, .ref hi, e => by
    obtain ⟨o, eo, ro⟩ := rep.obj i hi
    have e : (match h.get i with
        | some (.lst ds) => (mapO (toPy h g) ds).map PyData.list
        | _ => none) = some _ := e
    rw [eo] at e
    cases o with
    | dK k => cases e
    | dT k => cases e
    | fK k => cases e
    | fT k => cases e
    | st k => cases e
    | lst ds =>
      obtain ⟨vs, hv, rvs⟩ := ro
      cases q : mapO (toPy h g) ds with
      | none => simp only [q] at e; cases e
      | some ps =>
        simp only [q] at e
        cases e
        exact .lst (SqL.of hv) (dpAll_of (fun d v p r z => toPy_ok rep g d v p r z) rvs q)
  | 0, .fn k, _, _, _, e => by cases e
  | _ + 1, .fn k, _, _, _, e => by cases e
  | 0, .exc, _, _, _, e => by cases e
  | _ + 1, .exc, _, _, _, e => by cases e
end
/-! ### operators by values -/
section
variable {X : Cx} {Z : Cz}
theorem S2.or {r r' : R2} {f g : F2} (s : S2 Z r f) (s' : S2 Z r' g) {k : F2} (hk : ∀ d e h, k d e h = f d e h ∨ k d e h = g d e h) : S2 Z (fun x y H Q => r x y H Q ∨ r' x y H Q) k := by
  intro ρ h H d e v w Q E rep rv rw q
  rcases hk d e h with z | z
  · exact .inl (s ρ h H d e v w Q E rep rv rw (z ▸ q))
  · exact .inr (s' ρ h H d e v w Q E rep rv rw (z ▸ q))
/-- ints -/
def fI (c : Int → Int → Bool) (g : Int → Int → D) : F2 := fun d e h => match d, e with
  | .int i, .int j => match c i j with
    | true => .ok (g i j) h
    | false => .bad
  | _, _ => .bad
theorem s2_I {C : Int → Int → Prop} {c : Int → Int → Bool} {g : Int → Int → D} {gv : Int → Int → V} (hc : ∀ i j, c i j = true → C i j) (hg : ∀ ρ n H i j, RV Z ρ n H (g i j) (gv i j)) : S2 Z (rI C gv) (fI c g) := by
  intro ρ h H d e v w Q E rep rv rw q
  cases rv <;> first | exact q.elim | skip
  cases rw <;> first | exact q.elim | skip
  rename_i i j
  simp only [fI] at q
  cases z : c i j with
  | false => rw [z] at q; exact q.elim
  | true =>
    rw [z] at q
    exact ⟨i, j, rfl, rfl, hc i j z, q ρ H _ Ext.refl rep (hg ..)⟩
def fI0 (g : Int → Int → D) : F2 := fun d e h => match d, e with
  | .int i, .int j => .ok (g i j) h
  | _, _ => .bad
theorem s2_I0 {g : Int → Int → D} {gv : Int → Int → V} (hg : ∀ ρ n H i j, RV Z ρ n H (g i j) (gv i j)) : S2 Z (rI0 gv) (fI0 g) := by
  intro ρ h H d e v w Q E rep rv rw q
  cases rv <;> first | exact q.elim | skip
  cases rw <;> first | exact q.elim | skip
  rename_i i j
  exact ⟨i, j, rfl, rfl, q ρ H _ Ext.refl rep (hg ..)⟩
/-- + of lists -/
def fCat : F2 := fun d e h => match d, e with
  | .ref i, .ref j => match h.get i, h.get j with
    | some (.lst xs), some (.lst ys) => match small (xs.length + ys.length) with
      | true => .ok (.ref h.n) (h.push (.lst (xs ++ ys)))
      | false => .bad
    | _, _ => .bad
  | _, _ => .bad
theorem Rep.lst {ρ : Nat → Addr} {h : Hm} {H : Hp} (rep : Rep Z ρ h H) {i : Nat} {ds : List D} (hi : i < h.n) (e : h.get i = some (.lst ds)) : ∃ vs, H (ρ i) = some (.lst vs) ∧ RVs Z ρ h.n H ds vs := by
  obtain ⟨o, eo, ro⟩ := rep.obj i hi
  rw [e] at eo; cases eo
  exact ro
theorem Rep.dK {ρ : Nat → Addr} {h : Hm} {H : Hp} (rep : Rep Z ρ h H) {i : Nat} {ds : List (Key × D)} (hi : i < h.n) (e : h.get i = some (.dK ds)) : ∃ vs, H (ρ i) = some (.dK vs) ∧ RKs Z ρ h.n H ds vs := by
  obtain ⟨o, eo, ro⟩ := rep.obj i hi
  rw [e] at eo; cases eo
  exact ro
theorem Rep.dT {ρ : Nat → Addr} {h : Hm} {H : Hp} (rep : Rep Z ρ h H) {i : Nat} {ds : List (List Key × D)} (hi : i < h.n) (e : h.get i = some (.dT ds)) : ∃ vs, H (ρ i) = some (.dT vs) ∧ RKs Z ρ h.n H ds vs := by
  obtain ⟨o, eo, ro⟩ := rep.obj i hi
  rw [e] at eo; cases eo
  exact ro
theorem Rep.fK {ρ : Nat → Addr} {h : Hm} {H : Hp} (rep : Rep Z ρ h H) {i : Nat} {ds : List (Key × D)} (hi : i < h.n) (e : h.get i = some (.fK ds)) : ∃ vs ob, H (ρ i) = some (.frz ob (.dK vs)) ∧ RKs Z ρ h.n H ds vs := by
  obtain ⟨o, eo, ro⟩ := rep.obj i hi
  rw [e] at eo; cases eo
  exact ro
theorem Rep.fT {ρ : Nat → Addr} {h : Hm} {H : Hp} (rep : Rep Z ρ h H) {i : Nat} {ds : List (List Key × D)} (hi : i < h.n) (e : h.get i = some (.fT ds)) : ∃ vs ob, H (ρ i) = some (.frz ob (.dT vs)) ∧ RKs Z ρ h.n H ds vs := by
  obtain ⟨o, eo, ro⟩ := rep.obj i hi
  rw [e] at eo; cases eo
  exact ro
theorem s2_cat : S2 Z rCat fCat := by
  intro ρ h H d e v w Q E rep rv rw q
  cases rv <;> first | exact q.elim | skip
  cases rw <;> first | exact q.elim | skip
  rename_i i hi j hj
  simp only [fCat] at q
  split at q <;> first | exact q.elim | skip
  rename_i xs ys e1 e2
  cases sm : small (xs.length + ys.length) with
  | false => rw [sm] at q; exact q.elim
  | true =>
    rw [sm] at q
    obtain ⟨vs, a1, a2⟩ := rep.lst hi e1
    obtain ⟨ws, b1, b2⟩ := rep.lst hj e2
    exact ⟨ρ i, ρ j, vs, ws, rfl, rfl, a1, b1, by rw [← a2.length, ← b2.length]; exact small_ok sm, fun p hp => new_lst rep (a2.append b2) q hp⟩
/-- + of tuples -/
def fCatT : F2 := fun d e h => match d, e with
  | .tup xs, .tup ys => match small (xs.length + ys.length) with
    | true => .ok (.tup (xs ++ ys)) h
    | false => .bad
  | _, _ => .bad
theorem s2_catT : S2 Z (rCatA Z.K) fCatT := by
  intro ρ h H d e v w Q E rep rv rw q
  cases rv with
  | tup s t =>
    cases rw with
    | tup s' t' =>
      rename_i a xs vs b ys ws
      simp only [fCatT] at q
      cases sm : small (xs.length + ys.length) with
      | false => rw [sm] at q; exact q.elim
      | true =>
        rw [sm] at q
        refine ⟨a, b, vs, ws, rfl, rfl, SqT.of s, SqT.of s', by rw [← t.length, ← t'.length]; exact small_ok sm, fun z => ?_, fun _ z => ?_, fun z1 z2 p hp => new_tup rep (t.append t') q hp⟩
        · subst z
          cases t
          exact q ρ H _ Ext.refl rep (.tup s' t')
        · subst z
          cases t'
          rw [List.append_nil] at q
          exact q ρ H _ Ext.refl rep (.tup s t)
    | _ => exact q.elim
  | _ => exact q.elim
/-- + of texts -/
def fCatS : F2 := fun d e h => match d, e with
  | .str x, .str y => match small (x.length + y.length) with
    | true => .ok (.str (x ++ y)) h
    | false => .bad
  | _, _ => .bad
theorem s2_catS : S2 Z (fun x y H Q => ∃ i j, x = .str i ∧ y = .str j ∧ i.length + j.length ≤ sizeLine ∧ Q (.str (i ++ j)) H) fCatS := by
  intro ρ h H d e v w Q E rep rv rw q
  cases rv <;> first | exact q.elim | skip
  cases rw <;> first | exact q.elim | skip
  rename_i x y
  simp only [fCatS] at q
  cases sm : small (x.length + y.length) with
  | false => rw [sm] at q; exact q.elim
  | true =>
    rw [sm] at q
    exact ⟨x, y, rfl, rfl, small_ok sm, q ρ H _ Ext.refl rep (.str _)⟩
/-- a list times an int -/
def fRep : F2 := fun d e h => match d, e with
  | .ref i, .int k => match h.get i with
    | some (.lst xs) => match small (xs.length * k.toNat) && small k.natAbs with
      | true => .ok (.ref h.n) (h.push (.lst (List.replicate k.toNat xs).flatten))
      | false => .bad
    | _ => .bad
  | _, _ => .bad
theorem RVs.rep {ρ : Nat → Addr} {n : Nat} {H : Hp} {ds : List D} {vs : List V} (r : RVs Z ρ n H ds vs) : ∀ k : Nat, RVs Z ρ n H (List.replicate k ds).flatten (List.replicate k vs).flatten
  | 0 => .nil
  | k + 1 => by
    rw [List.replicate_succ, List.replicate_succ, List.flatten_cons, List.flatten_cons]
    exact r.append (RVs.rep r k)
theorem s2_rep : S2 Z rRep fRep := by
  intro ρ h H d e v w Q E rep rv rw q
  cases rv <;> first | exact q.elim | skip
  cases rw <;> first | exact q.elim | skip
  rename_i i hi k
  simp only [fRep] at q
  split at q <;> first | exact q.elim | skip
  rename_i xs e1
  cases sm : small (xs.length * k.toNat) && small k.natAbs with
  | false => rw [sm] at q; exact q.elim
  | true =>
    rw [sm] at q
    obtain ⟨s1, s2⟩ := Bool.and_eq_true_iff.mp sm
    obtain ⟨vs, a1, a2⟩ := rep.lst hi e1
    have b := Nat.le_of_ble_eq_true s2
    exact ⟨ρ i, k, vs, rfl, rfl, a1, by omega, by omega, by rw [← a2.length]; exact small_ok s1, fun p hp => new_lst rep (a2.rep _) q hp⟩
/-- the operators as the program has them -/
def fAdd : F2 := fun d e h => match d with
  | .int _ => fI0 (fun i j => .int (i + j)) d e h
  | .ref _ => fCat d e h
  | .tup _ => fCatT d e h
  | _ => fCatS d e h
theorem fAdd_or (d e : D) (h : Hm) : (fAdd d e h = fI0 (fun i j => .int (i + j)) d e h ∨ fAdd d e h = fCat d e h) ∨ (fAdd d e h = fCatT d e h ∨ fAdd d e h = fCatS d e h) := by
  cases d
  case int => exact .inl (.inl rfl)
  case ref => exact .inl (.inr rfl)
  case tup => exact .inr (.inl rfl)
  all_goals exact .inr (.inr rfl)
def rAddM (K : PySem.W.Frag) : R2 := fun x y H Q => (rI0 (fun i j => .int (i + j)) x y H Q ∨ rCat x y H Q) ∨ (rCatA K x y H Q ∨ (∃ i j, x = .str i ∧ y = .str j ∧ i.length + j.length ≤ sizeLine ∧ Q (.str (i ++ j)) H))
theorem op_addM : OpR X (binaryOp .Add) (rAddM X.K) := (op_add.or op_cat).or (op_catA.or op_add_str)
theorem s2_add : S2 Z (rAddM Z.K) fAdd := by
  intro ρ h H d e v w Q E rep rv rw q
  rcases fAdd_or d e h with (z | z) | (z | z) <;> rw [z] at q
  · exact .inl (.inl (s2_I0 (fun _ _ _ _ _ => .int _) ρ h H d e v w Q E rep rv rw q))
  · exact .inl (.inr (s2_cat ρ h H d e v w Q E rep rv rw q))
  · exact .inr (.inl (s2_catT ρ h H d e v w Q E rep rv rw q))
  · exact .inr (.inr (s2_catS ρ h H d e v w Q E rep rv rw q))
abbrev fSub : F2 := fI0 fun i j => .int (i - j)
theorem s2_sub : S2 Z (rI0 fun i j => .int (i - j)) fSub := s2_I0 fun _ _ _ _ _ => .int _
def cMul (i j : Int) : Bool := Nat.blt i.natAbs 18446744073709551616 || Nat.blt j.natAbs 18446744073709551616
theorem cMul_ok (i j : Int) (h : cMul i j = true) : CMul i j := by
  rcases Bool.or_eq_true_iff.mp h with z | z
  · have := Nat.le_of_ble_eq_true z
    exact .inl ⟨by omega, by omega⟩
  · have := Nat.le_of_ble_eq_true z
    exact .inr ⟨by omega, by omega⟩
def fMul : F2 := fun d e h => match d with
  | .int _ => fI cMul (fun i j => .int (i * j)) d e h
  | _ => fRep d e h
theorem op_mulM : OpR X (binaryOp .Mult) (fun x y H Q => rI CMul (fun i j => .int (i * j)) x y H Q ∨ rRep x y H Q) := op_mul.or op_rep
theorem s2_mul : S2 Z (fun x y H Q => rI CMul (fun i j => .int (i * j)) x y H Q ∨ rRep x y H Q) fMul :=
  S2.or (s2_I cMul_ok fun _ _ _ _ _ => .int _) s2_rep fun d e h => by
    cases d
    case int => exact .inl rfl
    all_goals exact .inr rfl
def cDivN (i j : Int) : Bool := Nat.blt 0 j.natAbs && Nat.blt j.natAbs 1073741824
theorem cDivN_ok (i j : Int) (h : cDivN i j = true) : CDivN i j := by
  obtain ⟨a, b⟩ := Bool.and_eq_true_iff.mp h
  have a := Nat.le_of_ble_eq_true a
  have b := Nat.le_of_ble_eq_true b
  exact ⟨by omega, by omega⟩
abbrev fDiv : F2 := fI cDivN fun i j => .int (i.fdiv j)
theorem s2_div : S2 Z (rI CDivN fun i j => .int (i.fdiv j)) fDiv := s2_I cDivN_ok fun _ _ _ _ _ => .int _
def cNz (i j : Int) : Bool := Nat.blt 0 j.natAbs
theorem cNz_ok (i j : Int) (h : cNz i j = true) : j ≠ 0 := by
  have a := Nat.le_of_ble_eq_true h
  omega
abbrev fMod : F2 := fI cNz fun i j => .int (i.fmod j)
theorem s2_mod : S2 Z (rI (fun _ j => j ≠ 0) fun i j => .int (i.fmod j)) fMod := s2_I cNz_ok fun _ _ _ _ _ => .int _
def cPow (i j : Int) : Bool := match j with
  | .ofNat k => Nat.ble k 1000 && Nat.blt i.natAbs 18446744073709551616
  | _ => false
theorem cPow_ok (i j : Int) (h : cPow i j = true) : CPow i j := by
  unfold cPow at h
  split at h
  · rename_i k
    obtain ⟨a, b⟩ := Bool.and_eq_true_iff.mp h
    have a := Nat.le_of_ble_eq_true a
    have b := Nat.le_of_ble_eq_true b
    exact ⟨Int.natCast_nonneg k, by show ((k : Nat) : Int) ≤ 1000000; omega, by omega⟩
  · cases h
abbrev fPow : F2 := fI cPow fun i j => .int (i ^ j.toNat)
theorem s2_pow : S2 Z (rI CPow fun i j => .int (i ^ j.toNat)) fPow := s2_I cPow_ok fun _ _ _ _ _ => .int _
/-! comparisons -/
abbrev fLt : F2 := fI0 fun i j => .bl (decide (i < j))
abbrev fLe : F2 := fI0 fun i j => .bl (decide (i ≤ j))
abbrev fGt : F2 := fI0 fun i j => .bl (decide (j < i))
abbrev fGe : F2 := fI0 fun i j => .bl (decide (j ≤ i))
theorem s2_lt : S2 Z (rI0 fun i j => .bl (decide (i < j))) fLt := s2_I0 fun _ _ _ _ _ => .bl _
theorem s2_le : S2 Z (rI0 fun i j => .bl (decide (i ≤ j))) fLe := s2_I0 fun _ _ _ _ _ => .bl _
theorem s2_gt : S2 Z (rI0 fun i j => .bl (decide (j < i))) fGt := s2_I0 fun _ _ _ _ _ => .bl _
theorem s2_ge : S2 Z (rI0 fun i j => .bl (decide (j ≤ i))) fGe := s2_I0 fun _ _ _ _ _ => .bl _
def b3 (neg b : Bool) : Bool := match neg with
  | true => !b
  | false => b
/-- ==, != -/
def fEq (neg : Bool) : F2 := fun d e h => match d, e with
  | .int i, .int j => .ok (.bl (b3 neg (decide (i = j)))) h
  | _, _ => match toPy h 60 d, toPy h 60 e with
    | some p, some q => match SeqAt.shaped p && SeqAt.shaped q with
      | true => .ok (.bl (b3 neg (PyData.eqv p q))) h
      | false => .bad
    | _, _ => .bad
def rEqM (K : PySem.W.Frag) : R2 := fun x y H Q => rI0 (fun i j => .bl (decide (i = j))) x y H Q ∨ rEqD K x y H Q
def rNeM (K : PySem.W.Frag) : R2 := fun x y H Q => rI0 (fun i j => .bl (!decide (i = j))) x y H Q ∨ rNeD K x y H Q
theorem op_eqM (hu : X.A.units + 64 < cLine) : OpR X (compareOp .Eq) (rEqM X.K) := (show OpR X (compareOp .Eq) (rI0 fun i j => .bl (decide (i = j))) from fun pins s σ H x y v u Q I rx ry ⟨i, j, e1, e2, q⟩ =>
    op_eq pins s σ H x y v u Q I rx ry ⟨by rw [e1, e2]; rfl, by
      rw [e1, e2, show decide (V.int i = V.int j) = decide (i = j) from by rw [dec_int]; exact (Bool.beq_eq_decide_eq i j)]
      exact q⟩).or (op_eqD hu)
theorem op_neM (hu : X.A.units + 64 < cLine) : OpR X (compareOp .NotEq) (rNeM X.K) := (show OpR X (compareOp .NotEq) (rI0 fun i j => .bl (!decide (i = j))) from fun pins s σ H x y v u Q I rx ry ⟨i, j, e1, e2, q⟩ =>
    op_ne pins s σ H x y v u Q I rx ry ⟨by rw [e1, e2]; rfl, by
      rw [e1, e2, show decide (V.int i = V.int j) = decide (i = j) from by rw [dec_int]; exact (Bool.beq_eq_decide_eq i j)]
      exact q⟩).or (op_neD hu)
theorem fEq_deep {ρ : Nat → Addr} {h : Hm} {H : Hp} {d e : D} {v w : V} {neg : Bool} {Q : VK} {E : XK} (rep : Rep Z ρ h H) (rv : RV Z ρ h.n H d v) (rw : RV Z ρ h.n H e w)
    (q : Aft Z (rlV Z) ρ h H (match toPy h 60 d, toPy h 60 e with
    | some p, some q => match SeqAt.shaped p && SeqAt.shaped q with
      | true => .ok (.bl (b3 neg (PyData.eqv p q))) h
      | false => .bad
    | _, _ => .bad) Q E) : ∃ p q, Dp Z.K H v p ∧ Dp Z.K H w q ∧ SeqAt.shaped p = true ∧ SeqAt.shaped q = true ∧ Q (.bl (b3 neg (PyData.eqv p q))) H := by
  split at q <;> first | exact q.elim | skip
  rename_i p p' e1 e2
  cases sm : SeqAt.shaped p && SeqAt.shaped p' with
  | false => rw [sm] at q; exact q.elim
  | true =>
    rw [sm] at q
    obtain ⟨s1, s2⟩ := Bool.and_eq_true_iff.mp sm
    exact ⟨p, p', toPy_ok rep _ _ _ _ rv e1, toPy_ok rep _ _ _ _ rw e2, s1, s2, q ρ H _ Ext.refl rep (.bl _)⟩
theorem s2_eq : S2 Z (rEqM Z.K) (fEq false) := by
  intro ρ h H d e v w Q E rep rv rw q
  unfold fEq at q
  split at q
  · cases rv; cases rw
    exact .inl ⟨_, _, rfl, rfl, q ρ H _ Ext.refl rep (.bl _)⟩
  · exact .inr (fEq_deep rep rv rw q)
theorem s2_ne : S2 Z (rNeM Z.K) (fEq true) := by
  intro ρ h H d e v w Q E rep rv rw q
  unfold fEq at q
  split at q
  · cases rv; cases rw
    exact .inl ⟨_, _, rfl, rfl, q ρ H _ Ext.refl rep (.bl _)⟩
  · exact .inr (fEq_deep rep rv rw q)
/-- in, not in: lists, tuples of data -/
def anyEq (d : PyData) : List PyData → Bool
  | [] => false
  | x :: r => match PyData.eqv x d with
    | true => true
    | false => anyEq d r
theorem anyEq_eq (d : PyData) : ∀ ds : List PyData, anyEq d ds = ds.any fun z => PyData.eqv z d
  | [] => rfl
  | x :: r => by
    rw [List.any_cons, ← anyEq_eq d r]
    show (match PyData.eqv x d with | true => true | false => anyEq d r) = _
    cases PyData.eqv x d <;> rfl
def fInSeq (neg : Bool) : F2 := fun d e h => match toPy h 60 d, toPy h 60 e with
  | some p, some (.list qs) => match SeqAt.shaped p && SeqAt.shaped (.list qs) with
    | true => .ok (.bl (b3 neg (anyEq p qs))) h
    | false => .bad
  | some p, some (.tuple qs) => match SeqAt.shaped p && SeqAt.shaped (.tuple qs) with
    | true => .ok (.bl (b3 neg (anyEq p qs))) h
    | false => .bad
  | _, _ => .bad
def rInT (K : PySem.W.Frag) (neg : Bool) : R2 := fun x y H Q => ∃ d ds, Dp K H x d ∧ (Dp K H y (.list ds) ∧ SeqAt.shaped (.list ds) = true ∨ Dp K H y (.tuple ds) ∧ SeqAt.shaped (.tuple ds) = true) ∧ SeqAt.shaped d = true ∧ Q (.bl (b3 neg (ds.any fun z => PyData.eqv z d))) H
theorem op_inM (hu : X.A.units + 65 < cLine) : OpR X (compareOp .In) (rInT X.K false) := by
  intro pins s σ H x y v u Q I rx ry h
  obtain ⟨d, ds, hd, he, sd, q⟩ := h
  obtain ⟨as, r1⟩ := Dp.reads I d x v hd rx
  rcases he with ⟨he, se⟩ | ⟨he, se⟩
  · obtain ⟨bs, r2⟩ := Dp.reads I (.list ds) y u he ry
    exact SeqAt.in_list_reads r2 r1 (SeqAt.canLay_of_shaped se) (SeqAt.canLay_of_shaped sd) (room_in_shaped sd hu) ⟨.bl _, H, I, rfl, q⟩
  · obtain ⟨bs, r2⟩ := Dp.reads I (.tuple ds) y u he ry
    exact SeqAt.in_tuple_reads r2 r1 (SeqAt.canLay_of_shaped se) (SeqAt.canLay_of_shaped sd) (room_in_shaped sd hu) ⟨.bl _, H, I, rfl, q⟩
theorem op_notInM (hu : X.A.units + 65 < cLine) : OpR X (compareOp .NotIn) (rInT X.K true) := by
  intro pins s σ H x y v u Q I rx ry h
  obtain ⟨d, ds, hd, he, sd, q⟩ := h
  obtain ⟨as, r1⟩ := Dp.reads I d x v hd rx
  rcases he with ⟨he, se⟩ | ⟨he, se⟩
  · obtain ⟨bs, r2⟩ := Dp.reads I (.list ds) y u he ry
    exact SeqAt.notIn_list_reads r2 r1 (SeqAt.canLay_of_shaped se) (SeqAt.canLay_of_shaped sd) (room_in_shaped sd hu) ⟨.bl _, H, I, rfl, q⟩
  · obtain ⟨bs, r2⟩ := Dp.reads I (.tuple ds) y u he ry
    exact SeqAt.notIn_tuple_reads r2 r1 (SeqAt.canLay_of_shaped se) (SeqAt.canLay_of_shaped sd) (room_in_shaped sd hu) ⟨.bl _, H, I, rfl, q⟩
theorem s2_in {neg : Bool} : S2 Z (rInT Z.K neg) (fInSeq neg) := by
  intro ρ h H d e v w Q E rep rv rw q
  unfold fInSeq at q
  split at q <;> first | exact q.elim | skip
  · rename_i p qs e1 e2
    cases sm : SeqAt.shaped p && SeqAt.shaped (.list qs) with
    | false => rw [sm] at q; exact q.elim
    | true =>
      rw [sm] at q
      obtain ⟨s1, s2⟩ := Bool.and_eq_true_iff.mp sm
      have := q ρ H _ Ext.refl rep (.bl _)
      rw [anyEq_eq] at this
      exact ⟨p, qs, toPy_ok rep _ _ _ _ rv e1, .inl ⟨toPy_ok rep _ _ _ _ rw e2, s2⟩, s1, this⟩
  · rename_i p qs e1 e2
    cases sm : SeqAt.shaped p && SeqAt.shaped (.tuple qs) with
    | false => rw [sm] at q; exact q.elim
    | true =>
      rw [sm] at q
      obtain ⟨s1, s2⟩ := Bool.and_eq_true_iff.mp sm
      have := q ρ H _ Ext.refl rep (.bl _)
      rw [anyEq_eq] at this
      exact ⟨p, qs, toPy_ok rep _ _ _ _ rv e1, .inr ⟨toPy_ok rep _ _ _ _ rw e2, s2⟩, s1, this⟩
/-! ### subscripts -/
def ixD (n : Nat) (i : Int) : Option Nat := match i with
  | .ofNat k => match Nat.blt k n with
    | true => some k
    | false => none
  | .negSucc k => match Nat.blt k n with
    | true => some (n - (k + 1))
    | false => none
theorem ixD_ok {n : Nat} {i : Int} {j : Nat} (e : ixD n i = some j) : ixN n i = some j := by
  unfold ixD at e
  cases i with
  | ofNat k =>
    simp only at e
    cases z : Nat.blt k n with
    | false => rw [z] at e; cases e
    | true =>
      rw [z] at e
      have ek : k = j := Option.some.inj e
      subst ek
      have := Nat.le_of_ble_eq_true z
      unfold ixN
      rw [if_pos (show (0 : Int) ≤ Int.ofNat k from Int.natCast_nonneg k), if_pos (show Int.ofNat k < (n : Int) from by show ((k : Nat) : Int) < n; omega)]
      rfl
  | negSucc k =>
    simp only at e
    cases z : Nat.blt k n with
    | false => rw [z] at e; cases e
    | true =>
      rw [z] at e
      cases e
      have := Nat.le_of_ble_eq_true z
      unfold ixN
      rw [if_neg (by omega), if_pos (by omega)]
      congr 1
      omega
def atD {α : Type} (xs : List α) (i : Int) : Option α := match ixD (lenR xs) i with
  | some j => getR xs j
  | none => none
theorem atD_ok {α : Type} {xs : List α} {i : Int} {v : α} (e : atD xs i = some v) : ∃ j, ixN xs.length i = some j ∧ xs[j]? = some v := by
  unfold atD at e
  rw [lenR_eq] at e
  cases z : ixD xs.length i with
  | none => rw [z] at e; cases e
  | some j => rw [z] at e; exact ⟨j, ixD_ok z, (getR_eq xs j).symm.trans e⟩
def fIx : F2 := fun d e h => match d, e with
  | .ref i, .int k => match h.get i with
    | some (.lst xs) => match atD xs k with
      | some x => .ok x h
      | none => .bad
    | _ => .bad
  | .tup xs, .int k => match atD xs k with
    | some x => .ok x h
    | none => .bad
  | .str z, .int k => match atD z.cps.toList k, small z.length with
    | some c, true => .ok (.str ⟨#[c]⟩) h
    | _, _ => .bad
  | _, _ => .bad
theorem RVs.atI {ρ : Nat → Addr} {n : Nat} {H : Hp} {ds : List D} {vs : List V} (r : RVs Z ρ n H ds vs) {k : Int} {d : D} (e : atD ds k = some d) : ∃ v, L2.atI vs k = some v ∧ RV Z ρ n H d v := by
  obtain ⟨j, e1, e2⟩ := atD_ok e
  obtain ⟨v, h1, h2⟩ := r.get e2
  refine ⟨v, ?_, h2⟩
  unfold L2.atI
  rw [← r.length, e1]
  exact h1
theorem s2_ix : S2 Z (rIx Z.K) fIx := by
  intro ρ h H d e v w Q E rep rv rw q
  cases rv with
  | ref hi =>
    cases rw <;> first | exact q.elim | skip
    rename_i i k
    simp only [fIx] at q
    split at q <;> first | exact q.elim | skip
    rename_i xs e1
    split at q <;> first | exact q.elim | skip
    rename_i x e2
    obtain ⟨vs, a1, a2⟩ := rep.lst hi e1
    obtain ⟨y, b1, b2⟩ := a2.atI e2
    exact .inl ⟨ρ i, vs, k, y, rfl, rfl, SqL.of a1, b1, q ρ H _ Ext.refl rep b2⟩
  | tup s t =>
    cases rw <;> first | exact q.elim | skip
    rename_i a xs vs k
    simp only [fIx] at q
    split at q <;> first | exact q.elim | skip
    rename_i x e2
    obtain ⟨y, b1, b2⟩ := t.atI e2
    exact .inr (.inl ⟨a, vs, k, y, rfl, rfl, SqT.of s, b1, q ρ H _ Ext.refl rep b2⟩)
  | str z =>
    cases rw <;> first | exact q.elim | skip
    rename_i k
    simp only [fIx] at q
    split at q <;> first | exact q.elim | skip
    rename_i c e2 sm
    obtain ⟨j, e3, e4⟩ := atD_ok e2
    exact .inr (.inr ⟨z, k, c, rfl, rfl, small_ok sm, by unfold L2.atI; rw [e3]; exact e4, q ρ H _ Ext.refl rep (.str _)⟩)
  | _ => exact q.elim
variable {E : L2.St → XK} {a b : Expr} {ma mb : ME} {pos : Pos}
theorem s_ix (hK : Z.K = X.K) (pa : PE X a (tE Z E ma)) (pb : PE X b (tE Z E mb)) (hs : PlainIx b := by exact fun _ _ => rfl) : PE X (.Subscript a b pos) (tE Z E (m2 fIx ma mb)) :=
  (pe_ix (by rw [hK]; exact ix_seq) pa pb hs).imp (op2 s2_ix)
/-! unary minus -/
def mNeg (m : ME) : ME := fun σ h => (m σ h).bind fun d h1 => match d with
  | .int i => .ok (.int (-i)) h1
  | _ => .bad
theorem s_neg (p : PE X a (tE Z E ma)) : PE X (.UnaryOp .USub a pos) (tE Z E (mNeg ma)) := (pe_un un_neg p).imp fun τ H Q => by
  rintro ⟨ρ, σ, h, rep, rs, q⟩
  refine ⟨ρ, σ, h, rep, rs, Aft.bind q fun d h1 ρ1 H1 v e1 rep1 rv q1 => ?_⟩
  cases d <;> first | exact q1.elim | skip
  cases rv
  exact ⟨_, rfl, q1 ρ1 H1 _ Ext.refl rep1 (.int _)⟩
end
end
end Sm
namespace Sm
open PySem PySem.Spec PyProof.Rows L2
noncomputable section
/-! ### defs, their promise, calls -/
abbrev MF := List D → Hm → R D
def spM (Z : Cz) (m : Nat) (f : MF) : Sp := fun vs H Q E => ∃ ρ h ds, Rep Z ρ h H ∧ RVs Z ρ h.n H ds vs ∧ ds.length = m ∧ Aft Z (rlV Z) ρ h H (f ds h) Q E
theorem spM_len {Z : Cz} {m : Nat} {f : MF} : ∀ vs H Q E, spM Z m f vs H Q E → vs.length = m := fun vs H Q E ⟨ρ, h, ds, rep, rv, l, _⟩ => by rw [← rv.length]; exact l
def mCall (m : Nat) (f : MF) (k : MA) : ME := fun σ h => (k σ h).bind fun ds h1 => match Nat.beq ds.length m with
  | true => f ds h1
  | false => .bad
section
variable {X : Cx} {Z : Cz} {E : L2.St → XK} {pos p : Pos} {CX : CXT} {k : Nat} {f : Addr} {fd : FuncData} {ps : List Str} {fm : MF} {m : Nat} {x : Str} {e : Expr} {es : List Expr} {ka : MA}
theorem s_call (F : FnOk X.prog X.w X.K X.mg X.base CX k f fd ps (spM Z m fm)) (hr : Room k X.A) (hg : Gl X x) (hm : X.mg x = some (.ref f)) (hk : PySem.W.keepIn X.K (.ref f) = true) (hb : Binds X.K fd ps []) (hx : ∀ σ, PassesAt CX X σ (E σ))
    (ha : PA X (e :: es) (tA Z E ka)) (hdb : (x == ("__debug__" : Str)) = false := by decide) (he : starEach (e :: es) X.env = (false, eval e X.env) :: starEach es X.env := by rfl) (hpl : (backTo pos (starEach es X.env)).any (·.1) = false := by rfl) :
    PE X (.Call (.Name x p) (e :: es) [] pos) (tE Z E (mCall m fm ka)) := (pe_callSD F hr hg hm hk hb .nil hx ha hdb he hpl).imp fun τ H Q => by
  rintro ⟨ρ, σ, h, rep, rs, q⟩
  refine ⟨ρ, σ, h, rep, rs, Aft.bind q fun d h1 ρ1 H1 v e1 rep1 rv q1 => ?_⟩
  cases z : Nat.beq d.length m with
  | false => rw [z] at q1; exact q1.elim
  | true =>
    rw [z] at q1
    rw [List.append_nil]
    exact ⟨ρ1, h1, d, rep1, rv, Nat.eq_of_beq_eq_true z, q1⟩
theorem s_call0 (F : FnOk X.prog X.w X.K X.mg X.base CX k f fd ps (spM Z m fm)) (hr : Room k X.A) (hg : Gl X x) (hm : X.mg x = some (.ref f)) (hk : PySem.W.keepIn X.K (.ref f) = true) (hb : Binds X.K fd ps []) (hx : ∀ σ, PassesAt CX X σ (E σ))
    (hdb : (x == ("__debug__" : Str)) = false := by decide) : PE X (.Call (.Name x p) [] [] pos) (tE Z E (mCall m fm maNil)) := by
  refine ⟨fun pins s σ H Q I h => ?_⟩
  obtain ⟨ρ, σm, hm', rep, rs, q⟩ := h
  refine wpAny_Call_Name_kw (ld_glob I hg hm ?_ hdb)
  refine PySem.W.callWith_K0 I.kIn hk (run_fnSD (us := []) F hr hb (.nil : Vals [] []) (hx σ) I .nil ?_)
  have q1 : Aft Z (rlV Z) ρ hm' H (match Nat.beq ([] : List D).length m with
    | true => fm [] hm'
    | false => .bad) Q (E σ) := q
  cases z : Nat.beq ([] : List D).length m with
  | false => rw [z] at q1; exact q1.elim
  | true =>
    rw [z] at q1
    exact ⟨ρ, hm', [], rep, .nil, Nat.eq_of_beq_eq_true z, q1⟩
end
/-! ### statements -/
inductive RT where
  | nx (σ : Loc) (h : Hm) | rt (d : D) (h : Hm) | bk (σ : Loc) (h : Hm) | ct (σ : Loc) (h : Hm) | exn (c : Nat) (ds : List D) (h : Hm) | bad
abbrev MS := Loc → Hm → RT
def AftS (Z : Cz) (ρ : Nat → Addr) (h : Hm) (H : Hp) (r : RT) (De : Ends) (E : XK) : Prop := match r with
  | .nx σ h' => ∀ ρ' H' τ, Ext ρ h.n H ρ' h'.n H' → Rep Z ρ' h' H' → RS Z ρ' h'.n H' σ τ → De.nx τ H'
  | .bk σ h' => ∀ ρ' H' τ, Ext ρ h.n H ρ' h'.n H' → Rep Z ρ' h' H' → RS Z ρ' h'.n H' σ τ → De.bk τ H'
  | .ct σ h' => ∀ ρ' H' τ, Ext ρ h.n H ρ' h'.n H' → Rep Z ρ' h' H' → RS Z ρ' h'.n H' σ τ → De.ct τ H'
  | .rt d h' => ∀ ρ' H' v, Ext ρ h.n H ρ' h'.n H' → Rep Z ρ' h' H' → RV Z ρ' h'.n H' d v → De.rt v H'
  | .exn c ds h' => ∀ ρ' H' cl dd, Ext ρ h.n H ρ' h'.n H' → Rep Z ρ' h' H' → RX Z ρ' h'.n H' c ds cl dd → E cl dd H'
  | .bad => False
def tS (Z : Cz) (E : L2.St → XK) (m : MS) : TS := fun De τ H => ∃ ρ σ h, Rep Z ρ h H ∧ RS Z ρ h.n H σ τ ∧ AftS Z ρ h H (m σ h) De (E τ)
section
variable {Z : Cz} {ρ ρ1 : Nat → Addr} {h h1 : Hm} {H H1 : Hp} {E : XK} {De : Ends}
theorem AftS.shift {r : RT} (e : Ext ρ h.n H ρ1 h1.n H1) (q : AftS Z ρ h H r De E) : AftS Z ρ1 h1 H1 r De E := by
  cases r with
  | nx σ h' => exact fun ρ' H' τ e' r' l => q ρ' H' τ (e.trans e') r' l
  | bk σ h' => exact fun ρ' H' τ e' r' l => q ρ' H' τ (e.trans e') r' l
  | ct σ h' => exact fun ρ' H' τ e' r' l => q ρ' H' τ (e.trans e') r' l
  | rt σ h' => exact fun ρ' H' τ e' r' l => q ρ' H' τ (e.trans e') r' l
  | exn c ds h' => exact fun ρ' H' b dd e' r' l => q ρ' H' b dd (e.trans e') r' l
  | bad => exact q
def R.bindS {α : Type} (r : R α) (k : α → Hm → RT) : RT := match r with
  | .ok a h => k a h
  | .exn c ds h => .exn c ds h
  | .bad => .bad
theorem AftS.bind {α β : Type} {rl : Rl α β} {r : R α} {k : α → Hm → RT} {Q1 : β → Hp → Prop} (q : AftS Z ρ h H (r.bindS k) De E)
    (go : ∀ a h1 ρ1 H1 b, Ext ρ h.n H ρ1 h1.n H1 → Rep Z ρ1 h1 H1 → rl ρ1 h1.n H1 a b → AftS Z ρ1 h1 H1 (k a h1) De E → Q1 b H1) : Aft Z rl ρ h H r Q1 E := by
  cases r with
  | ok a h' => exact fun ρ' H' b e' r' l => go a h' ρ' H' b e' r' l (AftS.shift e' q)
  | exn c ds h' => exact q
  | bad => exact q
/-- one statement, then the rest -/
def RT.then (r : RT) (k : MS) : RT := match r with
  | .nx σ h => k σ h
  | r => r
end
section
variable {X : Cx} {Z : Cz} {E : L2.St → XK} {E0 : XK} {pos : Pos}
theorem _root_.L2.PS.imp {st : Stmt} {t t' : TS} (p : PS X st t) (w : ∀ De σ H, t' De σ H → t De σ H) : PS X st t' := ⟨fun pins s σ H De I q => p.run pins s σ H De I (w De σ H q)⟩
theorem _root_.L2.PSs.imp {st : List Stmt} {t t' : TS} (p : PSs X st t) (w : ∀ De σ H, t' De σ H → t De σ H) : PSs X st t' := ⟨fun pins s σ H De I q => p.run pins s σ H De I (w De σ H q)⟩
def msNil : MS := fun σ h => .nx σ h
def msCons (a b : MS) : MS := fun σ h => (a σ h).then b
theorem ss_nil : PSs X [] (tS Z E msNil) := pss_nil.imp fun De τ H => by
  rintro ⟨ρ, σ, h, rep, rs, q⟩
  exact q ρ H τ Ext.refl rep rs
theorem ss_cons {st : Stmt} {rest : List Stmt} {a b : MS} (p : PS X st (tS Z (fun _ => E0) a)) (r : PSs X rest (tS Z (fun _ => E0) b)) : PSs X (st :: rest) (tS Z (fun _ => E0) (msCons a b)) := (pss_cons p r).imp fun De τ H => by
  rintro ⟨ρ, σ, h, rep, rs, q⟩
  refine ⟨ρ, σ, h, rep, rs, ?_⟩
  unfold msCons at q
  cases z : a σ h with
  | nx σ' h' =>
    rw [z] at q
    exact fun ρ' H' τ' e' r' l => ⟨ρ', σ', h', r', l, AftS.shift e' q⟩
  | bk σ' h' => rw [z] at q; exact q
  | ct σ' h' => rw [z] at q; exact q
  | rt σ' h' => rw [z] at q; exact q
  | exn c ds h' => rw [z] at q; exact q
  | bad => rw [z] at q; exact q
theorem ss_one {st : Stmt} {a : MS} (p : PS X st (tS Z E a)) : PSs X [st] (tS Z E a) := pss_one p
theorem s_pass : PS X (.Pass pos) (tS Z E msNil) := ps_pass.imp fun De τ H => by
  rintro ⟨ρ, σ, h, rep, rs, q⟩
  exact q ρ H τ Ext.refl rep rs
def msBreak : MS := fun σ h => .bk σ h
def msCont : MS := fun σ h => .ct σ h
theorem s_break : PS X (.Break pos) (tS Z E msBreak) := ps_break.imp fun De τ H => by
  rintro ⟨ρ, σ, h, rep, rs, q⟩
  exact q ρ H τ Ext.refl rep rs
theorem s_continue : PS X (.Continue pos) (tS Z E msCont) := ps_continue.imp fun De τ H => by
  rintro ⟨ρ, σ, h, rep, rs, q⟩
  exact q ρ H τ Ext.refl rep rs
variable {e : Expr} {m : ME}
def msExpr (m : ME) : MS := fun σ h => (m σ h).bindS fun _ h1 => .nx σ h1
theorem s_expr (p : PE X e (tE Z E m)) (hs : swapsWith e none pos.line X.env = pure false := by rfl) : PS X (.Expr e pos) (tS Z E (msExpr m)) := (ps_expr p hs).imp fun De τ H => by
  rintro ⟨ρ, σ, h, rep, rs, q⟩
  refine ⟨ρ, σ, h, rep, rs, AftS.bind q fun d h1 ρ1 H1 v e1 rep1 rv q1 => ?_⟩
  exact q1 ρ1 H1 τ Ext.refl rep1 (rs.mono rep e1)
def msRet (m : ME) : MS := fun σ h => (m σ h).bindS fun d h1 => .rt d h1
theorem s_ret (p : PE X e (tE Z E m)) : PS X (.Return (some e) pos) (tS Z E (msRet m)) := (ps_ret p).imp fun De τ H => by
  rintro ⟨ρ, σ, h, rep, rs, q⟩
  refine ⟨ρ, σ, h, rep, rs, AftS.bind q fun d h1 ρ1 H1 v e1 rep1 rv q1 => ?_⟩
  exact q1 ρ1 H1 v Ext.refl rep1 rv
def msRetN : MS := fun σ h => .rt .non h
theorem s_retN : PS X (.Return none pos) (tS Z E msRetN) := ps_retN.imp fun De τ H => by
  rintro ⟨ρ, σ, h, rep, rs, q⟩
  exact q ρ H .non Ext.refl rep .non
def msIf (c : MT) (a b : MS) : MS := fun σ h => (c σ h).bindS fun d h1 => match d with
  | true => a σ h1
  | false => b σ h1
theorem s_ifS {c : Expr} {a b : List Stmt} {mc : MT} {ma mb : MS} (pc : PT X c (tT Z E mc)) (pa : PSs X a (tS Z E ma)) (pb : PSs X b (tS Z E mb)) : PS X (.If c a b pos) (tS Z E (msIf mc ma mb)) := (ps_if pc pa pb).imp fun De τ H => by
  rintro ⟨ρ, σ, h, rep, rs, q⟩
  refine ⟨ρ, σ, h, rep, rs, AftS.bind q fun d h1 ρ1 H1 v e1 rep1 rv q1 => ?_⟩
  cases rv
  cases d with
  | true => exact iteT ⟨ρ1, σ, h1, rep1, rs.mono rep e1, q1⟩
  | false => exact iteF ⟨ρ1, σ, h1, rep1, rs.mono rep e1, q1⟩
/-! targets -/
abbrev MG := D → Loc → Option Loc
/-- alike but at the places is -/
def Ag (is : List Nat) (τ τ' : L2.St) : Prop := τ'.length = τ.length ∧ ∀ j, j ∉ is → τ'[j]? = τ[j]?
theorem Ag.refl {is : List Nat} {τ : L2.St} : Ag is τ τ := ⟨rfl, fun _ _ => rfl⟩
theorem Ag.trans {is js : List Nat} {τ τ1 τ2 : L2.St} (a : Ag is τ τ1) (b : Ag js τ1 τ2) : Ag (is ++ js) τ τ2 :=
  ⟨b.1.trans a.1, fun j h => (b.2 j fun z => h (List.mem_append_right _ z)).trans (a.2 j fun z => h (List.mem_append_left _ z))⟩
def gM (Z : Cz) (is : List Nat) (g : MG) : TG := fun v τ H Q => ∃ ρ n d σ, RS Z ρ n H σ τ ∧ RV Z ρ n H d v ∧ match g d σ with
  | some σ' => ∀ τ', Ag is τ τ' → RS Z ρ n H σ' τ' → Q τ' H
  | none => False
theorem _root_.L2.PG.imp {tg : Expr} {t t' : TG} (p : PG X tg t) (w : ∀ v σ H Q, t' v σ H Q → t v σ H Q) : PG X tg t' := ⟨fun pins s σ H v u Q I r q => p.run pins s σ H v u Q I r (w v σ H Q q)⟩
def gmName (i : Nat) : MG := fun d σ => some (setR σ i (some d))
theorem s_gname {tg : Expr} {i : Nat} (p : PG X tg (gName i)) : PG X tg (gM Z [i] (gmName i)) := p.imp fun v τ H Q => by
  rintro ⟨ρ, n, d, σ, rs, rv, q⟩
  exact q _ ⟨List.length_set, fun j h => List.getElem?_set_ne fun z => h (by rw [z]; exact List.mem_cons_self)⟩ (by rw [setR_eq]; exact rs.set rv)
abbrev MGs := List D → Loc → Option Loc
def gMs (Z : Cz) (is : List Nat) (g : MGs) : TGs := fun vs τ H Q => ∃ ρ n ds σ, RS Z ρ n H σ τ ∧ RVs Z ρ n H ds vs ∧ match g ds σ with
  | some σ' => ∀ τ', Ag is τ τ' → RS Z ρ n H σ' τ' → Q τ' H
  | none => False
theorem _root_.L2.PGs.imp {tg : List Expr} {t t' : TGs} (p : PGs X tg t) (w : ∀ v σ H Q, t' v σ H Q → t v σ H Q) : PGs X tg t' := ⟨fun pins s σ H v u Q I r q => p.run pins s σ H v u Q I r (w v σ H Q q)⟩
def gmNil : MGs := fun ds σ => match ds with
  | [] => some σ
  | _ => none
def gmCons (g : MG) (gs : MGs) : MGs := fun ds σ => match ds with
  | [] => none
  | d :: r => match g d σ with
    | some σ' => gs r σ'
    | none => none
theorem s_gnil : PGs X [] (gMs Z [] gmNil) := pgs_nil.imp fun v τ H Q => by
  rintro ⟨ρ, n, ds, σ, rs, rv, q⟩
  cases rv with
  | nil => exact ⟨rfl, q _ Ag.refl rs⟩
  | cons a b => exact q.elim
theorem s_gcons {tg : Expr} {tgs : List Expr} {is js : List Nat} {g : MG} {gs : MGs} (p : PG X tg (gM Z is g)) (r : PGs X tgs (gMs Z js gs)) (hs : (assignEach (tg :: tgs) X.env).map (·.2) = assign tg X.env :: (assignEach tgs X.env).map (·.2) := by rfl) : PGs X (tg :: tgs) (gMs Z (is ++ js) (gmCons g gs)) :=
  (pgs_cons p r hs).imp fun v τ H Q => by
    rintro ⟨ρ, n, ds, σ, rs, rv, q⟩
    cases rv with
    | nil => exact q.elim
    | cons a b =>
      simp only [gmCons] at q
      rename_i d v' ds' vs'
      cases z : g d σ with
      | none => rw [z] at q; exact q.elim
      | some σ' =>
        rw [z] at q
        refine ⟨v', vs', rfl, ρ, n, d, σ, rs, a, ?_⟩
        rw [z]
        intro τ' ag rs'
        refine ⟨ρ, n, ds', σ', rs', b, ?_⟩
        cases z2 : gs ds' σ' with
        | none => simp only [z2] at q
        | some σ2 =>
          simp only [z2] at q
          exact fun τ2 ag2 rs2 => q τ2 (ag.trans ag2) rs2
def gmTup (n : Nat) (gs : MGs) : MG := fun d σ => match d with
  | .tup ds => match Nat.beq ds.length n with
    | true => gs ds σ
    | false => none
  | _ => none
theorem s_gtup {es : List Expr} {j n : Nat} {is : List Nat} {gs : MGs} (hc : X.calm = true) (p : PGs X es (gMs Z is gs)) (hn : (assignEach es X.env).length = n := by rfl) (hst : (assignEach es X.env).findIdx? (·.1) = none := by rfl) : PG X (.Tuple es j pos) (gM Z is (gmTup n gs)) :=
  (pg_tup hc p hn hst).imp fun v τ H Q => by
    rintro ⟨ρ, k, d, σ, rs, rv, q⟩
    cases rv <;> first | exact q.elim | skip
    rename_i a ds vs sq t
    simp only [gmTup] at q
    cases z : Nat.beq ds.length n with
    | false => rw [z] at q; exact q.elim
    | true =>
      rw [z] at q
      exact ⟨a, vs, rfl, SqT.of sq, by rw [← t.length]; exact Nat.eq_of_beq_eq_true z, ρ, k, ds, σ, rs, t, q⟩
/-! assignment -/
def msAsg (m : ME) (g : MG) : MS := fun σ h => (m σ h).bindS fun d h1 => match g d σ with
  | some σ' => .nx σ' h1
  | none => .bad
theorem asg_of {m : ME} {is : List Nat} {g : MG} {De : Ends} {τ : L2.St} {H : Hp} (q : tS Z E (msAsg m g) De τ H) : tAsg (tE Z E m) (gM Z is g) De τ H := by
  obtain ⟨ρ, σ, h, rep, rs, q⟩ := q
  refine ⟨ρ, σ, h, rep, rs, AftS.bind q fun d h1 ρ1 H1 v e1 rep1 rv q1 => ?_⟩
  refine ⟨ρ1, h1.n, d, σ, rs.mono rep e1, rv, ?_⟩
  cases z : g d σ with
  | none => rw [z] at q1; exact q1.elim
  | some σ' =>
    rw [z] at q1
    exact fun τ' _ rs' => q1 ρ1 H1 τ' Ext.refl rep1 rs'
theorem s_asg {tg : Expr} {is : List Nat} {g : MG} (p : PE X e (tE Z E m)) (pg : PG X tg (gM Z is g)) (hs : swapsWithSole [tg] e pos.line X.env = pure false := by rfl) (hw : swappedStores [tg] e X.env = pure none := by rfl)
    (h1 : (assignEach [tg] X.env).map (·.2) = [assign tg X.env] := by rfl) : PS X (.Assign [tg] e pos) (tS Z E (msAsg m g)) := (ps_asg p pg hs hw h1).imp fun De τ H q => asg_of q
theorem s_set {i : Nat} {x : Str} {pos' : Pos} (hN : X.N.Nodup) (hi : X.N[i]? = some x) (hx : L2.Loc X.env.scope x) (p : PE X e (tE Z E m)) (hs : swapsWith e (some (.Name x pos')) pos.line X.env = pure false := by rfl) (hf : X.fn x = true ∨ X.env.scope.names.lookup x = some .local := by first | exact .inl rfl | exact .inr rfl | assumption) :
    PS X (.Assign [.Name x pos'] e pos) (tS Z E (msAsg m (gmName i))) := (ps_set hN hi hx p hs hf).imp fun De τ H q => by
  obtain ⟨ρ, σ, h, rep, rs, q⟩ := q
  refine ⟨ρ, σ, h, rep, rs, AftS.bind q fun d h1 ρ1 H1 v e1 rep1 rv q1 => ?_⟩
  exact q1 ρ1 H1 _ Ext.refl rep1 ((rs.mono rep e1).setR rv)
end
end
end Sm
namespace Sm
open PySem PySem.Spec PyProof.Rows L2
noncomputable section
/-! ### dicts -/
def keyD : D → Option Key
  | .int i => some (.inl i)
  | .str x => some (.inr x)
  | _ => none
def keyT : D → Option (List Key)
  | .tup ds => mapO keyD ds
  | _ => none
def valD {κ : Type} [DecidableEq κ] (k : κ) : List (κ × D) → Option D
  | [] => none
  | p :: r => match decide (p.1 = k) with
    | true => some p.2
    | false => valD k r
def hasD {κ : Type} [DecidableEq κ] (k : κ) : List (κ × D) → Bool
  | [] => false
  | p :: r => match decide (p.1 = k) with
    | true => true
    | false => hasD k r
def mapD {κ : Type} [DecidableEq κ] (k : κ) (d : D) : List (κ × D) → List (κ × D)
  | [] => []
  | p :: r => match decide (p.1 = k) with
    | true => (p.1, d) :: mapD k d r
    | false => p :: mapD k d r
def putD {κ : Type} [DecidableEq κ] (k : κ) (d : D) (kvs : List (κ × D)) : List (κ × D) := match hasD k kvs with
  | true => mapD k d kvs
  | false => kvs ++ [(k, d)]
section
variable {Z : Cz} {ρ : Nat → Addr} {n : Nat} {H : Hp}
theorem keyD_ok {d : D} {v : V} {k : Key} (r : RV Z ρ n H d v) (e : keyD d = some k) : v = kV k := by
  cases r <;> first | (cases e; rfl) | cases e
theorem keysD_ok : ∀ {ds : List D} {vs : List V} {ks : List Key}, RVs Z ρ n H ds vs → mapO keyD ds = some ks → vs = ks.map kV
  | _, _, _, .nil, e => by cases e; rfl
  | _, _, _, .cons (d := d) (ds := ds) r t, e => by
    unfold mapO at e
    cases e1 : keyD d with
    | none => rw [e1] at e; cases e
    | some y =>
      rw [e1] at e
      cases e2 : mapO keyD ds with
      | none => simp only [e2] at e; cases e
      | some ys =>
        simp only [e2] at e
        cases e
        rw [keyD_ok r e1, keysD_ok t e2]
        rfl
theorem keyT_ok {d : D} {v : V} {k : List Key} (r : RV Z ρ n H d v) (e : keyT d = some k) : ∃ b, v = .ref b ∧ H b = some (.tup (k.map kV)) := by
  cases r <;> first | cases e | skip
  rename_i a ds vs s t
  exact ⟨a, rfl, by rw [s, keysD_ok t e]⟩
variable {κ : Type} [DecidableEq κ]
theorem valD_ok {k : κ} : ∀ {kvs : List (κ × D)} {ws : List (κ × V)}, RKs Z ρ n H kvs ws → match valD k kvs with
    | some d => ∃ v, valV ws k = some v ∧ RV Z ρ n H d v
    | none => valV ws k = none
  | _, _, .nil => rfl
  | _, _, .cons (a := p) (b := q) r t => by
    unfold valD
    cases e : decide (p.1 = k) with
    | true =>
      exact ⟨q.2, valV_pos (r.1.symm.trans (of_decide_eq_true e)), r.2⟩
    | false =>
      rw [valV_neg (by rw [← r.1]; exact of_decide_eq_false e)]
      exact valD_ok (k := k) t
theorem RKs.length {kvs : List (κ × D)} {ws : List (κ × V)} (r : RKs Z ρ n H kvs ws) : kvs.length = ws.length := Paired.length r
end
theorem hasD_ok {Z : Cz} {ρ : Nat → Addr} {n : Nat} {H : Hp} {κ : Type} [DecidableEq κ] {k : κ} : ∀ {kvs : List (κ × D)} {ws : List (κ × V)}, RKs Z ρ n H kvs ws → (ws.any fun kv => decide (kv.1 = k)) = hasD k kvs
  | _, _, .nil => rfl
  | p :: r, q :: t, .cons rp rt => by
    rw [List.any_cons, hasD_ok rt, ← rp.1]
    show _ = (match decide (p.1 = k) with | true => true | false => hasD k r)
    cases decide (p.1 = k) <;> rfl
theorem mapD_ok {Z : Cz} {ρ : Nat → Addr} {n : Nat} {H : Hp} {κ : Type} [DecidableEq κ] {k : κ} {d : D} {v : V} (rv : RV Z ρ n H d v) : ∀ {kvs : List (κ × D)} {ws : List (κ × V)}, RKs Z ρ n H kvs ws → RKs Z ρ n H (mapD k d kvs) (ws.map fun kv => if kv.1 = k then (kv.1, v) else kv)
  | _, _, .nil => .nil
  | p :: r, q :: t, .cons rp rt => by
    rw [List.map_cons, ← rp.1]
    show RKs Z ρ n H (match decide (p.1 = k) with | true => (p.1, d) :: mapD k d r | false => p :: mapD k d r) _
    cases e : decide (p.1 = k) with
    | true =>
      rw [if_pos (of_decide_eq_true e)]
      exact .cons ⟨rfl, rv⟩ (mapD_ok rv rt)
    | false =>
      rw [if_neg (of_decide_eq_false e)]
      exact .cons rp (mapD_ok rv rt)
theorem RKs.append {Z : Cz} {ρ : Nat → Addr} {n : Nat} {H : Hp} {κ : Type} : ∀ {a b : List (κ × D)} {v w : List (κ × V)}, RKs Z ρ n H a v → RKs Z ρ n H b w → RKs Z ρ n H (a ++ b) (v ++ w)
  | _, _, _, _, .nil, s => s
  | _, _, _, _, .cons r t, s => .cons r (RKs.append t s)
theorem putD_ok {Z : Cz} {ρ : Nat → Addr} {n : Nat} {H : Hp} {κ : Type} [DecidableEq κ] {k : κ} {d : D} {v : V} (rv : RV Z ρ n H d v) {kvs : List (κ × D)} {ws : List (κ × V)} (r : RKs Z ρ n H kvs ws) : RKs Z ρ n H (putD k d kvs) (putK ws k v) := by
  unfold putD putK
  rw [hasD_ok r]
  cases hasD k kvs with
  | true =>
    rw [if_pos rfl]
    exact mapD_ok rv r
  | false =>
    rw [if_neg Bool.false_ne_true]
    exact r.append (.cons ⟨rfl, rv⟩ .nil)
/-! ### stores -/
/-- o[i] = v -/
def hSet (o i v : D) (h : Hm) : Option Hm := match o with
  | .ref r => match h.get r with
    | some (.lst xs) => match i with
      | .int k => match ixD xs.length k with
        | some j => some (h.put r (.lst (xs.set j v)))
        | none => none
      | _ => none
    | some (.dK kvs) => match keyD i with
      | some k => match small kvs.length with
        | true => some (h.put r (.dK (putD k v kvs)))
        | false => none
      | none => none
    | some (.dT kvs) => match keyT i with
      | some k => match small kvs.length with
        | true => some (h.put r (.dT (putD k v kvs)))
        | false => none
      | none => none
    | _ => none
  | _ => none
def rSetM : TSet := fun o i v H Q => rSetL o i v H Q ∨ rSetD o i v H Q
theorem set_M {X : Cx} (hu : X.A.units + 1 < cLine) : PSet X rSetM := by
  intro pins s σ H o i v ov iv u Q I ro ri rv h
  rcases h with h | h
  · exact set_list pins s σ H o i v ov iv u Q I ro ri rv h
  · exact set_dict hu pins s σ H o i v ov iv u Q I ro ri rv h
section
variable {X : Cx} {Z : Cz} {E : L2.St → XK} {pos : Pos}
theorem hSet_ok {ρ : Nat → Addr} {h h' : Hm} {H : Hp} {o i d : D} {vo vi v : V} (rep : Rep Z ρ h H) (ro : RV Z ρ h.n H o vo) (ri : RV Z ρ h.n H i vi) (rv : RV Z ρ h.n H d v) (e : hSet o i d h = some h') {Q : Hp → Prop}
    (q : ∀ H', Ext ρ h.n H ρ h'.n H' → Rep Z ρ h' H' → h'.n = h.n → Q H') : rSetM vo vi v H Q := by
  cases ro with
  | ref hi =>
    rename_i r
    have eq : hSet (.ref r) i d h = some h' := e
    unfold hSet at e
    simp only at e
    split at e
    · rename_i xs e1
      split at e <;> first | cases e | skip
      rename_i k
      split at e <;> first | cases e | skip
      rename_i j e2
      cases ri
      obtain ⟨vs, a1, a2⟩ := rep.lst hi e1
      refine .inl ⟨ρ r, vs, k, j, rfl, rfl, a1, by rw [← a2.length]; exact ixD_ok e2, ?_⟩
      obtain ⟨ex, rp⟩ := rep.put (o := .lst (xs.set j d)) (u := .lst (vs.set j v)) hi (fun _ _ z => by rw [a1] at z; cases z) fun ex => ⟨_, upd_same, RVs.set (rv.mono rep ex) j (a2.mono rep ex)⟩
      exact q _ ex rp rfl
    · rename_i kvs e1
      split at e <;> first | cases e | skip
      rename_i k e2
      split at e <;> first | cases e | skip
      rename_i sm
      obtain ⟨ws, a1, a2⟩ := rep.dK hi e1
      refine .inr ⟨ρ r, upd H (ρ r) (.dK (putK ws k v)), rfl, ?_, ?_⟩
      · rw [keyD_ok ri e2]
        exact DPut.k a1 (by rw [← RKs.length a2]; exact small_lt sm)
      · obtain ⟨ex, rp⟩ := rep.put (o := .dK (putD k d kvs)) (u := .dK (putK ws k v)) hi (fun _ _ z => by rw [a1] at z; cases z) fun ex => ⟨_, upd_same, putD_ok (rv.mono rep ex) (a2.mono rep ex)⟩
        exact q _ ex rp rfl
    · rename_i kvs e1
      split at e <;> first | cases e | skip
      rename_i k e2
      split at e <;> first | cases e | skip
      rename_i sm
      obtain ⟨ws, a1, a2⟩ := rep.dT hi e1
      obtain ⟨b, eb, hb⟩ := keyT_ok ri e2
      refine .inr ⟨ρ r, upd H (ρ r) (.dT (putK ws k v)), rfl, ?_, ?_⟩
      · rw [eb]
        exact DPut.t a1 hb (by rw [← RKs.length a2]; exact small_lt sm)
      · obtain ⟨ex, rp⟩ := rep.put (o := .dT (putD k d kvs)) (u := .dT (putK ws k v)) hi (fun _ _ z => by rw [a1] at z; cases z) fun ex => ⟨_, upd_same, putD_ok (rv.mono rep ex) (a2.mono rep ex)⟩
        exact q _ ex rp rfl
    · cases e
  | _ => cases e
variable {e o i : Expr} {me mo mi : ME}
def msSet (me mo mi : ME) : MS := fun σ h => (me σ h).bindS fun v h1 => (mo σ h1).bindS fun o h2 => (mi σ h2).bindS fun i h3 => match hSet o i v h3 with
  | some h4 => .nx σ h4
  | none => .bad
theorem s_setIx {pt : Pos} (hu : X.A.units + 1 < cLine) (pe : PE X e (tE Z E me)) (po : PE X o (tE Z E mo)) (pi : PE X i (tE Z E mi))
    (ha : ∀ v, assign (.Subscript o i pt) X.env v = (do
      let ov ← holding [v] (eval o X.env)
      let iv ← holding [v, ov] (eval i X.env)
      standAt pt
      holding [v, ov, iv] (setItem ov iv v)
      release [v, ov, iv] []) := by intro _; rfl)
    (hs : swapsWithSole [.Subscript o i pt] e pos.line X.env = pure false := by rfl) (hw : swappedStores [.Subscript o i pt] e X.env = pure none := by rfl)
    (h1 : (assignEach [.Subscript o i pt] X.env).map (·.2) = [assign (.Subscript o i pt) X.env] := by rfl) : PS X (.Assign [.Subscript o i pt] e pos) (tS Z E (msSet me mo mi)) :=
  (ps_asg pe (pg_sub po pi (set_M hu) ha) hs hw h1).imp fun De τ H => by
    rintro ⟨ρ, σ, h, rep, rs, q⟩
    refine ⟨ρ, σ, h, rep, rs, AftS.bind q fun d h1 ρ1 H1 v e1 rep1 rv q1 => ?_⟩
    refine ⟨ρ1, σ, h1, rep1, rs.mono rep e1, AftS.bind q1 fun od h2 ρ2 H2 vo e2 rep2 ro q2 => ?_⟩
    refine ⟨ρ2, σ, h2, rep2, (rs.mono rep e1).mono rep1 e2, AftS.bind q2 fun id h3 ρ3 H3 vi e3 rep3 ri q3 => ?_⟩
    cases z : hSet od id d h3 with
    | none => rw [z] at q3; exact q3.elim
    | some h4 =>
      rw [z] at q3
      exact hSet_ok rep3 (ro.mono rep2 e3) ri ((rv.mono rep1 e2).mono rep2 e3) z fun H' ex rp hn => q3 ρ3 H' τ ex rp (((((rs.mono rep e1).mono rep1 e2).mono rep2 e3)).mono rep3 ex)
/-! a, b = x, y -/
def msPar (is : List Nat) (k : MA) : MS := fun σ h => (k σ h).bindS fun ds h1 => match Nat.beq ds.length is.length with
  | true => .nx ((is.zip ds).foldl (fun σ p => σ.set p.1 (some p.2)) σ) h1
  | false => .bad
theorem s_par2 {i j : Nat} {x y : Str} {a b : Expr} {ka : MA} {px py pt : Pos} {kt k2 pt2} (hc : X.calm = true) (hN : X.N.Nodup) (hi : X.N[i]? = some x) (hj : X.N[j]? = some y) (hij : i ≠ j)
    (hx : X.env.scope.names.lookup x = some .local) (hy : X.env.scope.names.lookup y = some .local) (ha : PA X [a, b] (tA Z E ka))
    (hw : swappedStores [.Tuple [.Name x px, .Name y py] kt pt] (.Tuple [a, b] k2 pt2) X.env = pure (some [x, y]))
    (hs : swapsWithSole [.Tuple [.Name x px, .Name y py] kt pt] (.Tuple [a, b] k2 pt2) pos.line X.env = pure false := by rfl) :
    PS X (.Assign [.Tuple [.Name x px, .Name y py] kt pt] (.Tuple [a, b] k2 pt2) pos) (tS Z E (msPar [i, j] ka)) := (ps_par hc hN hi hj hij hx hy ha hw hs).imp fun De τ H => by
  rintro ⟨ρ, σ, h, rep, rs, q⟩
  refine ⟨ρ, σ, h, rep, rs, AftS.bind q fun d h1 ρ1 H1 v e1 rep1 rv q1 => ?_⟩
  cases z : Nat.beq d.length [i, j].length with
  | false => rw [z] at q1; exact q1.elim
  | true =>
    rw [z] at q1
    have hl := Nat.eq_of_beq_eq_true z
    match d, v, rv, hl, q1 with
    | [d1, d2], [v1, v2], .cons r1 (.cons r2 .nil), _, q1 =>
      exact ⟨v1, v2, rfl, q1 ρ1 H1 _ Ext.refl rep1 (((rs.mono rep e1).set r1).set r2)⟩
theorem s_par3 {i j l : Nat} {x y z : Str} {a b c : Expr} {ka : MA} {px py pz pt : Pos} {kt k2 pt2} (hc : X.calm = true) (hN : X.N.Nodup) (hi : X.N[i]? = some x) (hj : X.N[j]? = some y) (hl : X.N[l]? = some z) (hij : i ≠ j) (hil : i ≠ l) (hjl : j ≠ l)
    (hx : X.env.scope.names.lookup x = some .local) (hy : X.env.scope.names.lookup y = some .local) (hz : X.env.scope.names.lookup z = some .local) (ha : PA X [a, b, c] (tA Z E ka))
    (hw : swappedStores [.Tuple [.Name x px, .Name y py, .Name z pz] kt pt] (.Tuple [a, b, c] k2 pt2) X.env = pure (some [x, y, z]))
    (hs : swapsWithSole [.Tuple [.Name x px, .Name y py, .Name z pz] kt pt] (.Tuple [a, b, c] k2 pt2) pos.line X.env = pure false := by rfl) :
    PS X (.Assign [.Tuple [.Name x px, .Name y py, .Name z pz] kt pt] (.Tuple [a, b, c] k2 pt2) pos) (tS Z E (msPar [i, j, l] ka)) := (ps_par3 hc hN hi hj hl hij hil hjl hx hy hz ha hw hs).imp fun De τ H => by
  rintro ⟨ρ, σ, h, rep, rs, q⟩
  refine ⟨ρ, σ, h, rep, rs, AftS.bind q fun d h1 ρ1 H1 v e1 rep1 rv q1 => ?_⟩
  cases z : Nat.beq d.length [i, j, l].length with
  | false => rw [z] at q1; exact q1.elim
  | true =>
    rw [z] at q1
    have hl := Nat.eq_of_beq_eq_true z
    match d, v, rv, hl, q1 with
    | [d1, d2, d3], [v1, v2, v3], .cons r1 (.cons r2 (.cons r3 .nil)), _, q1 =>
      exact ⟨v1, v2, v3, rfl, q1 ρ1 H1 _ Ext.refl rep1 ((((rs.mono rep e1).set r1).set r2).set r3)⟩
/-! name op= e, a[i] op= e -/
def msAug (i : Nat) (f : F2) (m : ME) : MS := fun σ h => match getR σ i with
  | some (some d) => (m σ h).bindS fun e h1 => (f d e h1).bindS fun r h2 => .nx (setR σ i (some r)) h2
  | _ => .bad
theorem s_aug {i : Nat} {x : Str} {op : Operator} {r : R2} {f : F2} {pos' : Pos} {m : ME} (s : S2 Z r f) (p : PS X (.AugAssign (.Name x pos') op e pos) (tAug i (tE Z E m) r)) : PS X (.AugAssign (.Name x pos') op e pos) (tS Z E (msAug i f m)) := p.imp fun De τ H => by
  rintro ⟨ρ, σ, h, rep, rs, q⟩
  unfold msAug at q
  rw [getR_eq] at q
  split at q <;> first | exact q.elim | skip
  rename_i d ed
  obtain ⟨v, hv, rv⟩ := rs.2 i d ed
  refine ⟨v, hv, ρ, σ, h, rep, rs, AftS.bind q fun e h1 ρ1 H1 w e1 rep1 rw q1 => ?_⟩
  refine s ρ1 h1 H1 d e v w _ _ rep1 (rv.mono rep e1) rw (AftS.bind q1 fun r h2 ρ2 H2 y e2 rep2 ry q2 => ?_)
  exact q2 ρ2 H2 _ Ext.refl rep2 (by rw [setR_eq]; exact ((rs.mono rep e1).mono rep1 e2).set ry)
end
end
end Sm
namespace Sm
open PySem PySem.Spec PyProof.Rows L2
noncomputable section
/-! ### what is walked -/
inductive SI where
  | item (d : D) | stop | bad
abbrev Src := Nat → Hm → SI
def JOk (Z : Cz) (ρ : Nat → Addr) (n : Nat) (H : Hp) (src : Src) (J : It) : Prop := ∀ ρ1 h1 H1, Ext ρ n H ρ1 h1.n H1 → Rep Z ρ1 h1 H1 → ∀ k, match src k h1 with
  | .item d => J.go k H1 ∧ ∀ x H2, J.yld k H1 x H2 → Ext ρ1 h1.n H1 ρ1 h1.n H2 ∧ Rep Z ρ1 h1 H2 ∧ RV Z ρ1 h1.n H2 d x
  | .stop => J.stop k H1
  | .bad => True
abbrev rlJ (Z : Cz) : Rl Src It := fun ρ n H s J => JOk Z ρ n H s J
abbrev MI := Loc → Hm → R Src
abbrev tIM (Z : Cz) (E : L2.St → XK) (m : MI) : TI := tM Z (rlJ Z) E m
theorem _root_.L2.PI.imp {X : Cx} {tg e : Expr} {t t' : TI} (p : PI X tg e t) (w : ∀ σ H R, t' σ H R → t σ H R) : PI X tg e t' := ⟨fun pins s σ H R I q => p.run pins s σ H R I (w σ H R q)⟩
/-- over what an expression gives: a list as it stands at each turn, a tuple -/
def srcL (i : Nat) : Src := fun k h => match h.get i with
  | some (.lst xs) => match getR xs k with
    | some d => .item d
    | none => .stop
  | _ => .bad
def srcT (ds : List D) : Src := fun k _ => match getR ds k with
  | some d => .item d
  | none => .stop
def miL (m : ME) : MI := fun σ h => (m σ h).bind fun d h1 => match d with
  | .ref i => match h1.get i with
    | some (.lst _) => .ok (srcL i) h1
    | _ => .bad
  | _ => .bad
def miT (m : ME) : MI := fun σ h => (m σ h).bind fun d h1 => match d with
  | .tup ds => .ok (srcT ds) h1
  | _ => .bad
section
variable {X : Cx} {Z : Cz} {E : L2.St → XK} {E0 : XK} {pos p : Pos} {tg e : Expr} {m : ME}
theorem jL {ρ : Nat → Addr} {n : Nat} {H : Hp} {i : Nat} (hi : i < n) : JOk Z ρ n H (srcL i) (Itl Z.K (ρ i)) := fun ρ1 h1 H1 e r k => by
  unfold srcL
  have hi1 : i < h1.n := Nat.lt_of_lt_of_le hi e.le
  have er : ρ1 i = ρ i := e.same i hi
  cases z : h1.get i with
  | none => trivial
  | some o =>
    cases o with
    | dK kvs => trivial
    | dT kvs => trivial
    | fK kvs => trivial
    | fT kvs => trivial
    | st kvs => trivial
    | lst xs =>
      obtain ⟨vs, a1, a2⟩ := r.lst hi1 z
      rw [er] at a1
      dsimp only
      rw [getR_eq]
      cases zz : xs[k]? with
      | none =>
        simp only [zz]
        exact ⟨vs, SqL.of a1, by rw [← a2.length]; exact List.getElem?_eq_none_iff.mp zz⟩
      | some d =>
        simp only [zz]
        obtain ⟨y, b1, b2⟩ := a2.get zz
        refine ⟨⟨vs, y, SqL.of a1, b1⟩, fun x H2 hy => ?_⟩
        obtain ⟨e2, hx⟩ := hy
        subst e2
        have := hx vs (SqL.of a1)
        rw [b1] at this
        cases this
        exact ⟨Ext.refl, r, b2⟩
theorem jT {ρ : Nat → Addr} {h : Hm} {H : Hp} {a : Addr} {ds : List D} {vs : List V} (rep : Rep Z ρ h H) (s : H a = some (.tup vs)) (t : RVs Z ρ h.n H ds vs) : JOk Z ρ h.n H (srcT ds) (Itt Z.K a) := fun ρ1 h1 H1 e r k => by
  unfold srcT
  have s1 := e.tup rep s
  have t1 := t.mono rep e
  rw [getR_eq]
  cases zz : ds[k]? with
  | none => exact ⟨vs, SqT.of s1, by rw [← t1.length]; exact List.getElem?_eq_none_iff.mp zz⟩
  | some d =>
    obtain ⟨y, b1, b2⟩ := t1.get zz
    refine ⟨⟨vs, y, SqT.of s1, b1⟩, fun x H2 hy => ?_⟩
    obtain ⟨e2, hx⟩ := hy
    subst e2
    have := hx vs (SqT.of s1)
    rw [b1] at this
    cases this
    exact ⟨Ext.refl, r, b2⟩
theorem s_iL (hK : X.K = Z.K) (pe : PE X e (tE Z E m)) : PI X tg e (tIM Z E (miL m)) := (pi_list pe).imp fun τ H Q => by
  rintro ⟨ρ, σ, h, rep, rs, q⟩
  refine ⟨ρ, σ, h, rep, rs, Aft.bind q fun d h1 ρ1 H1 v e1 rep1 rv q1 => ?_⟩
  cases rv <;> first | exact q1.elim | skip
  rename_i i hi
  simp only at q1
  split at q1 <;> first | exact q1.elim | skip
  rename_i xs ee
  obtain ⟨vs, a1, a2⟩ := rep1.lst hi ee
  exact ⟨ρ1 i, rfl, ⟨vs, SqL.of a1⟩, q1 ρ1 H1 _ Ext.refl rep1 (hK ▸ jL hi)⟩
theorem s_iT (hK : X.K = Z.K) (pe : PE X e (tE Z E m)) : PI X tg e (tIM Z E (miT m)) := (pi_tup pe).imp fun τ H Q => by
  rintro ⟨ρ, σ, h, rep, rs, q⟩
  refine ⟨ρ, σ, h, rep, rs, Aft.bind q fun d h1 ρ1 H1 v e1 rep1 rv q1 => ?_⟩
  cases rv <;> first | exact q1.elim | skip
  rename_i a ds vs s t
  exact ⟨a, rfl, ⟨vs, SqT.of s⟩, q1 ρ1 H1 _ Ext.refl rep1 (hK ▸ jT rep1 s t)⟩
/-- range -/
def srcR (lo : Int) (n : Nat) : Src := fun k _ => match Nat.blt k n with
  | true => .item (.int (lo + (k : Nat)))
  | false => .stop
theorem jR {ρ : Nat → Addr} {n : Nat} {H : Hp} {lo : Int} {j : Nat} : JOk Z ρ n H (srcR lo j) (Itr lo j) := fun ρ1 h1 H1 e r k => by
  unfold srcR
  cases z : Nat.blt k j with
  | true =>
    refine ⟨Nat.le_of_ble_eq_true z, fun x H2 hy => ?_⟩
    obtain ⟨e2, hx⟩ := hy
    subst e2 hx
    exact ⟨Ext.refl, r, .int _⟩
  | false =>
    show j ≤ k
    apply Nat.le_of_not_lt
    intro hlt
    have : Nat.blt k j = true := Nat.ble_eq_true_of_le hlt
    rw [this] at z; cases z
def okR (i : Int) : Bool := Nat.ble i.natAbs 1000000
theorem okR_ok {i : Int} (h : okR i = true) : -(2 ^ 62) ≤ i ∧ i < 2 ^ 62 := by
  have := Nat.le_of_ble_eq_true h
  omega
def miR1 (k : MA) : MI := fun σ h => (k σ h).bind fun ds h1 => match ds with
  | [.int j] => match okR j with
    | true => .ok (srcR 0 j.toNat) h1
    | false => .bad
  | _ => .bad
def miR2 (k : MA) : MI := fun σ h => (k σ h).bind fun ds h1 => match ds with
  | [.int i, .int j] => match okR i && okR j with
    | true => .ok (srcR i (j - i).toNat) h1
    | false => .bad
  | _ => .bad
theorem s_iR1 {a : Expr} {ka : MA} (hg : Gl X "range") (hm : X.mg "range" = none) (ha : PA X [a] (tA Z E ka)) (hs : starEach [a] X.env = [(false, eval a X.env)] := by rfl) : PI X tg (.Call (.Name "range" p) [a] [] pos) (tIM Z E (miR1 ka)) := (pi_range1 hg hm ha hs).imp fun τ H Q => by
  rintro ⟨ρ, σ, h, rep, rs, q⟩
  refine ⟨ρ, σ, h, rep, rs, Aft.bind q fun d h1 ρ1 H1 v e1 rep1 rv q1 => ?_⟩
  split at q1 <;> first | exact q1.elim | skip
  rename_i j
  split at q1 <;> first | exact q1.elim | skip
  rename_i ho
  cases rv with
  | cons r1 r2 =>
    cases r1; cases r2
    exact ⟨j, rfl, (okR_ok ho).1, (okR_ok ho).2, q1 ρ1 H1 _ Ext.refl rep1 jR⟩
theorem s_iR2 {a b : Expr} {ka : MA} (hg : Gl X "range") (hm : X.mg "range" = none) (ha : PA X [a, b] (tA Z E ka)) (hs : starEach [a, b] X.env = [(false, eval a X.env), (false, eval b X.env)] := by rfl) (hs2 : starEach [b] X.env = [(false, eval b X.env)] := by rfl) :
    PI X tg (.Call (.Name "range" p) [a, b] [] pos) (tIM Z E (miR2 ka)) := (pi_range2 hg hm ha hs hs2).imp fun τ H Q => by
  rintro ⟨ρ, σ, h, rep, rs, q⟩
  refine ⟨ρ, σ, h, rep, rs, Aft.bind q fun d h1 ρ1 H1 v e1 rep1 rv q1 => ?_⟩
  split at q1 <;> first | exact q1.elim | skip
  rename_i i j
  split at q1 <;> first | exact q1.elim | skip
  rename_i ho
  obtain ⟨ho1, ho2⟩ := Bool.and_eq_true_iff.mp ho
  cases rv with
  | cons r1 r2 =>
    cases r1
    cases r2 with
    | cons r2 r3 =>
      cases r2; cases r3
      exact ⟨i, j, rfl, ⟨(okR_ok ho1).1, (okR_ok ho1).2, (okR_ok ho2).1, (okR_ok ho2).2⟩, q1 ρ1 H1 _ Ext.refl rep1 jR⟩
/-! ### for -/
def forGo (src : Src) (g : MG) (body : MS) : Nat → Nat → MS
  | 0, _, _, _ => .bad
  | f + 1, k, σ, h => match src k h with
    | .stop => .nx σ h
    | .bad => .bad
    | .item d => match g d σ with
      | none => .bad
      | some σ1 => match body σ1 h with
        | .nx σ2 h2 => forGo src g body f (k + 1) σ2 h2
        | .ct σ2 h2 => forGo src g body f (k + 1) σ2 h2
        | .bk σ2 h2 => .nx σ2 h2
        | .rt d h2 => .rt d h2
        | .exn c ds h2 => .exn c ds h2
        | .bad => .bad
def turns : Nat := 1000000
def msFor (mi : MI) (g : MG) (body : MS) : MS := fun σ h => (mi σ h).bindS fun src h1 => forGo src g body turns 0 σ h1
theorem for_W {ρ0 : Nat → Addr} {n0 : Nat} {H0 : Hp} {src : Src} {J : It} {is : List Nat} {g : MG} {body : MS} {De : Ends} {τ0 : L2.St} (j : JOk Z ρ0 n0 H0 src J) {ρ : Nat → Addr} {σ : Loc} {h : Hm} (e0 : Ext ρ0 n0 H0 ρ h.n H0) (rep0 : Rep Z ρ h H0) (rs0 : RS Z ρ h.n H0 σ τ0) {f0 : Nat}
    (q0 : AftS Z ρ h H0 (forGo src g body f0 0 σ h) De E0) : ∃ W : Nat → Nat → L2.St → Hp → Prop, (∃ m, W 0 m τ0 H0) ∧ ∀ i m σ H, W i m σ H →
  (J.stop i H ∧ De.nx σ H) ∨ (J.go i H ∧ ∃ N : L2.St → Hp → Prop, (∀ σ' H', N σ' H' → ∃ m', m' < m ∧ W (i + 1) m' σ' H') ∧ ∀ x H', J.yld i H x H' → gM Z is g x σ H' fun σ2 H2 => tS Z (fun _ => E0) body { De with nx := N, ct := N, bk := De.nx } σ2 H2) := by
  refine ⟨fun k f τ H => ∃ ρ σ h, Ext ρ0 n0 H0 ρ h.n H ∧ Rep Z ρ h H ∧ RS Z ρ h.n H σ τ ∧ AftS Z ρ h H (forGo src g body f k σ h) De E0, ⟨f0, ρ, σ, h, e0, rep0, rs0, q0⟩, ?_⟩
  rintro k f τ H ⟨ρ, σ, h, e, rep, rs, q⟩
  cases f with
  | zero => exact q.elim
  | succ f =>
    have jk := j ρ h H e rep k
    unfold forGo at q
    cases z : src k h with
    | bad => rw [z] at q; exact q.elim
    | stop =>
      rw [z] at q jk
      exact .inl ⟨jk, q ρ H τ Ext.refl rep rs⟩
    | item d =>
      rw [z] at q jk
      refine .inr ⟨jk.1, fun τ' H' => ∃ ρ σ h, Ext ρ0 n0 H0 ρ h.n H' ∧ Rep Z ρ h H' ∧ RS Z ρ h.n H' σ τ' ∧ AftS Z ρ h H' (forGo src g body f (k + 1) σ h) De E0, fun τ' H' w => ⟨f, Nat.lt_succ_self _, w⟩, fun x H2 hy => ?_⟩
      obtain ⟨e2, rep2, rv⟩ := jk.2 x H2 hy
      have rs2 := rs.mono rep e2
      simp only at q
      refine ⟨ρ, h.n, d, σ, rs2, rv, ?_⟩
      cases z2 : g d σ with
      | none => rw [z2] at q; exact q.elim
      | some σ1 =>
        rw [z2] at q
        intro τ1 _ rs1
        refine ⟨ρ, σ1, h, rep2, rs1, ?_⟩
        have q := AftS.shift e2 q
        cases z3 : body σ1 h with
        | nx σ2 h2 =>
          simp only [z3] at q
          exact fun ρ' H' τ' e' r' rs' => ⟨ρ', σ2, h2, (e.trans e2).trans e', r', rs', AftS.shift e' q⟩
        | ct σ2 h2 =>
          simp only [z3] at q
          exact fun ρ' H' τ' e' r' rs' => ⟨ρ', σ2, h2, (e.trans e2).trans e', r', rs', AftS.shift e' q⟩
        | bk σ2 h2 => simp only [z3] at q; exact q
        | rt d h2 => simp only [z3] at q; exact q
        | exn c ds h2 => simp only [z3] at q; exact q
        | bad => simp only [z3] at q; exact q.elim
theorem s_for {iter : Expr} {body : List Stmt} {mi : MI} {is : List Nat} {g : MG} {mb : MS} (hp : PassesOwn (model X.prog X.w) X.A X.env X.xe) (hc : X.calm = true) (hi : PI X tg iter (tIM Z (fun _ => E0) mi)) (hg : PG X tg (gM Z is g)) (hb : PSs X body (tS Z (fun _ => E0) mb))
    (hs : ∀ x, foldedSetIterable iter X.env x = pure x := by intro _; rfl) : PS X (.For tg iter body [] pos) (tS Z (fun _ => E0) (msFor mi g mb)) := (ps_for hp hc hi hg hb hs).imp fun De τ H => by
  rintro ⟨ρ, σ, h, rep, rs, q⟩
  refine ⟨ρ, σ, h, rep, rs, AftS.bind q fun src h1 ρ1 H1 J e1 rep1 j q1 => ?_⟩
  exact for_W j Ext.refl rep1 (rs.mono rep e1) q1
/-! ### while -/
def whGo (c : MT) (body : MS) : Nat → MS
  | 0, _, _ => .bad
  | f + 1, σ, h => (c σ h).bindS fun b h1 => match b with
    | false => .nx σ h1
    | true => match body σ h1 with
      | .nx σ2 h2 => whGo c body f σ2 h2
      | .ct σ2 h2 => whGo c body f σ2 h2
      | .bk σ2 h2 => .nx σ2 h2
      | .rt d h2 => .rt d h2
      | .exn c ds h2 => .exn c ds h2
      | .bad => .bad
def msWhile (c : MT) (body : MS) : MS := fun σ h => whGo c body turns σ h
theorem s_while {c : Expr} {body : List Stmt} {mc : MT} {mb : MS} (hp : PassesOwn (model X.prog X.w) X.A X.env X.xe) (hc : PT X c (tT Z (fun _ => E0) mc)) (hb : PSs X body (tS Z (fun _ => E0) mb)) : PS X (.While c body [] pos) (tS Z (fun _ => E0) (msWhile mc mb)) := (ps_while hp hc hb).imp fun De τ H => by
  rintro ⟨ρ, σ, h, rep, rs, q⟩
  refine ⟨fun f τ H => ∃ ρ σ h, Rep Z ρ h H ∧ RS Z ρ h.n H σ τ ∧ AftS Z ρ h H (whGo mc mb f σ h) De E0, ⟨turns, ρ, σ, h, rep, rs, q⟩, ?_⟩
  rintro f τ H ⟨ρ, σ, h, rep, rs, q⟩
  cases f with
  | zero => exact q.elim
  | succ f =>
    unfold whGo at q
    refine ⟨ρ, σ, h, rep, rs, AftS.bind q fun b h1 ρ1 H1 b' e1 rep1 rb q1 => ?_⟩
    cases rb
    cases b with
    | false => exact iteF (q1 ρ1 H1 τ Ext.refl rep1 (rs.mono rep e1))
    | true =>
      refine iteT ⟨fun τ' H' => ∃ ρ σ h, Rep Z ρ h H' ∧ RS Z ρ h.n H' σ τ' ∧ AftS Z ρ h H' (whGo mc mb f σ h) De E0, fun τ' H' w => ⟨f, Nat.lt_succ_self _, w⟩, ρ1, σ, h1, rep1, rs.mono rep e1, ?_⟩
      simp only at q1
      cases z3 : mb σ h1 with
      | nx σ2 h2 =>
        simp only [z3] at q1
        exact fun ρ' H' τ' e' r' rs' => ⟨ρ', σ2, h2, r', rs', AftS.shift e' q1⟩
      | ct σ2 h2 =>
        simp only [z3] at q1
        exact fun ρ' H' τ' e' r' rs' => ⟨ρ', σ2, h2, r', rs', AftS.shift e' q1⟩
      | bk σ2 h2 => simp only [z3] at q1; exact q1
      | rt d h2 => simp only [z3] at q1; exact q1
      | exn c ds h2 => simp only [z3] at q1; exact q1
      | bad => simp only [z3] at q1; exact q1.elim
end
end
end Sm
namespace Sm
open PySem PySem.Spec PyProof.Rows L2
noncomputable section
section
variable {Z : Cz} {ρ ρ' : Nat → Addr} {n n' : Nat} {h h' : Hm} {H H' : Hp}
mutual
theorem RV.wk (le : n ≤ n') (same : ∀ i, i < n → ρ' i = ρ i) (tu : ∀ a vs, H a = some (.tup vs) → H' a = some (.tup vs)) : ∀ {d : D} {v : V}, RV Z ρ n H d v → RV Z ρ' n' H' d v
  | _, _, .non => .non
  | _, _, .bl b => .bl b
  | _, _, .int b => .int b
  | _, _, .str b => .str b
  | _, _, .tup s t => .tup (tu _ _ s) (RVs.wk le same tu t)
  | _, _, .ref (i := i) hi => by
    rw [← same i hi]
    exact .ref (Nat.lt_of_lt_of_le hi le)
  | _, _, .fn k => .fn k
  | _, _, .exc k => .exc k
theorem RVs.wk (le : n ≤ n') (same : ∀ i, i < n → ρ' i = ρ i) (tu : ∀ a vs, H a = some (.tup vs) → H' a = some (.tup vs)) : ∀ {d : List D} {v : List V}, RVs Z ρ n H d v → RVs Z ρ' n' H' d v
  | _, _, .nil => .nil
  | _, _, .cons s t => .cons (RV.wk le same tu s) (RVs.wk le same tu t)
end
theorem roWk (le : n ≤ n') (same : ∀ i, i < n → ρ' i = ρ i) (tu : ∀ a vs, H a = some (.tup vs) → H' a = some (.tup vs)) {a : Addr} (ha : ∀ u, H a = some u → H' a = some u) {o : O} (r : RO Z ρ n H a o) : RO Z ρ' n' H' a o := by
  cases o with
  | lst ds => obtain ⟨vs, e1, e2⟩ := r; exact ⟨vs, ha _ e1, e2.wk le same tu⟩
  | dK ds => obtain ⟨vs, e1, e2⟩ := r; exact ⟨vs, ha _ e1, Paired.mapP e2 fun a b z => ⟨z.1, z.2.wk le same tu⟩⟩
  | dT ds => obtain ⟨vs, e1, e2⟩ := r; exact ⟨vs, ha _ e1, Paired.mapP e2 fun a b z => ⟨z.1, z.2.wk le same tu⟩⟩
  | fK ds => obtain ⟨vs, ob, e1, e2⟩ := r; exact ⟨vs, ob, ha _ e1, Paired.mapP e2 fun a b z => ⟨z.1, z.2.wk le same tu⟩⟩
  | fT ds => obtain ⟨vs, ob, e1, e2⟩ := r; exact ⟨vs, ob, ha _ e1, Paired.mapP e2 fun a b z => ⟨z.1, z.2.wk le same tu⟩⟩
  | st ns => obtain ⟨S, e1, e2⟩ := r; exact ⟨S, ha _ e1, e2⟩
/-- an untracked list changes -/
theorem tu_upd {p : Addr} {us : List V} {u : HO} (hp : H p = some (.lst us)) : ∀ a vs, H a = some (.tup vs) → upd H p u a = some (.tup vs) := fun a vs e => by
  rw [upd_ne]
  · exact e
  · intro z; rw [z, hp] at e; cases e
theorem Rep.updOut (r : Rep Z ρ h H) {p : Addr} {us : List V} {u : HO} (hp : H p = some (.lst us)) (out : ∀ i, i < h.n → ρ i ≠ p) : Rep Z ρ h (upd H p u) :=
  ⟨r.inj, fun i hi => by
    obtain ⟨o, e, ro⟩ := r.obj i hi
    exact ⟨o, e, roWk (Nat.le_refl _) (fun _ _ => rfl) (tu_upd hp) (fun w hw => by rw [upd_ne (out i hi)]; exact hw) ro⟩,
    Z.pinm _ _ (fun b o w q => by
      rw [upd_ne]
      · exact q
      · intro z; rw [z, hp] at q; cases q) r.pin⟩
theorem Ext.updFree (e : Ext ρ n H ρ' n' H') {p : Addr} {u : HO} (hp : H p = none) : Ext ρ n H ρ' n' (upd H' p u) :=
  ⟨e.le, e.same, fun a o ha f => by rw [upd_ne (ne_of_none ha hp)]; exact e.out a o ha f, fun a ha => by
    by_cases z : a = p
    · rw [z]; exact hp
    · rw [upd_ne z] at ha; exact e.dom a ha, e.new, fun b o w q => by rw [upd_ne (ne_of_none q hp)]; exact e.frz b o w q⟩
theorem Rep.notin (r : Rep Z ρ h H) {p : Addr} (hp : H p = none) : ∀ i, i < h.n → ρ i ≠ p := fun i hi z => by
  obtain ⟨o, _, ro⟩ := r.obj i hi
  obtain ⟨u, hu, _⟩ := ro.some
  rw [z, hp] at hu; cases hu
theorem Ext.notin (e : Ext ρ n H ρ' n' H') {p : Addr} {u : HO} (hp : H p = some u) (out : ∀ i, i < n → ρ i ≠ p) : ∀ i, i < n' → ρ' i ≠ p := fun i hi z => by
  by_cases hn : i < n
  · exact out i hn ((e.same i hn).symm.trans z)
  · have := e.new i (by omega) hi
    rw [z, hp] at this; cases this
/-- a temporary list comes to be one of the heap's -/
theorem Rep.adopt (r : Rep Z ρ h H) {p : Addr} {ds : List D} {vs : List V} (hp : H p = some (.lst vs)) (rv : RVs Z ρ h.n H ds vs) (out : ∀ i, i < h.n → ρ i ≠ p) :
    Rep Z (fun i => if i = h.n then p else ρ i) (h.push (.lst ds)) H := by
  have same : ∀ i, i < h.n → (fun i => if i = h.n then p else ρ i) i = ρ i := fun i hi => if_neg (by omega)
  refine ⟨fun i j hi hj e => ?_, fun i hi => ?_, r.pin⟩
  · have hi' : i < h.n + 1 := hi
    have hj' : j < h.n + 1 := hj
    have e' : (if i = h.n then p else ρ i) = (if j = h.n then p else ρ j) := e
    by_cases h1 : i = h.n <;> by_cases h2 : j = h.n
    · rw [h1, h2]
    · rw [if_pos h1, if_neg h2] at e'
      exact absurd e'.symm (out j (by omega))
    · rw [if_neg h1, if_pos h2] at e'
      exact absurd e' (out i (by omega))
    · rw [if_neg h1, if_neg h2] at e'
      exact r.inj i j (by omega) (by omega) e'
  · have hi' : i < h.n + 1 := hi
    by_cases h1 : i = h.n
    · subst h1
      refine ⟨_, Hm.get_push_same _ _, ?_⟩
      show RO Z _ (h.n + 1) _ (if h.n = h.n then p else ρ h.n) _
      rw [if_pos rfl]
      exact ⟨vs, hp, rv.wk (Nat.le_succ _) same fun _ _ z => z⟩
    · obtain ⟨o', e', ro'⟩ := r.obj i (by omega)
      refine ⟨o', (Hm.get_push_ne (Ne.symm h1)).trans e', ?_⟩
      show RO Z _ (h.n + 1) _ (if i = h.n then p else ρ i) o'
      rw [if_neg h1]
      exact roWk (Nat.le_succ _) same (fun _ _ z => z) (fun _ z => z) ro'
end
/-! ### temporary lists -/
abbrev ML := Loc → Hm → R (List D)
def AftT (Z : Cz) (ρ : Nat → Addr) (n : Nat) (H : Hp) (r : R (List D)) (Q : VK) (E : XK) : Prop := match r with
  | .ok ds h' => ∀ ρ' H' p vs, Ext ρ n H ρ' h'.n H' → Rep Z ρ' h' H' → H' p = some (.lst vs) → RVs Z ρ' h'.n H' ds vs → (∀ i, i < h'.n → ρ' i ≠ p) → H p = none → Q (.ref p) H'
  | .exn c ds h' => ∀ ρ' H' cl dd, Ext ρ n H ρ' h'.n H' → Rep Z ρ' h' H' → RX Z ρ' h'.n H' c ds cl dd → E cl dd H'
  | .bad => False
def tTmp (Z : Cz) (E : L2.St → XK) (m : ML) : TE := fun τ H Q => ∃ ρ σ h, Rep Z ρ h H ∧ RS Z ρ h.n H σ τ ∧ AftT Z ρ h.n H (m σ h) Q (E τ)
def mAlloc (m : ML) : ME := fun σ h => (m σ h).bind fun ds h1 => .ok (.ref h1.n) (h1.push (.lst ds))
theorem AftT.shift {Z : Cz} {ρ ρ1 : Nat → Addr} {n n1 : Nat} {H H1 : Hp} {r : R (List D)} {Q : VK} {E : XK} (e : Ext ρ n H ρ1 n1 H1) (q : AftT Z ρ n H r Q E) : AftT Z ρ1 n1 H1 r Q E := by
  cases r with
  | ok a h' => exact fun ρ' H' p vs e' r' l rv o f => q ρ' H' p vs (e.trans e') r' l rv o (e.dom p f)
  | exn c ds h' => exact fun ρ' H' b dd e' r' l => q ρ' H' b dd (e.trans e') r' l
  | bad => exact q
theorem AftT.bind {Z : Cz} {α β : Type} {rl : Rl α β} {ρ : Nat → Addr} {h : Hm} {H : Hp} {r : R α} {k : α → Hm → R (List D)} {Q : VK} {E : XK} {Q1 : β → Hp → Prop} (q : AftT Z ρ h.n H (r.bind k) Q E)
    (go : ∀ a h1 ρ1 H1 b, Ext ρ h.n H ρ1 h1.n H1 → Rep Z ρ1 h1 H1 → rl ρ1 h1.n H1 a b → AftT Z ρ1 h1.n H1 (k a h1) Q E → Q1 b H1) : Aft Z rl ρ h H r Q1 E := by
  cases r with
  | ok a h' => exact fun ρ' H' b e' r' l => go a h' ρ' H' b e' r' l (AftT.shift e' q)
  | exn c ds h' => exact q
  | bad => exact q
section
variable {X : Cx} {Z : Cz} {E : L2.St → XK} {pos p : Pos} {e : Expr} {m : ML}
theorem alloc_imp : ∀ τ H Q, tE Z E (mAlloc m) τ H Q → tTmp Z E m τ H Q := fun τ H Q => by
  rintro ⟨ρ, σ, h, rep, rs, q⟩
  refine ⟨ρ, σ, h, rep, rs, ?_⟩
  unfold mAlloc at q
  cases z : m σ h with
  | bad => rw [z] at q; exact q
  | exn c ds h' => rw [z] at q; exact q
  | ok ds h1 =>
    rw [z] at q
    intro ρ' H' p vs ex rep' hp rv out fr
    have := q (fun i => if i = h1.n then p else ρ' i) H' (.ref ((fun i => if i = h1.n then p else ρ' i) h1.n)) ⟨Nat.le_succ_of_le ex.le, fun i hi => by
        have : i < h1.n := Nat.lt_of_lt_of_le hi ex.le
        show (if i = h1.n then p else ρ' i) = ρ i
        rw [if_neg (by omega)]
        exact ex.same i hi, ex.out, ex.dom, fun i h1' h2' => by
        show H (if i = h1.n then p else ρ' i) = none
        by_cases hi : i = h1.n
        · rw [if_pos hi]; exact fr
        · rw [if_neg hi]
          have h2'' : i < h1.n + 1 := h2'
          exact ex.new i h1' (by omega), ex.frz⟩ (rep'.adopt hp rv out) (.ref (Nat.lt_succ_self _))
    rwa [show (fun i => if i = h1.n then p else ρ' i) h1.n = p from if_pos rfl] at this
theorem s_alloc (pe : PE X e (tTmp Z E m)) : PE X e (tE Z E (mAlloc m)) := pe.imp alloc_imp
/-- what is read from a temporary list, or from any -/
def mItems (m : ME) : ML := fun σ h => (m σ h).bind fun d h1 => match d with
  | .ref i => match h1.get i with
    | some (.lst xs) => .ok xs h1
    | _ => .bad
  | .tup xs => .ok xs h1
  | _ => .bad
/-! ### comprehensions -/
def noE : L2.St → XK := fun _ _ _ _ => False
def wipeM (σ : Loc) : List Nat → Loc
  | [] => σ
  | v :: vs => (wipeM σ vs).set v none
theorem wipeM_rs {ρ : Nat → Addr} {n : Nat} {H : Hp} {σ : Loc} {τ : L2.St} (rs : RS Z ρ n H σ τ) : ∀ vs, RS Z ρ n H (wipeM σ vs) (wipe τ vs)
  | [] => rs
  | v :: vs => by
    obtain ⟨l, g⟩ := wipeM_rs rs vs
    refine ⟨by unfold wipeM wipe; rw [List.length_set, List.length_set]; exact l, fun i d e => ?_⟩
    unfold wipeM at e
    unfold wipe
    by_cases hv : v = i
    · subst hv
      by_cases hl : v < (wipeM σ vs).length
      · rw [List.getElem?_set_self hl] at e; cases e
      · rw [List.getElem?_eq_none (by rw [List.length_set]; omega)] at e; cases e
    · rw [List.getElem?_set_ne hv] at e
      rw [List.getElem?_set_ne hv]
      exact g i d e
theorem wipe_in {τ : L2.St} {i : Nat} : ∀ {vs : List Nat}, i ∈ vs → i < τ.length → (wipe τ vs)[i]? = some none
  | [], h, _ => by cases h
  | v :: vs, h, hl => by
    unfold wipe
    by_cases hv : v = i
    · subst hv
      exact List.getElem?_set_self (by rw [wipe_length]; exact hl)
    · rw [List.getElem?_set_ne hv]
      rcases List.mem_cons.mp h with z | z
      · exact absurd z.symm hv
      · exact wipe_in z hl
theorem wipe_ag {is vs : List Nat} {τ τ' : L2.St} (a : Ag is (wipe τ vs) τ') (sub : ∀ j ∈ is, j ∈ vs) : wipe τ' vs = wipe τ vs := by
  have hl : τ'.length = τ.length := by rw [a.1, wipe_length]
  apply List.ext_getElem?
  intro j
  by_cases hj : j ∈ vs
  · by_cases hlt : j < τ.length
    · rw [wipe_in hj (by omega), wipe_in hj hlt]
    · rw [List.getElem?_eq_none (by rw [wipe_length]; omega), List.getElem?_eq_none (by rw [wipe_length]; omega)]
  · rw [wipe_out hj, a.2 j fun z => hj (sub j z)]
def lcGo (src : Src) (g : MG) (tst : MT) (elt : ME) (σ : Loc) : Nat → Nat → List D → Hm → R (List D)
  | 0, _, _, _ => .bad
  | f + 1, k, acc, h => match src k h with
    | .stop => .ok acc.reverse h
    | .bad => .bad
    | .item d => match g d σ with
      | none => .bad
      | some σ1 => match tst σ1 h with
        | .ok true h1 => match elt σ1 h1 with
          | .ok y h2 => lcGo src g tst elt σ f (k + 1) (y :: acc) h2
          | _ => .bad
        | .ok false h1 => lcGo src g tst elt σ f (k + 1) acc h1
        | _ => .bad
def turnsL : Nat := 100000
def mLc (mi : MI) (g : MG) (tst : MT) (elt : ME) (vs : List Nat) : ML := fun σ h => (mi σ h).bind fun src h1 => lcGo src g tst elt (wipeM σ vs) turnsL 0 [] h1
def mYes : MT := fun _ h => .ok true h
theorem sts_nil : PTs X [] (tT Z E mYes) := ⟨fun pins s σ H Q I q => by
  obtain ⟨ρ, σm, h, rep, rs, q⟩ := q
  exact pts_nil.run pins s σ H Q I (q ρ H true Ext.refl rep rfl)⟩
theorem sts_one {c : Expr} {mt : MT} (h : PT X c (tT Z E mt)) : PTs X [c] (tT Z E mt) := pts_one h
theorem lc_imp {mi : MI} {is : List Nat} {g : MG} {mt : MT} {me : ME} {own : List (Str × Nat)} (sub : ∀ j ∈ is, j ∈ own.map (·.2)) : ∀ τ H Q, tTmp Z E (mLc mi g mt me (own.map (·.2))) τ H Q → tLc (tIM Z E mi) (gM Z is g) (tT Z noE mt) (tE Z noE me) (own.map (·.2)) τ H Q := fun τ H Q => by
  rintro ⟨ρ, σ, h, rep, rs, q⟩
  refine ⟨ρ, σ, h, rep, rs, ?_⟩
  unfold mLc at q
  cases zi : mi σ h with
  | bad => rw [zi] at q; exact q
  | exn c ds h' => rw [zi] at q; exact q
  | ok src h1 =>
    rw [zi] at q
    have q : AftT Z ρ h.n H (lcGo src g mt me (wipeM σ (own.map (·.2))) turnsL 0 [] h1) Q (E τ) := q
    intro ρ1 H1 J e1 rep1 j D hD
    have rsw := wipeM_rs (rs.mono rep e1) (own.map (·.2))
    refine ⟨fun k f H2 => ∃ ρ2 h2 acc vs, Ext ρ1 h1.n H1 ρ2 h2.n H2 ∧ Rep Z ρ2 h2 H2 ∧ RS Z ρ2 h2.n H2 (wipeM σ (own.map (·.2))) (wipe τ (own.map (·.2))) ∧ H2 D = some (.lst vs) ∧ RVs Z ρ2 h2.n H2 acc.reverse vs ∧ (∀ i, i < h2.n → ρ2 i ≠ D) ∧ acc.length + f ≤ 100000 ∧
      AftT Z ρ h.n H (lcGo src g mt me (wipeM σ (own.map (·.2))) f k acc h2) Q (E τ), ⟨turnsL, ?_⟩, ?_⟩
    · obtain ⟨ea, ra⟩ := rep1.aside (u := .lst []) hD
      exact ⟨ρ1, h1, [], [], ea, ra, rsw.mono rep1 ea, upd_same, .nil, rep1.notin hD, Nat.le_refl _, q⟩
    · rintro k f H2 ⟨ρ2, h2, acc, vs, e2, rep2, rs2, hD2, rv2, out2, len2, q2⟩
      cases f with
      | zero => exact q2.elim
      | succ f =>
        have jk := j ρ2 h2 H2 e2 rep2 k
        unfold lcGo at q2
        cases z : src k h2 with
        | bad => rw [z] at q2; exact q2.elim
        | stop =>
          rw [z] at q2 jk
          exact .inl ⟨jk, q2 ρ2 H2 D vs (e1.trans e2) rep2 hD2 rv2 out2 (e1.dom D hD)⟩
        | item d =>
          rw [z] at q2 jk
          refine .inr ⟨jk.1, fun H3 => ∃ ρ2 h2 acc vs, Ext ρ1 h1.n H1 ρ2 h2.n H3 ∧ Rep Z ρ2 h2 H3 ∧ RS Z ρ2 h2.n H3 (wipeM σ (own.map (·.2))) (wipe τ (own.map (·.2))) ∧ H3 D = some (.lst vs) ∧ RVs Z ρ2 h2.n H3 acc.reverse vs ∧ (∀ i, i < h2.n → ρ2 i ≠ D) ∧ acc.length + f ≤ 100000 ∧
            AftT Z ρ h.n H (lcGo src g mt me (wipeM σ (own.map (·.2))) f (k + 1) acc h2) Q (E τ), fun H3 w => ⟨f, Nat.lt_succ_self _, w⟩, fun x H3 hy => ?_⟩
          obtain ⟨e3, rep3, rv3⟩ := jk.2 x H3 hy
          have rs3 := rs2.mono rep2 e3
          have hD3 := e3.out D _ hD2 out2
          have rvv3 := rv2.mono rep2 e3
          simp only at q2
          refine ⟨ρ2, h2.n, d, _, rs3, rv3, ?_⟩
          cases z2 : g d (wipeM σ (own.map (·.2))) with
          | none => rw [z2] at q2; exact q2.elim
          | some σ1 =>
            rw [z2] at q2
            intro τ1 ag rs1
            refine ⟨wipe_ag ag sub, ρ2, σ1, h2, rep3, rs1, ?_⟩
            simp only at q2
            cases z3 : mt σ1 h2 with
            | bad => rw [z3] at q2; exact q2.elim
            | exn c ds h' => rw [z3] at q2; exact q2.elim
            | ok b h4 =>
              rw [z3] at q2
              intro ρ4 H4 b' e4 rep4 rb
              cases rb
              have hD4 := e4.out D _ hD3 out2
              have out4 := e4.notin hD3 out2
              cases b with
              | false =>
                refine iteF ⟨ρ4, h4, acc, vs, (e2.trans e3).trans e4, rep4, rs3.mono rep3 e4, hD4, rvv3.mono rep3 e4, out4, by omega, q2⟩
              | true =>
                refine iteT ⟨ρ4, σ1, h4, rep4, rs1.mono rep3 e4, ?_⟩
                simp only at q2
                cases z5 : me σ1 h4 with
                | bad => rw [z5] at q2; exact q2.elim
                | exn c ds h' => rw [z5] at q2; exact q2.elim
                | ok y h5 =>
                  rw [z5] at q2
                  intro ρ5 H5 w e5 rep5 rw5
                  have hD5 := e5.out D _ hD4 out4
                  have out5 := e5.notin hD4 out4
                  have rv5 := (rvv3.mono rep3 e4).mono rep4 e5
                  refine ⟨vs, hD5, ?_, ρ5, h5, y :: acc, vs ++ [w], ?_⟩
                  · rw [← rv5.length, List.length_reverse]
                    exact Nat.lt_of_le_of_lt (show acc.length ≤ 100000 by omega) (by decide)
                  · have tu := tu_upd (u := .lst (vs ++ [w])) hD5
                    refine ⟨(((e2.trans e3).trans e4).trans e5).updFree hD, rep5.updOut hD5 out5, ?_, upd_same, ?_, out5, by rw [List.length_cons]; omega, q2⟩
                    · obtain ⟨l, g⟩ := ((rs3.mono rep3 e4).mono rep4 e5)
                      exact ⟨l, fun i d e => let ⟨v, a, b⟩ := g i d e; ⟨v, a, b.wk (Nat.le_refl _) (fun _ _ => rfl) tu⟩⟩
                    · rw [List.reverse_cons]
                      exact (rv5.wk (Nat.le_refl _) (fun _ _ => rfl) tu).append (.cons (rw5.wk (Nat.le_refl _) (fun _ _ => rfl) tu) .nil)
theorem s_lc {elt tg iter : Expr} {ifs : List Expr} {scope : Scope} {own : List (Str × Nat)} {mi : MI} {is : List Nat} {g : MG} {mt : MT} {me : ME} (hc : X.calm = true) (hN : X.N.Nodup) (hi : PI X tg iter (tIM Z E mi)) (ok : BlkOk X.N X.env.scope scope own)
    (hg : ∀ (s : Shared) (H : Hp) (C : Addr) (cl : List (Str × Addr)) (fp : List Addr), PG (X.blk s H scope (compEnvC scope cl C X.env) fp) tg (gM Z is g)) (ht : ∀ (s : Shared) (H : Hp) (C : Addr) (cl : List (Str × Addr)) (fp : List Addr), PTs (X.blk s H scope (compEnvC scope cl C X.env) fp) ifs (tT Z noE mt))
    (he : ∀ (s : Shared) (H : Hp) (C : Addr) (cl : List (Str × Addr)) (fp : List Addr), PE (X.blk s H scope (compEnvC scope cl C X.env) fp) elt (tE Z noE me)) (sub : ∀ j ∈ is, j ∈ own.map (·.2) := by decide) (hs : ∀ x, foldedSetIterable iter X.env x = pure x := by intro _; rfl) :
    PE X (.ListComp elt [⟨tg, iter, ifs, 0⟩] scope pos) (tTmp Z E (mLc mi g mt me (own.map (·.2)))) := (pe_lc hc hN hi ok hg ht he hs).imp (lc_imp sub)
/-- the whole comprehension stored under a name -/
theorem s_setLc {i : Nat} {y : Str} {py : Pos} {elt tg iter : Expr} {ifs : List Expr} {scope : Scope} {own : List (Str × Nat)} {spos : Pos} {E0 : XK} {mi : MI} {is : List Nat} {g : MG} {mt : MT} {me : ME} (hc : X.calm = true) (hN : X.N.Nodup) (hy : X.N[i]? = some y) (hyl : X.env.scope.names.lookup y = some .local)
    (hsw : swapsWith (.ListComp elt [⟨tg, iter, ifs, 0⟩] scope pos) (some (.Name y py)) spos.line X.env = pure true) (hi : PI X tg iter (tIM Z (fun _ => E0) mi)) (ok : BlkOk X.N X.env.scope scope own)
    (hg : ∀ (s : Shared) (H : Hp) (C : Addr) (cl : List (Str × Addr)) (fp : List Addr), PG (X.blk s H scope (compEnvC scope cl C X.env) fp) tg (gM Z is g)) (ht : ∀ (s : Shared) (H : Hp) (C : Addr) (cl : List (Str × Addr)) (fp : List Addr), PTs (X.blk s H scope (compEnvC scope cl C X.env) fp) ifs (tT Z noE mt))
    (he : ∀ (s : Shared) (H : Hp) (C : Addr) (cl : List (Str × Addr)) (fp : List Addr), PE (X.blk s H scope (compEnvC scope cl C X.env) fp) elt (tE Z noE me)) (sub : ∀ j ∈ is, j ∈ own.map (·.2) := by decide) (hs : ∀ x, foldedSetIterable iter X.env x = pure x := by intro _; rfl) :
    PS X (.Assign [.Name y py] (.ListComp elt [⟨tg, iter, ifs, 0⟩] scope pos) spos) (tS Z (fun _ => E0) (msAsg (mAlloc (mLc mi g mt me (own.map (·.2)))) (gmName i))) :=
  (ps_setLc hc hN hy hyl hsw hi ok hg ht he hs).imp fun De τ H q => by
    refine lc_imp (E := fun _ => E0) sub τ H _ (alloc_imp τ H _ ?_)
    obtain ⟨ρ, σ, h, rep, rs, q⟩ := q
    refine ⟨ρ, σ, h, rep, rs, AftS.bind q fun d h1 ρ1 H1 v e1 rep1 rv q1 => ?_⟩
    exact q1 ρ1 H1 _ Ext.refl rep1 ((rs.mono rep e1).setR rv)
end
end
end Sm
namespace Sm
open PySem PySem.Spec PyProof.Rows L2
noncomputable section
/-! ### calls of built-ins -/
abbrev FL := List D → Hm → R D
def CS (Z : Cz) (r : List V → Hp → VK → Prop) (f : FL) : Prop := ∀ (ρ : Nat → Addr) (h : Hm) (H : Hp) (ds : List D) (vs : List V) (Q : VK) (E : XK), Rep Z ρ h H → RVs Z ρ h.n H ds vs → Aft Z (rlV Z) ρ h H (f ds h) Q E → r vs H Q
def mCB (f : FL) (k : MA) : ME := fun σ h => (k σ h).bind fun ds h1 => f ds h1
section
variable {X : Cx} {Z : Cz} {E : L2.St → XK} {pos p : Pos} {x : Str} {e : Expr} {es : List Expr} {ka : MA} {r : List V → Hp → VK → Prop} {f : FL}
theorem cb_of (s : CS Z r f) {τ : L2.St} {H : Hp} {Q : VK} (q : tE Z E (mCB f ka) τ H Q) : tCB r (tA Z E ka) τ H Q := by
  obtain ⟨ρ, σ, h, rep, rs, q⟩ := q
  refine ⟨ρ, σ, h, rep, rs, Aft.bind q fun d h1 ρ1 H1 v e1 rep1 rv q1 => ?_⟩
  exact s ρ1 h1 H1 d v Q _ rep1 rv q1
theorem s_cb {id : String} (hc : CallR X (.builtin id) r) (s : CS Z r f) (hg : Gl X x) (hm : X.mg x = none) (hv : bootBuiltins x = some (.builtin id)) (ha : PA X (e :: es) (tA Z E ka)) (hn : x ≠ "__name__" := by decide) (hdb : (x == ("__debug__" : Str)) = false := by decide)
    (he : starEach (e :: es) X.env = (false, eval e X.env) :: starEach es X.env := by rfl) (hpl : (backTo pos (starEach es X.env)).any (·.1) = false := by rfl) : PE X (.Call (.Name x p) (e :: es) [] pos) (tE Z E (mCB f ka)) :=
  (pe_callB hc hg hm hv ha hn hdb he hpl).imp fun τ H Q q => cb_of s q
theorem s_cty {T : String} (hc : CallR X (.type T) r) (s : CS Z r f) (hg : Gl X x) (hm : X.mg x = none) (hv : bootBuiltins x = some (.type T)) (ha : PA X (e :: es) (tA Z E ka)) (hn : x ≠ "__name__" := by decide) (hdb : (x == ("__debug__" : Str)) = false := by decide)
    (he : starEach (e :: es) X.env = (false, eval e X.env) :: starEach es X.env := by rfl) (hpl : (backTo pos (starEach es X.env)).any (·.1) = false := by rfl) : PE X (.Call (.Name x p) (e :: es) [] pos) (tE Z E (mCB f ka)) :=
  (pe_callTy hc hg hm hv ha hn hdb he hpl).imp fun τ H Q q => cb_of s q
/-- the items of a list or tuple -/
def items (h : Hm) : D → Option (List D)
  | .ref i => match h.get i with
    | some (.lst xs) => some xs
    | _ => none
  | .tup xs => some xs
  | _ => none
theorem items_ok {ρ : Nat → Addr} {h : Hm} {H : Hp} {d : D} {v : V} {xs : List D} (rep : Rep Z ρ h H) (rv : RV Z ρ h.n H d v) (e : items h d = some xs) : ∃ a vs, v = .ref a ∧ RVs Z ρ h.n H xs vs ∧ ((H a = some (.lst vs) ∧ ∃ i, d = .ref i) ∨ (H a = some (.tup vs) ∧ d = .tup xs)) := by
  cases rv <;> first | cases e | skip
  · rename_i a vs s t
    exact ⟨a, vs, rfl, t, .inr ⟨s, rfl⟩⟩
  · rename_i i hi
    simp only [items] at e
    split at e <;> first | cases e | skip
    rename_i ee
    obtain ⟨vs, a1, a2⟩ := rep.lst hi ee
    exact ⟨ρ i, vs, rfl, a2, .inl ⟨a1, i, rfl⟩⟩
/-- len -/
def fLen : FL := fun ds h => match ds with
  | [.str x] => match small x.length with
    | true => .ok (.int (Int.ofNat x.length)) h
    | false => .bad
  | [d] => match items h d with
    | some xs => .ok (.int (Int.ofNat (lenR xs))) h
    | none => .bad
  | _ => .bad
def rLenM (K : PySem.W.Frag) : List V → Hp → VK → Prop := fun xs H Q => ∃ x n, xs = [x] ∧ LenV K x H n ∧ Q (.int n) H
theorem cs_len : CS Z (rLenM Z.K) fLen := by
  intro ρ h H ds vs Q E rep rv q
  unfold fLen at q
  split at q
  · rename_i x
    cases rv with
    | cons r1 r2 =>
      cases r1; cases r2
      split at q <;> first | exact q.elim | skip
      rename_i sm
      exact ⟨_, x.length, rfl, ⟨small_ok sm, rfl⟩, q ρ H _ Ext.refl rep (.int _)⟩
  · rename_i d _
    cases rv with
    | cons r1 r2 =>
      cases r2
      split at q <;> first | exact q.elim | skip
      rename_i xs ee
      rw [lenR_eq] at q
      obtain ⟨a, ws, rfl, rvs, hc⟩ := items_ok rep r1 ee
      refine ⟨_, xs.length, rfl, ?_, q ρ H _ Ext.refl rep (.int _)⟩
      rcases hc with ⟨hc, _⟩ | ⟨hc, _⟩
      · exact .inl ⟨ws, SqL.of hc, rvs.length⟩
      · exact .inr ⟨ws, SqT.of hc, rvs.length⟩
  · exact q.elim
/-- abs, int -/
def fAbs : FL := fun ds h => match ds with
  | [.int i] => .ok (.int (if i < 0 then -i else i)) h
  | _ => .bad
theorem cs_abs : CS Z (fun xs H Q => ∃ i, xs = [.int i] ∧ Q (.int (if i < 0 then -i else i)) H) fAbs := by
  intro ρ h H ds vs Q E rep rv q
  unfold fAbs at q
  split at q <;> first | exact q.elim | skip
  rename_i i
  cases rv with
  | cons r1 r2 =>
    cases r1; cases r2
    exact ⟨i, rfl, q ρ H _ Ext.refl rep (.int _)⟩
def fInt : FL := fun ds h => match ds with
  | [.int i] => .ok (.int i) h
  | [.bl k] => .ok (.int (if k then 1 else 0)) h
  | _ => .bad
theorem cs_int : CS Z (fun xs H Q => (∃ i, xs = [.int i] ∧ Q (.int i) H) ∨ ∃ k, xs = [.bl k] ∧ Q (.int (if k then 1 else 0)) H) fInt := by
  intro ρ h H ds vs Q E rep rv q
  unfold fInt at q
  split at q <;> first | exact q.elim | skip
  · rename_i i
    cases rv with
    | cons r1 r2 =>
      cases r1; cases r2
      exact .inl ⟨i, rfl, q ρ H _ Ext.refl rep (.int _)⟩
  · rename_i i
    cases rv with
    | cons r1 r2 =>
      cases r1; cases r2
      exact .inr ⟨i, rfl, q ρ H _ Ext.refl rep (.int _)⟩
/-- tuple(x), list(x) -/
def fTuple : FL := fun ds h => match ds with
  | [d] => match items h d with
    | some xs => .ok (.tup xs) h
    | none => .bad
  | _ => .bad
theorem cs_tuple : CS Z (fun xs H Q => ∃ p ys, xs = [.ref p] ∧ ((SqL Z.K H p ys ∧ ∀ l, H l = none → Q (.ref l) (upd H l (.tup ys))) ∨ (SqT Z.K H p ys ∧ Q (.ref p) H))) fTuple := by
  intro ρ h H ds vs Q E rep rv q
  unfold fTuple at q
  split at q <;> first | exact q.elim | skip
  rename_i d
  cases rv with
  | cons r1 r2 =>
    cases r2
    split at q <;> first | exact q.elim | skip
    rename_i xs ee
    obtain ⟨a, ws, rfl, rvs, hc⟩ := items_ok rep r1 ee
    refine ⟨a, ws, rfl, ?_⟩
    rcases hc with ⟨hc, _⟩ | ⟨hc, ed⟩
    · exact .inl ⟨SqL.of hc, fun l hl => new_tup rep rvs q hl⟩
    · exact .inr ⟨SqT.of hc, q ρ H _ Ext.refl rep (.tup hc rvs)⟩
def fList : FL := fun ds h => match ds with
  | [d] => match items h d with
    | some xs => .ok (.ref h.n) (h.push (.lst xs))
    | none => .bad
  | _ => .bad
theorem cs_list : CS Z (fun xs H Q => ∃ p ys, xs = [.ref p] ∧ (SqL Z.K H p ys ∨ SqT Z.K H p ys) ∧ ∀ l, H l = none → Q (.ref l) (upd H l (.lst ys))) fList := by
  intro ρ h H ds vs Q E rep rv q
  unfold fList at q
  split at q <;> first | exact q.elim | skip
  rename_i d
  cases rv with
  | cons r1 r2 =>
    cases r2
    split at q <;> first | exact q.elim | skip
    rename_i xs ee
    obtain ⟨a, ws, rfl, rvs, hc⟩ := items_ok rep r1 ee
    refine ⟨a, ws, rfl, ?_, fun l hl => new_lst rep rvs q hl⟩
    rcases hc with ⟨hc, _⟩ | ⟨hc, ed⟩
    · exact .inl (SqL.of hc)
    · exact .inr (SqT.of hc)
/-- all, any of a list of bools -/
def allB : List D → Option Bool
  | [] => some true
  | .bl b :: r => match allB r with
    | some c => some (b && c)
    | none => none
  | _ => none
def anyB : List D → Option Bool
  | [] => some false
  | .bl b :: r => match anyB r with
    | some c => some (b || c)
    | none => none
  | _ => none
theorem allB_ok {ρ : Nat → Addr} {n : Nat} {H : Hp} : ∀ {ds : List D} {vs : List V} {b : Bool}, RVs Z ρ n H ds vs → allB ds = some b → ∃ bs : List Bool, vs = bs.map V.bl ∧ bs.all id = b
  | _, _, _, .nil, e => by cases e; exact ⟨[], rfl, rfl⟩
  | _, _, _, .cons (d := d) (ds := r) r1 r2, e => by
    cases d <;> first | cases e | skip
    rename_i k
    cases r1
    simp only [allB] at e
    split at e <;> first | cases e | skip
    rename_i c ec
    obtain ⟨bs, e1, e2⟩ := allB_ok r2 ec
    exact ⟨k :: bs, by rw [e1]; rfl, by rw [List.all_cons, e2]; rfl⟩
theorem anyB_ok {ρ : Nat → Addr} {n : Nat} {H : Hp} : ∀ {ds : List D} {vs : List V} {b : Bool}, RVs Z ρ n H ds vs → anyB ds = some b → ∃ bs : List Bool, vs = bs.map V.bl ∧ bs.any id = b
  | _, _, _, .nil, e => by cases e; exact ⟨[], rfl, rfl⟩
  | _, _, _, .cons (d := d) (ds := r) r1 r2, e => by
    cases d <;> first | cases e | skip
    rename_i k
    cases r1
    simp only [anyB] at e
    split at e <;> first | cases e | skip
    rename_i c ec
    obtain ⟨bs, e1, e2⟩ := anyB_ok r2 ec
    exact ⟨k :: bs, by rw [e1]; rfl, by rw [List.any_cons, e2]; rfl⟩
/-- a built-in upon one temporary list -/
def CT (Z : Cz) (r : List V → Hp → VK → Prop) (f : List D → Hm → R D) : Prop := ∀ (ρ : Nat → Addr) (h : Hm) (H : Hp) (p : Addr) (ds : List D) (vs : List V) (Q : VK) (E : XK), Rep Z ρ h H → RVs Z ρ h.n H ds vs → H p = some (.lst vs) → Aft Z (rlV Z) ρ h H (f ds h) Q E → r [.ref p] H Q
def mCT (f : List D → Hm → R D) (m : ML) : ME := fun σ h => (m σ h).bind fun ds h1 => f ds h1
variable {m : ML}
theorem ct_of (s : CT Z r f) {τ : L2.St} {H : Hp} {Q : VK} (q : tE Z E (mCT f m) τ H Q) : tTmp Z E m τ H fun x H1 => r [x] H1 Q := by
  obtain ⟨ρ, σ, h, rep, rs, q⟩ := q
  refine ⟨ρ, σ, h, rep, rs, ?_⟩
  unfold mCT at q
  cases z : m σ h with
  | bad => rw [z] at q; exact q
  | exn c ds h' => rw [z] at q; exact q
  | ok ds h1 =>
    rw [z] at q
    exact fun ρ' H' p vs ex rep' hp rv out fr => s ρ' h1 H' p ds vs Q _ rep' rv hp (Aft.shift ex q)
theorem s_cbT {id : String} (hc : CallR X (.builtin id) r) (s : CT Z r f) (hg : Gl X x) (hm : X.mg x = none) (hv : bootBuiltins x = some (.builtin id)) (ha : PE X e (tTmp Z E m)) (hn : x ≠ "__name__" := by decide) (hdb : (x == ("__debug__" : Str)) = false := by decide)
    (he : starEach [e] X.env = (false, eval e X.env) :: starEach [] X.env := by rfl) : PE X (.Call (.Name x p) [e] [] pos) (tE Z E (mCT f m)) :=
  (pe_callB hc hg hm hv (pa_cons ha pa_nil he) hn hdb he (by rfl)).imp fun τ H Q q => ct_of s q
theorem s_ctyT {T : String} (hc : CallR X (.type T) r) (s : CT Z r f) (hg : Gl X x) (hm : X.mg x = none) (hv : bootBuiltins x = some (.type T)) (ha : PE X e (tTmp Z E m)) (hn : x ≠ "__name__" := by decide) (hdb : (x == ("__debug__" : Str)) = false := by decide)
    (he : starEach [e] X.env = (false, eval e X.env) :: starEach [] X.env := by rfl) : PE X (.Call (.Name x p) [e] [] pos) (tE Z E (mCT f m)) :=
  (pe_callTy hc hg hm hv (pa_cons ha pa_nil he) hn hdb he (by rfl)).imp fun τ H Q q => ct_of s q
def gAll : List D → Hm → R D := fun ds h => match allB ds with
  | some b => .ok (.bl b) h
  | none => .bad
theorem ct_all : CT Z (rAll Z.K) gAll := by
  intro ρ h H p ds vs Q E rep rv hp q
  unfold gAll at q
  split at q <;> first | exact q.elim | skip
  rename_i b eb
  obtain ⟨bs, e1, e2⟩ := allB_ok rv eb
  subst e1
  exact ⟨p, bs, rfl, SqL.of hp, by rw [e2]; exact q ρ H _ Ext.refl rep (.bl _)⟩
def gAny : List D → Hm → R D := fun ds h => match anyB ds with
  | some b => .ok (.bl b) h
  | none => .bad
theorem ct_any : CT Z (rAny Z.K) gAny := by
  intro ρ h H p ds vs Q E rep rv hp q
  unfold gAny at q
  split at q <;> first | exact q.elim | skip
  rename_i b eb
  obtain ⟨bs, e1, e2⟩ := anyB_ok rv eb
  subst e1
  exact ⟨p, bs, rfl, SqL.of hp, by rw [e2]; exact q ρ H _ Ext.refl rep (.bl _)⟩
def gTuple : List D → Hm → R D := fun ds h => .ok (.tup ds) h
theorem ct_tuple : CT Z (fun xs H Q => ∃ p ys, xs = [.ref p] ∧ ((SqL Z.K H p ys ∧ ∀ l, H l = none → Q (.ref l) (upd H l (.tup ys))) ∨ (SqT Z.K H p ys ∧ Q (.ref p) H))) gTuple := by
  intro ρ h H p ds vs Q E rep rv hp q
  exact ⟨p, vs, rfl, .inl ⟨SqL.of hp, fun l hl => new_tup rep rv q hl⟩⟩
/-- ints of data -/
def intsD : List D → Option (List Int)
  | [] => some []
  | .int i :: r => match intsD r with
    | some c => some (i :: c)
    | none => none
  | _ => none
theorem intsD_ok {ρ : Nat → Addr} {n : Nat} {H : Hp} : ∀ {ds : List D} {vs : List V} {b : List Int}, RVs Z ρ n H ds vs → intsD ds = some b → vs = b.map V.int
  | _, _, _, .nil, e => by cases e; rfl
  | _, _, _, .cons (d := d) (ds := r) r1 r2, e => by
    cases d <;> first | cases e | skip
    rename_i k
    cases r1
    simp only [intsD] at e
    split at e <;> first | cases e | skip
    rename_i c ec
    rw [intsD_ok r2 ec]
    rfl
def sumI : List Int → Int
  | [] => 0
  | x :: r => x + sumI r
theorem sumI_eq : ∀ l, sumI l = List.sum l
  | [] => rfl
  | x :: r => by rw [List.sum_cons, ← sumI_eq r]; rfl
/-- sum of a list or a tuple of ints -/
def rSumM (K : PySem.W.Frag) : List V → Hp → VK → Prop := fun vs H Q => ∃ (a : Addr) (ns : List Int), vs = [V.ref a] ∧ (SqL K H a (ns.map V.int) ∨ SqT K H a (ns.map V.int)) ∧ Q (.int ns.sum) H
theorem cr_sumM (hc : X.calm = true) : CallR X (.builtin "sum") (rSumM X.K) := by
  intro pins s σ H vs us Q I r h
  obtain ⟨a, ns, rfl, hs, q⟩ := h
  rcases hs with hs | hs
  · exact cr_sum hc pins s σ H _ us Q I r ⟨a, ns, rfl, hs, q⟩
  · obtain ⟨its, rv, hl, _⟩ := I.tuple hs
    rw [Vals.ref1 r]
    have hi := rv.ints
    obtain ⟨xs, hx⟩ := hi.allInts.items
    have hn : numsOf its.toArray.toList = ns := by rw [show its.toArray.toList = its from rfl, hi.numsOf]
    have hl : s.heap.IsTuple a its.toArray := hl
    rw [hx] at hl hn
    rw [nums_intItems] at hn
    refine PySem.W.ktm_sumG (I.ok.hd hc) hl fun h' tk t' hk => ⟨.int ns.sum, H, I.kept hk, ⟨t', ?_⟩, q⟩
    rw [preSum_eq, List.take_of_length_le (by simp), hn]
def fSum : FL := fun ds h => match ds with
  | [d] => match items h d with
    | some xs => match intsD xs with
      | some ns => .ok (.int (sumI ns)) h
      | none => .bad
    | none => .bad
  | _ => .bad
theorem cs_sum : CS Z (rSumM Z.K) fSum := by
  intro ρ h H ds vs Q E rep rv q
  unfold fSum at q
  split at q <;> first | exact q.elim | skip
  rename_i d
  cases rv with
  | cons r1 r2 =>
    cases r2
    split at q <;> first | exact q.elim | skip
    rename_i xs ee
    split at q <;> first | exact q.elim | skip
    rename_i ns en
    obtain ⟨a, ws, rfl, rvs, hc⟩ := items_ok rep r1 ee
    have ew := intsD_ok rvs en
    subst ew
    have := q ρ H _ Ext.refl rep (.int _)
    rw [sumI_eq] at this
    refine ⟨a, ns, rfl, ?_, this⟩
    rcases hc with ⟨hc, _⟩ | ⟨hc, ed⟩
    · exact .inl (SqL.of hc)
    · exact .inr (SqT.of hc)
def gSum : List D → Hm → R D := fun xs h => match intsD xs with
  | some ns => .ok (.int (sumI ns)) h
  | none => .bad
theorem ct_sum : CT Z (rSumM Z.K) gSum := by
  intro ρ h H p ds vs Q E rep rv hp q
  unfold gSum at q
  split at q <;> first | exact q.elim | skip
  rename_i ns en
  have ew := intsD_ok rv en
  subst ew
  have := q ρ H _ Ext.refl rep (.int _)
  rw [sumI_eq] at this
  exact ⟨p, ns, rfl, .inl (SqL.of hp), this⟩
/-- min, max of a list or tuple of ints -/
def minI : Int → List Int → Int
  | m, [] => m
  | m, x :: r => match decide (x < m) with
    | true => minI x r
    | false => minI m r
def maxI : Int → List Int → Int
  | m, [] => m
  | m, x :: r => match decide (m < x) with
    | true => maxI x r
    | false => maxI m r
theorem minI_ok : ∀ (l : List Int) (m : Int), minI m l ∈ m :: l ∧ ∀ y ∈ m :: l, minI m l ≤ y
  | [], m => by simp [minI]
  | x :: r, m => by
    unfold minI
    cases e : decide (x < m) with
    | true =>
      have hx := of_decide_eq_true e
      obtain ⟨h1, h2⟩ := minI_ok r x
      refine ⟨List.mem_cons_of_mem _ h1, fun y hy => ?_⟩
      rcases List.mem_cons.mp hy with z | z
      · have := h2 x List.mem_cons_self
        show minI x r ≤ y
        omega
      · exact h2 y z
    | false =>
      have hx := of_decide_eq_false e
      obtain ⟨h1, h2⟩ := minI_ok r m
      refine ⟨?_, fun y hy => ?_⟩
      · rcases List.mem_cons.mp h1 with z | z
        · show minI m r ∈ m :: x :: r
          rw [z]; exact List.mem_cons_self
        · exact List.mem_cons_of_mem _ (List.mem_cons_of_mem _ z)
      · have hm := h2 m List.mem_cons_self
        show minI m r ≤ y
        rcases List.mem_cons.mp hy with z | z
        · omega
        · rcases List.mem_cons.mp z with z | z
          · omega
          · exact h2 y (List.mem_cons_of_mem _ z)
end
end
end Sm
namespace Sm
open PySem PySem.Spec PyProof.Rows L2
noncomputable section
/-! ### sorted -/
section
variable {γ δ : Type}
def insK (le : PyData → PyData → Bool) (x : PyData × γ) : List (PyData × γ) → List (PyData × γ)
  | [] => [x]
  | y :: l => match le x.1 y.1 with
    | true => x :: y :: l
    | false => y :: insK le x l
def isK (le : PyData → PyData → Bool) : List (PyData × γ) → List (PyData × γ)
  | [] => []
  | x :: l => insK le x (isK le l)
theorem insK_perm {le : PyData → PyData → Bool} (x : PyData × γ) : ∀ l, (insK le x l).Perm (x :: l)
  | [] => .refl _
  | y :: l => by
    unfold insK
    cases le x.1 y.1 with
    | true => exact .refl _
    | false => exact ((insK_perm x l).cons y).trans (.swap x y l)
theorem insK_mem {le : PyData → PyData → Bool} {x z : PyData × γ} {l : List (PyData × γ)} (h : z ∈ insK le x l) : z = x ∨ z ∈ l := List.mem_cons.mp ((insK_perm x l).mem_iff.mp h)
theorem insK_sorted {le : PyData → PyData → Bool} (T : PySem.W.TotalLe (fun a b : PyData × γ => le a.1 b.1)) (x : PyData × γ) : ∀ l : List (PyData × γ), l.Pairwise (fun a b => le a.1 b.1 = true) → (insK le x l).Pairwise (fun a b => le a.1 b.1 = true)
  | [], _ => List.pairwise_singleton _ _
  | y :: l, h => by
    have h2 := List.pairwise_cons.mp h
    unfold insK
    cases e : le x.1 y.1 with
    | true =>
      refine List.pairwise_cons.mpr ⟨fun z hz => ?_, h⟩
      rcases List.mem_cons.mp hz with q | q
      · rw [q]; exact e
      · exact T.trans x y z e (h2.1 z q)
    | false =>
      refine List.pairwise_cons.mpr ⟨fun z hz => ?_, insK_sorted T x l h2.2⟩
      rcases insK_mem hz with q | q
      · rw [q]
        rcases T.total x y with t | t
        · have t : le x.1 y.1 = true := t
          rw [e] at t; cases t
        · exact t
      · exact h2.1 z q
theorem insK_filter {le : PyData → PyData → Bool} (T : PySem.W.TotalLe (fun a b : PyData × γ => le a.1 b.1)) (x c : PyData × γ) : ∀ l : List (PyData × γ), l.Pairwise (fun a b => le a.1 b.1 = true) →
    (insK le x l).filter (PySem.W.sameRank (fun a b => le a.1 b.1) c) = (x :: l).filter (PySem.W.sameRank (fun a b => le a.1 b.1) c)
  | [], _ => rfl
  | y :: l, h => by
    have h2 := List.pairwise_cons.mp h
    unfold insK
    cases e : le x.1 y.1 with
    | true => rfl
    | false =>
      show (y :: insK le x l).filter _ = _
      rw [List.filter_cons, insK_filter T x c l h2.2]
      cases ey : PySem.W.sameRank (fun a b : PyData × γ => le a.1 b.1) c y with
      | false => simp [List.filter_cons, ey]
      | true =>
        cases ex : PySem.W.sameRank (fun a b : PyData × γ => le a.1 b.1) c x with
        | false => simp [List.filter_cons, ey, ex]
        | true =>
          exfalso
          unfold PySem.W.sameRank at ex ey
          obtain ⟨a1, a2⟩ := Bool.and_eq_true_iff.mp ex
          obtain ⟨b1, b2⟩ := Bool.and_eq_true_iff.mp ey
          have := T.trans x c y a2 b1
          have this : le x.1 y.1 = true := this
          rw [e] at this; cases this
theorem isK_ok {le : PyData → PyData → Bool} (T : PySem.W.TotalLe (fun a b : PyData × γ => le a.1 b.1)) : ∀ l : List (PyData × γ), (isK le l).Pairwise (fun a b => le a.1 b.1 = true) ∧ ∀ c, (isK le l).filter (PySem.W.sameRank (fun a b => le a.1 b.1) c) = l.filter (PySem.W.sameRank (fun a b => le a.1 b.1) c)
  | [] => ⟨.nil, fun _ => rfl⟩
  | x :: l => by
    obtain ⟨h1, h2⟩ := isK_ok T l
    refine ⟨insK_sorted T x _ h1, fun c => ?_⟩
    show (insK le x (isK le l)).filter _ = _
    rw [insK_filter T x c _ h1, List.filter_cons, List.filter_cons, h2 c]
theorem isK_merge {le : PyData → PyData → Bool} (T : PySem.W.TotalLe (fun a b : PyData × γ => le a.1 b.1)) (l : List (PyData × γ)) : isK le l = l.mergeSort (fun a b => le a.1 b.1) :=
  PySem.W.sort_unique T (isK_ok T l).1 (isK_ok T l).2
theorem insK_paired {le : PyData → PyData → Bool} {F : γ → δ → Prop} {x : PyData × γ} {y : PyData × δ} (hx : x.1 = y.1 ∧ F x.2 y.2) : ∀ {l : List (PyData × γ)} {m : List (PyData × δ)}, Paired (fun a b => a.1 = b.1 ∧ F a.2 b.2) l m → Paired (fun a b => a.1 = b.1 ∧ F a.2 b.2) (insK le x l) (insK le y m)
  | _, _, .nil => .cons hx .nil
  | _, _, .cons (a := a) (b := b) r t => by
    unfold insK
    rw [hx.1, r.1]
    cases le y.1 b.1 with
    | true => exact .cons hx (.cons r t)
    | false => exact .cons r (insK_paired hx t)
theorem isK_paired {le : PyData → PyData → Bool} {F : γ → δ → Prop} : ∀ {l : List (PyData × γ)} {m : List (PyData × δ)}, Paired (fun a b => a.1 = b.1 ∧ F a.2 b.2) l m → Paired (fun a b => a.1 = b.1 ∧ F a.2 b.2) (isK le l) (isK le m)
  | _, _, .nil => .nil
  | _, _, .cons r t => insK_paired r (isK_paired t)
end
def leData (p q : PyData) : Bool := !PyProof.Rows.lexLt PyProof.Rows.itemOrd (PySem.W.keyToks q) (PySem.W.keyToks p)
theorem leData_total {γ : Type} : PySem.W.TotalLe (fun a b : PyData × γ => leData a.1 b.1) := PySem.W.sortLe_total (PyProof.Rows.listOrd PyProof.Rows.itemOrd) false (fun a : PyData × γ => PySem.W.keyToks a.1)
def alikeTo (p : PyData) : List PyData → Bool
  | [] => true
  | q :: r => match PySem.W.alike p q with
    | true => alikeTo p r
    | false => false
def allAl (all : List PyData) : List PyData → Bool
  | [] => true
  | q :: r => match alikeTo q all with
    | true => allAl all r
    | false => false
theorem alikeTo_ok {p : PyData} : ∀ {l : List PyData}, alikeTo p l = true → ∀ q ∈ l, PySem.W.alike p q = true
  | [], _, q, h => by cases h
  | x :: l, e, q, h => by
    unfold alikeTo at e
    cases z : PySem.W.alike p x with
    | false => rw [z] at e; cases e
    | true =>
      rw [z] at e
      rcases List.mem_cons.mp h with t | t
      · rw [t]; exact z
      · exact alikeTo_ok e q t
theorem allAl_ok {all : List PyData} : ∀ {l : List PyData}, allAl all l = true → ∀ p ∈ l, ∀ q ∈ all, PySem.W.alike p q = true
  | [], _, q, h => by cases h
  | x :: l, e, q, h => by
    unfold allAl at e
    cases z : alikeTo x all with
    | false => rw [z] at e; cases e
    | true =>
      rw [z] at e
      rcases List.mem_cons.mp h with t | t
      · rw [t]; exact alikeTo_ok z
      · exact allAl_ok e q t
def isTupNe : PyData → Bool
  | .tuple (_ :: _) => true
  | _ => false
def isAtomic : PyData → Bool
  | .tuple _ => false
  | .none => false
  | _ => true
def allP (f : PyData → Bool) : List PyData → Bool
  | [] => true
  | x :: r => match f x with
    | true => allP f r
    | false => false
theorem allP_ok {f : PyData → Bool} : ∀ {l : List PyData}, allP f l = true → ∀ q ∈ l, f q = true
  | [], _, q, h => by cases h
  | x :: l, e, q, h => by
    unfold allP at e
    cases z : f x with
    | false => rw [z] at e; cases e
    | true =>
      rw [z] at e
      rcases List.mem_cons.mp h with t | t
      · rw [t]; exact z
      · exact allP_ok e q t
def sortableB (l : List PyData) : Bool := allP SeqAt.shaped l && (allAl l l && (allP isTupNe l || allP isAtomic l))
theorem sortableB_ok {l : List PyData} (h : sortableB l = true) : (∀ d ∈ l, SeqAt.shaped d = true) ∧ PySem.W.AllAlike l ∧ PySem.W.Sortable l := by
  obtain ⟨h1, h2⟩ := Bool.and_eq_true_iff.mp h
  obtain ⟨h2, h3⟩ := Bool.and_eq_true_iff.mp h2
  refine ⟨allP_ok h1, fun d hd e he => allAl_ok h2 d hd e he, ?_⟩
  rcases Bool.or_eq_true_iff.mp h3 with z | z
  · refine .inl fun d hd => ?_
    have := allP_ok z d hd
    unfold isTupNe at this
    split at this
    · exact ⟨_, _, rfl⟩
    · cases this
  · refine .inr fun d hd => ?_
    have := allP_ok z d hd
    unfold isAtomic at this
    split at this
    · cases this
    · cases this
    · rename_i a b
      exact ⟨b, a⟩
def keyed (h : Hm) : List D → Option (List (PyData × D))
  | [] => some []
  | d :: r => match toPy h 60 d with
    | some p => match keyed h r with
      | some l => some ((p, d) :: l)
      | none => none
    | none => none
def mapK {γ : Type} : List (PyData × γ) → List PyData
  | [] => []
  | x :: r => x.1 :: mapK r
theorem mapK_eq {γ : Type} : ∀ l : List (PyData × γ), mapK l = l.map (·.1)
  | [] => rfl
  | x :: r => by rw [List.map_cons, ← mapK_eq r]; rfl
def mapS {γ : Type} : List (PyData × γ) → List γ
  | [] => []
  | x :: r => x.2 :: mapS r
theorem mapS_eq {γ : Type} : ∀ l : List (PyData × γ), mapS l = l.map (·.2)
  | [] => rfl
  | x :: r => by rw [List.map_cons, ← mapS_eq r]; rfl
def sortD (h : Hm) (ds : List D) : Option (List D) := match keyed h ds with
  | some l => match sortableB (mapK l) with
    | true => some (mapS (isK leData l))
    | false => none
  | none => none
def rSortM (K : PySem.W.Frag) : List V → Hp → VK → Prop := fun vs H Q => ∃ (a : Addr) (ts : List (PyData × V)), vs = [V.ref a] ∧ SqL K H a (ts.map (·.2)) ∧ (∀ t ∈ ts, Dp K H t.2 t.1) ∧ sortableB (ts.map (·.1)) = true ∧
  ∀ p, H p = none → Q (.ref p) (upd H p (.lst ((isK leData ts).map (·.2))))
section
variable {X : Cx} {Z : Cz}
theorem cr_sortM (hu : X.A.units + 70 < cLine) : CallR X (.builtin "sorted") (rSortM X.K) := by
  intro pins s σ H vs us Q I r h
  obtain ⟨a, ts, rfl, hs, hd, hb, q⟩ := h
  obtain ⟨its, rv, hl, hz⟩ := I.list hs
  rw [Vals.ref1 r]
  obtain ⟨b1, b2, b3⟩ := sortableB_ok hb
  have ew : ∀ {ts : List (PyData × V)} {its : List Value}, Vals (ts.map (·.2)) its → PySem.W.EachIs (fun v (t : PyData × V) => RelV t.2 v) its ts := by
    intro ts
    induction ts with
    | nil => intro its x; cases x; exact .nil
    | cons t r ih =>
      intro its x
      cases x with
      | cons x1 x2 => exact .cons x1 (ih x2)
  have e := ew rv
  have lens : ts.length = its.length := by rw [← rv.length, List.length_map]
  have er : PySem.W.EachIs (fun v (t : PyData × V) => ∃ as, Reads s.heap v t.1 as) its ts := (PySem.W.each_mem e).mono fun v t ⟨x, m⟩ => Dp.reads I t.1 t.2 v (hd t m) x
  refine PySem.W.sorted_data (enc := fun t : PyData × V => t.1) (R := fun v t => RelV t.2 v) hl.isList e er b2 b3 (by rw [List.length_map] at hz; exact hz) (fun t ht => ?_) fun out ol eo => ?_
  · have := b1 t.1 (List.mem_map_of_mem ht)
    unfold SeqAt.shaped at this
    have d64 := of_decide_eq_true (Bool.and_eq_true_iff.mp this).2
    omega
  · have eq : ts.mergeSort (PySem.W.dataLe false (fun t : PyData × V => t.1)) = isK leData ts := (isK_merge leData_total ts).symm
    rw [eq] at eo
    have vo : ∀ {l : List (PyData × V)} {out : List Value}, PySem.W.EachIs (fun v (t : PyData × V) => RelV t.2 v) out l → Vals (l.map (·.2)) out := by
      intro l
      induction l with
      | nil => intro out x; cases x; exact .nil
      | cons t r ih =>
        intro out x
        cases x with
        | cons x1 x2 => exact .cons x1 (ih x2)
    have vo := vo eo
    obtain ⟨ep, he'⟩ := PyProof.Rows.sortedAll_at s.heap its out.toArray
    exact ⟨.ref _, upd H (s.heap.objs.size + 1) (.lst ((isK leData ts).map (·.2))), I.laid (t' := s.toks) (fun _ _ => PyProof.Rows.sortedAll_old) (Nat.le_succ _) ⟨by rw [vo.length, ol, lens, ← rv.length]; exact hz, out, ep, vo, he'⟩, rfl, q _ (I.hok.fresh (Nat.le_succ _))⟩
theorem keyed_ok {ρ : Nat → Addr} {h : Hm} {H : Hp} (rep : Rep Z ρ h H) : ∀ {ds : List D} {vs : List V} {l : List (PyData × D)}, RVs Z ρ h.n H ds vs → keyed h ds = some l → ∃ ts : List (PyData × V), ts.map (·.2) = vs ∧ Paired (fun a b => a.1 = b.1 ∧ RV Z ρ h.n H a.2 b.2) l ts ∧ ∀ t ∈ ts, Dp Z.K H t.2 t.1
  | _, _, _, .nil, e => by cases e; exact ⟨[], rfl, .nil, fun t h => by cases h⟩
  | _, _, _, .cons (d := d) (v := v) (ds := ds) r t, e => by
    unfold keyed at e
    cases e1 : toPy h 60 d with
    | none => rw [e1] at e; cases e
    | some p =>
      rw [e1] at e
      cases e2 : keyed h ds with
      | none => simp only [e2] at e; cases e
      | some l =>
        simp only [e2] at e
        cases e
        obtain ⟨ts, h1, h2, h3⟩ := keyed_ok rep t e2
        refine ⟨(p, v) :: ts, by rw [List.map_cons, h1], .cons ⟨rfl, r⟩ h2, fun x hx => ?_⟩
        rcases List.mem_cons.mp hx with z | z
        · rw [z]; exact toPy_ok rep _ _ _ _ r e1
        · exact h3 x z
theorem sortD_ok {ρ : Nat → Addr} {h : Hm} {H : Hp} (rep : Rep Z ρ h H) {ds ds' : List D} {vs : List V} (rv : RVs Z ρ h.n H ds vs) (e : sortD h ds = some ds') : ∃ ts : List (PyData × V), ts.map (·.2) = vs ∧ (∀ t ∈ ts, Dp Z.K H t.2 t.1) ∧ sortableB (ts.map (·.1)) = true ∧ RVs Z ρ h.n H ds' ((isK leData ts).map (·.2)) := by
  unfold sortD at e
  cases e1 : keyed h ds with
  | none => rw [e1] at e; cases e
  | some l =>
    rw [e1] at e
    simp only at e
    cases e2 : sortableB (mapK l) with
    | false => rw [e2] at e; cases e
    | true =>
      rw [e2] at e
      cases e
      obtain ⟨ts, h1, h2, h3⟩ := keyed_ok rep rv e1
      refine ⟨ts, h1, h3, ?_, ?_⟩
      · have : ∀ {l : List (PyData × D)} {ts : List (PyData × V)}, Paired (fun a b => a.1 = b.1 ∧ RV Z ρ h.n H a.2 b.2) l ts → l.map (·.1) = ts.map (·.1) := fun {l ts} p => by
          induction p with
          | nil => rfl
          | cons a b ih => rw [List.map_cons, List.map_cons, ih, a.1]
        rw [← this h2, ← mapK_eq]
        exact e2
      · rw [mapS_eq]
        have : ∀ {l : List (PyData × D)} {ts : List (PyData × V)}, Paired (fun a b => a.1 = b.1 ∧ RV Z ρ h.n H a.2 b.2) l ts → RVs Z ρ h.n H (l.map (·.2)) (ts.map (·.2)) := fun {l ts} p => by
          induction p with
          | nil => exact .nil
          | cons a b ih => exact .cons a.2 ih
        exact this (isK_paired h2)
/-- sorted of a list that stands; of a temporary one -/
def fSorted : FL := fun ds h => match ds with
  | [.ref i] => match h.get i with
    | some (.lst xs) => match sortD h xs with
      | some ys => .ok (.ref h.n) (h.push (.lst ys))
      | none => .bad
    | _ => .bad
  | _ => .bad
theorem cs_sorted : CS Z (rSortM Z.K) fSorted := by
  intro ρ h H ds vs Q E rep rv q
  unfold fSorted at q
  split at q <;> first | exact q.elim | skip
  rename_i i
  cases rv with
  | cons r1 r2 =>
    cases r1; cases r2
    rename_i hi
    split at q <;> first | exact q.elim | skip
    rename_i xs ee
    split at q <;> first | exact q.elim | skip
    rename_i ys es
    obtain ⟨ws, a1, a2⟩ := rep.lst hi ee
    obtain ⟨ts, h1, h2, h3, h4⟩ := sortD_ok rep a2 es
    exact ⟨ρ i, ts, rfl, by rw [h1]; exact SqL.of a1, h2, h3, fun p hp => new_lst rep h4 q hp⟩
def gSorted : List D → Hm → R D := fun xs h => match sortD h xs with
  | some ys => .ok (.ref h.n) (h.push (.lst ys))
  | none => .bad
theorem ct_sorted : CT Z (rSortM Z.K) gSorted := by
  intro ρ h H p ds vs Q E rep rv hp q
  unfold gSorted at q
  split at q <;> first | exact q.elim | skip
  rename_i ys es
  obtain ⟨ts, h1, h2, h3, h4⟩ := sortD_ok rep rv es
  exact ⟨p, ts, rfl, by rw [h1]; exact SqL.of hp, h2, h3, fun p hp => new_lst rep h4 q hp⟩
end
end
end Sm
namespace Sm
open PySem PySem.Spec PyProof.Rows L2
noncomputable section
section
variable {X : Cx} {Z : Cz} {E : L2.St → XK} {pos p : Pos}
/-! ### < of ints and of tuples of ints -/
def fLtM : F2 := fun d e h => match d, e with
  | .int i, .int j => .ok (.bl (decide (i < j))) h
  | .tup xs, .tup ys => match intsD xs, intsD ys with
    | some ns, some ms => .ok (.bl (HT.lexLt ns ms)) h
    | _, _ => .bad
  | _, _ => .bad
theorem op_ltM (hu : X.A.units < cLine) : OpR X (compareOp .Lt) (fun x y H Q => rI0 (fun i j => .bl (decide (i < j))) x y H Q ∨ rLtT X.K x y H Q) := op_lt.or (op_ltT hu)
theorem s2_ltM : S2 Z (fun x y H Q => rI0 (fun i j => .bl (decide (i < j))) x y H Q ∨ rLtT Z.K x y H Q) fLtM := by
  intro ρ h H d e v w Q E rep rv rw q
  unfold fLtM at q
  split at q
  · cases rv; cases rw
    exact .inl ⟨_, _, rfl, rfl, q ρ H _ Ext.refl rep (.bl _)⟩
  · rename_i xs ys
    cases rv with
    | tup s t =>
      cases rw with
      | tup s' t' =>
        split at q <;> first | exact q.elim | skip
        rename_i ns ms e1 e2
        have w1 := intsD_ok t e1
        have w2 := intsD_ok t' e2
        subst w1 w2
        exact .inr ⟨_, _, ns, ms, rfl, rfl, SqT.of s, SqT.of s', q ρ H _ Ext.refl rep (.bl _)⟩
  · exact q.elim
/-! ### slices -/
def ixO (n d : Nat) : Option Int → Nat
  | none => d
  | some i => match i with
    | .ofNat k => match Nat.ble k n with
      | true => k
      | false => n
    | .negSucc k => n - (k + 1)
theorem ixO_eq (n d : Nat) (o : Option Int) : ixO n d o = HT.sIx n d o := by
  cases o with
  | none => rfl
  | some i =>
    cases i with
    | ofNat k =>
      rw [show HT.sIx n d (some (Int.ofNat k)) = min k n from HT.sIx_nat n d k]
      show (match Nat.ble k n with | true => k | false => n) = _
      cases z : Nat.ble k n with
      | true =>
        have := Nat.le_of_ble_eq_true z
        show k = min k n
        omega
      | false =>
        have : ¬ k ≤ n := fun q => by rw [Nat.ble_eq_true_of_le q] at z; cases z
        show n = min k n
        omega
    | negSucc k =>
      have h := HT.clip_eq (Int.negSucc k) n d
      rw [if_pos (by omega)] at h
      show n - (k + 1) = HT.sIx n d (some (Int.negSucc k))
      omega
def cutD (xs : List D) (lo hi : Option Int) : List D := (xs.drop (ixO xs.length 0 lo)).take (ixO xs.length xs.length hi - ixO xs.length 0 lo)
theorem cutD_ok {ρ : Nat → Addr} {n : Nat} {H : Hp} {xs : List D} {vs : List V} (r : RVs Z ρ n H xs vs) (lo hi : Option Int) : RVs Z ρ n H (cutD xs lo hi) (cutV vs lo hi) := by
  unfold cutD cutV
  rw [ixO_eq, ixO_eq, r.length]
  exact (r.drop _).take _
abbrev MO := Loc → Hm → R (Option Int)
def moNone : MO := fun _ h => .ok none h
def moSome (m : ME) : MO := fun σ h => (m σ h).bind fun d h1 => match d with
  | .int i => .ok (some i) h1
  | _ => .bad
theorem _root_.L2.PO.imp {e : Option Expr} {t t' : TO} (p : PO X e t) (w : ∀ σ H Q, t' σ H Q → t σ H Q) : PO X e t' := ⟨fun pins s σ H Q I q => p.run pins s σ H Q I (w σ H Q q)⟩
abbrev tO (Z : Cz) (E : L2.St → XK) (m : MO) : TO := tM Z rlO E m
theorem so_none : PO X none (tO Z E moNone) := po_none.imp fun τ H Q => by
  rintro ⟨ρ, σ, h, rep, rs, q⟩
  exact q ρ H none Ext.refl rep rfl
theorem so_some {e : Expr} {m : ME} (pe : PE X e (tE Z E m)) : PO X (some e) (tO Z E (moSome m)) := (po_some pe).imp fun τ H Q => by
  rintro ⟨ρ, σ, h, rep, rs, q⟩
  refine ⟨ρ, σ, h, rep, rs, Aft.bind q fun d h1 ρ1 H1 v e1 rep1 rv q1 => ?_⟩
  cases d <;> first | exact q1.elim | skip
  cases rv
  exact ⟨_, rfl, q1 ρ1 H1 _ Ext.refl rep1 rfl⟩
def fSl (d : D) (lo hi : Option Int) (h : Hm) : R D := match d with
  | .ref i => match h.get i with
    | some (.lst xs) => .ok (.ref h.n) (h.push (.lst (cutD xs lo hi)))
    | _ => .bad
  | .tup xs => .ok (.tup (cutD xs lo hi)) h
  | _ => .bad
def mSl (m : ME) (lo hi : MO) : ME := fun σ h => (m σ h).bind fun d h1 => (lo σ h1).bind fun l h2 => (hi σ h2).bind fun u h3 => fSl d l u h3
theorem s_sl {e : Expr} {lo hi : Option Expr} {m : ME} {ml mh : MO} {p2 : Pos} (hK : X.K = Z.K) (pe : PE X e (tE Z E m)) (pl : PO X lo (tO Z E ml)) (ph : PO X hi (tO Z E mh)) : PE X (.Subscript e (.Slice lo hi none p2) pos) (tE Z E (mSl m ml mh)) :=
  (pe_slice (sl_list.or sl_tupA) pe pl ph).imp fun τ H Q => by
    rintro ⟨ρ, σ, h, rep, rs, q⟩
    refine ⟨ρ, σ, h, rep, rs, Aft.bind q fun d h1 ρ1 H1 v e1 rep1 rv q1 => ?_⟩
    refine ⟨ρ1, σ, h1, rep1, rs.mono rep e1, Aft.bind q1 fun l h2 ρ2 H2 l' e2 rep2 rl q2 => ?_⟩
    cases rl
    refine ⟨ρ2, σ, h2, rep2, (rs.mono rep e1).mono rep1 e2, Aft.bind q2 fun u h3 ρ3 H3 u' e3 rep3 ru q3 => ?_⟩
    cases ru
    have rv3 := (rv.mono rep1 e2).mono rep2 e3
    unfold fSl at q3
    cases rv3 <;> first | exact q3.elim | skip
    · rename_i a xs vs s t
      refine .inr ⟨a, vs, rfl, SqT.of s, ?_⟩
      refine ⟨fun hw => ?_, fun hw p hp => new_tup rep3 (cutD_ok t l u) q3 hp⟩
      have : cutD xs l u = xs := by
        unfold cutD
        rw [ixO_eq, ixO_eq, t.length, hw.1, hw.2, List.drop_zero, ← t.length, Nat.sub_zero, List.take_length]
      simp only [this] at q3
      exact q3 ρ3 H3 _ Ext.refl rep3 (.tup s t)
    · rename_i i hi3
      simp only at q3
      split at q3 <;> first | exact q3.elim | skip
      rename_i xs ee
      obtain ⟨vs, a1, a2⟩ := rep3.lst hi3 ee
      exact .inl ⟨ρ3 i, vs, rfl, SqL.of a1, fun p hp => new_lst rep3 (cutD_ok a2 l u) q3 hp⟩
/-! ### list(range(..)) -/
def rgD (a : Int) : Nat → List D
  | 0 => []
  | n + 1 => .int a :: rgD (a + 1) n
theorem rgD_ok {ρ : Nat → Addr} {n : Nat} {H : Hp} : ∀ (k : Nat) (a : Int), RVs Z ρ n H (rgD a k) ((List.range k).map fun i => V.int (a + (i : Nat)))
  | 0, _ => .nil
  | k + 1, a => by
    rw [List.range_succ_eq_map, List.map_cons, List.map_map]
    refine .cons (by rw [show a + ((0 : Nat) : Int) = a from by simp]; exact .int a) ?_
    have := rgD_ok (ρ := ρ) (n := n) (H := H) k (a + 1)
    have e : ((fun i : Nat => V.int (a + (i : Nat))) ∘ Nat.succ) = fun i : Nat => V.int (a + 1 + (i : Nat)) := by
      funext i
      show V.int (a + ((i + 1 : Nat) : Int)) = V.int (a + 1 + (i : Nat))
      congr 1
      omega
    rw [e]
    exact this
abbrev MRg := Loc → Hm → R (Int × Int)
abbrev rlRg : Rl (Int × Int) (Int × Int) := fun _ _ _ a b => a = b
def tRg (Z : Cz) (E : L2.St → XK) (m : MRg) : L2.St → Hp → (Int → Int → Hp → Prop) → Prop := fun τ H Q => tM Z rlRg E m τ H fun x H1 => Q x.1 x.2 H1
def mrg1 (m : ME) : MRg := fun σ h => (m σ h).bind fun d h1 => match d with
  | .int n => .ok (0, n) h1
  | _ => .bad
def mrg2 (m k : ME) : MRg := fun σ h => (m σ h).bind fun d h1 => (k σ h1).bind fun e h2 => match d, e with
  | .int i, .int j => .ok (i, j) h2
  | _, _ => .bad
theorem PRg.imp {e : Expr} {t t' : L2.St → Hp → (Int → Int → Hp → Prop) → Prop} (p : PRg X e t) (w : ∀ σ H Q, t' σ H Q → t σ H Q) : PRg X e t' := by
  intro pins s σ H Q
  exact fun I q => p pins s σ H Q I (w σ H Q q)
end
end
end Sm
namespace Sm
open PySem PySem.Spec PyProof.Rows L2
noncomputable section
section
variable {X : Cx} {Z : Cz} {E : L2.St → XK} {pos p : Pos}
/-! ### list(range(..)) -/
def frg1 (d : D) (h : Hm) : R (List D) := match d with
  | .int n => match okR n with
    | true => .ok (rgD 0 n.toNat) h
    | false => .bad
  | _ => .bad
def frg2 (d e : D) (h : Hm) : R (List D) := match d, e with
  | .int i, .int j => match okR i && okR j with
    | true => .ok (rgD i (j - i).toNat) h
    | false => .bad
  | _, _ => .bad
def mlR1 (m : ME) : ML := fun σ h => (m σ h).bind fun d h1 => frg1 d h1
def mlR2 (m k : ME) : ML := fun σ h => (m σ h).bind fun d h1 => (k σ h1).bind fun e h2 => frg2 d e h2
theorem okR_rg {i j : Int} (h1 : okR i = true) (h2 : okR j = true) : RgOk i j := by
  have a := Nat.le_of_ble_eq_true h1
  have b := Nat.le_of_ble_eq_true h2
  exact ⟨by omega, by omega, by omega, by omega, by omega⟩
theorem s_listR1 {a : Expr} {m : ME} {p1 p2 pos2 : Pos} (hc : X.calm = true) (hg : Gl X "list") (hm : X.mg "list" = none) (hg2 : Gl X "range") (hm2 : X.mg "range" = none) (pa : PE X a (tE Z E m)) (na : starEach [a] X.env = (false, eval a X.env) :: starEach [] X.env := by rfl)
    (nb : starEach [.Call (.Name "range" p2) [a] [] pos2] X.env = (false, eval (.Call (.Name "range" p2) [a] [] pos2) X.env) :: starEach [] X.env := by rfl) :
    PE X (.Call (.Name "list" p1) [.Call (.Name "range" p2) [a] [] pos2] [] pos) (tTmp Z E (mlR1 m)) := (pe_listRg hc hg hm (prg_1 hg2 hm2 pa na) nb).imp fun τ H Q => by
  rintro ⟨ρ, σ, h, rep, rs, q⟩
  refine ⟨ρ, σ, h, rep, rs, AftT.bind q fun d h1 ρ1 H1 v e1 rep1 rv q1 => ?_⟩
  unfold frg1 at q1
  split at q1 <;> first | exact q1.elim | skip
  rename_i n
  cases rv
  split at q1 <;> first | exact q1.elim | skip
  rename_i zo
  refine ⟨n, rfl, okR_rg (by decide) zo, fun l hl => ?_⟩
  obtain ⟨ea, ra⟩ := rep1.aside (u := .lst (rgV 0 n)) hl
  refine q1 ρ1 _ l (rgV 0 n) ea ra upd_same ?_ (rep1.notin hl) hl
  unfold rgV
  rw [Int.sub_zero]
  exact rgD_ok _ _
theorem s_listR2 {a b : Expr} {m k : ME} {p1 p2 pos2 : Pos} (hc : X.calm = true) (hg : Gl X "list") (hm : X.mg "list" = none) (hg2 : Gl X "range") (hm2 : X.mg "range" = none) (pa : PE X a (tE Z E m)) (pb : PE X b (tE Z E k))
    (pr : ∀ ta tb, PE X a ta → PE X b tb → PRg X (.Call (.Name "range" p2) [a, b] [] pos2) (tRg2 ta tb))
    (nb : starEach [.Call (.Name "range" p2) [a, b] [] pos2] X.env = (false, eval (.Call (.Name "range" p2) [a, b] [] pos2) X.env) :: starEach [] X.env := by rfl) :
    PE X (.Call (.Name "list" p1) [.Call (.Name "range" p2) [a, b] [] pos2] [] pos) (tTmp Z E (mlR2 m k)) := (pe_listRg hc hg hm (pr _ _ pa pb) nb).imp fun τ H Q => by
  rintro ⟨ρ, σ, h, rep, rs, q⟩
  refine ⟨ρ, σ, h, rep, rs, AftT.bind q fun d h1 ρ1 H1 v e1 rep1 rv q1 => ?_⟩
  refine ⟨ρ1, σ, h1, rep1, rs.mono rep e1, AftT.bind q1 fun e h2 ρ2 H2 w e2 rep2 rw' q2 => ?_⟩
  unfold frg2 at q2
  split at q2 <;> first | exact q2.elim | skip
  rename_i i j
  cases rv; cases rw'
  split at q2 <;> first | exact q2.elim | skip
  rename_i zo
  obtain ⟨o1, o2⟩ := Bool.and_eq_true_iff.mp zo
  refine ⟨i, j, rfl, rfl, okR_rg o1 o2, fun l hl => ?_⟩
  obtain ⟨ea, ra⟩ := rep2.aside (u := .lst (rgV i j)) hl
  exact q2 ρ2 _ l (rgV i j) ea ra upd_same (rgD_ok _ _) (rep2.notin hl) hl
/-! ### methods of lists -/
abbrev FM := D → List D → Hm → R D
def MSp (Z : Cz) (r : V → List V → Hp → VK → Prop) (f : FM) : Prop := ∀ (ρ : Nat → Addr) (h : Hm) (H : Hp) (d : D) (ds : List D) (v : V) (vs : List V) (Q : VK) (E : XK), Rep Z ρ h H → RV Z ρ h.n H d v → RVs Z ρ h.n H ds vs → Aft Z (rlV Z) ρ h H (f d ds h) Q E → r v vs H Q
def isLst (d : D) (h : Hm) : Bool := match d with
  | .ref i => match h.get i with
    | some (.lst _) => true
    | _ => false
  | _ => false
theorem isLst_ok {ρ : Nat → Addr} {h : Hm} {H : Hp} {d : D} {v : V} {K : PySem.W.Frag} (rep : Rep Z ρ h H) (rv : RV Z ρ h.n H d v) (e : isLst d h = true) : tyV K "list" v H := by
  unfold isLst at e
  split at e <;> first | cases e | skip
  split at e <;> first | cases e | skip
  rename_i i _ xs ee
  cases rv
  rename_i hi
  obtain ⟨vs, a1, _⟩ := rep.lst hi ee
  exact .inl ⟨rfl, vs, SqL.of a1⟩
def mBM (f : FM) (mo : ME) (ka : MA) : ME := fun σ h => (mo σ h).bind fun d h1 => match isLst d h1 with
  | true => (ka σ h1).bind fun ds h2 => f d ds h2
  | false => .bad
variable {o e : Expr} {es : List Expr} {mo : ME} {ka : MA} {name : Str} {apos cpos : Pos} {id : String} {r : V → List V → Hp → VK → Prop} {f : FM}
theorem bm_of (s : MSp Z r f) {τ : L2.St} {H : Hp} {Q : VK} (q : tE Z E (mBM f mo ka) τ H Q) : tBM X.K "list" r (tE Z E mo) (tA Z E ka) τ H Q := by
  obtain ⟨ρ, σ, h, rep, rs, q⟩ := q
  refine ⟨ρ, σ, h, rep, rs, Aft.bind q fun d h1 ρ1 H1 v e1 rep1 rv q1 => ?_⟩
  cases z : isLst d h1 with
  | false => rw [z] at q1; exact q1.elim
  | true =>
    rw [z] at q1
    refine ⟨isLst_ok rep1 rv z, ρ1, σ, h1, rep1, rs.mono rep e1, Aft.bind q1 fun ds h2 ρ2 H2 vs e2 rep2 rvs q2 => ?_⟩
    exact s ρ2 h2 H2 d ds v vs Q _ rep2 (rv.mono rep1 e2) rvs q2
theorem s_bm (slot : Slot "list" name id) (hty : typeOf (.builtin id) = pure (.type "method_descriptor")) (hm : MtR X id r) (s : MSp Z r f) (ho : PE X o (tE Z E mo)) (ha : PA X (e :: es) (tA Z E ka))
    (hbase : attributeBase o name X.env (eval o X.env) = eval o X.env := by rfl)
    (hfew : ((backTo cpos (starEach (e :: es) X.env)).all (fun x => !x.1) && (backToKw cpos (keywordEach [] X.env)).all (fun x => x.1.isSome)
      && decide ((e :: es).length + ([] : List Keyword).length + (if ([] : List Keyword).isEmpty then 0 else 1) < 30)) = true := by rfl)
    (hline : (apos.endLine == cpos.line) = true := by rfl) (hs : starEach (e :: es) X.env = (false, eval e X.env) :: starEach es X.env := by rfl) (hplain : (backTo cpos (starEach es X.env)).any (·.1) = false := by rfl) :
    PE X (.Call (.Attribute o name apos) (e :: es) [] cpos) (tE Z E (mBM f mo ka)) := (pe_bm PySem.F.plainAttrs_list slot hty hm ho ha hbase hfew hline hs hplain).imp fun τ H Q q => bm_of s q
theorem s_bm0 (slot : Slot "list" name id) (hty : typeOf (.builtin id) = pure (.type "method_descriptor")) (hm : MtR X id r) (s : MSp Z r f) (ho : PE X o (tE Z E mo))
    (hbase : attributeBase o name X.env (eval o X.env) = eval o X.env := by rfl) (hline : (apos.endLine == cpos.line) = true := by rfl) : PE X (.Call (.Attribute o name apos) [] [] cpos) (tE Z E (mBM f mo maNil)) := (pe_bm0 PySem.F.plainAttrs_list slot hty hm ho hbase hline).imp fun τ H Q => by
  rintro ⟨ρ, σ, h, rep, rs, q⟩
  refine ⟨ρ, σ, h, rep, rs, Aft.bind q fun d h1 ρ1 H1 v e1 rep1 rv q1 => ?_⟩
  cases z : isLst d h1 with
  | false => rw [z] at q1; exact q1.elim
  | true =>
    rw [z] at q1
    exact ⟨isLst_ok rep1 rv z, s ρ1 h1 H1 d [] v [] Q _ rep1 rv .nil q1⟩
def fAppend : FM := fun d ds h => match d, ds with
  | .ref i, [x] => match h.get i with
    | some (.lst xs) => match small (lenR xs) with
      | true => appR xs [x] fun l => .ok .non (h.put i (.lst l))
      | false => .bad
    | _ => .bad
  | _, _ => .bad
theorem ms_append : MSp Z rAppend fAppend := by
  intro ρ h H d ds v vs Q E rep rv rvs q
  unfold fAppend at q
  split at q <;> first | exact q.elim | skip
  rename_i i x
  cases rv; rename_i hi
  cases rvs with
  | cons r1 r2 =>
    cases r2
    split at q <;> first | exact q.elim | skip
    rename_i xs ee
    rw [lenR_eq, appR_eq] at q
    cases sm : small xs.length with
    | false => rw [sm] at q; exact q.elim
    | true =>
      rw [sm] at q
      obtain ⟨ws, a1, a2⟩ := rep.lst hi ee
      obtain ⟨ex, rp⟩ := rep.put (o := .lst (xs ++ [x])) (u := .lst (ws ++ [_])) hi (fun _ _ z => by rw [a1] at z; cases z) fun ex => ⟨_, upd_same, (a2.mono rep ex).append (.cons (r1.mono rep ex) .nil)⟩
      exact ⟨ρ i, ws, _, rfl, rfl, a1, by rw [← a2.length]; exact small_lt sm, q ρ _ _ ex rp .non⟩
def fExtend : FM := fun d ds h => match d, ds with
  | .ref i, [.ref j] => match h.get i, h.get j with
    | some (.lst xs), some (.lst ys) => match small (lenR xs + lenR ys) with
      | true => appR xs ys fun l => .ok .non (h.put i (.lst l))
      | false => .bad
    | _, _ => .bad
  | _, _ => .bad
theorem ms_extend : MSp Z rExtend fExtend := by
  intro ρ h H d ds v vs Q E rep rv rvs q
  unfold fExtend at q
  split at q <;> first | exact q.elim | skip
  rename_i i j
  cases rv; rename_i hi
  cases rvs with
  | cons r1 r2 =>
    cases r1; cases r2
    rename_i hj
    split at q <;> first | exact q.elim | skip
    rename_i xs ys ee ee2
    rw [lenR_eq, lenR_eq, appR_eq] at q
    cases sm : small (xs.length + ys.length) with
    | false => rw [sm] at q; exact q.elim
    | true =>
      rw [sm] at q
      obtain ⟨ws, a1, a2⟩ := rep.lst hi ee
      obtain ⟨us, b1, b2⟩ := rep.lst hj ee2
      obtain ⟨ex, rp⟩ := rep.put (o := .lst (xs ++ ys)) (u := .lst (ws ++ us)) hi (fun _ _ z => by rw [a1] at z; cases z) fun ex => ⟨_, upd_same, (a2.mono rep ex).append (b2.mono rep ex)⟩
      exact ⟨ρ i, ρ j, ws, us, rfl, rfl, a1, b1, by rw [← a2.length, ← b2.length]; exact small_ok sm, q ρ _ _ ex rp .non⟩
/-- the last item, the others -/
def lastD : List D → Option (D × List D)
  | [] => none
  | x :: r => match lastD r with
    | some (y, ys) => some (y, x :: ys)
    | none => some (x, [])
theorem lastD_ok {ρ : Nat → Addr} {n : Nat} {H : Hp} : ∀ {xs : List D} {vs : List V}, RVs Z ρ n H xs vs → match lastD xs with
    | some (y, ys) => ∃ w, vs[vs.length - 1]? = some w ∧ RV Z ρ n H y w ∧ RVs Z ρ n H ys vs.dropLast
    | none => xs = []
  | _, _, .nil => rfl
  | _, _, .cons (d := x) (v := v) (ds := r) (vs := vr) r1 r2 => by
    have ih := lastD_ok r2
    unfold lastD
    cases e : lastD r with
    | none =>
      rw [e] at ih
      have ih : r = [] := ih
      subst ih
      cases r2
      exact ⟨v, rfl, r1, .nil⟩
    | some p =>
      obtain ⟨y, ys⟩ := p
      rw [e] at ih
      obtain ⟨w, h1, h2, h3⟩ := ih
      cases vr with
      | nil => simp at h1
      | cons v2 vr2 =>
        refine ⟨w, ?_, h2, ?_⟩
        · simpa using h1
        · rw [List.dropLast_cons_of_ne_nil (by simp)]
          exact .cons r1 h3
def fPop : FM := fun d ds h => match d, ds with
  | .ref i, [] => match h.get i with
    | some (.lst xs) => match lastD xs with
      | some (y, ys) => .ok y (h.put i (.lst ys))
      | none => .bad
    | _ => .bad
  | _, _ => .bad
theorem ms_pop : MSp Z rPop fPop := by
  intro ρ h H d ds v vs Q E rep rv rvs q
  unfold fPop at q
  split at q <;> first | exact q.elim | skip
  rename_i i
  cases rv; rename_i hi
  cases rvs
  split at q <;> first | exact q.elim | skip
  rename_i xs ee
  split at q <;> first | exact q.elim | skip
  rename_i y ys el
  obtain ⟨ws, a1, a2⟩ := rep.lst hi ee
  have hl := lastD_ok a2
  rw [el] at hl
  obtain ⟨w, h1, h2, h3⟩ := hl
  obtain ⟨ex, rp⟩ := rep.put (o := .lst ys) (u := .lst ws.dropLast) hi (fun _ _ z => by rw [a1] at z; cases z) fun ex => ⟨_, upd_same, h3.mono rep ex⟩
  exact ⟨ρ i, ws, w, rfl, rfl, a1, h1, q ρ _ _ ex rp (h2.mono rep ex)⟩
/-- l.index(x) -/
def indexP (p : PyData) : List PyData → Nat → Option Nat
  | [], _ => none
  | x :: r, k => match PyData.eqv x p with
    | true => some k
    | false => indexP p r (k + 1)
theorem indexP_ok {p : PyData} : ∀ {l : List PyData} {k j : Nat}, indexP p l k = some j → k ≤ j ∧ (∃ z, l[j - k]? = some z ∧ PyData.eqv z p = true) ∧ ∀ m z, m < j - k → l[m]? = some z → PyData.eqv z p = false
  | [], _, _, e => by cases e
  | x :: r, k, j, e => by
    unfold indexP at e
    cases z : PyData.eqv x p with
    | true =>
      rw [z] at e
      have ek : k = j := Option.some.inj e
      subst ek
      refine ⟨Nat.le_refl _, ⟨x, by simp, z⟩, fun m z hm => by omega⟩
    | false =>
      rw [z] at e
      obtain ⟨h1, ⟨y, h2, h3⟩, h4⟩ := indexP_ok e
      refine ⟨by omega, ⟨y, ?_, h3⟩, fun m w hm hw => ?_⟩
      · rw [show j - k = (j - (k + 1)) + 1 from by omega]
        simpa using h2
      · cases m with
        | zero =>
          simp at hw
          subst hw
          exact z
        | succ m => exact h4 m w (by omega) (by simpa using hw)
def fIndex : FM := fun d ds h => match ds with
  | [x] => match toPy h 60 d, toPy h 60 x with
    | some (.list qs), some p => match SeqAt.shaped (.list qs) && SeqAt.shaped p with
      | true => match indexP p qs 0 with
        | some j => .ok (.int (Int.ofNat j)) h
        | none => .bad
      | false => .bad
    | _, _ => .bad
  | _ => .bad
theorem ms_index : MSp Z (rIndexD Z.K) fIndex := by
  intro ρ h H d ds v vs Q E rep rv rvs q
  unfold fIndex at q
  split at q <;> first | exact q.elim | skip
  rename_i x
  cases rvs with
  | cons r1 r2 =>
    cases r2
    split at q <;> first | exact q.elim | skip
    rename_i qs p e1 e2
    cases sm : SeqAt.shaped (.list qs) && SeqAt.shaped p with
    | false => rw [sm] at q; exact q.elim
    | true =>
      rw [sm] at q
      obtain ⟨s1, s2⟩ := Bool.and_eq_true_iff.mp sm
      simp only at q
      split at q <;> first | exact q.elim | skip
      rename_i j ej
      obtain ⟨_, ⟨z, h1, h2⟩, h3⟩ := indexP_ok ej
      have dl := toPy_ok rep _ _ _ _ rv e1
      have dx := toPy_ok rep _ _ _ _ r1 e2
      cases rv <;> first | (cases dl; done) | skip
      · rename_i a ds' vs' s t
        exact ⟨a, _, p, qs, j, z, rfl, rfl, dl, dx, s1, s2, h1, h2, fun m z' hm hz => h3 m z' hm hz, q ρ H _ Ext.refl rep (.int _)⟩
      · rename_i i hi
        exact ⟨ρ i, _, p, qs, j, z, rfl, rfl, dl, dx, s1, s2, h1, h2, fun m z' hm hz => h3 m z' hm hz, q ρ H _ Ext.refl rep (.int _)⟩
      · rename_i k
        exact ⟨Z.φ k, _, p, qs, j, z, rfl, rfl, dl, dx, s1, s2, h1, h2, fun m z' hm hz => h3 m z' hm hz, q ρ H _ Ext.refl rep (.int _)⟩
      · rename_i k
        exact ⟨k, _, p, qs, j, z, rfl, rfl, dl, dx, s1, s2, h1, h2, fun m z' hm hz => h3 m z' hm hz, q ρ H _ Ext.refl rep (.int _)⟩
end
end
end Sm
namespace Sm
open PySem PySem.Spec PyProof.Rows L2
noncomputable section
section
variable {X : Cx} {Z : Cz} {E : L2.St → XK} {pos p : Pos}
/-! ### dicts: what is at a key -/
def lookD (o key : D) (h : Hm) : Option (Option D) := match o with
  | .ref i => match h.get i with
    | some (.dK kvs) => match keyD key with
      | some k => some (valD k kvs)
      | none => none
    | some (.dT kvs) => match keyT key with
      | some k => some (valD k kvs)
      | none => none
    | some (.fK kvs) => match keyD key with
      | some k => some (valD k kvs)
      | none => none
    | some (.fT kvs) => match keyT key with
      | some k => some (valD k kvs)
      | none => none
    | _ => none
  | _ => none
def lkOk (Z : Cz) (ρ : Nat → Addr) (n : Nat) (H : Hp) (r : Option D) (o : Option V) : Prop := match r with
  | some d => ∃ v, o = some v ∧ RV Z ρ n H d v
  | none => o = none
theorem lookD_ok {ρ : Nat → Addr} {h : Hm} {H : Hp} {o key : D} {vo vk : V} {r : Option D} (rep : Rep Z ρ h H) (ro : RV Z ρ h.n H o vo) (rk : RV Z ρ h.n H key vk) (e : lookD o key h = some r) :
    ∃ a o', vo = .ref a ∧ DGet H a vk o' ∧ lkOk Z ρ h.n H r o' := by
  cases ro <;> first | (cases e; done) | skip
  rename_i i hi
  simp only [lookD] at e
  split at e
  · rename_i kvs ee
    split at e <;> first | (cases e; done) | skip
    rename_i k ek
    have e := Option.some.inj e
    subst e
    obtain ⟨ws, a1, a2⟩ := rep.dK hi ee
    refine ⟨ρ i, valV ws k, rfl, ?_, ?_⟩
    · rw [keyD_ok rk ek]; exact DGet.k a1
    · have := valD_ok (k := k) a2
      cases z : valD k kvs with
      | none => rw [z] at this; exact this
      | some d => rw [z] at this; exact this
  · rename_i kvs ee
    split at e <;> first | (cases e; done) | skip
    rename_i k ek
    have e := Option.some.inj e
    subst e
    obtain ⟨ws, a1, a2⟩ := rep.dT hi ee
    obtain ⟨b, eb, hb⟩ := keyT_ok rk ek
    refine ⟨ρ i, valV ws k, rfl, ?_, ?_⟩
    · rw [eb]; exact DGet.t a1 hb
    · have := valD_ok (k := k) a2
      cases z : valD k kvs with
      | none => rw [z] at this; exact this
      | some d => rw [z] at this; exact this
  · rename_i kvs ee
    split at e <;> first | (cases e; done) | skip
    rename_i k ek
    have e := Option.some.inj e
    subst e
    obtain ⟨ws, ob, a1, a2⟩ := rep.fK hi ee
    refine ⟨ρ i, valV ws k, rfl, ?_, ?_⟩
    · rw [keyD_ok rk ek]; exact .inl ⟨ws, k, .inr ⟨ob, a1⟩, rfl, rfl⟩
    · have := valD_ok (k := k) a2
      cases z : valD k kvs with
      | none => rw [z] at this; exact this
      | some d => rw [z] at this; exact this
  · rename_i kvs ee
    split at e <;> first | (cases e; done) | skip
    rename_i k ek
    have e := Option.some.inj e
    subst e
    obtain ⟨ws, ob, a1, a2⟩ := rep.fT hi ee
    obtain ⟨b, eb, hb⟩ := keyT_ok rk ek
    refine ⟨ρ i, valV ws k, rfl, ?_, ?_⟩
    · rw [eb]; exact .inr ⟨ws, k, b, .inr ⟨ob, a1⟩, rfl, hb, rfl⟩
    · have := valD_ok (k := k) a2
      cases z : valD k kvs with
      | none => rw [z] at this; exact this
      | some d => rw [z] at this; exact this
  · cases e
def isDic (d : D) (h : Hm) : Bool := match d with
  | .ref i => match h.get i with
    | some (.dK _) => true
    | some (.dT _) => true
    | some (.fK _) => true
    | some (.fT _) => true
    | _ => false
  | _ => false
/-- d[k] of a dict, xs[i] of the others -/
def rIxDic : R2 := fun x y H Q => ∃ a v, x = .ref a ∧ DGet H a y (some v) ∧ Q v H
theorem ix_dic (hu : X.A.units + 1 < cLine) : IxR X rIxDic := by
  intro value slice pins s σ H x y v u Q I rx ry h hs
  obtain ⟨a, w, rfl, g, q⟩ := h
  cases rx
  exact tail_any (dict_typeIs I g) PySem.F.slot_dict_getitem.lookup (d_getItem hu I g ry fun w' s' I' rw' => ⟨w, H, I', rw', q⟩) hs
def fIxM : F2 := fun d e h => match isDic d h with
  | true => match lookD d e h with
    | some (some x) => .ok x h
    | _ => .bad
  | false => fIx d e h
theorem s2_ixM : S2 Z (fun x y H Q => rIx Z.K x y H Q ∨ rIxDic x y H Q) fIxM := by
  intro ρ h H d e v w Q E rep rv rw q
  unfold fIxM at q
  split at q
  · split at q <;> first | exact q.elim | skip
    rename_i x ex
    obtain ⟨a, o', e1, g, z, e2, rz⟩ := lookD_ok rep rv rw ex
    subst e2
    exact .inr ⟨a, z, e1, g, q ρ H _ Ext.refl rep rz⟩
  · exact .inl (s2_ix ρ h H d e v w Q E rep rv rw q)
theorem s_ixM {a b : Expr} {ma mb : ME} (hK : X.K = Z.K) (hu : X.A.units + 1 < cLine) (pa : PE X a (tE Z E ma)) (pb : PE X b (tE Z E mb)) (hs : PlainIx b := by exact fun _ _ => rfl) : PE X (.Subscript a b pos) (tE Z E (m2 fIxM ma mb)) :=
  (pe_ix (by rw [← hK]; exact ix_seq.or (ix_dic hu)) pa pb hs).imp (op2 s2_ixM)
/-! in, not in: sequences and dicts -/
def rInDic (neg : Bool) : R2 := fun y x H Q => ∃ a o, x = .ref a ∧ DGet H a y o ∧ Q (.bl (b3 neg o.isSome)) H
theorem op_inDic (hu : X.A.units + 1 < cLine) : OpR X (compareOp .In) (rInDic false) := by
  intro pins s σ H y x v u Q I ry rx h
  obtain ⟨a, o, rfl, g, q⟩ := h
  cases rx
  exact d_in hu I g ry fun s3 I3 => ⟨.bl o.isSome, H, I3, rfl, q⟩
theorem op_notInDic (hu : X.A.units + 1 < cLine) : OpR X (compareOp .NotIn) (rInDic true) := by
  intro pins s σ H y x v u Q I ry rx h
  obtain ⟨a, o, rfl, g, q⟩ := h
  cases rx
  exact d_notIn hu I g ry fun s3 I3 => ⟨.bl (!o.isSome), H, I3, rfl, q⟩
def isSm : Option D → Bool
  | some _ => true
  | none => false
/-- x in text, one sign or more -/
def rInStr (neg : Bool) : R2 := fun x y H Q => ∃ i j, x = .str i ∧ y = .str j ∧ Q (.bl (b3 neg (!(Builtin.Str.occurrences j i 0 j.length 1).isEmpty))) H
def fIn (neg : Bool) : F2 := fun d e h => match isDic e h with
  | true => match lookD e d h with
    | some r => .ok (.bl (b3 neg (isSm r))) h
    | none => .bad
  | false => match d, e with
    | .str x, .str y => .ok (.bl (b3 neg (!(Builtin.Str.occurrences y x 0 y.length 1).isEmpty))) h
    | _, _ => fInSeq neg d e h
def rInM (K : PySem.W.Frag) (neg : Bool) : R2 := fun x y H Q => rInT K neg x y H Q ∨ (rInDic neg x y H Q ∨ rInStr neg x y H Q)
theorem op_inA (hu : X.A.units + 65 < cLine) : OpR X (compareOp .In) (rInM X.K false) := (op_inM hu).or ((op_inDic (by omega)).or op_in_str)
theorem op_notInA (hu : X.A.units + 65 < cLine) : OpR X (compareOp .NotIn) (rInM X.K true) := (op_notInM hu).or ((op_notInDic (by omega)).or op_notin_str)
theorem s2_inA {neg : Bool} : S2 Z (rInM Z.K neg) (fIn neg) := by
  intro ρ h H d e v w Q E rep rv rw q
  unfold fIn at q
  split at q
  · split at q <;> first | exact q.elim | skip
    rename_i r er
    obtain ⟨a, o', e1, g, hz⟩ := lookD_ok rep rw rv er
    have : o'.isSome = isSm r := by
      cases r with
      | none => have hz : o' = none := hz; rw [hz]; rfl
      | some d => obtain ⟨z, e2, _⟩ := hz; rw [e2]; rfl
    refine .inr (.inl ⟨a, o', e1, g, ?_⟩)
    rw [this]
    exact q ρ H _ Ext.refl rep (.bl _)
  · split at q
    · cases rv; cases rw
      exact .inr (.inr ⟨_, _, rfl, rfl, q ρ H _ Ext.refl rep (.bl _)⟩)
    · exact .inl (s2_in ρ h H d e v w Q E rep rv rw q)
/-! d.get(k, x) -/
def mGet2 (mo mk mx : ME) : ME := fun σ h => (mo σ h).bind fun o h1 => match isDic o h1 with
  | true => (mk σ h1).bind fun k h2 => (mx σ h2).bind fun x h3 => match lookD o k h3 with
    | some (some d) => .ok d h3
    | some none => .ok x h3
    | none => .bad
  | false => .bad
theorem isDic_ok {ρ : Nat → Addr} {h : Hm} {H : Hp} {d : D} {v : V} (rep : Rep Z ρ h H) (rv : RV Z ρ h.n H d v) (e : isDic d h = true) : ∃ a, v = .ref a ∧ IsD H a := by
  unfold isDic at e
  split at e <;> first | cases e | skip
  rename_i i
  cases rv; rename_i hi
  split at e <;> first | cases e | skip
  · rename_i kvs ee
    obtain ⟨ws, a1, _⟩ := rep.dK hi ee
    exact ⟨ρ i, rfl, .inl ⟨ws, .inl a1⟩⟩
  · rename_i kvs ee
    obtain ⟨ws, a1, _⟩ := rep.dT hi ee
    exact ⟨ρ i, rfl, .inr ⟨ws, .inl a1⟩⟩
  · rename_i kvs ee
    obtain ⟨ws, ob, a1, _⟩ := rep.fK hi ee
    exact ⟨ρ i, rfl, .inl ⟨ws, .inr ⟨ob, a1⟩⟩⟩
  · rename_i kvs ee
    obtain ⟨ws, ob, a1, _⟩ := rep.fT hi ee
    exact ⟨ρ i, rfl, .inr ⟨ws, .inr ⟨ob, a1⟩⟩⟩
theorem s_get2 {o e f : Expr} {mo mk mx : ME} {apos cpos : Pos} (hu : X.A.units + 1 < cLine) (po : PE X o (tE Z E mo)) (pk : PE X e (tE Z E mk)) (px : PE X f (tE Z E mx)) (m : M2 X o "get" apos e f cpos := by exact ⟨rfl, rfl, rfl, rfl⟩) :
    PE X (.Call (.Attribute o "get" apos) [e, f] [] cpos) (tE Z E (mGet2 mo mk mx)) := (pe_dget2 hu po pk px m).imp fun τ H Q => by
  rintro ⟨ρ, σ, h, rep, rs, q⟩
  refine ⟨ρ, σ, h, rep, rs, Aft.bind q fun d h1 ρ1 H1 v e1 rep1 rv q1 => ?_⟩
  cases z : isDic d h1 with
  | false => rw [z] at q1; exact q1.elim
  | true =>
    rw [z] at q1
    obtain ⟨a, ea, ha⟩ := isDic_ok rep1 rv z
    refine ⟨a, ea, ha, ρ1, σ, h1, rep1, rs.mono rep e1, Aft.bind q1 fun k h2 ρ2 H2 vk e2 rep2 rk q2 => ?_⟩
    refine ⟨ρ2, σ, h2, rep2, (rs.mono rep e1).mono rep1 e2, Aft.bind q2 fun x h3 ρ3 H3 vx e3 rep3 rx q3 => ?_⟩
    split at q3 <;> first | exact q3.elim | skip
    · rename_i y ey
      obtain ⟨a', o', e4, g, w, e5, rw'⟩ := lookD_ok rep3 ((rv.mono rep1 e2).mono rep2 e3) (rk.mono rep2 e3) ey
      rw [ea] at e4; cases e4
      subst e5
      exact ⟨_, g, q3 ρ3 H3 _ Ext.refl rep3 rw'⟩
    · rename_i ey
      obtain ⟨a', o', e4, g, e5⟩ := lookD_ok rep3 ((rv.mono rep1 e2).mono rep2 e3) (rk.mono rep2 e3) ey
      rw [ea] at e4; cases e4
      have e5 : o' = none := e5
      subst e5
      exact ⟨_, g, q3 ρ3 H3 _ Ext.refl rep3 rx⟩
/-! {} -/
def mNewK : ME := fun _ h => .ok (.ref h.n) (h.push (.dK []))
def mNewT : ME := fun _ h => .ok (.ref h.n) (h.push (.dT []))
theorem s_newK : PE X (.Dict [] [] pos) (tE Z E mNewK) := pe_dnewK.imp fun τ H Q => by
  rintro ⟨ρ, σ, h, rep, rs, q⟩
  intro p hp
  obtain ⟨ρ', e, r, hr⟩ := rep.push (o := .dK []) (u := .dK []) hp fun ρ' e => ⟨[], upd_same, .nil⟩
  have := q ρ' _ (.ref (ρ' h.n)) e r (.ref (Nat.lt_succ_self _))
  rwa [hr] at this
theorem s_newT : PE X (.Dict [] [] pos) (tE Z E mNewT) := pe_dnewT.imp fun τ H Q => by
  rintro ⟨ρ, σ, h, rep, rs, q⟩
  intro p hp
  obtain ⟨ρ', e, r, hr⟩ := rep.push (o := .dT []) (u := .dT []) hp fun ρ' e => ⟨[], upd_same, .nil⟩
  have := q ρ' _ (.ref (ρ' h.n)) e r (.ref (Nat.lt_succ_self _))
  rwa [hr] at this
/-! ### truth -/
def trD (d : D) (h : Hm) : Option Bool := match d with
  | .non => some false
  | .bl b => some b
  | .int i => some (i != 0)
  | .str y => match small y.length with
    | true => some ((y.length : Int) != 0)
    | false => none
  | .tup xs => match xs with
    | [] => some false
    | _ => some true
  | .ref i => match h.get i with
    | some (.lst xs) => match xs with
      | [] => some false
      | _ => some true
    | some (.dK xs) => match xs with
      | [] => some false
      | _ => some true
    | _ => none
  | _ => none
theorem trD_ok {ρ : Nat → Addr} {h : Hm} {H : Hp} {d : D} {v : V} {b : Bool} (rep : Rep Z ρ h H) (rv : RV Z ρ h.n H d v) (e : trD d h = some b) : TruV Z.K v H b := by
  cases rv <;> first | (cases e; done) | skip
  · cases e; rfl
  · cases e; rfl
  · cases e; rfl
  · rename_i y
    simp only [trD] at e
    split at e <;> cases e
    rename_i sm
    exact ⟨small_ok sm, rfl⟩
  · rename_i a ds vs s t
    refine .inr (.inl ⟨vs, SqT.of s, ?_⟩)
    cases t with
    | nil => cases e; rfl
    | cons _ _ => cases e; rfl
  · rename_i i hi
    simp only [trD] at e
    split at e
    · rename_i xs ee
      obtain ⟨vs, a1, t⟩ := rep.lst hi ee
      refine .inl ⟨vs, SqL.of a1, ?_⟩
      cases t with
      | nil => cases e; rfl
      | cons _ _ => cases e; rfl
    · rename_i xs ee
      obtain ⟨vs, a1, t⟩ := rep.dK hi ee
      refine .inr (.inr ⟨vs, a1, ?_⟩)
      cases t with
      | nil => cases e; rfl
      | cons _ _ => cases e; rfl
    · cases e
def mTru (m : ME) : MT := fun σ h => (m σ h).bind fun d h1 => match trD d h1 with
  | some b => .ok b h1
  | none => .bad
variable {a b : Expr} {ma mb : ME} {rest : List Expr}
theorem s_truth (hK : X.K = Z.K) (pa : PE X a (tE Z E ma)) (he : ∀ whole, isTrue a X.env whole = (do let v ← whole; standAt a.pos; holding [v] (truthy v)) := by intro _; rfl) : PT X a (tT Z E (mTru ma)) :=
  (pt_truth pa he).imp fun τ H Q => by
    rintro ⟨ρ, σ, h, rep, rs, q⟩
    refine ⟨ρ, σ, h, rep, rs, Aft.bind q fun d h1 ρ1 H1 v e1 rep1 rv q1 => ?_⟩
    split at q1 <;> first | exact q1.elim | skip
    rename_i k ek
    exact ⟨k, hK ▸ trD_ok rep1 rv ek, q1 ρ1 H1 k Ext.refl rep1 rfl⟩
def mNotT (m : ME) : ME := fun σ h => (m σ h).bind fun d h1 => match trD d h1 with
  | some b => .ok (.bl (!b)) h1
  | none => .bad
theorem s_notT (hK : X.K = Z.K) (pa : PE X a (tE Z E ma)) : PE X (.UnaryOp .Not a pos) (tE Z E (mNotT ma)) := (pe_notT pa).imp fun τ H Q => by
  rintro ⟨ρ, σ, h, rep, rs, q⟩
  refine ⟨ρ, σ, h, rep, rs, Aft.bind q fun d h1 ρ1 H1 v e1 rep1 rv q1 => ?_⟩
  split at q1 <;> first | exact q1.elim | skip
  rename_i k ek
  exact ⟨k, hK ▸ trD_ok rep1 rv ek, q1 ρ1 H1 _ Ext.refl rep1 (.bl _)⟩
def mOrT (m k : ME) : ME := fun σ h => (m σ h).bind fun d h1 => match trD d h1 with
  | some true => .ok d h1
  | some false => k σ h1
  | none => .bad
theorem s_orT (hK : X.K = Z.K) (pa : PE X a (tE Z E ma)) (pb : PE X (.BoolOp .Or (b :: rest) pos) (tE Z E mb)) : PE X (.BoolOp .Or (a :: b :: rest) pos) (tE Z E (mOrT ma mb)) := (pe_orT pa pb).imp fun τ H Q => by
  rintro ⟨ρ, σ, h, rep, rs, q⟩
  refine ⟨ρ, σ, h, rep, rs, Aft.bind q fun d h1 ρ1 H1 v e1 rep1 rv q1 => ?_⟩
  split at q1 <;> first | exact q1.elim | skip
  · rename_i ek
    exact ⟨true, hK ▸ trD_ok rep1 rv ek, iteT (q1 ρ1 H1 _ Ext.refl rep1 rv)⟩
  · rename_i ek
    exact ⟨false, hK ▸ trD_ok rep1 rv ek, iteF ⟨ρ1, σ, h1, rep1, rs.mono rep e1, q1⟩⟩
/-! ### isinstance with built-in types -/
def kindD (d : D) (h : Hm) : Option String := match d with
  | .non => some "NoneType"
  | .bl _ => some "bool"
  | .int _ => some "int"
  | .str _ => some "str"
  | .tup _ => some "tuple"
  | .ref i => match h.get i with
    | some (.lst _) => some "list"
    | some (.dK _) => some "dict"
    | some (.dT _) => some "dict"
    | _ => none
  | _ => none
theorem kindD_ok {ρ : Nat → Addr} {h : Hm} {H : Hp} {d : D} {v : V} {k : String} (rep : Rep Z ρ h H) (rv : RV Z ρ h.n H d v) (e : kindD d h = some k) : TyX Z.K H v (.type k) := by
  refine .base ?_
  cases rv <;> first | (cases e; done) | skip
  · cases e; exact .non
  · cases e; exact .bl _
  · cases e; exact .int _
  · cases e; exact .str _
  · rename_i s t
    cases e
    exact .tup s
  · rename_i i hi
    simp only [kindD] at e
    split at e
    · rename_i xs ee
      cases e
      obtain ⟨vs, a1, t⟩ := rep.lst hi ee
      exact .lst a1
    · rename_i kvs ee
      cases e
      obtain ⟨vs, a1, t⟩ := rep.dK hi ee
      exact .dK a1
    · rename_i kvs ee
      cases e
      obtain ⟨vs, a1, t⟩ := rep.dT hi ee
      exact .dT a1
    · cases e
/-- of the kinds that there are here -/
def isT (k T : String) : Option Bool := match kitB k T with
  | some b => some b
  | none => none
def mIsi (T : String → Option Bool) (m : ME) : ME := fun σ h => (m σ h).bind fun d h1 => match kindD d h1 with
  | some k => match T k with
    | some b => .ok (.bl b) h1
    | none => .bad
  | none => .bad
def tBools (l : List (String × Bool)) (k : String) : Option Bool := match l with
  | [] => none
  | (n, b) :: r => match decide (n = k) with
    | true => some b
    | false => tBools r k
theorem s_isi1 {e : Expr} {m : ME} {T : Str} {n : String} {p2 : Pos} {f : String → Option Bool} (hK : X.K = Z.K) (hg : Gl X "isinstance") (hm : X.mg "isinstance" = none) (hb : bootBuiltins "isinstance" = some (.builtin "isinstance")) (pT : PE X (.Name T p2) (tC (.ty n))) (pe : PE X e (tE Z E m))
    (hf : ∀ k b, f k = some b → kitB k n = some b) (he : starEach [e, .Name T p2] X.env = (false, eval e X.env) :: starEach [.Name T p2] X.env := by rfl) (he2 : starEach [.Name T p2] X.env = (false, eval (.Name T p2) X.env) :: starEach [] X.env := by rfl) (hpl : (backTo pos (starEach [.Name T p2] X.env)).any (·.1) = false := by rfl) :
    PE X (.Call (.Name "isinstance" p) [e, .Name T p2] [] pos) (tE Z E (mIsi f m)) := (pe_callB call_isi hg hm hb (pa_cons pe (pa_cons pT pa_nil he2) he) (by decide) (by decide) he hpl).imp fun τ H Q => by
  rintro ⟨ρ, σ, h, rep, rs, q⟩
  refine ⟨ρ, σ, h, rep, rs, Aft.bind q fun d h1 ρ1 H1 v e1 rep1 rv q1 => ?_⟩
  split at q1 <;> first | exact q1.elim | skip
  rename_i k ek
  split at q1 <;> first | exact q1.elim | skip
  rename_i b eb
  exact ⟨v, .ty n, .type k, .type n, b, rfl, .ty n, hK ▸ kindD_ok rep1 rv ek, kit_ty (hf k b eb), q1 ρ1 H1 _ Ext.refl rep1 (.bl _)⟩
theorem s_isi2 {e : Expr} {m : ME} {T U : Str} {n n2 : String} {p2 p3 p4 : Pos} {j : Nat} {f : String → Option Bool} (hK : X.K = Z.K) (hg : Gl X "isinstance") (hm : X.mg "isinstance" = none) (hb : bootBuiltins "isinstance" = some (.builtin "isinstance")) (pT : PE X (.Name T p2) (tC (.ty n))) (pU : PE X (.Name U p3) (tC (.ty n2))) (pe : PE X e (tE Z E m))
    (hf : ∀ k b, f k = some b → ∃ b1 b2, kitB k n = some b1 ∧ kitB k n2 = some b2 ∧ b = (b1 || b2)) (he : starEach [e, .Tuple [.Name T p2, .Name U p3] j p4] X.env = (false, eval e X.env) :: starEach [.Tuple [.Name T p2, .Name U p3] j p4] X.env := by rfl)
    (he2 : starEach [.Tuple [.Name T p2, .Name U p3] j p4] X.env = (false, eval (.Tuple [.Name T p2, .Name U p3] j p4) X.env) :: starEach [] X.env := by rfl)
    (he3 : starEach [.Name T p2, .Name U p3] X.env = (false, eval (.Name T p2) X.env) :: starEach [.Name U p3] X.env := by rfl) (he4 : starEach [.Name U p3] X.env = (false, eval (.Name U p3) X.env) :: starEach [] X.env := by rfl)
    (hpl : (backTo pos (starEach [.Tuple [.Name T p2, .Name U p3] j p4] X.env)).any (·.1) = false := by rfl) :
    PE X (.Call (.Name "isinstance" p) [e, .Tuple [.Name T p2, .Name U p3] j p4] [] pos) (tE Z E (mIsi f m)) := (pe_callB call_isiT hg hm hb (pa_cons pe (pa_cons (pe_tup (pa_cons pT (pa_cons pU pa_nil he4) he3)) pa_nil he2) he) (by decide) (by decide) he hpl).imp fun τ H Q => by
  rintro ⟨ρ, σ, h, rep, rs, q⟩
  refine ⟨ρ, σ, h, rep, rs, Aft.bind q fun d h1 ρ1 H1 v e1 rep1 rv q1 => ?_⟩
  split at q1 <;> first | exact q1.elim | skip
  rename_i k ek
  split at q1 <;> first | exact q1.elim | skip
  rename_i b eb
  refine ⟨by show 2 ≤ sizeLine; decide, fun tp htp => ?_⟩
  obtain ⟨ea, ra⟩ := rep1.aside (u := .tup [.ty n, .ty n2]) htp
  obtain ⟨b1, b2, h1', h2', eb'⟩ := hf k b eb
  refine ⟨v, tp, [.ty n, .ty n2], .type k, [.type n, .type n2], b, rfl, upd_same, .cons (.ty n) (.cons (.ty n2) .nil), hK ▸ kindD_ok ra (rv.mono rep1 ea) ek, ?_, q1 ρ1 _ _ ea ra (.bl _)⟩
  subst eb'
  refine kitAny_cons (kit_ty h1') (fun z => ?_) (fun z => by rw [z]; rfl)
  subst z
  refine kitAny_cons (kit_ty h2') (fun z => ?_) (fun z => by rw [z]; rfl)
  subst z
  exact kitAny_nil
end
end
end Sm
namespace Sm
open PySem PySem.Spec PyProof.Rows L2
noncomputable section
/-! ### a def: from its body's mirror to its promise -/
def mDef (n : Nat) (b : MS) : MF := fun ds h => match b (ds.map some ++ List.replicate (n - ds.length) none) h with
  | .nx _ h' => .ok .non h'
  | .rt d h' => .ok d h'
  | .exn c es h' => .exn c es h'
  | _ => .bad
theorem RVs.slots {Z : Cz} {ρ : Nat → Addr} {n : Nat} {H : Hp} (m : Nat) : ∀ {ds : List D} {vs : List V}, RVs Z ρ n H ds vs → RS Z ρ n H (ds.map some ++ List.replicate m none) (vs.map some ++ List.replicate m none) := fun {ds vs} r => by
  refine ⟨by simp only [List.length_append, List.length_map, List.length_replicate, r.length], fun i d e => ?_⟩
  by_cases hi : i < ds.length
  · rw [List.getElem?_append_left (by rw [List.length_map]; exact hi), List.getElem?_map] at e
    cases z : ds[i]? with
    | none => rw [z] at e; cases e
    | some d' =>
      rw [z] at e
      obtain rfl : d' = d := Option.some.inj (Option.some.inj e)
      obtain ⟨v, h1, h2⟩ := r.get z
      refine ⟨v, ?_, h2⟩
      rw [List.getElem?_append_left (by rw [List.length_map, ← r.length]; exact hi), List.getElem?_map, h1]
      rfl
  · rw [List.getElem?_append_right (by rw [List.length_map]; omega), List.getElem?_replicate] at e
    split at e <;> cases e
section
variable {P : Program} {w : World} {K : PySem.W.Frag} {mg : Str → Option Value} {base : Heap} {Z : Cz}
theorem def_of {x qual : Str} {st : Stmt} {f : Addr} {fd : FuncData} {N ps : List Str} {k m : Nat} {b : MS} (F : L2.Fun K x qual st f fd) (S : FnScope N ps (defScope st)) (hm : ps.length = m)
    (hbody : ∀ (cdv : Value) (A : Around) (outer : List Env) (s : Shared) (H : Hp) (E : XK), Room k (A.deeper (envOfC qual (defScope st) s.heap.objs.size f cdv)) →
      Takes (cxOf (L2.CX P w) P w K mg base N qual (defScope st) f cdv A outer s H E) (fun c d _ H => E c d H) →
      PSs (cxOf (L2.CX P w) P w K mg base N qual (defScope st) f cdv A outer s H E) (defBody st) (tS Z (fun _ => E) b)) : FnOk P w K mg base (L2.CX P w) (k + 1) f fd ps (spM Z m (mDef N.length b)) := by
  refine F.okX S (fun vs H Q E h => (spM_len _ _ _ _ h).trans hm.symm) fun cdv A outer s H vs Q E hr h => ⟨_, hbody cdv A outer s H E hr (takes_of rfl rfl rfl rfl), ?_⟩
  obtain ⟨ρ, h, ds, rep, rv, l, q⟩ := h
  unfold L2.start
  rw [← rv.length]
  refine ⟨ρ, _, h, rep, rv.slots _, ?_⟩
  unfold mDef at q
  cases z : b (ds.map some ++ List.replicate (N.length - ds.length) none) h with
  | nx σ h' => rw [z] at q; exact fun ρ' H' τ e r s => q ρ' H' .non e r .non
  | rt d h' => rw [z] at q; exact q
  | exn c es h' => rw [z] at q; exact q
  | bk σ h' => rw [z] at q; exact q.elim
  | ct σ h' => rw [z] at q; exact q.elim
  | bad => rw [z] at q; exact q.elim
end
/-! ### raise C(), C an own class without __init__ -/
section
variable {X : Cx} {Z : Cz} {E : L2.St → XK} {pos p p2 : Pos} {x : Str} {C : Addr} {bmB : List Value} {B newId initId : String}
def msRaise (c : Nat) : MS := fun _ h => .exn c [] h
theorem pmk0 (F : ExcBaseFacts B newId initId bmB) (q : PySem.W.excIn X.K C bmB newId = true) (gC : X.mg x = some (.ref C)) (kC : PySem.W.keepIn X.K (.ref C) = true) (r : Raises X (.ref C)) (hg : Gl X x)
    (hdb : (x == ("__debug__" : Str)) = false := by decide) : PMk X (.Call (.Name x p) [] [] pos) (fun _ H Q => Q (.ref C) none H) := by
  intro pins s σ H Q I h
  refine wpAny_Call_Name_kw (ld_glob I hg gC ?_ hdb)
  refine PySem.W.callWith_K0 I.kIn kC ?_
  obtain ⟨bm, N, nm, qn, bs, hdct, sn, sub, ab, col, dd, k0, k1, k2, k3, k5, mN, hC, hN, hni, T⟩ := exc_obj I.kIn q
  refine wpAny_call_exc_subT F T hC hN hni (fun h' e hm => ?_) (by show 0 ≤ sizeLine; exact Nat.zero_le _)
  exact mk_of I hm r h (I.hok.gone hm.new)
/-- what the top has written of a class without __init__ -/
structure X0 (K : PySem.W.Frag) (mg : Str → Option Value) (x : Str) (C : Addr) (bmB : List Value) (newId : String) : Prop where
  ex : PySem.W.excIn K C bmB newId = true
  g : mg x = some (.ref C)
  k : PySem.W.keepIn K (.ref C) = true
  s : PySem.W.subIn K (.ref C) (.type "BaseException") = some true
  t : PySem.W.typeIn K (.ref C) = some (.type "type")
theorem s_raise0 {c : Nat} (hc : X.calm = true) (F : ExcBaseFacts B newId initId bmB) (T : X0 X.K X.mg x (Z.κ c) bmB newId) (tk : Takes X (fun cl d τ H => E τ cl d H)) (hg : Gl X x) (hdb : (x == ("__debug__" : Str)) = false := by decide) :
    PS X (.Raise (some (.Call (.Name x p) [] [] pos)) none p2) (tS Z E (msRaise c)) := (ps_raise hc tk (pmk0 F T.ex T.g T.k (raises_own T.s T.t) hg hdb)).imp fun De τ H => by
  rintro ⟨ρ, σ, h, rep, rs, q⟩
  exact q ρ H _ _ Ext.refl rep ⟨rfl, .inl ⟨rfl, rfl⟩⟩
end
end
end Sm
namespace Sm
noncomputable section
namespace XI
open PySem PySem.W PySem.Calls PyProof.Rows PySem.HandSPX PySem.Builtin PySem.Builtin.ObjectAttr
/-! ### an own error with one field: its __init__ stores the one argument under the argument's name -/
def inA (f : Str) (p1 p2 : Pos) : Arguments := { posonlyargs := [], args := [{ arg := "self", annotation := none, pos := p1 }, { arg := f, annotation := none, pos := p2 }], vararg := none, kwonlyargs := [], kw_defaults := [], kwarg := none, defaults := [] }
def inB (f : Str) (q1 q2 q3 q4 : Pos) : List Stmt := [.Assign [.Attribute (.Name "self" q1) f q2] (.Name f q3) q4]
def inS (f : Str) : Scope := { kind := .function, names := [(PySem.Str.ofString "self", .local), (f, .local)], isGenerator := false, isCoroutine := false, more := [] }
/-- what is asked of the field's name -/
structure Nm (f : Str) : Prop where
  bind : ∀ (ql : Str) (p1 p2 q1 q2 q3 q4 : Pos) (kV doc pm : Value) (an : Option Addr) (cdv ct x v : Value), bindArgs (fnOf "__init__" ql (inA f p1 p2) (inB f q1 q2 q3 q4) (inS f) .none kV doc pm an cdv ct) ⟨[x, v], []⟩ = pure [(("self" : Str), x), (f, v)]
  kind : ∀ x v : Value, ([(("self" : Str), x), (f, v)].all fun y => (inS f).names.lookup y.1 == some .local || (inS f).names.lookup y.1 == some .cell) = true
  l1 : ∀ (ql : Str) (L a : Addr) (cd : Value), (envOfC ql (inS f) L a cd).kindOf f = some .local
  l2 : ∀ (ql : Str) (L a : Addr) (cd : Value), (envOfC ql (inS f) L a cd).kindOf "self" = some .local
  v1 : ∀ (ql : Str) (L a : Addr) (cd x v : Value), bindL (envOfC ql (inS f) L a cd).kindOf [(("self" : Str), x), (f, v)] (fun _ => none) f = some v
  v2 : ∀ (ql : Str) (L a : Addr) (cd x v : Value), bindL (envOfC ql (inS f) L a cd).kindOf [(("self" : Str), x), (f, v)] (fun _ => none) "self" = some x
  dbg : (f == ("__debug__" : Str)) = false
  sw : ∀ (q1 q2 q3 q4 : Pos) (env : Env), swapsWith (.Name f q3) (some (.Attribute (.Name "self" q1) f q2)) q4.line env = pure false
structure Txt (K : Frag) (mg : Str → Option Value) (x f : Str) (C fI : Addr) (bmB : List Value) (newId : String) : Prop where
  gC : mg x = some (.ref C)
  mkC : excInitIn K C bmB newId = true
  ov : excOver K C bmB = true
  sa : findIn K (.ref C) "__setattr__" = some (some (.builtin "object.__setattr__"))
  noN : findIn K (.ref C) f = some none
  iC : findIn K (.ref C) "__init__" = some (some (.ref fI))
  tC : typeIn K (.ref fI) = some (.type "function")
  kC : keepIn K (.ref C) = true
  exC : subIn K (.ref C) (.type "BaseException") = some true
  tyC : typeIn K (.ref C) = some (.type "type")
  hdC : hasDictIn K C = true
  fn : ∃ (ql : Str) (oc : Value) (od : Option Addr) (kV doc pm : Value) (an : Option Addr) (cdv ct : Value) (osl : Array (Option Value)) (p1 p2 q1 q2 q3 q4 : Pos),
    K.lookup fI = some ⟨oc, od, .func (fnOf "__init__" ql (inA f p1 p2) (inB f q1 q2 q3 q4) (inS f) .none kV doc pm an cdv ct), osl⟩ ∧ codeIn K cdv ql = true
theorem name_of {M : Model} {s : Shared} {ql : Str} {scope : Scope} {L a : Addr} {cd : Value} {m : Str → Option Value} {x : Str} {pos : Pos} {v : Value} {Q : Value → Shared → Prop} {A : Around} {E : Value → Shared → Prop} (hk : scope.kind = .function) (hl : (envOfC ql scope L a cd).kindOf x = some .local)
    (hn : s.heap.Ns L m) (hv : m x = some v) (hd : (x == ("__debug__" : Str)) = false) (h : Q v s) : wpAny M A (eval (.Name x pos) (envOfC ql scope L a cd)) Q E s :=
  wpAny_Name (wpAny_loadName_local hk hl hn hv h) hd
/-- behind __init__: the exception at x has its own dict, which holds the field -/
structure Done (h h' : Heap) (x C dx t1 : Addr) (f : Str) (v : Value) : Prop where
  keep : ∀ b o, b ≠ x → h.get? b = some o → h'.get? b = some o
  obj : h'.get? x = some { cls := .ref C, dict := some dx, data := .fields #[.ref t1, .none, .none, .none, .bool false, .none] }
  dbig : h.objs.size ≤ dx
  dne : dx ≠ x
  ns : h'.Ns1 dx (fun y => if y = f then some v else none)
structure Made (h h' : Heap) (e C d : Addr) (f : Str) (v : Value) : Prop where
  keep : ∀ b o, h.get? b = some o → h'.get? b = some o
  new : h.objs.size ≤ e
  obj : ∃ oe vs, h'.get? e = some oe ∧ oe.cls = .ref C ∧ oe.dict = some d ∧ oe.data = .fields vs ∧ vs[1]? = some .none
  dbig : h.objs.size ≤ d
  dne : d ≠ e
  ns : h'.Ns1 d (fun y => if y = f then some v else none)
section
variable {prog : Program} {w : World} {A : Around} {R : Result → Shared → Prop} {K : Frag} {C fI : Addr} {bmB : List Value} {B newId initId : String} {f x : Str} {mg : Str → Option Value}
/-- the field's store -/
theorem put_field {hp : Heap} {g : Array GenState} {d : Drawn} {t : Nat} {os : OsState} {tk : Tok} {v : Value} {x : Addr} {fv : Array Value} (SF : StoreFacts B bmB "object.__setattr__" "object") (X : K.In hp) (hx : hp.get? x = some { cls := .ref C, data := .fields fv })
    (ov : excOver K C bmB = true) (hd : hasDictIn K C = true) (ha : findIn K (.ref C) f = some none)
    (hq : ∀ h' tk' dx, (∀ b o, b ≠ x → hp.get? b = some o → h'.get? b = some o) → hp.objs.size ≤ dx → dx ≠ x → h'.get? x = some { cls := .ref C, dict := some dx, data := .fields fv } → h'.Ns1 dx (fun y => if y = f then some v else none) → R (.ok (.ret .none)) ⟨h', g, d, tk', os⟩) :
    codeAny (model prog w) A (.call (.builtin "object.__setattr__") ⟨[.ref x, .str f tk, v], []⟩) R ⟨hp, g, d, t, os⟩ := by
  have I : InstAt hp x { cls := .ref C, data := .fields fv } C none := ⟨hx, rfl, rfl, trivial⟩
  have hxs : hp.objs.size ≠ x := Nat.ne_of_gt (Heap.lt_size hx)
  refine osa_openX (r := none) (s := ⟨hp, g, d, t, os⟩) SF X I ov (by unfold takerIn; rw [ha]; rfl) fun b => ?_
  obtain ⟨cd, hcd, hh⟩ : ∃ cd, clsIn K C = some cd ∧ cd.hasDict = true := by
    unfold hasDictIn at hd
    cases z : clsIn K C with
    | none => rw [z] at hd; cases hd
    | some cd => rw [z] at hd; exact ⟨cd, rfl, hd⟩
  have hcls : Looks (model prog w) hp (classData C) cd := looks_clsIn X hcd
  obtain ⟨nm, bs, mro, ns, qn, hd', sn, sb, ab, col, del⟩ := cd
  dsimp only at hh
  subst hh
  dsimp only
  unfold storeInOwnDict ownDictForStores
  repeat (first | with_reducible refine store_in_new ?_ ?_ | with_reducible refine wpAny_loadPart_at hx ?_ | with_reducible refine hcls.at ?_ | wp_step)
  · exact ⟨_, #[], _, (Heap.get?_update_ne _ _ _ _ hxs).trans (Heap.get?_push_at rfl rfl), rfl, fun e he => absurd he (by simp), fun _ => rfl⟩
  · intro h' tk' hn' hs
    have hx₁ : (hp.push { cls := .type "dict", data := .dict #[] }).get? x = some { cls := .ref C, data := .fields fv } := Heap.get?_push_of_some _ hx
    refine hq h' tk' hp.objs.size (fun b o hb ho => ?_) (Nat.le_refl _) hxs ?_ hn'
    · exact (hs.2 b (Nat.ne_of_lt (Heap.lt_size ho))).trans ((Heap.get?_update_ne _ _ _ _ hb).trans (Heap.get?_push_of_some _ ho))
    · exact (hs.2 x hxs.symm).trans (Heap.get?_update_self _ hx₁ rfl)
end
end XI
end
end Sm
namespace Sm
noncomputable section
namespace XI
open PySem PySem.W PySem.Calls PyProof.Rows PySem.HandSPX
section
variable {prog : Program} {w : World} {A : Around} {E : Value → Shared → Prop} {R : Result → Shared → Prop} {s : Shared} {K : Frag} {mg : Str → Option Value} {C fI : Addr} {bmB : List Value} {B newId initId : String} {f x : Str}
theorem run_init (T : Txt K mg x f C fI bmB newId) (S : Nm f) (SF : StoreFacts B bmB "object.__setattr__" "object") {e t0 : Addr} {v : Value} (X : K.In s.heap) (hlim : s.heap.NoLimit) (hx : s.heap.get? e = some (excO C t0)) (hroom : A.depth < recursionLimit)
    (hq : ∀ h' tk dx, Done s.heap h' e C dx t0 f v → R (.ok (.ret .none)) { s with heap := h', toks := tk }) :
    codeAny (model prog w) A (.call (.ref fI) ⟨[.ref e, v], []⟩) R s := by
  obtain ⟨ql, oc, od, kV, doc, pm, an, cdv, ct, osl, p1, p2, q1, q2, q3, q4, ho, hcd⟩ := T.fn
  refine Att.call_fn (binds := [(("self" : Str), .ref e), (f, v)]) X hlim ho hcd hroom (BindsTo.of_eq (S.bind ..)) (S.kind ..) (fun s₁ IC => ?_) rfl rfl rfl
  obtain ⟨h₁, tk₁, rfl⟩ := IC.toInCall.same
  have k : ∀ b o, s.heap.get? b = some o → h₁.get? b = some o := IC.toInCall.keep
  have hn := IC.toInCall.ns
  have X₁ : K.In h₁ := X.keeps k
  have hx₁ := k _ _ hx
  show wpAny _ _ (execs _ _) _ _ _
  refine wpAny_execs_cons (plainObj_wpAny_Assign_Attribute ?_ (S.sw ..))
  refine name_of (v := v) rfl (S.l1 ..) hn (S.v1 ..) S.dbg (name_of (v := .ref e) rfl (S.l2 ..) hn (S.v2 ..) (by decide) ?_)
  refine set_plain X₁ (ox := excO C t0) (od := none) ⟨hx₁, rfl, rfl, trivial⟩ T.sa ?_
  refine put_field SF X₁ hx₁ T.ov T.hdC T.noN (fun h₃ tk₃ dx k₃ dn dne hx₃ hn₃ => ?_)
  show wpAny _ _ (execs _ _) _ _ _
  have z : s.heap.objs.size < h₁.objs.size := hn.lt
  exact wpAny_execs_nil (hq h₃ tk₃ dx ⟨fun b o hb q => k₃ b o hb (k b o q), hx₃, Nat.le_of_lt (Nat.lt_of_lt_of_le z dn), dne, hn₃⟩)
theorem made (T : Txt K mg x f C fI bmB newId) (S : Nm f) (SF : StoreFacts B bmB "object.__setattr__" "object") (FB : ExcBaseFacts B newId initId bmB) {v : Value} (X : K.In s.heap) (hlim : s.heap.NoLimit) (hroom : A.depth + 1 < recursionLimit)
    (hq : ∀ h' tk e d, Made s.heap h' e C d f v → R (.ok (.ret (.ref e))) { s with heap := h', toks := tk }) :
    codeAny (model prog w) A (.call (.ref C) ⟨[v], []⟩) R s := by
  obtain ⟨nm, N, q, bs, bm, hdct, sn, sub, ab, col, dd, k0, k1, k2, k3, k5, hC, hT⟩ := excInit_of X T.mkC
  obtain ⟨hp, g, dr, tk, os⟩ := s
  have k : ∀ b o, hp.get? b = some o → ((hp.push (kdv_tup [v])).push (excO C hp.objs.size)).get? b = some o := fun b o e => Heap.get?_push_of_some _ (Heap.get?_push_of_some _ e)
  have hget : ((hp.push (kdv_tup [v])).push (excO C hp.objs.size)).get? (hp.objs.size + 1) = some (excO C hp.objs.size) := by heap_get
  refine call_own FB hT hC (looks_findIn X T.iC) (fun self => bind_fn X self T.tC) (by show 1 ≤ sizeLine; rw [sizeLine_eq]; omega) ?_
  refine run_init (s := ⟨(hp.push (kdv_tup [v])).push (excO C hp.objs.size), g, dr, tk, os⟩) T S SF (X.keeps k) (hlim.keeps k) hget ?_ fun h' tk' dx ⟨k', hx, dn, dne, hns⟩ => ?_
  · show A.depth + 1 < recursionLimit
    exact hroom
  · have old : ∀ b o, hp.get? b = some o → h'.get? b = some o := fun b o e => k' b o (Nat.ne_of_lt (Nat.lt_succ_of_lt (Heap.lt_size e))) (k b o e)
    have z : hp.objs.size + 1 + 1 ≤ dx := by
      have q := dn
      rw [Heap.size_push, Heap.size_push] at q
      exact q
    exact ⟨rfl, hq h' tk' (hp.objs.size + 1) dx ⟨old, Nat.le_succ _, ⟨_, _, hx, rfl, rfl, rfl, rfl⟩, Nat.le_trans (Nat.le_trans (Nat.le_succ _) (Nat.le_succ _)) z, dne, hns⟩⟩
end
end XI
open PySem PySem.Spec PyProof.Rows L2
section
variable {X : Cx} {C fI : Addr} {bmB : List Value} {B newId initId : String} {f x : Str}
theorem relO_one {v : V} {v' : Value} (r : RelV v v') (g : Str) : RelO (List.lookup g [(f, v)]) (if g = f then some v' else none) := by
  by_cases hw : g = f
  · subst hw
    rw [if_pos rfl]
    have q : List.lookup g [(g, v)] = some v := by simp [List.lookup]
    rw [q]
    exact r
  · rw [if_neg hw]
    have qw : (g == f) = false := by simpa using hw
    have q2 : List.lookup g [(f, v)] = none := by simp [List.lookup, qw]
    rw [q2]
    trivial
theorem pmk1 {a : Expr} {ta : TA} {p pos : Pos} {k : Nat} (T : XI.Txt X.K X.mg x f C fI bmB newId) (S : XI.Nm f) (SF : StoreFacts B bmB "object.__setattr__" "object") (FB : ExcBaseFacts B newId initId bmB) (hr : Room k X.A) (ha : PA X [a] ta) (hg : Gl X x)
    (hdb : (x == ("__debug__" : Str)) = false := by decide) (he : starEach (a :: []) X.env = (false, eval a X.env) :: starEach [] X.env := by rfl) (hpl : (backTo pos (starEach [] X.env)).any (·.1) = false := by rfl) :
    PMk X (.Call (.Name x p) [a] [] pos) (fun σ H Q => ta σ H fun vs H1 => ∃ v, vs = [v] ∧ ∀ d, H1 d = none → Q (.ref C) (some d) (upd H1 d (.xd [(f, v)]))) := by
  intro pins s σ H Q I h
  refine wpAny_Call_Name_kw (ld_glob I hg T.gC ?_ hdb)
  refine PySem.W.callWith_K (h₀ := X.base) I.ok.mod.kin T.kC (thn (ha.run pos pins s σ H _ I h) fun us s1 hh => ?_) he hpl
  obtain ⟨vs, H1, I1, r1, v, ev, q1⟩ := hh
  subst ev
  refine ⟨I1.kIn, ?_⟩
  cases r1 with
  | cons rv rn =>
    rename_i v' us'
    cases rn
    show wpAny _ _ (call (.ref C) [v']) _ _ _
    have hlim := I1.nolimit
    obtain ⟨hp, g, dr, tk, os⟩ := s1
    refine wpAny_call (XI.made T S SF FB I1.kIn hlim (by have := hr.dp; omega) fun h' tk' e d M => ?_)
    show MkP X pins σ Q (.ref e) ⟨h', g, dr, tk', os⟩
    obtain ⟨oe, fv, hoe, hc, hd, hdat, h1⟩ := M.obj
    have hns := M.ns
    obtain ⟨G', g1, g2⟩ := restrict h' fun b => decide (b ≠ e)
    have gk : ∀ b, b ≠ e → G'.get? b = h'.get? b := fun b hb => g1 b (decide_eq_true hb)
    have ge : G'.get? e = none := g2 e (by simp)
    have old : ∀ b o, hp.get? b = some o → G'.get? b = some o := fun b o q => (gk b (Nat.ne_of_lt (Nat.lt_of_lt_of_le (Heap.lt_size q) M.new))).trans (M.keep b o q)
    have ob : ObjOk X.prog X.w (upd H1 d (.xd [(f, v)])) G' d (.xd [(f, v)]) :=
      ⟨_, hns.at (fun o q => (gk d M.dne).trans q), fun g => relO_one rv g⟩
    have J : Inv X pins σ (upd H1 d (.xd [(f, v)])) ⟨G', g, dr, tk', os⟩ := I1.laid (t' := tk') old M.dbig ob
    refine ⟨e, oe, fv, ⟨G', g, dr, tk', os⟩, _, .ref C, some d, rfl, J, fun b o q => ?_, ge, hoe, ⟨hc, hd⟩, hdat, h1, ?_, rfl, I1.bare, raises_own T.exC T.tyC, q1 d (I1.hok.fresh M.dbig)⟩
    · by_cases hb : b = e
      · have q' : G'.get? b = some o := q
        rw [hb, ge] at q'; cases q'
      · exact (gk b hb).symm.trans q
    · rw [upd_ne (Ne.symm M.dne)]
      exact I1.hok.fresh M.new
end
section
variable {X : Cx} {Z : Cz} {E : L2.St → XK} {pos p p2 : Pos} {x f : Str} {fI : Addr} {bmB : List Value} {B newId initId : String} {c : Nat}
def msRaise1 (c : Nat) (m : ME) : MS := fun σ h => (m σ h).bindS fun d h1 => .exn c [d] h1
theorem s_raise1 {a : Expr} {m : ME} {k : Nat} (hc : X.calm = true) (T : XI.Txt X.K X.mg x f (Z.κ c) fI bmB newId) (S : XI.Nm f) (SF : StoreFacts B bmB "object.__setattr__" "object") (FB : ExcBaseFacts B newId initId bmB) (hf : Z.fld c = [f]) (tk : Takes X (fun cl d τ H => E τ cl d H)) (hr : Room k X.A)
    (ha : PE X a (tE Z E m)) (hg : Gl X x) (hdb : (x == ("__debug__" : Str)) = false := by decide) (he : starEach (a :: []) X.env = (false, eval a X.env) :: starEach [] X.env := by rfl) (hpl : (backTo pos (starEach [] X.env)).any (·.1) = false := by rfl) :
    PS X (.Raise (some (.Call (.Name x p) [a] [] pos)) none p2) (tS Z E (msRaise1 c m)) :=
  (ps_raise hc tk (pmk1 T S SF FB hr (s_cons ha s_nil he) hg hdb he hpl)).imp fun De τ H => by
    rintro ⟨ρ, σ, h, rep, rs, q⟩
    refine ⟨ρ, σ, h, rep, rs, ?_⟩
    unfold msRaise1 at q
    unfold maCons maNil
    cases z : m σ h with
    | exn c' ds h' => rw [z] at q; exact q
    | bad => rw [z] at q; exact q.elim
    | ok d h' =>
      rw [z] at q
      intro ρ' H' b e' rep' rv
      cases rv with
      | cons rv rn =>
        cases rn
        refine ⟨_, rfl, fun dd hd => ?_⟩
        obtain ⟨e2, rep2⟩ := rep'.aside (u := .xd [(f, _)]) hd
        exact q ρ' _ _ _ (e'.trans e2) rep2 ⟨rfl, .inr ⟨d, f, _, dd, rfl, hf, rfl, upd_same, rv.mono rep' e2⟩⟩
end
end
end Sm
namespace Sm
open PySem PySem.Spec PyProof.Rows L2
noncomputable section
/-! ### try with clauses, each with a name or without -/
/-- one clause: its class, its name's slot, what its suite does with the caught one -/
structure Cl where
  c : Value
  i : Option Nat
  ts : Addr → Value → Option Addr → TS
def putE (i : Option Nat) (v : Option V) (σ : L2.St) : L2.St := match i with
  | some i => σ.set i v
  | none => σ
def endsE (i : Option Nat) (De : Ends) : Ends := { nx := fun σ H => De.nx (putE i none σ) H, rt := De.rt, bk := fun σ H => De.bk (putE i none σ) H, ct := fun σ H => De.ct (putE i none σ) H }
def wCl (K : PySem.W.Frag) (Wo : WX) (De : Ends) : List Cl → WX
  | [] => Wo
  | q :: r => fun cls d σ H => ∃ b, PySem.W.exmOne K cls q.c = some b ∧ (b = true → ∀ a, H a = none → q.ts a cls d (endsE q.i De) (putE q.i (some (.ref a)) σ) H) ∧ (b = false → wCl K Wo De r cls d σ H)
inductive ClOk (X : Cx) : List ExceptHandler → List Cl → Prop
  | nil : ClOk X [] []
  | bare {x : Str} {c : Value} {ts : Addr → Value → Option Addr → TS} {b₀ : Stmt} {suite : List Stmt} {np pos' : Pos} {hds : List ExceptHandler} {l : List Cl} (hc : Names X x c)
      (hsu : ∀ (a : Addr) (oe : Obj) (cls : Value) (d : Option Addr) (pn : List (Addr × Obj)), Zc cls d oe → (∃ vs, oe.data = .fields vs) → PSs (X.suite a ((a, oe) :: pn)) (b₀ :: suite) (ts a cls d)) (r : ClOk X hds l) :
      ClOk X (.ExceptHandler (some (.Name x np)) none (b₀ :: suite) pos' :: hds) (⟨c, none, ts⟩ :: l)
  | named {x n : Str} {i : Nat} {c : Value} {ts : Addr → Value → Option Addr → TS} {b₀ : Stmt} {suite : List Stmt} {np pos' : Pos} {hds : List ExceptHandler} {l : List Cl} (hc : Names X x c) (hi : X.N[i]? = some n) (hln : X.env.kindOf n = some .local)
      (hsu : ∀ (a : Addr) (oe : Obj) (cls : Value) (d : Option Addr) (pn : List (Addr × Obj)), Zc cls d oe → (∃ vs, oe.data = .fields vs) → PSs (X.suite a ((a, oe) :: pn)) (b₀ :: suite) (ts a cls d)) (r : ClOk X hds l) :
      ClOk X (.ExceptHandler (some (.Name x np)) (some n) (b₀ :: suite) pos' :: hds) (⟨c, some i, ts⟩ :: l)
section
variable {X : Cx} {body : List Stmt} {h₀ : ExceptHandler} {hds : List ExceptHandler} {l : List Cl} {pos : Pos} {tb : WX → TS} {Wo : WX}
theorem ps_tryC (hs : X.stack = X.env :: X.outer) (hf : X.env.frame = some X.env.locals) (hN : X.N.Nodup) (tk : Takes X Wo)
    (hb : ∀ (W : WX) (pn : List (Addr × Obj)) (xe : Value → Shared → Prop), Takes (X.tr pn xe) W → PassesOwn (model X.prog X.w) X.A X.env xe → PSs (X.tr pn xe) body (tb W))
    (hh : ClOk X (h₀ :: hds) l) : PS X (.Try body (h₀ :: hds) [] [] pos) (fun De σ H => tb (wCl X.K Wo De l) De σ H) := by
  refine ⟨fun pins s σ H De I h => ?_⟩
  have ok := I.ok
  have hfr : X.A.frames = some (X.env :: X.outer) := ok.frames.trans (congrArg some hs)
  refine wpAny_Try_except ?_
  -- the body runs; what it lets out comes to the clauses
  refine wpAny_mono ((hb (wCl X.K Wo De l) (X.pn ++ pins) (fun e s₁ => wpAny (model X.prog X.w) X.A (noteFrame e X.env) (fun _ s₂ => wpAny (model X.prog X.w) X.A (setFlight e none) (fun _ s₃ =>
    wpAny (model X.prog X.w) X.A (handleBy e X.env (h₀ :: hds)) (SP X pins De) X.xe s₃) X.xe s₂) X.xe s₁) (fun u s' xx => ?caught) PassesOwn.looking).run [] s σ H De (I.toTry _) h) (fun f s1 hsp => ?through) (fun _ _ he => he)
  case through =>
    cases f with
    | next =>
      obtain ⟨σ', H', J', q⟩ := hsp
      exact wpAny_execs_nil ⟨σ', H', J'.ofTry ok, q⟩
    | brk =>
      obtain ⟨σ', H', J', q⟩ := hsp
      exact ⟨σ', H', J'.ofTry ok, q⟩
    | cont =>
      obtain ⟨σ', H', J', q⟩ := hsp
      exact ⟨σ', H', J'.ofTry ok, q⟩
    | ret u =>
      obtain ⟨v, σ', H', J', r, q⟩ := hsp
      exact ⟨v, σ', H', J'.ofTry ok, r, q⟩
  case caught =>
    obtain ⟨a, B, sI, pins', σ', H', cls, d, rfl, J', nb, up, sky, na, os, ag, w⟩ := xx
    have J : Inv X pins σ' H' sI := J'.ofTry ok
    have sky' : Sky B (X.env :: X.outer) a (Zc cls d) X.env.locals s'.heap := by rw [← hs]; exact sky
    show wpAny (model X.prog X.w) X.A (noteFrame (.ref a) X.env) _ _ _
    refine Sky.land Zc.steady hfr hf sky' fun h3 fl3 up3 => ?_
    have J3 : Inv X pins σ' H' { s' with heap := h3 } := J.landed nb fl3.1 (up.trans up3) os ag
    obtain ⟨oe3, vs3, he3, hz3, hd3⟩ := fl3.there
    have nfr : a ∉ frs (X.env :: X.outer) := fun hm => by
      obtain ⟨_, o', e', hnf⟩ := fl3.2.2.1.mem hm
      rw [he3] at e'; cases e'
      exact hnf _ hd3
    have nL : a ≠ X.env.locals := fun z => nfr (List.mem_filterMap.mpr ⟨X.env, List.mem_cons_self, by rw [hf, z]⟩)
    have nF : a ∉ X.fs := fun hm => by
      obtain ⟨e, he, q⟩ := List.mem_filterMap.mp hm
      exact nfr (List.mem_filterMap.mpr ⟨e, List.mem_cons_of_mem _ he, q⟩)
    have S3 := J3.suite he3 hd3 na nL nF
    have LT : PySem.W.Looks (model X.prog X.w) h3 (typeOf (.ref a)) cls := fun A Q E s k q => wpAny_typeOf_ref (k _ _ he3) (by rw [hz3.1]; exact q)
    have ask : ∀ {x : Str} {c : Value} {np : Pos} {Q : Value → Shared → Prop} {E : Value → Shared → Prop}, Names X x c → Q c { s' with heap := h3 } → wpAny (model X.prog X.w) (X.A.mark (some (.ref a))) (eval (.Name x np) X.env) Q E { s' with heap := h3 } := fun {x c np Q E} hc q => by
      obtain ⟨hg, hdbg, hm | ⟨hm, hv, hnn⟩⟩ := hc
      · exact ld_glob (X := X.suite a ((a, oe3) :: (X.pn ++ pins))) S3 hg hm q hdbg
      · exact ld_blt (X := X.suite a ((a, oe3) :: (X.pn ++ pins))) S3 hg hm hv q hnn hdbg
    have go : ∀ {hds' : List ExceptHandler} {l' : List Cl}, ClOk X hds' l' → wCl X.K Wo De l' cls d σ' H' → wpAny (model X.prog X.w) X.A (handleBy (.ref a) X.env hds') (SP X pins De) X.xe { s' with heap := h3 } := by
      intro hds' l' hk
      induction hk with
      | nil =>
        intro w
        refine wpAny_handleBy_nil ?_
        obtain ⟨k1, k2, k3, oe, vs, T, oT, ts', he, hz, hd, h1, hr⟩ := id fl3
        unfold PySem.passOn
        refine wpAny_bind (wpAny_field he hd h1 ?_)
        rw [if_neg (show ¬ ((Value.ref T == Value.none) = true) from by simp)]
        have fin : wpAny (model X.prog X.w) X.A (setFlight (.ref a) X.env.frame) (fun _ s4 => wpAny (model X.prog X.w) X.A (throw (.ref a) : Sem Flow) (SP X pins De) X.xe s4) X.xe { s' with heap := h3 } := by
          rw [hf]
          exact HandSPX.setFlight_upZ fl3 fun h4 hh4 up4 => wpAny_throw (tk _ _ ⟨a, B, sI, pins, σ', H', cls, d, rfl, J, nb, (up.trans up3).trans up4, .inr (.inr (by rw [hs]; exact hh4)), na, os, ag, w⟩)
        first
          | exact wpAny_bind (wpAny_pure (wpAny_bind fin))
          | exact wpAny_bind fin
      | @bare x c ts b₀ suite np pos' hds2 l2 hc hsu r ih =>
        intro w
        obtain ⟨b, hb1, hyes, hno⟩ := w
        refine wpAny_handleBy_cons (codeAny_handlers_test ?_) (by intro q; cases q)
        refine ask hc ((PySem.W.exm_one (M := model X.prog X.w) J3.kIn LT hb1).here ?_)
        cases b with
        | false => exact ih (hno rfl)
        | true =>
          refine codeAny_handlers_suite ?_
          refine HandSPX.lands_againZ fl3 fun h4 fl4 up4 => ?_
          have J4 : Inv X pins σ' H' { s' with heap := h4 } := J.landed nb fl4.1 ((up.trans up3).trans up4) os ag
          obtain ⟨oe4, vs4, he4, hz4, hd4⟩ := fl4.there
          refine wpAny_mono ((hsu a oe4 cls d (X.pn ++ pins) hz4 ⟨_, hd4⟩).run [] _ _ H' _ (J4.suite he4 hd4 na nL nF) (hyes rfl a na)) (fun f s6 hsp => ?_) (fun _ _ z => False.elim z)
          cases f with
          | ret u =>
            obtain ⟨v6, σ6, H6, S6, r6, q6⟩ := hsp
            exact ⟨_, _, _, S6.unsuite ok, r6, q6⟩
          | _ =>
            obtain ⟨σ6, H6, S6, q6⟩ := hsp
            exact ⟨_, _, S6.unsuite ok, q6⟩
      | @named x n i c ts b₀ suite np pos' hds2 l2 hc hi hln hsu r ih =>
        intro w
        obtain ⟨b, hb1, hyes, hno⟩ := w
        refine wpAny_handleBy_cons (codeAny_handlers_test ?_) (by intro q; cases q)
        refine ask hc ((PySem.W.exm_one (M := model X.prog X.w) J3.kIn LT hb1).here ?_)
        cases b with
        | false => exact ih (hno rfl)
        | true =>
          refine codeAny_handlers_suite_as ?_
          refine HandSPX.lands_againZ fl3 fun h4 fl4 up4 => ?_
          have J4 : Inv X pins σ' H' { s' with heap := h4 } := J.landed nb fl4.1 ((up.trans up3).trans up4) os ag
          obtain ⟨oe4, vs4, he4, hz4, hd4⟩ := fl4.there
          have S4 := J4.suite he4 hd4 na nL nF
          refine store_ok (X := X.suite a ((a, oe4) :: (X.pn ++ pins))) (v := .ref a) S4 hN hi (.inl hln) rfl (fun s5 S5 => ?_) (.inr hln)
          refine wpAny_mono ((hsu a oe4 cls d (X.pn ++ pins) hz4 ⟨_, hd4⟩).run [] s5 _ H' _ S5 (hyes rfl a na)) (fun f s6 hsp => ?_) (fun _ _ z => False.elim z)
          have fin : ∀ {σ6 : L2.St} {H6 : Hp} {Q : Shared → Prop}, Inv (X.suite a ((a, oe4) :: (X.pn ++ pins))) [] σ6 H6 s6 → (∀ s7, Inv X pins (σ6.set i none) H6 s7 → Q s7) →
              wpAny (model X.prog X.w) X.A (do bindName X.env n .none; unbindBehindTheSuite X.env n pos') (fun _ s7 => Q s7) X.xe s6 := fun {σ6 H6 Q} S6 hq => gone_ok (S6.unsuite ok) hN hi hln hq
          cases f with
          | ret u =>
            obtain ⟨v6, σ6, H6, S6, r6, q6⟩ := hsp
            exact fin S6 fun s7 J7 => ⟨_, _, _, J7, r6, q6⟩
          | _ =>
            obtain ⟨σ6, H6, S6, q6⟩ := hsp
            exact fin S6 fun s7 J7 => ⟨_, _, J7, q6⟩
    exact go hh w
end
end
end Sm
namespace Sm
open PySem PySem.Spec PyProof.Rows L2
noncomputable section
/-! ### what a suite says of the caught one: parts of a list -/
abbrev AM := Nat → List D → Option D
def amAll : List AM → Nat → List D → Option (List D)
  | [], _, _ => some []
  | a :: r, c, ds => match a c ds with
    | some d => match amAll r c ds with
      | some l => some (d :: l)
      | none => none
    | none => none
def Held (i : Option Nat) (a : Addr) (τ : L2.St) : Prop := ∀ k, i = some k → τ[k]? = some (some (.ref a))
def tX (Z : Cz) (i : Option Nat) (a : Addr) (cls : Value) (dd : Option Addr) (am : AM) : TE := fun τ H Q => ∃ ρ n c ds dv, RX Z ρ n H c ds cls dd ∧ Held i a τ ∧ am c ds = some dv ∧ ∀ v, RV Z ρ n H dv v → Q v H
def tXs (Z : Cz) (i : Option Nat) (a : Addr) (cls : Value) (dd : Option Addr) (ams : List AM) : TA := fun τ H Q => ∃ ρ n c ds dvs, RX Z ρ n H c ds cls dd ∧ Held i a τ ∧ amAll ams c ds = some dvs ∧ ∀ vs, RVs Z ρ n H dvs vs → Q vs H
def amC (d : D) : AM := fun _ _ => some d
def amF (c0 : Nat) : AM := fun c ds => match Nat.beq c c0 with
  | true => match ds with
    | [x] => some x
    | _ => none
  | false => none
def amI (t : Nat → Option Bool) : AM := fun c _ => match t c with
  | some b => some (.bl b)
  | none => none
section
variable {X : Cx} {Z : Cz} {i : Option Nat} {a : Addr} {cls : Value} {dd : Option Addr} {pos p p1 p2 : Pos}
theorem x_C {e : Expr} {d : D} {v : V} (h : PE X e (tC v)) (r : ∀ ρ n H, RV Z ρ n H d v) : PE X e (tX Z i a cls dd (amC d)) := h.imp fun τ H Q => by
  rintro ⟨ρ, n, c, ds, dv, rx, hd, e, q⟩
  cases e
  exact q v (r _ _ _)
theorem x_str {s : Str} {j : Nat} : PE X (.Constant (.str s) j pos) (tX Z i a cls dd (amC (.str s))) := x_C pe_str fun _ _ _ => .str s
theorem x_nil : PA X [] (tXs Z i a cls dd []) := pa_nil.imp fun τ H Q => by
  rintro ⟨ρ, n, c, ds, dv, rx, hd, e, q⟩
  cases e
  exact q _ .nil
theorem x_cons {e : Expr} {es : List Expr} {m : AM} {ms : List AM} (h : PE X e (tX Z i a cls dd m)) (hs : PA X es (tXs Z i a cls dd ms)) (he : starEach (e :: es) X.env = (false, eval e X.env) :: starEach es X.env := by rfl) : PA X (e :: es) (tXs Z i a cls dd (m :: ms)) := (pa_cons h hs he).imp fun τ H Q => by
  rintro ⟨ρ, n, c, ds, dvs, rx, hd, e, q⟩
  unfold amAll at e
  cases z : m c ds with
  | none => rw [z] at e; cases e
  | some dv =>
    rw [z] at e
    cases z2 : amAll ms c ds with
    | none => simp only [z2] at e; cases e
    | some l =>
      simp only [z2] at e
      cases e
      exact ⟨ρ, n, c, ds, dv, rx, hd, z, fun v rv => ⟨ρ, n, c, ds, l, rx, hd, z2, fun vs rvs => q _ (.cons rv rvs)⟩⟩
/-- the field -/
theorem x_fld {oe : Obj} {pn : List (Addr × Obj)} {k c0 : Nat} {f n : Str} (hz : Zc cls dd oe) (hv : ∃ vs, oe.data = .fields vs) (T : XfC X.K (Z.κ c0)) (hno : PySem.W.findIn X.K (.ref (Z.κ c0)) f = some none) (hf : Z.fld c0 = [f])
    (hp : PE (X.suite a ((a, oe) :: pn)) (.Name n p) (tVar k)) (hb : attributeBase (.Name n p) f X.env (eval (.Name n p) X.env) = eval (.Name n p) X.env := by rfl) : PE (X.suite a ((a, oe) :: pn)) (.Attribute (.Name n p) f pos) (tX Z (some k) a cls dd (amF c0)) :=
  (pe_xf T hno hz hv hp hb).imp fun τ H Q => by
    rintro ⟨ρ, m, c, ds, dv, rx, hd, e, q⟩
    unfold amF at e
    cases z : Nat.beq c c0 with
    | false => rw [z] at e; cases e
    | true =>
      rw [z] at e
      obtain rfl := Nat.eq_of_beq_eq_true z
      obtain ⟨hcl, ⟨h1, _⟩ | ⟨d, g, v, dx, rfl, hg, h3, h4, h5⟩⟩ := rx
      · subst h1; cases e
      · cases e
        rw [hf] at hg
        cases hg
        exact ⟨_, hd k rfl, rfl, hcl, dx, _, v, h3, h4, by simp [List.lookup], q _ h5⟩
/-- isinstance -/
def rIsX (Z : Cz) (K : PySem.W.Frag) (a : Addr) (cls : Value) (dd : Option Addr) : List V → Hp → VK → Prop := fun xs H Q => ∃ (ρ : Nat → Addr) (n c : Nat) (ds : List D) (v : V) (cv : Value) (b : Bool), RX Z ρ n H c ds cls dd ∧ xs = [.ref a, v] ∧ (∀ u, RelV v u → u = cv) ∧ ExcC K (Z.κ c) ∧ PySem.W.kitOne K (.ref (Z.κ c)) cv = some b ∧ Q (.bl b) H
theorem call_isX {oe : Obj} {pn : List (Addr × Obj)} (hz : Zc cls dd oe) (hv : ∃ vs, oe.data = .fields vs) : CallR (X.suite a ((a, oe) :: pn)) (.builtin "isinstance") (rIsX Z X.K a cls dd) := by
  intro pins s σ H xs us Q I r h
  obtain ⟨ρ, n, c, ds, v, cv, b, rx, rfl, hcv, C, e, q⟩ := h
  cases r with
  | cons rx0 rr =>
    cases rr with
    | cons rt rr =>
      cases rr
      cases rx0
      have ec := hcv _ rt
      subst ec
      obtain ⟨hget, _⟩ := I.pin (a, oe) (List.mem_append.mpr (.inl List.mem_cons_self))
      obtain ⟨vs, hd⟩ := hv
      have hcl : (PySem.W.clsIn X.K (Z.κ c)).isSome = true := by
        obtain ⟨cd, hc, _⟩ := PySem.W.any_some C.hd
        rw [hc]; rfl
      obtain ⟨h0, ⟨_, h1⟩ | ⟨d, g, v', dx, _, _, h3, h4, _⟩⟩ := rx
      · have J : PySem.W.InstAt s.heap a oe (Z.κ c) none := ⟨hget, hz.1.trans h0, by unfold PySem.W.notCls; rw [hd] <;> rfl, by rw [hz.2, h1]; trivial⟩
        exact PySem.W.kia_one (PySem.W.kitx_exc hcl C.hg C.hk C.hs C.ha C.hn C.ht C.hm) I.kIn J e (fun z => nomatch z) fun tk => ⟨.bl b, H, I.kept (t' := tk) fun _ _ z => z, rfl, q⟩
      · have hx : ObjOk X.prog X.w H s.heap dx (.xd [(g, v')]) := I.hok dx _ h4
        obtain ⟨mA, hns, hr⟩ := hx
        obtain ⟨od, ho, hl⟩ := lookIn_ns hns
        have J : PySem.W.InstAt s.heap a oe (Z.κ c) (some od) := ⟨hget, hz.1.trans h0, by unfold PySem.W.notCls; rw [hd] <;> rfl, by rw [hz.2, h3]; exact ho⟩
        exact PySem.W.kia_one (PySem.W.kitx_exc hcl C.hg C.hk C.hs C.ha C.hn C.ht C.hm) I.kIn J e (fun z => nomatch z) fun tk => ⟨.bl b, H, I.kept (t' := tk) fun _ _ z => z, rfl, q⟩
theorem x_isi {oe : Obj} {pn : List (Addr × Obj)} {k : Nat} {n T : Str} {t : String} {tb : Nat → Option Bool} (hz : Zc cls dd oe) (hv : ∃ vs, oe.data = .fields vs) (hg : Gl X "isinstance") (hm : X.mg "isinstance" = none) (hbb : bootBuiltins "isinstance" = some (.builtin "isinstance"))
    (hp : PE (X.suite a ((a, oe) :: pn)) (.Name n p1) (tVar k)) (pT : PE (X.suite a ((a, oe) :: pn)) (.Name T p2) (tC (.ty t))) (hC : ∀ c b, tb c = some b → ExcC X.K (Z.κ c)) (hb : ∀ c b, tb c = some b → PySem.W.kitOne X.K (.ref (Z.κ c)) (.type t) = some b)
    (he : starEach [.Name n p1, .Name T p2] X.env = (false, eval (.Name n p1) X.env) :: starEach [.Name T p2] X.env := by rfl) (he2 : starEach [.Name T p2] X.env = (false, eval (.Name T p2) X.env) :: starEach [] X.env := by rfl) (hpl : (backTo pos (starEach [.Name T p2] X.env)).any (·.1) = false := by rfl) :
    PE (X.suite a ((a, oe) :: pn)) (.Call (.Name "isinstance" p) [.Name n p1, .Name T p2] [] pos) (tX Z (some k) a cls dd (amI tb)) :=
  (pe_callB (X := X.suite a ((a, oe) :: pn)) (call_isX hz hv) hg hm hbb (pa_cons hp (pa_cons pT pa_nil he2) he) (by decide) (by decide) he hpl).imp fun τ H Q => by
    rintro ⟨ρ, m, c, ds, dv, rx, hd, e, q⟩
    unfold amI at e
    cases z : tb c with
    | none => rw [z] at e; cases e
    | some b =>
      rw [z] at e
      cases e
      exact ⟨_, hd k rfl, ρ, m, c, ds, _, .type t, b, rx, rfl, fun u r => r, hC c b z, hb c b z, q _ (.bl b)⟩
end
/-! ### suites, the whole try -/
abbrev SM := Nat → List D → MS
def tsM (Z : Cz) (i : Option Nat) (sm : SM) (a : Addr) (cls : Value) (dd : Option Addr) : TS := fun De τ H => ∃ ρ σ h c ds, Rep Z ρ h H ∧ RS Z ρ h.n H σ τ ∧ RX Z ρ h.n H c ds cls dd ∧ Held i a τ ∧ AftS Z ρ h H (sm c ds σ h) De (fun _ _ _ => False)
def smSet (j : Nat) (ams : List AM) : SM := fun c ds σ h => match amAll ams c ds with
  | some l => match small l.length with
    | true => .nx (σ.set j (some (.ref h.n))) (h.push (.lst l))
    | false => .bad
  | none => .bad
theorem xs_set {X : Cx} {Z : Cz} {i : Option Nat} {a : Addr} {cls : Value} {dd : Option Addr} {pos p1 p2 : Pos} {j : Nat} {x : Str} {es : List Expr} {ams : List AM} (hN : X.N.Nodup) (hi : X.N[j]? = some x) (hx : L2.Loc X.env.scope x) (h : PA X es (tXs Z i a cls dd ams)) (hs : swapsWith (.List es p2) (some (.Name x p1)) pos.line X.env = pure false := by rfl)
    (hf : X.fn x = true ∨ X.env.scope.names.lookup x = some .local := by first | exact .inl rfl | exact .inr rfl | assumption) : PSs X [.Assign [.Name x p1] (.List es p2) pos] (tsM Z i (smSet j ams) a cls dd) := (pss_one (ps_set hN hi hx (pe_lst h) hs hf)).imp fun De τ H => by
  rintro ⟨ρ, σ, h, c, ds, rep, rs, rx, hd, q⟩
  unfold smSet at q
  cases z : amAll ams c ds with
  | none => rw [z] at q; exact q.elim
  | some l =>
    rw [z] at q
    dsimp only at q
    cases z2 : small l.length with
    | false => rw [z2] at q; exact q.elim
    | true =>
      rw [z2] at q
      refine ⟨ρ, h.n, c, ds, l, rx, hd, z, fun vs rvs => ⟨by rw [← rvs.length]; exact small_ok z2, fun p hp => ?_⟩⟩
      have := new_lst (Q := fun v H' => De.nx (τ.set j (some v)) H') (E := fun _ _ _ => False) rep rvs (fun ρ' H' b e' r' l' => q ρ' H' _ e' r' ((rs.mono rep e').set l')) hp
      exact this
structure Hd where
  m : Nat → Bool
  i : Option Nat
  s : SM
def lput (i : Option Nat) (d : Option D) (σ : Loc) : Loc := match i with
  | some i => σ.set i d
  | none => σ
def inL (i : Option Nat) (σ : Loc) : Bool := match i with
  | some i => Nat.ble (i + 1) σ.length
  | none => true
def mHandle : List Hd → Nat → List D → MS
  | [], c, ds, _, h => .exn c ds h
  | q :: r, c, ds, σ, h => match q.m c with
    | true => match inL q.i σ with
      | true => match q.s c ds (lput q.i (some .exc) σ) h with
        | .nx σ' h' => .nx (lput q.i none σ') h'
        | .rt d h' => .rt d h'
        | .bk σ' h' => .bk (lput q.i none σ') h'
        | .ct σ' h' => .ct (lput q.i none σ') h'
        | _ => .bad
      | false => .bad
    | false => mHandle r c ds σ h
def msTry (mb : MS) (l : List Hd) : MS := fun σ h => match mb σ h with
  | .exn c ds h' => mHandle l c ds σ h'
  | r => r
theorem RS.unset {Z : Cz} {ρ : Nat → Addr} {n : Nat} {H : Hp} {σ : Loc} {τ : L2.St} (q : RS Z ρ n H σ τ) {i : Nat} : RS Z ρ n H (σ.set i none) (τ.set i none) := by
  refine ⟨by rw [List.length_set, List.length_set]; exact q.1, fun j d' e => ?_⟩
  by_cases hj : i = j
  · subst hj
    by_cases hi : i < σ.length
    · rw [List.getElem?_set_self hi] at e; cases e
    · rw [List.set_eq_of_length_le (by omega), List.getElem?_eq_none (by omega)] at e; cases e
  · rw [List.getElem?_set_ne hj] at e
    obtain ⟨w, a, b⟩ := q.2 j d' e
    exact ⟨w, by rw [List.getElem?_set_ne hj]; exact a, b⟩
theorem RS.put {Z : Cz} {ρ : Nat → Addr} {n : Nat} {H : Hp} {σ : Loc} {τ : L2.St} (q : RS Z ρ n H σ τ) (i : Option Nat) (a : Addr) : RS Z ρ n H (lput i (some .exc) σ) (putE i (some (.ref a)) τ) := by
  cases i with
  | none => exact q
  | some i => exact q.set (.exc a)
theorem RS.off {Z : Cz} {ρ : Nat → Addr} {n : Nat} {H : Hp} {σ : Loc} {τ : L2.St} (q : RS Z ρ n H σ τ) (i : Option Nat) : RS Z ρ n H (lput i none σ) (putE i none τ) := by
  cases i with
  | none => exact q
  | some i => exact q.unset
/-- the clauses of the program beside the mirror's -/
inductive HdRel (Z : Cz) (K : PySem.W.Frag) : List Cl → List Hd → Prop
  | nil : HdRel Z K [] []
  | cons {c : Value} {q : Hd} {l : List Cl} {r : List Hd} (hm : ∀ k, PySem.W.exmOne K (.ref (Z.κ k)) c = some (q.m k)) (t : HdRel Z K l r) : HdRel Z K (⟨c, q.i, tsM Z q.i q.s⟩ :: l) (q :: r)
theorem handle_ok {Z : Cz} {K : PySem.W.Frag} {E : L2.St → XK} {De : Ends} {τ : L2.St} {c : Nat} {ds : List D} {cls : Value} {dd : Option Addr} {σ : Loc} {h : Hm} {ρ : Nat → Addr} {H : Hp} (rep : Rep Z ρ h H) (rs : RS Z ρ h.n H σ τ) (rx : RX Z ρ h.n H c ds cls dd) :
    ∀ {l : List Cl} {r : List Hd}, HdRel Z K l r → AftS Z ρ h H (mHandle r c ds σ h) De (E τ) → wCl K (fun cl d τ H => E τ cl d H) De l cls dd τ H := by
  intro l r t
  induction t with
  | nil => exact fun q => q ρ H cls dd Ext.refl rep rx
  | @cons cv q l r hm t ih =>
    intro w
    have e : PySem.W.exmOne K cls cv = some (q.m c) := by rw [rx.1]; exact hm c
    unfold mHandle at w
    refine ⟨_, e, fun hb a na => ?_, fun hb => ?_⟩
    · rw [hb] at w
      dsimp only at w
      cases z : inL q.i σ with
      | false => rw [z] at w; exact w.elim
      | true =>
        rw [z] at w
        dsimp only at w
        refine ⟨ρ, _, h, c, ds, rep, rs.put q.i a, rx, fun k hk => ?_, ?_⟩
        · rw [hk] at z ⊢
          have : k + 1 ≤ σ.length := Nat.le_of_ble_eq_true z
          show (τ.set k (some (.ref a)))[k]? = _
          rw [List.getElem?_set_self (by rw [← rs.1]; omega)]
        · cases y : q.s c ds (lput q.i (some .exc) σ) h with
          | nx σ' h' => rw [y] at w; exact fun ρ' H' τ' e' r' l => w ρ' H' _ e' r' (l.off q.i)
          | rt d h' => rw [y] at w; exact w
          | bk σ' h' => rw [y] at w; exact fun ρ' H' τ' e' r' l => w ρ' H' _ e' r' (l.off q.i)
          | ct σ' h' => rw [y] at w; exact fun ρ' H' τ' e' r' l => w ρ' H' _ e' r' (l.off q.i)
          | exn c' ds' h' => rw [y] at w; exact w.elim
          | bad => rw [y] at w; exact w.elim
    · rw [hb] at w
      exact ih w
theorem s_try {X : Cx} {Z : Cz} {E : L2.St → XK} {pos : Pos} {body : List Stmt} {h₀ : ExceptHandler} {hds : List ExceptHandler} {l : List Cl} {r : List Hd} {mb : MS} (hs : X.stack = X.env :: X.outer) (hf : X.env.frame = some X.env.locals) (hN : X.N.Nodup) (tk : Takes X (fun cl d τ H => E τ cl d H))
    (hb : ∀ (W : WX) (pn : List (Addr × Obj)) (xe : Value → Shared → Prop), Takes (X.tr pn xe) W → PassesOwn (model X.prog X.w) X.A X.env xe → PSs (X.tr pn xe) body (tS Z (fun τ cl d H => W cl d τ H) mb)) (hh : ClOk X (h₀ :: hds) l) (hr : HdRel Z X.K l r) :
    PS X (.Try body (h₀ :: hds) [] [] pos) (tS Z E (msTry mb r)) := (ps_tryC hs hf hN tk (tb := fun W => tS Z (fun τ cl d H => W cl d τ H) mb) hb hh).imp fun De τ H => by
  rintro ⟨ρ, σ, h, rep, rs, q⟩
  refine ⟨ρ, σ, h, rep, rs, ?_⟩
  unfold msTry at q
  cases z : mb σ h with
  | nx σ' h' => rw [z] at q; exact q
  | rt d h' => rw [z] at q; exact q
  | bk σ' h' => rw [z] at q; exact q
  | ct σ' h' => rw [z] at q; exact q
  | bad => rw [z] at q; exact q
  | exn c ds h' =>
    rw [z] at q
    exact fun ρ' H' cl dd e' rep' rx => handle_ok rep' (rs.mono rep e') rx hr (AftS.shift e' q)
end
end Sm
namespace Sm
noncomputable section
namespace XE
open PySem
open AutoSeq1 (wpAny_loadPart')
open PySem.W PySem.Calls PyProof.Rows
/-! ### enumerate of whatever begins -/
theorem meets_enumB {v : Value} {o : Obj} {Hh : Heap → Prop} (B : Begins v o Hh) :
    Meets (Builtin.«enumerate.__new__» ⟨[.type "enumerate", v], []⟩) (fun _ R s => Hh s.heap ∧
      R (.ok (.ret (.ref (s.heap.push o).objs.size))) { s with heap := (s.heap.push o).push { cls := .type "enumerate", data := .fields #[.none, .bool false, .ref s.heap.objs.size, rawInt 0, .none, .none] } }) :=
  .of_wp fun prog w A R s h => by
    obtain ⟨hp, g, d, tk, os⟩ := s
    obtain ⟨h1, h⟩ := h
    have hsub := sub_enumerate
    have q1 : ∀ {A' : Around} {E : Value → Shared → Prop} {Q : Value → Shared → Prop}, Q (.ref hp.objs.size) ⟨hp.push o, g, d, tk, os⟩ → wpAny (model prog w) A' (pyIter v) Q E ⟨hp, g, d, tk, os⟩ :=
      fun q => B.iter prog w _ _ ⟨hp, g, d, tk, os⟩ _ h1 q
    wp_walk using q1
    refine wpAny_stack_any fun st => wpAny_pure ?_
    split
    · rename_i c _ _ _ _ _
      cases (c == Value.type "enumerate")
      · wp_walk using q1
        exact ⟨_, rfl, h⟩
      · wp_walk using q1
        exact ⟨_, rfl, h⟩
    · wp_walk using q1
      exact ⟨_, rfl, h⟩
theorem call_enumB {prog : Program} {w : World} {A : Around} {E : Value → Shared → Prop} {s : Shared} {v : Value} {o : Obj} {Hh : Heap → Prop} {Q : Value → Shared → Prop} (B : Begins v o Hh) (h1 : Hh s.heap)
    (h : ∀ h', IsEnum h' (s.heap.objs.size + 1) s.heap.objs.size 0 .none → h'.get? s.heap.objs.size = some o → (∀ b o, s.heap.get? b = some o → h'.get? b = some o) → Q (.ref (s.heap.objs.size + 1)) { s with heap := h' }) :
    wpAny (model prog w) A (call (.type "enumerate") [v]) Q E s := by
  refine callType_new F.called_enumerate (by decide) (F.typeCall_enumerate_1 _) (F.newCall_enumerate_1 _) (fun obj => F.args_object_init_2 obj _) F.entry_enumerate_new (meets_enumB B) ⟨h1, ?_⟩
  have hz : (s.heap.push o).objs.size = s.heap.objs.size + 1 := Heap.size_push ..
  show _ ∧ _
  rw [hz]
  have he : IsEnum ((s.heap.push o).push { cls := .type "enumerate", data := .fields #[.none, .bool false, .ref s.heap.objs.size, rawInt 0, .none, .none] }) (s.heap.objs.size + 1) s.heap.objs.size 0 .none := by
    have := Heap.get?_push_size (s.heap.push o) (o := { cls := .type "enumerate", data := .fields #[.none, .bool false, .ref s.heap.objs.size, rawInt 0, .none, .none] }) rfl
    rw [hz] at this; exact this
  exact ⟨⟨_, he, rfl⟩, h _ he (Heap.get?_push_of_some _ (Heap.get?_push_size _ B.free)) fun b o x => Heap.get?_push_of_some _ (Heap.get?_push_of_some _ x)⟩
end XE
open PySem PySem.Spec PyProof.Rows L2
/-! ### enumerate of a tuple, walked -/
def IteT (K : PySem.W.Frag) (a : Addr) : It :=
  ⟨fun i H => ∃ (xs : List V) (x : V), SqT K H a xs ∧ xs[i]? = some x, fun i H v H' => ∃ T x, v = .ref T ∧ H T = none ∧ H' = upd H T (.tup [.int (i : Nat), x]) ∧ ∀ xs, SqT K H a xs → xs[i]? = some x, fun i H => ∃ xs : List V, SqT K H a xs ∧ xs.length ≤ i⟩
theorem turn_enumT {P : Program} {w : World} {K : PySem.W.Frag} {elts : List Expr} {kk : Nat} {tpos : Pos} (a e it : Addr) :
    Turn P w K (.Tuple elts kk tpos) (IteT K a) [e, it] e (fun i h => (∃ old, IsEnum h e it ((i : Nat) : Int) old) ∧ h.IsTupleIter it a i ∧ e ≠ it ∧ a ≠ it ∧ e ≠ a) where
  mem := by simp
  obj := fun i h st b hb => by
    obtain ⟨⟨old, he⟩, ⟨o, ho, hc, hd⟩, _⟩ := st
    rcases (by simpa using hb : b = e ∨ b = it) with z | z
    · rw [z]; exact ⟨_, he, fun v q => nomatch q⟩
    · rw [z]; exact ⟨o, ho, fun v q => by rw [hd] at q; cases q⟩
  keep := fun i h h' st k => let ⟨⟨old, he⟩, hi, hne⟩ := st; ⟨⟨old, k e (by simp) _ he⟩, hi.at fun o q => k it (by simp) o q, hne⟩
  item := by
    intro X hP hw hK hc i pins s σ H E I hf st hg
    subst hP hw hK
    obtain ⟨⟨old, he⟩, hit, hne, hai, hea⟩ := st
    obtain ⟨xs, x, hq, hx⟩ := hg
    obtain ⟨its, rv, p, _⟩ := I.tuple hq
    obtain ⟨u, hu, ru⟩ := rv.get hx
    have hel : e < s.heap.objs.size := Heap.lt_size he
    have hil : it < s.heap.objs.size := by obtain ⟨_, q, _⟩ := hit; exact Heap.lt_size q
    have hi : i < its.toArray.size := by
      have := (List.getElem?_eq_some_iff.mp hu).1
      simpa using this
    refine wpAny_pyNext_enum_itemD (Draws.tuple (A := X.A.in1) (I.ok.hd hc) it a hai its.toArray) he ⟨hit, p⟩ hi hne (by simp [hne, hea]) fun x' h' tk hP ho st' hT hsz hk => ?_
    have ex : x' = u := by
      have q : its.toArray[i]? = some x' := hP
      rw [List.getElem?_toArray, hu] at q
      exact (Option.some.inj q).symm
    subst ex
    refine ⟨_, rfl, wpAny_letOwnedTupleGo_enum (s := { s with heap := h', toks := tk + 1 }) ho fun h'' he' sb => ?_⟩
    have hT2 : h''.get? s.heap.objs.size = some { cls := .type "tuple", data := .seq #[.int i tk, x'] } := (sb.2 _ (Nat.ne_of_gt hel)).trans hT
    have new : ObjOk X.prog X.w (upd H s.heap.objs.size (.tup [.int (i : Nat), x])) h'' s.heap.objs.size (.tup [.int (i : Nat), x]) :=
      ⟨by show 2 ≤ sizeLine; decide, [.int i tk, x'], .cons ⟨_, rfl⟩ (.cons ru .nil), ⟨_, hT2, rfl, _, rfl⟩⟩
    have I1 : Inv X pins σ (upd H s.heap.objs.size (.tup [.int (i : Nat), x])) { s with heap := h'', toks := tk + 1 } :=
      I.turnedNew (ch := [e, it]) (fun b ob hb q => (sb.2 b (fun z => hb (by simp [z]))).trans (hk b ob (fun z => hb (by simp [z])) (fun z => hb (by simp [z])) q)) hf (Nat.le_refl _) new
    refine ⟨.ref s.heap.objs.size, _, I1, rfl, ⟨_, x, rfl, I.hok.fresh (Nat.le_refl _), rfl, fun ys hy => by rw [I.tuple_inj hy hq]; exact hx⟩, ⟨⟨x', ?_⟩, st'.1.at fun o q => (sb.2 it (Ne.symm hne)).trans q, hne, hai, hea⟩, fun b hb => ?_⟩
    · have e1 : ((i + 1 : Nat) : Int) = (i : Int) + 1 := by omega
      rw [e1]; exact he'
    · have hb' : b < s.heap.objs.size := by
        rcases (by simpa using hb : b = e ∨ b = it) with z | z
        · rw [z]; exact hel
        · rw [z]; exact hil
      rw [upd_ne (Nat.ne_of_lt hb')]
      exact (hf b hb).1
  done := by
    intro X hP hw hK hc i pins s σ H E I hf st hg
    subst hP hw hK
    obtain ⟨⟨old, he⟩, hit, hne, hai, hea⟩ := st
    obtain ⟨xs, hq, hx⟩ := hg
    obtain ⟨its, rv, p, _⟩ := I.tuple hq
    obtain ⟨f0, f1, f2, f3, f4, f5⟩ := hf it (by simp)
    have hl := rv.length
    have hend : its.toArray[i]? = none := by simp; omega
    have D : Draws X.prog X.w X.A.in1 it [it, a] i (fun _ _ => True) (fun j h => j = i ∧ h.IsTupleIter it a i ∧ h.IsTuple a its.toArray) :=
      { live := fun _ _ st => let ⟨_, ⟨o, ho, _⟩, _⟩ := st; ⟨o, ho⟩
        frame := fun _ _ _ st hk => ⟨st.1, st.2.1.at fun o q => hk it (by simp) o q, st.2.2.at fun o q => hk a (by simp) o q⟩
        item := fun j s Q E hj st _ => absurd st.1 (Nat.ne_of_lt hj)
        done := fun s Q E st hE => wpAny_nextOf_tuple_end (I.ok.hd hc) st.2.1 st.2.2 hend hE }
    exact wpAny_pyNext_enum_endD D he ⟨rfl, hit, p⟩ fun h' eb => ⟨rfl, I.turned (t' := s.toks) (fun b o hb q => eb b o hb q) f0 f1 f3 f4 f5⟩
  self := fun A i s Q E st h => let ⟨⟨_, he⟩, _⟩ := st; wpAny_pyIter_enum he h
/-- over enumerate(e): a list, a tuple -/
def iEnumA (K : PySem.W.Frag) (ta : TA) : TI := fun σ H R => ta σ H fun vs H1 => ∃ a xs, vs = [.ref a] ∧ ((SqL K H1 a xs ∧ R (Ite K a) H1) ∨ (SqT K H1 a xs ∧ R (IteT K a) H1))
theorem pi_enumA {X : Cx} {e : Expr} {ta : TA} {p pos tpos : Pos} {elts : List Expr} {kk : Nat} (hg : Gl X "enumerate") (hm : X.mg "enumerate" = none) (ha : PA X [e] ta) (hs : starEach [e] X.env = [(false, eval e X.env)] := by rfl) :
    PI X (.Tuple elts kk tpos) (.Call (.Name "enumerate" p) [e] [] pos) (iEnumA X.K ta) := by
  refine ⟨fun pins s σ H R I h => ?_⟩
  refine Call_ (ld_blt I hg hm boot_enumerate (PyProof.Rows.callWith_type1 (thn (ha.run pos pins s σ H _ I h) fun us s1 ⟨vs, H1, I1, r1, q1⟩ => ?_) hs rfl))
  obtain ⟨a, xs, ex, q⟩ := q1
  subst ex
  cases r1 with
  | cons r rr =>
    cases rr
    cases r
    have fp : ∀ b ∈ [s1.heap.objs.size + 1, s1.heap.objs.size], s1.heap.objs.size ≤ b := fun b hb => by
      rcases (by simpa using hb : b = s1.heap.objs.size + 1 ∨ b = s1.heap.objs.size) with z | z
      · rw [z]; exact Nat.le_add_right _ _
      · rw [z]; exact Nat.le_refl _
    rcases q with ⟨hq, q⟩ | ⟨hq, q⟩
    · obtain ⟨its, rv, p', hz⟩ := I1.list hq
      refine XE.call_enumB (begins_list a _) p'.isList fun h' he hit hk => wpAny_pyIter_enum he ?_
      have I2 : Inv X pins σ H1 { s1 with heap := h' } := I1.kept (t' := s1.toks) hk
      exact ⟨s1.heap.objs.size + 1, [s1.heap.objs.size + 1, s1.heap.objs.size], _, _, H1, rfl, I2, turn_enum a (s1.heap.objs.size + 1) s1.heap.objs.size, ⟨⟨.none, he⟩, ⟨_, hit, rfl, rfl⟩, Nat.succ_ne_self _⟩, fun b hb => I1.fpOk (fp b hb) (I1.hok.fresh (fp b hb)), q⟩
    · obtain ⟨its, rv, p', _⟩ := I1.tuple hq
      have ha' : a < s1.heap.objs.size := by obtain ⟨_, e, _⟩ := p'; exact Heap.lt_size e
      refine XE.call_enumB (begins_tuple a _) p' fun h' he hit hk => wpAny_pyIter_enum he ?_
      have I2 : Inv X pins σ H1 { s1 with heap := h' } := I1.kept (t' := s1.toks) hk
      exact ⟨s1.heap.objs.size + 1, [s1.heap.objs.size + 1, s1.heap.objs.size], _, _, H1, rfl, I2, turn_enumT a (s1.heap.objs.size + 1) s1.heap.objs.size, ⟨⟨.none, he⟩, ⟨_, hit, rfl, rfl⟩, Nat.succ_ne_self _, Nat.ne_of_lt ha', Nat.ne_of_gt (Nat.lt_succ_of_lt ha')⟩, fun b hb => I1.fpOk (fp b hb) (I1.hok.fresh (fp b hb)), q⟩
end
end Sm
namespace Sm
open PySem PySem.Spec PyProof.Rows L2
noncomputable section
/-! ### enumerate and zip, walked -/
def srcEL (i : Nat) : Src := fun k h => match h.get i with
  | some (.lst xs) => match xs[k]? with
    | some d => .item (.tup [.int (k : Nat), d])
    | none => .stop
  | _ => .bad
def srcET (ds : List D) : Src := fun k _ => match ds[k]? with
  | some d => .item (.tup [.int (k : Nat), d])
  | none => .stop
def srcZL (i j : Nat) : Src := fun k h => match h.get i, h.get j with
  | some (.lst xs), some (.lst ys) => match xs[k]?, ys[k]? with
    | some d, some e => .item (.tup [d, e])
    | _, _ => .stop
  | _, _ => .bad
def srcZT (ds es : List D) : Src := fun k _ => match ds[k]?, es[k]? with
  | some d, some e => .item (.tup [d, e])
  | _, _ => .stop
def miEn (k : MA) : MI := fun σ h => (k σ h).bind fun ds h1 => match ds with
  | [.ref i] => match h1.get i with
    | some (.lst _) => .ok (srcEL i) h1
    | _ => .bad
  | [.tup ds] => .ok (srcET ds) h1
  | _ => .bad
def miZip (k : MA) : MI := fun σ h => (k σ h).bind fun ds h1 => match ds with
  | [.ref i, .ref j] => match h1.get i, h1.get j with
    | some (.lst _), some (.lst _) => .ok (srcZL i j) h1
    | _, _ => .bad
  | [.tup ds, .tup es] => .ok (srcZT ds es) h1
  | _ => .bad
section
variable {X : Cx} {Z : Cz} {E : L2.St → XK} {pos p tpos : Pos} {e e2 : Expr} {ka : MA} {elts : List Expr} {kk : Nat}
/-- a new tuple beside -/
theorem yld_tup {ρ1 : Nat → Addr} {h1 : Hm} {H1 : Hp} {ds : List D} {vs : List V} (r : Rep Z ρ1 h1 H1) (t : RVs Z ρ1 h1.n H1 ds vs) {T : Addr} (hT : H1 T = none) :
    Ext ρ1 h1.n H1 ρ1 h1.n (upd H1 T (.tup vs)) ∧ Rep Z ρ1 h1 (upd H1 T (.tup vs)) ∧ RV Z ρ1 h1.n (upd H1 T (.tup vs)) (.tup ds) (.ref T) := by
  obtain ⟨e, r'⟩ := r.aside (u := .tup vs) hT
  exact ⟨e, r', .tup upd_same (t.mono r e)⟩
theorem jEL {ρ : Nat → Addr} {n : Nat} {H : Hp} {i : Nat} (hi : i < n) : JOk Z ρ n H (srcEL i) (Ite Z.K (ρ i)) := fun ρ1 h1 H1 e r k => by
  unfold srcEL
  have hi1 : i < h1.n := Nat.lt_of_lt_of_le hi e.le
  have er : ρ1 i = ρ i := e.same i hi
  cases z : h1.get i with
  | none => trivial
  | some o =>
    cases o with
    | dK kvs => trivial
    | dT kvs => trivial
    | fK kvs => trivial
    | fT kvs => trivial
    | st kvs => trivial
    | lst xs =>
      obtain ⟨vs, a1, a2⟩ := r.lst hi1 z
      rw [er] at a1
      cases zz : xs[k]? with
      | none =>
        simp only [zz]
        exact ⟨vs, SqL.of a1, by rw [← a2.length]; exact List.getElem?_eq_none_iff.mp zz⟩
      | some d =>
        simp only [zz]
        obtain ⟨y, b1, b2⟩ := a2.get zz
        refine ⟨⟨vs, y, SqL.of a1, b1⟩, fun x H2 hy => ?_⟩
        obtain ⟨T, x', rfl, hT, rfl, hx⟩ := hy
        have := hx vs (SqL.of a1)
        rw [b1] at this
        cases this
        exact yld_tup r (.cons (.int _) (.cons b2 .nil)) hT
theorem jET {ρ : Nat → Addr} {h : Hm} {H : Hp} {a : Addr} {ds : List D} {vs : List V} (rep : Rep Z ρ h H) (s : H a = some (.tup vs)) (t : RVs Z ρ h.n H ds vs) : JOk Z ρ h.n H (srcET ds) (IteT Z.K a) := fun ρ1 h1 H1 e r k => by
  unfold srcET
  have s1 := e.tup rep s
  have t1 := t.mono rep e
  cases zz : ds[k]? with
  | none => exact ⟨vs, SqT.of s1, by rw [← t1.length]; exact List.getElem?_eq_none_iff.mp zz⟩
  | some d =>
    obtain ⟨y, b1, b2⟩ := t1.get zz
    refine ⟨⟨vs, y, SqT.of s1, b1⟩, fun x H2 hy => ?_⟩
    obtain ⟨T, x', rfl, hT, rfl, hx⟩ := hy
    have := hx vs (SqT.of s1)
    rw [b1] at this
    cases this
    exact yld_tup r (.cons (.int _) (.cons b2 .nil)) hT
theorem jZT {ρ : Nat → Addr} {h : Hm} {H : Hp} {a b : Addr} {ds es : List D} {vs ws : List V} (rep : Rep Z ρ h H) (s : H a = some (.tup vs)) (t : RVs Z ρ h.n H ds vs) (s' : H b = some (.tup ws)) (t' : RVs Z ρ h.n H es ws) : JOk Z ρ h.n H (srcZT ds es) (RZ.ItzT Z.K a b) := fun ρ1 h1 H1 e r k => by
  unfold srcZT
  have s1 := e.tup rep s
  have t1 := t.mono rep e
  have s1' := e.tup rep s'
  have t1' := t'.mono rep e
  cases zz : ds[k]? with
  | none => exact ⟨vs, ws, SqT.of s1, SqT.of s1', .inl (by rw [← t1.length]; exact List.getElem?_eq_none_iff.mp zz)⟩
  | some d =>
    cases zz' : es[k]? with
    | none => exact ⟨vs, ws, SqT.of s1, SqT.of s1', .inr (by rw [← t1'.length]; exact List.getElem?_eq_none_iff.mp zz')⟩
    | some d' =>
      obtain ⟨y, b1, b2⟩ := t1.get zz
      obtain ⟨y', c1, c2⟩ := t1'.get zz'
      refine ⟨⟨vs, ws, y, y', SqT.of s1, SqT.of s1', b1, c1⟩, fun x H2 hy => ?_⟩
      obtain ⟨T, x1, x2, rfl, hT, rfl, hx, hx'⟩ := hy
      have q1 := hx vs (SqT.of s1)
      have q2 := hx' ws (SqT.of s1')
      rw [b1] at q1
      rw [c1] at q2
      cases q1
      cases q2
      exact yld_tup r (.cons b2 (.cons c2 .nil)) hT
theorem jZL {ρ : Nat → Addr} {n : Nat} {H : Hp} {i j : Nat} (hi : i < n) (hj : j < n) : JOk Z ρ n H (srcZL i j) (Itz Z.K (ρ i) (ρ j)) := fun ρ1 h1 H1 e r k => by
  have hi1 : i < h1.n := Nat.lt_of_lt_of_le hi e.le
  have hj1 : j < h1.n := Nat.lt_of_lt_of_le hj e.le
  have er : ρ1 i = ρ i := e.same i hi
  have er' : ρ1 j = ρ j := e.same j hj
  unfold srcZL
  cases z : h1.get i with
  | none => trivial
  | some o =>
    cases o with
    | dK kvs => trivial
    | dT kvs => trivial
    | fK kvs => trivial
    | fT kvs => trivial
    | st kvs => trivial
    | lst xs =>
      cases z' : h1.get j with
      | none => trivial
      | some o' =>
        cases o' with
        | dK kvs => trivial
        | dT kvs => trivial
        | fK kvs => trivial
        | fT kvs => trivial
        | st kvs => trivial
        | lst ys =>
          obtain ⟨vs, a1, a2⟩ := r.lst hi1 z
          obtain ⟨ws, a1', a2'⟩ := r.lst hj1 z'
          rw [er] at a1
          rw [er'] at a1'
          cases zz : xs[k]? with
          | none =>
            simp only [zz]
            exact ⟨vs, ws, SqL.of a1, SqL.of a1', .inl (by rw [← a2.length]; exact List.getElem?_eq_none_iff.mp zz)⟩
          | some d =>
            cases zz' : ys[k]? with
            | none =>
              simp only [zz, zz']
              exact ⟨vs, ws, SqL.of a1, SqL.of a1', .inr (by rw [← a2'.length]; exact List.getElem?_eq_none_iff.mp zz')⟩
            | some d' =>
              simp only [zz, zz']
              obtain ⟨y, b1, b2⟩ := a2.get zz
              obtain ⟨y', c1, c2⟩ := a2'.get zz'
              refine ⟨⟨vs, ws, y, y', SqL.of a1, SqL.of a1', b1, c1⟩, fun x H2 hy => ?_⟩
              obtain ⟨T, x1, x2, rfl, hT, rfl, hx, hx'⟩ := hy
              have q1 := hx vs (SqL.of a1)
              have q2 := hx' ws (SqL.of a1')
              rw [b1] at q1
              rw [c1] at q2
              cases q1
              cases q2
              exact yld_tup r (.cons b2 (.cons c2 .nil)) hT
theorem s_iEn (hK : X.K = Z.K) (hg : Gl X "enumerate") (hm : X.mg "enumerate" = none) (ha : PA X [e] (tA Z E ka)) (hs : starEach [e] X.env = [(false, eval e X.env)] := by rfl) :
    PI X (.Tuple elts kk tpos) (.Call (.Name "enumerate" p) [e] [] pos) (tIM Z E (miEn ka)) := (pi_enumA hg hm ha hs).imp fun τ H Q => by
  rintro ⟨ρ, σ, h, rep, rs, q⟩
  refine ⟨ρ, σ, h, rep, rs, Aft.bind q fun d h1 ρ1 H1 v e1 rep1 rv q1 => ?_⟩
  split at q1 <;> first | exact q1.elim | skip
  · rename_i i
    split at q1 <;> first | exact q1.elim | skip
    rename_i xs ee
    cases rv with
    | cons r1 r2 =>
      cases r2
      cases r1
      rename_i hi
      obtain ⟨vs, a1, a2⟩ := rep1.lst hi ee
      exact ⟨ρ1 i, vs, rfl, .inl ⟨SqL.of a1, q1 ρ1 H1 _ Ext.refl rep1 (hK ▸ jEL hi)⟩⟩
  · cases rv with
    | cons r1 r2 =>
      cases r2
      cases r1
      rename_i a vs s t
      exact ⟨a, vs, rfl, .inr ⟨SqT.of s, q1 ρ1 H1 _ Ext.refl rep1 (hK ▸ jET rep1 s t)⟩⟩
theorem s_iZip (hK : X.K = Z.K) (hg : Gl X "zip") (hm : X.mg "zip" = none) (ha : PA X [e, e2] (tA Z E ka)) (hs : starEach [e, e2] X.env = (false, eval e X.env) :: starEach [e2] X.env := by rfl) (hpl : (backTo pos (starEach [e2] X.env)).any (·.1) = false := by rfl) :
    PI X (.Tuple elts kk tpos) (.Call (.Name "zip" p) [e, e2] [] pos) (tIM Z E (miZip ka)) := (RZ.pi_zipA hg hm ha hs hpl).imp fun τ H Q => by
  rintro ⟨ρ, σ, h, rep, rs, q⟩
  refine ⟨ρ, σ, h, rep, rs, Aft.bind q fun d h1 ρ1 H1 v e1 rep1 rv q1 => ?_⟩
  split at q1 <;> first | exact q1.elim | skip
  · rename_i i j
    split at q1 <;> first | exact q1.elim | skip
    rename_i xs ys ee ee'
    cases rv with
    | cons r1 r2 =>
      cases r2 with
      | cons r2 r3 =>
        cases r3
        cases r1
        cases r2
        rename_i hi hj
        obtain ⟨vs, a1, a2⟩ := rep1.lst hi ee
        obtain ⟨ws, b1, b2⟩ := rep1.lst hj ee'
        exact ⟨ρ1 i, ρ1 j, vs, ws, rfl, .inl ⟨SqL.of a1, SqL.of b1, q1 ρ1 H1 _ Ext.refl rep1 (hK ▸ jZL hi hj)⟩⟩
  · cases rv with
    | cons r1 r2 =>
      cases r2 with
      | cons r2 r3 =>
        cases r3
        cases r1
        cases r2
        rename_i a vs s t b ws s' t'
        exact ⟨a, b, vs, ws, rfl, .inr ⟨SqT.of s, SqT.of s', q1 ρ1 H1 _ Ext.refl rep1 (hK ▸ jZT rep1 s t s' t')⟩⟩
end
end
end Sm
namespace Sm
open PySem PySem.Spec PyProof.Rows L2
noncomputable section
/-! ### a def that an expression gives, called -/
/-- the k-th def keeps its mirror's promise, and may be called from here -/
def FnAt (X : Cx) (Z : Cz) (k m : Nat) (f : MF) : Prop := ∃ (kk : Nat) (fd : FuncData) (ps : List Str), FnOk X.prog X.w X.K X.mg X.base (L2.CX X.prog X.w) kk (Z.φ k) fd ps (spM Z m f) ∧ Room kk X.A ∧ PySem.W.keepIn X.K (.ref (Z.φ k)) = true ∧ Binds X.K fd ps []
abbrev Tbl := Nat → Option (Nat × MF)
def mCallV (t : Tbl) (mf : ME) (ka : MA) : ME := fun σ h => (mf σ h).bind fun d h1 => match d with
  | .fn k => match t k with
    | some (m, f) => (ka σ h1).bind fun ds h2 => match Nat.beq ds.length m with
      | true => f ds h2
      | false => .bad
    | none => .bad
  | _ => .bad
section
variable {X : Cx} {Z : Cz} {E : L2.St → XK} {pos p : Pos} {fe e : Expr} {es : List Expr} {mf : ME} {ka : MA} {t : Tbl}
theorem s_callV (ht : ∀ k m f, t k = some (m, f) → FnAt X Z k m f) (tk : Takes X (fun cl d τ H => E τ cl d H)) (pf : PE X fe (tE Z E mf)) (ha : PA X (e :: es) (tA Z E ka)) (he : starEach (e :: es) X.env = (false, eval e X.env) :: starEach es X.env := by rfl) (hpl : (backTo pos (starEach es X.env)).any (·.1) = false := by rfl)
    (hc : eval (.Call fe (e :: es) [] pos) X.env = (do callWith pos (← eval fe X.env) [] (backTo pos (starEach (e :: es) X.env)) (backToKw pos (keywordEach [] X.env))) := by rfl) : PE X (.Call fe (e :: es) [] pos) (tE Z E (mCallV t mf ka)) := by
  refine ⟨fun pins s τ H Q I h => ?_⟩
  obtain ⟨ρ, σ, h0, rep, rs, q⟩ := h
  refine Call_ (thn (pf.run pins s τ H (fun v H1 => ∃ k m f ρ1 h1, v = .ref (Z.φ k) ∧ t k = some (m, f) ∧ Rep Z ρ1 h1 H1 ∧ RS Z ρ1 h1.n H1 σ τ ∧ Aft Z (rlV Z) ρ1 h1 H1 ((ka σ h1).bind fun ds h2 => match Nat.beq ds.length m with
    | true => f ds h2
    | false => .bad) Q (E τ)) I ⟨ρ, σ, h0, rep, rs, Aft.bind q fun d h1 ρ1 H1 v e1 rep1 rv q1 => ?_⟩) fun u s1 hh => ?_) hc
  · cases rv <;> first | exact q1.elim | skip
    rename_i k
    simp only at q1
    cases z : t k with
    | none => rw [z] at q1; exact q1.elim
    | some mf' =>
      obtain ⟨m, f⟩ := mf'
      rw [z] at q1
      exact ⟨k, m, f, ρ1, h1, rfl, z, rep1, rs.mono rep e1, q1⟩
  · obtain ⟨v, H1, I1, r1, k, m, f, ρ1, h1, rfl, hk, rep1, rs1, q1⟩ := hh
    obtain rfl : u = .ref (Z.φ k) := r1
    obtain ⟨kk, fd, ps, F, hr, kp, hb⟩ := ht k m f hk
    refine PySem.W.callWith_K (h₀ := X.base) I1.ok.mod.kin kp (thn (ha.run pos pins s1 τ H1 (fun vs H2 => spM Z m f vs H2 Q (E τ)) I1 ⟨ρ1, σ, h1, rep1, rs1, Aft.bind q1 fun ds h2 ρ2 H2 vs e2 rep2 rvs q2 => ?_⟩) fun us s2 ⟨vs, H2, I2, r, q2⟩ => ⟨I2.kIn, ?_⟩) he hpl
    · cases z : Nat.beq ds.length m with
      | false => rw [z] at q2; exact q2.elim
      | true =>
        rw [z] at q2
        exact ⟨ρ2, h2, ds, rep2, rvs, Nat.eq_of_beq_eq_true z, q2⟩
    · exact run_fnS F hr hb (passAt tk τ) I2 r q2
/-- a def's name as a value -/
theorem s_fn {x : Str} {k : Nat} (hg : Gl X x) (hm : X.mg x = some (.ref (Z.φ k))) (hd : (x == ("__debug__" : Str)) = false := by decide) : PE X (.Name x pos) (tE Z E (mC (.fn k))) := s_C (v := .ref (Z.φ k)) (pe_glob hg hm (by rfl) hd) fun _ _ _ => .fn k
/-- a call in short -/
theorem s_callF {x : Str} {k m : Nat} {f : MF} (F : FnAt X Z k m f) (tk : Takes X (fun cl d τ H => E τ cl d H)) (hg : Gl X x) (hm : X.mg x = some (.ref (Z.φ k))) (ha : PA X (e :: es) (tA Z E ka)) (hdb : (x == ("__debug__" : Str)) = false := by decide)
    (he : starEach (e :: es) X.env = (false, eval e X.env) :: starEach es X.env := by rfl) (hpl : (backTo pos (starEach es X.env)).any (·.1) = false := by rfl) : PE X (.Call (.Name x p) (e :: es) [] pos) (tE Z E (mCall m f ka)) := by
  obtain ⟨kk, fd, ps, F, hr, kp, hb⟩ := F
  exact s_call F hr hg hm kp hb (fun σ => passAt tk σ) ha hdb he hpl
theorem s_callF0 {x : Str} {k m : Nat} {f : MF} (F : FnAt X Z k m f) (tk : Takes X (fun cl d τ H => E τ cl d H)) (hg : Gl X x) (hm : X.mg x = some (.ref (Z.φ k))) (hdb : (x == ("__debug__" : Str)) = false := by decide) : PE X (.Call (.Name x p) [] [] pos) (tE Z E (mCall m f maNil)) := by
  obtain ⟨kk, fd, ps, F, hr, kp, hb⟩ := F
  exact s_call0 F hr hg hm kp hb (fun σ => passAt tk σ) hdb
end
end
end Sm
namespace Sm
open PySem PySem.Spec PyProof.Rows L2
noncomputable section
section
variable {X : Cx} {Z : Cz} {E : L2.St → XK} {pos p p2 : Pos} {tg e : Expr} {m : ME}
/-! ### a list or a tuple, walked -/
def miS (m : ME) : MI := fun σ h => (m σ h).bind fun d h1 => match d with
  | .ref i => match h1.get i with
    | some (.lst _) => .ok (srcL i) h1
    | _ => .bad
  | .tup ds => .ok (srcT ds) h1
  | _ => .bad
def iSeq (K : PySem.W.Frag) (te : TE) : TI := fun σ H R => te σ H fun x H1 => ∃ a xs, x = .ref a ∧ ((SqL K H1 a xs ∧ R (Itl K a) H1) ∨ (SqT K H1 a xs ∧ R (Itt K a) H1))
theorem pi_seqA {te : TE} (pe : PE X e te) : PI X tg e (iSeq X.K te) := by
  refine ⟨fun pins s τ H R I h => thn (pe.run pins s τ H _ I h) fun v s1 hh => ?_⟩
  obtain ⟨x, H1, I1, r1, a, xs, rfl, q⟩ := hh
  cases r1
  rcases q with ⟨hq, q⟩ | ⟨hq, q⟩
  · obtain ⟨its, rv, pl, hz⟩ := I1.list hq
    exact wpAny_pyIter_list pl.isList (pi_one (tk := s1.toks) I1 _ (turn_list a _) ⟨_, Heap.get?_push_size _ rfl, rfl, rfl⟩ q)
  · obtain ⟨its, rv, pl, hz⟩ := I1.tuple hq
    exact wpAny_pyIter_tuple (show s1.heap.IsTuple a its.toArray from pl) (pi_one (tk := s1.toks) I1 _ (turn_tuple a _) ⟨_, Heap.get?_push_size _ rfl, rfl, rfl⟩ q)
theorem s_iS (hK : X.K = Z.K) (pe : PE X e (tE Z E m)) : PI X tg e (tIM Z E (miS m)) := (pi_seqA pe).imp fun τ H Q => by
  rintro ⟨ρ, σ, h, rep, rs, q⟩
  refine ⟨ρ, σ, h, rep, rs, Aft.bind q fun d h1 ρ1 H1 v e1 rep1 rv q1 => ?_⟩
  cases rv <;> first | exact q1.elim | skip
  · rename_i a ds vs s t
    exact ⟨a, vs, rfl, .inr ⟨SqT.of s, q1 ρ1 H1 _ Ext.refl rep1 (hK ▸ jT rep1 s t)⟩⟩
  · rename_i i hi
    simp only at q1
    split at q1 <;> first | exact q1.elim | skip
    rename_i xs ee
    obtain ⟨vs, a1, a2⟩ := rep1.lst hi ee
    exact ⟨ρ1 i, vs, rfl, .inl ⟨SqL.of a1, q1 ρ1 H1 _ Ext.refl rep1 (hK ▸ jL hi)⟩⟩
/-! ### f(*e) -/
def mCallStar (m : Nat) (f : MF) (me : ME) : ME := fun σ h => (me σ h).bind fun d h1 => match items h1 d with
  | some ds => match Nat.beq ds.length m with
    | true => f ds h1
    | false => .bad
  | none => .bad
theorem s_star {x : Str} {k n : Nat} {f : MF} (F : FnAt X Z k n f) (tk : Takes X (fun cl d τ H => E τ cl d H)) (hg : Gl X x) (hm : X.mg x = some (.ref (Z.φ k))) (pe : PE X e (tE Z E m)) (hdb : (x == ("__debug__" : Str)) = false := by decide)
    (hst : starEach [.Starred e p2] X.env = [(true, eval e X.env)] := by rfl) : PE X (.Call (.Name x p) [.Starred e p2] [] pos) (tE Z E (mCallStar n f m)) := by
  obtain ⟨kk, fd, ps, F, hr, kp, hb⟩ := F
  refine ⟨fun pins s τ H Q I h => ?_⟩
  obtain ⟨ρ, σ, h0, rep, rs, q⟩ := h
  refine wpAny_Call_Name_kw (ld_glob I hg hm ?_ hdb)
  refine PySem.W.callWith_S (h₀ := X.base) I.ok.mod.kin kp (thn (pe.run pins s τ H (fun v H1 => ∃ a xs, v = .ref a ∧ (SqT X.K H1 a xs ∨ SqL X.K H1 a xs) ∧ spM Z n f xs H1 Q (E τ)) I ⟨ρ, σ, h0, rep, rs, Aft.bind q fun d h1 ρ1 H1 v e1 rep1 rv q1 => ?_⟩) fun v s1 ⟨y, H1, I1, ry, a, xs, ey, hxs, q⟩ => ?_) hst
  · cases z : items h1 d with
    | none => rw [z] at q1; exact q1.elim
    | some ds =>
      simp only [z] at q1
      cases zz : Nat.beq ds.length n with
      | false => rw [zz] at q1; exact q1.elim
      | true =>
        rw [zz] at q1
        obtain ⟨a, vs, ev, rvs, hh⟩ := items_ok rep1 rv z
        refine ⟨a, vs, ev, ?_, ρ1, h1, ds, rep1, rvs, Nat.eq_of_beq_eq_true zz, q1⟩
        rcases hh with ⟨hh, _⟩ | ⟨hh, _⟩
        · exact .inr (SqL.of hh)
        · exact .inl (SqT.of hh)
  · subst ey
    obtain rfl : v = Value.ref a := ry
    exact StX.star_any I1 hxs fun us s2 I2 rv => ⟨I2.kIn, run_fnS F hr hb (passAt tk τ) I2 rv q⟩
/-! ### f(k = v, ..) -/
def pick (π : List Nat) (ds : List D) : Option (List D) := mapO (fun i => ds[i]?) π
def mCallKw (n : Nat) (f : MF) (kn : Nat) (π : List Nat) (ka : MA) : ME := fun σ h => (ka σ h).bind fun ds h1 => match pick π ds with
  | some es => match Nat.beq es.length n && Nat.beq ds.length kn with
    | true => f es h1
    | false => .bad
  | none => .bad
def getV (us : List Value) (i : Nat) : Value := (us[i]?).getD .none
structure KwB (K : PySem.W.Frag) (fd : FuncData) (ps ks : List Str) (π : List Nat) : Prop where
  to : ∀ (s : Shared) (ws : List Value), ws.length = ks.length → BindsTo s fd ⟨[], ks.zip ws⟩ (ps.zip (π.map (getV ws)))
def FnKw (X : Cx) (Z : Cz) (k m : Nat) (f : MF) (ks : List Str) (π : List Nat) : Prop := ∃ (kk : Nat) (fd : FuncData) (ps : List Str), FnOk X.prog X.w X.K X.mg X.base (L2.CX X.prog X.w) kk (Z.φ k) fd ps (spM Z m f) ∧ Room kk X.A ∧ PySem.W.keepIn X.K (.ref (Z.φ k)) = true ∧ KwB X.K fd ps ks π
theorem vals_at : ∀ {vs : List V} {us : List Value}, Vals vs us → ∀ {i : Nat} {x : V}, vs[i]? = some x → ∃ u, us[i]? = some u ∧ RelV x u
  | _, _, .nil, _, _, e => by simp at e
  | _, _, .cons r1 r2, 0, _, e => ⟨_, rfl, by simp at e; subst e; exact r1⟩
  | _, _, .cons r1 r2, i + 1, x, e => by
    obtain ⟨u, h1, h2⟩ := vals_at r2 (i := i) (x := x) (by simpa using e)
    exact ⟨u, by simpa using h1, h2⟩
theorem pick_ok {Z : Cz} {ρ : Nat → Addr} {n : Nat} {H : Hp} {ds : List D} {vs : List V} {us : List Value} (r : RVs Z ρ n H ds vs) (v : Vals vs us) : ∀ {π : List Nat} {es : List D}, pick π ds = some es → ∃ xs, RVs Z ρ n H es xs ∧ Vals xs (π.map (getV us))
  | [], es, e => by cases e; exact ⟨[], .nil, .nil⟩
  | i :: π, es, e => by
    unfold pick mapO at e
    cases z : ds[i]? with
    | none => rw [z] at e; cases e
    | some d =>
      rw [z] at e
      simp only at e
      cases zz : mapO (fun i => ds[i]?) π with
      | none => rw [zz] at e; cases e
      | some fs =>
        rw [zz] at e
        cases e
        obtain ⟨xs, h1, h2⟩ := pick_ok r v (π := π) (es := fs) zz
        obtain ⟨x, a1, a2⟩ := r.get z
        obtain ⟨u, b1, b2⟩ : ∃ u, us[i]? = some u ∧ RelV x u := by
          exact vals_at v a1
        refine ⟨x :: xs, .cons a2 h1, .cons ?_ h2⟩
        unfold getV
        rw [b1]
        exact b2
theorem s_callKw {x : Str} {k n kn : Nat} {f : MF} {ks : List Str} {π : List Nat} {kws : List Keyword} {ka : MA} (F : FnKw X Z k n f ks π) (hkn : ks.length = kn) (tko : Takes X (fun cl d τ H => E τ cl d H)) (hg : Gl X x) (hm : X.mg x = some (.ref (Z.φ k))) (hkw : PK X kws (tA Z E ka))
    (hall : (backToKw pos (keywordEach kws X.env)).all (·.1.isSome) = true := by rfl) (hks : (backToKw pos (keywordEach kws X.env)).filterMap (·.1) = ks := by rfl) (hdb : (x == ("__debug__" : Str)) = false := by decide)
    (hpl : ((backTo pos (starEach [] X.env)).any (·.1) || (backToKw pos (keywordEach kws X.env)).any (·.1.isNone)) = false := by rfl) : PE X (.Call (.Name x p) [] kws pos) (tE Z E (mCallKw n f kn π ka)) := by
  subst hkn
  obtain ⟨kk, fd, ps, F, hr, kp, hb⟩ := F
  refine ⟨fun pins s τ H Q I h => ?_⟩
  obtain ⟨ρ, σ, h0, rep, rs, q⟩ := h
  refine wpAny_Call_Name_kw (ld_glob I hg hm ?_ hdb)
  refine PySem.W.callWith_KW0 (h₀ := X.base) I.ok.mod.kin kp hall (thn (hkw.run pos pins s τ H (fun vs H1 => ∃ ρ1 h1 ds es, Rep Z ρ1 h1 H1 ∧ RVs Z ρ1 h1.n H1 ds vs ∧ pick π ds = some es ∧ es.length = n ∧ vs.length = ks.length ∧ Aft Z (rlV Z) ρ1 h1 H1 (f es h1) Q (E τ)) I ⟨ρ, σ, h0, rep, rs, Aft.bind q fun ds h1 ρ1 H1 vs e1 rep1 rvs q1 => ?_⟩) fun ws s1 ⟨vs, H1, I1, r1, ρ1, h1, ds, es, rep1, rvs, pk, hl, hl2, q1⟩ => ⟨I1.kIn, ?_⟩) hpl
  · cases z : pick π ds with
    | none => rw [z] at q1; exact q1.elim
    | some es =>
      simp only [z] at q1
      cases zz : Nat.beq es.length n && Nat.beq ds.length ks.length with
      | false => rw [zz] at q1; exact q1.elim
      | true =>
        rw [zz] at q1
        have zz := Bool.and_eq_true_iff.mp zz
        exact ⟨ρ1, h1, ds, es, rep1, rvs, z, Nat.eq_of_beq_eq_true zz.1, rvs.length.symm.trans (Nat.eq_of_beq_eq_true zz.2), q1⟩
  · obtain ⟨xs, a1, a2⟩ := pick_ok rvs r1 pk
    have hw : ws.length = ks.length := by
      rw [← r1.length]
      exact hl2
    rw [hks]
    refine wpAny_call (codeAny_mono (F.run X.A X.stack s1 H1 ⟨[], ks.zip ws⟩ (π.map (getV ws)) xs Q (E τ) hr I1.env0 (hb.to s1 ws hw) a2 ⟨ρ1, h1, es, rep1, a1, hl, q1⟩) fun r s' hq => ?_)
    cases r with
    | error e => exact passAt tko τ pins H1 s1 e s' I1 hq
    | ok fl =>
      cases fl with
      | ret u => exact I1.after hq
      | next => exact hq.elim
      | brk => exact hq.elim
      | cont => exact hq.elim
end
end
end Sm
namespace Sm
open PySem PySem.Spec PyProof.Rows L2
noncomputable section
section
variable {X : Cx} {Z : Cz} {E : L2.St → XK} {pos p p2 : Pos} {tg e : Expr} {m : ME}
theorem _root_.L2.PK.imp {kws : List Keyword} {t t' : TA} (q : PK X kws t) (w : ∀ σ H Q, t' σ H Q → t σ H Q) : PK X kws t' := ⟨fun ps pins s σ H Q I y => q.run ps pins s σ H Q I (w σ H Q y)⟩
theorem sk_nil : PK X [] (tA Z E maNil) := pk_nil.imp fun τ H Q => by
  rintro ⟨ρ, σ, h, rep, rs, q⟩
  exact q ρ H [] Ext.refl rep .nil
theorem sk_cons {kws : List Keyword} {k : MA} {nm : Option Str} {kpos : Pos} (q : PE X e (tE Z E m)) (r : PK X kws (tA Z E k)) : PK X (⟨nm, e, kpos⟩ :: kws) (tA Z E (maCons m k)) := (pk_cons q r).imp fun τ H Q => by
  rintro ⟨ρ, σ, h, rep, rs, q⟩
  refine ⟨ρ, σ, h, rep, rs, Aft.bind q fun d h1 ρ1 H1 v e1 rep1 rv q1 => ?_⟩
  refine ⟨ρ1, σ, h1, rep1, rs.mono rep e1, Aft.bind q1 fun ds h2 ρ2 H2 vs e2 rep2 rvs q2 => ?_⟩
  exact q2 ρ2 H2 _ Ext.refl rep2 (.cons (rv.mono rep1 e2) rvs)
/-! ### a dict that is walked: frozen meanwhile -/
theorem unlock {ρ ρ' : Nat → Addr} {h h2 : Hm} {H H' : Hp} {r : Nat} {u : HO} {od : Obj} {o : O} (rep : Rep Z ρ h H) (hr : r < h.n) (hu : H (ρ r) = some u) (nu : ∀ ob w, u ≠ .frz ob w)
    (ex : Ext ρ h.n (upd H (ρ r) (.frz od u)) ρ' h2.n H') (rep' : Rep Z ρ' h2 H') (ro : Ext ρ h.n H ρ' h2.n (upd H' (ρ r) u) → RO Z ρ' h2.n (upd H' (ρ r) u) (ρ r) o) :
    H' (ρ r) = some (.frz od u) ∧ Ext ρ h.n H ρ' h2.n (upd H' (ρ r) u) ∧ Rep Z ρ' (h2.put r o) (upd H' (ρ r) u) ∧ ∀ a xs, H' a = some (.tup xs) → upd H' (ρ r) u a = some (.tup xs) := by
  have fz : H' (ρ r) = some (.frz od u) := ex.frz _ _ _ upd_same
  have tu : ∀ a xs, H' a = some (.tup xs) → upd H' (ρ r) u a = some (.tup xs) := fun a xs q => by
    rw [upd_ne]
    · exact q
    · intro z; rw [z, fz] at q; cases q
  have e2 : Ext ρ h.n H ρ' h2.n (upd H' (ρ r) u) := by
    refine ⟨ex.le, ex.same, fun a w ha f => ?_, fun a ha => ?_, fun i h1 h3 => ?_, fun b ob w hb => ?_⟩
    · have n : a ≠ ρ r := fun z => f r hr z.symm
      rw [upd_ne n]
      exact ex.out a w (by rw [upd_ne n]; exact ha) f
    · by_cases z : a = ρ r
      · rw [z, upd_same] at ha; cases ha
      · rw [upd_ne z] at ha
        have := ex.dom a ha
        rwa [upd_ne z] at this
    · have := ex.new i h1 h3
      by_cases z : ρ' i = ρ r
      · rw [z, upd_same] at this; cases this
      · rwa [upd_ne z] at this
    · have n : b ≠ ρ r := fun z => by rw [z, hu] at hb; exact nu _ _ (Option.some.inj hb)
      rw [upd_ne n]
      exact ex.frz b ob w (by rw [upd_ne n]; exact hb)
  refine ⟨fz, e2, ⟨rep'.inj, fun j hj => ?_, Z.pinm _ _ e2.frz rep.pin⟩, tu⟩
  have hj' : j < h2.n := hj
  have sr : ρ' r = ρ r := ex.same r hr
  by_cases z : r = j
  · subst z
    refine ⟨o, Hm.get_put_same _ _ _, ?_⟩
    rw [sr]
    exact ro e2
  · obtain ⟨o', e', ro'⟩ := rep'.obj j hj'
    refine ⟨o', (Hm.get_put_ne z).trans e', ?_⟩
    refine roWk (Nat.le_refl _) (fun _ _ => rfl) tu (fun w hw => ?_) ro'
    rw [upd_ne]
    · exact hw
    · intro y
      exact z (rep'.inj r j (Nat.lt_of_lt_of_le hr ex.le) hj' (sr.trans y.symm))
def mLockL (i : Nat) (m : ML) : ML := fun σ h => match σ[i]? with
  | some (some (.ref r)) => match h.get r with
    | some (.dK kvs) => match m σ (h.put r (.fK kvs)) with
      | .ok ds h2 => .ok ds (h2.put r (.dK kvs))
      | _ => .bad
    | some (.dT kvs) => match m σ (h.put r (.fT kvs)) with
      | .ok ds h2 => .ok ds (h2.put r (.dT kvs))
      | _ => .bad
    | _ => .bad
  | _ => .bad
theorem s_lockL {i : Nat} {m : ML} (pe : PE X e (tTmp Z noE m)) : PE X e (tTmp Z E (mLockL i m)) := (pe_lock pe).imp fun τ H Q => by
  rintro ⟨ρ, σ, h, rep, rs, q⟩
  unfold mLockL at q
  split at q <;> first | exact q.elim | skip
  rename_i r er
  obtain ⟨v, hτ, rv⟩ := rs.2 i _ er
  cases rv; rename_i hr
  split at q <;> first | exact q.elim | skip
  · rename_i kvs ee
    obtain ⟨ws, a1, a2⟩ := rep.dK hr ee
    have nf : ∀ ob w, H (ρ r) ≠ some (.frz ob w) := fun _ _ z => by rw [a1] at z; cases z
    refine ⟨ρ r, _, a1, trivial, fun od => ?_⟩
    obtain ⟨ex, rp⟩ := rep.put (o := .fK kvs) (u := .frz od (.dK ws)) hr nf fun ex => ⟨ws, od, upd_same, a2.mono rep ex⟩
    refine ⟨ρ, σ, _, rp, rs.mono rep ex, ?_⟩
    cases z : m σ (h.put r (.fK kvs)) with
    | bad => rw [z] at q; exact q
    | exn c ds h' => rw [z] at q; exact q.elim
    | ok ds h2 =>
      rw [z] at q
      intro ρ' H' p vs ex' rep' hp rvs out fr
      obtain ⟨fz, e2, rp2, tu⟩ := unlock (o := .dK kvs) rep hr a1 (fun _ _ z => nomatch z) ex' rep' fun e2 => ⟨ws, upd_same, a2.mono rep e2⟩
      have np : p ≠ ρ r := fun y => out r (Nat.lt_of_lt_of_le hr ex'.le) ((ex'.same r hr).trans y.symm)
      exact ⟨fz, q ρ' _ p vs e2 rp2 (by rw [upd_ne np]; exact hp) (rvs.wk (Nat.le_refl _) (fun _ _ => rfl) tu) out (by rwa [upd_ne np] at fr)⟩
  · rename_i kvs ee
    obtain ⟨ws, a1, a2⟩ := rep.dT hr ee
    have nf : ∀ ob w, H (ρ r) ≠ some (.frz ob w) := fun _ _ z => by rw [a1] at z; cases z
    refine ⟨ρ r, _, a1, trivial, fun od => ?_⟩
    obtain ⟨ex, rp⟩ := rep.put (o := .fT kvs) (u := .frz od (.dT ws)) hr nf fun ex => ⟨ws, od, upd_same, a2.mono rep ex⟩
    refine ⟨ρ, σ, _, rp, rs.mono rep ex, ?_⟩
    cases z : m σ (h.put r (.fT kvs)) with
    | bad => rw [z] at q; exact q
    | exn c ds h' => rw [z] at q; exact q.elim
    | ok ds h2 =>
      rw [z] at q
      intro ρ' H' p vs ex' rep' hp rvs out fr
      obtain ⟨fz, e2, rp2, tu⟩ := unlock (o := .dT kvs) rep hr a1 (fun _ _ z => nomatch z) ex' rep' fun e2 => ⟨ws, upd_same, a2.mono rep e2⟩
      have np : p ≠ ρ r := fun y => out r (Nat.lt_of_lt_of_le hr ex'.le) ((ex'.same r hr).trans y.symm)
      exact ⟨fz, q ρ' _ p vs e2 rp2 (by rw [upd_ne np]; exact hp) (rvs.wk (Nat.le_refl _) (fun _ _ => rfl) tu) out (by rwa [upd_ne np] at fr)⟩
/-- the keys, one by one -/
def keyO : Key → D
  | .inl i => .int i
  | .inr x => .str x
theorem keyO_ok {ρ : Nat → Addr} {n : Nat} {H : Hp} : ∀ k : Key, RV Z ρ n H (keyO k) (kV k)
  | .inl i => .int i
  | .inr x => .str x
theorem keysO_ok {ρ : Nat → Addr} {n : Nat} {H : Hp} : ∀ ks : List Key, RVs Z ρ n H (ks.map keyO) (ks.map kV)
  | [] => .nil
  | k :: ks => .cons (keyO_ok k) (keysO_ok ks)
def keysK : List (Key × D) → List D
  | [] => []
  | p :: r => keyO p.1 :: keysK r
def keysT : List (List Key × D) → List D
  | [] => []
  | p :: r => .tup (p.1.map keyO) :: keysT r
theorem keysK_at : ∀ {kvs : List (Key × D)} {ws : List (Key × V)}, RKs Z ρ n H kvs ws → ∀ k, match (keysK kvs)[k]? with
    | some d => k < ws.length ∧ ∀ q v, ws[k]? = some (q, v) → d = keyO q
    | none => ws.length ≤ k
  | _, _, .nil, k => by simp [keysK]
  | p :: r, q :: t, .cons rp rt, 0 => by
    refine ⟨Nat.succ_pos _, fun q' v e => ?_⟩
    simp at e
    rw [rp.1, e]
  | p :: r, q :: t, .cons rp rt, k + 1 => by
    have := keysK_at rt k
    show match (keysK r)[k]? with
      | some d => _
      | none => _
    cases z : (keysK r)[k]? with
    | none => rw [z] at this; exact Nat.succ_le_succ this
    | some d =>
      rw [z] at this
      exact ⟨Nat.succ_lt_succ this.1, fun q' v e => this.2 q' v (by simpa using e)⟩
theorem keysT_at {ρ : Nat → Addr} {n : Nat} {H : Hp} : ∀ {kvs : List (List Key × D)} {ws : List (List Key × V)}, RKs Z ρ n H kvs ws → ∀ k, match (keysT kvs)[k]? with
    | some d => k < ws.length ∧ ∀ q v, ws[k]? = some (q, v) → d = .tup (q.map keyO)
    | none => ws.length ≤ k
  | _, _, .nil, k => by simp [keysT]
  | p :: r, q :: t, .cons rp rt, 0 => by
    refine ⟨Nat.succ_pos _, fun q' v e => ?_⟩
    simp at e
    rw [rp.1, e]
  | p :: r, q :: t, .cons rp rt, k + 1 => by
    have := keysT_at rt k
    show match (keysT r)[k]? with
      | some d => _
      | none => _
    cases z : (keysT r)[k]? with
    | none => rw [z] at this; exact Nat.succ_le_succ this
    | some d =>
      rw [z] at this
      exact ⟨Nat.succ_lt_succ this.1, fun q' v e => this.2 q' v (by simpa using e)⟩
def miK (m : ME) : MI := fun σ h => (m σ h).bind fun d h1 => match d with
  | .ref i => match h1.get i with
    | some (.fK kvs) => .ok (srcT (keysK kvs)) h1
    | some (.fT kvs) => .ok (srcT (keysT kvs)) h1
    | _ => .bad
  | _ => .bad
theorem s_iK (pe : PE X e (tE Z E m)) : PI X tg e (tIM Z E (miK m)) := (pi_keys pe).imp fun τ H Q => by
  rintro ⟨ρ, σ, h, rep, rs, q⟩
  refine ⟨ρ, σ, h, rep, rs, Aft.bind q fun d h1 ρ1 H1 v e1 rep1 rv q1 => ?_⟩
  cases rv <;> first | exact q1.elim | skip
  rename_i i hi
  simp only at q1
  split at q1 <;> first | exact q1.elim | skip
  · rename_i kvs ee
    obtain ⟨ws, ob, a1, a2⟩ := rep1.fK hi ee
    refine ⟨ρ1 i, ob, rfl, .inl ⟨ws, a1, q1 ρ1 H1 _ Ext.refl rep1 fun ρ2 h2 H2 e2 rep2 k => ?_⟩⟩
    have a3 := e2.frz _ _ _ a1
    have := keysK_at a2 k
    unfold srcT
    rw [getR_eq]
    cases z : (keysK kvs)[k]? with
    | none => rw [z] at this; exact ⟨a3, this⟩
    | some d =>
      rw [z] at this
      refine ⟨⟨a3, this.1⟩, fun x H3 hy => ?_⟩
      obtain ⟨rfl, k', v, e3, rfl⟩ := hy
      rw [this.2 k' v e3]
      exact ⟨Ext.refl, rep2, keyO_ok k'⟩
  · rename_i kvs ee
    obtain ⟨ws, ob, a1, a2⟩ := rep1.fT hi ee
    refine ⟨ρ1 i, ob, rfl, .inr ⟨ws, a1, q1 ρ1 H1 _ Ext.refl rep1 fun ρ2 h2 H2 e2 rep2 k => ?_⟩⟩
    have a3 := e2.frz _ _ _ a1
    have := keysT_at a2 k
    unfold srcT
    rw [getR_eq]
    cases z : (keysT kvs)[k]? with
    | none => rw [z] at this; exact ⟨a3, this⟩
    | some d =>
      rw [z] at this
      refine ⟨⟨a3, this.1⟩, fun x H3 hy => ?_⟩
      obtain ⟨rfl, k', v, b, e3, rfl, hb⟩ := hy
      rw [this.2 k' v e3]
      exact ⟨Ext.refl, rep2, .tup hb (keysO_ok k')⟩
end
end
end Sm
namespace Sm
open PySem PySem.Spec PyProof.Rows L2
noncomputable section
section
variable {X : Cx} {Z : Cz} {E : L2.St → XK} {pos p p2 : Pos} {tg e : Expr} {m : ME}
/-! ### d.setdefault(k, x) -/
def SdN (H : Hp) (a : Addr) (y z : V) (Q : VK) : Prop :=
  (∃ (kvs : List (Key × V)) (k : Key), H a = some (.dK kvs) ∧ y = kV k ∧ kvs.length < sizeLine ∧ (∀ v, valV kvs k = some v → Q v H) ∧ (valV kvs k = none → Q z (upd H a (.dK (putK kvs k z))))) ∨
  ∃ (kvs : List (List Key × V)) (k : List Key) (b : Addr), H a = some (.dT kvs) ∧ y = .ref b ∧ H b = some (.tup (k.map kV)) ∧ kvs.length < sizeLine ∧ (∀ v, valV kvs k = some v → Q v H) ∧ (valV kvs k = none → Q z (upd H a (.dT (putK kvs k z))))
theorem setd_T {pins : List (Addr × Obj)} {σ : L2.St} {H : Hp} {s : Shared} {a b : Addr} {r : Value} {d : V} {k : List Key} {A : Around} {E' : Value → Shared → Prop} {kvs : List (List Key × V)} {Q : Value → Shared → Prop} (hu : A.units + 1 < cLine) (I : Inv X pins σ H s)
    (ea : H a = some (.dT kvs)) (eb : H b = some (.tup (k.map kV))) (rd : RelV d r) (hl : kvs.length < sizeLine) (h1 : ∀ v, valV kvs k = some v → ∀ (w' : Value) (s' : Shared), Inv X pins σ H s' → RelV v w' → Q w' s')
    (h2 : valV kvs k = none → ∀ (w' : Value) (s' : Shared), Inv X pins σ (upd H a (.dT (putK kvs k d))) s' → RelV d w' → Q w' s') : wpAny (model X.prog X.w) A (call (.builtin "dict.setdefault") [.ref a, .ref b, r]) Q E' s := by
  obtain ⟨z, hd, xs, rel, dd⟩ := dt_of I.hok ea
  have hz : xs.length ≤ sizeLine := Nat.le_trans (Nat.le_of_eq (Paired.length rel).symm) z
  have rv := rel.val k
  refine call_setdefault_heap (hsz := hz) (tupleKind_room_in1 hu) (key_of I.hok eb) hd dd (fun q hq => ?_) fun hn h' dd' hs => ?_
  · rw [hq] at rv
    cases q0 : valV kvs k with
    | none => rw [q0] at rv; exact (show False from rv).elim
    | some v0 => rw [q0] at rv; exact h1 v0 q0 _ _ (I.tok _) rv
  · rw [hn] at rv
    cases q0 : valV kvs k with
    | some v0 => rw [q0] at rv; exact (show False from rv).elim
    | none =>
      have hl2 : (putK kvs k d).length ≤ sizeLine := Nat.le_trans (length_putK kvs k d) hl
      obtain ⟨q, es, ep, hq, g2, g3, g4, _, g5⟩ := dd'
      refine h2 q0 _ _ (d_write I (by rw [ea]; exact True.intro) hs ⟨q, hq⟩ ⟨hl2, hd, _, (rel.put k eb rd).keeps fun c ys ec => ?_, q, es, ep, hq, g2, g3, g4, g5⟩) rd
      exact (upd_ne (ne_of ec ea fun z => nomatch z)).trans ec
def tSdA (td ty tx : TE) : TE := fun σ H Q => td σ H fun x H1 => ∃ a, x = .ref a ∧ IsD H1 a ∧ ty σ H1 fun y H2 => tx σ H2 fun z H3 => SdN H3 a y z Q
variable {o f : Expr} {td ty tx : TE} {apos cpos : Pos}
theorem pe_sdA (hu : X.A.units + 1 < cLine) (ho : PE X o td) (he : PE X e ty) (hf : PE X f tx) (mm : M2 X o "setdefault" apos e f cpos) : PE X (.Call (.Attribute o "setdefault" apos) [e, f] [] cpos) (tSdA td ty tx) := by
  refine ⟨fun pins s τ H Q I h => ?_⟩
  refine wpAny_Call_method (T := "dict") (id := "dict.setdefault") mm.base mm.few mm.line F.plainAttrs_dict F.slot_dict_setdefault F.type_dict_setdefault (thn (ho.run pins s τ H _ I h) fun u s1 hh => ?_)
  obtain ⟨x, H1, I1, rx, a, ex, d, q1⟩ := hh
  subst ex
  cases (show u = Value.ref a from rx)
  obtain ⟨y1, y2, _⟩ := isD_at I1 d
  refine ⟨y1, y2, ?_⟩
  rw [mm.trees]
  refine Calls.callWith_builtin rfl (Calls.evalArgs_plain (Calls.spliced_cons (thn (he.run pins s1 τ H1 _ I1 q1) fun iv s2 hh2 => ?_)))
  obtain ⟨y, H2, I2, ry, q2⟩ := hh2
  refine Calls.spliced_cons (thn (hf.run pins s2 τ H2 _ I2 q2) fun fv s3 hh3 => ?_)
  obtain ⟨z, H3, I3, rz, q3⟩ := hh3
  refine Calls.spliced_nil ?_
  rcases q3 with ⟨kvs, k, ea, ey, hl, g1, g2⟩ | ⟨kvs, k, b, ea, ey, eb, hl, g1, g2⟩
  · subst ey
    exact d_setd I3 ea ry rz hl (fun v hv w' s4 I4 rw' => ⟨v, H3, I4, rw', g1 v hv⟩) fun hn w' s4 I4 rw' => ⟨z, _, I4, rw', g2 hn⟩
  · subst ey
    cases (show iv = Value.ref b from ry)
    exact setd_T hu I3 ea eb rz hl (fun v hv w' s4 I4 rw' => ⟨v, H3, I4, rw', g1 v hv⟩) fun hn w' s4 I4 rw' => ⟨z, _, I4, rw', g2 hn⟩
def hSetd (o i v : D) (h : Hm) : R D := match o with
  | .ref r => match h.get r with
    | some (.dK kvs) => match keyD i with
      | some k => match small kvs.length with
        | true => match valD k kvs with
          | some d => .ok d h
          | none => .ok v (h.put r (.dK (putD k v kvs)))
        | false => .bad
      | none => .bad
    | some (.dT kvs) => match keyT i with
      | some k => match small kvs.length with
        | true => match valD k kvs with
          | some d => .ok d h
          | none => .ok v (h.put r (.dT (putD k v kvs)))
        | false => .bad
      | none => .bad
    | _ => .bad
  | _ => .bad
def mSetd (mo mk mx : ME) : ME := fun σ h => (mo σ h).bind fun o h1 => match isDic o h1 with
  | true => (mk σ h1).bind fun k h2 => (mx σ h2).bind fun x h3 => hSetd o k x h3
  | false => .bad
theorem hSetd_ok {ρ : Nat → Addr} {h : Hm} {H : Hp} {o i d : D} {vo vi v : V} {Q : VK} {E : XK} (rep : Rep Z ρ h H) (ro : RV Z ρ h.n H o vo) (ri : RV Z ρ h.n H i vi) (rv : RV Z ρ h.n H d v) (q : Aft Z (rlV Z) ρ h H (hSetd o i d h) Q E) : ∃ a, vo = .ref a ∧ SdN H a vi v Q := by
  cases ro <;> first | exact q.elim | skip
  rename_i r hr
  simp only [hSetd] at q
  split at q <;> first | exact q.elim | skip
  · rename_i kvs ee
    obtain ⟨ws, a1, a2⟩ := rep.dK hr ee
    split at q <;> first | exact q.elim | skip
    rename_i k ek
    split at q <;> first | exact q.elim | skip
    rename_i sm
    have hl : ws.length < sizeLine := by rw [← a2.length]; exact small_lt sm
    have vk := valD_ok (k := k) a2
    refine ⟨_, rfl, .inl ⟨ws, k, a1, keyD_ok ri ek, hl, fun v0 hv0 => ?_, fun hn => ?_⟩⟩
    · split at q
      · rename_i d0 ed
        rw [ed] at vk
        obtain ⟨v1, e1, e2⟩ := vk
        rw [hv0] at e1
        cases e1
        exact q ρ H _ Ext.refl rep e2
      · rename_i ed
        rw [ed] at vk
        have vk : valV ws k = none := vk
        rw [hv0] at vk; cases vk
    · split at q
      · rename_i d0 ed
        rw [ed] at vk
        obtain ⟨v1, e1, e2⟩ := vk
        rw [hn] at e1; cases e1
      · obtain ⟨ex, rp⟩ := rep.put (o := .dK (putD k d kvs)) (u := .dK (putK ws k v)) hr (fun _ _ z => by rw [a1] at z; cases z) fun ex => ⟨_, upd_same, putD_ok (rv.mono rep ex) (a2.mono rep ex)⟩
        exact q ρ _ _ ex rp (rv.mono rep ex)
  · rename_i kvs ee
    obtain ⟨ws, a1, a2⟩ := rep.dT hr ee
    split at q <;> first | exact q.elim | skip
    rename_i k ek
    split at q <;> first | exact q.elim | skip
    rename_i sm
    have hl : ws.length < sizeLine := by rw [← a2.length]; exact small_lt sm
    have vk := valD_ok (k := k) a2
    obtain ⟨b, eb, hb⟩ := keyT_ok ri ek
    refine ⟨_, rfl, .inr ⟨ws, k, b, a1, eb, hb, hl, fun v0 hv0 => ?_, fun hn => ?_⟩⟩
    · split at q
      · rename_i d0 ed
        rw [ed] at vk
        obtain ⟨v1, e1, e2⟩ := vk
        rw [hv0] at e1
        cases e1
        exact q ρ H _ Ext.refl rep e2
      · rename_i ed
        rw [ed] at vk
        have vk : valV ws k = none := vk
        rw [hv0] at vk; cases vk
    · split at q
      · rename_i d0 ed
        rw [ed] at vk
        obtain ⟨v1, e1, e2⟩ := vk
        rw [hn] at e1; cases e1
      · obtain ⟨ex, rp⟩ := rep.put (o := .dT (putD k d kvs)) (u := .dT (putK ws k v)) hr (fun _ _ z => by rw [a1] at z; cases z) fun ex => ⟨_, upd_same, putD_ok (rv.mono rep ex) (a2.mono rep ex)⟩
        exact q ρ _ _ ex rp (rv.mono rep ex)
theorem s_setd {mo mk mx : ME} (hu : X.A.units + 1 < cLine) (po : PE X o (tE Z E mo)) (pk : PE X e (tE Z E mk)) (px : PE X f (tE Z E mx)) (mm : M2 X o "setdefault" apos e f cpos := by exact ⟨rfl, rfl, rfl, rfl⟩) :
    PE X (.Call (.Attribute o "setdefault" apos) [e, f] [] cpos) (tE Z E (mSetd mo mk mx)) := (pe_sdA hu po pk px mm).imp fun τ H Q => by
  rintro ⟨ρ, σ, h, rep, rs, q⟩
  refine ⟨ρ, σ, h, rep, rs, Aft.bind q fun d h1 ρ1 H1 v e1 rep1 rv q1 => ?_⟩
  split at q1 <;> first | exact q1.elim | skip
  rename_i z
  obtain ⟨a, ea, ha⟩ := isDic_ok rep1 rv z
  refine ⟨a, ea, ha, ρ1, σ, h1, rep1, rs.mono rep e1, Aft.bind q1 fun k h2 ρ2 H2 vk e2 rep2 rk q2 => ?_⟩
  refine ⟨ρ2, σ, h2, rep2, (rs.mono rep e1).mono rep1 e2, Aft.bind q2 fun x h3 ρ3 H3 vx e3 rep3 rx q3 => ?_⟩
  obtain ⟨a', e4, sd⟩ := hSetd_ok rep3 ((rv.mono rep1 e2).mono rep2 e3) (rk.mono rep2 e3) rx q3
  rw [ea] at e4; cases e4
  exact sd
end
end
end Sm
namespace Sm
open PySem PySem.Spec PyProof.Rows L2
noncomputable section
section
variable {X : Cx} {Z : Cz} {E : L2.St → XK} {pos p p2 : Pos} {k v : Expr}
/-! ### {k: v}, one pair, the key an int, a text or a tuple -/
def D1N (p : Addr) (Q : VK) (ps : List (V × V)) (H2 : Hp) : Prop := ∃ x y, ps = [(x, y)] ∧ H2 p = some (.dK []) ∧
  ((∃ kk : Key, x = kV kk ∧ Q (.ref p) (upd H2 p (.dK [(kk, y)]))) ∨ ∃ (kk : List Key) (b : Addr), x = .ref b ∧ H2 b = some (.tup (kk.map kV)) ∧ Q (.ref p) (upd H2 p (.dT [(kk, y)])))
def tD1 (tk tv : TE) : TE := fun σ H Q => ∀ p, H p = none → tPairs [(tk, tv)] σ (upd H p (.dK [])) (D1N p Q)
theorem empty_H {P : Program} {w : World} {h : Heap} {a : Addr} (dd : h.DictOf (mixKind P w) a []) : h.DictOfH (tupleKind (mixKind P w)) a [] := by
  obtain ⟨o, es, ep, h1, h2, h3, _, h5, _⟩ := dd
  refine ⟨o, es, ep, h1, h2, h3, ?_, (fun x hx => nomatch hx), List.nodup_nil⟩
  cases e : es.toList with
  | nil => rfl
  | cons x r => rw [e] at h5; cases h5
theorem pe_d1 {tk tv : TE} (hu : X.A.units + 1 < cLine) (hk : PE X k tk) (hv : PE X v tv) : PE X (.Dict [some k] [v] pos) (tD1 tk tv) := by
  refine ⟨fun pins s τ H Q I q => ?_⟩
  have hn := I.hok.fresh (Nat.le_refl s.heap.objs.size)
  have I1 := I.laid (o := .dK []) (a := s.heap.objs.size) (t' := s.toks) (h' := s.heap.push { cls := .type "dict", data := .dict #[] }) (fun _ _ y => Heap.get?_push_of_some _ y) (Nat.le_refl _) (dk_empty s.heap I.big)
  refine wpAny_Dict_any rfl rfl (fun z => nomatch z) (show 1 ≤ 15 by decide) (thn ((pps_cons hk hv pps_nil).run pins _ τ _ _ I1 (q _ hn)) fun ws s2 hh => ?_)
  obtain ⟨ps, H2, I2, rel, x, y, rfl, ed, q2⟩ := hh
  obtain ⟨z, hd, vs0, r0, dd⟩ := dk_of I2.hok ed
  cases r0
  cases rel with
  | @cons _ b _ bs rr t =>
    cases t
    obtain ⟨u1, u2⟩ := b
    obtain ⟨r1, r2⟩ := rr
    have r1 : RelV x u1 := r1
    have r2 : RelV y u2 := r2
    rcases q2 with ⟨kk, rfl, q2⟩ | ⟨kk, c, rfl, hc, q2⟩
    · refine wpAny_storeAll (knd := mixKind X.prog X.w) [(u1, u2)] [(kk, u2)] [] s2 _ ⟨kV_is r1, rfl, trivial⟩ dd (by show 0 + 1 ≤ sizeLine; rw [sizeLine_eq]; omega) fun h' dd' hs => ?_
      have he : ∃ o, h'.get? s.heap.objs.size = some o := by obtain ⟨o, _, _, ho, _⟩ := dd'; exact ⟨o, ho⟩
      exact ⟨.ref s.heap.objs.size, _, d_write I2 (by rw [ed]; exact True.intro) hs he (dk_new (kvs := [(kk, y)]) (by show 1 ≤ sizeLine; rw [sizeLine_eq]; omega) hd (.cons ⟨rfl, r2⟩ .nil) dd'), rfl, q2⟩
    · cases (show u1 = Value.ref c from r1)
      have hu' : (tupleKind (mixKind X.prog X.w)).room X.A := Nat.lt_of_succ_lt hu
      refine wpAny_storeAllH (knd := tupleKind (mixKind X.prog X.w)) hu' [(.ref c, u2)] [(kk, c, u2)] [] s2 _ ⟨rfl, rfl, key_of I2.hok hc, trivial⟩ (empty_H dd) (by show 0 + 1 ≤ sizeLine; rw [sizeLine_eq]; omega) fun h' tk' dd' hs => ?_
      obtain ⟨o, es, ep, ho, g2, g3, g4, _, g5⟩ := dd'
      refine ⟨.ref s.heap.objs.size, _, d_write (ob := .dT [(kk, y)]) I2 (by rw [ed]; exact True.intro) hs ⟨o, ho⟩ ⟨by show 1 ≤ sizeLine; rw [sizeLine_eq]; omega, hd, [(kk, c, u2)], .cons ⟨rfl, ?_, r2⟩ .nil, o, es, ep, ho, g2, g3, g4, g5⟩, rfl, q2⟩
      show upd H2 s.heap.objs.size _ c = some (.tup (kk.map kV))
      exact (upd_ne (ne_of hc ed fun z => nomatch z)).trans hc
/-- mirrored: the new dict stands empty while the pair is made -/
def mD1 (mk mv : ME) : ME := fun σ h => (mk σ (h.push (.dK []))).bind fun d h1 => (mv σ h1).bind fun e h2 => match h2.get h.n with
  | some (.dK []) => match keyD d with
    | some kk => .ok (.ref h.n) (h2.put h.n (.dK [(kk, e)]))
    | none => match keyT d with
      | some kk => .ok (.ref h.n) (h2.put h.n (.dT [(kk, e)]))
      | none => .bad
  | _ => .bad
theorem s_d1 {mk mv : ME} (hu : X.A.units + 1 < cLine) (pk : PE X k (tE Z E mk)) (pv : PE X v (tE Z E mv)) : PE X (.Dict [some k] [v] pos) (tE Z E (mD1 mk mv)) := (pe_d1 hu pk pv).imp fun τ H Q => by
  rintro ⟨ρ, σ, h, rep, rs, q⟩
  intro p hp
  obtain ⟨ρ0, e0, rep0, ep⟩ := rep.push (o := .dK []) (u := .dK []) hp fun ρ' _ => ⟨[], upd_same, .nil⟩
  refine ⟨ρ0, σ, _, rep0, rs.mono rep e0, Aft.bind (Aft.shift (h1 := h.push (.dK [])) e0 q) fun d h1 ρ1 H1 x e1 rep1 rx q1 => ?_⟩
  refine ⟨ρ1, σ, h1, rep1, (rs.mono rep e0).mono rep0 e1, Aft.bind q1 fun e h2 ρ2 H2 y e2 rep2 ry q2 => ?_⟩
  have rx2 := rx.mono rep1 e2
  have e12 := e1.trans e2
  have hn : h.n < h2.n := Nat.lt_of_lt_of_le (show h.n < h.n + 1 from Nat.lt_succ_self _) e12.le
  have pe : ρ2 h.n = p := (e12.same h.n (Nat.lt_succ_self _)).trans ep
  split at q2 <;> first | exact q2.elim | skip
  rename_i ee
  obtain ⟨ws, a1, a2⟩ := rep2.dK hn ee
  cases a2
  rw [pe] at a1
  refine ⟨x, y, rfl, a1, ?_⟩
  have nf : ∀ ob w, H2 (ρ2 h.n) ≠ some (.frz ob w) := fun _ _ z => by rw [pe, a1] at z; cases z
  split at q2
  · rename_i kk ek
    obtain ⟨ex, rp⟩ := rep2.put (o := .dK [(kk, e)]) (u := .dK [(kk, y)]) hn nf fun ex => ⟨_, upd_same, .cons ⟨rfl, ry.mono rep2 ex⟩ .nil⟩
    have q3 := q2 ρ2 _ _ ex rp (.ref hn)
    rw [pe] at q3
    exact .inl ⟨kk, keyD_ok rx2 ek, q3⟩
  · split at q2 <;> first | exact q2.elim | skip
    rename_i kk ek
    obtain ⟨b, rfl, hb⟩ := keyT_ok rx2 ek
    obtain ⟨ex, rp⟩ := rep2.put (o := .dT [(kk, e)]) (u := .dT [(kk, y)]) hn nf fun ex => ⟨_, upd_same, .cons ⟨rfl, ry.mono rep2 ex⟩ .nil⟩
    have q3 := q2 ρ2 _ _ ex rp (.ref hn)
    rw [pe] at q3
    exact .inr ⟨kk, b, rfl, hb, q3⟩
end
end
end Sm
namespace Sm
open PySem PySem.Spec PyProof.Rows L2
noncomputable section
section
variable {X : Cx} {Z : Cz} {E : L2.St → XK} {pos p p2 : Pos} {k v : Expr}
/-! ### list, len of dicts too -/
def dkeys (d : D) (h : Hm) : Option (List D) := match d with
  | .ref i => match h.get i with
    | some (.dK kvs) => some (keysK kvs)
    | some (.dT kvs) => some (keysT kvs)
    | _ => none
  | _ => none
def fListA : FL := fun ds h => match ds with
  | [d] => match dkeys d h with
    | some xs => .ok (.ref h.n) (h.push (.lst xs))
    | none => fList [d] h
  | _ => .bad
def rListS (K : PySem.W.Frag) : List V → Hp → VK → Prop := fun xs H Q => ∃ p ys, xs = [.ref p] ∧ (SqL K H p ys ∨ SqT K H p ys) ∧ ∀ l, H l = none → Q (.ref l) (upd H l (.lst ys))
def rListK : List V → Hp → VK → Prop := fun xs H Q => ∃ p kvs, xs = [.ref p] ∧ H p = some (.dK kvs) ∧ ∀ q, H q = none → Q (.ref q) (upd H q (.lst (kvs.map fun kv => kV kv.1)))
def rListT : List V → Hp → VK → Prop := fun xs H Q => ∃ d kvs, xs = [V.ref d] ∧ Rd H d (.dT kvs) ∧ ∀ p bs, H p = none → IsKeys H kvs bs → Q (.ref p) (upd H p (.lst (bs.map V.ref)))
def rListA (K : PySem.W.Frag) : List V → Hp → VK → Prop := fun xs H Q => rListS K xs H Q ∨ (rListK xs H Q ∨ rListT xs H Q)
theorem cr_listA (hc : X.calm = true) : CallR X (.type "list") (rListA X.K) := CallR.or call_list_of (CallR.or (call_list_dK hc) (call_list_dT hc))
theorem keysK_rv {ρ : Nat → Addr} {n : Nat} {H : Hp} : ∀ {kvs : List (Key × D)} {ws : List (Key × V)}, RKs Z ρ n H kvs ws → RVs Z ρ n H (keysK kvs) (ws.map fun kv => kV kv.1)
  | _, _, .nil => .nil
  | p :: r, q :: t, .cons rp rt => .cons (by rw [rp.1]; exact keyO_ok q.1) (keysK_rv rt)
theorem keysT_rv {ρ : Nat → Addr} {n : Nat} {H : Hp} : ∀ {kvs : List (List Key × D)} {ws : List (List Key × V)} {bs : List Addr}, RKs Z ρ n H kvs ws → IsKeys H ws bs → RVs Z ρ n H (keysT kvs) (bs.map V.ref)
  | _, _, _, .nil, .nil => .nil
  | p :: r, q :: t, b :: bs, .cons rp rt, .cons sp st => .cons (by rw [rp.1]; exact .tup sp (keysO_ok q.1)) (keysT_rv rt st)
theorem cs_listA : CS Z (rListA Z.K) fListA := by
  intro ρ h H ds vs Q E rep rv q
  unfold fListA at q
  split at q <;> first | exact q.elim | skip
  rename_i d
  split at q
  · rename_i xs ee
    cases rv with
    | cons r1 r2 =>
      cases r2
      unfold dkeys at ee
      split at ee <;> first | cases ee | skip
      rename_i i
      cases r1
      rename_i hi
      split at ee <;> cases ee
      · rename_i kvs eo
        obtain ⟨ws, a1, a2⟩ := rep.dK hi eo
        exact .inr (.inl ⟨ρ i, ws, rfl, a1, fun l hl => new_lst rep (keysK_rv a2) q hl⟩)
      · rename_i kvs eo
        obtain ⟨ws, a1, a2⟩ := rep.dT hi eo
        exact .inr (.inr ⟨ρ i, ws, rfl, .inl a1, fun l bs hl hk => new_lst rep (keysT_rv a2 hk) q hl⟩)
  · exact .inl (cs_list ρ h H [d] vs Q E rep rv q)
def fLenA : FL := fun ds h => match ds with
  | [d] => match dkeys d h with
    | some xs => .ok (.int (Int.ofNat xs.length)) h
    | none => fLen [d] h
  | _ => .bad
def rLenK : List V → Hp → VK → Prop := fun xs H Q => ∃ a kvs, xs = [V.ref a] ∧ H a = some (.dK kvs) ∧ Q (.int kvs.length) H
def rLenTt : List V → Hp → VK → Prop := fun xs H Q => ∃ (p : Addr) (kvs : List (List Key × V)), xs = [.ref p] ∧ H p = some (.dT kvs) ∧ Q (.int ((kvs.length : Nat) : Int)) H
def rLenA (K : PySem.W.Frag) : List V → Hp → VK → Prop := fun xs H Q => rLenM K xs H Q ∨ (rLenK xs H Q ∨ rLenTt xs H Q)
end
end
end Sm
namespace Sm
noncomputable section
section
open PySem PySem.Spec PyProof.Rows L2
variable {X : Cx} {Z : Cz}
theorem cr_lenA : CallR X (.builtin "len") (rLenA X.K) := CallR.or call_len (CallR.or call_lenD call_len_dT)
theorem keysK_len : ∀ kvs : List (Key × D), (keysK kvs).length = kvs.length
  | [] => rfl
  | _ :: r => congrArg (· + 1) (keysK_len r)
theorem keysT_len : ∀ kvs : List (List Key × D), (keysT kvs).length = kvs.length
  | [] => rfl
  | _ :: r => congrArg (· + 1) (keysT_len r)
theorem cs_lenA : CS Z (rLenA Z.K) fLenA := by
  intro ρ h H ds vs Q E rep rv q
  unfold fLenA at q
  split at q <;> first | exact q.elim | skip
  rename_i d
  split at q
  · rename_i xs ee
    cases rv with
    | cons r1 r2 =>
      cases r2
      unfold dkeys at ee
      split at ee <;> first | cases ee | skip
      rename_i i
      cases r1
      rename_i hi
      split at ee <;> cases ee
      · rename_i kvs eo
        obtain ⟨ws, a1, a2⟩ := rep.dK hi eo
        have e : (Int.ofNat (keysK kvs).length) = ((ws.length : Nat) : Int) := by rw [keysK_len, a2.length]; rfl
        exact .inr (.inl ⟨ρ i, ws, rfl, a1, q ρ H _ Ext.refl rep (e ▸ .int _)⟩)
      · rename_i kvs eo
        obtain ⟨ws, a1, a2⟩ := rep.dT hi eo
        have e : (Int.ofNat (keysT kvs).length) = ((ws.length : Nat) : Int) := by rw [keysT_len, a2.length]; rfl
        exact .inr (.inr ⟨ρ i, ws, rfl, a1, q ρ H _ Ext.refl rep (e ▸ .int _)⟩)
  · exact .inl (cs_len ρ h H [d] vs Q E rep rv q)
end
/-! ### slices with a step -/
section
open PySem PySem.Spec PyProof.Rows HT
variable {prog : Program} {w : World} {A : Around} {E : Value → Shared → Prop} {s : Shared}
def tupPick {α : Type} (xs : List α) (lo hi : Option Int) (st : Int) : List α :=
  (List.range (Builtin.Slice.slicePlaces (Builtin.Slice.sliceAdjust lo hi st (xs.length : Int)).1 (Builtin.Slice.sliceAdjust lo hi st (xs.length : Int)).2 st)).filterMap fun (k : Nat) => xs[((Builtin.Slice.sliceAdjust lo hi st (xs.length : Int)).1 + (k : Int) * st).toNat]?
theorem applied_step {sl : Addr} {vl vu vs : Value} {lo hi : Option Int} {st : Int} {n : Nat} {Q : Int × Int × Nat → Shared → Prop} (hs : s.heap.IsSliceOf sl vl vu vs) (pl : IsPart vl lo) (pu : IsPart vu hi) (ps : IsPart vs (some st)) (h0 : st ≠ 0)
    (h : Q ((Builtin.Slice.sliceAdjust lo hi st (n : Int)).1, st, Builtin.Slice.slicePlaces (Builtin.Slice.sliceAdjust lo hi st (n : Int)).1 (Builtin.Slice.sliceAdjust lo hi st (n : Int)).2 st) s) :
    wpAny (model prog w) A (Builtin.Slice.sliceApplied (.ref sl) (pure (n : Int))) Q E s := by
  obtain ⟨os, hos, hcs, hds⟩ := id hs
  unfold Builtin.Slice.sliceApplied Builtin.Slice.sliceFields
  refine wpAny_bind (wpAny_bind (wpAny_field hos hds (x := vl) rfl (wpAny_bind (wpAny_field hos hds (x := vu) rfl (wpAny_bind (wpAny_field hos hds (x := vs) rfl (wpAny_pure ?_)))))))
  refine wpAny_bind (slicePart_ ps ?_)
  have hb : ¬ (((some st).getD 1 == (0 : Int)) = true) := fun z => h0 (eq_of_beq z)
  show wpAny _ _ (if ((some st).getD 1 == (0 : Int)) = true then _ else _) _ _ s
  rw [if_neg hb]
  exact wpAny_bind (slicePart_ pl (wpAny_bind (slicePart_ pu (wpAny_bind (wpAny_pure (wpAny_pure h))))))
theorem getItem_tuple_step {t sl : Addr} {items : Array Value} {vl vu vs : Value} {lo hi : Option Int} {st : Int} {Q : Value → Shared → Prop} (ht : IsTup s.heap t items) (hs : s.heap.IsSliceOf sl vl vu vs) (pl : IsPart vl lo) (pu : IsPart vu hi) (ps : IsPart vs (some st)) (h0 : st ≠ 0) (h1 : st ≠ 1)
    (h : Q (.ref s.heap.objs.size) { s with heap := s.heap.push { cls := .type "tuple", data := .seq (tupPick items.toList lo hi st).toArray } }) (hsz : (tupPick items.toList lo hi st).length ≤ sizeLine) : wpAny (model prog w) A (getItem (.ref t) (.ref sl)) Q E s := by
  obtain ⟨os, hos, hcs, hds⟩ := id hs
  have hTs : s.TypeIs (.ref sl) "slice" := ⟨os, hos, hcs⟩
  have hp : ((List.range (Builtin.Slice.slicePlaces (Builtin.Slice.sliceAdjust lo hi st ((items.size : Nat) : Int)).1 (Builtin.Slice.sliceAdjust lo hi st ((items.size : Nat) : Int)).2 st)).filterMap fun (k : Nat) => items[((Builtin.Slice.sliceAdjust lo hi st ((items.size : Nat) : Int)).1 + (k : Int) * st).toNat]?).toArray = (tupPick items.toList lo hi st).toArray := by
    unfold tupPick
    rw [Array.length_toList]
    congr 2
    funext k
    exact Array.getElem?_toList.symm
  have hk : sizeOk (.seq (tupPick items.toList lo hi st).toArray) := by
    show (tupPick items.toList lo hi st).toArray.size ≤ sizeLine
    rw [List.size_toArray]; exact hsz
  unfold getItem
  try with_reducible refine wpAny_holding ?_
  first | refine wpAny_bind (wpAny_pure ?_) | skip
  refine wpAny_bind (wpAny_sequenceKey ht.typeIs (by decide) ?_)
  refine wpAny_bind (wpAny_callSpecial?_slot (T := "tuple") (name := Str.ofString "__getitem__") ht.typeIs PyProof.Rows.slot_tuple_getitem
    (wpAny_call_entry (T := "tuple") PyProof.Rows.slot_tuple_getitem ht.typeIs entry_tuple_getitem ?_ (args_tuple_getitem _ _)))
  show wpAny _ _ (Builtin.Tuple.tupleItemsOf (.ref t) >>= _) _ _ s
  refine wpAny_bind (tupleItemsOf_ ht ?_)
  refine wpAny_bind (wpAny_typeOf hTs ?_)
  rw [if_pos (show ((Value.type "slice" == Value.type "slice") = true) by decide)]
  refine wpAny_bind (applied_step (n := items.size) hs pl pu ps h0 ?_)
  have hno : ∀ (b : Int) (n : Nat), ¬ ((b == 0 && st == 1 && n == items.size) = true) := fun b n q => by
    rw [Bool.and_eq_true, Bool.and_eq_true] at q
    exact h1 (eq_of_beq q.1.2)
  show wpAny _ _ (if ((Builtin.Slice.sliceAdjust lo hi st ((items.size : Nat) : Int)).1 == 0 && st == 1 && Builtin.Slice.slicePlaces (Builtin.Slice.sliceAdjust lo hi st ((items.size : Nat) : Int)).1 (Builtin.Slice.sliceAdjust lo hi st ((items.size : Nat) : Int)).2 st == items.size) = true then _ else _) _ _ s
  rw [if_neg (hno _ _), hp]
  first
    | exact wpAny_bind (m := Builtin.Tuple.tupleExact _) (wpAny_newObj_type (wpAny_pure ⟨_, rfl, wpAny_pure h⟩) hk)
    | exact wpAny_bind (m := Builtin.Tuple.tupleExact _) (wpAny_newObj_type (wpAny_bind (wpAny_pure (wpAny_pure ⟨_, rfl, wpAny_pure h⟩))) hk)
    | exact wpAny_bind (wpAny_bind (m := Builtin.Tuple.tupleExact _) (wpAny_newObj_type (wpAny_pure (wpAny_pure ⟨_, rfl, wpAny_pure h⟩)) hk))
    | exact wpAny_bind (wpAny_bind (m := Builtin.Tuple.tupleExact _) (wpAny_newObj_type (wpAny_pure ⟨_, rfl, wpAny_pure h⟩) hk))
end
section
open PySem PySem.Spec PyProof.Rows L2
variable {X : Cx} {Z : Cz} {E : L2.St → XK} {pos p p2 : Pos} {e : Expr}
def lstPick {α : Type} (xs : List α) (lo hi : Option Int) (st : Int) : List α :=
  (sliceRange (sliceBounds lo hi (some st) xs.length).1 (sliceBounds lo hi (some st) xs.length).2.1 (sliceBounds lo hi (some st) xs.length).2.2).filterMap (xs[·]?)
def rStep (K : PySem.W.Frag) (x : V) (lo hi : Option Int) (st : Int) (H : Hp) (Q : VK) : Prop := ∃ a xs, x = .ref a ∧ st ≠ 0 ∧ st ≠ 1 ∧
  ((SqL K H a xs ∧ (lstPick xs lo hi st).length ≤ sizeLine ∧ ∀ p, H p = none → Q (.ref p) (upd H p (.lst (lstPick xs lo hi st)))) ∨ (SqT K H a xs ∧ (tupPick xs lo hi st).length ≤ sizeLine ∧ ∀ p, H p = none → Q (.ref p) (upd H p (.tup (tupPick xs lo hi st)))))
theorem vals_pick {js : List Nat} : ∀ {xs : List V} {us : List Value}, Vals xs us → Vals (js.filterMap (xs[·]?)) (js.filterMap (us[·]?)) := fun {xs us} r => by
  induction js with
  | nil => exact .nil
  | cons j js ih =>
    rw [List.filterMap_cons, List.filterMap_cons]
    cases z : xs[j]? with
    | none =>
      have : us[j]? = none := by rw [List.getElem?_eq_none_iff, ← r.length]; exact List.getElem?_eq_none_iff.mp z
      rw [this]; exact ih
    | some x =>
      obtain ⟨u, h1, h2⟩ := vals_at r z
      rw [h1]; exact .cons h2 ih
theorem vals_fm {γ : Type} {f : γ → Nat} {js : List γ} {xs : List V} {us : List Value} (r : Vals xs us) : Vals (js.filterMap fun k => xs[f k]?) (js.filterMap fun k => us[f k]?) := by
  have := vals_pick (js := js.map f) r
  rw [List.filterMap_map, List.filterMap_map] at this
  exact this
theorem pe_step {te : TE} {lo hi st : Option Expr} {tl th ts : TO} (he : PE X e te) (pl : PO X lo tl) (ph : PO X hi th) (pst : PO X st ts) (hsub : ∀ ov iv, subscripted (.Slice lo hi st p2) false ov iv = operate [ov, iv] (getItem ov iv) := by intro _ _; with_unfolding_all rfl) :
    PE X (.Subscript e (.Slice lo hi st p2) pos) (fun σ H Q => te σ H fun x H1 => tl σ H1 fun l H2 => th σ H2 fun u H3 => ts σ H3 fun o H4 => ∃ k, o = some k ∧ rStep X.K x l u k H4 Q) := by
  refine ⟨fun pins s τ H Q I h => ?_⟩
  refine Subscript_ (thn (he.run pins s τ H _ I h) fun v s1 hh => ?_)
  obtain ⟨x, H1, I1, r1, q1⟩ := hh
  refine wpAny_Slice (thn (pl.run pins s1 τ H1 _ I1 q1) fun vl s2 hh => ?_)
  obtain ⟨l, H2, I2, ql, q2⟩ := hh
  refine thn (ph.run pins s2 τ H2 _ I2 q2) fun vu s3 hh => ?_
  obtain ⟨u, H3, I3, qu, q3⟩ := hh
  refine thn (pst.run pins s3 τ H3 _ I3 q3) fun vs s4 hh => ?_
  obtain ⟨o, H4, I4, qs, k, rfl, a, xs, rfl, h0, h1, q4⟩ := hh
  cases r1
  have I5 : Inv X pins τ H4 { s4 with heap := s4.heap.push { cls := .type "slice", data := .fields #[vl, vu, vs] } } := I4.kept (t' := s4.toks) fun b ob q => Heap.get?_push_of_some _ q
  show wpAny (model X.prog X.w) X.A (subscriptTail e (.Slice lo hi st p2) (.ref a) (.ref s4.heap.objs.size)) (EP X pins τ Q) X.xe { s4 with heap := s4.heap.push { cls := .type "slice", data := .fields #[vl, vu, vs] } }
  rcases q4 with ⟨hx, hz, q⟩ | ⟨hx, hz, q⟩
  · obtain ⟨its, r, ht, hz0⟩ := I5.list hx
    have hl := r.length
    refine tail_any (ops := [.ref a, .ref s4.heap.objs.size]) ht.isList.typeIs (PySem.slot_list_getitem.lookup) (wpAny_getItem_list_slice ht.isList (Heap.IsSliceOf.new _ vl vu vs) ql qu qs (fun z => h0 (Option.some.inj z)) ?_ (by rw [List.size_toArray, ← hl]; exact hz0)) (hsub _ _)
    have e : (slicePick its.toArray l u (some k)) = (lstPick its l u k).toArray := by
      unfold slicePick lstPick
      rw [List.size_toArray]
      congr 2
      funext j
      exact List.getElem?_toArray
    rw [e]
    have rv : Vals (lstPick xs l u k) (lstPick its l u k) := by
      unfold lstPick
      rw [hl]
      exact vals_pick r
    exact ⟨.ref _, _, I5.laid (t' := s4.toks) (o := .lst (lstPick xs l u k)) (fun b ob y => Heap.get?_push_of_some _ y) (Nat.le_refl _) ⟨hz, _, 0, rv, Heap.get?_push_size _ rfl⟩, rfl, q _ (I5.hok.fresh (Nat.le_refl _))⟩
  · obtain ⟨its, r, ht, hz0⟩ := I5.tuple hx
    have hl := r.length
    have rv : Vals (tupPick xs l u k) (tupPick its l u k) := by
      unfold tupPick
      rw [hl]
      exact vals_fm r
    refine tail_any (ops := [.ref a, .ref s4.heap.objs.size]) ht.typeIs (PyProof.Rows.slot_tuple_getitem.lookup) (getItem_tuple_step ht (Heap.IsSliceOf.new _ vl vu vs) ql qu qs h0 h1 ?_ (by rw [show its.toArray.toList = its from rfl, ← rv.length]; exact hz)) (hsub _ _)
    exact ⟨.ref _, _, I5.laid (t' := s4.toks) (o := .tup (tupPick xs l u k)) (fun b ob y => Heap.get?_push_of_some _ y) (Nat.le_refl _) ⟨hz, _, rv, ⟨_, Heap.get?_push_size _ rfl, rfl, _, rfl⟩⟩, rfl, q _ (I5.hok.fresh (Nat.le_refl _))⟩
/-- mirrored -/
def fStep (d : D) (lo hi : Option Int) (st : Option Int) (h : Hm) : R D := match st with
  | some k => match decide (k = 0) || decide (k = 1) with
    | true => .bad
    | false => match d with
      | .ref i => match h.get i with
        | some (.lst xs) => match small (lstPick xs lo hi k).length with
          | true => .ok (.ref h.n) (h.push (.lst (lstPick xs lo hi k)))
          | false => .bad
        | _ => .bad
      | .tup xs => match small (tupPick xs lo hi k).length with
        | true => .ok (.tup (tupPick xs lo hi k)) h
        | false => .bad
      | _ => .bad
  | none => .bad
theorem rvs_pick {ρ : Nat → Addr} {n : Nat} {H : Hp} {js : List Nat} {xs : List D} {vs : List V} (r : RVs Z ρ n H xs vs) : RVs Z ρ n H (js.filterMap (xs[·]?)) (js.filterMap (vs[·]?)) := by
  induction js with
  | nil => exact .nil
  | cons j js ih =>
    rw [List.filterMap_cons, List.filterMap_cons]
    cases z : xs[j]? with
    | none =>
      have : vs[j]? = none := by rw [List.getElem?_eq_none_iff, ← r.length]; exact List.getElem?_eq_none_iff.mp z
      rw [this]; exact ih
    | some x =>
      obtain ⟨u, h1, h2⟩ := r.get z
      rw [h1]; exact .cons h2 ih
theorem rvs_fm {ρ : Nat → Addr} {n : Nat} {H : Hp} {γ : Type} {f : γ → Nat} {js : List γ} {xs : List D} {vs : List V} (r : RVs Z ρ n H xs vs) : RVs Z ρ n H (js.filterMap fun k => xs[f k]?) (js.filterMap fun k => vs[f k]?) := by
  have := rvs_pick (js := js.map f) r
  rw [List.filterMap_map, List.filterMap_map] at this
  exact this
def mStep (m : ME) (lo hi st : MO) : ME := fun σ h => (m σ h).bind fun d h1 => (lo σ h1).bind fun l h2 => (hi σ h2).bind fun u h3 => (st σ h3).bind fun k h4 => fStep d l u k h4
theorem s_step {lo hi st : Option Expr} {m : ME} {ml mh ms : MO} (hK : X.K = Z.K) (pe : PE X e (tE Z E m)) (pl : PO X lo (tO Z E ml)) (ph : PO X hi (tO Z E mh)) (ps : PO X st (tO Z E ms)) (hsub : ∀ ov iv, subscripted (.Slice lo hi st p2) false ov iv = operate [ov, iv] (getItem ov iv) := by intro _ _; with_unfolding_all rfl) : PE X (.Subscript e (.Slice lo hi st p2) pos) (tE Z E (mStep m ml mh ms)) := (pe_step pe pl ph ps hsub).imp fun τ H Q => by
  rintro ⟨ρ, σ, h, rep, rs, q⟩
  refine ⟨ρ, σ, h, rep, rs, Aft.bind q fun d h1 ρ1 H1 v e1 rep1 rv q1 => ?_⟩
  have rs1 := rs.mono rep e1
  refine ⟨ρ1, σ, h1, rep1, rs1, Aft.bind q1 fun l h2 ρ2 H2 vl e2 rep2 rl q2 => ?_⟩
  have rs2 := rs1.mono rep1 e2
  refine ⟨ρ2, σ, h2, rep2, rs2, Aft.bind q2 fun u h3 ρ3 H3 vu e3 rep3 ru q3 => ?_⟩
  have rs3 := rs2.mono rep2 e3
  refine ⟨ρ3, σ, h3, rep3, rs3, Aft.bind q3 fun o h4 ρ4 H4 vo e4 rep4 ro q4 => ?_⟩
  cases rl; cases ru; cases ro
  have rv4 := ((rv.mono rep1 e2).mono rep2 e3).mono rep3 e4
  clear rv
  unfold fStep at q4
  split at q4 <;> first | exact q4.elim | skip
  rename_i k
  split at q4 <;> first | exact q4.elim | skip
  rename_i hk
  have hk := Bool.or_eq_false_iff.mp hk
  have h0 : k ≠ 0 := of_decide_eq_false hk.1
  have h1' : k ≠ 1 := of_decide_eq_false hk.2
  refine ⟨k, rfl, ?_⟩
  cases rv4 <;> first | exact q4.elim | skip
  · rename_i a ds vs s t
    simp only at q4
    split at q4 <;> first | exact q4.elim | skip
    rename_i sm
    have rp : RVs Z ρ4 h4.n H4 (tupPick ds l u k) (tupPick vs l u k) := by
      unfold tupPick
      rw [t.length]
      exact rvs_fm t
    exact ⟨a, vs, rfl, h0, h1', .inr ⟨SqT.of s, by rw [← rp.length]; exact small_ok sm, fun p hp => new_tup rep4 rp q4 hp⟩⟩
  · rename_i i hi
    simp only at q4
    split at q4 <;> first | exact q4.elim | skip
    rename_i xs ee
    split at q4 <;> first | exact q4.elim | skip
    rename_i sm
    obtain ⟨vs, a1, t⟩ := rep4.lst hi ee
    have rp : RVs Z ρ4 h4.n H4 (lstPick xs l u k) (lstPick vs l u k) := by
      unfold lstPick
      rw [t.length]
      exact rvs_pick t
    exact ⟨ρ4 i, vs, rfl, h0, h1', .inl ⟨SqL.of a1, by rw [← rp.length]; exact small_ok sm, fun p hp => new_lst rep4 rp q4 hp⟩⟩
end
end
end Sm
namespace Sm
open PySem PySem.Spec PyProof.Rows L2
noncomputable section
section
variable {X : Cx} {Z : Cz} {E : L2.St → XK} {pos p p2 : Pos}
/-! ### o[i] op= e -/
theorem get_L : PGet X (rIxL X.K) := by
  intro pins s τ H o i ov iv Q I ro ri h
  obtain ⟨a, xs, k, z, rfl, rfl, hq, he, q⟩ := h
  cases ro
  obtain ⟨t, rfl⟩ := ri
  obtain ⟨its, r, pl, hz⟩ := I.list hq
  obtain ⟨j, g1, g2, g3, g4, g5⟩ := atI_get he
  obtain ⟨w, ew, rw'⟩ := r.get g2
  have hl := r.length
  have hn := line63
  have fin : EP X pins τ Q w s := ⟨z, H, I, rw', q⟩
  rcases Int.lt_or_le k 0 with h0 | h0
  · have hj : (k + (its.toArray.size : Int)).toNat = j := by
      rw [seqIndex_neg (by omega) g4] at g1
      rw [List.size_toArray, ← hl]
      exact Option.some.inj g1
    exact wpAny_getItem_list_neg pl.isList h0 (by rw [List.size_toArray] <;> omega) (by omega) (by rw [hj]; simpa using ew) fin
  · have hj : k.toNat = j := by
      rw [seqIndex_of h0 g5] at g1
      exact Option.some.inj g1
    exact wpAny_getItem_list pl.isList h0 (by omega) (by rw [hj]; simpa using ew) fin
theorem get_D (hu : X.A.units + 1 < cLine) : PGet X rIxDic := by
  intro pins s τ H o i ov iv Q I ro ri h
  obtain ⟨a, w, rfl, g, q⟩ := h
  cases ro
  exact d_getItem hu I g ri fun w' s' I' rw' => ⟨w, H, I', rw', q⟩
def rGetM (K : PySem.W.Frag) : R2 := fun x y H Q => rIxL K x y H Q ∨ rIxDic x y H Q
theorem get_M (hu : X.A.units + 1 < cLine) : PGet X (rGetM X.K) := by
  intro pins s τ H o i ov iv Q I ro ri h
  rcases h with h | h
  · exact get_L pins s τ H o i ov iv Q I ro ri h
  · exact get_D hu pins s τ H o i ov iv Q I ro ri h
def fGetM : F2 := fun d e h => match isDic d h with
  | true => match lookD d e h with
    | some (some x) => .ok x h
    | _ => .bad
  | false => match d, e with
    | .ref i, .int k => match h.get i with
      | some (.lst xs) => match atD xs k with
        | some x => .ok x h
        | none => .bad
      | _ => .bad
    | _, _ => .bad
theorem s2_getM : S2 Z (rGetM Z.K) fGetM := by
  intro ρ h H d e v w Q E rep rv rw q
  unfold fGetM at q
  split at q
  · split at q <;> first | exact q.elim | skip
    rename_i x ex
    obtain ⟨a, o', ea, g, y, e5, ry⟩ := lookD_ok rep rv rw ex
    subst e5
    exact .inr ⟨a, y, ea, g, q ρ H _ Ext.refl rep ry⟩
  · split at q <;> first | exact q.elim | skip
    rename_i r0 k
    cases rw
    cases rv; rename_i hi
    split at q <;> first | exact q.elim | skip
    rename_i xs ee
    obtain ⟨vs, a1, a2⟩ := rep.lst hi ee
    split at q <;> first | exact q.elim | skip
    rename_i x ex
    obtain ⟨y, h1, h2⟩ := a2.atI ex
    exact .inl ⟨_, vs, _, y, rfl, rfl, SqL.of a1, h1, q ρ H _ Ext.refl rep h2⟩
variable {o i e : Expr} {mo mi me : ME}
def msAugS (mo mi : ME) (f : F2) (me : ME) : MS := fun σ h => (mo σ h).bindS fun o h1 => (mi σ h1).bindS fun i h2 => (fGetM o i h2).bindS fun x h3 => (me σ h3).bindS fun y h4 => (f x y h4).bindS fun r h5 => match hSet o i r h5 with
  | some h6 => .nx σ h6
  | none => .bad
theorem s_augS {op : Operator} {r : TIp} {f : F2} {tpos : Pos} (hK : X.K = Z.K) (hu : X.A.units + 1 < cLine) (s : S2 Z r f) (hp : PIp X op r) (po : PE X o (tE Z E mo)) (pi : PE X i (tE Z E mi)) (pe : PE X e (tE Z E me))
    (ha : ∀ ov iv new, augStore i ov iv new = (do holding [new, ov, iv] (setItem ov iv new); release [new, ov, iv] []; pure .next) := by intros; rfl) : PS X (.AugAssign (.Subscript o i tpos) op e pos) (tS Z E (msAugS mo mi f me)) := (ps_augS po pi (get_M hu) pe hp (set_M hu) ha).imp fun De τ H => by
  rintro ⟨ρ, σ, h, rep, rs, q⟩
  refine ⟨ρ, σ, h, rep, rs, AftS.bind q fun d h1 ρ1 H1 v e1 rep1 rv q1 => ?_⟩
  have rs1 := rs.mono rep e1
  refine ⟨ρ1, σ, h1, rep1, rs1, AftS.bind q1 fun k h2 ρ2 H2 vk e2 rep2 rk q2 => ?_⟩
  have rs2 := rs1.mono rep1 e2
  have rv2 := rv.mono rep1 e2
  rw [hK]
  refine s2_getM ρ2 h2 H2 d k v vk _ (E τ) rep2 rv2 rk (AftS.bind q2 fun x h3 ρ3 H3 xv e3 rep3 rx q3 => ?_)
  have rs3 := rs2.mono rep2 e3
  refine ⟨ρ3, σ, h3, rep3, rs3, AftS.bind q3 fun y h4 ρ4 H4 vy e4 rep4 ry q4 => ?_⟩
  have rs4 := rs3.mono rep3 e4
  have rx4 := rx.mono rep3 e4
  have rv4 := (rv2.mono rep2 e3).mono rep3 e4
  have rk4 := (rk.mono rep2 e3).mono rep3 e4
  refine s ρ4 h4 H4 x y xv vy _ (E τ) rep4 rx4 ry (AftS.bind q4 fun rr h5 ρ5 H5 vr e5 rep5 rr5 q5 => ?_)
  split at q5 <;> first | exact q5.elim | skip
  rename_i h6 eh
  exact hSet_ok rep5 (rv4.mono rep4 e5) (rk4.mono rep4 e5) rr5 eh fun H6 e6 rep6 en => by
    have := q5 ρ5 H6 τ e6 rep6 (en ▸ ((rs4.mono rep4 e5).mono rep5 e6))
    exact this
end
end
end Sm
namespace Sm
open PySem PySem.Spec PyProof.Rows L2
noncomputable section
/-! ### a clause of a comprehension, of any kind and depth -/
def clTurn (p : Pos) (t : Expr) (ifs : List Expr) (it : Value) (env : Env) (yes no : Sem Fin) : Sem Fin := do
  standAt p
  match ← pyNext it with
  | none => pure (.done .next)
  | some v =>
    letOwnedTupleGo t it v
    assign t env v
    let mut fits := true
    for c in ifs do
      if fits then fits ← isTrue c env (eval c env)
    if fits then yes else no
def Wk (σ τ : L2.St) : Prop := σ.length = τ.length ∧ ∀ (j : Nat) (v : V), σ[j]? = some (some v) → τ[j]? = some (some v)
theorem Wk.refl {σ : L2.St} : Wk σ σ := ⟨rfl, fun _ _ h => h⟩
theorem Wk.trans {σ τ υ : L2.St} (a : Wk σ τ) (b : Wk τ υ) : Wk σ υ := ⟨a.1.trans b.1, fun j v h => b.2 j v (a.2 j v h)⟩
theorem Ag.wk {is : List Nat} {σ τ : L2.St} (a : Ag is σ τ) (h : ∀ j ∈ is, ∀ v, σ[j]? ≠ some (some v)) : Wk σ τ := ⟨a.1.symm, fun j v e => by
  by_cases hj : j ∈ is
  · exact absurd e (h j hj v)
  · rw [a.2 j hj]; exact e⟩
section
variable {Y : Cx} {e : Expr} {depth : Nat} {t : Expr} {ifs : List Expr} {p : Pos} {it : Addr} {acc : Value} {yes : Sem Fin} {J : It} {fp : List Addr} {tn : Nat → Heap → Prop} {pins : List (Addr × Obj)} {σ : L2.St} {g : TG} {tt : TT} {R : Result → Shared → Prop}
theorem clause (hx : Y.xe = fun _ _ => False) (hc : Y.calm = true) (hA : Y.A.under (.compLoop e depth (.ref it) acc Y.env) = Y.A) (hD : (model Y.prog Y.w).den (.compLoop e depth (.ref it) acc Y.env) = ((compTurn e depth (.ref it) acc Y.env).onRaise fun x => do noteFrame x Y.env; theTreesLotGoes x)) (T : Turn Y.prog Y.w Y.K t J fp it tn)
    (hT : compTurn e depth (.ref it) acc Y.env = clTurn p t ifs (.ref it) Y.env yes (again (.compLoop e depth (.ref it) acc Y.env)))
    (pg : PG Y t g) (pt : PTs Y ifs tt) (f0 : ∀ b ∈ fp, ∀ H : Hp, H b = none → FpOk Y pins H b) (W : Nat → Nat → Hp → Prop) (YES : Nat → Nat → L2.St → Hp → Prop)
    (turn : ∀ i m H, W i m H → (J.stop i H ∧ ∀ s, Inv Y pins σ H s → R (.ok .next) s) ∨ (J.go i H ∧ ∀ x H', J.yld i H x H' → g x σ H' fun σ2 H2 => Wk σ σ2 ∧ tt σ2 H2 fun b H3 => if b = true then YES i m σ2 H3 else ∃ m', m' < m ∧ W (i + 1) m' H3))
    (hyes : ∀ i m σ2 H3 pins2 s, YES i m σ2 H3 → Wk σ σ2 → Inv Y (pins ++ pins2) σ2 H3 s → wpAny (model Y.prog Y.w) Y.A yes (fun fin s' => match fin with
      | .done _ => False
      | .again c => c = .compLoop e depth (.ref it) acc Y.env ∧ ∃ m' σ3 H', m' < m ∧ Inv Y (pins ++ pins2) σ3 H' s' ∧ Wk σ σ3 ∧ W (i + 1) m' H') (fun _ _ => False) s)
    {m0 : Nat} {H0 : Hp} {s0 : Shared} (w0 : W 0 m0 H0) (I0 : Inv Y pins σ H0 s0) (st0 : tn 0 s0.heap) (n0 : ∀ b ∈ fp, H0 b = none) : codeAny (model Y.prog Y.w) Y.A (.compLoop e depth (.ref it) acc Y.env) R s0 := by
  refine codeAny_loop rfl (fun m s => ∃ i H, Inv Y pins σ H s ∧ tn i s.heap ∧ (∀ b ∈ fp, H b = none) ∧ W i m H) (fun m s hI => ?_) m0 ⟨0, H0, I0, st0, n0, w0⟩
  obtain ⟨i, H, I, st, hn, w⟩ := hI
  rw [hA, hD]
  refine wpAny_noted ?_
  rw [hT]
  unfold clTurn
  refine wpAny_bind (wpAny_standAt (wpAny_bind ?_))
  rcases turn i m H w with ⟨st1, fin1⟩ | ⟨go, step⟩
  · refine thnF (T.done Y rfl rfl rfl hc i pins s σ H _ I (fun b hb => f0 b hb H (hn b hb)) st st1) fun r s6 hh => ?_
    obtain ⟨hr, I6⟩ := hh
    subst hr
    exact wpAny_pure (fin1 s6 I6)
  · refine thnF (T.item Y rfl rfl rfl hc i pins s σ H _ I (fun b hb => f0 b hb H (hn b hb)) st go) fun r s6 hh => ?_
    obtain ⟨u, hr, h6⟩ := hh
    subst hr
    refine wpAny_bind (thnF h6 fun _ s7 hh => ?_)
    obtain ⟨x, H7, I7, r7, y7, st7, n7⟩ := hh
    have I7' := I7.pinned (fun b hb => f0 b hb H7 (n7 b hb)) (T.obj _ _ st7)
    have pgr := pg.run _ s7 _ H7 x u _ I7' r7 (step x H7 y7)
    rw [hx] at pgr
    refine wpAny_bind (thnF pgr fun _ s8 hh => ?_)
    obtain ⟨σ8, H8, I8, wk8, q8⟩ := hh
    have ptr := pt.run _ s8 σ8 H8 _ I8 q8
    rw [hx] at ptr
    refine wpAny_bind (thnF ptr fun b s9 hh => ?_)
    obtain ⟨H9, I9, q9⟩ := hh
    have fin : ∀ {m' : Nat} {σ9 : L2.St} {s' : Shared} {H' : Hp}, m' < m → Inv Y (pins ++ pinsAt fp s7.heap) σ9 H' s' → Wk σ σ9 → W (i + 1) m' H' → ∃ m', m' < m ∧ ∃ i H, Inv Y pins σ H s' ∧ tn i s'.heap ∧ (∀ b ∈ fp, H b = none) ∧ W i m' H := fun {m' σ9 s' H'} hm I' wk w' => by
      have held : ∀ b ∈ fp, ∀ o, s7.heap.get? b = some o → s'.heap.get? b = some o ∧ H' b = none := fun b hb o eo => by
        have z := I'.pin (b, o) (List.mem_append_right _ (List.mem_append_right _ (mem_pinsAt hb eo)))
        exact ⟨z.1, z.2.1⟩
      refine ⟨m', hm, i + 1, H', (I'.unpinned (pins := pins)).weak wk.1 wk.2, T.keep _ _ _ st7 fun b hb o eo => (held b hb o eo).1, fun b hb => ?_, w'⟩
      obtain ⟨o, eo, _⟩ := T.obj _ _ st7 b hb
      exact (held b hb o eo).2
    cases b with
    | false =>
      simp only [Bool.false_eq_true, if_false] at q9 ⊢
      obtain ⟨m', hm, w'⟩ := q9
      exact wpAny_pure ⟨rfl, fin hm I9 wk8 w'⟩
    | true =>
      simp only [if_true] at q9 ⊢
      refine thnF (hyes i m σ8 H9 _ s9 q9 wk8 I9) fun f s' hf => ?_
      cases f with
      | done f => exact hf.elim
      | again c =>
        obtain ⟨hc', m', σ3, H', hm, I', wk, w'⟩ := hf
        exact ⟨hc', fin hm I' wk w'⟩
end
/-! the turns of {elt for t0 in i0 for t1 in i1} -/
theorem turn_s0 (elt t0 i0 t1 i1 : Expr) (scope : Scope) (pos : Pos) (it acc : Value) (env : Env) :
    compTurn (.SetComp elt [⟨t0, i0, [], 0⟩, ⟨t1, i1, [], 0⟩] scope pos) 0 it acc env = clTurn i0.pos t0 [] it env (do
      let x ← eval i1 env
      standAt i1.pos
      let x ← foldedSetIterable i1 env x
      let _ ← runOwn (.compStart (.SetComp elt [⟨t0, i0, [], 0⟩, ⟨t1, i1, [], 0⟩] scope pos) 1 (← holding [x] (pyIter x)) acc env) env
      again (.compLoop (.SetComp elt [⟨t0, i0, [], 0⟩, ⟨t1, i1, [], 0⟩] scope pos) 0 it acc env)) (again (.compLoop (.SetComp elt [⟨t0, i0, [], 0⟩, ⟨t1, i1, [], 0⟩] scope pos) 0 it acc env)) := by rfl
theorem turn_s1 (elt t0 i0 t1 i1 : Expr) (scope : Scope) (pos : Pos) (it acc : Value) (env : Env) :
    compTurn (.SetComp elt [⟨t0, i0, [], 0⟩, ⟨t1, i1, [], 0⟩] scope pos) 1 it acc env = clTurn i1.pos t1 [] it env (do
      (do let v ← eval elt env; standAt elt.pos; let _ ← call (.builtin "set.add") [acc, v])
      again (.compLoop (.SetComp elt [⟨t0, i0, [], 0⟩, ⟨t1, i1, [], 0⟩] scope pos) 1 it acc env)) (again (.compLoop (.SetComp elt [⟨t0, i0, [], 0⟩, ⟨t1, i1, [], 0⟩] scope pos) 1 it acc env)) := by rfl
end
end Sm
namespace Sm
open PySem PySem.Spec PyProof.Rows L2
noncomputable section
/-! ### sets of ints -/
def insI (k : Int) : List Int → List Int
  | [] => [k]
  | x :: r => match decide (k < x) with
    | true => k :: x :: r
    | false => match decide (k = x) with
      | true => x :: r
      | false => x :: insI k r
theorem insI_mem (k j : Int) : ∀ l, j ∈ insI k l ↔ j = k ∨ j ∈ l
  | [] => by simp [insI]
  | x :: r => by
    unfold insI
    cases h1 : decide (k < x) with
    | true => simp
    | false =>
      cases h2 : decide (k = x) with
      | true =>
        have e := of_decide_eq_true h2
        simp [e]
      | false =>
        simp only [List.mem_cons, insI_mem k j r]
        constructor
        · rintro (h | h | h)
          · exact .inr (.inl h)
          · exact .inl h
          · exact .inr (.inr h)
        · rintro (h | h | h)
          · exact .inr (.inl h)
          · exact .inl h
          · exact .inr (.inr h)
theorem insI_sorted (k : Int) : ∀ l : List Int, l.Pairwise (· < ·) → (insI k l).Pairwise (· < ·)
  | [], _ => List.pairwise_singleton _ _
  | x :: r, h => by
    have h0 := List.pairwise_cons.mp h
    unfold insI
    cases h1 : decide (k < x) with
    | true =>
      have lt := of_decide_eq_true h1
      refine List.pairwise_cons.mpr ⟨fun y hy => ?_, h⟩
      rcases List.mem_cons.mp hy with z | z
      · rw [z]; exact lt
      · exact Int.lt_trans lt (h0.1 y z)
    | false =>
      have nl := of_decide_eq_false h1
      cases h2 : decide (k = x) with
      | true => exact h
      | false =>
        have ne := of_decide_eq_false h2
        refine List.pairwise_cons.mpr ⟨fun y hy => ?_, insI_sorted k r h0.2⟩
        rcases (insI_mem k y r).mp hy with z | z
        · rw [z]; omega
        · exact h0.1 y z
theorem insI_len (k : Int) : ∀ l : List Int, l.Pairwise (· < ·) → (insI k l).length = if k ∈ l then l.length else l.length + 1
  | [], _ => rfl
  | x :: r, h => by
    have h0 := List.pairwise_cons.mp h
    unfold insI
    cases h1 : decide (k < x) with
    | true =>
      have lt := of_decide_eq_true h1
      have nm : k ∉ x :: r := fun z => by
        rcases List.mem_cons.mp z with z | z
        · omega
        · have := h0.1 k z; omega
      rw [if_neg nm]; rfl
    | false =>
      cases h2 : decide (k = x) with
      | true =>
        have e := of_decide_eq_true h2
        rw [if_pos (by rw [e]; exact List.mem_cons_self)]
      | false =>
        have ne := of_decide_eq_false h2
        show (insI k r).length + 1 = _
        rw [insI_len k r h0.2]
        by_cases m : k ∈ r
        · rw [if_pos m, if_pos (List.mem_cons_of_mem _ m)]; rfl
        · rw [if_neg m, if_neg fun z => by
            rcases List.mem_cons.mp z with z | z
            · exact ne z
            · exact m z]; rfl
theorem Rep.st {Z : Cz} {ρ : Nat → Addr} {h : Hm} {H : Hp} (rep : Rep Z ρ h H) {i : Nat} {ns : List Int} (hi : i < h.n) (e : h.get i = some (.st ns)) : ∃ S, H (ρ i) = some (SetO Z.w (ρ i) S ns.length) ∧ (∀ k, S k = true ↔ k ∈ ns) ∧ ns.Pairwise (· < ·) := by
  obtain ⟨o, eo, ro⟩ := rep.obj i hi
  rw [e] at eo; cases eo
  exact ro
section
variable {Z : Cz}
/-- a number is added -/
theorem Rep.addI {ρ : Nat → Addr} {h : Hm} {H : Hp} (rep : Rep Z ρ h H) {i : Nat} {ns : List Int} (hi : i < h.n) {y : Int} {S : Int → Bool} (a1 : H (ρ i) = some (SetO Z.w (ρ i) S ns.length)) (a2 : ∀ k, S k = true ↔ k ∈ ns) (a3 : ns.Pairwise (· < ·)) :
    Ext ρ h.n H ρ h.n (upd H (ρ i) (SetO Z.w (ρ i) (fun j => S j || decide (j = y)) (if S y = true then ns.length else ns.length + 1))) ∧
    Rep Z ρ (h.put i (.st (insI y ns))) (upd H (ρ i) (SetO Z.w (ρ i) (fun j => S j || decide (j = y)) (if S y = true then ns.length else ns.length + 1))) := by
  refine rep.put hi (fun _ _ z => by rw [a1] at z; cases z) fun _ => ⟨fun j => S j || decide (j = y), ?_, fun k => ?_, insI_sorted y ns a3⟩
  · rw [upd_same, insI_len y ns a3]
    by_cases m : y ∈ ns
    · rw [if_pos m, if_pos ((a2 y).mpr m)]
    · rw [if_neg m, if_neg fun z => m ((a2 y).mp z)]
  · rw [insI_mem, Bool.or_eq_true, decide_eq_true_eq, a2 k]
    exact Or.comm
/-! the inner walk -/
def scGo (i : Nat) (src : Src) (g : MG) (elt : ME) (σ : Loc) : Nat → Nat → Hm → R Unit
  | 0, _, _ => .bad
  | f + 1, k, h => match src k h with
    | .stop => .ok () h
    | .bad => .bad
    | .item d => match g d σ with
      | none => .bad
      | some σ1 => match elt σ1 h with
        | .ok (.int y) h2 => match h2.get i with
          | some (.st ns) => match Nat.ble ns.length 1000 with
            | true => scGo i src g elt σ f (k + 1) (h2.put i (.st (insI y ns)))
            | false => .bad
          | _ => .bad
        | _ => .bad
variable {Y : Cx} {elt t0 i0 t1 i1 : Expr} {scope : Scope} {pos : Pos} {it D : Addr} {J : It} {fp : List Addr} {tn : Nat → Heap → Prop} {pins : List (Addr × Obj)} {R : Result → Shared → Prop} {is1 : List Nat} {g1 : MG} {me : ME} {τ1 : L2.St} {σ1 : Loc}
theorem sc_in (hx : Y.xe = fun _ _ => False) (hc : Y.calm = true) (hW : Y.w = Z.w) (T : Turn Y.prog Y.w Y.K t1 J fp it tn) (pg : PG Y t1 (gM Z is1 g1)) (pe : PE Y elt (tE Z noE me)) (f0 : ∀ b ∈ fp, ∀ H : Hp, H b = none → FpOk Y pins H b)
    {ρ1 : Nat → Addr} {h1 h2 : Hm} {H1 : Hp} {src : Src} {i fuel : Nat} {s0 : Shared} (j : JOk Z ρ1 h1.n H1 src J) (rep1 : Rep Z ρ1 h1 H1) (rs1 : RS Z ρ1 h1.n H1 σ1 τ1) (hi : i < h1.n) (hD : ρ1 i = D) (no : ∀ j ∈ is1, ∀ v, τ1[j]? ≠ some (some v))
    (q0 : scGo i src g1 me σ1 fuel 0 h1 = .ok () h2) (post : ∀ ρ2 H2 s, Ext ρ1 h1.n H1 ρ2 h2.n H2 → Rep Z ρ2 h2 H2 → Inv Y pins τ1 H2 s → R (.ok .next) s)
    (I0 : Inv Y pins τ1 H1 s0) (st0 : tn 0 s0.heap) (n0 : ∀ b ∈ fp, H1 b = none) : codeAny (model Y.prog Y.w) Y.A (.compLoop (.SetComp elt [⟨t0, i0, [], 0⟩, ⟨t1, i1, [], 0⟩] scope pos) 1 (.ref it) (.ref D) Y.env) R s0 := by
  refine clause (g := gM Z is1 g1) (tt := L2.tYes) hx hc rfl rfl T (turn_s1 elt t0 i0 t1 i1 scope pos (.ref it) (.ref D) Y.env) pg pts_nil f0
    (fun k m H => ∃ ρ h, Ext ρ1 h1.n H1 ρ h.n H ∧ Rep Z ρ h H ∧ scGo i src g1 me σ1 m k h = .ok () h2)
    (fun k m τ2 H => ∃ ρ h σ2 f, m = f + 1 ∧ Ext ρ1 h1.n H1 ρ h.n H ∧ Rep Z ρ h H ∧ RS Z ρ h.n H σ2 τ2 ∧ (match me σ2 h with
      | .ok (.int y) h3 => match h3.get i with
        | some (.st ns) => match Nat.ble ns.length 1000 with
          | true => scGo i src g1 me σ1 f (k + 1) (h3.put i (.st (insI y ns)))
          | false => .bad
        | _ => .bad
      | _ => .bad) = .ok () h2) ?_ ?_ (m0 := fuel) ⟨ρ1, h1, Ext.refl, rep1, q0⟩ I0 st0 n0
  · rintro k m H ⟨ρ, h, e, rep, q⟩
    cases m with
    | zero => cases q
    | succ f =>
      have jk := j ρ h H e rep k
      unfold scGo at q
      cases z : src k h with
      | bad => rw [z] at q; cases q
      | stop => rw [z] at q jk; cases q; exact .inl ⟨jk, fun s I => post ρ H s e rep I⟩
      | item d =>
        rw [z] at q jk
        refine .inr ⟨jk.1, fun x H' hy => ?_⟩
        obtain ⟨e3, rep3, rv3⟩ := jk.2 x H' hy
        have rs3 := (rs1.mono rep1 e).mono rep e3
        simp only at q
        refine ⟨ρ, h.n, d, σ1, rs3, rv3, ?_⟩
        cases z2 : g1 d σ1 with
        | none => rw [z2] at q; cases q
        | some σ2 =>
          rw [z2] at q
          intro τ2 ag rs2
          refine ⟨ag.wk no, ?_⟩
          dsimp only [L2.tYes]
          rw [if_pos rfl]
          exact ⟨ρ, h, σ2, f, rfl, e.trans e3, rep3, rs2, q⟩
  · rintro k m τ2 H pins2 s ⟨ρ, h, σ2, f, rfl, e, rep, rs2, q⟩ wk I
    have per := pe.run _ s τ2 H (fun v H' => ∃ ρ' h' y ns, v = .int y ∧ Ext ρ h.n H ρ' h'.n H' ∧ Rep Z ρ' h' H' ∧ h'.get i = some (.st ns) ∧ Nat.ble ns.length 1000 = true ∧ scGo i src g1 me σ1 f (k + 1) (h'.put i (.st (insI y ns))) = .ok () h2) I ⟨ρ, σ2, h, rep, rs2, ?_⟩
    · rw [hx] at per
      refine wpAny_bind (wpAny_bind (thnF per fun u s1 hh => ?_))
      obtain ⟨v, H3, I3, rv, ρ', h', y, ns, rfl, e3, rep3, ei, sm, q3⟩ := hh
      have hi3 : i < h'.n := Nat.lt_of_lt_of_le hi (e.trans e3).le
      have hD3 : ρ' i = D := ((e.trans e3).same i hi).trans hD
      obtain ⟨S, a1, a2, a3⟩ := rep3.st hi3 ei
      obtain ⟨ex, rp⟩ := rep3.addI hi3 (y := y) a1 a2 a3
      rw [hD3] at a1 ex rp
      have hz : ns.length + 1 < scanBound := Nat.lt_of_le_of_lt (Nat.succ_le_succ (Nat.le_of_ble_eq_true sm)) (by decide)
      have ad := mt_sadd (X := Y) (pins ++ pins2) s1 τ2 H3 (.ref D) [.int y] (.ref D) [u] (fun v H4 => H4 = upd H3 D (SetO Z.w D (fun j => S j || decide (j = y)) (if S y = true then ns.length else ns.length + 1))) I3 rfl (.cons rv .nil) ⟨D, y, S, ns.length, rfl, rfl, hW ▸ a1, hz, by rw [hW]⟩
      rw [hx] at ad
      refine wpAny_bind (wpAny_standAt (wpAny_bind (thnF ad fun r s2 hh => ?_)))
      obtain ⟨v, H4, I4, _, rfl⟩ := hh
      exact wpAny_pure (wpAny_pure ⟨rfl, f, τ2, _, Nat.lt_succ_self _, I4, wk, ρ', h'.put i (.st (insI y ns)), (e.trans e3).trans ex, rp, q3⟩)
    · cases z : me σ2 h with
      | bad => rw [z] at q; cases q
      | exn c ds h' => rw [z] at q; cases q
      | ok d h' =>
        rw [z] at q
        intro ρ' H' b e' rep' rv
        cases d <;> first | cases q | skip
        rename_i y
        cases rv
        simp only at q
        split at q <;> first | cases q | skip
        rename_i ns ee
        split at q <;> first | cases q | skip
        rename_i sm
        exact ⟨ρ', h', y, ns, rfl, e', rep', ee, sm, q⟩
end
end
end Sm
namespace Sm
open PySem PySem.Spec PyProof.Rows L2
noncomputable section
section
variable {prog : Program} {w : World} {A : Around} {R : Result → Shared → Prop} {s : Shared} {env : Env} {elt t0 i0 t1 i1 : Expr} {scope : Scope} {pos : Pos} {it acc : Value}
theorem start_s1 (h0 : codeAny (model prog w) A (.compLoop (.SetComp elt [⟨t0, i0, [], 0⟩, ⟨t1, i1, [], 0⟩] scope pos) 1 it acc env) R s)
    (h : wpAny (model prog w) A (pyIter it) (fun it' s' => codeAny (model prog w) A (.compLoop (.SetComp elt [⟨t0, i0, [], 0⟩, ⟨t1, i1, [], 0⟩] scope pos) 1 it' acc env) R s') (notedBy (model prog w) A env fun x s' => R (.error x) s') s) :
    codeAny (model prog w) A (.compStart (.SetComp elt [⟨t0, i0, [], 0⟩, ⟨t1, i1, [], 0⟩] scope pos) 1 it acc env) R s := by
  refine codeAny_of_tree ?_
  show wpAny _ _ ((compStart (.SetComp elt [⟨t0, i0, [], 0⟩, ⟨t1, i1, [], 0⟩] scope pos) 1 it acc env).onRaise (fun x => do noteFrame x env; standAt theWindowsPlace)) _ _ s
  refine wpAny_notedAt ?_
  unfold compStart
  show wpAny _ _ (ask >>= _) _ _ s
  refine wpAny_bind (wpAny_askSetting (wpAny_ite ?_))
  split
  · first
      | exact wpAny_pure ⟨rfl, h0⟩
      | exact wpAny_bind (wpAny_pure (wpAny_pure ⟨rfl, h0⟩))
  · refine wpAny_bind (wpAny_rule ?_)
    first
      | exact wpAny_bind (wpAny_standAt (wpAny_bind (wpAny_mono h (fun it' s' h' => wpAny_pure ⟨rfl, h'⟩) fun _ _ x => x)))
      | (show wpAny _ _ (standAt i1.pos >>= _) _ _ s; exact wpAny_bind (wpAny_standAt (wpAny_bind (wpAny_mono h (fun it' s' h' => wpAny_pure ⟨rfl, h'⟩) fun _ _ x => x))))
end
def sc2Go (i : Nat) (src : Src) (g0 : MG) (mi1 : MI) (g1 : MG) (elt : ME) (σ : Loc) : Nat → Nat → Hm → Option Hm
  | 0, _, _ => none
  | f + 1, k, h => match src k h with
    | .stop => some h
    | .bad => none
    | .item d => match g0 d σ with
      | none => none
      | some σ1 => match mi1 σ1 h with
        | .ok src1 h1 => match scGo i src1 g1 elt σ1 turnsL 0 h1 with
          | .ok _ h2 => sc2Go i src g0 mi1 g1 elt σ f (k + 1) h2
          | _ => none
        | _ => none
def mSc2 (mi0 : MI) (g0 : MG) (mi1 : MI) (g1 : MG) (elt : ME) (vs : List Nat) : ME := fun σ h => (mi0 σ h).bind fun src h1 => match sc2Go h1.n src g0 mi1 g1 elt (wipeM σ vs) turnsL 0 (h1.push (.st [])) with
  | some h2 => .ok (.ref h1.n) h2
  | none => .bad
section
variable {X : Cx} {Z : Cz} {E : L2.St → XK} {elt t0 i0 t1 i1 : Expr} {scope : Scope} {own : List (Str × Nat)} {pos : Pos} {mi0 mi1 : MI} {is0 is1 : List Nat} {g0 g1 : MG} {me : ME}
theorem s_sc2 (hc : X.calm = true) (hN : X.N.Nodup) (hW : X.w = Z.w) (hi : PI X t0 i0 (tIM Z E mi0)) (ok : BlkOk X.N X.env.scope scope own)
    (hg0 : ∀ (s : Shared) (H : Hp) (C : Addr) (cl : List (Str × Addr)) (fp : List Addr), PG (X.blk s H scope (compEnvC scope cl C X.env) fp) t0 (gM Z is0 g0))
    (hi1 : ∀ (s : Shared) (H : Hp) (C : Addr) (cl : List (Str × Addr)) (fp : List Addr), PI (X.blk s H scope (compEnvC scope cl C X.env) fp) t1 i1 (tIM Z noE mi1))
    (hg1 : ∀ (s : Shared) (H : Hp) (C : Addr) (cl : List (Str × Addr)) (fp : List Addr), PG (X.blk s H scope (compEnvC scope cl C X.env) fp) t1 (gM Z is1 g1))
    (he : ∀ (s : Shared) (H : Hp) (C : Addr) (cl : List (Str × Addr)) (fp : List Addr), PE (X.blk s H scope (compEnvC scope cl C X.env) fp) elt (tE Z noE me))
    (sub0 : ∀ j ∈ is0, j ∈ own.map (·.2) := by decide) (sub1 : ∀ j ∈ is1, j ∈ own.map (·.2) := by decide) (dis : ∀ j ∈ is1, j ∉ is0 := by decide)
    (hs0 : ∀ x, foldedSetIterable i0 X.env x = pure x := by intro _; rfl) (hs1 : ∀ env x, foldedSetIterable i1 env x = pure x := by intro _ _; rfl) :
    PE X (.SetComp elt [⟨t0, i0, [], 0⟩, ⟨t1, i1, [], 0⟩] scope pos) (tE Z E (mSc2 mi0 g0 mi1 g1 me (own.map (·.2)))) := by
  refine ⟨fun pins s τ H Q I hh => ?_⟩
  obtain ⟨ρ, σ, h0, rep, rs, q⟩ := hh
  have hfree : ∀ y ∈ scope.names, y.2 = .free → ∃ c, X.env.cells.lookup y.1 = some c := fun y hy e => by
    rcases ok.free y hy e with k | k <;> first | exact I.ok.has _ (.inl k) | exact I.ok.has _ (.inr k)
  rw [PpSet.eval_SetComp]
  refine wpAny_comprehension_free (use := none) rfl hs0 (closure_ok hfree) ok.kind (fun y hy e => by rw [ok.uniq y hy, e]) (thn (hi.run pins s τ H (fun J H2 => ∃ ρ1 h1 src hE, Ext ρ h0.n H ρ1 h1.n H2 ∧ Rep Z ρ1 h1 H2 ∧ JOk Z ρ1 h1.n H2 src J ∧
    sc2Go h1.n src g0 mi1 g1 me (wipeM σ (own.map (·.2))) turnsL 0 (h1.push (.st [])) = some hE ∧ Aft Z (rlV Z) ρ1 h1 H2 (.ok (.ref h1.n) hE) Q (E τ)) I ⟨ρ, σ, h0, rep, rs, Aft.bind q fun src h1 ρ1 H1 J e1 rep1 jj q1 => ?_⟩) fun xv s1 hx => thn hx fun itv s2 h2 => ?_)
  · cases z : sc2Go h1.n src g0 mi1 g1 me (wipeM σ (own.map (·.2))) turnsL 0 (h1.push (.st [])) with
    | none => simp only [z] at q1; exact q1.elim
    | some hE => simp only [z] at q1; exact ⟨ρ1, h1, src, hE, e1, rep1, jj, z, q1⟩
  obtain ⟨it, fp, tn, J, H2, e, I2, T, st2, f2, ρ1, h1, src, hE, ex1, rep1, j, z0, q1⟩ := h2
  subst e
  refine PpSet.newSet_ok (newEnv_comp ?_)
  generalize hD : s2.heap.objs.size = D
  have hDn : H2 D = none := I2.hok.fresh (Nat.le_of_eq hD)
  obtain ⟨ρ2, e2, rep2, eD⟩ := rep1.push (o := .st []) (u := SetO Z.w D (fun _ => false) 0) hDn fun ρ' _ => ⟨fun _ => false, upd_same, (by intro k; simp), .nil⟩
  generalize hs3 : ({ s2 with heap := s2.heap.push { cls := .type "set", dict := none, data := .set #[] 0 (.fresh 0 0 (!X.w.params.followText "set-order")) } } : Shared) = s3
  generalize hH3 : upd H2 D (SetO Z.w D (fun _ => false) 0) = H3 at e2 rep2
  have I3 : Inv X pins τ H3 s3 := by
    rw [← hs3, ← hH3, ← hW]
    refine I2.laid (t' := s2.toks) (fun b o y => Heap.get?_push_of_some _ y) (Nat.le_of_eq hD) ?_
    rw [← hD]
    exact setO_new (setR_fresh X.w)
  have h3 : ∀ b o, s2.heap.get? b = some o → s3.heap.get? b = some o := fun b o y => by rw [← hs3]; exact Heap.get?_push_of_some _ y
  have f3 : ∀ b ∈ fp, FpOk X pins H3 b ∧ b < s3.heap.objs.size := fun b hb => by
    obtain ⟨o, eo, _⟩ := T.obj _ _ st2 b hb
    have lt : b < D := by rw [← hD]; exact Heap.lt_size eo
    refine ⟨⟨?_, (f2 b hb).2⟩, Heap.lt_size (h3 b o eo)⟩
    rw [← hH3, upd_ne (Nat.ne_of_lt lt)]
    exact (f2 b hb).1
  have st3 : tn 0 s3.heap := T.keep _ _ _ st2 fun b _ o y => h3 b o y
  have I4 := block_start I3 ok hN f3
  have rsw : RS Z ρ2 (h1.n + 1) H3 (wipeM σ (own.map (·.2))) (wipe τ (own.map (·.2))) := wipeM_rs ((rs.mono rep ex1).mono rep1 e2) (own.map (·.2))
  show codeAny _ _ (.compStart (.SetComp elt [⟨t0, i0, [], 0⟩, ⟨t1, i1, [], 0⟩] scope pos) 0 (.ref it) (.ref D) (compEnvC scope (cellsFrom (s3.heap.objs.size + 1) scope.names (cloFrom X.env.cells scope.names [])) s3.heap.objs.size X.env)) (compPost (model X.prog X.w) X.A X.xe none (EP X pins τ Q) (.ref D) s3.heap.objs.size) { s3 with heap := pushCells (s3.heap.push { cls := .type "dict", data := .dict #[] }) scope.names }
  generalize hcl : cellsFrom (s3.heap.objs.size + 1) scope.names (cloFrom X.env.cells scope.names []) = cl at I4 ⊢
  have pg0 := hg0 s3 H3 s3.heap.objs.size cl fp
  have pi1 := hi1 s3 H3 s3.heap.objs.size cl fp
  have pg1 := hg1 s3 H3 s3.heap.objs.size cl fp
  have pe := he s3 H3 s3.heap.objs.size cl fp
  have cL : (compEnvC scope cl s3.heap.objs.size X.env).locals = s3.heap.objs.size := rfl
  generalize compEnvC scope cl s3.heap.objs.size X.env = ce at I4 pg0 pi1 pg1 pe cL ⊢
  generalize hs4 : ({ s3 with heap := pushCells (s3.heap.push { cls := .type "dict", data := .dict #[] }) scope.names } : Shared) = s4 at I4 ⊢
  have st4 : tn 0 s4.heap := T.keep _ _ _ st3 fun b _ o y => by rw [← hs4]; exact pushCells_keeps _ _ _ _ (Heap.get?_push_of_some _ y)
  have f4 : ∀ b ∈ fp, ∀ H' : Hp, H' b = none → FpOk (X.blk s3 H3 scope ce fp) [] H' b := fun b hb H' hn =>
    ⟨hn, (I4.ok.exf b hb).1, I4.ok.exfs b hb, .inl hb, fun x c y => (I4.ok.exf b hb).2 x c y, fun p hp => absurd hp (List.not_mem_nil)⟩
  have n4 : ∀ b ∈ fp, H3 b = none := fun b hb => (f3 b hb).1.1
  have loop : codeAny (model X.prog X.w) X.A (.compLoop (.SetComp elt [⟨t0, i0, [], 0⟩, ⟨t1, i1, [], 0⟩] scope pos) 0 (.ref it) (.ref D) ce) (compPost (model X.prog X.w) X.A X.xe none (EP X pins τ Q) (.ref D) s3.heap.objs.size) s4 := by
    refine clause (Y := X.blk s3 H3 scope ce fp) (g := gM Z is0 g0) (tt := L2.tYes) rfl hc rfl rfl T (turn_s0 elt t0 i0 t1 i1 scope pos (.ref it) (.ref D) ce) pg0 pts_nil f4
      (fun k m H' => ∃ ρ3 h3, Ext ρ2 (h1.n + 1) H3 ρ3 h3.n H' ∧ Rep Z ρ3 h3 H' ∧ sc2Go h1.n src g0 mi1 g1 me (wipeM σ (own.map (·.2))) m k h3 = some hE)
      (fun k m τ2 H' => ∃ ρ3 h3 σ2 f, m = f + 1 ∧ Ext ρ2 (h1.n + 1) H3 ρ3 h3.n H' ∧ Rep Z ρ3 h3 H' ∧ RS Z ρ3 h3.n H' σ2 τ2 ∧ Ag is0 (wipe τ (own.map (·.2))) τ2 ∧ (match mi1 σ2 h3 with
        | .ok src1 h4 => match scGo h1.n src1 g1 me σ2 turnsL 0 h4 with
          | .ok _ h5 => sc2Go h1.n src g0 mi1 g1 me (wipeM σ (own.map (·.2))) f (k + 1) h5
          | _ => none
        | _ => none) = some hE) ?_ ?_ (m0 := turnsL) ⟨ρ2, h1.push (.st []), Ext.refl, rep2, z0⟩ I4 st4 n4
    · rintro k m H' ⟨ρ3, h3', e3, rep3, q3⟩
      cases m with
      | zero => cases q3
      | succ f =>
        have jk := j ρ3 h3' H' (e2.trans e3) rep3 k
        unfold sc2Go at q3
        cases z : src k h3' with
        | bad => rw [z] at q3; cases q3
        | stop =>
          rw [z] at q3 jk
          cases q3
          refine .inl ⟨jk, fun s6 I6 => ?_⟩
          have I7 : Inv X pins τ H' s6 := I3.call' (ch := fp) I6.os I6.base I6.hok I6.bare fun b hb => ⟨(f3 b hb).1.2.2.2.1, (f3 b hb).1.2.1, (f3 b hb).1.2.2.2.2.1, (f3 b hb).1.2.2.2.2.2⟩
          have nC : H' s3.heap.objs.size = none := cL ▸ (show H' ce.locals = none from I6.free)
          obtain ⟨mm, hn, _⟩ := I6.loc
          have hn : s6.heap.Ns ce.locals mm := hn
          rw [cL] at hn
          obtain ⟨_, g1', g2, g3, g4, g5⟩ := I3.fpOk (H' := H') (Nat.le_refl _) nC
          refine ⟨mm, hn, fun h'' sb => ⟨.ref D, H', I7.turned (t' := s6.toks) (fun b o hb y => (sb.2 b hb).trans y) nC g1' g3 g4 g5, rfl, ?_⟩⟩
          have hd : ρ3 h1.n = D := (e3.same h1.n (Nat.lt_succ_self _)).trans eD
          have := q1 ρ3 H' (.ref (ρ3 h1.n)) (e2.trans e3) rep3 (.ref (Nat.lt_of_lt_of_le (Nat.lt_succ_self _) e3.le))
          rwa [hd] at this
        | item d =>
          rw [z] at q3 jk
          refine .inr ⟨jk.1, fun x H5 hy => ?_⟩
          obtain ⟨e5, rep5, rv5⟩ := jk.2 x H5 hy
          have rs5 := (rsw.mono rep2 e3).mono rep3 e5
          simp only at q3
          refine ⟨ρ3, h3'.n, d, wipeM σ (own.map (·.2)), rs5, rv5, ?_⟩
          cases z2 : g0 d (wipeM σ (own.map (·.2))) with
          | none => rw [z2] at q3; cases q3
          | some σ2 =>
            rw [z2] at q3
            intro τ2 ag rs2
            refine ⟨ag.wk fun jx hj v y => ?_, ?_⟩
            · have hm := sub0 jx hj
              by_cases hl : jx < τ.length
              · rw [wipe_in hm hl] at y; cases y
              · rw [List.getElem?_eq_none (by rw [wipe_length]; omega)] at y; cases y
            · dsimp only [L2.tYes]
              rw [if_pos rfl]
              exact ⟨ρ3, h3', σ2, f, rfl, e3.trans e5, rep5, rs2, ag, q3⟩
    · rintro k m τ2 H' pins2 s9 ⟨ρ3, h3', σ2, f, rfl, e3, rep3, rs2, ag, q3⟩ wk I9
      have per := pi1.run _ s9 τ2 H' (fun J1 H11 => ∃ ρ4 h4 src1 h5, Ext ρ3 h3'.n H' ρ4 h4.n H11 ∧ Rep Z ρ4 h4 H11 ∧ JOk Z ρ4 h4.n H11 src1 J1 ∧ scGo h1.n src1 g1 me σ2 turnsL 0 h4 = .ok () h5 ∧
        sc2Go h1.n src g0 mi1 g1 me (wipeM σ (own.map (·.2))) f (k + 1) h5 = some hE) I9 ⟨ρ3, σ2, h3', rep3, rs2, ?_⟩
      · refine wpAny_bind (thnF per fun xv s10 hx => ?_)
        refine wpAny_bind (wpAny_standAt (wpAny_bind (wpAny_of_eq (hs1 ce xv) (wpAny_bind (wpAny_holding (thnF hx fun itv s11 h11 => ?_))))))
        obtain ⟨it1, fp1, tn1, J1, H11, ei, I11, T1, st11, f11, ρ4, h4, src1, h5, e4, rep4, j1, qs, q5⟩ := h11
        subst ei
        refine wpAny_bind (wpAny_runOwn ?_)
        rw [Around.mark_none]
        have no : ∀ jx ∈ is1, ∀ v, τ2[jx]? ≠ some (some v) := fun jx hj v y => by
          rw [ag.2 jx (dis jx hj)] at y
          have hm := sub1 jx hj
          by_cases hl : jx < τ.length
          · rw [wipe_in hm hl] at y; cases y
          · rw [List.getElem?_eq_none (by rw [wipe_length]; omega)] at y; cases y
        have hi4 : h1.n < h4.n := Nat.lt_of_lt_of_le (Nat.lt_succ_self _) (Nat.le_trans e3.le e4.le)
        have hd4 : ρ4 h1.n = D := ((e3.trans e4).same h1.n (Nat.lt_succ_self _)).trans eD
        have loop1 : codeAny (model X.prog X.w) X.A (.compLoop (.SetComp elt [⟨t0, i0, [], 0⟩, ⟨t1, i1, [], 0⟩] scope pos) 1 (.ref it1) (.ref D) ce) (fun r s' => match r with
            | .ok _ => ∃ m' σ3 H5, m' < f + 1 ∧ Inv (X.blk s3 H3 scope ce fp) ([] ++ pins2) σ3 H5 s' ∧ Wk (wipe τ (own.map (·.2))) σ3 ∧ ∃ ρ3 h3, Ext ρ2 (h1.n + 1) H3 ρ3 h3.n H5 ∧ Rep Z ρ3 h3 H5 ∧ sc2Go h1.n src g0 mi1 g1 me (wipeM σ (own.map (·.2))) m' (k + 1) h3 = some hE
            | .error _ => False) s11 :=
          sc_in (Y := X.blk s3 H3 scope ce fp) rfl hc hW T1 pg1 pe (fun b hb H' hn => ⟨hn, (f11 b hb).2⟩) j1 rep4 ((rs2.mono rep3 e4)) hi4 hd4 no qs
            (fun ρ6 H6 s6 e6 rep6 I6 => ⟨f, τ2, H6, Nat.lt_succ_self _, I6, wk, ρ6, h5, (e3.trans e4).trans e6, rep6, q5⟩) I11 st11 fun b hb => (f11 b hb).1
        refine codeAny_mono (start_s1 loop1 (T1.self X.A 0 _ _ _ st11 loop1)) fun r s' hr => ?_
        cases r with
        | error e => exact hr.elim
        | ok fl =>
          first
            | exact wpAny_pure ⟨rfl, hr⟩
            | exact wpAny_bind (wpAny_pure (wpAny_pure ⟨rfl, hr⟩))
      · cases z : mi1 σ2 h3' with
        | bad => rw [z] at q3; cases q3
        | exn c ds h' => rw [z] at q3; cases q3
        | ok src1 h4 =>
          rw [z] at q3
          intro ρ4 H11 J1 e4 rep4 jj
          simp only at q3
          cases z2 : scGo h1.n src1 g1 me σ2 turnsL 0 h4 with
          | bad => rw [z2] at q3; cases q3
          | exn c ds h' => rw [z2] at q3; cases q3
          | ok u h5 =>
            rw [z2] at q3
            exact ⟨ρ4, h4, src1, h5, e4, rep4, jj, z2, q3⟩
  exact PpSet.codeAny_compStart_set loop (T.self X.A 0 _ _ _ st4 loop)
end
end
end Sm
namespace Sm
open PySem PySem.Spec PyProof.Rows L2
noncomputable section
/-! ### sorted of a set -/
theorem sorted_eq : ∀ {a b : List Int}, a.Pairwise (· < ·) → b.Pairwise (· < ·) → (∀ k, k ∈ a ↔ k ∈ b) → a = b
  | [], [], _, _, _ => rfl
  | [], y :: r, _, _, h => absurd ((h y).mpr List.mem_cons_self) List.not_mem_nil
  | x :: r, [], _, _, h => absurd ((h x).mp List.mem_cons_self) List.not_mem_nil
  | x :: r, y :: t, ha, hb, h => by
    have a1 := List.pairwise_cons.mp ha
    have b1 := List.pairwise_cons.mp hb
    have e : x = y := by
      rcases List.mem_cons.mp ((h x).mp List.mem_cons_self) with z | z
      · exact z
      · rcases List.mem_cons.mp ((h y).mpr List.mem_cons_self) with z2 | z2
        · exact z2.symm
        · have := b1.1 x z; have := a1.1 y z2; omega
    subst e
    rw [sorted_eq a1.2 b1.2 fun k => ?_]
    constructor
    · intro hk
      rcases List.mem_cons.mp ((h k).mp (List.mem_cons_of_mem _ hk)) with z | z
      · have := a1.1 k hk; omega
      · exact z
    · intro hk
      rcases List.mem_cons.mp ((h k).mpr (List.mem_cons_of_mem _ hk)) with z | z
      · have := b1.1 k hk; omega
      · exact z
section
variable {X : Cx} {Z : Cz} {E : L2.St → XK} {pos p p2 : Pos}
def fSortA : FL := fun ds h => match ds with
  | [.ref i] => match h.get i with
    | some (.st ns) => match Nat.blt ns.length 64 with
      | true => .ok (.ref h.n) (h.push (.lst (ns.map D.int)))
      | false => .bad
    | _ => fSorted [.ref i] h
  | _ => .bad
def rSortA (K : PySem.W.Frag) (w : World) : List V → Hp → VK → Prop := fun xs H Q => rSortM K xs H Q ∨ rSortedSet w xs H Q
theorem cr_sortA (hc : X.calm = true) (hu : X.A.units + 70 < cLine) : CallR X (.builtin "sorted") (rSortA X.K X.w) := CallR.or (cr_sortM hu) (cr_sortedSet hc)
theorem ints_rv {ρ : Nat → Addr} {n : Nat} {H : Hp} : ∀ ns : List Int, RVs Z ρ n H (ns.map D.int) (ns.map V.int)
  | [] => .nil
  | k :: r => .cons (.int k) (ints_rv r)
theorem cs_sortA : CS Z (rSortA Z.K Z.w) fSortA := by
  intro ρ h H ds vs Q E rep rv q
  unfold fSortA at q
  split at q <;> first | exact q.elim | skip
  rename_i i
  split at q
  · rename_i ns ee
    split at q <;> first | exact q.elim | skip
    rename_i sm
    cases rv with
    | cons r1 r2 =>
      cases r2
      cases r1
      rename_i hi
      obtain ⟨S, a1, a2, a3⟩ := rep.st hi ee
      refine .inr ⟨ρ i, S, ns.length, rfl, a1, Nat.le_of_ble_eq_true sm, fun ms pp h1 h2 h3 h4 => ?_⟩
      obtain rfl : ms = ns := sorted_eq h1 a3 fun k => (h2 k).trans (a2 k)
      exact new_lst rep (ints_rv ms) q h4
  · exact .inl (cs_sorted ρ h H [.ref i] vs Q E rep rv q)
end
end
end Sm
namespace Sm
open PySem PySem.Spec PyProof.Rows L2
noncomputable section
/-! ### what a def keeps, by its number -/
def FnP (P : Program) (w : World) (K : PySem.W.Frag) (mg : Str → Option Value) (base : Heap) (Z : Cz) (lvl k m : Nat) (f : MF) : Prop :=
  ∃ (fd : FuncData) (ps : List Str), FnOk P w K mg base (L2.CX P w) lvl (Z.φ k) fd ps (spM Z m f) ∧ PySem.W.keepIn K (.ref (Z.φ k)) = true ∧ Binds K fd ps []
theorem FnP.at_ {X : Cx} {Z : Cz} {lvl L k m : Nat} {f : MF} (F : FnP X.prog X.w X.K X.mg X.base Z lvl k m f) (hr : Room L X.A) (h : Nat.ble lvl L = true) : FnAt X Z k m f := by
  obtain ⟨fd, ps, F, kp, hb⟩ := F
  exact ⟨lvl, fd, ps, F, hr.mono (Nat.le_of_ble_eq_true h), kp, hb⟩
/-- tables of defs -/
def tb : List (Nat × Nat × MF) → Tbl
  | [], _ => none
  | p :: r, k => match Nat.beq p.1 k with
    | true => some p.2
    | false => tb r k
theorem tb_nil {X : Cx} {Z : Cz} : ∀ k m f, tb [] k = some (m, f) → FnAt X Z k m f := fun k m f e => by cases e
theorem tb_cons {X : Cx} {Z : Cz} {k0 m0 : Nat} {f0 : MF} {r : List (Nat × Nat × MF)} (F : FnAt X Z k0 m0 f0) (h : ∀ k m f, tb r k = some (m, f) → FnAt X Z k m f) : ∀ k m f, tb ((k0, m0, f0) :: r) k = some (m, f) → FnAt X Z k m f := fun k m f e => by
  unfold tb at e
  cases z : Nat.beq k0 k with
  | true =>
    rw [z] at e
    cases e
    obtain rfl := Nat.eq_of_beq_eq_true z
    exact F
  | false =>
    rw [z] at e
    exact h k m f e
theorem fn_bad {P : Program} {w : World} {K : PySem.W.Frag} {mg : Str → Option Value} {base : Heap} {Z : Cz} {f : Addr} {fd : FuncData} {ps : List Str} {m k : Nat} (hm : ps.length = m) : FnOk P w K mg base (L2.CX P w) k f fd ps (spM Z m fun _ _ => .bad) :=
  ⟨fun vs H Q E h => (spM_len _ _ _ _ h).trans hm.symm, fun A outer s H args us vs Q E hr e0 b v h => by
    obtain ⟨ρ, h, ds, rep, rv, l, q⟩ := h
    exact q.elim⟩
section
variable {P : Program} {w : World} {K : PySem.W.Frag} {mg : Str → Option Value} {base : Heap} {Z : Cz}
/-- as def_of, for what the head tells of a def -/
theorem def_ofD {x qual : Str} {st : Stmt} {f : Addr} {fd : FuncData} {N ps : List Str} {k m n : Nat} {b : MS} (hn : N.length = n) (F : FunD K x qual (defArgs st) (defBody st) (defScope st) [] [] f fd) (S : FnScope N ps (defScope st)) (hm : ps.length = m)
    (hbody : ∀ (cdv : Value) (A : Around) (outer : List Env) (s : Shared) (H : Hp) (E : XK), Room k (A.deeper (envOfC qual (defScope st) s.heap.objs.size f cdv)) →
      Takes (cxOf (L2.CX P w) P w K mg base N qual (defScope st) f cdv A outer s H E) (fun c d _ H => E c d H) →
      PSs (cxOf (L2.CX P w) P w K mg base N qual (defScope st) f cdv A outer s H E) (defBody st) (tS Z (fun _ => E) b)) : FnOk P w K mg base (L2.CX P w) (k + 1) f fd ps (spM Z m (mDef n b)) := by
  subst hn
  refine F.ok S (fun vs H Q E h => (spM_len _ _ _ _ h).trans hm.symm) fun cdv A outer s H vs Q E hr h => ⟨_, hbody cdv A outer s H E hr (takes_of rfl rfl rfl rfl), ?_⟩
  obtain ⟨ρ, h, ds, rep, rv, l, q⟩ := h
  unfold L2.start
  rw [← rv.length]
  refine ⟨ρ, _, h, rep, rv.slots _, ?_⟩
  unfold mDef at q
  cases z : b (ds.map some ++ List.replicate (N.length - ds.length) none) h with
  | nx σ h' => rw [z] at q; exact fun ρ' H' τ e r s => q ρ' H' .non e r .non
  | rt d h' => rw [z] at q; exact q
  | exn c es h' => rw [z] at q; exact q
  | bk σ h' => rw [z] at q; exact q.elim
  | ct σ h' => rw [z] at q; exact q.elim
  | bad => rw [z] at q; exact q.elim
end
theorem passes_cx {CX : CXT} {P : Program} {w : World} {K : PySem.W.Frag} {mg : Str → Option Value} {base : Heap} {N : List Str} {qual : Str} {sc : Scope} {f : Addr} {cdv : Value} {A : Around} {outer : List Env} {s : Shared} {H : Hp} {E : XK} :
    PassesOwn (model (cxOf CX P w K mg base N qual sc f cdv A outer s H E).prog (cxOf CX P w K mg base N qual sc f cdv A outer s H E).w) (cxOf CX P w K mg base N qual sc f cdv A outer s H E).A (cxOf CX P w K mg base N qual sc f cdv A outer s H E).env (cxOf CX P w K mg base N qual sc f cdv A outer s H E).xe := passes_of rfl
theorem hu70 {k : Nat} {A : Around} (r : Room k A) : A.units + 70 < cLine := by have := r.un; omega
theorem hu65 {k : Nat} {A : Around} (r : Room k A) : A.units + 65 < cLine := by have := r.un; omega
theorem hu64 {k : Nat} {A : Around} (r : Room k A) : A.units + 64 < cLine := by have := r.un; omega
theorem hu1 {k : Nat} {A : Around} (r : Room k A) : A.units + 1 < cLine := by have := r.un; omega
theorem hu0 {k : Nat} {A : Around} (r : Room k A) : A.units < cLine := by have := r.un; omega
/-- isinstance tables -/
theorem tB_ok {n : String} : ∀ {l : List (String × Bool)}, (l.all fun p => decide (kitB p.1 n = some p.2)) = true → ∀ k b, tBools l k = some b → kitB k n = some b
  | [], _, k, b, e => by cases e
  | (m, c) :: r, h, k, b, e => by
    rw [List.all_cons, Bool.and_eq_true] at h
    unfold tBools at e
    cases z : decide (m = k) with
    | true =>
      rw [z] at e
      cases e
      have := of_decide_eq_true z
      subst this
      exact of_decide_eq_true h.1
    | false =>
      rw [z] at e
      exact tB_ok h.2 k b e
theorem tB_ok2 {n n2 : String} : ∀ {l : List (String × Bool)}, (l.all fun p => match kitB p.1 n, kitB p.1 n2 with
    | some b1, some b2 => decide (p.2 = (b1 || b2))
    | _, _ => false) = true → ∀ k b, tBools l k = some b → ∃ b1 b2, kitB k n = some b1 ∧ kitB k n2 = some b2 ∧ b = (b1 || b2)
  | [], _, k, b, e => by cases e
  | (m, c) :: r, h, k, b, e => by
    rw [List.all_cons, Bool.and_eq_true] at h
    unfold tBools at e
    cases z : decide (m = k) with
    | true =>
      rw [z] at e
      cases e
      have := of_decide_eq_true z
      subst this
      have h1 := h.1
      cases y1 : kitB m n with
      | none => simp only [y1] at h1; cases h1
      | some b1 =>
        cases y2 : kitB m n2 with
        | none => simp only [y1, y2] at h1; cases h1
        | some b2 =>
          simp only [y1, y2] at h1
          exact ⟨b1, b2, rfl, rfl, of_decide_eq_true h1⟩
    | false =>
      rw [z] at e
      exact tB_ok2 h.2 k b e
theorem sa_Lookup : StoreFacts "LookupError" [.type "LookupError", .type "Exception", .type "BaseException", .type "object"] "object.__setattr__" "object" where
  mro := by kernel_rfl
  slot := .of (n := "__setattr__") (owner := "object") (by rw [typeLookup_type, builtinLookup_eq_fast]; kernel_rfl) (by decide +kernel) (by decide +kernel) (by decide +kernel) (by first | exact .inl (by decide +kernel) | exact .inr (by decide +kernel)) (by rw [isSubtype_type]; kernel_rfl)
  entry := F.entry_object_sa
  kind := by decide +kernel
  split := by decide +kernel
  hasOwner := by decide +kernel
  args := fun a b c => by unfold argsOk; kernel_rfl
  passes := fun self => by kernel_rfl
end
end Sm
namespace Sm
open PySem PySem.Spec PyProof.Rows L2
noncomputable section
/-! ### short names for what the generated proofs take -/
theorem bt_len : bootBuiltins "len" = some (.builtin "len") := by decide +kernel
theorem bt_abs : bootBuiltins "abs" = some (.builtin "abs") := by decide +kernel
theorem bt_all : bootBuiltins "all" = some (.builtin "all") := by decide +kernel
theorem bt_any : bootBuiltins "any" = some (.builtin "any") := by decide +kernel
theorem bt_sum : bootBuiltins "sum" = some (.builtin "sum") := by decide +kernel
theorem bt_min : bootBuiltins "min" = some (.builtin "min") := by decide +kernel
theorem bt_max : bootBuiltins "max" = some (.builtin "max") := by decide +kernel
theorem bt_sorted : bootBuiltins "sorted" = some (.builtin "sorted") := by decide +kernel
theorem bt_isinstance : bootBuiltins "isinstance" = some (.builtin "isinstance") := by decide +kernel
theorem bt_list : bootBuiltins "list" = some (.type "list") := by decide +kernel
theorem bt_tuple : bootBuiltins "tuple" = some (.type "tuple") := by decide +kernel
theorem bt_int : bootBuiltins "int" = some (.type "int") := by decide +kernel
theorem bt_bool : bootBuiltins "bool" = some (.type "bool") := by decide +kernel
theorem bt_str : bootBuiltins "str" = some (.type "str") := by decide +kernel
theorem bt_LookupError : bootBuiltins "LookupError" = some (.type "LookupError") := by decide +kernel
theorem bt_ValueError : bootBuiltins "ValueError" = some (.type "ValueError") := by decide +kernel
theorem bt_dict : bootBuiltins "dict" = some (.type "dict") := by decide +kernel
theorem fn_at {X : Cx} {Z : Cz} {k m kk : Nat} {f : MF} {fd : FuncData} {ps : List Str} (F : FnOk X.prog X.w X.K X.mg X.base (L2.CX X.prog X.w) kk (Z.φ k) fd ps (spM Z m f)) (hr : Room kk X.A) (kp : PySem.W.keepIn X.K (.ref (Z.φ k)) = true) (hb : Binds X.K fd ps []) : FnAt X Z k m f := ⟨kk, fd, ps, F, hr, kp, hb⟩
def FnK (P : Program) (w : World) (K : PySem.W.Frag) (mg : Str → Option Value) (base : Heap) (Z : Cz) (lvl k m : Nat) (f : MF) (ks : List Str) (π : List Nat) : Prop :=
  ∃ (fd : FuncData) (ps : List Str), FnOk P w K mg base (L2.CX P w) lvl (Z.φ k) fd ps (spM Z m f) ∧ PySem.W.keepIn K (.ref (Z.φ k)) = true ∧ KwB K fd ps ks π
theorem FnK.at_ {X : Cx} {Z : Cz} {lvl L k m : Nat} {f : MF} {ks : List Str} {π : List Nat} (F : FnK X.prog X.w X.K X.mg X.base Z lvl k m f ks π) (hr : Room L X.A) (h : Nat.ble lvl L = true) : FnKw X Z k m f ks π := by
  obtain ⟨fd, ps, F, kp, hb⟩ := F
  exact ⟨lvl, fd, ps, F, hr.mono (Nat.le_of_ble_eq_true h), kp, hb⟩
theorem kwb_of {K : PySem.W.Frag} {x qual : Str} {params : Arguments} {body : List Stmt} {scope : Scope} {f : Addr} {fd : FuncData} {ps ks : List Str} {π : List Nat} (F : FunD K x qual params body scope [] [] f fd)
    (h : ∀ (kV doc pm : Value) (an : Option Addr) (cdv ct : Value) (ws : List Value), ws.length = ks.length → bindArgs (PySem.W.fnOf x qual params body scope .none kV doc pm an cdv ct) ⟨[], ks.zip ws⟩ = pure (ps.zip (π.map (getV ws)))) : KwB K fd ps ks π := by
  obtain ⟨oc, od, dV, kV, doc, pm, an, cdv, ct, osl, rfl, lk, hcd, hD, hK⟩ := F.ex
  rcases hD with ⟨_, rfl⟩ | ⟨e, _⟩
  · exact ⟨fun s ws hl => .of_eq (h kV doc pm an cdv ct ws hl)⟩
  · exact absurd rfl e
theorem nm_place : XI.Nm "place" where
  bind := fun _ _ _ _ _ _ _ _ _ _ _ _ _ _ _ => rfl
  kind := fun _ _ => rfl
  l1 := fun _ _ _ _ => rfl
  l2 := fun _ _ _ _ => rfl
  v1 := fun _ _ _ _ _ _ => rfl
  v2 := fun _ _ _ _ _ _ => rfl
  dbg := by decide
  sw := fun _ _ _ _ _ => rfl
theorem nm_tie : XI.Nm "tie" where
  bind := fun _ _ _ _ _ _ _ _ _ _ _ _ _ _ _ => rfl
  kind := fun _ _ => rfl
  l1 := fun _ _ _ _ => rfl
  l2 := fun _ _ _ _ => rfl
  v1 := fun _ _ _ _ _ _ => rfl
  v2 := fun _ _ _ _ _ _ => rfl
  dbg := by decide
  sw := fun _ _ _ _ _ => rfl
end
end Sm
namespace Sm
open PySem PySem.Spec PyProof.Rows L2
noncomputable section
/-! ### the script's list: it stands frozen, or in the module -/
def pinS (K : PySem.W.Frag) (a : Addr) (ns : List Int) (H : Hp) : Prop := (∃ o, H a = some (.frz o (.lst (ns.map V.int)))) ∨
  ∃ (o : Obj) (its : Array Value) (n : Nat), K.lookup a = some o ∧ o.cls = .type "list" ∧ o.dict = none ∧ o.data = .seq its n ∧ its.size ≤ sizeLine ∧ Vals (ns.map V.int) its.toList
theorem pinS_m {K : PySem.W.Frag} {a : Addr} {ns : List Int} (H H' : Hp) (f : ∀ b o u, H b = some (.frz o u) → H' b = some (.frz o u)) (p : pinS K a ns H) : pinS K a ns H' :=
  p.elim (fun ⟨o, e⟩ => .inl ⟨o, f _ _ _ e⟩) .inr
theorem pinS_sq {K : PySem.W.Frag} {a : Addr} {ns : List Int} {H : Hp} (p : pinS K a ns H) : SqL K H a (ns.map V.int) :=
  p.elim (fun ⟨o, e⟩ => .inl (.inr ⟨o, e⟩)) .inr
theorem pinS_of {K : PySem.W.Frag} {a : Addr} {ns : List Int} {H : Hp} (hO : Only H) (p : SqL K H a (ns.map V.int)) : pinS K a ns H := by
  rcases p with (p | p) | p
  · rcases hO a with z | ⟨o, xs, z⟩
    · rw [p] at z; cases z
    · rw [p] at z; cases z
  · exact .inl p
  · exact .inr p
theorem RVs_ints {Z : Cz} {ρ : Nat → Addr} {n : Nat} {H : Hp} : ∀ ns : List Int, RVs Z ρ n H (ns.map D.int) (ns.map V.int)
  | [] => .nil
  | i :: ns => .cons (.int i) (RVs_ints ns)
def fSlS (ns : List Int) (d : D) (lo hi : Option Int) (h : Hm) : R D := match d with
  | .fn k => match Nat.beq k 1000 with
    | true => .ok (.ref h.n) (h.push (.lst (cutD (ns.map D.int) lo hi)))
    | false => .bad
  | _ => .bad
def mSlS (ns : List Int) (m : ME) (lo hi : MO) : ME := fun σ h => (m σ h).bind fun d h1 => (lo σ h1).bind fun l h2 => (hi σ h2).bind fun u h3 => fSlS ns d l u h3
section
variable {X : Cx} {Z : Cz} {E : L2.St → XK} {pos p : Pos}
theorem s_slS {ns : List Int} {e : Expr} {lo hi : Option Expr} {m : ME} {ml mh : MO} {p2 : Pos} (hK : X.K = Z.K) (hp : ∀ H, Z.pin H → SqL Z.K H (Z.φ 1000) (ns.map V.int)) (pe : PE X e (tE Z E m)) (pl : PO X lo (tO Z E ml)) (ph : PO X hi (tO Z E mh)) : PE X (.Subscript e (.Slice lo hi none p2) pos) (tE Z E (mSlS ns m ml mh)) :=
  (pe_slice sl_list pe pl ph).imp fun τ H Q => by
    rintro ⟨ρ, σ, h, rep, rs, q⟩
    refine ⟨ρ, σ, h, rep, rs, Aft.bind q fun d h1 ρ1 H1 v e1 rep1 rv q1 => ?_⟩
    refine ⟨ρ1, σ, h1, rep1, rs.mono rep e1, Aft.bind q1 fun l h2 ρ2 H2 l' e2 rep2 rl q2 => ?_⟩
    cases rl
    refine ⟨ρ2, σ, h2, rep2, (rs.mono rep e1).mono rep1 e2, Aft.bind q2 fun u h3 ρ3 H3 u' e3 rep3 ru q3 => ?_⟩
    cases ru
    cases rv <;> first | exact q3.elim | skip
    rename_i k
    simp only [fSlS] at q3
    cases hk : Nat.beq k 1000 with
    | false => rw [hk] at q3; exact q3.elim
    | true =>
      have ek : k = 1000 := Nat.eq_of_beq_eq_true hk
      subst ek
      rw [hk] at q3
      exact ⟨Z.φ 1000, ns.map V.int, rfl, hK ▸ hp H3 rep3.pin, fun p hp => new_lst rep3 (cutD_ok (RVs_ints ns) l u) q3 hp⟩
/-! ### a call whose heap is forgotten: only a plain value is kept -/
def flat : D → Bool
  | .non => true
  | .bl _ => true
  | .int _ => true
  | .str _ => true
  | .fn _ => true
  | _ => false
def flatO : Option D → Bool
  | none => true
  | some d => flat d
theorem flat_rv {ρ ρ' : Nat → Addr} {n n' : Nat} {H H' : Hp} {d : D} {v : V} (f : flat d = true) (r : RV Z ρ n H d v) : RV Z ρ' n' H' d v := by
  cases r <;> first | cases f | skip
  · exact .non
  · exact .bl _
  · exact .int _
  · exact .str _
  · exact .fn _
def mR (m : ME) : ME := fun σ h => match σ.all flatO with
  | true => match m σ Hm.nil with
    | .ok d _ => match flat d with
      | true => .ok d h
      | false => .bad
    | _ => .bad
  | false => .bad
theorem rep_nil {ρ : Nat → Addr} {H : Hp} (p : Z.pin H) : Rep Z ρ Hm.nil H := ⟨fun i j hi => absurd hi (Nat.not_lt_zero _), fun i hi => absurd hi (Nat.not_lt_zero _), p⟩
theorem s_reset {e : Expr} {m : ME} (pe : PE X e (tE Z E m)) : PE X e (tE Z E (mR m)) := pe.imp fun τ H Q => by
  rintro ⟨ρ, σ, h, rep, rs, q⟩
  unfold mR at q
  cases hf : σ.all flatO with
  | false => rw [hf] at q; exact q.elim
  | true =>
    rw [hf] at q
    have fs : ∀ (i : Nat) (d : D), σ[i]? = some (some d) → flat d = true := fun i d z => by
      have := List.all_eq_true.mp hf (some d) (List.mem_of_getElem? z)
      exact this
    refine ⟨ρ, σ, Hm.nil, rep_nil rep.pin, ⟨rs.1, fun i d z => ?_⟩, ?_⟩
    · obtain ⟨v, hv, rv⟩ := rs.2 i d z
      exact ⟨v, hv, flat_rv (fs i d z) rv⟩
    · cases hm : m σ Hm.nil with
      | bad => rw [hm] at q; exact q.elim
      | exn c ds h' => rw [hm] at q; exact q.elim
      | ok d h' =>
        simp only [hm] at q
        cases fd : flat d with
        | false => rw [fd] at q; exact q.elim
        | true =>
          rw [fd] at q
          intro ρ' H' v ex rep' rv
          have out : ∀ a o, H a = some o → H' a = some o := fun a o ha => ex.out a o ha fun i hi => absurd hi (Nat.not_lt_zero _)
          have ex2 : Ext ρ h.n H ρ h.n H' := ⟨Nat.le_refl _, fun _ _ => rfl, fun a o ha _ => out a o ha, ex.dom, fun i h1 h2 => absurd h2 (by omega), ex.frz⟩
          refine q ρ H' v ex2 ⟨rep.inj, fun i hi => ?_, rep'.pin⟩ (flat_rv fd rv)
          obtain ⟨o, e1, e2⟩ := rep.obj i hi
          exact ⟨o, e1, roWk (Nat.le_refl _) (fun _ _ => rfl) (fun a vs z => out a _ z) (fun u hu => out _ u hu) e2⟩
end
end
end Sm
namespace Sm
open PySem PySem.Spec PyProof.Rows L2
noncomputable section
/-! ### the error classes' facts as Bools over what the top has written -/
def clN (l k : Nat) : Nat := match Nat.ble l k with
  | true => l
  | false => k
theorem clN_lt (l k : Nat) : clN l k < l + 1 := by
  unfold clN
  cases h : Nat.ble l k with
  | true => exact Nat.lt_succ_self _
  | false =>
    have : ¬ l ≤ k := fun z => by rw [Nat.ble_eq_true_of_le z] at h; cases h
    show k < l + 1
    omega
abbrev lkBase : List Value := [.type "LookupError", .type "Exception", .type "BaseException", .type "object"]
abbrev veBase : List Value := [.type "ValueError", .type "Exception", .type "BaseException", .type "object"]
def cls0B (K : PySem.W.Frag) (x : Str) (bmB : List Value) (newId : String) : Bool := He.eqO (PySem.W.nsIn K mainGlobals x) (some (some (.ref (He.ga K x)))) && (PySem.W.excIn K (He.ga K x) bmB newId && (PySem.W.keepIn K (.ref (He.ga K x)) && (decide (PySem.W.subIn K (.ref (He.ga K x)) (.type "BaseException") = some true) && decide (PySem.W.typeIn K (.ref (He.ga K x)) = some (.type "type")))))
theorem cls0_ok {K : PySem.W.Frag} {h : Heap} {mg : Str → Option Value} (X : K.In h) (G : h.Ns mainGlobals mg) {x : Str} {bmB : List Value} {newId : String} (c : cls0B K x bmB newId = true) : X0 K mg x (He.ga K x) bmB newId := by
  obtain ⟨c1, c⟩ := He.ba c
  obtain ⟨c2, c⟩ := He.ba c
  obtain ⟨c3, c⟩ := He.ba c
  obtain ⟨c4, c5⟩ := He.ba c
  exact ⟨c2, PySem.W.mg_of X G (He.eqO_ok c1), c3, of_decide_eq_true c4, of_decide_eq_true c5⟩
def cls1B (K : PySem.W.Frag) (x f : Str) (bmB : List Value) (newId : String) : Bool := He.eqO (PySem.W.nsIn K mainGlobals x) (some (some (.ref (He.ga K x)))) && (PySem.W.excInitIn K (He.ga K x) bmB newId && (PySem.W.excOver K (He.ga K x) bmB &&
  (He.eqO (PySem.W.findIn K (.ref (He.ga K x)) "__setattr__") (some (some (.builtin "object.__setattr__"))) && (He.eqO (PySem.W.findIn K (.ref (He.ga K x)) f) (some none) && (He.eqO (PySem.W.findIn K (.ref (He.ga K x)) "__init__") (some (some (.ref (He.ma K (He.ga K x) "__init__")))) &&
  (decide (PySem.W.typeIn K (.ref (He.ma K (He.ga K x) "__init__")) = some (.type "function")) && (PySem.W.keepIn K (.ref (He.ga K x)) && (decide (PySem.W.subIn K (.ref (He.ga K x)) (.type "BaseException") = some true) && (decide (PySem.W.typeIn K (.ref (He.ga K x)) = some (.type "type")) && PySem.W.hasDictIn K (He.ga K x))))))))))
/-- the method's text -/
def inTxt (f : Str) (a : Arguments) (b : List Stmt) (s : Scope) : Prop := ∃ p1 p2 q1 q2 q3 q4 : Pos, a = XI.inA f p1 p2 ∧ b = XI.inB f q1 q2 q3 q4 ∧ s = XI.inS f
theorem cls1_ok {K : PySem.W.Frag} {h : Heap} {mg : Str → Option Value} (X : K.In h) (G : h.Ns mainGlobals mg) {x f ql : Str} {bmB : List Value} {newId : String} {a : Arguments} {b : List Stmt} {s : Scope} (c : cls1B K x f bmB newId = true) (t : inTxt f a b s)
    (F : ∃ fd, FunD K "__init__" ql a b s [] [] (He.fAd K (x, some "__init__")) fd) : ∃ fI, XI.Txt K mg x f (He.ga K x) fI bmB newId := by
  obtain ⟨c1, c⟩ := He.ba c
  obtain ⟨c2, c⟩ := He.ba c
  obtain ⟨c3, c⟩ := He.ba c
  obtain ⟨c4, c⟩ := He.ba c
  obtain ⟨c5, c⟩ := He.ba c
  obtain ⟨c6, c⟩ := He.ba c
  obtain ⟨c7, c⟩ := He.ba c
  obtain ⟨c8, c⟩ := He.ba c
  obtain ⟨c9, c⟩ := He.ba c
  obtain ⟨c10, c11⟩ := He.ba c
  obtain ⟨p1, p2, q1, q2, q3, q4, rfl, rfl, rfl⟩ := t
  obtain ⟨fd, oc, od, dV, kV, doc, pm, an, cdv, ct, osl, rfl, lk, hcd, hD, hK⟩ := F.imp fun _ F => F.ex
  rcases hD with ⟨_, rfl⟩ | ⟨e, _⟩
  · exact ⟨_, ⟨PySem.W.mg_of X G (He.eqO_ok c1), c2, c3, He.eqO_ok c4, He.eqO_ok c5, He.eqO_ok c6, of_decide_eq_true c7, c8, of_decide_eq_true c9, of_decide_eq_true c10, c11, ql, oc, od, kV, doc, pm, an, cdv, ct, osl, p1, p2, q1, q2, q3, q4, lk, hcd⟩⟩
  · exact absurd rfl e
def excB (K : PySem.W.Frag) (D : Addr) : Bool := He.eqO (PySem.W.findIn K (.ref D) "__getattribute__") (some (some (.builtin "BaseException.__getattribute__"))) && (He.eqO (PySem.W.findIn K (.ref D) "__getattr__") (some none) && (decide (PySem.W.subIn K (.ref D) (.type "BaseException") = some true) && (PySem.W.hasDictIn K D &&
  (He.eqO (PySem.W.findIn K (.ref D) "__class__") (some (some (.builtin "object.__class__"))) && (He.eqO (PySem.W.specialIn K (.builtin "object.__class__") "__get__") (some (some (.builtin "getset_descriptor.__get__"))) && (decide (PySem.W.takesIn K (.builtin "object.__class__") = some true) && decide (PySem.W.mroIn K D (.type "object") = some true)))))))
theorem excB_ok {K : PySem.W.Frag} {D : Addr} (c : excB K D = true) : ExcC K D := by
  obtain ⟨c1, c⟩ := He.ba c
  obtain ⟨c2, c⟩ := He.ba c
  obtain ⟨c3, c⟩ := He.ba c
  obtain ⟨c4, c⟩ := He.ba c
  obtain ⟨c5, c⟩ := He.ba c
  obtain ⟨c6, c⟩ := He.ba c
  obtain ⟨c7, c8⟩ := He.ba c
  exact ⟨He.eqO_ok c1, He.eqO_ok c2, of_decide_eq_true c3, c4, He.eqO_ok c5, He.eqO_ok c6, of_decide_eq_true c7, of_decide_eq_true c8⟩
def exmB (K : PySem.W.Frag) (nl : List Str) (l c : Nat) : Bool := (List.range (l + 1)).all fun j => decide (PySem.W.exmOne K (.ref (He.ga K (nl.getD j ""))) (.ref (He.ga K (nl.getD c ""))) = some (Nat.beq j c))
theorem exmB_ok {K : PySem.W.Frag} {nl : List Str} {l c : Nat} (h : exmB K nl l c = true) (k : Nat) : PySem.W.exmOne K (.ref (He.ga K (nl.getD (clN l k) ""))) (.ref (He.ga K (nl.getD c ""))) = some (Nat.beq (clN l k) c) :=
  of_decide_eq_true (List.all_eq_true.mp h (clN l k) (List.mem_range.mpr (clN_lt l k)))
def kitB (K : PySem.W.Frag) (nl : List Str) (l : Nat) (tb : List (Option Bool)) (t : String) : Bool := (List.range (l + 1)).all fun j => match tb.getD j none with
  | some b => excB K (He.ga K (nl.getD j "")) && decide (PySem.W.kitOne K (.ref (He.ga K (nl.getD j ""))) (.type t) = some b)
  | none => true
theorem kitB_ok {K : PySem.W.Frag} {nl : List Str} {l : Nat} {tb : List (Option Bool)} {t : String} (h : kitB K nl l tb t = true) (k : Nat) (b : Bool) (e : tb.getD (clN l k) none = some b) :
    ExcC K (He.ga K (nl.getD (clN l k) "")) ∧ PySem.W.kitOne K (.ref (He.ga K (nl.getD (clN l k) ""))) (.type t) = some b := by
  have z := List.all_eq_true.mp h (clN l k) (List.mem_range.mpr (clN_lt l k))
  simp only [e] at z
  obtain ⟨z1, z2⟩ := He.ba z
  exact ⟨excB_ok z1, of_decide_eq_true z2⟩
/-- the method in a class's body -/
def iniOf (i : Nat) : Stmt → Stmt
  | .ClassDef _ _ _ b _ _ _ _ _ _ _ => b.getD i (.Pass ⟨0, 0, 0, 0⟩)
  | s => s
/-! ### the head's hook: He's facts and such a Bool -/
def rfs (g : Addr → Option Obj) (as : List Addr) : List Addr := as.flatMap fun a => match g a with
  | some o => He.refsO o
  | none => []
def asX (g : Addr → Option Obj) : List Addr :=
  let a1 := rfs g [mainGlobals]
  let a2 := rfs g a1
  let a3 := rfs g a2
  mainGlobals :: (a1 ++ a2 ++ a3 ++ rfs g a3)
def obZ (cl : PySem.W.Frag → Bool) (fa : List He.Fa) (fn : List He.DefD) (g : Addr → Option Obj) : Bool × He.AlD := (cl (He.frG g (asX g)), He.obsD fa fn (He.frG g (asX g)))
def hkZ (cl : PySem.W.Frag → Bool) (fa : List He.Fa) (fn : List He.DefD) : PySem.W.Hook where
  α := Bool × He.AlD
  obs := fun s => obZ cl fa fn s.heap.get?
  val := fun _ => (true, He.valD fn)
  says := fun _ h => ∃ K : PySem.W.Frag, K.In h ∧ cl K = true ∧ He.SaysD fa fn K
  of := fun _ _ e => ⟨_, He.frG_in, congrArg Prod.fst e, congrArg Prod.snd e⟩
  keeps := fun _ _ _ ⟨K, hK, c⟩ k => ⟨K, PySem.W.Frag.In.keeps hK k, c⟩
theorem obZ_eq {cl : PySem.W.Frag → Bool} {fa : List He.Fa} {fn : List He.DefD} (s : PySem.W.SharedT) : obZ cl fa fn (HandSHeadRun.getT s) = (hkZ cl fa fn).obs s.abs := by
  have e : HandSHeadRun.getT s = s.abs.heap.get? := funext (HandSHeadRun.getT_eq s)
  rw [e] <;> rfl
/-- the law walked, errors of its own let through -/
theorem walkZ {l : PySem.W.OpenLaw} {n k : Nat} {q : Program} {loose : List Str} {XP : (Str → Option Value) → Heap → Prop} {YP : World → Heap → Prop} {d : DefRec} {x : Str}
    (hn : l.most = some n) (hn2 : n ≤ sizeLine) (hdf : d.params.defaults = []) (hr : Room k callerA)
    (F : ∀ (w : World) (mg : Str → Option Value) (fa : Addr) (h : Heap), YP w h → h.Ns mainGlobals mg → mg d.name = some (.ref fa) →
      ∃ (K : PySem.W.Frag) (fd : FuncData) (sp : Sp), K.In h ∧ (∀ (s : Shared) (u : Value), BindsTo s fd ⟨[u], []⟩ [(x, u)]) ∧
        (∀ (H : Hp) (a : Addr) (ns : List Int), ns.length ≤ n → Only H → SqL K H a (ns.map V.int) → sp [.ref a] H (fun v _ => v = .bl true) fun _ _ _ => False) ∧
        ∀ base : Heap, K.In base → base.Ns mainGlobals mg → FnOk l.prog w K mg base (L2.CX l.prog w) k fa fd [x] sp) :
    PySem.W.WalkO q loose XP YP l.row.toRowW d [] (fun f vs => PySem.call f vs) := by
  refine Att.attach_call hn hdf fun w s₀ s₁ mg mb fa o pm cd doc a vs ns G Y ho hd hcd hmg hobj hints hlen hg => ?_
  obtain ⟨K, fd, sp, KX, hb, hsp, hF⟩ := F w mg fa _ Y G.T.g hmg
  refine law_call KX G.T.g G.T.b G.T.builtins G.T.nolimit hg hobj hints (Nat.le_trans hlen hn2) hr hF hb (fun H hO hS => hsp H a ns hlen hO hS) fun H e s' c => ?_
  obtain ⟨_, _, _, _, _, _, _, _, _, _, _, _, z⟩ := c
  exact z
/-- the law's promise: of each script -/
def spZ (K : PySem.W.Frag) (n : Nat) : Sp := fun vs H Q _ => ∃ (a : Addr) (ns : List Int), vs = [.ref a] ∧ ns.length ≤ n ∧ pinS K a ns H ∧ ∀ H', Q (.bl true) H'
theorem spZ_law {K : PySem.W.Frag} {n : Nat} (H : Hp) (a : Addr) (ns : List Int) (hl : ns.length ≤ n) (hO : Only H) (hS : SqL K H a (ns.map V.int)) : spZ K n [.ref a] H (fun v _ => v = .bl true) fun _ _ _ => False :=
  ⟨a, ns, rfl, hl, pinS_of hO hS, fun _ => rfl⟩
/-- from the mirror of each script -/
theorem fn_spZ {P : Program} {w : World} {K : PySem.W.Frag} {mg : Str → Option Value} {base : Heap} {k n : Nat} {f : Addr} {fd : FuncData} {ps : List Str} {Z : Addr → List Int → Cz} {F : List Int → MF} (hl : ps.length = 1)
    (hφ : ∀ a ns, (Z a ns).φ 1000 = a) (hp : ∀ a ns H, pinS K a ns H → (Z a ns).pin H) (ok : ∀ a ns, FnOk P w K mg base (L2.CX P w) k f fd ps (spM (Z a ns) 1 (F ns))) (ev : ∀ ns, ns.length ≤ n → ∃ h, F ns [.fn 1000] Hm.nil = .ok (.bl true) h) : FnOk P w K mg base (L2.CX P w) k f fd ps (spZ K n) := by
  refine ⟨fun vs H Q E q => ?_, fun A outer s H args us vs Q E hr he hb hv hs => ?_⟩
  · obtain ⟨a, ns, rfl, _⟩ := q
    exact hl.symm
  · obtain ⟨a, ns, rfl, hle, pin, q⟩ := hs
    refine (ok a ns).run A outer s H args us [.ref a] Q E hr he hb hv ⟨fun _ => 0, Hm.nil, [.fn 1000], rep_nil (hp a ns H pin), ?_, rfl, ?_⟩
    · have := RV.fn (Z := Z a ns) (ρ := fun _ => 0) (n := Hm.nil.n) (H := H) 1000
      rw [hφ] at this
      exact .cons this .nil
    · obtain ⟨h, e⟩ := ev ns hle
      rw [e]
      intro ρ' H' v _ _ rv
      cases rv
      exact q H'
end
end Sm
namespace Sm
open PySem PySem.Spec PyProof.Rows L2
noncomputable section
/-! ### a mirror's run, step by step -/
section
variable {σ σ1 : Loc} {h h1 h2 h3 h4 : Hm} {d e v x o : D} {f : F2} {m ma mb mo mi : ME} {i : Nat}
theorem ev_var (z : σ[i]? = some (some d)) : mVar i σ h = .ok d h := by
  unfold mVar
  rw [getR_eq, z]
theorem ev_2 (a : ma σ h = .ok d h1) (b : mb σ h1 = .ok e h2) (c : f d e h2 = .ok x h3) : m2 f ma mb σ h = .ok x h3 := by
  unfold m2
  rw [a]
  show (mb σ h1).bind (fun e h2 => f d e h2) = _
  rw [b]
  exact c
theorem ev_cb1 {g : FL} (a : m σ h = .ok d h1) (c : g [d] h1 = .ok x h2) : mCB g (maCons m maNil) σ h = .ok x h2 := by
  unfold mCB maCons maNil
  rw [a]
  exact c
theorem ev_cons1 {k : MA} {ds : List D} (a : m σ h = .ok d h1) (b : k σ h1 = .ok ds h2) : maCons m k σ h = .ok (d :: ds) h2 := by
  unfold maCons
  rw [a]
  show (k σ h1).bind (fun ds h2 => .ok (d :: ds) h2) = _
  rw [b]
  rfl
theorem ev_lst {k : MA} {ds : List D} (a : k σ h = .ok ds h1) (s : small ds.length = true) : mLst k σ h = .ok (.ref h1.n) (h1.push (.lst ds)) := by
  unfold mLst
  rw [a]
  show (match small ds.length with | true => _ | false => _) = _
  rw [s]
theorem ev_call {n : Nat} {g : MF} {k : MA} {ds : List D} {r : R D} (a : k σ h = .ok ds h1) (l : Nat.beq ds.length n = true) (c : g ds h1 = r) : mCall n g k σ h = r := by
  unfold mCall
  rw [a]
  show (match Nat.beq ds.length n with | true => g ds h1 | false => .bad) = _
  rw [l]
  exact c
theorem ev_test {b : Bool} (a : m σ h = .ok (.bl b) h1) : mTest m σ h = .ok b h1 := by
  unfold mTest
  rw [a]
  rfl
theorem ev_tru {b : Bool} (a : m σ h = .ok d h1) (c : trD d h1 = some b) : mTru m σ h = .ok b h1 := by
  unfold mTru
  rw [a]
  show (match trD d h1 with | some b => _ | none => _) = _
  rw [c]
theorem ev_not {mt : MT} {b : Bool} (a : mt σ h = .ok b h1) : tNotM mt σ h = .ok (!b) h1 := by
  unfold tNotM
  rw [a]
  rfl
theorem ev_ift {c : MT} {r : R D} (a : c σ h = .ok true h1) (b : ma σ h1 = r) : mIf c ma mb σ h = r := by
  unfold mIf
  rw [a]
  exact b
theorem ev_iff {c : MT} {r : R D} (a : c σ h = .ok false h1) (b : mb σ h1 = r) : mIf c ma mb σ h = r := by
  unfold mIf
  rw [a]
  exact b
theorem ev_orT (a : ma σ h = .ok d h1) (c : trD d h1 = some true) : mOrT ma mb σ h = .ok d h1 := by
  unfold mOrT
  rw [a]
  show (match trD d h1 with | some true => _ | some false => _ | none => _) = _
  rw [c]
theorem ev_orF {r : R D} (a : ma σ h = .ok d h1) (c : trD d h1 = some false) (b : mb σ h1 = r) : mOrT ma mb σ h = r := by
  unfold mOrT
  rw [a]
  show (match trD d h1 with | some true => _ | some false => _ | none => _) = _
  rw [c]
  exact b
theorem ev_and {r : R D} (a : ma σ h = .ok (.bl true) h1) (b : mb σ h1 = r) : mAnd ma mb σ h = r := by
  unfold mAnd
  rw [a]
  exact b
theorem ev_asg (a : m σ h = .ok d h1) : msAsg m (gmName i) σ h = .nx (σ.set i (some d)) h1 := by
  unfold msAsg gmName
  rw [a]
  show RT.nx (setR σ i (some d)) h1 = _
  rw [setR_eq]
theorem ev_set (a : m σ h = .ok v h1) (b : mo σ h1 = .ok o h2) (c : mi σ h2 = .ok e h3) (z : hSet o e v h3 = some h4) : msSet m mo mi σ h = .nx σ h4 := by
  unfold msSet
  rw [a]
  show (mo σ h1).bindS _ = _
  rw [b]
  show (mi σ h2).bindS _ = _
  rw [c]
  show (match hSet o e v h3 with | some h4 => _ | none => _) = _
  rw [z]
theorem ev_ret (a : m σ h = .ok d h1) : msRet m σ h = .rt d h1 := by
  unfold msRet
  rw [a]
  rfl
theorem ev_ss {a b : MS} {r : RT} (p : a σ h = .nx σ1 h1) (q : b σ1 h1 = r) : msCons a b σ h = r := by
  unfold msCons
  rw [p]
  exact q
theorem ev_rs {a b : MS} (p : a σ h = .rt d h1) : msCons a b σ h = .rt d h1 := by
  unfold msCons
  rw [p]
  rfl
theorem ev_sif {c : MT} {a b : MS} {r : RT} (p : c σ h = .ok true h1) (q : a σ h1 = r) : msIf c a b σ h = r := by
  unfold msIf
  rw [p]
  exact q
theorem ev_sel {c : MT} {a b : MS} {r : RT} (p : c σ h = .ok false h1) (q : b σ h1 = r) : msIf c a b σ h = r := by
  unfold msIf
  rw [p]
  exact q
theorem ev_def {n : Nat} {b : MS} {ds : List D} (p : b (ds.map some ++ List.replicate (n - ds.length) none) h = .rt d h1) : mDef n b ds h = .ok d h1 := by
  unfold mDef
  rw [p]
end
section
variable {h : Hm} {i j : Int} {r : Nat} {xs : List D} {x v : D}
theorem cMul_l (z : i.natAbs < 18446744073709551616) : cMul i j = true := Bool.or_eq_true_iff.mpr (.inl (Nat.ble_eq_true_of_le z))
theorem cMul_r (z : j.natAbs < 18446744073709551616) : cMul i j = true := Bool.or_eq_true_iff.mpr (.inr (Nat.ble_eq_true_of_le z))
theorem cNz_p (z : 0 < j) : cNz i j = true := Nat.ble_eq_true_of_le (show 0 + 1 ≤ j.natAbs by omega)
theorem cDiv_p (z : 0 < j) (z2 : j < 1073741824) : cDivN i j = true := Bool.and_eq_true_iff.mpr ⟨Nat.ble_eq_true_of_le (show 0 + 1 ≤ j.natAbs by omega), Nat.ble_eq_true_of_le (show j.natAbs + 1 ≤ 1073741824 by omega)⟩
theorem fI_int {c : Int → Int → Bool} {g : Int → Int → D} (z : c i j = true) : fI c g (.int i) (.int j) h = .ok (g i j) h := by
  show (match c i j with | true => _ | false => _) = _
  rw [z]
theorem fMul_int (z : cMul i j = true) : fMul (.int i) (.int j) h = .ok (.int (i * j)) h := fI_int (c := cMul) (g := fun i j => .int (i * j)) z
theorem fIxM_lst {k : Int} (e : h.get r = some (.lst xs)) (a : atD xs k = some x) : fIxM (.ref r) (.int k) h = .ok x h := by
  unfold fIxM isDic fIx
  simp only [e, a]
theorem fLenA_lst (e : h.get r = some (.lst xs)) : fLenA [.ref r] h = .ok (.int (Int.ofNat xs.length)) h := by
  unfold fLenA dkeys fLen items
  simp only [e, lenR_eq]
theorem fListA_lst (e : h.get r = some (.lst xs)) : fListA [.ref r] h = .ok (.ref h.n) (h.push (.lst xs)) := by
  unfold fListA dkeys fList items
  simp only [e]
theorem hSet_lst {k : Int} {p : Nat} (e : h.get r = some (.lst xs)) (a : ixD xs.length k = some p) : hSet (.ref r) (.int k) v h = some (h.put r (.lst (xs.set p v))) := by
  unfold hSet
  simp only [e, a]
end
theorem b01 : ∀ b : Bool, (if b = true then (1 : Int) else 0).natAbs < 18446744073709551616 := by decide
/-- the source of draws -/
def Bbox (z0 : Int) : MS := msCons (msAsg (mIf (mTest (m2 fLtM (mVar 1) (mCB fLenA (maCons (mVar 0) (maNil))))) (m2 fIxM (mVar 0) (mVar 1)) (mC (.int 0))) (gmName 2)) (msRet (mLst (maCons (m2 fMul (mCB fAbs (maCons (mVar 2) (maNil))) (mCB fInt (maCons (m2 fGe (mCB fAbs (maCons (mVar 2) (maNil))) (m2 fPow (mC (.int 10)) (mC (.int 18)))) (maNil)))) (maCons (m2 fAdd (m2 fAdd (m2 fMod (mCB fInt (maCons (mVar 2) (maNil))) (mC (.int 2305843009213693951))) (m2 fMul (mC (.int 39373)) (mVar 1))) (mC (.int z0))) (maCons (mC (.int 0)) (maNil))))))
def Fbox (z0 : Int) : MF := mDef 3 (Bbox z0)
theorem box_ok {h : Hm} {r : Nat} {c z0 : Int} {rest : List D} (e : h.get r = some (.lst (.int c :: rest))) : ∃ a b : Int, Fbox z0 [.ref r, .int 0] h = .ok (.ref h.n) (h.push (.lst [.int a, .int b, .int 0])) := by
  have p1 : mIf (mTest (m2 fLtM (mVar 1) (mCB fLenA (maCons (mVar 0) (maNil))))) (m2 fIxM (mVar 0) (mVar 1)) (mC (.int 0)) [some (.ref r), some (.int 0), none] h = .ok (.int c) h := by
    refine ev_ift (ev_test ?_) (ev_2 (ev_var rfl) (ev_var rfl) (fIxM_lst e rfl))
    refine (ev_2 (ev_var rfl) (ev_cb1 (ev_var rfl) (fLenA_lst e)) rfl).trans ?_
    have : decide ((0 : Int) < Int.ofNat (D.int c :: rest).length) = true := decide_eq_true (show (0 : Int) < ((rest.length + 1 : Nat) : Int) by omega)
    rw [this]
  obtain ⟨a, p2⟩ : ∃ a : Int, m2 fMul (mCB fAbs (maCons (mVar 2) (maNil))) (mCB fInt (maCons (m2 fGe (mCB fAbs (maCons (mVar 2) (maNil))) (m2 fPow (mC (.int 10)) (mC (.int 18)))) (maNil))) [some (.ref r), some (.int 0), some (.int c)] h = .ok (.int a) h :=
    ⟨_, ev_2 (ev_cb1 (ev_var rfl) rfl) (ev_cb1 (ev_2 (ev_cb1 (ev_var rfl) rfl) (ev_2 rfl rfl (fI_int (by decide +kernel))) rfl) rfl) (fMul_int (cMul_r (b01 _)))⟩
  obtain ⟨b, p3⟩ : ∃ b : Int, m2 fAdd (m2 fAdd (m2 fMod (mCB fInt (maCons (mVar 2) (maNil))) (mC (.int 2305843009213693951))) (m2 fMul (mC (.int 39373)) (mVar 1))) (mC (.int z0)) [some (.ref r), some (.int 0), some (.int c)] h = .ok (.int b) h :=
    ⟨_, ev_2 (ev_2 (ev_2 (ev_cb1 (ev_var rfl) rfl) rfl (fI_int (cNz_p (by decide)))) (ev_2 rfl (ev_var rfl) (fMul_int (by decide))) rfl) rfl rfl⟩
  exact ⟨a, b, ev_def (ev_ss (ev_asg p1) (ev_ret (ev_lst (ev_cons1 p2 (ev_cons1 p3 (ev_cons1 rfl rfl))) rfl)))⟩
/-- the next draw -/
def Btake : MS := msCons (msIf (mTest (m2 fGt (m2 fIxM (mVar 0) (mC (.int 0))) (mC (.int 0)))) (msCons (msAsg (m2 fMod (mCB fInt (maCons (m2 fIxM (mVar 0) (mC (.int 0))) (maNil))) (mVar 1)) (gmName 2)) (msCons (msSet (m2 fDiv (m2 fIxM (mVar 0) (mC (.int 0))) (mVar 1)) (mVar 0) (mC (.int 0))) (msRet (mVar 2)))) (msNil)) (msCons (msSet (m2 fAdd (m2 fIxM (mVar 0) (mC (.int 2))) (mC (.int 1))) (mVar 0) (mC (.int 2))) (msCons (msAsg (m2 fMod (mCB fInt (maCons (m2 fMul (m2 fAdd (m2 fIxM (mVar 0) (mC (.int 1))) (m2 fMul (mC (.int 48271)) (m2 fIxM (mVar 0) (mC (.int 2))))) (m2 fAdd (mC (.int 39373)) (m2 fIxM (mVar 0) (mC (.int 2))))) (maNil))) (mC (.int 2147483647))) (gmName 3)) (msCons (msAsg (m2 fAdd (m2 fMod (mCB fInt (maCons (mVar 3) (maNil))) (mC (.int 40009))) (mC (.int 7))) (gmName 4)) (msCons (msAsg (m2 fMod (mCB fInt (maCons (m2 fMul (m2 fAdd (m2 fAdd (mVar 3) (m2 fIxM (mVar 0) (mC (.int 2)))) (m2 fDiv (m2 fIxM (mVar 0) (mC (.int 1))) (mC (.int 1000003)))) (mVar 4)) (maNil))) (mC (.int 2147483629))) (gmName 5)) (msRet (m2 fMod (mCB fInt (maCons (m2 fDiv (m2 fMod (mCB fInt (maCons (m2 fAdd (m2 fMul (mVar 5) (mC (.int 48271))) (mVar 3)) (maNil))) (mC (.int 2147483587))) (mC (.int 64))) (maNil))) (mVar 1)))))))
def Ftake : MF := mDef 6 Btake
theorem fmod_in (a : Int) {m : Int} (z : 0 < m) : 0 ≤ a.fmod m ∧ a.fmod m < m := ⟨Int.fmod_nonneg_of_pos a z, Int.fmod_lt_of_pos a z⟩
theorem take_ok {h : Hm} {r : Nat} {a b t m : Int} (e : h.get r = some (.lst [.int a, .int b, .int t])) (t0 : 0 ≤ t) (t1 : t < 1000000) (z : 0 < m) (z2 : m < 1073741824) : ∃ (x a' t' : Int), Ftake [.ref r, .int m] h = .ok (.int x) (h.put r (.lst [.int a', .int b, .int t'])) ∧ (0 ≤ x ∧ x < m) ∧ 0 ≤ t' ∧ t' ≤ t + 1 := by
  by_cases ha : 0 < a
  · have p0 : mTest (m2 fGt (m2 fIxM (mVar 0) (mC (.int 0))) (mC (.int 0))) [some (.ref r), some (.int m), none, none, none, none] h = .ok true h := by
      refine ev_test ((ev_2 (ev_2 (ev_var rfl) rfl (fIxM_lst e rfl)) rfl rfl).trans ?_)
      exact congrArg (fun b => R.ok (D.bl b) h) (decide_eq_true ha)
    exact ⟨a.fmod m, a.fdiv m, t, ev_def (ev_rs (ev_sif p0 (ev_ss (ev_asg (ev_2 (ev_cb1 (ev_2 (ev_var rfl) rfl (fIxM_lst e rfl)) rfl) (ev_var rfl) (fI_int (cNz_p z)))) (ev_ss (ev_set (ev_2 (ev_2 (ev_var rfl) rfl (fIxM_lst e rfl)) (ev_var rfl) (fI_int (cDiv_p z z2))) (ev_var rfl) rfl (hSet_lst e rfl)) (ev_ret (ev_var rfl)))))), fmod_in a z, t0, by omega⟩
  · have p0 : mTest (m2 fGt (m2 fIxM (mVar 0) (mC (.int 0))) (mC (.int 0))) [some (.ref r), some (.int m), none, none, none, none] h = .ok false h := by
      refine ev_test ((ev_2 (ev_2 (ev_var rfl) rfl (fIxM_lst e rfl)) rfl rfl).trans ?_)
      exact congrArg (fun b => R.ok (D.bl b) h) (decide_eq_false ha)
    have e2 : (h.put r (.lst [.int a, .int b, .int (t + 1)])).get r = some (.lst [.int a, .int b, .int (t + 1)]) := Hm.get_put_same _ _ _
    have w0 := fmod_in (((b + 48271 * (t + 1)) * (39373 + (t + 1))).fmod 2147483647) (show (0 : Int) < 40009 by decide)
    generalize hu : h.put r (.lst [.int a, .int b, .int (t + 1)]) = u at e2
    have p2 : msAsg (m2 fMod (mCB fInt (maCons (m2 fMul (m2 fAdd (m2 fIxM (mVar 0) (mC (.int 1))) (m2 fMul (mC (.int 48271)) (m2 fIxM (mVar 0) (mC (.int 2))))) (m2 fAdd (mC (.int 39373)) (m2 fIxM (mVar 0) (mC (.int 2))))) (maNil))) (mC (.int 2147483647))) (gmName 3) [some (.ref r), some (.int m), none, none, none, none] u = .nx [some (.ref r), some (.int m), none, some (.int (((b + 48271 * (t + 1)) * (39373 + (t + 1))).fmod 2147483647)), none, none] u :=
      ev_asg (ev_2 (ev_cb1 (ev_2 (ev_2 (ev_2 (ev_var rfl) rfl (fIxM_lst e2 rfl)) (ev_2 rfl (ev_2 (ev_var rfl) rfl (fIxM_lst e2 rfl)) (fMul_int (cMul_l (by decide)))) rfl) (ev_2 rfl (ev_2 (ev_var rfl) rfl (fIxM_lst e2 rfl)) rfl) (fMul_int (cMul_r (by omega)))) rfl) rfl (fI_int (cNz_p (by decide))))
    generalize ((b + 48271 * (t + 1)) * (39373 + (t + 1))).fmod 2147483647 = o1 at p2 w0
    have p3 : msAsg (m2 fAdd (m2 fMod (mCB fInt (maCons (mVar 3) (maNil))) (mC (.int 40009))) (mC (.int 7))) (gmName 4) [some (.ref r), some (.int m), none, some (.int o1), none, none] u = .nx [some (.ref r), some (.int m), none, some (.int o1), some (.int (o1.fmod 40009 + 7)), none] u :=
      ev_asg (ev_2 (ev_2 (ev_cb1 (ev_var rfl) rfl) rfl (fI_int (cNz_p (by decide)))) rfl rfl)
    generalize o1.fmod 40009 = q1 at p3 w0
    have p4 : msAsg (m2 fMod (mCB fInt (maCons (m2 fMul (m2 fAdd (m2 fAdd (mVar 3) (m2 fIxM (mVar 0) (mC (.int 2)))) (m2 fDiv (m2 fIxM (mVar 0) (mC (.int 1))) (mC (.int 1000003)))) (mVar 4)) (maNil))) (mC (.int 2147483629))) (gmName 5) [some (.ref r), some (.int m), none, some (.int o1), some (.int (q1 + 7)), none] u = .nx [some (.ref r), some (.int m), none, some (.int o1), some (.int (q1 + 7)), some (.int (((o1 + (t + 1) + b.fdiv 1000003) * (q1 + 7)).fmod 2147483629))] u :=
      ev_asg (ev_2 (ev_cb1 (ev_2 (ev_2 (ev_2 (ev_var rfl) (ev_2 (ev_var rfl) rfl (fIxM_lst e2 rfl)) rfl) (ev_2 (ev_2 (ev_var rfl) rfl (fIxM_lst e2 rfl)) rfl (fI_int (cDiv_p (by decide) (by decide)))) rfl) (ev_var rfl) (fMul_int (cMul_r (by omega)))) rfl) rfl (fI_int (cNz_p (by decide))))
    generalize ((o1 + (t + 1) + b.fdiv 1000003) * (q1 + 7)).fmod 2147483629 = t2 at p4
    have p5 : msRet (m2 fMod (mCB fInt (maCons (m2 fDiv (m2 fMod (mCB fInt (maCons (m2 fAdd (m2 fMul (mVar 5) (mC (.int 48271))) (mVar 3)) (maNil))) (mC (.int 2147483587))) (mC (.int 64))) (maNil))) (mVar 1)) [some (.ref r), some (.int m), none, some (.int o1), some (.int (q1 + 7)), some (.int t2)] u = .rt (.int ((((t2 * 48271 + o1).fmod 2147483587).fdiv 64).fmod m)) u :=
      ev_ret (ev_2 (ev_cb1 (ev_2 (ev_2 (ev_cb1 (ev_2 (ev_2 (ev_var rfl) rfl (fMul_int (cMul_r (by decide)))) (ev_var rfl) rfl) rfl) rfl (fI_int (cNz_p (by decide)))) rfl (fI_int (cDiv_p (by decide) (by decide)))) rfl) (ev_var rfl) (fI_int (cNz_p z)))
    have pS : msSet (m2 fAdd (m2 fIxM (mVar 0) (mC (.int 2))) (mC (.int 1))) (mVar 0) (mC (.int 2)) [some (.ref r), some (.int m), none, none, none, none] h = .nx [some (.ref r), some (.int m), none, none, none, none] u :=
      (ev_set (ev_2 (ev_2 (ev_var rfl) rfl (fIxM_lst e rfl)) rfl rfl) (ev_var rfl) rfl (hSet_lst e rfl)).trans (by rw [← hu]; rfl)
    refine ⟨(((t2 * 48271 + o1).fmod 2147483587).fdiv 64).fmod m, a, t + 1, ?_, fmod_in _ z, by omega, by omega⟩
    rw [hu]
    exact ev_def (b := Btake) (ev_ss (σ1 := [some (.ref r), some (.int m), none, none, none, none]) (h1 := h) (ev_sel p0 rfl) (ev_ss pS (ev_ss p2 (ev_ss p3 (ev_ss p4 p5)))))
/-- the first numbers of the script: one, the later ones added -/
def Gcells : MG := gmTup 2 (gmCons (gmName 3) (gmCons (gmName 4) (gmNil)))
def Lcells : MS := msCons (msAsg (m2 fMod (mCB fInt (maCons (mVar 3) (maNil))) (mVar 1)) (gmName 5)) (msSet (m2 fAdd (m2 fIxM (mVar 2) (mVar 5)) (m2 fMul (mVar 4) (m2 fAdd (mVar 3) (mC (.int 2))))) (mVar 2) (mVar 5))
def Bcells (sN : List Int) : MS := msCons (msAsg (mOrT (mCB fListA (maCons (mSlS sN (mVar 0) (moNone) (moSome (mVar 1))) (maNil))) (mLst (maCons (mC (.int 0)) (maNil)))) (gmName 2)) (msCons (msFor (miEn (maCons (mSlS sN (mVar 0) (moSome (mVar 1)) (moSome (mC (.int 63)))) (maNil))) Gcells Lcells) (msRet (mVar 2)))
def Fcells (sN : List Int) : MF := mDef 6 (Bcells sN)
theorem cells_loop {i j : Nat} {ds : List D} (hij : i ≠ j) (hl : ds.length ≤ 1000) (hi : ∀ (k : Nat) (d : D), ds[k]? = some d → ∃ z, d = .int z) : ∀ (f k : Nat) (c : Int) (x y w : Option D) (h : Hm), k ≤ ds.length → ds.length - k < f → h.get i = some (.lst [.int c]) → h.get j = some (.lst ds) →
    ∃ x' y' w' h' c', forGo (srcEL j) Gcells Lcells f k [some (.fn 1000), some (.int 1), some (.ref i), x, y, w] h = .nx [some (.fn 1000), some (.int 1), some (.ref i), x', y', w'] h' ∧ h'.get i = some (.lst [.int c'])
  | 0, _, _, _, _, _, _, _, z, _, _ => absurd z (Nat.not_lt_zero _)
  | f + 1, k, c, x, y, w, h, hk, hf, e1, e2 => by
    cases z : ds[k]? with
    | none =>
      refine ⟨x, y, w, h, c, ?_, e1⟩
      have s : srcEL j k h = .stop := by
        unfold srcEL
        simp only [e2, z]
      unfold forGo
      rw [s]
    | some d =>
      obtain ⟨v, rfl⟩ := hi k d z
      have kl : k < ds.length := (List.getElem?_eq_some_iff.mp z).1
      have s : srcEL j k h = .item (.tup [.int (k : Nat), .int v]) := by
        unfold srcEL
        simp only [e2, z]
      have k0 : ((k : Nat) : Int).fmod 1 = 0 := Int.fmod_one _
      have b : Lcells [some (.fn 1000), some (.int 1), some (.ref i), some (.int (k : Nat)), some (.int v), w] h = .nx [some (.fn 1000), some (.int 1), some (.ref i), some (.int (k : Nat)), some (.int v), some (.int 0)] (h.put i (.lst [.int (c + v * ((k : Nat) + 2))])) := by
        refine ev_ss (σ1 := [some (.fn 1000), some (.int 1), some (.ref i), some (.int (k : Nat)), some (.int v), some (.int 0)]) (h1 := h) ?_ (ev_set (ev_2 (ev_2 (ev_var rfl) (ev_var rfl) (fIxM_lst e1 rfl)) (ev_2 (ev_var rfl) (ev_2 (ev_var rfl) rfl rfl) (fMul_int (cMul_r (by omega)))) rfl) (ev_var rfl) (ev_var rfl) (hSet_lst (p := 0) e1 rfl))
        refine (ev_asg (ev_2 (ev_cb1 (ev_var rfl) rfl) (ev_var rfl) (fI_int (cNz_p (by decide))))).trans ?_
        rw [k0]
        rfl
      obtain ⟨x', y', w', h', c', q1, q2⟩ := cells_loop hij hl hi f (k + 1) (c + v * ((k : Nat) + 2)) (some (.int (k : Nat))) (some (.int v)) (some (.int 0)) (h.put i (.lst [.int (c + v * ((k : Nat) + 2))])) kl (by omega) (Hm.get_put_same _ _ _) ((Hm.get_put_ne hij).trans e2)
      refine ⟨x', y', w', h', c', ?_, q2⟩
      unfold forGo
      rw [s]
      show (match Lcells [some (.fn 1000), some (.int 1), some (.ref i), some (.int (k : Nat)), some (.int v), w] h with
        | .nx σ2 h2 => forGo (srcEL j) Gcells Lcells f (k + 1) σ2 h2
        | .ct σ2 h2 => forGo (srcEL j) Gcells Lcells f (k + 1) σ2 h2
        | .bk σ2 h2 => .nx σ2 h2
        | .rt d h2 => .rt d h2
        | .exn c ds h2 => .exn c ds h2
        | .bad => .bad) = _
      rw [b]
      exact q1
theorem cut_ints (ns : List Int) (lo hi : Option Int) (k : Nat) (d : D) (e : (cutD (ns.map D.int) lo hi)[k]? = some d) : ∃ z, d = .int z := by
  have m := List.mem_of_getElem? e
  obtain ⟨z, _, rfl⟩ := List.mem_map.mp (List.mem_of_mem_drop (List.mem_of_mem_take m))
  exact ⟨z, rfl⟩
theorem cut_63 (xs : List D) : (cutD xs (some 1) (some 63)).length ≤ 63 := by
  have u : ixO xs.length xs.length (some 63) ≤ 63 := by
    show (match Nat.ble 63 xs.length with | true => 63 | false => xs.length) ≤ 63
    cases z : Nat.ble 63 xs.length with
    | true => exact Nat.le_refl _
    | false =>
      have : ¬ 63 ≤ xs.length := fun q => by rw [Nat.ble_eq_true_of_le q] at z; cases z
      show xs.length ≤ 63
      omega
  unfold cutD
  rw [List.length_take]
  omega
theorem slS_ok {ns : List Int} {m : ME} {lo hi : MO} {σ : Loc} {h : Hm} {l u : Option Int} (a : m σ h = .ok (.fn 1000) h) (b : lo σ h = .ok l h) (c : hi σ h = .ok u h) : mSlS ns m lo hi σ h = .ok (.ref h.n) (h.push (.lst (cutD (ns.map D.int) l u))) := by
  unfold mSlS
  rw [a]
  show (lo σ h).bind _ = _
  rw [b]
  show (hi σ h).bind _ = _
  rw [c]
  rfl
/-- the one number that stands -/
def cell1 (ns : List Int) : Hm := match ns with
  | [] => ((Hm.nil.push (.lst [])).push (.lst [])).push (.lst [.int 0])
  | n :: _ => (Hm.nil.push (.lst [.int n])).push (.lst [.int n])
theorem cell1_ok (ns : List Int) : ∃ i c, msAsg (mOrT (mCB fListA (maCons (mSlS ns (mVar 0) (moNone) (moSome (mVar 1))) (maNil))) (mLst (maCons (mC (.int 0)) (maNil)))) (gmName 2) [some (.fn 1000), some (.int 1), none, none, none, none] Hm.nil = .nx [some (.fn 1000), some (.int 1), some (.ref i), none, none, none] (cell1 ns) ∧ i < (cell1 ns).n ∧ (cell1 ns).get i = some (.lst [.int c]) := by
  cases ns with
  | nil => exact ⟨2, 0, rfl, by decide, rfl⟩
  | cons n r => exact ⟨1, n, rfl, by show 1 < 2; decide, rfl⟩
theorem cells_ok (ns : List Int) : ∃ i h c, Fcells ns [.fn 1000, .int 1] Hm.nil = .ok (.ref i) h ∧ h.get i = some (.lst [.int c]) := by
  obtain ⟨i, c, e1, e2, e3⟩ := cell1_ok ns
  have ne : i ≠ (cell1 ns).n := Nat.ne_of_lt e2
  have g1 : ((cell1 ns).push (.lst (cutD (ns.map D.int) (some 1) (some 63)))).get i = some (.lst [.int c]) := (Hm.get_push_ne ne.symm).trans e3
  have g2 : ((cell1 ns).push (.lst (cutD (ns.map D.int) (some 1) (some 63)))).get (cell1 ns).n = some (.lst (cutD (ns.map D.int) (some 1) (some 63))) := Hm.get_push_same _ _
  have l63 := cut_63 (ns.map D.int)
  obtain ⟨x', y', w', h', c', q1, q2⟩ := cells_loop ne (by omega) (cut_ints ns (some 1) (some 63)) turns 0 c none none none _ (Nat.zero_le _) (by show _ < 1000000; omega) g1 g2
  have s := slS_ok (ns := ns) (m := mVar 0) (lo := moSome (mVar 1)) (hi := moSome (mC (.int 63))) (σ := [some (.fn 1000), some (.int 1), some (.ref i), none, none, none]) (h := cell1 ns) (l := some 1) (u := some 63) (ev_var rfl) rfl rfl
  have t : miEn (maCons (mSlS ns (mVar 0) (moSome (mVar 1)) (moSome (mC (.int 63)))) (maNil)) [some (.fn 1000), some (.int 1), some (.ref i), none, none, none] (cell1 ns) = .ok (srcEL (cell1 ns).n) ((cell1 ns).push (.lst (cutD (ns.map D.int) (some 1) (some 63)))) := by
    have a : maCons (mSlS ns (mVar 0) (moSome (mVar 1)) (moSome (mC (.int 63)))) (maNil) [some (.fn 1000), some (.int 1), some (.ref i), none, none, none] (cell1 ns) = .ok [.ref (cell1 ns).n] ((cell1 ns).push (.lst (cutD (ns.map D.int) (some 1) (some 63)))) := ev_cons1 s rfl
    unfold miEn
    rw [a]
    show (match ((cell1 ns).push (.lst (cutD (ns.map D.int) (some 1) (some 63)))).get (cell1 ns).n with
      | some (.lst _) => _
      | _ => _) = _
    rw [g2]
  have fr : msFor (miEn (maCons (mSlS ns (mVar 0) (moSome (mVar 1)) (moSome (mC (.int 63)))) (maNil))) Gcells Lcells [some (.fn 1000), some (.int 1), some (.ref i), none, none, none] (cell1 ns) = .nx [some (.fn 1000), some (.int 1), some (.ref i), x', y', w'] h' := by
    unfold msFor
    rw [t]
    exact q1
  exact ⟨i, h', c', ev_def (ev_ss e1 (ev_ss fr (ev_ret (ev_var rfl)))), q2⟩
/-- which part: a number below m -/
def Mpick (ns : List Int) (z0 m : Int) : ME := mCall 2 Ftake (maCons (mCall 2 (Fbox z0) (maCons (mCall 2 (Fcells ns) (maCons (mVar 0) (maCons (mC (.int 1)) (maNil)))) (maCons (mC (.int 0)) (maNil)))) (maCons (mC (.int m)) (maNil)))
theorem mpick_ok {ns : List Int} {z0 m : Int} {r : Loc} {h0 : Hm} (hf : (some (.fn 1000) :: r : Loc).all flatO = true) (z : 0 < m) (z2 : m < 1073741824) : ∃ x, mR (Mpick ns z0 m) (some (.fn 1000) :: r) h0 = .ok (.int x) h0 ∧ 0 ≤ x ∧ x < m := by
  obtain ⟨i, h, c, e1, e2⟩ := cells_ok ns
  obtain ⟨a, b, e3⟩ := box_ok (z0 := z0) e2
  obtain ⟨x, a', t', e4, e5, _⟩ := take_ok (h := h.push (.lst [.int a, .int b, .int 0])) (r := h.n) (m := m) (Hm.get_push_same _ _) (Int.le_refl 0) (by decide) z z2
  refine ⟨x, ?_, e5⟩
  have q : Mpick ns z0 m (some (.fn 1000) :: r) Hm.nil = .ok (.int x) ((h.push (.lst [.int a, .int b, .int 0])).put h.n (.lst [.int a', .int b, .int t'])) :=
    ev_call (ev_cons1 (ev_call (ev_cons1 (ev_call (ev_cons1 (ev_var rfl) (ev_cons1 rfl rfl)) rfl e1) (ev_cons1 rfl rfl)) rfl e3) (ev_cons1 rfl rfl)) rfl e4
  unfold mR
  rw [hf, q]
  rfl
/-- a run that tells True -/
def okT (r : R D) : Bool := match r with
  | .ok d _ => match d with
    | .bl b => b
    | _ => false
  | _ => false
theorem okT_ok {r : R D} (e : okT r = true) : ∃ h, r = .ok (.bl true) h := by
  cases r with
  | bad => exact absurd e Bool.false_ne_true
  | exn c ds h => exact absurd e Bool.false_ne_true
  | ok d h => cases d with
    | bl b => cases b with
      | true => exact ⟨h, rfl⟩
      | false => exact absurd e Bool.false_ne_true
    | _ => exact absurd e Bool.false_ne_true
theorem mR_call0 {f : MF} {σ : Loc} {h : Hm} (hf : σ.all flatO = true) (e : okT (f [] Hm.nil) = true) : mR (mCall 0 f maNil) σ h = .ok (.bl true) h := by
  obtain ⟨h1, e1⟩ := okT_ok e
  have q : mCall 0 f maNil σ Hm.nil = .ok (.bl true) h1 := ev_call rfl rfl e1
  unfold mR
  rw [hf, q]
  rfl
theorem mR_call1 {f : MF} {σ : Loc} {h : Hm} {m : ME} {d : D} (hf : σ.all flatO = true) (a : m σ Hm.nil = .ok d Hm.nil) (e : okT (f [d] Hm.nil) = true) : mR (mCall 1 f (maCons m maNil)) σ h = .ok (.bl true) h := by
  obtain ⟨h1, e1⟩ := okT_ok e
  have q : mCall 1 f (maCons m maNil) σ Hm.nil = .ok (.bl true) h1 := ev_call (ev_cons1 a rfl) rfl e1
  unfold mR
  rw [hf, q]
  rfl
end
end Sm
namespace Sm
open PySem PySem.Spec PyProof.Rows L2
noncomputable section
/-! ### min, max of a list or a tuple of ints -/
section
variable {X : Cx} {Z : Cz}
def rMnM (g : Int → Int → Int) (K : PySem.W.Frag) : List V → Hp → VK → Prop := fun vs H Q => ∃ (a : Addr) (n : Int) (ns : List Int), vs = [V.ref a] ∧ (SqL K H a ((n :: ns).map V.int) ∨ SqT K H a ((n :: ns).map V.int)) ∧ Q (.int (ns.foldl g n)) H
theorem reads_ints {h : Heap} : ∀ {ns : List Int} {its : List Value}, Vals (ns.map V.int) its → ∃ as, ReadsAll h its (ns.map PyData.int) as
  | [], its, r => by cases its <;> cases r; exact ⟨[], .nil⟩
  | n :: ns, its, r => by
    cases its with
    | nil => cases r
    | cons v its =>
      cases r with
      | cons r1 r2 =>
        obtain ⟨as, q⟩ := reads_ints (h := h) r2
        obtain ⟨t, rfl⟩ := r1
        exact ⟨[] ++ as, .cons (.int _ _) q⟩
theorem alike_ints (ns : List Int) : PySem.W.AlikeAll (ns.map PyData.int) := by
  refine ⟨fun x hx y hy => ?_, fun x hx => ?_⟩
  · obtain ⟨i, _, rfl⟩ := List.mem_map.mp hx
    obtain ⟨j, _, rfl⟩ := List.mem_map.mp hy
    rfl
  · obtain ⟨i, _, rfl⟩ := List.mem_map.mp hx
    exact fun z => by cases z
theorem depth_ints : ∀ ns : List Int, PyData.depthAll (ns.map PyData.int) = 0
  | [] => rfl
  | n :: ns => by
    show max 0 (PyData.depthAll (ns.map PyData.int)) = 0
    rw [depth_ints ns]
    rfl
theorem reads_int {h : Heap} {v : Value} {i : Int} {bs : List Addr} (r : Reads h v (.int i) bs) : ∃ t, v = .int i t := by
  cases r
  exact ⟨_, rfl⟩
theorem cr_minM (hc : X.calm = true) (hu : X.A.units + 1 < cLine) : CallR X (.builtin "min") (rMnM min X.K) := by
  intro pins s σ H vs us Q I r h
  obtain ⟨a, n, ns, rfl, hs, q⟩ := h
  rw [Vals.ref1 r]
  have hd : X.A.units + 1 + PyData.depthAll (.int n :: ns.map PyData.int) < cLine := by rw [show PyData.depthAll (.int n :: ns.map PyData.int) = 0 from depth_ints (n :: ns)]; exact hu
  rcases hs with hs | hs
  · obtain ⟨its, rv, hl, _⟩ := I.list hs
    obtain ⟨as, ra⟩ := reads_ints (h := s.heap) rv
    refine PySem.W.min_list_data (I.ok.hd hc) hl.isList ra (alike_ints (n :: ns)) hd fun i v h' tk bs _ rd hk => ?_
    rw [PySem.W.minD_ints] at rd
    obtain ⟨t, rfl⟩ := reads_int rd
    exact ⟨.int _, H, I.kept hk, ⟨t, rfl⟩, q⟩
  · obtain ⟨its, rv, hl, _⟩ := I.tuple hs
    obtain ⟨as, ra⟩ := reads_ints (h := s.heap) rv
    refine PySem.W.min_tuple_data (I.ok.hd hc) hl ra (alike_ints (n :: ns)) hd fun i v h' tk bs _ rd hk => ?_
    rw [PySem.W.minD_ints] at rd
    obtain ⟨t, rfl⟩ := reads_int rd
    exact ⟨.int _, H, I.kept hk, ⟨t, rfl⟩, q⟩
theorem cr_maxM (hc : X.calm = true) (hu : X.A.units + 1 < cLine) : CallR X (.builtin "max") (rMnM max X.K) := by
  intro pins s σ H vs us Q I r h
  obtain ⟨a, n, ns, rfl, hs, q⟩ := h
  rw [Vals.ref1 r]
  have hd : X.A.units + 1 + PyData.depthAll (.int n :: ns.map PyData.int) < cLine := by rw [show PyData.depthAll (.int n :: ns.map PyData.int) = 0 from depth_ints (n :: ns)]; exact hu
  rcases hs with hs | hs
  · obtain ⟨its, rv, hl, _⟩ := I.list hs
    obtain ⟨as, ra⟩ := reads_ints (h := s.heap) rv
    refine PySem.W.max_list_data (I.ok.hd hc) hl.isList ra (alike_ints (n :: ns)) hd fun i v h' tk bs _ rd hk => ?_
    rw [PySem.W.maxD_ints] at rd
    obtain ⟨t, rfl⟩ := reads_int rd
    exact ⟨.int _, H, I.kept hk, ⟨t, rfl⟩, q⟩
  · obtain ⟨its, rv, hl, _⟩ := I.tuple hs
    obtain ⟨as, ra⟩ := reads_ints (h := s.heap) rv
    refine PySem.W.max_tuple_data (I.ok.hd hc) hl ra (alike_ints (n :: ns)) hd fun i v h' tk bs _ rd hk => ?_
    rw [PySem.W.maxD_ints] at rd
    obtain ⟨t, rfl⟩ := reads_int rd
    exact ⟨.int _, H, I.kept hk, ⟨t, rfl⟩, q⟩
def fMn (g : Int → Int → Int) : FL := fun ds h => match ds with
  | [d] => match items h d with
    | some xs => match intsD xs with
      | some (n :: ns) => .ok (.int (ns.foldl g n)) h
      | _ => .bad
    | none => .bad
  | _ => .bad
theorem cs_mn {g : Int → Int → Int} : CS Z (rMnM g Z.K) (fMn g) := by
  intro ρ h H ds vs Q E rep rv q
  unfold fMn at q
  split at q <;> first | exact q.elim | skip
  rename_i d
  cases rv with
  | cons r1 r2 =>
    cases r2
    split at q <;> first | exact q.elim | skip
    rename_i xs ee
    split at q <;> first | exact q.elim | skip
    rename_i n ns en
    obtain ⟨a, ws, rfl, rvs, hc⟩ := items_ok rep r1 ee
    have ew := intsD_ok rvs en
    subst ew
    refine ⟨a, n, ns, rfl, ?_, q ρ H _ Ext.refl rep (.int _)⟩
    rcases hc with ⟨hc, _⟩ | ⟨hc, ed⟩
    · exact .inl (SqL.of hc)
    · exact .inr (SqT.of hc)
/-! ### math.comb -/
def rComb : List V → Hp → VK → Prop := fun vs H Q => ∃ a b : Int, vs = [.int a, .int b] ∧ (0 ≤ a ∧ 0 ≤ b ∧ a < 2 ^ 64 ∧ b ≤ 9000) ∧ Q (.int (PySem.W.mcComb a b)) H
theorem cr_comb : CallR X (.builtin "math.comb") rComb := by
  intro pins s σ H vs us Q I r h
  obtain ⟨a, b, rfl, ⟨h1, h2, h3, h4⟩, q⟩ := h
  obtain ⟨t, u, rfl⟩ := Vals.int2 r
  exact PySem.W.mc_comb h1 h2 h3 (.inl h4) fun _ => ⟨.int _, H, I.tok _, ⟨_, rfl⟩, q⟩
def cComb (a b : Int) : Bool := match a, b with
  | .ofNat a, .ofNat b => Nat.blt a 18446744073709551616 && Nat.ble b 9000
  | _, _ => false
theorem cComb_ok {a b : Int} (h : cComb a b = true) : 0 ≤ a ∧ 0 ≤ b ∧ a < 2 ^ 64 ∧ b ≤ 9000 := by
  unfold cComb at h
  split at h
  · rename_i x y
    obtain ⟨h1, h2⟩ := Bool.and_eq_true_iff.mp h
    have h1 := Nat.le_of_ble_eq_true h1
    have h2 := Nat.le_of_ble_eq_true h2
    exact ⟨Int.natCast_nonneg _, Int.natCast_nonneg _, by show ((x : Nat) : Int) < 2 ^ 64; omega, by show ((y : Nat) : Int) ≤ 9000; omega⟩
  · cases h
def fComb : FL := fun ds h => match ds with
  | [.int a, .int b] => match cComb a b with
    | true => .ok (.int (PySem.W.mcComb a b)) h
    | false => .bad
  | _ => .bad
theorem cs_comb : CS Z rComb fComb := by
  intro ρ h H ds vs Q E rep rv q
  unfold fComb at q
  split at q <;> first | exact q.elim | skip
  rename_i a b
  split at q <;> first | exact q.elim | skip
  rename_i ec
  cases rv with
  | cons r1 r2 =>
    cases r2 with
    | cons r2 r3 =>
      cases r1; cases r2; cases r3
      exact ⟨a, b, rfl, cComb_ok ec, q ρ H _ Ext.refl rep (.int _)⟩
end
section
variable {X : Cx} {Z : Cz} {E : L2.St → XK} {pos p : Pos} {x : Str} {e : Expr} {es : List Expr} {ka : MA} {r : List V → Hp → VK → Prop} {f : FL}
/-- f(..), f a module's name for a built-in function -/
theorem s_cbf {id : String} (hc : CallR X (.builtin id) r) (s : CS Z r f) (hg : Gl X x) (hm : X.mg x = some (.builtin id)) (ha : PA X (e :: es) (tA Z E ka)) (hdb : (x == ("__debug__" : Str)) = false := by decide)
    (he : starEach (e :: es) X.env = (false, eval e X.env) :: starEach es X.env := by rfl) (hpl : (backTo pos (starEach es X.env)).any (·.1) = false := by rfl) : PE X (.Call (.Name x p) (e :: es) [] pos) (tE Z E (mCB f ka)) :=
  (pe_callBfun hc hg hm ha hdb he hpl).imp fun τ H Q q => cb_of s q
/-! ### {k: v, k: v}, keys ints and texts -/
def mD2 (mk mv mk2 mv2 : ME) : ME := fun σ h => (mk σ (h.push (.dK []))).bind fun d h1 => (mv σ h1).bind fun e h2 => (mk2 σ h2).bind fun d2 h3 => (mv2 σ h3).bind fun e2 h4 => match h4.get h.n with
  | some (.dK []) => match keyD d, keyD d2 with
    | some kk, some k2 => .ok (.ref h.n) (h4.put h.n (.dK (putD k2 e2 (putD kk e []))))
    | _, _ => .bad
  | _ => .bad
theorem s_d2 {k v k2 v2 : Expr} {mk mv mk2 mv2 : ME} (pk : PE X k (tE Z E mk)) (pv : PE X v (tE Z E mv)) (pk2 : PE X k2 (tE Z E mk2)) (pv2 : PE X v2 (tE Z E mv2)) : PE X (.Dict [some k, some k2] [v, v2] pos) (tE Z E (mD2 mk mv mk2 mv2)) :=
  (pe_disp (pps_cons pk pv (pps_cons pk2 pv2 pps_nil)) rfl rfl (fun z => nomatch z) (show 2 ≤ 15 by decide)).imp fun τ H Q => by
  rintro ⟨ρ, σ, h, rep, rs, q⟩
  intro p hp
  obtain ⟨ρ0, e0, rep0, ep⟩ := rep.push (o := .dK []) (u := .dK []) hp fun ρ' _ => ⟨[], upd_same, .nil⟩
  have rs0 := rs.mono rep e0
  refine ⟨ρ0, σ, _, rep0, rs0, Aft.bind (Aft.shift (h1 := h.push (.dK [])) e0 q) fun d h1 ρ1 H1 x e1 rep1 rx q1 => ?_⟩
  have rs1 := rs0.mono rep0 e1
  refine ⟨ρ1, σ, h1, rep1, rs1, Aft.bind q1 fun e h2 ρ2 H2 y e2 rep2 ry q2 => ?_⟩
  have rs2 := rs1.mono rep1 e2
  refine ⟨ρ2, σ, h2, rep2, rs2, Aft.bind q2 fun d2 h3 ρ3 H3 x2 e3 rep3 rx2 q3 => ?_⟩
  have rs3 := rs2.mono rep2 e3
  refine ⟨ρ3, σ, h3, rep3, rs3, Aft.bind q3 fun ee2 h4 ρ4 H4 y2 e4 rep4 ry2 q4 => ?_⟩
  have e14 := ((e1.trans e2).trans e3).trans e4
  have hn : h.n < h4.n := Nat.lt_of_lt_of_le (show h.n < h.n + 1 from Nat.lt_succ_self _) e14.le
  have pe : ρ4 h.n = p := (e14.same h.n (Nat.lt_succ_self _)).trans ep
  split at q4 <;> first | exact q4.elim | skip
  rename_i ee
  obtain ⟨ws, a1, a2⟩ := rep4.dK hn ee
  cases a2
  rw [pe] at a1
  split at q4 <;> first | exact q4.elim | skip
  rename_i kk k2 ek ek2
  have nf : ∀ ob w, H4 (ρ4 h.n) ≠ some (.frz ob w) := fun _ _ z => by rw [pe, a1] at z; cases z
  have vy := ((ry.mono rep2 e3).mono rep3 e4)
  obtain ⟨ex, rp⟩ := rep4.put (o := .dK (putD k2 ee2 (putD kk e []))) (u := .dK (putK (putK [] kk y) k2 y2)) hn nf fun ex => ⟨_, upd_same, putD_ok (ry2.mono rep4 ex) (putD_ok (vy.mono rep4 ex) .nil)⟩
  have q5 := q4 ρ4 _ _ ex rp (.ref hn)
  rw [pe] at q5
  refine ⟨a1, [(kk, y), (k2, y2)], ?_, (show 2 ≤ 15 by decide), q5⟩
  rw [keyD_ok rx ek, keyD_ok rx2 ek2]
  rfl
end
end
end Sm
namespace Sm
open PySem PySem.Spec PyProof.Rows L2
noncomputable section
/-! ### sorted of a tuple -/
section
variable {prog : Program} {w : World} {A : Around} {E : Value → Shared → Prop} {s : Shared} {β : Type} {vs : List Value} {bs : List β} {enc : β → PyData} {R : Value → β → Prop}
theorem sorted_tup {l : Addr} {Q : Value → Shared → Prop} (hl : s.heap.IsTuple l vs.toArray) (e : PySem.W.EachIs R vs bs) (er : PySem.W.EachIs (fun v b => ∃ as, Reads s.heap v (enc b) as) vs bs) (hal : PySem.W.AllAlike (bs.map enc)) (hk : PySem.W.Sortable (bs.map enc)) (hL : bs.length ≤ sizeLine)
    (hu : ∀ b, b ∈ bs → A.units + 2 + (enc b).depth < cLine) (h : ∀ (h' : Heap) (out : List Value), (∀ b o, s.heap.get? b = some o → h'.get? b = some o) → out.length = bs.length → PySem.W.EachIs R out (bs.mergeSort (PySem.W.dataLe false enc)) →
      Q (.ref h'.objs.size) { s with heap := sortedHeap (h'.push (seqObj "list" vs.toArray 0)) h'.objs.size vs (List.toArray out) }) :
    wpAny (model prog w) A (call (.builtin "sorted") [.ref l]) Q E s := by
  obtain ⟨o, ho, hc, n, hd⟩ := hl
  have hLv : vs.length ≤ sizeLine := by rw [e.length]; exact hL
  refine Calls.call_function_entry kind_sorted plain_sorted entry_sorted (args_sorted1 _) ?_
  unfold Builtin.«sorted»
  refine wpAny_bind (m := checkCount "sorted" 1 1 _) (wpAny_pure ?_)
  refine wpAny_bind (wpAny_collect_seq l (.inr rfl) ho hc hd (fun h' hk' => ?_) (by rw [List.size_toArray]; exact hLv))
  refine wpAny_bind (wpAny_newList ?_ hLv)
  have hoL : (h'.push (seqObj "list" vs.toArray 0)).get? h'.objs.size = some (seqObj "list" vs.toArray 0) := Heap.get?_push_size _ rfl
  show wpAny _ _ _ _ _ { s with heap := h'.push (seqObj "list" vs.toArray 0) }
  have old : ∀ b ob, s.heap.get? b = some ob → (PySem.W.sortingHeap (h'.push (seqObj "list" vs.toArray 0)) h'.objs.size vs).get? b = some ob := fun b ob hb =>
    PySem.W.sortingHeap_old (Nat.ne_of_lt (Heap.lt_size (hk' b ob hb))) (Heap.get?_push_of_some _ (hk' b ob hb))
  have er' : PySem.W.EachIs (fun v b => ∃ as, Reads (PySem.W.sortingHeap (h'.push (seqObj "list" vs.toArray 0)) h'.objs.size vs) v (enc b) as) vs bs := er.mono fun _ _ ⟨as, r⟩ => ⟨as, PyProof.Rows.Reads.keeps old r⟩
  have S := PySem.W.SortsAt.data (prog := prog) (w := w) (A := A.in1.in1) (s := { s with heap := PySem.W.sortingHeap (h'.push (seqObj "list" vs.toArray 0)) h'.objs.size vs }) (PySem.W.each_map (R := fun v d => ∃ as, Reads (PySem.W.sortingHeap (h'.push (seqObj "list" vs.toArray 0)) h'.objs.size vs) v d as) enc er') hal hk (PySem.W.bound_map hu)
  refine wpAny_bind (wpAny_holding (wpAny_call_entry slot_list_sort ⟨_, hoL, rfl⟩ entry_list_sort (PySem.W.list_sort_vals (s := { s with heap := h'.push (seqObj "list" vs.toArray 0) }) hoL S hLv ⟨_, rfl, ?_⟩) (args_list_sort _)))
  exact wpAny_pure ⟨_, rfl, h h' _ hk' (by rw [PySem.W.sortVals_length false rfl]; exact e.length) (PySem.W.sortVals_data false e er' hal)⟩
end
def rSortT (K : PySem.W.Frag) : List V → Hp → VK → Prop := fun vs H Q => ∃ (a : Addr) (ts : List (PyData × V)), vs = [V.ref a] ∧ SqT K H a (ts.map (·.2)) ∧ (∀ t ∈ ts, Dp K H t.2 t.1) ∧ sortableB (ts.map (·.1)) = true ∧
  ∀ p, H p = none → Q (.ref p) (upd H p (.lst ((isK leData ts).map (·.2))))
section
variable {X : Cx} {Z : Cz}
theorem cr_sortT (hu : X.A.units + 70 < cLine) : CallR X (.builtin "sorted") (rSortT X.K) := by
  intro pins s σ H vs us Q I r h
  obtain ⟨a, ts, rfl, hs, hd, hb, q⟩ := h
  obtain ⟨its, rv, hl, hz⟩ := I.tuple hs
  rw [Vals.ref1 r]
  obtain ⟨b1, b2, b3⟩ := sortableB_ok hb
  have ew : ∀ {ts : List (PyData × V)} {its : List Value}, Vals (ts.map (·.2)) its → PySem.W.EachIs (fun v (t : PyData × V) => RelV t.2 v) its ts := by
    intro ts
    induction ts with
    | nil => intro its x; cases x; exact .nil
    | cons t r ih =>
      intro its x
      cases x with
      | cons x1 x2 => exact .cons x1 (ih x2)
  have e := ew rv
  have lens : ts.length = its.length := by rw [← rv.length, List.length_map]
  have er : PySem.W.EachIs (fun v (t : PyData × V) => ∃ as, Reads s.heap v t.1 as) its ts := (PySem.W.each_mem e).mono fun v t ⟨x, m⟩ => Dp.reads I t.1 t.2 v (hd t m) x
  refine sorted_tup (enc := fun t : PyData × V => t.1) (R := fun v t => RelV t.2 v) hl e er b2 b3 (by rw [List.length_map] at hz; exact hz) (fun t ht => ?_) fun h' out hk ol eo => ?_
  · have := b1 t.1 (List.mem_map_of_mem ht)
    unfold SeqAt.shaped at this
    have d64 := of_decide_eq_true (Bool.and_eq_true_iff.mp this).2
    omega
  · have eq : ts.mergeSort (PySem.W.dataLe false (fun t : PyData × V => t.1)) = isK leData ts := (isK_merge leData_total ts).symm
    rw [eq] at eo
    have vo : ∀ {l : List (PyData × V)} {out : List Value}, PySem.W.EachIs (fun v (t : PyData × V) => RelV t.2 v) out l → Vals (l.map (·.2)) out := by
      intro l
      induction l with
      | nil => intro out x; cases x; exact .nil
      | cons t r ih =>
        intro out x
        cases x with
        | cons x1 x2 => exact .cons x1 (ih x2)
    have vo := vo eo
    have hoL : (h'.push (seqObj "list" its.toArray 0)).get? h'.objs.size = some (seqObj "list" its.toArray 0) := Heap.get?_push_size _ rfl
    obtain ⟨ep, he'⟩ := PyProof.Rows.sortedHeap_at (vs := its) (out := out.toArray) hoL
    have I1 : Inv X pins σ H { s with heap := h', toks := s.toks } := I.kept hk
    refine ⟨.ref h'.objs.size, upd H h'.objs.size (.lst ((isK leData ts).map (·.2))), I1.laid (t' := s.toks) (fun b u eb => ?_) (Nat.le_refl _) ⟨by rw [vo.length, ol, lens, ← rv.length]; exact hz, out, ep, vo, he'⟩, rfl, q _ (I1.hok.fresh (Nat.le_refl _))⟩
    have hb : b < h'.objs.size := Heap.lt_size eb
    rw [PyProof.Rows.sortedHeap_old (Nat.ne_of_lt hb) (by rw [size_push']; exact Nat.lt_succ_of_lt hb)]
    exact Heap.get?_push_of_some _ eb
def fSortB : FL := fun ds h => match ds with
  | [.tup xs] => match sortD h xs with
    | some ys => .ok (.ref h.n) (h.push (.lst ys))
    | none => .bad
  | [d] => fSortA [d] h
  | _ => .bad
theorem cs_sortB : CS Z (fun xs H Q => rSortA Z.K Z.w xs H Q ∨ rSortT Z.K xs H Q) fSortB := by
  intro ρ h H ds vs Q E rep rv q
  unfold fSortB at q
  split at q <;> first | exact q.elim | skip
  · rename_i xs
    cases rv with
    | cons r1 r2 =>
      cases r2
      cases r1 with
      | @tup a _ ws st rs =>
        split at q <;> first | exact q.elim | skip
        rename_i ys ee
        obtain ⟨ts, h1, h2, h3, h4⟩ := sortD_ok rep rs ee
        refine .inr ⟨a, ts, rfl, ?_, h2, h3, fun p hp => new_lst rep h4 q hp⟩
        rw [h1]
        exact SqT.of st
  · exact .inl (cs_sortA ρ h H _ _ Q E rep rv q)
theorem cr_sortB (hc : X.calm = true) (hu : X.A.units + 70 < cLine) : CallR X (.builtin "sorted") (fun xs H Q => rSortA X.K X.w xs H Q ∨ rSortT X.K xs H Q) := CallR.or (cr_sortA hc hu) (cr_sortT hu)
end
end
end Sm
namespace Sm
open PySem PySem.Spec PyProof.Rows L2
noncomputable section
/-! ### a def that an expression gives, called with nothing -/
section
variable {X : Cx} {Z : Cz} {E : L2.St → XK} {pos p : Pos} {fe e : Expr} {es : List Expr} {mf : ME} {ka : MA} {t : Tbl}
theorem s_callV0 (ht : ∀ k m f, t k = some (m, f) → FnAt X Z k m f) (tk : Takes X (fun cl d τ H => E τ cl d H)) (pf : PE X fe (tE Z E mf))
    (hc : eval (.Call fe [] [] pos) X.env = (do callWith pos (← eval fe X.env) [] (backTo pos (starEach [] X.env)) (backToKw pos (keywordEach [] X.env))) := by rfl) : PE X (.Call fe [] [] pos) (tE Z E (mCallV t mf maNil)) := by
  refine ⟨fun pins s τ H Q I h => ?_⟩
  obtain ⟨ρ, σ, h0, rep, rs, q⟩ := h
  refine Call_ (thn (pf.run pins s τ H (fun v H1 => ∃ k m f ρ1 h1, v = .ref (Z.φ k) ∧ t k = some (m, f) ∧ Rep Z ρ1 h1 H1 ∧ RS Z ρ1 h1.n H1 σ τ ∧ Aft Z (rlV Z) ρ1 h1 H1 ((maNil σ h1).bind fun ds h2 => match Nat.beq ds.length m with
    | true => f ds h2
    | false => .bad) Q (E τ)) I ⟨ρ, σ, h0, rep, rs, Aft.bind q fun d h1 ρ1 H1 v e1 rep1 rv q1 => ?_⟩) fun u s1 hh => ?_) hc
  · cases rv <;> first | exact q1.elim | skip
    rename_i k
    simp only at q1
    cases z : t k with
    | none => rw [z] at q1; exact q1.elim
    | some mf' =>
      obtain ⟨m, f⟩ := mf'
      rw [z] at q1
      exact ⟨k, m, f, ρ1, h1, rfl, z, rep1, rs.mono rep e1, q1⟩
  · obtain ⟨v, H1, I1, r1, k, m, f, ρ1, h1, rfl, hk, rep1, rs1, q1⟩ := hh
    obtain rfl : u = .ref (Z.φ k) := r1
    obtain ⟨kk, fd, ps, F, hr, kp, hb⟩ := ht k m f hk
    have q2 : Aft Z (rlV Z) ρ1 h1 H1 (match Nat.beq ([] : List D).length m with
      | true => f [] h1
      | false => .bad) Q (E τ) := q1
    refine PySem.W.callWith_K0 I1.kIn kp (run_fnS F hr hb (passAt tk τ) I1 .nil ?_)
    cases z : Nat.beq ([] : List D).length m with
    | false => rw [z] at q2; exact q2.elim
    | true =>
      rw [z] at q2
      exact ⟨ρ1, h1, [], rep1, .nil, Nat.eq_of_beq_eq_true z, q2⟩
/-- a local name's def, called -/
theorem s_callVN {x : Str} (ht : ∀ k m f, t k = some (m, f) → FnAt X Z k m f) (tk : Takes X (fun cl d τ H => E τ cl d H)) (pf : PE X (.Name x p) (tE Z E mf)) (ha : PA X (e :: es) (tA Z E ka)) (he : starEach (e :: es) X.env = (false, eval e X.env) :: starEach es X.env := by rfl) (hpl : (backTo pos (starEach es X.env)).any (·.1) = false := by rfl) :
    PE X (.Call (.Name x p) (e :: es) [] pos) (tE Z E (mCallV t mf ka)) := s_callV ht tk pf ha he hpl (arm_eval_Call_Name' ..)
/-! ### min, max of two ints -/
def f2I (g : Int → Int → Int) : FL := fun ds h => match ds with
  | [.int a, .int b] => .ok (.int (g a b)) h
  | _ => .bad
def iMin (i j : Int) : Int := if j < i then j else i
def iMax (i j : Int) : Int := if j > i then j else i
theorem cs_2I {g : Int → Int → Int} : CS Z (fun xs H Q => ∃ i j, xs = [.int i, .int j] ∧ Q (.int (g i j)) H) (f2I g) := by
  intro ρ h H ds vs Q E rep rv q
  unfold f2I at q
  split at q <;> first | exact q.elim | skip
  rename_i a b
  cases rv with
  | cons r1 r2 =>
    cases r2 with
    | cons r2 r3 =>
      cases r1; cases r2; cases r3
      exact ⟨a, b, rfl, q ρ H _ Ext.refl rep (.int _)⟩
end
end
end Sm
namespace Sm
open PySem PySem.Spec PyProof.Rows L2
noncomputable section
/-! ### what a run never comes to -/
def mBadE (n : Nat) : ME := fun _ _ => dbgTrace (toString n) fun _ => .bad
def mBadT (n : Nat) : MT := fun _ _ => dbgTrace (toString n) fun _ => .bad
def miBad (n : Nat) : MI := fun _ _ => dbgTrace (toString n) fun _ => .bad
def msBad (n : Nat) : MS := fun _ _ => dbgTrace (toString n) fun _ => .bad
section
variable {X : Cx} {Z : Cz} {E : L2.St → XK} {e tg : Expr} {st : Stmt} {n : Nat}
theorem s_badE : PE X e (tE Z E (mBadE n)) := ⟨fun _ _ _ _ _ _ ⟨_, _, _, _, _, q⟩ => False.elim q⟩
theorem s_badT : PT X e (tT Z E (mBadT n)) := ⟨fun _ _ _ _ _ _ ⟨_, _, _, _, _, q⟩ => False.elim q⟩
theorem s_badI : PI X tg e (tIM Z E (miBad n)) := ⟨fun _ _ _ _ _ _ ⟨_, _, _, _, _, q⟩ => False.elim q⟩
theorem s_badS : PS X st (tS Z E (msBad n)) := ⟨fun _ _ _ _ _ _ ⟨_, _, _, _, _, q⟩ => False.elim q⟩
end
end
end Sm
namespace Sm
open PySem PySem.Spec PyProof.Rows L2
noncomputable section
/-! ### dict comprehensions: one clause, two -/
/-- a pair stored in the new dict -/
theorem d_dictSetP {X : Cx} {pins : List (Addr × Obj)} {σ : L2.St} {H H' : Hp} {s : Shared} {a : Addr} {y v : V} {u r : Value} {Q : Unit → Shared → Prop} {E : Value → Shared → Prop} (hu : X.A.units + 1 < cLine) (I : Inv X pins σ H s) (g : DPut H a y v H') (ry : RelV y u) (rv : RelV v r) (h : ∀ s', Inv X pins σ H' s' → Q () s') :
    wpAny (model X.prog X.w) X.A (dictSet a u r) Q E s := by
  rcases g with ⟨kvs, k, e, ey, l, eH⟩ | ⟨kvs, k, b, e, ey, eb, l, eH⟩
  · subst ey eH
    exact d_dictSet I e l ry rv h
  · subst ey eH
    cases (show u = Value.ref b from ry)
    obtain ⟨z, hd, xs, rel, dd⟩ := dt_of I.hok e
    have hz : xs.length ≤ sizeLine := by rw [← Paired.length rel]; exact z
    have hl : (putK kvs k v).length ≤ sizeLine := by have := length_putK kvs k v; omega
    have hu' : (tupleKind (mixKind X.prog X.w)).room X.A := Nat.lt_of_succ_lt hu
    refine wpAny_dictSet_heap (hsz := hz) hu' (key_of I.hok eb) dd fun h' dd' hs => h _ ?_
    obtain ⟨q, es, ep, hq, h2, h3, h4, _, h5⟩ := dd'
    refine d_write I (by rw [e]; exact True.intro) hs ⟨q, hq⟩ ⟨hl, hd, _, (rel.put k eb rv).keeps fun c ys ec => ?_, q, es, ep, hq, h2, h3, h4, h5⟩
    rw [upd_ne (ne_of ec e (fun z => nomatch z))]
    exact ec
def hPut (r : Nat) (i v : D) (h : Hm) : Option Hm := match h.get r with
  | some (.dK kvs) => match keyD i with
    | some k => match small kvs.length with
      | true => some (h.put r (.dK (putD k v kvs)))
      | false => none
    | none => none
  | some (.dT kvs) => match keyT i with
    | some k => match small kvs.length with
      | true => some (h.put r (.dT (putD k v kvs)))
      | false => none
    | none => none
  | _ => none
theorem hPut_ok {Z : Cz} {ρ : Nat → Addr} {h h' : Hm} {H : Hp} {r : Nat} {i d : D} {vi v : V} (rep : Rep Z ρ h H) (hi : r < h.n) (ri : RV Z ρ h.n H i vi) (rv : RV Z ρ h.n H d v) (e : hPut r i d h = some h') :
    ∃ H', DPut H (ρ r) vi v H' ∧ Ext ρ h.n H ρ h'.n H' ∧ Rep Z ρ h' H' ∧ h'.n = h.n := by
  unfold hPut at e
  split at e
  · rename_i kvs e1
    split at e <;> first | cases e | skip
    rename_i k e2
    split at e <;> first | cases e | skip
    rename_i sm
    obtain ⟨ws, a1, a2⟩ := rep.dK hi e1
    obtain ⟨ex, rp⟩ := rep.put (o := .dK (putD k d kvs)) (u := .dK (putK ws k v)) hi (fun _ _ z => by rw [a1] at z; cases z) fun ex => ⟨_, upd_same, putD_ok (rv.mono rep ex) (a2.mono rep ex)⟩
    refine ⟨_, ?_, ex, rp, rfl⟩
    rw [keyD_ok ri e2]
    exact DPut.k a1 (by rw [← RKs.length a2]; exact small_lt sm)
  · rename_i kvs e1
    split at e <;> first | cases e | skip
    rename_i k e2
    split at e <;> first | cases e | skip
    rename_i sm
    obtain ⟨ws, a1, a2⟩ := rep.dT hi e1
    obtain ⟨b, eb, hb⟩ := keyT_ok ri e2
    obtain ⟨ex, rp⟩ := rep.put (o := .dT (putD k d kvs)) (u := .dT (putK ws k v)) hi (fun _ _ z => by rw [a1] at z; cases z) fun ex => ⟨_, upd_same, putD_ok (rv.mono rep ex) (a2.mono rep ex)⟩
    refine ⟨_, ?_, ex, rp, rfl⟩
    rw [eb]
    exact DPut.t a1 hb (by rw [← RKs.length a2]; exact small_lt sm)
  · cases e
/-- the innermost walk -/
def dcGo (i : Nat) (src : Src) (g : MG) (mk mv : ME) (σ : Loc) : Nat → Nat → Hm → R Unit
  | 0, _, _ => .bad
  | f + 1, k, h => match src k h with
    | .stop => .ok () h
    | .bad => .bad
    | .item d => match g d σ with
      | none => .bad
      | some σ1 => match mk σ1 h with
        | .ok kd h2 => match mv σ1 h2 with
          | .ok y h3 => match hPut i kd y h3 with
            | some h4 => dcGo i src g mk mv σ f (k + 1) h4
            | none => .bad
          | _ => .bad
        | _ => .bad
section
variable {Z : Cz}
variable {Y : Cx} {ex kx vx t1 : Expr} {dep : Nat} {p pp : Pos} {it D : Addr} {J : It} {fp : List Addr} {tn : Nat → Heap → Prop} {pins : List (Addr × Obj)} {R : Result → Shared → Prop} {is1 : List Nat} {g1 : MG} {mk mv : ME} {τ1 : L2.St} {σ1 : Loc}
theorem dc_in (hx : Y.xe = fun _ _ => False) (hc : Y.calm = true) (hu : Y.A.units + 1 < cLine) (hA : Y.A.under (.compLoop ex dep (.ref it) (.ref D) Y.env) = Y.A) (hDn : (model Y.prog Y.w).den (.compLoop ex dep (.ref it) (.ref D) Y.env) = ((compTurn ex dep (.ref it) (.ref D) Y.env).onRaise fun x => do noteFrame x Y.env; theTreesLotGoes x))
    (T : Turn Y.prog Y.w Y.K t1 J fp it tn)
    (hT : compTurn ex dep (.ref it) (.ref D) Y.env = clTurn p t1 [] (.ref it) Y.env (do
      (do
        let kv ← eval kx Y.env
        let vv ← holding [kv] (eval vx Y.env)
        standAt pp
        holding [kv, vv] (dictSet D kv vv))
      again (.compLoop ex dep (.ref it) (.ref D) Y.env)) (again (.compLoop ex dep (.ref it) (.ref D) Y.env)))
    (pg : PG Y t1 (gM Z is1 g1)) (pk : PE Y kx (tE Z noE mk)) (pv : PE Y vx (tE Z noE mv)) (f0 : ∀ b ∈ fp, ∀ H : Hp, H b = none → FpOk Y pins H b)
    {ρ1 : Nat → Addr} {h1 h2 : Hm} {H1 : Hp} {src : Src} {i fuel : Nat} {s0 : Shared} (j : JOk Z ρ1 h1.n H1 src J) (rep1 : Rep Z ρ1 h1 H1) (rs1 : RS Z ρ1 h1.n H1 σ1 τ1) (hi : i < h1.n) (hD : ρ1 i = D) (no : ∀ j ∈ is1, ∀ v, τ1[j]? ≠ some (some v))
    (q0 : dcGo i src g1 mk mv σ1 fuel 0 h1 = .ok () h2) (post : ∀ ρ2 H2 s, Ext ρ1 h1.n H1 ρ2 h2.n H2 → Rep Z ρ2 h2 H2 → Inv Y pins τ1 H2 s → R (.ok .next) s)
    (I0 : Inv Y pins τ1 H1 s0) (st0 : tn 0 s0.heap) (n0 : ∀ b ∈ fp, H1 b = none) : codeAny (model Y.prog Y.w) Y.A (.compLoop ex dep (.ref it) (.ref D) Y.env) R s0 := by
  refine clause (g := gM Z is1 g1) (tt := L2.tYes) hx hc hA hDn T hT pg pts_nil f0
    (fun k m H => ∃ ρ h, Ext ρ1 h1.n H1 ρ h.n H ∧ Rep Z ρ h H ∧ dcGo i src g1 mk mv σ1 m k h = .ok () h2)
    (fun k m τ2 H => ∃ ρ h σ2 f, m = f + 1 ∧ Ext ρ1 h1.n H1 ρ h.n H ∧ Rep Z ρ h H ∧ RS Z ρ h.n H σ2 τ2 ∧ (match mk σ2 h with
      | .ok kd h3 => match mv σ2 h3 with
        | .ok y h4 => match hPut i kd y h4 with
          | some h5 => dcGo i src g1 mk mv σ1 f (k + 1) h5
          | none => .bad
        | _ => .bad
      | _ => .bad) = .ok () h2) ?_ ?_ (m0 := fuel) ⟨ρ1, h1, Ext.refl, rep1, q0⟩ I0 st0 n0
  · rintro k m H ⟨ρ, h, e, rep, q⟩
    cases m with
    | zero => cases q
    | succ f =>
      have jk := j ρ h H e rep k
      unfold dcGo at q
      cases z : src k h with
      | bad => rw [z] at q; cases q
      | stop => rw [z] at q jk; cases q; exact .inl ⟨jk, fun s I => post ρ H s e rep I⟩
      | item d =>
        rw [z] at q jk
        refine .inr ⟨jk.1, fun x H' hy => ?_⟩
        obtain ⟨e3, rep3, rv3⟩ := jk.2 x H' hy
        have rs3 := (rs1.mono rep1 e).mono rep e3
        simp only at q
        refine ⟨ρ, h.n, d, σ1, rs3, rv3, ?_⟩
        cases z2 : g1 d σ1 with
        | none => rw [z2] at q; cases q
        | some σ2 =>
          rw [z2] at q
          intro τ2 ag rs2
          refine ⟨ag.wk no, ?_⟩
          dsimp only [L2.tYes]
          rw [if_pos rfl]
          exact ⟨ρ, h, σ2, f, rfl, e.trans e3, rep3, rs2, q⟩
  · rintro k m τ2 H pins2 s ⟨ρ, h, σ2, f, rfl, e, rep, rs2, q⟩ wk I
    have perK := pk.run _ s τ2 H (fun v H' => ∃ ρ' h' kd, RV Z ρ' h'.n H' kd v ∧ Ext ρ h.n H ρ' h'.n H' ∧ Rep Z ρ' h' H' ∧ (match mv σ2 h' with
        | .ok y h4 => match hPut i kd y h4 with
          | some h5 => dcGo i src g1 mk mv σ1 f (k + 1) h5
          | none => .bad
        | _ => .bad) = .ok () h2) I ⟨ρ, σ2, h, rep, rs2, ?_⟩
    · rw [hx] at perK
      refine wpAny_bind (wpAny_bind (thnF perK fun u s1 hh => ?_))
      obtain ⟨v, H3, I3, rv, ρ', h', kd, rkd, e3, rep3, q3⟩ := hh
      have rs3 := rs2.mono rep e3
      have perV := pv.run _ s1 τ2 H3 (fun w H' => ∃ ρ'' h'' y, RV Z ρ'' h''.n H' y w ∧ Ext ρ' h'.n H3 ρ'' h''.n H' ∧ Rep Z ρ'' h'' H' ∧ (match hPut i kd y h'' with
          | some h5 => dcGo i src g1 mk mv σ1 f (k + 1) h5
          | none => .bad) = .ok () h2) I3 ⟨ρ', σ2, h', rep3, rs3, ?_⟩
      · rw [hx] at perV
        refine wpAny_bind (wpAny_holding (thnF perV fun u2 s2 hh => ?_))
        obtain ⟨w, H4, I4, rw4, ρ4, h4, y, ry, e4, rep4, q4⟩ := hh
        cases z : hPut i kd y h4 with
        | none => rw [z] at q4; cases q4
        | some h5 =>
          rw [z] at q4
          have hi4 : i < h4.n := Nat.lt_of_lt_of_le hi ((e.trans e3).trans e4).le
          have hD4 : ρ4 i = D := (((e.trans e3).trans e4).same i hi).trans hD
          obtain ⟨H5, dp, e5, rep5, _⟩ := hPut_ok rep4 hi4 (rkd.mono rep3 e4) ry z
          rw [hD4] at dp
          refine wpAny_bind (wpAny_standAt (wpAny_holding (d_dictSetP hu I4 dp rv rw4 fun s5 I5 => ?_)))
          exact wpAny_pure ⟨rfl, f, τ2, H5, Nat.lt_succ_self _, I5, wk, ρ4, h5, ((e.trans e3).trans e4).trans e5, rep5, q4⟩
      · cases z : mv σ2 h' with
        | bad => rw [z] at q3; cases q3
        | exn c ds h'' => rw [z] at q3; cases q3
        | ok d h'' =>
          rw [z] at q3
          intro ρ'' H' b e' rep' rv'
          exact ⟨ρ'', h'', d, rv', e', rep', q3⟩
    · cases z : mk σ2 h with
      | bad => rw [z] at q; cases q
      | exn c ds h' => rw [z] at q; cases q
      | ok d h' =>
        rw [z] at q
        intro ρ' H' b e' rep' rv
        exact ⟨ρ', h', d, rv, e', rep', q⟩
end
theorem sw_trueD {kx vx : Expr} {gs : List Comprehension} {scope : Scope} {pos py : Pos} {y : Str} {l : Nat} {env : Env} (hk : env.scope.kind = .function) (hy : env.scope.names.lookup y = some .local) (hl : (py.line == pos.line) = true)
    (ha : (scope.names.any fun (n, k) => n == y && (k == .local || k == .cell)) = false) : swapsWith (.DictComp kx vx gs scope pos) (some (.Name y py)) l env = pure true := by
  have ky : env.kindOf y = some .local := hy
  have hb : env.blockKind = .function := by unfold Env.blockKind; rw [hk]; rfl
  unfold swapsWith
  simp only [hb, ky, ha, Expr.pos, hl]
  rfl
/-! the turns -/
theorem turn_d0 (kx vx t0 i0 : Expr) (scope : Scope) (pos : Pos) (it : Value) (D : Addr) (env : Env) :
    compTurn (.DictComp kx vx [⟨t0, i0, [], 0⟩] scope pos) 0 it (.ref D) env = clTurn i0.pos t0 [] it env (do
      (do
        let kv ← eval kx env
        let vv ← holding [kv] (eval vx env)
        standAt { kx.pos with endLine := vx.pos.endLine, endCol := vx.pos.endCol }
        holding [kv, vv] (dictSet D kv vv))
      again (.compLoop (.DictComp kx vx [⟨t0, i0, [], 0⟩] scope pos) 0 it (.ref D) env)) (again (.compLoop (.DictComp kx vx [⟨t0, i0, [], 0⟩] scope pos) 0 it (.ref D) env)) := by rfl
theorem turn_e0 (kx vx t0 i0 t1 i1 : Expr) (scope : Scope) (pos : Pos) (it acc : Value) (env : Env) :
    compTurn (.DictComp kx vx [⟨t0, i0, [], 0⟩, ⟨t1, i1, [], 0⟩] scope pos) 0 it acc env = clTurn i0.pos t0 [] it env (do
      let x ← eval i1 env
      standAt i1.pos
      let x ← foldedSetIterable i1 env x
      let _ ← runOwn (.compStart (.DictComp kx vx [⟨t0, i0, [], 0⟩, ⟨t1, i1, [], 0⟩] scope pos) 1 (← holding [x] (pyIter x)) acc env) env
      again (.compLoop (.DictComp kx vx [⟨t0, i0, [], 0⟩, ⟨t1, i1, [], 0⟩] scope pos) 0 it acc env)) (again (.compLoop (.DictComp kx vx [⟨t0, i0, [], 0⟩, ⟨t1, i1, [], 0⟩] scope pos) 0 it acc env)) := by rfl
theorem turn_e1 (kx vx t0 i0 t1 i1 : Expr) (scope : Scope) (pos : Pos) (it : Value) (D : Addr) (env : Env) :
    compTurn (.DictComp kx vx [⟨t0, i0, [], 0⟩, ⟨t1, i1, [], 0⟩] scope pos) 1 it (.ref D) env = clTurn i1.pos t1 [] it env (do
      (do
        let kv ← eval kx env
        let vv ← holding [kv] (eval vx env)
        standAt { kx.pos with endLine := vx.pos.endLine, endCol := vx.pos.endCol }
        holding [kv, vv] (dictSet D kv vv))
      again (.compLoop (.DictComp kx vx [⟨t0, i0, [], 0⟩, ⟨t1, i1, [], 0⟩] scope pos) 1 it (.ref D) env)) (again (.compLoop (.DictComp kx vx [⟨t0, i0, [], 0⟩, ⟨t1, i1, [], 0⟩] scope pos) 1 it (.ref D) env)) := by rfl
section
variable {prog : Program} {w : World} {A : Around} {R : Result → Shared → Prop} {s : Shared} {env : Env} {kx vx t0 i0 t1 i1 : Expr} {scope : Scope} {pos : Pos} {it acc : Value}
theorem start_e1 (h0 : codeAny (model prog w) A (.compLoop (.DictComp kx vx [⟨t0, i0, [], 0⟩, ⟨t1, i1, [], 0⟩] scope pos) 1 it acc env) R s)
    (h : wpAny (model prog w) A (pyIter it) (fun it' s' => codeAny (model prog w) A (.compLoop (.DictComp kx vx [⟨t0, i0, [], 0⟩, ⟨t1, i1, [], 0⟩] scope pos) 1 it' acc env) R s') (notedBy (model prog w) A env fun x s' => R (.error x) s') s) :
    codeAny (model prog w) A (.compStart (.DictComp kx vx [⟨t0, i0, [], 0⟩, ⟨t1, i1, [], 0⟩] scope pos) 1 it acc env) R s := by
  refine codeAny_of_tree ?_
  show wpAny _ _ ((compStart (.DictComp kx vx [⟨t0, i0, [], 0⟩, ⟨t1, i1, [], 0⟩] scope pos) 1 it acc env).onRaise (fun x => do noteFrame x env; standAt theWindowsPlace)) _ _ s
  refine wpAny_notedAt ?_
  unfold compStart
  show wpAny _ _ (ask >>= _) _ _ s
  refine wpAny_bind (wpAny_askSetting (wpAny_ite ?_))
  split
  · first
      | exact wpAny_pure ⟨rfl, h0⟩
      | exact wpAny_bind (wpAny_pure (wpAny_pure ⟨rfl, h0⟩))
  · refine wpAny_bind (wpAny_rule ?_)
    first
      | exact wpAny_bind (wpAny_standAt (wpAny_bind (wpAny_mono h (fun it' s' h' => wpAny_pure ⟨rfl, h'⟩) fun _ _ x => x)))
      | (show wpAny _ _ (standAt i1.pos >>= _) _ _ s; exact wpAny_bind (wpAny_standAt (wpAny_bind (wpAny_mono h (fun it' s' h' => wpAny_pure ⟨rfl, h'⟩) fun _ _ x => x))))
end
/-- the new dict, empty, in the heap and in the mirror -/
theorem dt_laid {P : Program} {w : World} {H : Hp} (h : Heap) (hb : sysModules < h.objs.size) : ObjOk P w H (h.push { cls := .type "dict", data := .dict #[] }) h.objs.size (.dT []) := dt_empty h hb
def mDc1 (mi0 : MI) (g0 : MG) (mk mv : ME) (vs : List Nat) : ME := fun σ h => (mi0 σ h).bind fun src h1 => match dcGo h1.n src g0 mk mv (wipeM σ vs) turnsL 0 (h1.push (.dT [])) with
  | .ok _ h2 => .ok (.ref h1.n) h2
  | _ => .bad
section
variable {X : Cx} {Z : Cz} {E : L2.St → XK} {kx vx t0 i0 t1 i1 : Expr} {scope : Scope} {own : List (Str × Nat)} {pos : Pos} {mi0 mi1 : MI} {is0 is1 : List Nat} {g0 g1 : MG} {mk mv : ME}
theorem dc1_core {pins : List (Addr × Obj)} {s : Shared} {τ : L2.St} {H : Hp} {Q : VK} {pos' : Pos} {use : Option (Value → Sem Unit)} {Qf : Value → Shared → Prop} (hc : X.calm = true) (hN : X.N.Nodup) (hu : X.A.units + 1 < cLine) (hi : PI X t0 i0 (tIM Z E mi0)) (ok : BlkOk X.N X.env.scope scope own)
    (hg0 : ∀ (s : Shared) (H : Hp) (C : Addr) (cl : List (Str × Addr)) (fp : List Addr), PG (X.blk s H scope (compEnvC scope cl C X.env) fp) t0 (gM Z is0 g0))
    (hk : ∀ (s : Shared) (H : Hp) (C : Addr) (cl : List (Str × Addr)) (fp : List Addr), PE (X.blk s H scope (compEnvC scope cl C X.env) fp) kx (tE Z noE mk))
    (hv : ∀ (s : Shared) (H : Hp) (C : Addr) (cl : List (Str × Addr)) (fp : List Addr), PE (X.blk s H scope (compEnvC scope cl C X.env) fp) vx (tE Z noE mv))
    (sub0 : ∀ j ∈ is0, j ∈ own.map (·.2))
    (hs0 : ∀ x, foldedSetIterable i0 X.env x = pure x) (I : Inv X pins τ H s) (hh : tE Z E (mDc1 mi0 g0 mk mv (own.map (·.2))) τ H Q)
    (hRR : ∀ D C s' m H', Inv X pins τ H' s' → Q (.ref D) H' → s'.heap.Ns C m → FpOk X pins H' C → compPost (model X.prog X.w) X.A X.xe use Qf (.ref D) C (.ok .next) s') :
    wpAny (model X.prog X.w) X.A (comprehension (.DictComp kx vx [⟨t0, i0, [], 0⟩] scope pos) scope X.env pos' newDict false (eval i0 X.env) use) Qf X.xe s := by
  obtain ⟨ρ, σ, h0, rep, rs, q⟩ := hh
  have hfree : ∀ y ∈ scope.names, y.2 = .free → ∃ c, X.env.cells.lookup y.1 = some c := fun y hy e => by
    rcases ok.free y hy e with k | k <;> first | exact I.ok.has _ (.inl k) | exact I.ok.has _ (.inr k)
  refine wpAny_comprehension_free (use := use) rfl hs0 (closure_ok hfree) ok.kind (fun y hy e => by rw [ok.uniq y hy, e]) (thn (hi.run pins s τ H (fun J H2 => ∃ ρ1 h1 src hE, Ext ρ h0.n H ρ1 h1.n H2 ∧ Rep Z ρ1 h1 H2 ∧ JOk Z ρ1 h1.n H2 src J ∧
    dcGo h1.n src g0 mk mv (wipeM σ (own.map (·.2))) turnsL 0 (h1.push (.dT [])) = .ok () hE ∧ Aft Z (rlV Z) ρ1 h1 H2 (.ok (.ref h1.n) hE) Q (E τ)) I ⟨ρ, σ, h0, rep, rs, Aft.bind q fun src h1 ρ1 H1 J e1 rep1 jj q1 => ?_⟩) fun xv s1 hx => thn hx fun itv s2 h2 => ?_)
  · cases z : dcGo h1.n src g0 mk mv (wipeM σ (own.map (·.2))) turnsL 0 (h1.push (.dT [])) with
    | bad => simp only [z] at q1; exact q1.elim
    | exn c ds h' => simp only [z] at q1; exact q1.elim
    | ok u hE => simp only [z] at q1; exact ⟨ρ1, h1, src, hE, e1, rep1, jj, z, q1⟩
  obtain ⟨it, fp, tn, J, H2, e, I2, T, st2, f2, ρ1, h1, src, hE, ex1, rep1, j, z0, q1⟩ := h2
  subst e
  refine wpAny_newObj_type (newEnv_comp ?_)
  generalize hD : s2.heap.objs.size = D
  have hDn : H2 D = none := I2.hok.fresh (Nat.le_of_eq hD)
  obtain ⟨ρ2, e2, rep2, eD⟩ := rep1.push (o := .dT []) (u := .dT []) hDn fun ρ' _ => ⟨[], upd_same, .nil⟩
  generalize hs3 : ({ s2 with heap := s2.heap.push { cls := .type "dict", data := .dict #[] } } : Shared) = s3
  generalize hH3 : upd H2 D (.dT []) = H3 at e2 rep2
  have I3 : Inv X pins τ H3 s3 := by
    rw [← hs3, ← hH3]
    refine I2.laid (t' := s2.toks) (fun b o y => Heap.get?_push_of_some _ y) (Nat.le_of_eq hD) ?_
    rw [← hD]
    exact dt_laid s2.heap I2.big
  have h3 : ∀ b o, s2.heap.get? b = some o → s3.heap.get? b = some o := fun b o y => by rw [← hs3]; exact Heap.get?_push_of_some _ y
  have f3 : ∀ b ∈ fp, FpOk X pins H3 b ∧ b < s3.heap.objs.size := fun b hb => by
    obtain ⟨o, eo, _⟩ := T.obj _ _ st2 b hb
    have lt : b < D := by rw [← hD]; exact Heap.lt_size eo
    refine ⟨⟨?_, (f2 b hb).2⟩, Heap.lt_size (h3 b o eo)⟩
    rw [← hH3, upd_ne (Nat.ne_of_lt lt)]
    exact (f2 b hb).1
  have st3 : tn 0 s3.heap := T.keep _ _ _ st2 fun b _ o y => h3 b o y
  have I4 := block_start I3 ok hN f3
  have rsw : RS Z ρ2 (h1.n + 1) H3 (wipeM σ (own.map (·.2))) (wipe τ (own.map (·.2))) := wipeM_rs ((rs.mono rep ex1).mono rep1 e2) (own.map (·.2))
  show codeAny _ _ (.compStart (.DictComp kx vx [⟨t0, i0, [], 0⟩] scope pos) 0 (.ref it) (.ref D) (compEnvC scope (cellsFrom (s3.heap.objs.size + 1) scope.names (cloFrom X.env.cells scope.names [])) s3.heap.objs.size X.env)) (compPost (model X.prog X.w) X.A X.xe use Qf (.ref D) s3.heap.objs.size) { s3 with heap := pushCells (s3.heap.push { cls := .type "dict", data := .dict #[] }) scope.names }
  generalize hcl : cellsFrom (s3.heap.objs.size + 1) scope.names (cloFrom X.env.cells scope.names []) = cl at I4 ⊢
  have pg0 := hg0 s3 H3 s3.heap.objs.size cl fp
  have pk := hk s3 H3 s3.heap.objs.size cl fp
  have pv := hv s3 H3 s3.heap.objs.size cl fp
  have cL : (compEnvC scope cl s3.heap.objs.size X.env).locals = s3.heap.objs.size := rfl
  generalize compEnvC scope cl s3.heap.objs.size X.env = ce at I4 pg0 pk pv cL ⊢
  generalize hs4 : ({ s3 with heap := pushCells (s3.heap.push { cls := .type "dict", data := .dict #[] }) scope.names } : Shared) = s4 at I4 ⊢
  have st4 : tn 0 s4.heap := T.keep _ _ _ st3 fun b _ o y => by rw [← hs4]; exact pushCells_keeps _ _ _ _ (Heap.get?_push_of_some _ y)
  have f4 : ∀ b ∈ fp, ∀ H' : Hp, H' b = none → FpOk (X.blk s3 H3 scope ce fp) [] H' b := fun b hb H' hn =>
    ⟨hn, (I4.ok.exf b hb).1, I4.ok.exfs b hb, .inl hb, fun x c y => (I4.ok.exf b hb).2 x c y, fun p hp => absurd hp (List.not_mem_nil)⟩
  have n4 : ∀ b ∈ fp, H3 b = none := fun b hb => (f3 b hb).1.1
  have no : ∀ jx ∈ is0, ∀ v, (wipe τ (own.map (·.2)))[jx]? ≠ some (some v) := fun jx hj v y => by
    have hm := sub0 jx hj
    by_cases hl : jx < τ.length
    · rw [wipe_in hm hl] at y; cases y
    · rw [List.getElem?_eq_none (by rw [wipe_length]; omega)] at y; cases y
  have loop : codeAny (model X.prog X.w) X.A (.compLoop (.DictComp kx vx [⟨t0, i0, [], 0⟩] scope pos) 0 (.ref it) (.ref D) ce) (compPost (model X.prog X.w) X.A X.xe use Qf (.ref D) s3.heap.objs.size) s4 := by
    refine dc_in (Y := X.blk s3 H3 scope ce fp) (i := h1.n) rfl hc hu rfl rfl T (turn_d0 kx vx t0 i0 scope pos (.ref it) D ce) pg0 pk pv f4 (fun ρ' h' H' e r k => j ρ' h' H' (e2.trans e) r k) rep2 rsw (Nat.lt_succ_self _) eD no z0 (fun ρ3 H' s6 e3 rep3 I6 => ?_) I4 st4 n4
    have I7 : Inv X pins τ H' s6 := I3.call' (ch := fp) I6.os I6.base I6.hok I6.bare fun b hb => ⟨(f3 b hb).1.2.2.2.1, (f3 b hb).1.2.1, (f3 b hb).1.2.2.2.2.1, (f3 b hb).1.2.2.2.2.2⟩
    have nC : H' s3.heap.objs.size = none := cL ▸ (show H' ce.locals = none from I6.free)
    obtain ⟨mm, hn, _⟩ := I6.loc
    have hn : s6.heap.Ns ce.locals mm := hn
    rw [cL] at hn
    have hd : ρ3 h1.n = D := (e3.same h1.n (Nat.lt_succ_self _)).trans eD
    have := q1 ρ3 H' (.ref (ρ3 h1.n)) (e2.trans e3) rep3 (.ref (Nat.lt_of_lt_of_le (Nat.lt_succ_self _) e3.le))
    rw [hd] at this
    exact hRR D _ s6 mm H' I7 this hn (I3.fpOk (Nat.le_refl _) nC)
  exact codeAny_compStart_dict loop (T.self X.A 0 _ _ _ st4 loop)
theorem s_dc1 (hc : X.calm = true) (hN : X.N.Nodup) (hu : X.A.units + 1 < cLine) (hi : PI X t0 i0 (tIM Z E mi0)) (ok : BlkOk X.N X.env.scope scope own)
    (hg0 : ∀ (s : Shared) (H : Hp) (C : Addr) (cl : List (Str × Addr)) (fp : List Addr), PG (X.blk s H scope (compEnvC scope cl C X.env) fp) t0 (gM Z is0 g0))
    (hk : ∀ (s : Shared) (H : Hp) (C : Addr) (cl : List (Str × Addr)) (fp : List Addr), PE (X.blk s H scope (compEnvC scope cl C X.env) fp) kx (tE Z noE mk))
    (hv : ∀ (s : Shared) (H : Hp) (C : Addr) (cl : List (Str × Addr)) (fp : List Addr), PE (X.blk s H scope (compEnvC scope cl C X.env) fp) vx (tE Z noE mv))
    (sub0 : ∀ j ∈ is0, j ∈ own.map (·.2) := by decide)
    (hs0 : ∀ x, foldedSetIterable i0 X.env x = pure x := by intro _; rfl) :
    PE X (.DictComp kx vx [⟨t0, i0, [], 0⟩] scope pos) (tE Z E (mDc1 mi0 g0 mk mv (own.map (·.2)))) := by
  refine ⟨fun pins s τ H Q I hh => ?_⟩
  rw [arm_eval_DictComp]
  refine dc1_core hc hN hu hi ok hg0 hk hv sub0 hs0 I hh fun D C s' m H' I' q hn f => ⟨m, hn, fun h'' sb => ?_⟩
  obtain ⟨f0, f1, f2, f3, f4, f5⟩ := f
  exact ⟨.ref D, H', I'.turned (t' := s'.toks) (fun b o hb e => (sb.2 b hb).trans e) f0 f1 f3 f4 f5, rfl, q⟩
theorem s_setDdc1 {i : Nat} {y : Str} {py spos : Pos} {E0 : XK} (hy : X.N[i]? = some y) (hyl : X.env.scope.names.lookup y = some .local) (hsw : swapsWith (.DictComp kx vx [⟨t0, i0, [], 0⟩] scope pos) (some (.Name y py)) spos.line X.env = pure true) (hc : X.calm = true) (hN : X.N.Nodup) (hu : X.A.units + 1 < cLine) (hi : PI X t0 i0 (tIM Z (fun _ => E0) mi0)) (ok : BlkOk X.N X.env.scope scope own)
    (hg0 : ∀ (s : Shared) (H : Hp) (C : Addr) (cl : List (Str × Addr)) (fp : List Addr), PG (X.blk s H scope (compEnvC scope cl C X.env) fp) t0 (gM Z is0 g0))
    (hk : ∀ (s : Shared) (H : Hp) (C : Addr) (cl : List (Str × Addr)) (fp : List Addr), PE (X.blk s H scope (compEnvC scope cl C X.env) fp) kx (tE Z noE mk))
    (hv : ∀ (s : Shared) (H : Hp) (C : Addr) (cl : List (Str × Addr)) (fp : List Addr), PE (X.blk s H scope (compEnvC scope cl C X.env) fp) vx (tE Z noE mv))
    (sub0 : ∀ j ∈ is0, j ∈ own.map (·.2) := by decide)
    (hs0 : ∀ x, foldedSetIterable i0 X.env x = pure x := by intro _; rfl) :
    PS X (.Assign [.Name y py] (.DictComp kx vx [⟨t0, i0, [], 0⟩] scope pos) spos) (tS Z (fun _ => E0) (msAsg (mDc1 mi0 g0 mk mv (own.map (·.2))) (gmName i))) := by
  refine ⟨fun pins s τ H D I h => ?_⟩
  rw [exec_Assign_Name_used _ _ _ _ hsw]
  refine wpAny_bind (wpAny_standAt (wpAny_bind ?_))
  show wpAny _ X.A (do let _ ← comprehension (.DictComp kx vx [⟨t0, i0, [], 0⟩] scope pos) scope X.env (firstIterPos [⟨t0, i0, [], 0⟩] pos) newDict false (eval i0 X.env) (some (assign (.Name y py) X.env))) _ _ s
  have h : tE Z (fun _ => E0) (mDc1 mi0 g0 mk mv (own.map (·.2))) τ H (fun x H1 => D.nx (τ.set i (some x)) H1) := by
    obtain ⟨ρ, σ, h0, rep, rs, q⟩ := h
    refine ⟨ρ, σ, h0, rep, rs, AftS.bind q fun d h1 ρ1 H1 v e1 rep1 rv q1 => ?_⟩
    exact q1 ρ1 H1 _ Ext.refl rep1 ((rs.mono rep e1).setR rv)
  refine wpAny_bind (thn (dc1_core (Qf := fun _ s' => SP X pins D .next s') hc hN hu hi ok hg0 hk hv sub0 hs0 I h fun L C s' m H' I' q hn f => ?_) fun _ s' hq => wpAny_pure (wpAny_pure hq))
  show wpAny _ _ (assign (.Name y py) X.env (.ref L)) _ _ _
  refine wpAny_assign_Name (store_ok2 (v := V.ref L) I' hN hy (.inl hyl) rfl (fun s2 I2 ⟨a, sb, ha⟩ => ?_) (.inr hyl))
  obtain ⟨f0, f1, f2, f3, f4, f5⟩ := f
  have haC : C ≠ a := by
    rcases ha with z | z
    · rw [z]; exact f1
    · exact fun e => f4 y a z e.symm
  refine ⟨m, hn.sameBut sb haC, fun h3 sb3 => ?_⟩
  exact ⟨_, H', I2.turned (t' := s2.toks) (fun b o hb e => (sb3.2 b hb).trans e) f0 f1 f3 f4 f5, q⟩
def dc2Go (i : Nat) (src : Src) (g0 : MG) (mi1 : MI) (g1 : MG) (mk mv : ME) (σ : Loc) : Nat → Nat → Hm → Option Hm
  | 0, _, _ => none
  | f + 1, k, h => match src k h with
    | .stop => some h
    | .bad => none
    | .item d => match g0 d σ with
      | none => none
      | some σ1 => match mi1 σ1 h with
        | .ok src1 h1 => match dcGo i src1 g1 mk mv σ1 turnsL 0 h1 with
          | .ok _ h2 => dc2Go i src g0 mi1 g1 mk mv σ f (k + 1) h2
          | _ => none
        | _ => none
def mDc2 (mi0 : MI) (g0 : MG) (mi1 : MI) (g1 : MG) (mk mv : ME) (vs : List Nat) : ME := fun σ h => (mi0 σ h).bind fun src h1 => match dc2Go h1.n src g0 mi1 g1 mk mv (wipeM σ vs) turnsL 0 (h1.push (.dT [])) with
  | some h2 => .ok (.ref h1.n) h2
  | none => .bad
theorem dc2_core {pins : List (Addr × Obj)} {s : Shared} {τ : L2.St} {H : Hp} {Q : VK} {pos' : Pos} {use : Option (Value → Sem Unit)} {Qf : Value → Shared → Prop} (hc : X.calm = true) (hN : X.N.Nodup) (hu : X.A.units + 1 < cLine) (hi : PI X t0 i0 (tIM Z E mi0)) (ok : BlkOk X.N X.env.scope scope own)
    (hg0 : ∀ (s : Shared) (H : Hp) (C : Addr) (cl : List (Str × Addr)) (fp : List Addr), PG (X.blk s H scope (compEnvC scope cl C X.env) fp) t0 (gM Z is0 g0))
    (hi1 : ∀ (s : Shared) (H : Hp) (C : Addr) (cl : List (Str × Addr)) (fp : List Addr), PI (X.blk s H scope (compEnvC scope cl C X.env) fp) t1 i1 (tIM Z noE mi1))
    (hg1 : ∀ (s : Shared) (H : Hp) (C : Addr) (cl : List (Str × Addr)) (fp : List Addr), PG (X.blk s H scope (compEnvC scope cl C X.env) fp) t1 (gM Z is1 g1))
    (hk : ∀ (s : Shared) (H : Hp) (C : Addr) (cl : List (Str × Addr)) (fp : List Addr), PE (X.blk s H scope (compEnvC scope cl C X.env) fp) kx (tE Z noE mk))
    (hv : ∀ (s : Shared) (H : Hp) (C : Addr) (cl : List (Str × Addr)) (fp : List Addr), PE (X.blk s H scope (compEnvC scope cl C X.env) fp) vx (tE Z noE mv))
    (sub0 : ∀ j ∈ is0, j ∈ own.map (·.2)) (sub1 : ∀ j ∈ is1, j ∈ own.map (·.2)) (dis : ∀ j ∈ is1, j ∉ is0)
    (hs0 : ∀ x, foldedSetIterable i0 X.env x = pure x) (hs1 : ∀ env x, foldedSetIterable i1 env x = pure x) (I : Inv X pins τ H s) (hh : tE Z E (mDc2 mi0 g0 mi1 g1 mk mv (own.map (·.2))) τ H Q)
    (hRR : ∀ D C s' m H', Inv X pins τ H' s' → Q (.ref D) H' → s'.heap.Ns C m → FpOk X pins H' C → compPost (model X.prog X.w) X.A X.xe use Qf (.ref D) C (.ok .next) s') :
    wpAny (model X.prog X.w) X.A (comprehension (.DictComp kx vx [⟨t0, i0, [], 0⟩, ⟨t1, i1, [], 0⟩] scope pos) scope X.env pos' newDict false (eval i0 X.env) use) Qf X.xe s := by
  obtain ⟨ρ, σ, h0, rep, rs, q⟩ := hh
  have hfree : ∀ y ∈ scope.names, y.2 = .free → ∃ c, X.env.cells.lookup y.1 = some c := fun y hy e => by
    rcases ok.free y hy e with k | k <;> first | exact I.ok.has _ (.inl k) | exact I.ok.has _ (.inr k)
  refine wpAny_comprehension_free (use := use) rfl hs0 (closure_ok hfree) ok.kind (fun y hy e => by rw [ok.uniq y hy, e]) (thn (hi.run pins s τ H (fun J H2 => ∃ ρ1 h1 src hE, Ext ρ h0.n H ρ1 h1.n H2 ∧ Rep Z ρ1 h1 H2 ∧ JOk Z ρ1 h1.n H2 src J ∧
    dc2Go h1.n src g0 mi1 g1 mk mv (wipeM σ (own.map (·.2))) turnsL 0 (h1.push (.dT [])) = some hE ∧ Aft Z (rlV Z) ρ1 h1 H2 (.ok (.ref h1.n) hE) Q (E τ)) I ⟨ρ, σ, h0, rep, rs, Aft.bind q fun src h1 ρ1 H1 J e1 rep1 jj q1 => ?_⟩) fun xv s1 hx => thn hx fun itv s2 h2 => ?_)
  · cases z : dc2Go h1.n src g0 mi1 g1 mk mv (wipeM σ (own.map (·.2))) turnsL 0 (h1.push (.dT [])) with
    | none => simp only [z] at q1; exact q1.elim
    | some hE => simp only [z] at q1; exact ⟨ρ1, h1, src, hE, e1, rep1, jj, z, q1⟩
  obtain ⟨it, fp, tn, J, H2, e, I2, T, st2, f2, ρ1, h1, src, hE, ex1, rep1, j, z0, q1⟩ := h2
  subst e
  refine wpAny_newObj_type (newEnv_comp ?_)
  generalize hD : s2.heap.objs.size = D
  have hDn : H2 D = none := I2.hok.fresh (Nat.le_of_eq hD)
  obtain ⟨ρ2, e2, rep2, eD⟩ := rep1.push (o := .dT []) (u := .dT []) hDn fun ρ' _ => ⟨[], upd_same, .nil⟩
  generalize hs3 : ({ s2 with heap := s2.heap.push { cls := .type "dict", data := .dict #[] } } : Shared) = s3
  generalize hH3 : upd H2 D (.dT []) = H3 at e2 rep2
  have I3 : Inv X pins τ H3 s3 := by
    rw [← hs3, ← hH3]
    refine I2.laid (t' := s2.toks) (fun b o y => Heap.get?_push_of_some _ y) (Nat.le_of_eq hD) ?_
    rw [← hD]
    exact dt_laid s2.heap I2.big
  have h3 : ∀ b o, s2.heap.get? b = some o → s3.heap.get? b = some o := fun b o y => by rw [← hs3]; exact Heap.get?_push_of_some _ y
  have f3 : ∀ b ∈ fp, FpOk X pins H3 b ∧ b < s3.heap.objs.size := fun b hb => by
    obtain ⟨o, eo, _⟩ := T.obj _ _ st2 b hb
    have lt : b < D := by rw [← hD]; exact Heap.lt_size eo
    refine ⟨⟨?_, (f2 b hb).2⟩, Heap.lt_size (h3 b o eo)⟩
    rw [← hH3, upd_ne (Nat.ne_of_lt lt)]
    exact (f2 b hb).1
  have st3 : tn 0 s3.heap := T.keep _ _ _ st2 fun b _ o y => h3 b o y
  have I4 := block_start I3 ok hN f3
  have rsw : RS Z ρ2 (h1.n + 1) H3 (wipeM σ (own.map (·.2))) (wipe τ (own.map (·.2))) := wipeM_rs ((rs.mono rep ex1).mono rep1 e2) (own.map (·.2))
  show codeAny _ _ (.compStart (.DictComp kx vx [⟨t0, i0, [], 0⟩, ⟨t1, i1, [], 0⟩] scope pos) 0 (.ref it) (.ref D) (compEnvC scope (cellsFrom (s3.heap.objs.size + 1) scope.names (cloFrom X.env.cells scope.names [])) s3.heap.objs.size X.env)) (compPost (model X.prog X.w) X.A X.xe use Qf (.ref D) s3.heap.objs.size) { s3 with heap := pushCells (s3.heap.push { cls := .type "dict", data := .dict #[] }) scope.names }
  generalize hcl : cellsFrom (s3.heap.objs.size + 1) scope.names (cloFrom X.env.cells scope.names []) = cl at I4 ⊢
  have pg0 := hg0 s3 H3 s3.heap.objs.size cl fp
  have pi1 := hi1 s3 H3 s3.heap.objs.size cl fp
  have pg1 := hg1 s3 H3 s3.heap.objs.size cl fp
  have pk := hk s3 H3 s3.heap.objs.size cl fp
  have pv := hv s3 H3 s3.heap.objs.size cl fp
  have cL : (compEnvC scope cl s3.heap.objs.size X.env).locals = s3.heap.objs.size := rfl
  generalize compEnvC scope cl s3.heap.objs.size X.env = ce at I4 pg0 pi1 pg1 pk pv cL ⊢
  generalize hs4 : ({ s3 with heap := pushCells (s3.heap.push { cls := .type "dict", data := .dict #[] }) scope.names } : Shared) = s4 at I4 ⊢
  have st4 : tn 0 s4.heap := T.keep _ _ _ st3 fun b _ o y => by rw [← hs4]; exact pushCells_keeps _ _ _ _ (Heap.get?_push_of_some _ y)
  have f4 : ∀ b ∈ fp, ∀ H' : Hp, H' b = none → FpOk (X.blk s3 H3 scope ce fp) [] H' b := fun b hb H' hn =>
    ⟨hn, (I4.ok.exf b hb).1, I4.ok.exfs b hb, .inl hb, fun x c y => (I4.ok.exf b hb).2 x c y, fun p hp => absurd hp (List.not_mem_nil)⟩
  have n4 : ∀ b ∈ fp, H3 b = none := fun b hb => (f3 b hb).1.1
  have loop : codeAny (model X.prog X.w) X.A (.compLoop (.DictComp kx vx [⟨t0, i0, [], 0⟩, ⟨t1, i1, [], 0⟩] scope pos) 0 (.ref it) (.ref D) ce) (compPost (model X.prog X.w) X.A X.xe use Qf (.ref D) s3.heap.objs.size) s4 := by
    refine clause (Y := X.blk s3 H3 scope ce fp) (g := gM Z is0 g0) (tt := L2.tYes) rfl hc rfl rfl T (turn_e0 kx vx t0 i0 t1 i1 scope pos (.ref it) (.ref D) ce) pg0 pts_nil f4
      (fun k m H' => ∃ ρ3 h3, Ext ρ2 (h1.n + 1) H3 ρ3 h3.n H' ∧ Rep Z ρ3 h3 H' ∧ dc2Go h1.n src g0 mi1 g1 mk mv (wipeM σ (own.map (·.2))) m k h3 = some hE)
      (fun k m τ2 H' => ∃ ρ3 h3 σ2 f, m = f + 1 ∧ Ext ρ2 (h1.n + 1) H3 ρ3 h3.n H' ∧ Rep Z ρ3 h3 H' ∧ RS Z ρ3 h3.n H' σ2 τ2 ∧ Ag is0 (wipe τ (own.map (·.2))) τ2 ∧ (match mi1 σ2 h3 with
        | .ok src1 h4 => match dcGo h1.n src1 g1 mk mv σ2 turnsL 0 h4 with
          | .ok _ h5 => dc2Go h1.n src g0 mi1 g1 mk mv (wipeM σ (own.map (·.2))) f (k + 1) h5
          | _ => none
        | _ => none) = some hE) ?_ ?_ (m0 := turnsL) ⟨ρ2, h1.push (.dT []), Ext.refl, rep2, z0⟩ I4 st4 n4
    · rintro k m H' ⟨ρ3, h3', e3, rep3, q3⟩
      cases m with
      | zero => cases q3
      | succ f =>
        have jk := j ρ3 h3' H' (e2.trans e3) rep3 k
        unfold dc2Go at q3
        cases z : src k h3' with
        | bad => rw [z] at q3; cases q3
        | stop =>
          rw [z] at q3 jk
          cases q3
          refine .inl ⟨jk, fun s6 I6 => ?_⟩
          have I7 : Inv X pins τ H' s6 := I3.call' (ch := fp) I6.os I6.base I6.hok I6.bare fun b hb => ⟨(f3 b hb).1.2.2.2.1, (f3 b hb).1.2.1, (f3 b hb).1.2.2.2.2.1, (f3 b hb).1.2.2.2.2.2⟩
          have nC : H' s3.heap.objs.size = none := cL ▸ (show H' ce.locals = none from I6.free)
          obtain ⟨mm, hn, _⟩ := I6.loc
          have hn : s6.heap.Ns ce.locals mm := hn
          rw [cL] at hn
          have hd : ρ3 h1.n = D := (e3.same h1.n (Nat.lt_succ_self _)).trans eD
          have := q1 ρ3 H' (.ref (ρ3 h1.n)) (e2.trans e3) rep3 (.ref (Nat.lt_of_lt_of_le (Nat.lt_succ_self _) e3.le))
          rw [hd] at this
          exact hRR D _ s6 mm H' I7 this hn (I3.fpOk (Nat.le_refl _) nC)
        | item d =>
          rw [z] at q3 jk
          refine .inr ⟨jk.1, fun x H5 hy => ?_⟩
          obtain ⟨e5, rep5, rv5⟩ := jk.2 x H5 hy
          have rs5 := (rsw.mono rep2 e3).mono rep3 e5
          simp only at q3
          refine ⟨ρ3, h3'.n, d, wipeM σ (own.map (·.2)), rs5, rv5, ?_⟩
          cases z2 : g0 d (wipeM σ (own.map (·.2))) with
          | none => rw [z2] at q3; cases q3
          | some σ2 =>
            rw [z2] at q3
            intro τ2 ag rs2
            refine ⟨ag.wk fun jx hj v y => ?_, ?_⟩
            · have hm := sub0 jx hj
              by_cases hl : jx < τ.length
              · rw [wipe_in hm hl] at y; cases y
              · rw [List.getElem?_eq_none (by rw [wipe_length]; omega)] at y; cases y
            · dsimp only [L2.tYes]
              rw [if_pos rfl]
              exact ⟨ρ3, h3', σ2, f, rfl, e3.trans e5, rep5, rs2, ag, q3⟩
    · rintro k m τ2 H' pins2 s9 ⟨ρ3, h3', σ2, f, rfl, e3, rep3, rs2, ag, q3⟩ wk I9
      have per := pi1.run _ s9 τ2 H' (fun J1 H11 => ∃ ρ4 h4 src1 h5, Ext ρ3 h3'.n H' ρ4 h4.n H11 ∧ Rep Z ρ4 h4 H11 ∧ JOk Z ρ4 h4.n H11 src1 J1 ∧ dcGo h1.n src1 g1 mk mv σ2 turnsL 0 h4 = .ok () h5 ∧
        dc2Go h1.n src g0 mi1 g1 mk mv (wipeM σ (own.map (·.2))) f (k + 1) h5 = some hE) I9 ⟨ρ3, σ2, h3', rep3, rs2, ?_⟩
      · refine wpAny_bind (thnF per fun xv s10 hx => ?_)
        refine wpAny_bind (wpAny_standAt (wpAny_bind (wpAny_of_eq (hs1 ce xv) (wpAny_bind (wpAny_holding (thnF hx fun itv s11 h11 => ?_))))))
        obtain ⟨it1, fp1, tn1, J1, H11, ei, I11, T1, st11, f11, ρ4, h4, src1, h5, e4, rep4, j1, qs, q5⟩ := h11
        subst ei
        refine wpAny_bind (wpAny_runOwn ?_)
        rw [Around.mark_none]
        have no : ∀ jx ∈ is1, ∀ v, τ2[jx]? ≠ some (some v) := fun jx hj v y => by
          rw [ag.2 jx (dis jx hj)] at y
          have hm := sub1 jx hj
          by_cases hl : jx < τ.length
          · rw [wipe_in hm hl] at y; cases y
          · rw [List.getElem?_eq_none (by rw [wipe_length]; omega)] at y; cases y
        have hi4 : h1.n < h4.n := Nat.lt_of_lt_of_le (Nat.lt_succ_self _) (Nat.le_trans e3.le e4.le)
        have hd4 : ρ4 h1.n = D := ((e3.trans e4).same h1.n (Nat.lt_succ_self _)).trans eD
        have loop1 : codeAny (model X.prog X.w) X.A (.compLoop (.DictComp kx vx [⟨t0, i0, [], 0⟩, ⟨t1, i1, [], 0⟩] scope pos) 1 (.ref it1) (.ref D) ce) (fun r s' => match r with
            | .ok _ => ∃ m' σ3 H5, m' < f + 1 ∧ Inv (X.blk s3 H3 scope ce fp) ([] ++ pins2) σ3 H5 s' ∧ Wk (wipe τ (own.map (·.2))) σ3 ∧ ∃ ρ3 h3, Ext ρ2 (h1.n + 1) H3 ρ3 h3.n H5 ∧ Rep Z ρ3 h3 H5 ∧ dc2Go h1.n src g0 mi1 g1 mk mv (wipeM σ (own.map (·.2))) m' (k + 1) h3 = some hE
            | .error _ => False) s11 :=
          dc_in (Y := X.blk s3 H3 scope ce fp) rfl hc hu rfl rfl T1 (turn_e1 kx vx t0 i0 t1 i1 scope pos (.ref it1) D ce) pg1 pk pv (fun b hb H' hn => ⟨hn, (f11 b hb).2⟩) j1 rep4 ((rs2.mono rep3 e4)) hi4 hd4 no qs
            (fun ρ6 H6 s6 e6 rep6 I6 => ⟨f, τ2, H6, Nat.lt_succ_self _, I6, wk, ρ6, h5, (e3.trans e4).trans e6, rep6, q5⟩) I11 st11 fun b hb => (f11 b hb).1
        refine codeAny_mono (start_e1 loop1 (T1.self X.A 0 _ _ _ st11 loop1)) fun r s' hr => ?_
        cases r with
        | error e => exact hr.elim
        | ok fl =>
          first
            | exact wpAny_pure ⟨rfl, hr⟩
            | exact wpAny_bind (wpAny_pure (wpAny_pure ⟨rfl, hr⟩))
      · cases z : mi1 σ2 h3' with
        | bad => rw [z] at q3; cases q3
        | exn c ds h' => rw [z] at q3; cases q3
        | ok src1 h4 =>
          rw [z] at q3
          intro ρ4 H11 J1 e4 rep4 jj
          simp only at q3
          cases z2 : dcGo h1.n src1 g1 mk mv σ2 turnsL 0 h4 with
          | bad => rw [z2] at q3; cases q3
          | exn c ds h' => rw [z2] at q3; cases q3
          | ok u h5 =>
            rw [z2] at q3
            exact ⟨ρ4, h4, src1, h5, e4, rep4, jj, z2, q3⟩
  exact codeAny_compStart_dict loop (T.self X.A 0 _ _ _ st4 loop)
theorem s_dc2 (hc : X.calm = true) (hN : X.N.Nodup) (hu : X.A.units + 1 < cLine) (hi : PI X t0 i0 (tIM Z E mi0)) (ok : BlkOk X.N X.env.scope scope own)
    (hg0 : ∀ (s : Shared) (H : Hp) (C : Addr) (cl : List (Str × Addr)) (fp : List Addr), PG (X.blk s H scope (compEnvC scope cl C X.env) fp) t0 (gM Z is0 g0))
    (hi1 : ∀ (s : Shared) (H : Hp) (C : Addr) (cl : List (Str × Addr)) (fp : List Addr), PI (X.blk s H scope (compEnvC scope cl C X.env) fp) t1 i1 (tIM Z noE mi1))
    (hg1 : ∀ (s : Shared) (H : Hp) (C : Addr) (cl : List (Str × Addr)) (fp : List Addr), PG (X.blk s H scope (compEnvC scope cl C X.env) fp) t1 (gM Z is1 g1))
    (hk : ∀ (s : Shared) (H : Hp) (C : Addr) (cl : List (Str × Addr)) (fp : List Addr), PE (X.blk s H scope (compEnvC scope cl C X.env) fp) kx (tE Z noE mk))
    (hv : ∀ (s : Shared) (H : Hp) (C : Addr) (cl : List (Str × Addr)) (fp : List Addr), PE (X.blk s H scope (compEnvC scope cl C X.env) fp) vx (tE Z noE mv))
    (sub0 : ∀ j ∈ is0, j ∈ own.map (·.2) := by decide) (sub1 : ∀ j ∈ is1, j ∈ own.map (·.2) := by decide) (dis : ∀ j ∈ is1, j ∉ is0 := by decide)
    (hs0 : ∀ x, foldedSetIterable i0 X.env x = pure x := by intro _; rfl) (hs1 : ∀ env x, foldedSetIterable i1 env x = pure x := by intro _ _; rfl) :
    PE X (.DictComp kx vx [⟨t0, i0, [], 0⟩, ⟨t1, i1, [], 0⟩] scope pos) (tE Z E (mDc2 mi0 g0 mi1 g1 mk mv (own.map (·.2)))) := by
  refine ⟨fun pins s τ H Q I hh => ?_⟩
  rw [arm_eval_DictComp]
  refine dc2_core hc hN hu hi ok hg0 hi1 hg1 hk hv sub0 sub1 dis hs0 hs1 I hh fun D C s' m H' I' q hn f => ⟨m, hn, fun h'' sb => ?_⟩
  obtain ⟨f0, f1, f2, f3, f4, f5⟩ := f
  exact ⟨.ref D, H', I'.turned (t' := s'.toks) (fun b o hb e => (sb.2 b hb).trans e) f0 f1 f3 f4 f5, rfl, q⟩
theorem s_setDdc2 {i : Nat} {y : Str} {py spos : Pos} {E0 : XK} (hy : X.N[i]? = some y) (hyl : X.env.scope.names.lookup y = some .local) (hsw : swapsWith (.DictComp kx vx [⟨t0, i0, [], 0⟩, ⟨t1, i1, [], 0⟩] scope pos) (some (.Name y py)) spos.line X.env = pure true) (hc : X.calm = true) (hN : X.N.Nodup) (hu : X.A.units + 1 < cLine) (hi : PI X t0 i0 (tIM Z (fun _ => E0) mi0)) (ok : BlkOk X.N X.env.scope scope own)
    (hg0 : ∀ (s : Shared) (H : Hp) (C : Addr) (cl : List (Str × Addr)) (fp : List Addr), PG (X.blk s H scope (compEnvC scope cl C X.env) fp) t0 (gM Z is0 g0))
    (hi1 : ∀ (s : Shared) (H : Hp) (C : Addr) (cl : List (Str × Addr)) (fp : List Addr), PI (X.blk s H scope (compEnvC scope cl C X.env) fp) t1 i1 (tIM Z noE mi1))
    (hg1 : ∀ (s : Shared) (H : Hp) (C : Addr) (cl : List (Str × Addr)) (fp : List Addr), PG (X.blk s H scope (compEnvC scope cl C X.env) fp) t1 (gM Z is1 g1))
    (hk : ∀ (s : Shared) (H : Hp) (C : Addr) (cl : List (Str × Addr)) (fp : List Addr), PE (X.blk s H scope (compEnvC scope cl C X.env) fp) kx (tE Z noE mk))
    (hv : ∀ (s : Shared) (H : Hp) (C : Addr) (cl : List (Str × Addr)) (fp : List Addr), PE (X.blk s H scope (compEnvC scope cl C X.env) fp) vx (tE Z noE mv))
    (sub0 : ∀ j ∈ is0, j ∈ own.map (·.2) := by decide) (sub1 : ∀ j ∈ is1, j ∈ own.map (·.2) := by decide) (dis : ∀ j ∈ is1, j ∉ is0 := by decide)
    (hs0 : ∀ x, foldedSetIterable i0 X.env x = pure x := by intro _; rfl) (hs1 : ∀ env x, foldedSetIterable i1 env x = pure x := by intro _ _; rfl) :
    PS X (.Assign [.Name y py] (.DictComp kx vx [⟨t0, i0, [], 0⟩, ⟨t1, i1, [], 0⟩] scope pos) spos) (tS Z (fun _ => E0) (msAsg (mDc2 mi0 g0 mi1 g1 mk mv (own.map (·.2))) (gmName i))) := by
  refine ⟨fun pins s τ H D I h => ?_⟩
  rw [exec_Assign_Name_used _ _ _ _ hsw]
  refine wpAny_bind (wpAny_standAt (wpAny_bind ?_))
  show wpAny _ X.A (do let _ ← comprehension (.DictComp kx vx [⟨t0, i0, [], 0⟩, ⟨t1, i1, [], 0⟩] scope pos) scope X.env (firstIterPos [⟨t0, i0, [], 0⟩, ⟨t1, i1, [], 0⟩] pos) newDict false (eval i0 X.env) (some (assign (.Name y py) X.env))) _ _ s
  have h : tE Z (fun _ => E0) (mDc2 mi0 g0 mi1 g1 mk mv (own.map (·.2))) τ H (fun x H1 => D.nx (τ.set i (some x)) H1) := by
    obtain ⟨ρ, σ, h0, rep, rs, q⟩ := h
    refine ⟨ρ, σ, h0, rep, rs, AftS.bind q fun d h1 ρ1 H1 v e1 rep1 rv q1 => ?_⟩
    exact q1 ρ1 H1 _ Ext.refl rep1 ((rs.mono rep e1).setR rv)
  refine wpAny_bind (thn (dc2_core (Qf := fun _ s' => SP X pins D .next s') hc hN hu hi ok hg0 hi1 hg1 hk hv sub0 sub1 dis hs0 hs1 I h fun L C s' m H' I' q hn f => ?_) fun _ s' hq => wpAny_pure (wpAny_pure hq))
  show wpAny _ _ (assign (.Name y py) X.env (.ref L)) _ _ _
  refine wpAny_assign_Name (store_ok2 (v := V.ref L) I' hN hy (.inl hyl) rfl (fun s2 I2 ⟨a, sb, ha⟩ => ?_) (.inr hyl))
  obtain ⟨f0, f1, f2, f3, f4, f5⟩ := f
  have haC : C ≠ a := by
    rcases ha with z | z
    · rw [z]; exact f1
    · exact fun e => f4 y a z e.symm
  refine ⟨m, hn.sameBut sb haC, fun h3 sb3 => ?_⟩
  exact ⟨_, H', I2.turned (t' := s2.toks) (fun b o hb e => (sb3.2 b hb).trans e) f0 f1 f3 f4 f5, q⟩
end
end
end Sm
namespace Sm
open PySem PySem.Spec PyProof.Rows L2
noncomputable section
/-! ### bits of ints -/
def c0j (_ j : Int) : Bool := match j with
  | .ofNat _ => true
  | _ => false
theorem c0j_ok (i j : Int) (h : c0j i j = true) : 0 ≤ j := by
  cases j with
  | ofNat k => exact Int.natCast_nonneg k
  | negSucc k => cases h
def shlI (i j : Int) : Int := i * Int.ofNat (Nat.pow 2 j.toNat)
theorem pow2_eq (k : Nat) : Int.ofNat (Nat.pow 2 k) = 2 ^ k := by
  have := Int.natCast_pow 2 k
  exact this
def shrI (i j : Int) : Int := i / Int.ofNat (Nat.pow 2 j.toNat)
abbrev fShl : F2 := fI cPow fun i j => .int (shlI i j)
abbrev fShr : F2 := fI c0j fun i j => .int (shrI i j)
abbrev fAndB : F2 := fI0 fun i j => .int (Builtin.bitAnd i j)
abbrev fOrB : F2 := fI0 fun i j => .int (Builtin.bitOr i j)
section
variable {X : Cx} {Z : Cz} {E : L2.St → XK} {pos p p2 : Pos} {e tg a b c : Expr} {m : ME}
theorem s2_shl : S2 Z (rI CPow fun i j => .int (i * 2 ^ j.toNat)) fShl := s2_I cPow_ok fun _ _ _ i j => by
  show RV _ _ _ _ (.int (i * Int.ofNat (Nat.pow 2 j.toNat))) _
  rw [pow2_eq]; exact .int _
theorem s2_shr : S2 Z (rI (fun _ j => 0 ≤ j) fun i j => .int (i / 2 ^ j.toNat)) fShr := s2_I c0j_ok fun _ _ _ i j => by
  show RV _ _ _ _ (.int (i / Int.ofNat (Nat.pow 2 j.toNat))) _
  rw [pow2_eq]; exact .int _
theorem s2_andB : S2 Z (rI0 fun i j => .int (Builtin.bitAnd i j)) fAndB := s2_I0 fun _ _ _ _ _ => .int _
theorem s2_orB : S2 Z (rI0 fun i j => .int (Builtin.bitOr i j)) fOrB := s2_I0 fun _ _ _ _ _ => .int _
abbrev fMulI : F2 := fI cMul fun i j => .int (i * j)
theorem s2_mulI : S2 Z (rI CMul fun i j => .int (i * j)) fMulI := s2_I cMul_ok fun _ _ _ _ _ => .int _
def mInv (m : ME) : ME := fun σ h => (m σ h).bind fun d h1 => match d with
  | .int i => .ok (.int (Builtin.bitNot i)) h1
  | _ => .bad
theorem s_inv (pe : PE X a (tE Z E m)) : PE X (.UnaryOp .Invert a pos) (tE Z E (mInv m)) := (pe_un un_inv pe).imp fun τ H Q => by
  rintro ⟨ρ, σ, h, rep, rs, q⟩
  refine ⟨ρ, σ, h, rep, rs, Aft.bind q fun d h1 ρ1 H1 v e1 rep1 rv q1 => ?_⟩
  cases d <;> first | exact q1.elim | skip
  cases rv
  exact ⟨_, rfl, q1 ρ1 H1 _ Ext.refl rep1 (.int _)⟩
def mBits (m : ME) : ME := fun σ h => (m σ h).bind fun d h1 => match d with
  | .int i => .ok (.int (Int.ofNat (Builtin.Int.intBits i))) h1
  | _ => .bad
theorem s_bits {apos : Pos} (pe : PE X a (tE Z E m)) (hb : attributeBase a (Str.ofString "bit_length") X.env (eval a X.env) = eval a X.env := by rfl) (hl : (apos.endLine == pos.line) = true := by rfl) : PE X (.Call (.Attribute a "bit_length" apos) [] [] pos) (tE Z E (mBits m)) := (pe_bits pe hb hl).imp fun τ H Q => by
  rintro ⟨ρ, σ, h, rep, rs, q⟩
  refine ⟨ρ, σ, h, rep, rs, Aft.bind q fun d h1 ρ1 H1 v e1 rep1 rv q1 => ?_⟩
  cases d <;> first | exact q1.elim | skip
  cases rv
  exact ⟨_, rfl, q1 ρ1 H1 _ Ext.refl rep1 (.int _)⟩
/-! ### for x in reversed(list or tuple) -/
def srcRL (i n : Nat) : Src := fun k h => match Nat.blt k n with
  | true => match h.get i with
    | some (.lst xs) => match xs[n - 1 - k]? with
      | some d => .item d
      | none => .bad
    | _ => .bad
  | false => .stop
def srcRT (ds : List D) (n : Nat) : Src := fun k _ => match Nat.blt k n with
  | true => match ds[n - 1 - k]? with
    | some d => .item d
    | none => .bad
  | false => .stop
theorem blt_no {k n : Nat} (h : Nat.blt k n = false) : n ≤ k := by
  apply Nat.le_of_not_lt
  intro hlt
  have : Nat.blt k n = true := Nat.ble_eq_true_of_le hlt
  rw [this] at h; cases h
theorem jRL {ρ : Nat → Addr} {n : Nat} {H : Hp} {i l : Nat} (hi : i < n) : JOk Z ρ n H (srcRL i l) (Itv Z.K (ρ i) l) := fun ρ1 h1 H1 e r k => by
  unfold srcRL
  have hi1 : i < h1.n := Nat.lt_of_lt_of_le hi e.le
  have er : ρ1 i = ρ i := e.same i hi
  cases zb : Nat.blt k l with
  | false => exact blt_no zb
  | true =>
    simp only
    cases z : h1.get i with
    | none => trivial
    | some o =>
      cases o with
      | dK kvs => trivial
      | dT kvs => trivial
      | fK kvs => trivial
      | fT kvs => trivial
      | st kvs => trivial
      | lst xs =>
        simp only
        obtain ⟨vs, a1, a2⟩ := r.lst hi1 z
        rw [er] at a1
        cases zz : xs[l - 1 - k]? with
        | none => trivial
        | some d =>
          simp only [zz]
          obtain ⟨y, b1, b2⟩ := a2.get zz
          refine ⟨⟨Nat.le_of_ble_eq_true zb, vs, y, SqL.of a1, b1⟩, fun x H2 hy => ?_⟩
          obtain ⟨e2, hx⟩ := hy
          subst e2
          have := hx vs (SqL.of a1)
          rw [b1] at this
          cases this
          exact ⟨Ext.refl, r, b2⟩
theorem jRT {ρ : Nat → Addr} {h : Hm} {H : Hp} {a : Addr} {ds : List D} {vs : List V} {l : Nat} (rep : Rep Z ρ h H) (s : H a = some (.tup vs)) (t : RVs Z ρ h.n H ds vs) : JOk Z ρ h.n H (srcRT ds l) (RT.ItvT Z.K a l) := fun ρ1 h1 H1 e r k => by
  unfold srcRT
  have s1 := e.tup rep s
  have t1 := t.mono rep e
  cases zb : Nat.blt k l with
  | false => exact blt_no zb
  | true =>
    simp only
    cases zz : ds[l - 1 - k]? with
    | none => trivial
    | some d =>
      simp only [zz]
      obtain ⟨y, b1, b2⟩ := t1.get zz
      refine ⟨⟨Nat.le_of_ble_eq_true zb, vs, y, SqT.of s1, b1⟩, fun x H2 hy => ?_⟩
      obtain ⟨e2, hx⟩ := hy
      subst e2
      have := hx vs (SqT.of s1)
      rw [b1] at this
      cases this
      exact ⟨Ext.refl, r, b2⟩
def miRev (m : ME) : MI := fun σ h => (m σ h).bind fun d h1 => match d with
  | .ref i => match h1.get i with
    | some (.lst xs) => .ok (srcRL i xs.length) h1
    | _ => .bad
  | .tup ds => .ok (srcRT ds ds.length) h1
  | _ => .bad
theorem s_iRev (hK : X.K = Z.K) (hg : Gl X "reversed") (hm : X.mg "reversed" = none) (pe : PE X e (tE Z E m)) (hs : starEach [e] X.env = (false, eval e X.env) :: starEach [] X.env := by rfl) : PI X tg (.Call (.Name "reversed" p) [e] [] pos) (tIM Z E (miRev m)) :=
  (RT.pi_revA hg hm pe hs).imp fun τ H Q => by
    rintro ⟨ρ, σ, h, rep, rs, q⟩
    refine ⟨ρ, σ, h, rep, rs, Aft.bind q fun d h1 ρ1 H1 v e1 rep1 rv q1 => ?_⟩
    cases rv <;> first | exact q1.elim | skip
    · rename_i a ds vs s t
      refine ⟨a, vs, rfl, .inr ⟨SqT.of s, ?_⟩⟩
      have := q1 ρ1 H1 _ Ext.refl rep1 (jRT (l := ds.length) rep1 s t)
      rw [t.length] at this
      exact hK ▸ this
    · rename_i i hi
      simp only at q1
      split at q1 <;> first | exact q1.elim | skip
      rename_i xs ee
      obtain ⟨vs, a1, a2⟩ := rep1.lst hi ee
      refine ⟨ρ1 i, vs, rfl, .inl ⟨SqL.of a1, ?_⟩⟩
      have := q1 ρ1 H1 _ Ext.refl rep1 (jRL (l := xs.length) hi)
      rw [a2.length] at this
      exact hK ▸ this
/-! ### for x in range(a, b, c) -/
def srcRc (lo c : Int) (n : Nat) : Src := fun k _ => match Nat.blt k n with
  | true => .item (.int (lo + Int.ofNat k * c))
  | false => .stop
theorem jRc {ρ : Nat → Addr} {n : Nat} {H : Hp} {lo c : Int} {j : Nat} : JOk Z ρ n H (srcRc lo c j) (Itc lo c j) := fun ρ1 h1 H1 e r k => by
  unfold srcRc
  cases z : Nat.blt k j with
  | true =>
    refine ⟨Nat.le_of_ble_eq_true z, fun x H2 hy => ?_⟩
    obtain ⟨e2, hx⟩ := hy
    subst e2 hx
    exact ⟨Ext.refl, r, .int _⟩
  | false => exact blt_no z
def okRc (i j c : Int) : Bool := decide (c ≠ 0) && (Nat.blt c.natAbs 1073741824 && Builtin.Range.small i j c)
def miR3 (k : MA) : MI := fun σ h => (k σ h).bind fun ds h1 => match ds with
  | [.int i, .int j, .int c] => match okRc i j c with
    | true => match Builtin.Range.rangeSize i j c with
      | .ofNat n => .ok (srcRc i c n) h1
      | _ => .bad
    | false => .bad
  | _ => .bad
theorem s_iR3 {ka : MA} (hg : Gl X "range") (hm : X.mg "range" = none) (ha : PA X [a, b, c] (tA Z E ka)) (hs : starEach [a, b, c] X.env = (false, eval a X.env) :: starEach [b, c] X.env := by rfl) (hpl : (backTo pos (starEach [b, c] X.env)).any (·.1) = false := by rfl) :
    PI X tg (.Call (.Name "range" p) [a, b, c] [] pos) (tIM Z E (miR3 ka)) := (pi_range3 hg hm ha hs hpl).imp fun τ H Q => by
  rintro ⟨ρ, σ, h, rep, rs, q⟩
  refine ⟨ρ, σ, h, rep, rs, Aft.bind q fun d h1 ρ1 H1 v e1 rep1 rv q1 => ?_⟩
  split at q1 <;> first | exact q1.elim | skip
  rename_i i j c
  split at q1 <;> first | exact q1.elim | skip
  rename_i ho
  split at q1 <;> first | exact q1.elim | skip
  rename_i n en
  cases rv with
  | cons r1 r2 => cases r2 with
    | cons r2 r3 => cases r3 with
      | cons r3 r4 =>
        cases r1; cases r2; cases r3; cases r4
        obtain ⟨o1, o2⟩ := Bool.and_eq_true_iff.mp ho
        obtain ⟨o2, o3⟩ := Bool.and_eq_true_iff.mp o2
        exact ⟨i, j, c, _, rfl, ⟨of_decide_eq_true o1, Nat.le_of_ble_eq_true o2, o3, en⟩, q1 ρ1 H1 _ Ext.refl rep1 jRc⟩
/-! ### math.gcd -/
def fGcd : FL := fun ds h => match ds with
  | [.int a, .int b] => .ok (.int (Int.ofNat (Nat.gcd a.natAbs b.natAbs))) h
  | _ => .bad
theorem cs_gcd : CS Z rGcd fGcd := by
  intro ρ h H ds vs Q E rep rv q
  unfold fGcd at q
  split at q <;> first | exact q.elim | skip
  rename_i a b
  cases rv with
  | cons r1 r2 => cases r2 with
    | cons r2 r3 =>
      cases r1; cases r2; cases r3
      exact ⟨a, b, rfl, q ρ H _ Ext.refl rep (.int _)⟩
end
end
end Sm
namespace Sm
open PySem PySem.Spec PyProof.Rows L2
noncomputable section
section
variable {X : Cx} {Z : Cz} {E : L2.St → XK} {pos p p2 : Pos} {tg e : Expr} {m : ME}
/-! ### a value made while a dict is walked -/
def mLockE (i : Nat) (m : ME) : ME := fun σ h => match σ[i]? with
  | some (some (.ref r)) => match h.get r with
    | some (.dK kvs) => match m σ (h.put r (.fK kvs)) with
      | .ok d h2 => .ok d (h2.put r (.dK kvs))
      | _ => .bad
    | some (.dT kvs) => match m σ (h.put r (.fT kvs)) with
      | .ok d h2 => .ok d (h2.put r (.dT kvs))
      | _ => .bad
    | _ => .bad
  | _ => .bad
theorem s_lockE {i : Nat} (pe : PE X e (tE Z noE m)) : PE X e (tE Z E (mLockE i m)) := (pe_lock pe).imp fun τ H Q => by
  rintro ⟨ρ, σ, h, rep, rs, q⟩
  unfold mLockE at q
  split at q <;> first | exact q.elim | skip
  rename_i r er
  obtain ⟨v, hτ, rv⟩ := rs.2 i _ er
  cases rv; rename_i hr
  split at q <;> first | exact q.elim | skip
  · rename_i kvs ee
    obtain ⟨ws, a1, a2⟩ := rep.dK hr ee
    have nf : ∀ ob w, H (ρ r) ≠ some (.frz ob w) := fun _ _ z => by rw [a1] at z; cases z
    refine ⟨ρ r, _, a1, trivial, fun od => ?_⟩
    obtain ⟨ex, rp⟩ := rep.put (o := .fK kvs) (u := .frz od (.dK ws)) hr nf fun ex => ⟨ws, od, upd_same, a2.mono rep ex⟩
    refine ⟨ρ, σ, _, rp, rs.mono rep ex, ?_⟩
    cases z : m σ (h.put r (.fK kvs)) with
    | bad => rw [z] at q; exact q
    | exn c ds h' => rw [z] at q; exact q.elim
    | ok d h2 =>
      rw [z] at q
      intro ρ' H' b ex' rep' rvb
      obtain ⟨fz, e2, rp2, tu⟩ := unlock (o := .dK kvs) rep hr a1 (fun _ _ z => nomatch z) ex' rep' fun e2 => ⟨ws, upd_same, a2.mono rep e2⟩
      exact ⟨fz, q ρ' _ b e2 rp2 (RV.wk (Nat.le_refl _) (fun _ _ => rfl) tu rvb)⟩
  · rename_i kvs ee
    obtain ⟨ws, a1, a2⟩ := rep.dT hr ee
    have nf : ∀ ob w, H (ρ r) ≠ some (.frz ob w) := fun _ _ z => by rw [a1] at z; cases z
    refine ⟨ρ r, _, a1, trivial, fun od => ?_⟩
    obtain ⟨ex, rp⟩ := rep.put (o := .fT kvs) (u := .frz od (.dT ws)) hr nf fun ex => ⟨ws, od, upd_same, a2.mono rep ex⟩
    refine ⟨ρ, σ, _, rp, rs.mono rep ex, ?_⟩
    cases z : m σ (h.put r (.fT kvs)) with
    | bad => rw [z] at q; exact q
    | exn c ds h' => rw [z] at q; exact q.elim
    | ok d h2 =>
      rw [z] at q
      intro ρ' H' b ex' rep' rvb
      obtain ⟨fz, e2, rp2, tu⟩ := unlock (o := .dT kvs) rep hr a1 (fun _ _ z => nomatch z) ex' rep' fun e2 => ⟨ws, upd_same, a2.mono rep e2⟩
      exact ⟨fz, q ρ' _ b e2 rp2 (RV.wk (Nat.le_refl _) (fun _ _ => rfl) tu rvb)⟩
/-! a statement while a dict is walked -/
def unP (r : Nat) (o : O) (q : RT) : RT := match q with
  | .nx σ' h2 => .nx σ' (h2.put r o)
  | .bk σ' h2 => .bk σ' (h2.put r o)
  | .ct σ' h2 => .ct σ' (h2.put r o)
  | .rt d h2 => .rt d (h2.put r o)
  | _ => .bad
def mLockS (i : Nat) (m : MS) : MS := fun σ h => match σ[i]? with
  | some (some (.ref r)) => match h.get r with
    | some (.dK kvs) => unP r (.dK kvs) (m σ (h.put r (.fK kvs)))
    | some (.dT kvs) => unP r (.dT kvs) (m σ (h.put r (.fT kvs)))
    | _ => .bad
  | _ => .bad
theorem RS.tu {ρ : Nat → Addr} {n : Nat} {H H' : Hp} {σ : Loc} {τ : L2.St} (q : RS Z ρ n H σ τ) (tu : ∀ a vs, H a = some (.tup vs) → H' a = some (.tup vs)) : RS Z ρ n H' σ τ :=
  ⟨q.1, fun i d a => let ⟨v, b, c⟩ := q.2 i d a; ⟨v, b, RV.wk (Nat.le_refl _) (fun _ _ => rfl) tu c⟩⟩
theorem s_lockS {i : Nat} {st : Stmt} {m : MS} (ps : PS X st (tS Z noE m)) : PS X st (tS Z E (mLockS i m)) := (ps_lock ps).imp fun De τ H => by
  rintro ⟨ρ, σ, h, rep, rs, q⟩
  unfold mLockS at q
  split at q <;> first | exact q.elim | skip
  rename_i r er
  obtain ⟨v, hτ, rv⟩ := rs.2 i _ er
  cases rv; rename_i hr
  split at q <;> first | exact q.elim | skip
  · rename_i kvs ee
    obtain ⟨ws, a1, a2⟩ := rep.dK hr ee
    have nf : ∀ ob w, H (ρ r) ≠ some (.frz ob w) := fun _ _ z => by rw [a1] at z; cases z
    refine ⟨ρ r, _, a1, trivial, fun od => ?_⟩
    obtain ⟨ex, rp⟩ := rep.put (o := .fK kvs) (u := .frz od (.dK ws)) hr nf fun ex => ⟨ws, od, upd_same, a2.mono rep ex⟩
    refine ⟨ρ, σ, _, rp, rs.mono rep ex, ?_⟩
    have un : ∀ {ρ' : Nat → Addr} {h2 : Hm} {H' : Hp}, Ext ρ h.n (upd H (ρ r) (.frz od (.dK ws))) ρ' h2.n H' → Rep Z ρ' h2 H' → _ := fun {ρ' h2 H'} ex' rep' => unlock (o := .dK kvs) rep hr a1 (fun _ _ z => nomatch z) ex' rep' fun e2 => ⟨ws, upd_same, a2.mono rep e2⟩
    cases z : m σ (h.put r (.fK kvs)) with
    | bad => rw [z] at q; exact q
    | exn c ds h' => rw [z] at q; exact q.elim
    | nx σ2 h2 =>
      rw [z] at q
      intro ρ' H' τ2 ex' rep' rs'
      obtain ⟨fz, e2, rp2, tu⟩ := un ex' rep'
      exact ⟨fz, q ρ' _ τ2 e2 rp2 (rs'.tu tu)⟩
    | bk σ2 h2 =>
      rw [z] at q
      intro ρ' H' τ2 ex' rep' rs'
      obtain ⟨fz, e2, rp2, tu⟩ := un ex' rep'
      exact ⟨fz, q ρ' _ τ2 e2 rp2 (rs'.tu tu)⟩
    | ct σ2 h2 =>
      rw [z] at q
      intro ρ' H' τ2 ex' rep' rs'
      obtain ⟨fz, e2, rp2, tu⟩ := un ex' rep'
      exact ⟨fz, q ρ' _ τ2 e2 rp2 (rs'.tu tu)⟩
    | rt d h2 =>
      rw [z] at q
      intro ρ' H' v ex' rep' rvv
      obtain ⟨fz, e2, rp2, tu⟩ := un ex' rep'
      exact ⟨fz, q ρ' _ v e2 rp2 (RV.wk (Nat.le_refl _) (fun _ _ => rfl) tu rvv)⟩
  · rename_i kvs ee
    obtain ⟨ws, a1, a2⟩ := rep.dT hr ee
    have nf : ∀ ob w, H (ρ r) ≠ some (.frz ob w) := fun _ _ z => by rw [a1] at z; cases z
    refine ⟨ρ r, _, a1, trivial, fun od => ?_⟩
    obtain ⟨ex, rp⟩ := rep.put (o := .fT kvs) (u := .frz od (.dT ws)) hr nf fun ex => ⟨ws, od, upd_same, a2.mono rep ex⟩
    refine ⟨ρ, σ, _, rp, rs.mono rep ex, ?_⟩
    have un : ∀ {ρ' : Nat → Addr} {h2 : Hm} {H' : Hp}, Ext ρ h.n (upd H (ρ r) (.frz od (.dT ws))) ρ' h2.n H' → Rep Z ρ' h2 H' → _ := fun {ρ' h2 H'} ex' rep' => unlock (o := .dT kvs) rep hr a1 (fun _ _ z => nomatch z) ex' rep' fun e2 => ⟨ws, upd_same, a2.mono rep e2⟩
    cases z : m σ (h.put r (.fT kvs)) with
    | bad => rw [z] at q; exact q
    | exn c ds h' => rw [z] at q; exact q.elim
    | nx σ2 h2 =>
      rw [z] at q
      intro ρ' H' τ2 ex' rep' rs'
      obtain ⟨fz, e2, rp2, tu⟩ := un ex' rep'
      exact ⟨fz, q ρ' _ τ2 e2 rp2 (rs'.tu tu)⟩
    | bk σ2 h2 =>
      rw [z] at q
      intro ρ' H' τ2 ex' rep' rs'
      obtain ⟨fz, e2, rp2, tu⟩ := un ex' rep'
      exact ⟨fz, q ρ' _ τ2 e2 rp2 (rs'.tu tu)⟩
    | ct σ2 h2 =>
      rw [z] at q
      intro ρ' H' τ2 ex' rep' rs'
      obtain ⟨fz, e2, rp2, tu⟩ := un ex' rep'
      exact ⟨fz, q ρ' _ τ2 e2 rp2 (rs'.tu tu)⟩
    | rt d h2 =>
      rw [z] at q
      intro ρ' H' v ex' rep' rvv
      obtain ⟨fz, e2, rp2, tu⟩ := un ex' rep'
      exact ⟨fz, q ρ' _ v e2 rp2 (RV.wk (Nat.le_refl _) (fun _ _ => rfl) tu rvv)⟩
end
end
end Sm
namespace Sm
open PySem PySem.Spec PyProof.Rows L2
noncomputable section
/-! ### a tuple times an int -/
theorem tuple_mul1 (l : Addr) (items : Array Value) (n : Nat) (dd : Option Addr) (sl : Array (Option Value)) (u : Tok) :
    Meets (Builtin.«tuple.__mul__» ⟨[.ref l, .int 1 u], []⟩) (fun _ R s => s.heap.get? l = some { cls := .type "tuple", dict := dd, data := .seq items n, slots := sl } ∧ R (.ok (.ret (Value.ref l))) s) :=
  .of_wp fun prog w A R s h => by
    obtain ⟨hp, g, d, tk, os⟩ := s
    obtain ⟨hl, h⟩ := h
    have f1 := AutoSeq1.idx_int
    wp_walk using wpAny_loadPart' hl
    repeat (first
      | (refine wpAny_ite_false (decide_eq_false (by decide)) ?_; wp_walk using wpAny_loadPart' hl)
      | (refine wpAny_ite_true (decide_eq_true (by simp)) ?_; wp_walk using wpAny_loadPart' hl))
    exact ⟨_, rfl, h⟩
def rRepT1 (K : PySem.W.Frag) : R2 := fun x y H Q => ∃ l xs, x = .ref l ∧ y = .int 1 ∧ SqT K H l xs ∧ Q (.ref l) H
section
variable {X : Cx} {Z : Cz}
theorem op_repT1 : OpR X (binaryOp .Mult) (rRepT1 X.K) := by
  intro pins s σ H x y v u Q I rx ry h
  obtain ⟨l, xs, rfl, rfl, hT, q⟩ := h
  cases rx
  obtain ⟨t, rfl⟩ := ry
  obtain ⟨its, r, ⟨⟨cls, dd, data, sl⟩, ho, hc, n, hd⟩, hs⟩ := I.tuple hT
  simp only at hc hd
  subst hc hd
  exact wpAny_binaryOp_repeat_ref (T := "tuple") (U := "int") (by decide) ⟨_, ho, rfl⟩ (fun s' => typeIs_int s' 1 t) noFill_tuple_mul F.fills_int_mul F.slot_int_rmul repeat_tuple F.slot_int_index.lookup
    (call_meets F.slot_int_rmul (typeIs_int s 1 t) F.entry_int_rmul (F.args_int_rmul_2 _ _) (int_rmul_tuple 1 t l its.toArray n dd sl)
      ⟨ho, rfl, ⟨_, ho, rfl⟩, call_meets F.slot_tuple_mul ⟨_, ho, rfl⟩ F.entry_tuple_mul (F.args_tuple_mul_2 _ _) (tuple_mul1 l its.toArray n dd sl t) ⟨ho, ⟨.ref l, H, I, rfl, q⟩⟩⟩)
def rRepTT (K : PySem.W.Frag) : R2 := fun x y H Q => rRepT K x y H Q ∨ rRepT1 K x y H Q
theorem op_repTT : OpR X (binaryOp .Mult) (rRepTT X.K) := op_repT.or op_repT1
def fRepT : F2 := fun d e h => match d, e with
  | .tup xs, .int (.ofNat k) => match xs with
    | [] => .bad
    | _ => match k with
      | 0 => .bad
      | 1 => .ok (.tup xs) h
      | _ => match Nat.ble k 1000 && Nat.ble xs.length 1000 with
        | true => .ok (.tup (List.replicate k xs).flatten) h
        | false => .bad
  | _, _ => .bad
theorem s2_repT : S2 Z (rRepTT Z.K) fRepT := by
  intro ρ h H d e v w Q E rep rv rw q
  cases rv <;> first | exact q.elim | skip
  rename_i a xs vs hs rvs
  cases rw <;> first | exact q.elim | skip
  rename_i k
  cases k with
  | negSucc k => exact q.elim
  | ofNat k =>
    cases rvs with
    | nil => exact q.elim
    | @cons d0 v0 ds vs r1 r2 =>
      match k, q with
      | 0, q => exact q.elim
      | 1, q => exact .inr ⟨a, _, rfl, rfl, SqT.of hs, q ρ H _ Ext.refl rep (.tup hs (.cons r1 r2))⟩
      | k + 2, q =>
        have q : Aft Z (rlV Z) ρ h H (match Nat.ble (k + 2) 1000 && Nat.ble (d0 :: ds).length 1000 with
          | true => .ok (.tup (List.replicate (k + 2) (d0 :: ds)).flatten) h
          | false => .bad) Q E := q
        cases sm : Nat.ble (k + 2) 1000 && Nat.ble (d0 :: ds).length 1000 with
        | false => rw [sm] at q; exact q.elim
        | true =>
          rw [sm] at q
          obtain ⟨s1, s2⟩ := Bool.and_eq_true_iff.mp sm
          have s1 := Nat.le_of_ble_eq_true s1
          have s2 := Nat.le_of_ble_eq_true s2
          refine .inl ⟨a, Int.ofNat (k + 2), _, rfl, rfl, SqT.of hs, (by simp), ?_, ?_, ?_, fun p hp => new_tup rep (RVs.rep (.cons r1 r2) (k + 2)) q hp⟩
          · show (2 : Int) ≤ ((k + 2 : Nat) : Int); omega
          · show ((k + 2 : Nat) : Int) ≤ 1000; omega
          · have := r2.length
            simp only [List.length_cons] at s2 ⊢
            omega
def fMulT : F2 := fun d e h => match d with
  | .tup _ => fRepT d e h
  | _ => fMul d e h
theorem op_mulMT : OpR X (binaryOp .Mult) (fun x y H Q => (rI CMul (fun i j => .int (i * j)) x y H Q ∨ rRep x y H Q) ∨ rRepTT X.K x y H Q) := op_mulM.or op_repTT
theorem s2_mulT : S2 Z (fun x y H Q => (rI CMul (fun i j => .int (i * j)) x y H Q ∨ rRep x y H Q) ∨ rRepTT Z.K x y H Q) fMulT :=
  S2.or s2_mul s2_repT fun d e h => by
    cases d
    case tup => exact .inr rfl
    all_goals exact .inl rfl
end
end
end Sm
namespace Sm
open PySem PySem.Spec PyProof.Rows L2
noncomputable section
/-! ### set(a tuple of ints), len of a set -/
theorem int_nodup_len : ∀ (l D : List Int), l.Nodup → (∀ x ∈ l, x ∈ D) → l.length ≤ D.length
  | [], _, _, _ => Nat.zero_le _
  | x :: l, D, hn, hs => by
    obtain ⟨h1, h2⟩ := List.nodup_cons.mp hn
    have hx : x ∈ D := hs x List.mem_cons_self
    have ih := int_nodup_len l (D.erase x) h2 fun y hy => by
      have hne : y ≠ x := fun e => h1 (e ▸ hy)
      exact (List.mem_erase_of_ne hne).2 (hs y (List.mem_cons_of_mem _ hy))
    have e := List.length_erase_of_mem hx
    have hp : 0 < D.length := List.length_pos_of_mem hx
    rw [List.length_cons]
    omega
def setL : List Int → List Int
  | [] => []
  | x :: r => insI x (setL r)
theorem setL_mem (j : Int) : ∀ l, j ∈ setL l ↔ j ∈ l
  | [] => by simp [setL]
  | x :: r => by
    show j ∈ insI x (setL r) ↔ _
    rw [insI_mem, setL_mem j r, List.mem_cons]
theorem setL_sorted : ∀ l, (setL l).Pairwise (· < ·)
  | [] => .nil
  | x :: r => insI_sorted x _ (setL_sorted r)
theorem sorted_nodup {l : List Int} (h : l.Pairwise (· < ·)) : l.Nodup := h.imp fun {a b} z => by omega
theorem setR_card {w : World} {h : Heap} {a : Addr} {S : Int → Bool} {n : Nat} (R : SetR w h a S n) {l : List Int} (hl : l.Pairwise (· < ·)) (hm : ∀ k, S k = true ↔ k ∈ l) : n = l.length := by
  obtain ⟨o, es, ep, t, ho, ex, hd, ge, nd, me, _, _, hn, _⟩ := R
  have e1 : (es.toList.map keyOf).length = n := by rw [List.length_map, Array.length_toList]; exact hn
  have a1 := int_nodup_len _ l nd fun x hx => (hm x).mp ((me x).mpr hx)
  have a2 := int_nodup_len l _ (sorted_nodup hl) fun x hx => (me x).mp ((hm x).mpr hx)
  omega
section
variable {X : Cx} {Z : Cz}
def rSetI (K : PySem.W.Frag) (w : World) : List V → Hp → VK → Prop := fun xs H Q => ∃ (p : Addr) (ms : List Int), xs = [.ref p] ∧ SqT K H p (ms.map V.int) ∧ ms.length ≤ 1000 ∧ ∀ q (S : Int → Bool), H q = none → (∀ k, S k = true ↔ k ∈ setL ms) → Q (.ref q) (upd H q (SetO w q S (setL ms).length))
theorem cr_setI (hc : X.calm = true) : CallR X (.type "set") (rSetI X.K X.w) := by
  intro pins s σ H xs us Q I r h
  obtain ⟨p, ms, rfl, hs, hl, q⟩ := h
  rw [Vals.ref1 r]
  obtain ⟨its, rv, pl, hz⟩ := I.tuple hs
  have hi := rv.ints
  refine call_set_tupI ms (I.ok.hd hc) pl hi (by rw [show scanBound = scanBound from rfl]; have : 1001 < scanBound := by decide
                                                 omega) fun h' tk c R hc' hk => ?_
  have hm : ∀ k, (fun j => decide (j ∈ ms)) k = true ↔ k ∈ setL ms := fun k => by rw [setL_mem]; exact decide_eq_true_iff
  have hn := setR_card R (setL_sorted ms) hm
  have hq : H s.heap.objs.size = none := I.hok.fresh (Nat.le_refl _)
  rw [hn] at R
  exact ⟨.ref s.heap.objs.size, _, I.laid (a := s.heap.objs.size) (o := SetO X.w s.heap.objs.size _ (setL ms).length) (t' := tk) hk (Nat.le_refl _) (setO_new R), rfl, q _ _ hq hm⟩
def fSetI : FL := fun ds h => match ds with
  | [.tup xs] => match intsD xs with
    | some ns => match Nat.ble ns.length 1000 with
      | true => .ok (.ref h.n) (h.push (.st (setL ns)))
      | false => .bad
    | none => .bad
  | _ => .bad
theorem cs_setI : CS Z (rSetI Z.K Z.w) fSetI := by
  intro ρ h H ds vs Q E rep rv q
  unfold fSetI at q
  split at q <;> first | exact q.elim | skip
  rename_i xs
  split at q <;> first | exact q.elim | skip
  rename_i ns en
  split at q <;> first | exact q.elim | skip
  rename_i sm
  cases rv with
  | cons r1 r2 =>
    cases r2
    cases r1 with
    | @tup a _ ws st rs =>
      have ew := intsD_ok rs en
      subst ew
      refine ⟨a, ns, rfl, SqT.of st, Nat.le_of_ble_eq_true sm, fun p S hp hS => ?_⟩
      obtain ⟨ρ', e, r, hr⟩ := rep.push (o := .st (setL ns)) (u := SetO Z.w p S (setL ns).length) hp fun ρ' e => ⟨S, upd_same, hS, setL_sorted ns⟩
      have := q ρ' _ (.ref (ρ' h.n)) e r (.ref (Nat.lt_succ_self _))
      rwa [hr] at this
def rLenSt (w : World) : List V → Hp → VK → Prop := fun xs H Q => ∃ a S n, xs = [V.ref a] ∧ n ≤ 100000 ∧ H a = some (SetO w a S n) ∧ Q (.int (n : Nat)) H
theorem cr_lenSt : CallR X (.builtin "len") (rLenSt X.w) := by
  intro pins s σ H xs us Q I r h
  obtain ⟨a, S, n, rfl, hn, ha, q⟩ := h
  rw [Vals.ref1 r]
  obtain ⟨o, es, ep, t, ho, ex, hd, _, _, _, _, hf, he, _⟩ := setO_get I ha
  exact call_len_set ho ex hd hf (by rw [he]; omega) ⟨.int (n : Nat), H, I.tok _, ⟨_, by rw [he]⟩, q⟩
def fLenB : FL := fun ds h => match ds with
  | [.ref i] => match h.get i with
    | some (.st ns) => match small ns.length with
      | true => .ok (.int (Int.ofNat ns.length)) h
      | false => .bad
    | _ => fLenA ds h
  | _ => fLenA ds h
def rLenB (K : PySem.W.Frag) (w : World) : List V → Hp → VK → Prop := fun xs H Q => rLenA K xs H Q ∨ rLenSt w xs H Q
theorem cr_lenB : CallR X (.builtin "len") (rLenB X.K X.w) := CallR.or cr_lenA cr_lenSt
theorem cs_lenB : CS Z (rLenB Z.K Z.w) fLenB := by
  intro ρ h H ds vs Q E rep rv q
  unfold fLenB at q
  split at q
  · rename_i i
    split at q
    · rename_i ns ee
      split at q <;> first | exact q.elim | skip
      rename_i sm
      cases rv with
      | cons r1 r2 =>
        cases r2
        cases r1
        rename_i hi
        obtain ⟨S, a1, _, _⟩ := rep.st hi ee
        exact .inr ⟨_, S, ns.length, rfl, Nat.le_of_ble_eq_true sm, a1, q ρ H _ Ext.refl rep (.int _)⟩
    · exact .inl (cs_lenA ρ h H _ vs Q E rep rv q)
  · exact .inl (cs_lenA ρ h H ds vs Q E rep rv q)
end
end
end Sm
namespace Sm
open PySem PySem.Spec PyProof.Rows L2
noncomputable section
open Builtin Builtin.Str Builtin.Int Builtin.Float in
theorem fieldB {prog : Program} {w : World} {A : Around} {E : Value → Shared → Prop} {s : Shared} {n : Nat} {t : Tok} {Q : Value → Shared → Prop} (hl : (Nat.toDigits 2 n).length ≤ sizeLine)
    (h : Q (.str ⟨((Nat.toDigits 2 n).map Char.toNat).toArray⟩ (s.toks + 1)) { s with toks := s.toks + 1 + 1 }) : wpAny (model prog w) A (formatField (.int (Int.ofNat n) t) (Str.ofString "b")) Q E s := by
  have hp : parseFormatSpec (Str.ofString "b").cps.toList "int" 62 = .ok { align := 62, type := some 98 } := by kernel_rfl
  show wpAny _ _ (holding [.int (Int.ofNat n) t] (pyFormat (.int (Int.ofNat n) t) (Str.ofString "b"))) Q E s
  refine wpAny_holding ?_
  unfold pyFormat
  refine wpAny_bind (wpAny_mkStr ?_ (by decide))
  refine wpAny_bind (m := callSpecial? (.int (Int.ofNat n) t) (Str.ofString "__format__") [.str (Str.ofString "b") s.toks]) (wpAny_callSpecial?_slot (name := Str.ofString "__format__") (typeIs_int _ _ t) F.slot_int_format ?_)
  refine wpAny_call (codeAny_call_builtin F.slot_int_format.plain F.entry_int_format (F.slot_int_format.check _ _ _ _ _ _ _ _ (typeIs_int _ _ t) (F.args_int_format_2 _ _) ?_))
  unfold Builtin.«int.__format__»
  simp only [selfAndOne, noKeywords, Int.intOfSelf, asInt?, asStr?, List.isEmpty_nil, if_true, pure_bind, bind_pure, bind_assoc, Bool.false_eq_true, if_false,
    show (Value.str (Str.ofString "b") s.toks == Value.none) = false from rfl]
  refine wpAny_bind (wpAny_typeNameOf (T := "str") (typeIs_str _ _ _) (by decide) fun _ => ?_)
  rw [if_neg (by decide), if_neg (by decide)]
  refine wpAny_bind (wpAny_typeNameOfCut_int ?_)
  simp only [hp, Option.getD_some]
  rw [if_pos (by decide)]
  generalize hF : ({ align := 62, type := some 98 } : FormatSpec) = F
  have f1 : F.precision = none := by rw [← hF]
  have f2 : F.noNeg0 = false := by rw [← hF]
  have f3 : F.width = none := by rw [← hF]
  have f4 : F.alt = false := by rw [← hF]
  have f5 : F.grouping = none := by rw [← hF]
  have f6 : F.sign = none := by rw [← hF]
  show wpAny _ _ (if _ then _ else _) _ _ _
  rw [if_neg (by simp [f1])]
  show wpAny _ _ (if _ then _ else _) _ _ _
  rw [if_neg (by simp [f2])]
  show wpAny _ _ (if _ then _ else _) _ _ _
  rw [if_neg (by decide)]
  show wpAny _ _ (if _ then _ else _) _ _ _
  rw [if_neg (by decide)]
  show wpAny _ _ (if _ then _ else _) _ _ _
  rw [if_neg (by simp [f3])]
  subst hF
  have ed : ((Nat.toDigits 2 (Int.ofNat n).natAbs).map fun c => (if (98 : Nat) == 88 then c.toUpper else c).toNat) = (Nat.toDigits 2 n).map Char.toNat := List.map_congr_left fun c _ => rfl
  have hn0 : ¬ ((n : Int) < 0) := by omega
  have hl' : ((Nat.toDigits 2 n).map Char.toNat).length ≤ sizeLine := by rw [List.length_map]; exact hl
  show wpAny _ _ (retStr _) _ _ _
  unfold retStr
  refine wpAny_bind (wpAny_mkStr (wpAny_pure ?_) ?hs2)
  case hs2 =>
    conv => lhs; arg 1; whnf
    rw [ed]
    generalize (Nat.toDigits 2 n).map Char.toNat = ds at hl' ⊢
    cases ds with
    | nil => simp [Str.length, hn0]
    | cons a b =>
      simp [Str.length, hn0] at hl' ⊢
      omega
  dsimp only
  refine wpAny_bind (wpAny_isInstance (typeIs_str _ _ _) isSubtype_str_str (wpAny_pure ?_))
  conv => arg 1; arg 1; whnf
  rw [ed]
  generalize (Nat.toDigits 2 n).map Char.toNat = ds at h ⊢
  cases ds with
  | nil => simpa [hn0] using h
  | cons a b =>
    have hz : ((-1 : Int) - ((b.length : Int) + 1)).toNat = 0 := by omega
    simp [hz, hn0]
    exact h
end
end Sm
namespace Sm
open PySem PySem.Spec PyProof.Rows L2
noncomputable section
section
variable {X : Cx} {Z : Cz} {E : L2.St → XK} {pos p p2 p3 p4 apos cpos : Pos} {e o : Expr} {m mo me : ME}
/-! ### f"{x:b}" of an int from 0 -/
def binS (n : Nat) : Str := ⟨((Nat.toDigits 2 n).map Char.toNat).toArray⟩
def mFmtB (m : ME) : ME := fun σ h => (m σ h).bind fun d h1 => match d with
  | .int (.ofNat n) => match small (Nat.toDigits 2 n).length with
    | true => .ok (.str (binS n)) h1
    | false => .bad
  | _ => .bad
def tFmtB (te : TE) : TE := fun σ H Q => te σ H fun x H1 => ∃ n : Nat, x = .int (Int.ofNat n) ∧ (Nat.toDigits 2 n).length ≤ sizeLine ∧ Q (.str (binS n)) H1
theorem pe_fmtB {te : TE} {j : Nat} (he : PE X e te) : PE X (.JoinedStr [.FormattedValue e (-1) (some (.JoinedStr [.Constant (.str "b") j p] p2)) p3] p4) (tFmtB te) := by
  refine ⟨fun pins s σ H Q I h => wpAny_JoinedStr_one (wpAny_FormattedValue_spec (thn (he.run pins s σ H _ I h) fun v s1 hv => ?_))⟩
  obtain ⟨x, H1, I1, r1, n, rfl, hl, q⟩ := hv
  obtain ⟨t, rfl⟩ := r1
  refine wpAny_JoinedStr_one (thn ((pe_str (X := X) (x := "b") (j := j) (pos := p)).run pins s1 σ H1 (fun x H' => x = .str "b" ∧ Q (.str (binS n)) H') I1 ⟨rfl, q⟩) fun v s2 hv => ?_)
  obtain ⟨x, H2, I2, r2, rfl, q2⟩ := hv
  obtain ⟨t2, rfl⟩ := r2
  exact ⟨_, _, rfl, fieldB hl ⟨.str (binS n), H2, I2.tok _, ⟨_, rfl⟩, q2⟩⟩
theorem s_fmtB {j : Nat} (pe : PE X e (tE Z E m)) : PE X (.JoinedStr [.FormattedValue e (-1) (some (.JoinedStr [.Constant (.str "b") j p] p2)) p3] p4) (tE Z E (mFmtB m)) := (pe_fmtB pe).imp fun τ H Q => by
  rintro ⟨ρ, σ, h, rep, rs, q⟩
  refine ⟨ρ, σ, h, rep, rs, Aft.bind q fun d h1 ρ1 H1 v e1 rep1 rv q1 => ?_⟩
  split at q1 <;> first | exact q1.elim | skip
  rename_i n
  split at q1 <;> first | exact q1.elim | skip
  rename_i sm
  cases rv
  exact ⟨n, rfl, small_ok sm, q1 ρ1 H1 _ Ext.refl rep1 (.str _)⟩
/-! ### x.count(y) of texts -/
def mCountS (mo me : ME) : ME := fun σ h => (mo σ h).bind fun o h1 => match o with
  | .str x => (me σ h1).bind fun e h2 => match e with
    | .str y => .ok (.int (Txt.count x y)) h2
    | _ => .bad
  | _ => .bad
theorem s_countS (po : PE X o (tE Z E mo)) (pe : PE X e (tE Z E me)) (hs : starEach [e] X.env = [(false, eval e X.env)] := by rfl) (hbase : attributeBase o (Str.ofString "count") X.env (eval o X.env) = eval o X.env := by rfl) (hline : (apos.endLine == pos.line) = true := by rfl) :
    PE X (.Call (.Attribute o "count" apos) [e] [] pos) (tE Z E (mCountS mo me)) := (pe_m1 F.slot_str_count F.type_str_count mt_count po pe hs hbase hline).imp fun τ H Q => by
  rintro ⟨ρ, σ, h, rep, rs, q⟩
  refine ⟨ρ, σ, h, rep, rs, Aft.bind q fun d h1 ρ1 H1 v e1 rep1 rv q1 => ?_⟩
  split at q1 <;> first | exact q1.elim | skip
  rename_i x
  cases rv
  refine ⟨⟨x, rfl⟩, ρ1, σ, h1, rep1, rs.mono rep e1, Aft.bind q1 fun d2 h2 ρ2 H2 w e2 rep2 rw q2 => ?_⟩
  split at q2 <;> first | exact q2.elim | skip
  rename_i y
  cases rw
  exact ⟨x, y, rfl, rfl, q2 ρ2 H2 _ Ext.refl rep2 (.int _)⟩
end
/-! ### xs.count(y) of lists -/
section
variable {X : Cx} {Z : Cz}
def rCountD (K : PySem.W.Frag) : V → List V → Hp → VK → Prop := fun x xs H Q => ∃ (a : Addr) (y : V) (d : PyData) (ds : List PyData), x = V.ref a ∧ xs = [y] ∧ Dp K H (V.ref a) (.list ds) ∧ Dp K H y d ∧
  SeqAt.shaped (.list ds) = true ∧ SeqAt.shaped d = true ∧ Q (.int (ds.countP (fun z => PyData.eqv z d) : Nat)) H
theorem mt_countD (hu : X.A.units + 65 < cLine) : MtR X "list.count" (rCountD X.K) := by
  intro pins s σ H x xs v us Q I rx rxs h
  obtain ⟨a, y, d, ds, rfl, rfl, hl, hy, sl, sd, q⟩ := h
  cases rx
  cases rxs with
  | cons ry rt =>
    rename_i uy ut
    cases rt
    obtain ⟨bs, r1⟩ := Dp.reads I d y uy hy ry
    have hxs : PyData.canLayAll0 ds = true := SeqAt.canLay_of_shaped sl
    have hroom : X.A.units + 1 + min (PyData.depthAll ds) d.depth < cLine := room_in_shaped sd hu
    cases hl with
    | lst hs ha =>
      obtain ⟨its, rv, ⟨⟨cls, dd, data, sls⟩, n, ho, hc, hdn, hdt⟩, hlen⟩ := I.list hs
      simp only at hc hdt
      subst hc hdt
      obtain ⟨as, h4⟩ := Dp.readsAll I ds _ its ha rv
      have hmap : its.map (SeqAt.readOf s.heap) = ds := SeqAt.readsAll_map ds its as hxs h4
      refine call_meets PySem.F.slot_list_count ⟨_, ho, rfl⟩ PySem.F.entry_list_count (PySem.F.args_list_count_2 _ _)
        (SeqAt.list_countAt a its.toArray n dd sls uy (fun u => PyData.eqv (SeqAt.readOf s.heap u) d)) ⟨ho, SeqAt.items_eqAt (vs := its.toArray) (show ReadsAll s.heap its.toArray.toList ds as from h4) r1 hxs (SeqAt.canLay_of_shaped sd) hroom, ?_⟩
      have ec : its.toArray.toList.countP (fun u => PyData.eqv (SeqAt.readOf s.heap u) d) = ds.countP (fun z => PyData.eqv z d) := by
        rw [← hmap, List.countP_map]
        rfl
      exact ⟨.int (ds.countP (fun z => PyData.eqv z d) : Nat), H, I.tok _, ⟨s.toks, by rw [ec]⟩, q⟩
def countE (d : PyData) : List PyData → Nat
  | [] => 0
  | x :: r => match PyData.eqv x d with
    | true => countE d r + 1
    | false => countE d r
theorem countE_eq (d : PyData) : ∀ l : List PyData, countE d l = l.countP fun z => PyData.eqv z d
  | [] => rfl
  | x :: r => by
    rw [List.countP_cons, ← countE_eq d r]
    show (match PyData.eqv x d with | true => countE d r + 1 | false => countE d r) = _
    cases PyData.eqv x d <;> rfl
def fCountL : FM := fun d ds h => match ds with
  | [x] => match toPy h 60 d, toPy h 60 x with
    | some (.list qs), some p => match SeqAt.shaped (.list qs) && SeqAt.shaped p with
      | true => .ok (.int (Int.ofNat (countE p qs))) h
      | false => .bad
    | _, _ => .bad
  | _ => .bad
theorem ms_countL : MSp Z (rCountD Z.K) fCountL := by
  intro ρ h H d ds v vs Q E rep rv rvs q
  unfold fCountL at q
  split at q <;> first | exact q.elim | skip
  rename_i x
  cases rvs with
  | cons r1 r2 =>
    cases r2
    split at q <;> first | exact q.elim | skip
    rename_i qs p e1 e2
    cases sm : SeqAt.shaped (.list qs) && SeqAt.shaped p with
    | false => rw [sm] at q; exact q.elim
    | true =>
      rw [sm] at q
      obtain ⟨s1, s2⟩ := Bool.and_eq_true_iff.mp sm
      have dl := toPy_ok rep _ _ _ _ rv e1
      have dx := toPy_ok rep _ _ _ _ r1 e2
      have := q ρ H _ Ext.refl rep (.int _)
      rw [countE_eq] at this
      cases rv <;> first | (cases dl; done) | skip
      · rename_i a ds' vs' s t
        exact ⟨a, _, p, qs, rfl, rfl, dl, dx, s1, s2, this⟩
      · rename_i i hi
        exact ⟨ρ i, _, p, qs, rfl, rfl, dl, dx, s1, s2, this⟩
      · rename_i k
        exact ⟨Z.φ k, _, p, qs, rfl, rfl, dl, dx, s1, s2, this⟩
      · rename_i k
        exact ⟨k, _, p, qs, rfl, rfl, dl, dx, s1, s2, this⟩
end
theorem bt_set : bootBuiltins "set" = some (.type "set") := by decide +kernel
theorem bt_KeyError : bootBuiltins "KeyError" = some (.type "KeyError") := by decide +kernel
end
end Sm
namespace Sm
open PySem PySem.Spec PyProof.Rows L2
noncomputable section
/-! ### [elt for t0 in i0 for t1 in i1] -/
def lc2In (i : Nat) (src : Src) (g : MG) (elt : ME) (σ : Loc) : Nat → Nat → Hm → R Unit
  | 0, _, _ => .bad
  | f + 1, k, h => match src k h with
    | .stop => .ok () h
    | .bad => .bad
    | .item d => match g d σ with
      | none => .bad
      | some σ1 => match elt σ1 h with
        | .ok y h2 => match h2.get i with
          | some (.lst xs) => match small (lenR xs) with
            | true => appR xs [y] fun l => lc2In i src g elt σ f (k + 1) (h2.put i (.lst l))
            | false => .bad
          | _ => .bad
        | _ => .bad
def lc2Go (i : Nat) (src : Src) (g : MG) (mi1 : MI) (g1 : MG) (elt : ME) (vs1 : List Nat) (σ : Loc) : Nat → Nat → Hm → R Unit
  | 0, _, _ => .bad
  | f + 1, k, h => match src k h with
    | .stop => .ok () h
    | .bad => .bad
    | .item d => match g d σ with
      | none => .bad
      | some σ1 => match mi1 σ1 h with
        | .ok src1 h1 => match lc2In i src1 g1 elt (wipeM σ1 vs1) turnsL 0 h1 with
          | .ok _ h2 => lc2Go i src g mi1 g1 elt vs1 σ f (k + 1) h2
          | _ => .bad
        | _ => .bad
def mLc2 (mi : MI) (g : MG) (mi1 : MI) (g1 : MG) (elt : ME) (vs vs1 : List Nat) : ME := fun σ h => (mi σ h).bind fun src h1 => match lc2Go h1.n src g mi1 g1 elt vs1 (wipeM σ vs) turnsL 0 (h1.push (.lst [])) with
  | .ok _ h2 => .ok (.ref h1.n) h2
  | _ => .bad
section
variable {X : Cx} {Z : Cz} {E : L2.St → XK} {pos p : Pos}
theorem yesT {ρ : Nat → Addr} {h : Hm} {H : Hp} {σ : Loc} {τ : L2.St} {Q : Bool → Hp → Prop} (rep : Rep Z ρ h H) (rs : RS Z ρ h.n H σ τ) (q : ∀ ρ' H', Ext ρ h.n H ρ' h.n H' → Rep Z ρ' h H' → Q true H') : tT Z noE mYes τ H Q :=
  ⟨ρ, σ, h, rep, rs, fun ρ' H' b e' r' l => by
    have l : true = b := l
    subst l
    exact q ρ' H' e' r'⟩
theorem lc2_imp {mi mi1 : MI} {is is1 vs1 : List Nat} {g g1 : MG} {me : ME} {own : List (Str × Nat)} (sub : ∀ j ∈ is, j ∈ own.map (·.2)) (sub1 : ∀ j ∈ is1, j ∈ vs1) : ∀ τ H Q, tE Z E (mLc2 mi g mi1 g1 me (own.map (·.2)) vs1) τ H Q →
    tLc2 (tIM Z E mi) (gM Z is g) (tT Z noE mYes) (tIM Z noE mi1) (gM Z is1 g1) (tT Z noE mYes) (tE Z noE me) (own.map (·.2)) vs1 τ H Q := fun τ H Q => by
  rintro ⟨ρ, σ, h, rep, rs, q⟩
  refine ⟨ρ, σ, h, rep, rs, Aft.bind q fun src h1 ρ1 H1 J e1 rep1 j q1 => ?_⟩
  intro D hD
  have rsw := wipeM_rs (rs.mono rep e1) (own.map (·.2))
  obtain ⟨ρ2, e2, rep2, eD⟩ := rep1.push (o := .lst []) (u := .lst []) hD fun ρ' _ => ⟨[], upd_same, .nil⟩
  generalize hH2 : upd H1 D (.lst []) = H2 at e2 rep2
  cases z0 : lc2Go h1.n src g mi1 g1 me vs1 (wipeM σ (own.map (·.2))) turnsL 0 (h1.push (.lst [])) with
  | bad => rw [z0] at q1; exact q1.elim
  | exn c ds h' => rw [z0] at q1; exact q1.elim
  | ok u hE =>
    rw [z0] at q1
    refine ⟨fun k f H3 => ∃ ρ3 h3, Ext ρ2 (h1.n + 1) H2 ρ3 h3.n H3 ∧ Rep Z ρ3 h3 H3 ∧ lc2Go h1.n src g mi1 g1 me vs1 (wipeM σ (own.map (·.2))) f k h3 = .ok () hE, ⟨turnsL, ρ2, h1.push (.lst []), hH2 ▸ Ext.refl, hH2 ▸ rep2, z0⟩, ?_⟩
    rintro k f H3 ⟨ρ3, h3, e3, rep3, q3⟩
    cases f with
    | zero => cases q3
    | succ f =>
      have jk := j ρ3 h3 H3 (e2.trans e3) rep3 k
      unfold lc2Go at q3
      cases z : src k h3 with
      | bad => rw [z] at q3; cases q3
      | stop =>
        rw [z] at q3 jk
        cases q3
        refine .inl ⟨jk, ?_⟩
        have hd : ρ3 h1.n = D := (e3.same h1.n (Nat.lt_succ_self _)).trans eD
        have := q1 ρ3 H3 (.ref (ρ3 h1.n)) (e2.trans e3) rep3 (.ref (Nat.lt_of_lt_of_le (Nat.lt_succ_self _) e3.le))
        rwa [hd] at this
      | item d =>
        rw [z] at q3 jk
        refine .inr ⟨jk.1, fun H4 => ∃ ρ3 h3, Ext ρ2 (h1.n + 1) H2 ρ3 h3.n H4 ∧ Rep Z ρ3 h3 H4 ∧ lc2Go h1.n src g mi1 g1 me vs1 (wipeM σ (own.map (·.2))) f (k + 1) h3 = .ok () hE, fun H4 w => ⟨f, Nat.lt_succ_self _, w⟩, fun x H4 hy => ?_⟩
        obtain ⟨e4, rep4, rv4⟩ := jk.2 x H4 hy
        have rs4 := ((rsw.mono rep1 e2).mono rep2 e3).mono rep3 e4
        simp only at q3
        refine ⟨ρ3, h3.n, d, _, rs4, rv4, ?_⟩
        cases z2 : g d (wipeM σ (own.map (·.2))) with
        | none => rw [z2] at q3; cases q3
        | some σ1 =>
          rw [z2] at q3
          intro τ1 ag rs1
          refine ⟨wipe_ag ag sub, yesT rep4 rs1 fun ρ5 H5 e5 rep5 => iteT ?_⟩
          have rs5 := rs1.mono rep4 e5
          refine ⟨ρ5, σ1, h3, rep5, rs5, ?_⟩
          simp only at q3
          cases z3 : mi1 σ1 h3 with
          | bad => rw [z3] at q3; cases q3
          | exn c ds h' => rw [z3] at q3; cases q3
          | ok src1 h6 =>
            rw [z3] at q3
            simp only at q3
            intro ρ6 H6 J1 e6 rep6 j1
            have rs6 := wipeM_rs (rs5.mono rep5 e6) vs1
            have e06 := ((e3.trans e4).trans e5).trans e6
            cases z4 : lc2In h1.n src1 g1 me (wipeM σ1 vs1) turnsL 0 h6 with
            | bad => rw [z4] at q3; cases q3
            | exn c ds h' => rw [z4] at q3; cases q3
            | ok u2 h7 =>
              rw [z4] at q3
              simp only at q3
              refine ⟨fun jx fx H8 => ∃ ρ8 h8, Ext ρ6 h6.n H6 ρ8 h8.n H8 ∧ Rep Z ρ8 h8 H8 ∧ lc2In h1.n src1 g1 me (wipeM σ1 vs1) fx jx h8 = .ok () h7, ⟨turnsL, ρ6, h6, Ext.refl, rep6, z4⟩, ?_⟩
              rintro jx fx H8 ⟨ρ8, h8, e8, rep8, q8⟩
              cases fx with
              | zero => cases q8
              | succ fx =>
                have jj := j1 ρ8 h8 H8 e8 rep8 jx
                unfold lc2In at q8
                cases y : src1 jx h8 with
                | bad => rw [y] at q8; cases q8
                | stop =>
                  rw [y] at q8 jj
                  cases q8
                  exact .inl ⟨jj, ρ8, h7, e06.trans e8, rep8, q3⟩
                | item d1 =>
                  rw [y] at q8 jj
                  refine .inr ⟨jj.1, fun H9 => ∃ ρ8 h8, Ext ρ6 h6.n H6 ρ8 h8.n H9 ∧ Rep Z ρ8 h8 H9 ∧ lc2In h1.n src1 g1 me (wipeM σ1 vs1) fx (jx + 1) h8 = .ok () h7, fun H9 w => ⟨fx, Nat.lt_succ_self _, w⟩, fun x1 H9 hy1 => ?_⟩
                  obtain ⟨e9, rep9, rv9⟩ := jj.2 x1 H9 hy1
                  have rs9 := (rs6.mono rep6 e8).mono rep8 e9
                  simp only at q8
                  refine ⟨ρ8, h8.n, d1, _, rs9, rv9, ?_⟩
                  cases y2 : g1 d1 (wipeM σ1 vs1) with
                  | none => rw [y2] at q8; cases q8
                  | some σ3 =>
                    rw [y2] at q8
                    intro τ3 ag3 rs33
                    refine ⟨wipe_ag ag3 sub1, yesT rep9 rs33 fun ρa Ha ea repa => iteT ⟨ρa, σ3, h8, repa, rs33.mono rep9 ea, ?_⟩⟩
                    simp only at q8
                    cases y3 : me σ3 h8 with
                    | bad => rw [y3] at q8; cases q8
                    | exn c ds h' => rw [y3] at q8; cases q8
                    | ok yd hb =>
                      rw [y3] at q8
                      simp only at q8
                      intro ρb Hb w eb repb rwb
                      split at q8 <;> first | cases q8 | skip
                      rename_i xs ex
                      split at q8 <;> first | cases q8 | skip
                      rename_i sm
                      rw [lenR_eq] at sm
                      rw [appR_eq] at q8
                      have hall := ((((e06.trans e8).trans e9).trans ea).trans eb)
                      have hi : h1.n < hb.n := Nat.lt_of_lt_of_le (Nat.lt_succ_self _) hall.le
                      have hdb : ρb h1.n = D := (hall.same h1.n (Nat.lt_succ_self _)).trans eD
                      obtain ⟨ws, a1, a2⟩ := repb.lst hi ex
                      obtain ⟨eu, rp⟩ := repb.put (o := .lst (xs ++ [yd])) (u := .lst (ws ++ [w])) hi (fun _ _ z => by rw [a1] at z; cases z) fun ex => ⟨_, upd_same, (a2.mono repb ex).append (.cons (rwb.mono repb ex) .nil)⟩
                      rw [hdb] at a1 eu rp
                      exact ⟨ws, a1, by rw [← a2.length]; exact small_lt sm, ρb, hb.put h1.n (.lst (xs ++ [yd])), (((e8.trans e9).trans ea).trans eb).trans eu, rp, q8⟩
variable {elt tg iter tg1 iter1 : Expr} {scope : Scope} {own : List (Str × Nat)} {mi mi1 : MI} {is is1 vs1 : List Nat} {g g1 : MG} {me : ME}
theorem s_lc2 (hc : X.calm = true) (hN : X.N.Nodup) (hi : PI X tg iter (tIM Z E mi)) (ok : BlkOk X.N X.env.scope scope own)
    (hg : ∀ (s : Shared) (H : Hp) (C : Addr) (cl : List (Str × Addr)) (fp : List Addr), PG (X.blk s H scope (compEnvC scope cl C X.env) fp) tg (gM Z is g))
    (hi1 : ∀ (s : Shared) (H : Hp) (C : Addr) (cl : List (Str × Addr)) (fp : List Addr), PI (X.blk s H scope (compEnvC scope cl C X.env) fp) tg1 iter1 (tIM Z noE mi1))
    (hg1 : ∀ (s : Shared) (H : Hp) (C : Addr) (cl : List (Str × Addr)) (fp : List Addr), PG (X.blk s H scope (compEnvC scope cl C X.env) fp) tg1 (gM Z is1 g1))
    (he : ∀ (s : Shared) (H : Hp) (C : Addr) (cl : List (Str × Addr)) (fp : List Addr), PE (X.blk s H scope (compEnvC scope cl C X.env) fp) elt (tE Z noE me))
    (hv : ∀ i ∈ vs1, i ∈ own.map (·.2) := by decide) (sub : ∀ j ∈ is, j ∈ own.map (·.2) := by decide) (sub1 : ∀ j ∈ is1, j ∈ vs1 := by decide)
    (hs : ∀ x, foldedSetIterable iter X.env x = pure x := by intro _; rfl) (hs1 : ∀ env x, foldedSetIterable iter1 env x = pure x := by intro _ _; rfl) :
    PE X (.ListComp elt [⟨tg, iter, [], 0⟩, ⟨tg1, iter1, [], 0⟩] scope pos) (tE Z E (mLc2 mi g mi1 g1 me (own.map (·.2)) vs1)) :=
  (pe_lc2 hc hN hi ok hv hg (fun _ _ _ _ _ => sts_nil) hi1 hg1 (fun _ _ _ _ _ => sts_nil) he hs hs1).imp (lc2_imp sub sub1)
theorem s_setLc2 {i : Nat} {y : Str} {py spos : Pos} {E0 : XK} (hy : X.N[i]? = some y) (hyl : X.env.scope.names.lookup y = some .local)
    (hsw : swapsWith (.ListComp elt [⟨tg, iter, [], 0⟩, ⟨tg1, iter1, [], 0⟩] scope pos) (some (.Name y py)) spos.line X.env = pure true) (hc : X.calm = true) (hN : X.N.Nodup) (hi : PI X tg iter (tIM Z (fun _ => E0) mi)) (ok : BlkOk X.N X.env.scope scope own)
    (hg : ∀ (s : Shared) (H : Hp) (C : Addr) (cl : List (Str × Addr)) (fp : List Addr), PG (X.blk s H scope (compEnvC scope cl C X.env) fp) tg (gM Z is g))
    (hi1 : ∀ (s : Shared) (H : Hp) (C : Addr) (cl : List (Str × Addr)) (fp : List Addr), PI (X.blk s H scope (compEnvC scope cl C X.env) fp) tg1 iter1 (tIM Z noE mi1))
    (hg1 : ∀ (s : Shared) (H : Hp) (C : Addr) (cl : List (Str × Addr)) (fp : List Addr), PG (X.blk s H scope (compEnvC scope cl C X.env) fp) tg1 (gM Z is1 g1))
    (he : ∀ (s : Shared) (H : Hp) (C : Addr) (cl : List (Str × Addr)) (fp : List Addr), PE (X.blk s H scope (compEnvC scope cl C X.env) fp) elt (tE Z noE me))
    (hv : ∀ i ∈ vs1, i ∈ own.map (·.2) := by decide) (sub : ∀ j ∈ is, j ∈ own.map (·.2) := by decide) (sub1 : ∀ j ∈ is1, j ∈ vs1 := by decide)
    (hs : ∀ x, foldedSetIterable iter X.env x = pure x := by intro _; rfl) (hs1 : ∀ env x, foldedSetIterable iter1 env x = pure x := by intro _ _; rfl) :
    PS X (.Assign [.Name y py] (.ListComp elt [⟨tg, iter, [], 0⟩, ⟨tg1, iter1, [], 0⟩] scope pos) spos) (tS Z (fun _ => E0) (msAsg (mLc2 mi g mi1 g1 me (own.map (·.2)) vs1) (gmName i))) :=
  (ps_setLc2 hc hN hy hyl hsw hi ok hv hg (fun _ _ _ _ _ => sts_nil) hi1 hg1 (fun _ _ _ _ _ => sts_nil) he hs hs1).imp fun De τ H q => by
    refine lc2_imp (E := fun _ => E0) sub sub1 τ H _ ?_
    obtain ⟨ρ, σ, h, rep, rs, q⟩ := q
    refine ⟨ρ, σ, h, rep, rs, AftS.bind q fun d h1 ρ1 H1 v e1 rep1 rv q1 => ?_⟩
    exact q1 ρ1 H1 _ Ext.refl rep1 ((rs.mono rep e1).setR rv)
end
end
end Sm
namespace Sm
open PySem PySem.Spec PyProof.Rows L2
noncomputable section
/-! ### the script's first cell as a pick -/
def Mcell (ns : List Int) : ME := mCB fInt (maCons (m2 fIxM (mCall 2 (Fcells ns) (maCons (mVar 0) (maCons (mC (.int 1)) (maNil)))) (mC (.int 0))) (maNil))
theorem mcell_ok {ns : List Int} {r : Loc} {h0 : Hm} (hf : (some (.fn 1000) :: r : Loc).all flatO = true) : ∃ c : Int, mR (Mcell ns) (some (.fn 1000) :: r) h0 = .ok (.int c) h0 := by
  obtain ⟨i, h, c, e1, e2⟩ := cells_ok ns
  refine ⟨c, ?_⟩
  have q : Mcell ns (some (.fn 1000) :: r) Hm.nil = .ok (.int c) h :=
    ev_cb1 (ev_2 (ev_call (ev_cons1 (ev_var rfl) (ev_cons1 rfl rfl)) rfl e1) rfl (fIxM_lst e2 rfl)) rfl
  unfold mR
  rw [hf, q]
  rfl
theorem mcmod_ok {ns : List Int} {m : Int} {r : Loc} {h0 : Hm} (hf : (some (.fn 1000) :: r : Loc).all flatO = true) (z : 0 < m) : ∃ x : Int, m2 fMod (mR (Mcell ns)) (mC (.int m)) (some (.fn 1000) :: r) h0 = .ok (.int x) h0 ∧ 0 ≤ x ∧ x < m := by
  obtain ⟨c, e⟩ := mcell_ok (ns := ns) (h0 := h0) hf
  exact ⟨c.fmod m, ev_2 e rfl (fI_int (cNz_p z)), fmod_in c z⟩
end
end Sm
namespace Sm
open PySem PySem.Spec PyProof.Rows L2
noncomputable section
/-! ### a clause that returns a list -/
def smRet (ams : List AM) : SM := fun c ds σ h => match amAll ams c ds with
  | some l => match small l.length with
    | true => .rt (.ref h.n) (h.push (.lst l))
    | false => .bad
  | none => .bad
theorem xs_ret {X : Cx} {Z : Cz} {i : Option Nat} {a : Addr} {cls : Value} {dd : Option Addr} {pos p2 : Pos} {es : List Expr} {ams : List AM} (h : PA X es (tXs Z i a cls dd ams)) : PSs X [.Return (some (.List es p2)) pos] (tsM Z i (smRet ams) a cls dd) := (pss_one (ps_ret (pe_lst h))).imp fun De τ H => by
  rintro ⟨ρ, σ, h, c, ds, rep, rs, rx, hd, q⟩
  unfold smRet at q
  cases z : amAll ams c ds with
  | none => rw [z] at q; exact q.elim
  | some l =>
    rw [z] at q
    dsimp only at q
    cases z2 : small l.length with
    | false => rw [z2] at q; exact q.elim
    | true =>
      rw [z2] at q
      refine ⟨ρ, h.n, c, ds, l, rx, hd, z, fun vs rvs => ⟨by rw [← rvs.length]; exact small_ok z2, fun p hp => ?_⟩⟩
      exact new_lst (Q := fun v H' => De.rt v H') (E := fun _ _ _ => False) rep rvs (fun ρ' H' b e' r' l' => q ρ' H' b e' r' l') hp
end
end Sm
namespace Sm
open PySem PySem.Spec PyProof.Rows L2
noncomputable section
/-! ### str(n), x.join(xs) -/
def decS (n : Nat) : Str := ⟨((Nat.toDigits 10 n).map Char.toNat).toArray⟩
theorem decS_eq (n : Nat) : (Str.ofString (toString (Int.ofNat n))) = decS n := by
  rw [Str.ofString_eq_toList]
  unfold decS
  have e : (toString (Int.ofNat n)).toList = Nat.toDigits 10 n := Nat.toList_repr
  rw [e]
section
variable {X : Cx} {Z : Cz} {E : L2.St → XK} {pos p apos : Pos} {e o : Expr} {m mo me : ME}
def rStrI : List V → Hp → VK → Prop := fun xs H Q => ∃ i : Int, xs = [.int i] ∧ i.natAbs.log2 < 1920 ∧ Q (.str (Str.ofString (toString i))) H
theorem cr_strI : CallR X (.type "str") rStrI := call_str_int
def fStrI : FL := fun ds h => match ds with
  | [.int (.ofNat n)] => match Nat.blt n.log2 1920 with
    | true => .ok (.str (decS n)) h
    | false => .bad
  | _ => .bad
theorem cs_strI : CS Z rStrI fStrI := by
  intro ρ h H ds vs Q E rep rv q
  unfold fStrI at q
  split at q <;> first | exact q.elim | skip
  rename_i n
  split at q <;> first | exact q.elim | skip
  rename_i sm
  cases rv with
  | cons r1 r2 =>
    cases r2
    cases r1
    refine ⟨Int.ofNat n, rfl, Nat.le_of_ble_eq_true sm, ?_⟩
    rw [decS_eq]
    exact q ρ H _ Ext.refl rep (.str _)
def strsD : List D → Option (List Str)
  | [] => some []
  | .str i :: r => match strsD r with
    | some c => some (i :: c)
    | none => none
  | _ => none
theorem strsD_ok {ρ : Nat → Addr} {n : Nat} {H : Hp} : ∀ {ds : List D} {vs : List V} {b : List Str}, RVs Z ρ n H ds vs → strsD ds = some b → vs = b.map V.str
  | _, _, _, .nil, e => by cases e; rfl
  | _, _, _, .cons (d := d) (ds := r) r1 r2, e => by
    cases d <;> first | cases e | skip
    rename_i k
    cases r1
    simp only [strsD] at e
    split at e <;> first | cases e | skip
    rename_i c ec
    rw [strsD_ok r2 ec]
    rfl
def lenS : List Str → Nat
  | [] => 0
  | x :: r => x.length + lenS r
theorem lenS_eq : ∀ l : List Str, lenS l = (l.map (·.length)).sum
  | [] => rfl
  | x :: r => by rw [List.map_cons, List.sum_cons, ← lenS_eq r]; rfl
def mJoin (mo me : ME) : ME := fun σ h => (mo σ h).bind fun o h1 => match o with
  | .str x => (me σ h1).bind fun e h2 => match items h2 e with
    | some xs => match strsD xs with
      | some ys => match Nat.ble (lenS ys + ys.length * x.length) 1000000 with
        | true => .ok (.str (Txt.join x ys)) h2
        | false => .bad
      | none => .bad
    | none => .bad
  | _ => .bad
theorem s_join (hK : X.K = Z.K) (po : PE X o (tE Z E mo)) (pe : PE X e (tE Z E me)) (hs : starEach [e] X.env = [(false, eval e X.env)] := by rfl) (hbase : attributeBase o (Str.ofString "join") X.env (eval o X.env) = eval o X.env := by rfl) (hline : (apos.endLine == pos.line) = true := by rfl) :
    PE X (.Call (.Attribute o "join" apos) [e] [] pos) (tE Z E (mJoin mo me)) := (pe_m1 F.slot_str_join F.type_str_join mt_join po pe hs hbase hline).imp fun τ H Q => by
  rintro ⟨ρ, σ, h, rep, rs, q⟩
  refine ⟨ρ, σ, h, rep, rs, Aft.bind q fun d h1 ρ1 H1 v e1 rep1 rv q1 => ?_⟩
  split at q1 <;> first | exact q1.elim | skip
  rename_i x
  cases rv
  refine ⟨⟨x, rfl⟩, ρ1, σ, h1, rep1, rs.mono rep e1, Aft.bind q1 fun d2 h2 ρ2 H2 w e2 rep2 rw q2 => ?_⟩
  split at q2 <;> first | exact q2.elim | skip
  rename_i xs ee
  split at q2 <;> first | exact q2.elim | skip
  rename_i ys es
  split at q2 <;> first | exact q2.elim | skip
  rename_i sm
  obtain ⟨a, ws, rfl, rvs, hc⟩ := items_ok rep2 rw ee
  have ew := strsD_ok rvs es
  subst ew
  have sm := Nat.le_of_ble_eq_true sm
  rw [lenS_eq] at sm
  refine ⟨x, a, ys, rfl, rfl, ?_, by omega, q2 ρ2 H2 _ Ext.refl rep2 (.str _)⟩
  rcases hc with ⟨hc, _⟩ | ⟨hc, _⟩
  · exact .inl (hK ▸ SqL.of hc)
  · exact .inr (hK ▸ SqT.of hc)
end
end
end Sm
namespace Sm
open PySem PySem.Spec PyProof.Rows L2
noncomputable section
/-! ### a first statement that returns or goes on, any locals' errors -/
variable {X : Cx} {Z : Cz} {E : L2.St → XK} {pos p : Pos} {m : ME}
theorem ss_ifR {c e : Expr} {rest : List Stmt} {mc : MT} {b : MS} (pc : PT X c (tT Z E mc)) (pe : PE X e (tE Z E m)) (r : PSs X rest (tS Z E b)) :
    PSs X (.If c [.Return (some e) p] [] pos :: rest) (tS Z E (msIf mc (msRet m) b)) := (pss_cons (ps_if pc (pss_one (ps_ret pe)) pss_nil) r).imp fun De τ H => by
  rintro ⟨ρ, σ, h, rep, rs, q⟩
  refine ⟨ρ, σ, h, rep, rs, AftS.bind q fun d h1 ρ1 H1 v e1 rep1 rv q1 => ?_⟩
  cases rv
  cases d with
  | true => exact iteT ⟨ρ1, σ, h1, rep1, rs.mono rep e1, AftS.bind q1 fun d h2 ρ2 H2 v e2 rep2 rv q2 => q2 ρ2 H2 v Ext.refl rep2 rv⟩
  | false => exact iteF ⟨ρ1, σ, h1, rep1, rs.mono rep e1, q1⟩
end
end Sm
namespace Zv
open PySem PySem.Spec
noncomputable section
/-! ### tuple(zip(a, b)), list(zip(a, b)): the machine's side -/
/-- an iterator over a list or a tuple, at place k -/
def One (h : Heap) (i l : Addr) (k : Nat) (xs : Array Value) : Prop := (h.IsTupleIter i l k ∧ h.IsTuple l xs) ∨ (h.IsListIter i l k ∧ h.IsList l xs)
theorem One.at {h h' : Heap} {i l : Addr} {k : Nat} {xs : Array Value} (x : One h i l k xs) (e : ∀ o, h.get? i = some o → h'.get? i = some o) (e' : ∀ o, h.get? l = some o → h'.get? l = some o) : One h' i l k xs := by
  rcases x with ⟨a, b⟩ | ⟨a, b⟩
  · exact .inl ⟨a.at e, b.at e'⟩
  · exact .inr ⟨a.at e, b.at e'⟩
abbrev ZipO (h : Heap) (z TI TO a : Addr) (f : Bool) : Prop :=
  h.get? z = some { cls := .type "zip", dict := none, data := .fields #[rawInt a, .bool f, .bool false, .ref TI, .ref TO], slots := #[] }
section
variable {prog : Program} {w : World} {A : Around} {E : Value → Shared → Prop} {s : Shared}
theorem next_item {i l : Addr} {k : Nat} {xs : Array Value} {x : Value} {Q : Value → Shared → Prop} (c : One s.heap i l k xs) (hil : l ≠ i) (hx : xs[k]? = some x)
    (hQ : ∀ h', One h' i l (k + 1) xs → Heap.SameBut i s.heap h' → Q x { s with heap := h' }) : wpAny (model prog w) A (Builtin.SmallTypes.nextOf (.ref i)) Q E s := by
  rcases c with ⟨a, b⟩ | ⟨a, b⟩
  · exact RZ.nextOf_tuple_item a b hx fun h' a' sb => hQ h' (.inl ⟨a', b.at fun o e => sb.extBut _ _ hil e⟩) sb
  · exact wpAny_nextOf_list_item a b hx fun h' a' sb => hQ h' (.inr ⟨a', b.at fun o e => sb.extBut _ _ hil e⟩) sb
theorem next_end {i l : Addr} {k : Nat} {xs : Array Value} {Q : Value → Shared → Prop} (hh : A.handled = none) (c : One s.heap i l k xs) (hx : xs[k]? = none)
    (hE : ∀ h' e, Heap.ExtBut i s.heap h' → (∃ o, h'.get? e = some o ∧ o.cls = .type "StopIteration") → E (.ref e) { s with heap := h' }) : wpAny (model prog w) A (Builtin.SmallTypes.nextOf (.ref i)) Q E s := by
  rcases c with ⟨a, b⟩ | ⟨a, b⟩
  · exact RZ.nextOf_tuple_end hh a b hx hE
  · exact wpAny_nextOf_list_end hh a b hx hE
theorem alive {a : Addr} {o : Obj} {Q : Option Obj → Shared → Prop} (ho : s.heap.get? a = some o) (h : Q (some o) s) : wpAny (model prog w) A (loadIfAlive a) Q E s := by
  have h' : Q (s.heap.get? a) s := by rw [ho]; exact h
  exact fun _ _ _ => h'
theorem owned_taken {z TI TO a : Addr} {f : Bool} {oa : Obj} {Q : Bool → Shared → Prop} (hz : ZipO s.heap z TI TO a f) (ha : s.heap.get? a = some oa)
    (hQ : ∀ h', ZipO h' z TI TO a true → Heap.SameBut z s.heap h' → Q false { s with heap := h' }) : wpAny (model prog w) A (Builtin.SmallTypes.ownedTupleIsFree (.ref z)) Q E s := by
  unfold Builtin.SmallTypes.ownedTupleIsFree
  refine wpAny_bind (wpAny_field hz rfl (x := rawInt a) rfl ?_)
  show wpAny _ _ (loadIfAlive ((a : Int).toNat) >>= _) _ _ _
  rw [Int.toNat_natCast]
  refine wpAny_bind (alive ha ?_)
  simp only [Option.isNone_some, Bool.false_eq_true, if_false]
  refine wpAny_bind (wpAny_field hz rfl (x := .bool f) rfl ?_)
  cases f with
  | true =>
    rw [if_neg (show ¬ ((Value.bool true != Value.bool true) = true) from Bool.false_ne_true)]
    exact wpAny_pure (hQ s.heap hz (Heap.SameBut.refl _ _))
  | false =>
    rw [if_pos (show (Value.bool false != Value.bool true) = true from rfl)]
    exact wpAny_bind (wpAny_setField_rec hz (by simp) fun h₃ he₃ hs₃ => wpAny_pure (hQ h₃ he₃ hs₃))
/-- a later turn: a fresh pair -/
theorem later_item {z TI TO i1 i2 l1 l2 a : Addr} {f : Bool} {oa : Obj} {k : Nat} {xs ys : Array Value} {x y : Value} {Q : Option Value → Shared → Prop} (D : ZipApart z TI TO i1 i2 l1 l2)
    (hz : ZipO s.heap z TI TO a f) (ha : s.heap.get? a = some oa) (hTI : IsPair s.heap TI (.ref i1) (.ref i2)) (h1 : One s.heap i1 l1 k xs) (h2 : One s.heap i2 l2 k ys) (hx : xs[k]? = some x) (hy : ys[k]? = some y)
    (hQ : ∀ h', ZipO h' z TI TO a true → One h' i1 l1 (k + 1) xs → One h' i2 l2 (k + 1) ys → IsPair h' s.heap.objs.size x y →
      (∀ c o, c ≠ z → c ≠ i1 → c ≠ i2 → s.heap.get? c = some o → h'.get? c = some o) → Q (some (.ref s.heap.objs.size)) { s with heap := h' }) :
    wpAny (model prog w) A (pyNext (.ref z)) Q E s := by
  have hT : s.TypeIs (.ref z) "zip" := ⟨_, hz, rfl⟩
  unfold pyNext
  refine wpAny_bind (wpAny_attempt (wpAny_callSpecial?_slot (name := Str.ofString "__next__") hT PySem.F.slot_zip_next
    (wpAny_call_entry PySem.F.slot_zip_next hT PySem.F.entry_zip_next ?_ (PySem.F.args_zip_next_1 _))))
  show wpAny _ _ (field (.ref z) 2 >>= _) _ _ _
  refine wpAny_bind (wpAny_field hz rfl (x := .bool false) rfl ?_)
  show wpAny _ _ (field (.ref z) 3 >>= _) _ _ _
  refine wpAny_bind (wpAny_field hz rfl (x := .ref TI) rfl ?_)
  refine wpAny_bind (wpAny_seqItems hTI rfl ?_)
  show wpAny _ _ (Builtin.SmallTypes.ownedTupleIsFree (.ref z) >>= _) _ _ _
  refine wpAny_bind (owned_taken hz ha fun h₁ hz₁ hs₁ => ?_)
  simp only [Bool.false_eq_true, if_false]
  refine wpAny_bind ?_
  simp only [← Array.forIn_toList, List.forIn_cons, List.forIn_nil]
  refine wpAny_bind (wpAny_bind (wpAny_holding ?_))
  show wpAny _ _ (Builtin.SmallTypes.nextOf (.ref i1) >>= _) _ _ _
  refine wpAny_bind (next_item (h1.at (fun o e => hs₁.extBut _ _ D.i1z e) fun o e => hs₁.extBut _ _ D.l1z e) D.l1i1 hx fun h₂ h1₂ hs₂ => wpAny_pure (wpAny_pure ?_))
  refine wpAny_bind (wpAny_bind (wpAny_holding ?_))
  show wpAny _ _ (Builtin.SmallTypes.nextOf (.ref i2) >>= _) _ _ _
  refine wpAny_bind (next_item (h2.at (fun o e => hs₂.extBut _ _ D.i12.symm (hs₁.extBut _ _ D.i2z e)) fun o e => hs₂.extBut _ _ D.l2i1 (hs₁.extBut _ _ D.l2z e)) D.l2i2 hy fun h₃ h2₃ hs₃ => wpAny_pure (wpAny_pure (wpAny_pure ?_)))
  refine wpAny_bind (wpAny_newTuple ?_ (by show 2 ≤ sizeLine; decide))
  have hsz : h₃.objs.size = s.heap.objs.size := by rw [hs₃.1, hs₂.1, hs₁.1]
  have hz₃ : ZipO h₃ z TI TO a true := hs₃.extBut _ _ D.i2z.symm (hs₂.extBut _ _ D.i1z.symm hz₁)
  have hk₃ : ∀ c o, c ≠ z → c ≠ i1 → c ≠ i2 → s.heap.get? c = some o → h₃.get? c = some o := fun c o c1 c3 c4 e => hs₃.extBut _ _ c4 (hs₂.extBut _ _ c3 (hs₁.extBut _ _ c1 e))
  refine wpAny_pure ⟨_, rfl, wpAny_pure ?_⟩
  show Q (some (.ref h₃.objs.size)) _
  have g : IsPair (h₃.push { cls := .type "tuple", data := .seq #[x, y] }) s.heap.objs.size x y := by rw [← hsz]; exact Heap.get?_push_size _ rfl
  rw [hsz]
  refine hQ _ (Heap.get?_push_of_some _ hz₃) ?_ ?_ g fun c o c1 c3 c4 e => Heap.get?_push_of_some _ (hk₃ c o c1 c3 c4 e)
  · exact h1₂.at (fun o e => Heap.get?_push_of_some _ (hs₃.extBut _ _ D.i12 e)) fun o e => Heap.get?_push_of_some _ (hs₃.extBut _ _ D.l1i2 e)
  · exact h2₃.at (fun o e => Heap.get?_push_of_some _ e) fun o e => Heap.get?_push_of_some _ e
theorem later_end {z TI TO i1 i2 l1 l2 a : Addr} {f : Bool} {oa : Obj} {k : Nat} {xs ys : Array Value} {Q : Option Value → Shared → Prop} (hh : A.handled = none) (D : ZipApart z TI TO i1 i2 l1 l2)
    (hz : ZipO s.heap z TI TO a f) (ha : s.heap.get? a = some oa) (hTI : IsPair s.heap TI (.ref i1) (.ref i2)) (h1 : One s.heap i1 l1 k xs) (h2 : One s.heap i2 l2 k ys) (hend : xs[k]? = none ∨ ys[k]? = none)
    (hQ : ∀ h', (∀ c o, c ≠ z → c ≠ i1 → c ≠ i2 → s.heap.get? c = some o → h'.get? c = some o) → Q none { s with heap := h' }) :
    wpAny (model prog w) A (pyNext (.ref z)) Q E s := by
  have hT : s.TypeIs (.ref z) "zip" := ⟨_, hz, rfl⟩
  unfold pyNext
  refine wpAny_bind (wpAny_attempt (wpAny_callSpecial?_slot (name := Str.ofString "__next__") hT PySem.F.slot_zip_next
    (wpAny_call_entry PySem.F.slot_zip_next hT PySem.F.entry_zip_next ?_ (PySem.F.args_zip_next_1 _))))
  have fin : ∀ (h' : Heap) (e : Addr), (∀ c o, c ≠ z → c ≠ i1 → c ≠ i2 → s.heap.get? c = some o → h'.get? c = some o) → (∃ o, h'.get? e = some o ∧ o.cls = .type "StopIteration") →
      wpAny (model prog w) A (do if ← isInstance (.ref e) (.type "StopIteration") then pure none else throw (.ref e)) Q E { s with heap := h' } := fun h' e hk he => by
    obtain ⟨o, ho, hc⟩ := he
    exact wpAny_bind (wpAny_isInstance (T := "StopIteration") (b := true) ⟨o, ho, hc⟩ isSubtype_stop (wpAny_pure (hQ _ hk)))
  show wpAny _ _ (field (.ref z) 2 >>= _) _ _ _
  refine wpAny_bind (wpAny_field hz rfl (x := .bool false) rfl ?_)
  show wpAny _ _ (field (.ref z) 3 >>= _) _ _ _
  refine wpAny_bind (wpAny_field hz rfl (x := .ref TI) rfl ?_)
  refine wpAny_bind (wpAny_seqItems hTI rfl ?_)
  show wpAny _ _ (Builtin.SmallTypes.ownedTupleIsFree (.ref z) >>= _) _ _ _
  refine wpAny_bind (owned_taken hz ha fun h₁ hz₁ hs₁ => ?_)
  simp only [Bool.false_eq_true, if_false]
  refine wpAny_bind ?_
  simp only [← Array.forIn_toList, List.forIn_cons, List.forIn_nil]
  refine wpAny_bind (wpAny_bind (wpAny_holding ?_))
  show wpAny _ _ (Builtin.SmallTypes.nextOf (.ref i1) >>= _) _ _ _
  have c1 := h1.at (h' := h₁) (fun o e => hs₁.extBut _ _ D.i1z e) fun o e => hs₁.extBut _ _ D.l1z e
  cases hx : xs[k]? with
  | none =>
    exact wpAny_bind (next_end hh c1 hx fun h₂ e hs₂ he => fin h₂ e (fun c o c1 c2 c3 x => hs₂ _ _ c2 (hs₁.extBut _ _ c1 x)) he)
  | some x =>
    have hy : ys[k]? = none := by rcases hend with h | h; rw [hx] at h; cases h; exact h
    refine wpAny_bind (next_item c1 D.l1i1 hx fun h₂ h1₂ hs₂ => wpAny_pure (wpAny_pure ?_))
    refine wpAny_bind (wpAny_bind (wpAny_holding ?_))
    show wpAny _ _ (Builtin.SmallTypes.nextOf (.ref i2) >>= _) _ _ _
    exact wpAny_bind (next_end hh (h2.at (fun o e => hs₂.extBut _ _ D.i12.symm (hs₁.extBut _ _ D.i2z e)) fun o e => hs₂.extBut _ _ D.l2i1 (hs₁.extBut _ _ D.l2z e)) hy fun h₃ e hs₃ he =>
      fin h₃ e (fun c o c1 c2 c3 x => hs₃ _ _ c3 (hs₂.extBut _ _ c2 (hs₁.extBut _ _ c1 x))) he)
end
end
end Zv
namespace Zv
open PySem PySem.Spec
noncomputable section
/-! ### the loop -/
def Got (xs ys : Array Value) (lo : Addr) (h : Heap) (as : List Addr) : Prop :=
  as.Pairwise (· < ·) ∧ (∀ a ∈ as, lo ≤ a) ∧ ∀ (j : Nat) (a : Addr), as[j]? = some a → ∃ x y, xs[j]? = some x ∧ ys[j]? = some y ∧ IsPair h a x y
def Kind (h : Heap) (i1 i2 l1 l2 : Addr) (xs ys : Array Value) : Prop :=
  (h.IsTupleIter i1 l1 0 ∧ h.IsTupleIter i2 l2 0 ∧ h.IsTuple l1 xs ∧ h.IsTuple l2 ys) ∨ (h.IsListIter i1 l1 0 ∧ h.IsListIter i2 l2 0 ∧ h.IsList l1 xs ∧ h.IsList l2 ys)
def St0 (h : Heap) (z TI TO i1 i2 l1 l2 : Addr) (xs ys : Array Value) : Prop := IsPair h TI (.ref i1) (.ref i2) ∧ IsZip h z TI TO .none ∧ (∃ a b, IsPair h TO a b) ∧ Kind h i1 i2 l1 l2 xs ys
def St1 (h : Heap) (z TI TO i1 i2 l1 l2 S : Addr) (k : Nat) (xs ys : Array Value) : Prop :=
  IsPair h TI (.ref i1) (.ref i2) ∧ One h i1 l1 k xs ∧ One h i2 l2 k ys ∧ ∃ a f oa, ZipO h z TI TO a f ∧ h.get? a = some oa ∧ a ≠ z ∧ a ≠ TO ∧ a ≠ i1 ∧ a ≠ i2 ∧ a ≠ S
def ZSt (h : Heap) (z TI TO i1 i2 l1 l2 S : Addr) (k : Nat) (xs ys : Array Value) : Prop := (k = 0 ∧ St0 h z TI TO i1 i2 l1 l2 xs ys) ∨ St1 h z TI TO i1 i2 l1 l2 S k xs ys
structure Far (z TI TO i1 i2 l1 l2 S : Addr) : Prop where
  zS : z ≠ S
  TIS : TI ≠ S
  TOS : TO ≠ S
  i1S : i1 ≠ S
  i2S : i2 ≠ S
  l1S : l1 ≠ S
  l2S : l2 ≠ S
theorem Kind.at {h h' : Heap} {i1 i2 l1 l2 : Addr} {xs ys : Array Value} (x : Kind h i1 i2 l1 l2 xs ys) (k : ∀ b, b = i1 ∨ b = i2 ∨ b = l1 ∨ b = l2 → ∀ o, h.get? b = some o → h'.get? b = some o) : Kind h' i1 i2 l1 l2 xs ys := by
  rcases x with ⟨a, b, c, d⟩ | ⟨a, b, c, d⟩
  · exact .inl ⟨a.at (k _ (.inl rfl)), b.at (k _ (.inr (.inl rfl))), c.at (k _ (.inr (.inr (.inl rfl)))), d.at (k _ (.inr (.inr (.inr rfl))))⟩
  · exact .inr ⟨a.at (k _ (.inl rfl)), b.at (k _ (.inr (.inl rfl))), c.at (k _ (.inr (.inr (.inl rfl)))), d.at (k _ (.inr (.inr (.inr rfl))))⟩
theorem ZSt.keep {h h' : Heap} {z TI TO i1 i2 l1 l2 S : Addr} {k : Nat} {xs ys : Array Value} (x : ZSt h z TI TO i1 i2 l1 l2 S k xs ys) (F : Far z TI TO i1 i2 l1 l2 S) (hk : ∀ b o, b ≠ S → h.get? b = some o → h'.get? b = some o) : ZSt h' z TI TO i1 i2 l1 l2 S k xs ys := by
  rcases x with ⟨e, a, b, ⟨u, v, c⟩, d⟩ | ⟨a, b, c, q, f, oa, d, e, g⟩
  · refine .inl ⟨e, hk _ _ F.TIS a, hk _ _ F.zS b, ⟨u, v, hk _ _ F.TOS c⟩, d.at fun b hb o => hk _ _ ?_⟩
    rcases hb with r | r | r | r
    · rw [r]; exact F.i1S
    · rw [r]; exact F.i2S
    · rw [r]; exact F.l1S
    · rw [r]; exact F.l2S
  · exact .inr ⟨hk _ _ F.TIS a, b.at (fun o => hk _ _ F.i1S) fun o => hk _ _ F.l1S, c.at (fun o => hk _ _ F.i2S) fun o => hk _ _ F.l2S, q, f, oa, hk _ _ F.zS d, hk _ _ g.2.2.2.2 e, g⟩
section
variable {prog : Program} {w : World} {A : Around} {E : Value → Shared → Prop} {s : Shared} {z TI TO i1 i2 l1 l2 S : Addr} {k : Nat} {xs ys : Array Value}
theorem lt_iter1 {h : Heap} {i l : Addr} {k : Nat} (x : h.IsTupleIter i l k) : i < h.objs.size := let ⟨_, e, _⟩ := x; Heap.lt_size e
theorem lt_iter2 {h : Heap} {i l : Addr} {k : Nat} (x : h.IsListIter i l k) : i < h.objs.size := let ⟨_, e, _⟩ := x; Heap.lt_size e
theorem zs_item {x y : Value} {Q : Option Value → Shared → Prop} (D : ZipApart z TI TO i1 i2 l1 l2) (hst : ZSt s.heap z TI TO i1 i2 l1 l2 S k xs ys) (hS : S < s.heap.objs.size) (hx : xs[k]? = some x) (hy : ys[k]? = some y)
    (hQ : ∀ h', ZSt h' z TI TO i1 i2 l1 l2 S (k + 1) xs ys → IsPair h' s.heap.objs.size x y → (∀ c o, c ≠ z → c ≠ TO → c ≠ i1 → c ≠ i2 → s.heap.get? c = some o → h'.get? c = some o) → Q (some (.ref s.heap.objs.size)) { s with heap := h' }) :
    wpAny (model prog w) A (pyNext (.ref z)) Q E s := by
  rcases hst with ⟨rfl, hTI, hz, ⟨a, b, hTO⟩, kd⟩ | ⟨hTI, h1, h2, a, f, oa, hz, ha, n1, n2, n3, n4, n5⟩
  · have lz : z < s.heap.objs.size := Heap.lt_size hz
    have lTO : TO < s.heap.objs.size := Heap.lt_size hTO
    rcases kd with ⟨c1, c2, c3, c4⟩ | ⟨c1, c2, c3, c4⟩
    · refine RZ.pyNext_zipT_item D hz hTI hTO c1 c2 c3 c4 hx hy fun h' z' TO' j1 j2 T' hsz hk => hQ h' (.inr ⟨hk _ _ D.TIz D.TITO D.TIi1 D.TIi2 hTI, .inl ⟨j1, c3.at fun o => hk _ _ D.l1z D.l1TO D.l1i1 D.l1i2⟩, .inl ⟨j2, c4.at fun o => hk _ _ D.l2z D.l2TO D.l2i1 D.l2i2⟩, _, false, _, z', T', ?_, ?_, ?_, ?_, ?_⟩) T' hk
      · exact Nat.ne_of_gt lz
      · exact Nat.ne_of_gt lTO
      · exact Nat.ne_of_gt (lt_iter1 c1)
      · exact Nat.ne_of_gt (lt_iter1 c2)
      · exact Nat.ne_of_gt hS
    · refine wpAny_pyNext_zip_item D hz hTI hTO c1 c2 c3 c4 hx hy fun h' z' TO' j1 j2 T' hsz hk => hQ h' (.inr ⟨hk _ _ D.TIz D.TITO D.TIi1 D.TIi2 hTI, .inr ⟨j1, c3.at fun o => hk _ _ D.l1z D.l1TO D.l1i1 D.l1i2⟩, .inr ⟨j2, c4.at fun o => hk _ _ D.l2z D.l2TO D.l2i1 D.l2i2⟩, _, false, _, z', T', ?_, ?_, ?_, ?_, ?_⟩) T' hk
      · exact Nat.ne_of_gt lz
      · exact Nat.ne_of_gt lTO
      · exact Nat.ne_of_gt (lt_iter2 c1)
      · exact Nat.ne_of_gt (lt_iter2 c2)
      · exact Nat.ne_of_gt hS
  · exact later_item D hz ha hTI h1 h2 hx hy fun h' z' j1 j2 T' hk => hQ h' (.inr ⟨hk _ _ D.TIz D.TIi1 D.TIi2 hTI, j1, j2, a, true, oa, z', hk _ _ n1 n3 n4 ha, n1, n2, n3, n4, n5⟩) T' fun c o q1 _ q3 q4 => hk c o q1 q3 q4
theorem zs_done {Q : Option Value → Shared → Prop} (hh : A.handled = none) (D : ZipApart z TI TO i1 i2 l1 l2) (hst : ZSt s.heap z TI TO i1 i2 l1 l2 S k xs ys) (hend : xs[k]? = none ∨ ys[k]? = none)
    (hQ : ∀ h', (∀ c o, c ≠ z → c ≠ TO → c ≠ i1 → c ≠ i2 → s.heap.get? c = some o → h'.get? c = some o) → Q none { s with heap := h' }) :
    wpAny (model prog w) A (pyNext (.ref z)) Q E s := by
  rcases hst with ⟨rfl, hTI, hz, ⟨a, b, hTO⟩, kd⟩ | ⟨hTI, h1, h2, a, f, oa, hz, ha, n1, n2, n3, n4, n5⟩
  · rcases kd with ⟨c1, c2, c3, c4⟩ | ⟨c1, c2, c3, c4⟩
    · exact RZ.pyNext_zipT_end hh D hz hTI hTO c1 c2 c3 c4 hend hQ
    · exact wpAny_pyNext_zip_end hh D hz hTI hTO c1 c2 c3 c4 hend hQ
  · exact later_end hh D hz ha hTI h1 h2 hend fun h' hk => hQ h' fun c o q1 _ q3 q4 => hk c o q1 q3 q4
end
section
variable {prog : Program} {w : World} {A : Around} {s : Shared} {R : Result → Shared → Prop} {z TI TO i1 i2 l1 l2 S lo : Addr} {xs ys : Array Value}
theorem zloop (hh : A.handled = none) (D : ZipApart z TI TO i1 i2 l1 l2) (F : Far z TI TO i1 i2 l1 l2 S) (hn : xs.size ≤ sizeLine) (res : Value) {h₁ : Heap} {n : Nat} (hmin : n = min xs.size ys.size)
    (hlo : ∀ b, b = S ∨ b = z ∨ b = TO ∨ b = i1 ∨ b = i2 → b < lo)
    (hR : ∀ h' tk acc c as, (∀ b o, b ≠ S → b ≠ z → b ≠ TO → b ≠ i1 → b ≠ i2 → h₁.get? b = some o → h'.get? b = some o) → h'.get? S = some { cls := .type "list", dict := none, data := .seq acc c, slots := #[] } → as.length = n → Got xs ys lo h' as →
      acc.toList = as.map Value.ref → R (.ok (.ret res)) { s with heap := h', toks := tk }) :
    ∀ (k i : Nat) (h : Heap) (tk c : Nat) (acc : Array Value) (as : List Addr), n - i = k → i ≤ n → ZSt h z TI TO i1 i2 l1 l2 S i xs ys → (∀ b o, b ≠ S → b ≠ z → b ≠ TO → b ≠ i1 → b ≠ i2 → h₁.get? b = some o → h.get? b = some o) →
      h.get? S = some { cls := .type "list", dict := none, data := .seq acc c, slots := #[] } → acc.toList = as.map Value.ref → as.length = i → Got xs ys lo h as → lo ≤ h.objs.size →
      codeAny (model prog w) A (.builtin "list.extend.loop" ⟨[.ref S, .ref z, res], []⟩) R { s with heap := h, toks := tk } := by
  intro k
  induction k with
  | zero =>
    intro i h tk c acc as hk hi hst hkeep hS hacc hal hG hIs
    have hin : i = n := by omega
    refine codeAny_builtin PySem.F.entry_extend_loop ?_
    rw [Around.under_plainId PySem.F.plain_extend_loop _]
    show wpAny _ A.in1 (pyNext (.ref z) >>= _) _ _ _
    refine wpAny_bind (zs_done (s := { s with heap := h, toks := tk }) (A := A.in1) hh D hst ?_ fun h' hk' => ?_)
    · rcases Nat.le_total xs.size ys.size with q | q
      · exact .inl (Array.getElem?_eq_none (by omega))
      · exact .inr (Array.getElem?_eq_none (by omega))
    refine wpAny_pure (hR h' tk acc c as (fun b o q1 q2 q3 q4 q5 e => hk' b o q2 q3 q4 q5 (hkeep b o q1 q2 q3 q4 q5 e)) (hk' S _ F.zS.symm F.TOS.symm F.i1S.symm F.i2S.symm hS) (by omega) ⟨hG.1, hG.2.1, fun j a hj => ?_⟩ hacc)
    obtain ⟨x, y, e1, e2, e3⟩ := hG.2.2 j a hj
    have ha : lo ≤ a := hG.2.1 a (List.mem_of_getElem? hj)
    exact ⟨x, y, e1, e2, hk' a _ (Nat.ne_of_gt (Nat.lt_of_lt_of_le (hlo z (by simp)) ha)) (Nat.ne_of_gt (Nat.lt_of_lt_of_le (hlo TO (by simp)) ha)) (Nat.ne_of_gt (Nat.lt_of_lt_of_le (hlo i1 (by simp)) ha)) (Nat.ne_of_gt (Nat.lt_of_lt_of_le (hlo i2 (by simp)) ha)) e3⟩
  | succ k ih =>
    intro i h tk c acc as hk hi hst hkeep hS hacc hal hG hIs
    have hlt : i < xs.size := by omega
    have hlt' : i < ys.size := by omega
    have hx : xs[i]? = some xs[i] := Array.getElem?_eq_getElem hlt
    have hy : ys[i]? = some ys[i] := Array.getElem?_eq_getElem hlt'
    have hsz : acc.size = i := by rw [← Array.length_toList, hacc, List.length_map, hal]
    have hSl : S < h.objs.size := Heap.lt_size hS
    refine codeAny_builtin PySem.F.entry_extend_loop ?_
    rw [Around.under_plainId PySem.F.plain_extend_loop _]
    show wpAny _ A.in1 (pyNext (.ref z) >>= _) _ _ _
    refine wpAny_bind (zs_item (s := { s with heap := h, toks := tk }) (S := S) D hst hSl hx hy fun h' hst' ht hkp => ?_)
    dsimp only at ht hkp ⊢
    have hS' := hkp S _ F.zS.symm F.TOS.symm F.i1S.symm F.i2S.symm hS
    have up : ∀ b o, b ≠ S → h'.get? b = some o → (h'.update S (Obj.mapSeq (·.push (Value.ref h.objs.size)))).get? b = some o := fun b o hb e => (Heap.get?_update_other _ _ (Ne.symm hb)).trans e
    show wpAny _ A.in1 (updateSeq S (·.push (Value.ref h.objs.size)) >>= _) _ _ _
    refine wpAny_bind ?_
    have ht' := up _ _ (Nat.ne_of_gt hSl) ht
    refine wpAny_updateSeq hS' rfl (wpAny_pure ⟨plainId_quiet PySem.F.plain_extend_loop _, ih (i + 1) _ tk _ (acc.push (Value.ref h.objs.size)) (as ++ [h.objs.size]) (by omega) (by omega) (hst'.keep F up)
      (fun b o q1 q2 q3 q4 q5 e => up b o q1 (hkp b o q2 q3 q4 q5 (hkeep b o q1 q2 q3 q4 q5 e))) (Heap.get?_update_self _ hS' rfl) (by rw [Array.toList_push, hacc, List.map_append]; rfl) (by rw [List.length_append, hal]; rfl) ⟨?_, ?_, ?_⟩ (Nat.le_trans hIs (Nat.le_of_lt (Heap.lt_size ht')))⟩) (by rw [hsz]; omega) (by show (acc.push (Value.ref h.objs.size)).size ≤ sizeLine + 1; rw [Array.size_push, hsz]; omega)
    · refine List.pairwise_append.mpr ⟨hG.1, List.pairwise_singleton _ _, fun a ha b hb => ?_⟩
      rw [List.mem_singleton.mp hb]
      obtain ⟨j, hj⟩ := List.mem_iff_getElem?.mp ha
      obtain ⟨_, _, _, _, e⟩ := hG.2.2 j a hj
      exact Heap.lt_size e
    · intro a ha
      rcases List.mem_append.mp ha with ha | ha
      · exact hG.2.1 a ha
      · rw [List.mem_singleton.mp ha]; exact hIs
    · intro j b hj
      rcases Nat.lt_trichotomy j as.length with q | q | q
      · rw [List.getElem?_append_left q] at hj
        obtain ⟨x, y, e1, e2, e3⟩ := hG.2.2 j b hj
        have hb : lo ≤ b := hG.2.1 b (List.mem_of_getElem? hj)
        exact ⟨x, y, e1, e2, up b _ (Nat.ne_of_gt (Nat.lt_of_lt_of_le (hlo S (by simp)) hb)) (hkp b _ (Nat.ne_of_gt (Nat.lt_of_lt_of_le (hlo z (by simp)) hb)) (Nat.ne_of_gt (Nat.lt_of_lt_of_le (hlo TO (by simp)) hb)) (Nat.ne_of_gt (Nat.lt_of_lt_of_le (hlo i1 (by simp)) hb)) (Nat.ne_of_gt (Nat.lt_of_lt_of_le (hlo i2 (by simp)) hb)) e3)⟩
      · subst q
        have hb : h.objs.size = b := by simpa using hj
        subst hb
        rw [hal]
        exact ⟨_, _, hx, hy, ht'⟩
      · have hnone : (as ++ [h.objs.size])[j]? = none := List.getElem?_eq_none (by rw [List.length_append, List.length_singleton]; omega)
        rw [hnone] at hj; cases hj
end
end
end Zv
namespace Zv
open PySem PySem.Spec
noncomputable section
theorem nolen_zip : typeLookup (.type "zip") "__len__" = pure none := by rw [typeLookup_type, builtinLookup_eq_fast]; kernel_rfl
theorem nohint_zip : typeLookup (.type "zip") "__length_hint__" = pure none := by rw [typeLookup_type, builtinLookup_eq_fast]; kernel_rfl
section
variable {prog : Program} {w : World} {A : Around} {E : Value → Shared → Prop} {s : Shared} {z TI TO i1 i2 l1 l2 S : Addr} {xs ys : Array Value}
theorem St0.at {h h' : Heap} (x : St0 h z TI TO i1 i2 l1 l2 xs ys) (k : ∀ b o, h.get? b = some o → (b = z ∨ b = TI ∨ b = TO ∨ b = i1 ∨ b = i2 ∨ b = l1 ∨ b = l2) → h'.get? b = some o) : St0 h' z TI TO i1 i2 l1 l2 xs ys := by
  obtain ⟨a, b, ⟨u, v, c⟩, d⟩ := x
  exact ⟨k _ _ a (by simp), k _ _ b (by simp), ⟨u, v, k _ _ c (by simp)⟩, d.at fun b hb o e => k b o e (by rcases hb with q | q | q | q <;> simp [q])⟩
theorem zextend {R : Result → Shared → Prop} (hh : A.handled = none) (D : ZipApart z TI TO i1 i2 l1 l2) (F : Far z TI TO i1 i2 l1 l2 S) (st : St0 s.heap z TI TO i1 i2 l1 l2 xs ys) (hn : xs.size ≤ sizeLine)
    (res : Value) (c₀ : Nat) (hS : s.heap.get? S = some { cls := .type "list", data := .seq #[] c₀ })
    (hR : ∀ h' tk acc c as, (∀ b o, b ≠ S → b ≠ z → b ≠ TO → b ≠ i1 → b ≠ i2 → s.heap.get? b = some o → h'.get? b = some o) → h'.get? S = some { cls := .type "list", dict := none, data := .seq acc c, slots := #[] } → as.length = min xs.size ys.size → Got xs ys s.heap.objs.size h' as →
      acc.toList = as.map Value.ref → R (.ok (.ret res)) { s with heap := h', toks := tk }) :
    wpAny (model prog w) A.in1 (Builtin.List.listExtendWith (.ref S) (.ref z) res)
      (fun fin s' => match fin with | .done f => R (.ok f) s' | .again c' => c'.quiet = true ∧ codeAny (model prog w) A c' R s') (fun e s' => R (.error e) s') s := by
  have hz := st.2.1
  have hT : s.TypeIs (.ref z) "zip" := ⟨_, hz, rfl⟩
  have lS : S < s.heap.objs.size := Heap.lt_size hS
  have lo : ∀ b, b = S ∨ b = z ∨ b = TO ∨ b = i1 ∨ b = i2 → b < s.heap.objs.size := by
    obtain ⟨a, b, ⟨u, v, c⟩, d⟩ := id st
    intro b hb
    rcases hb with q | q | q | q | q
    · rw [q]; exact lS
    · rw [q]; exact Heap.lt_size hz
    · rw [q]; exact Heap.lt_size c
    · rw [q]; rcases d with ⟨d, _⟩ | ⟨d, _⟩
      · exact lt_iter1 d
      · exact lt_iter2 d
    · rw [q]; rcases d with ⟨_, d, _⟩ | ⟨_, d, _⟩
      · exact lt_iter1 d
      · exact lt_iter2 d
  unfold Builtin.List.listExtendWith
  refine wpAny_bind (wpAny_typeOf hT ?_)
  have h1 : Builtin.List.listSameRef (.ref S) (.ref z) = false := by simp [Builtin.List.listSameRef, F.zS.symm]
  have h2 : (Value.type "zip" == Value.type "list") = false := by decide
  have h3 : (Value.type "zip" == Value.type "tuple") = false := by decide
  simp only [h1, h2, h3, Bool.or_false, Bool.false_eq_true, if_false]
  refine wpAny_bind (wpAny_pyIter_zip hz ?_)
  refine wpAny_bind (wpAny_holding ?_)
  unfold Builtin.List.listLengthHint
  refine wpAny_bind (wpAny_specialOf hT nolen_zip ?_)
  show wpAny _ A.in1 (specialOf (Value.ref z) (Str.ofString "__length_hint__") >>= _) _ _ _
  refine wpAny_bind (wpAny_specialOf hT nohint_zip ?_)
  refine wpAny_pure ?_
  show wpAny _ A.in1 (rule "list.extend.makes-room" >>= fun _ => Builtin.List.listTouch (.ref S) >>= fun _ =>
    again (.builtin "list.extend.loop" ⟨[.ref S, .ref z, res], []⟩)) _ _ _
  refine wpAny_bind (wpAny_rule ?_)
  refine wpAny_bind ?_
  show wpAny _ A.in1 (updateSeq S (·.push .none) >>= fun _ => updateSeq S (·.pop)) _ _ _
  refine wpAny_bind (wpAny_updateSeq hS rfl ?_)
  have hS₂ := Heap.get?_update_self (Obj.mapSeq (·.push Value.none)) hS rfl
  refine wpAny_updateSeq (hz := by seq_fits) hS₂ rfl ?_
  have hS₃ := Heap.get?_update_self (Obj.mapSeq (·.pop)) hS₂ rfl
  have oth : ∀ b o, b ≠ S → s.heap.get? b = some o → ((s.heap.update S (Obj.mapSeq (·.push Value.none))).update S (Obj.mapSeq (·.pop))).get? b = some o :=
    fun b o hb e => (Heap.get?_update_other _ _ (Ne.symm hb)).trans ((Heap.get?_update_other _ _ (Ne.symm hb)).trans e)
  have hsz : ((s.heap.update S (Obj.mapSeq (·.push Value.none))).update S (Obj.mapSeq (·.pop))).objs.size = s.heap.objs.size := by
    rw [(Heap.SameBut.update (h := s.heap.update S (Obj.mapSeq (·.push Value.none))) (a := S) ..).1, (Heap.SameBut.update (h := s.heap) (a := S) ..).1]
  refine wpAny_pure ⟨plainId_quiet PySem.F.plain_extend_loop _, zloop (h₁ := s.heap) (lo := s.heap.objs.size) hh D F hn res rfl lo hR _ 0 _ s.toks _ _ [] rfl (Nat.zero_le _) ((ZSt.keep (.inl ⟨rfl, st⟩) F oth)) (fun b o q1 _ _ _ _ e => oth b o q1 e) hS₃ rfl rfl ⟨List.Pairwise.nil, (fun _ ha => nomatch ha), (fun j a hj => by simp at hj)⟩ (by rw [hsz]; exact Nat.le_refl _)⟩
theorem far_of (st : St0 s.heap z TI TO i1 i2 l1 l2 xs ys) : Far z TI TO i1 i2 l1 l2 s.heap.objs.size := by
  obtain ⟨a, b, ⟨u, v, c⟩, d⟩ := st
  rcases d with ⟨d1, d2, d3, d4⟩ | ⟨d1, d2, d3, d4⟩
  · exact ⟨Nat.ne_of_lt (Heap.lt_size b), Nat.ne_of_lt (Heap.lt_size a), Nat.ne_of_lt (Heap.lt_size c), Nat.ne_of_lt (lt_iter1 d1), Nat.ne_of_lt (lt_iter1 d2), Nat.ne_of_lt (let ⟨_, e, _⟩ := d3; Heap.lt_size e), Nat.ne_of_lt (let ⟨_, e, _⟩ := d4; Heap.lt_size e)⟩
  · exact ⟨Nat.ne_of_lt (Heap.lt_size b), Nat.ne_of_lt (Heap.lt_size a), Nat.ne_of_lt (Heap.lt_size c), Nat.ne_of_lt (lt_iter2 d1), Nat.ne_of_lt (lt_iter2 d2), Nat.ne_of_lt (let ⟨_, e, _⟩ := d3; Heap.lt_size e), Nat.ne_of_lt (let ⟨_, e, _⟩ := d4; Heap.lt_size e)⟩
theorem Got.low {lo lo' : Addr} {h : Heap} {as : List Addr} (g : Got xs ys lo h as) (hl : lo' ≤ lo) : Got xs ys lo' h as := ⟨g.1, fun a ha => Nat.le_trans hl (g.2.1 a ha), g.2.2⟩
/-- list(z) -/
theorem call_list_zip {Q : Value → Shared → Prop} (hh : A.handled = none) (D : ZipApart z TI TO i1 i2 l1 l2) (st : St0 s.heap z TI TO i1 i2 l1 l2 xs ys) (hn : xs.size ≤ sizeLine)
    (hQ : ∀ h' tk acc c as, (∀ b o, b ≠ z → b ≠ TO → b ≠ i1 → b ≠ i2 → s.heap.get? b = some o → h'.get? b = some o) → h'.get? s.heap.objs.size = some { cls := .type "list", dict := none, data := .seq acc c, slots := #[] } → as.length = min xs.size ys.size → Got xs ys (s.heap.objs.size + 1) h' as →
      acc.toList = as.map Value.ref → Q (.ref s.heap.objs.size) { s with heap := h', toks := tk }) :
    wpAny (model prog w) A (call (.type "list") [.ref z]) Q E s := by
  have F := far_of st
  refine callType_codes (Q₁ := fun obj s₁ => obj = .ref s.heap.objs.size ∧ s₁ = { s with heap := s.heap.push { cls := .type "list", data := .seq #[] } }) PySem.F.called_list (PySem.F.typeCall_list_1 _) PySem.F.entry_list_init
    (code_list_new _ ⟨rfl, rfl⟩) fun obj s₁ h₁ => ?_
  obtain ⟨rfl, rfl⟩ := h₁
  have hS : (s.heap.push { cls := .type "list", data := .seq #[] }).get? s.heap.objs.size = some { cls := .type "list", data := .seq #[] } := Heap.get?_push_size _ rfl
  refine ⟨⟨_, hS, rfl⟩, PySem.F.args_list_init_2 _ _, ?_⟩
  show wpAny _ _ (do let old ← Builtin.List.listItems (.ref s.heap.objs.size); Builtin.List.listUpdate (.ref s.heap.objs.size) (fun _ => #[]); letGo old.toList.reverse; Builtin.List.listExtendWith (.ref s.heap.objs.size) (.ref z) .none) _ _ _
  refine wpAny_bind ?_
  unfold Builtin.List.listItems
  refine wpAny_bind (wpAny_seqItems hS rfl (wpAny_pure ?_))
  show wpAny _ _ (updateSeq s.heap.objs.size (fun _ => #[]) >>= fun _ => letGo (#[] : Array Value).toList.reverse >>= fun _ => Builtin.List.listExtendWith (.ref s.heap.objs.size) (.ref z) .none) _ _ _
  refine wpAny_bind (wpAny_updateSeq hS rfl ?_)
  have hS₂ := Heap.get?_update_self (Obj.mapSeq (fun _ => (#[] : Array Value))) hS rfl
  have oth : ∀ b o, b ≠ s.heap.objs.size → s.heap.get? b = some o → ((s.heap.push { cls := .type "list", data := .seq #[] }).update s.heap.objs.size (Obj.mapSeq (fun _ => (#[] : Array Value)))).get? b = some o :=
    fun b o hb e => (Heap.get?_update_other _ _ (Ne.symm hb)).trans (Heap.get?_push_of_some _ e)
  have hsz : ((s.heap.push { cls := .type "list", data := .seq #[] }).update s.heap.objs.size (Obj.mapSeq (fun _ => (#[] : Array Value)))).objs.size = s.heap.objs.size + 1 := by
    rw [(Heap.SameBut.update (h := s.heap.push { cls := .type "list", data := .seq #[] }) (a := s.heap.objs.size) ..).1, Heap.size_push]
  refine wpAny_bind (wpAny_letGo ?_)
  refine zextend (A := A.in1) hh D F (st.at fun b o e _ => oth b o (Nat.ne_of_lt (Heap.lt_size e)) e) hn .none _ hS₂ fun h' tk acc c as hk hS' hl hG hacc => ?_
  exact ⟨rfl, hQ h' tk acc c as (fun b o q2 q3 q4 q5 e => hk b o (Nat.ne_of_lt (Heap.lt_size e)) q2 q3 q4 q5 (oth b o (Nat.ne_of_lt (Heap.lt_size e)) e)) hS' hl (hG.low (by rw [← hsz]; exact Nat.le_refl _)) hacc⟩
theorem zcollect {Q : List Value → Shared → Prop} (hh : A.handled = none) (D : ZipApart z TI TO i1 i2 l1 l2) (st : St0 s.heap z TI TO i1 i2 l1 l2 xs ys) (hn : xs.size ≤ sizeLine)
    (hQ : ∀ (h' : Heap) (tk : Nat) (as : List Addr), (∀ b o, b ≠ z → b ≠ TO → b ≠ i1 → b ≠ i2 → s.heap.get? b = some o → h'.get? b = some o) → as.length = min xs.size ys.size → Got xs ys (s.heap.objs.size + 1) h' as → Q (as.map Value.ref) { s with heap := h', toks := tk }) :
    wpAny (model prog w) A (collect (.ref z)) Q E s := by
  have F := far_of st
  unfold collect
  refine wpAny_bind (wpAny_runValue (codeAny_builtin PySem.F.entry_proto_collect ?_))
  rw [Around.under_plainId PySem.F.plain_proto_collect _]
  show wpAny _ A.in1 (newList [] >>= fun l => again (.builtin "list.__iadd__" ⟨[l, .ref z], []⟩)) _ _ s
  refine wpAny_bind (wpAny_newObj_type ?_)
  refine wpAny_pure ⟨plainId_quiet PySem.F.plain_list_iadd _, codeAny_builtin PySem.F.entry_list_iadd ?_⟩
  rw [Around.under_plainId PySem.F.plain_list_iadd _]
  show wpAny _ A.in1 (Builtin.List.listExtendWith (.ref s.heap.objs.size) (.ref z) (.ref s.heap.objs.size)) _ _ _
  have hS : (s.heap.push { cls := .type "list", data := .seq ([] : List Value).toArray }).get? s.heap.objs.size = some { cls := .type "list", data := .seq #[] 0 } := Heap.get?_push_size _ rfl
  refine wpAny_mono (zextend (A := A) (R := fun rr s' => rr = .ok (.ret (.ref s.heap.objs.size)) ∧ ∃ (h' : Heap) (tk : Nat) (acc : Array Value) (c' : Nat) (as : List Addr), s' = { s with heap := h', toks := tk } ∧
      (∀ b o, b ≠ z → b ≠ TO → b ≠ i1 → b ≠ i2 → s.heap.get? b = some o → h'.get? b = some o) ∧ h'.get? s.heap.objs.size = some { cls := .type "list", dict := none, data := .seq acc c', slots := #[] } ∧ as.length = min xs.size ys.size ∧ Got xs ys (s.heap.objs.size + 1) h' as ∧ acc.toList = as.map Value.ref)
    (s := { s with heap := s.heap.push { cls := .type "list", data := .seq ([] : List Value).toArray } }) hh D F (st.at fun b o e _ => Heap.get?_push_of_some _ e) hn _ 0 hS
    (fun h' tk acc c' as hk e hl hG hacc => ⟨rfl, h', tk, acc, c', as, rfl, fun b o q2 q3 q4 q5 q => hk b o (Nat.ne_of_lt (Heap.lt_size q)) q2 q3 q4 q5 (Heap.get?_push_of_some _ q), e, hl, hG.low (by show s.heap.objs.size + 1 ≤ (s.heap.push _).objs.size; rw [Heap.size_push]; exact Nat.le_refl _), hacc⟩)) (fun fin s' h => ?_) (fun e s' h => ?_)
  · cases fin with
    | done f =>
      obtain ⟨e, h', tk, acc, c', as, rfl, hk, hS', hl, hG, hacc⟩ := h
      cases e
      show wpAny _ A (load s.heap.objs.size >>= _) _ _ _
      refine wpAny_bind (wpAny_load hS' (wpAny_pure ?_))
      show Q acc.toList _
      rw [hacc]
      exact hQ h' tk as hk hl hG
    | again c' =>
      refine ⟨h.1, codeAny_mono h.2 fun rr s'' hr' => ?_⟩
      obtain ⟨rfl, h', tk, acc, c', as, rfl, hk, hS', hl, hG, hacc⟩ := hr'
      show wpAny _ A (load s.heap.objs.size >>= _) _ _ _
      refine wpAny_bind (wpAny_load hS' (wpAny_pure ?_))
      show Q acc.toList _
      rw [hacc]
      exact hQ h' tk as hk hl hG
  · exact absurd h.1 (by simp)
theorem code_tuple_new_zip {Q₁ : Value → Shared → Prop} (hh : A.handled = none) (D : ZipApart z TI TO i1 i2 l1 l2) (st : St0 s.heap z TI TO i1 i2 l1 l2 xs ys) (hn : xs.size ≤ sizeLine)
    (h : ∀ (h' : Heap) (tk : Nat) (as : List Addr), (∀ b o, b ≠ z → b ≠ TO → b ≠ i1 → b ≠ i2 → s.heap.get? b = some o → h'.get? b = some o) → as.length = min xs.size ys.size → Got xs ys (s.heap.objs.size + 1) h' as →
      Q₁ (.ref h'.objs.size) { s with heap := h'.push { cls := .type "tuple", data := .seq (as.map Value.ref).toArray }, toks := tk }) :
    codeAny (model prog w) A (.call (.builtin "tuple.__new__") ⟨[.type "tuple", .ref z], []⟩) (wants Q₁ E) s := by
  refine codeAny_of_tree ?_
  show wpAny _ A.in1 (do checkBuiltinCall "tuple.__new__" ⟨[.type "tuple", .ref z], []⟩; again (.builtin "tuple.__new__" ⟨[.type "tuple", .ref z], []⟩)) _ _ s
  refine wpAny_bind (wpAny_of_eq (PySem.F.newCall_tuple_1 _) (wpAny_pure ⟨plainId_quiet PySem.F.plain_tuple_new _, codeAny_builtin PySem.F.entry_tuple_new ?_⟩))
  rw [Around.under_plainId PySem.F.plain_tuple_new _]
  have hsub := sub_tuple_self
  have hinit := init_tuple_lookup
  have hmh := madeHere_tuple
  have hTI : s.TypeIs (.ref z) "zip" := ⟨_, st.2.1, rfl⟩
  have hh1 : A.in1.handled = none := hh
  wp_walk using wpAny_typeOf hTI, zcollect (A := A.in1) hh1 D st hn
  intro h' tk as hk hl hG
  show wpAny _ _ (Builtin.Tuple.tupleExact (as.map Value.ref).toArray >>= fun v => ret v) _ _ _
  unfold Builtin.Tuple.tupleExact
  refine wpAny_bind (wpAny_newObj_type ?_ (by show (as.map Value.ref).toArray.size ≤ sizeLine; rw [List.size_toArray, List.length_map, hl]; omega))
  exact wpAny_pure (h h' tk as hk hl hG)
/-- tuple(z) -/
theorem call_tuple_zip {Q : Value → Shared → Prop} (hh : A.handled = none) (D : ZipApart z TI TO i1 i2 l1 l2) (st : St0 s.heap z TI TO i1 i2 l1 l2 xs ys) (hn : xs.size ≤ sizeLine)
    (hQ : ∀ (h' : Heap) (tk : Nat) (as : List Addr), (∀ b o, b ≠ z → b ≠ TO → b ≠ i1 → b ≠ i2 → s.heap.get? b = some o → h'.get? b = some o) → as.length = min xs.size ys.size → Got xs ys (s.heap.objs.size + 1) h' as →
      Q (.ref h'.objs.size) { s with heap := h'.push { cls := .type "tuple", data := .seq (as.map Value.ref).toArray }, toks := tk }) :
    wpAny (model prog w) A (call (.type "tuple") [.ref z]) Q E s := by
  refine callType_codes (Q₁ := fun obj s₁ => s₁.TypeIs obj "tuple" ∧ Q obj s₁) PySem.F.called_tuple (PySem.F.typeCall_tuple_1 _) PySem.F.entry_object_init
    (code_tuple_new_zip (A := A.in1) hh D st hn fun h' tk as hk hl hG => ⟨⟨_, Heap.get?_push_size _ rfl, rfl⟩, hQ h' tk as hk hl hG⟩) fun obj s₁ h₁ => ?_
  exact ⟨h₁.1, PySem.F.args_object_init_2 obj _, object_init_meets PySem.F.called_tuple.init.lookup PySem.F.called_tuple.made (by decide) prog w A.in1 _ s₁ ⟨h₁.1, rfl, h₁.2⟩⟩
end
end
end Zv
namespace Sm
open PySem PySem.Spec PyProof.Rows L2
noncomputable section
/-! ### tuple(zip(a, b)), list(zip(a, b)) -/
def upds (H : Hp) : List (Addr × HO) → Hp
  | [] => H
  | p :: r => upds (upd H p.1 p.2) r
theorem laidL {X : Cx} {pins : List (Addr × Obj)} {σ : L2.St} {h' : Heap} {t' : Nat} : ∀ (news : List (Addr × HO)) {H : Hp} {s : Shared}, Inv X pins σ H s → (∀ b u, s.heap.get? b = some u → h'.get? b = some u) →
    (∀ p ∈ news, s.heap.get? p.1 = none ∧ H p.1 = none) → (news.map (·.1)).Nodup → (∀ p ∈ news, ∀ (H1 : Hp) (G : Heap), G.get? p.1 = h'.get? p.1 → ObjOk X.prog X.w H1 G p.1 p.2) → Inv X pins σ (upds H news) { s with heap := h', toks := t' }
  | [], H, s, I, k, _, _, _ => I.kept k
  | (a, o) :: r, H, s, I, k, hn, nd, ok => by
    obtain ⟨G, g1, g2⟩ := restrict h' fun b => decide (b ∉ r.map (·.1))
    have nd' := List.nodup_cons.mp nd
    have ga : G.get? a = h'.get? a := g1 a (decide_eq_true nd'.1)
    have kG : ∀ b u, s.heap.get? b = some u → G.get? b = some u := fun b u e => by
      rw [g1 b (decide_eq_true fun hb => ?_)]
      · exact k b u e
      · obtain ⟨p, hp, e2⟩ := List.mem_map.mp hb
        have := (hn p (List.mem_cons_of_mem _ hp)).1
        rw [e2, e] at this
        cases this
    have Gk : ∀ b u, G.get? b = some u → h'.get? b = some u := fun b u e => by
      by_cases hb : b ∉ r.map (·.1)
      · rw [← g1 b (decide_eq_true hb)]; exact e
      · rw [g2 b (decide_eq_false hb)] at e; cases e
    have h0 := hn (a, o) List.mem_cons_self
    have I1 : Inv X pins σ (upd H a o) { s with heap := G, toks := t' } := I.laidN kG h0.1 h0.2 (ok (a, o) List.mem_cons_self _ G ga)
    exact laidL r (H := upd H a o) (s := { s with heap := G, toks := t' }) I1 Gk (fun p hp => ⟨g2 p.1 (decide_eq_false fun z => z (List.mem_map_of_mem hp)), by
      have hne : p.1 ≠ a := fun e => nd'.1 (List.mem_map.mpr ⟨p, hp, e⟩)
      rw [upd_ne hne]
      exact (hn p (List.mem_cons_of_mem _ hp)).2⟩) nd'.2 fun p hp => ok p (List.mem_cons_of_mem _ hp)
/-- the pairs laid -/
def pairsOf : List Addr → List V → List V → List (Addr × HO)
  | a :: as, v :: vs, w :: ws => (a, .tup [v, w]) :: pairsOf as vs ws
  | _, _, _ => []
theorem pairsOf_mem {p : Addr × HO} : ∀ {as : List Addr} {vs ws : List V}, p ∈ pairsOf as vs ws → ∃ (j : Nat) (v w : V), as[j]? = some p.1 ∧ vs[j]? = some v ∧ ws[j]? = some w ∧ p.2 = .tup [v, w]
  | [], _, _, h => by simp [pairsOf] at h
  | _ :: _, [], _, h => by simp [pairsOf] at h
  | _ :: _, _ :: _, [], h => by simp [pairsOf] at h
  | a :: as, v :: vs, w :: ws, h => by
    rcases List.mem_cons.mp h with e | h
    · exact ⟨0, v, w, by rw [e]; rfl, rfl, rfl, by rw [e]⟩
    · obtain ⟨j, v', w', e1, e2, e3, e4⟩ := pairsOf_mem h
      exact ⟨j + 1, v', w', e1, e2, e3, e4⟩
theorem pairsOf_fst : ∀ (as : List Addr) (vs ws : List V), ((pairsOf as vs ws).map (·.1)).Sublist as
  | [], _, _ => by simp [pairsOf]
  | _ :: _, [], _ => by simp [pairsOf]
  | _ :: _, _ :: _, [] => by simp [pairsOf]
  | a :: as, v :: vs, w :: ws => List.Sublist.cons₂ _ (pairsOf_fst as vs ws)
theorem upds_append : ∀ (r q : List (Addr × HO)) (H : Hp), upds H (r ++ q) = upds (upds H r) q
  | [], _, _ => rfl
  | _ :: r, q, H => upds_append r q _
/-! the machine's steps, with our heap -/
section
variable {X : Cx}
theorem got_ok {H1 : Hp} {G h2 : Heap} {xs ys : List V} {its its2 : List Value} {lo : Addr} {as : List Addr} (r1 : Vals xs its) (r2 : Vals ys its2) (g : Zv.Got its.toArray its2.toArray lo h2 as) {p : Addr × HO} (hp : p ∈ pairsOf as xs ys)
    (e : G.get? p.1 = h2.get? p.1) : ObjOk X.prog X.w H1 G p.1 p.2 := by
  obtain ⟨j, v, w, e1, e2, e3, e4⟩ := pairsOf_mem hp
  obtain ⟨u, u2, f1, f2, f3⟩ := g.2.2 j _ e1
  obtain ⟨u', g1, rr1⟩ := r1.get e2
  obtain ⟨u2', g2, rr2⟩ := r2.get e3
  have a1 : u' = u := by
    have : its[j]? = some u := by simpa using f1
    rw [g1] at this
    exact Option.some.inj this
  have a2 : u2' = u2 := by
    have : its2[j]? = some u2 := by simpa using f2
    rw [g2] at this
    exact Option.some.inj this
  subst a1 a2
  rw [e4]
  exact ⟨by show 2 ≤ sizeLine; decide, [u', u2'], .cons rr1 (.cons rr2 .nil), ⟨_, e.trans f3, rfl, _, rfl⟩⟩
def zArgs (K : PySem.W.Frag) (vs : List V) (H1 : Hp) (k : List V → List V → Prop) : Prop := ∃ a b xs ys, vs = [.ref a, .ref b] ∧ ((SqL K H1 a xs ∧ SqL K H1 b ys) ∨ (SqT K H1 a xs ∧ SqT K H1 b ys)) ∧ k xs ys
def tTupZip (K : PySem.W.Frag) (ta : TA) : TE := fun σ H Q => ta σ H fun vs H1 => zArgs K vs H1 fun xs ys => ∀ as q, as.length = min xs.length ys.length → as.Nodup → (∀ c ∈ as, H1 c = none) → H1 q = none → q ∉ as → Q (.ref q) (upd (upds H1 (pairsOf as xs ys)) q (.tup (as.map V.ref)))
def tLstZip (K : PySem.W.Frag) (ta : TA) : TE := fun σ H Q => ta σ H fun vs H1 => zArgs K vs H1 fun xs ys => ∀ as q, as.length = min xs.length ys.length → as.Nodup → (∀ c ∈ as, H1 c = none) → H1 q = none → q ∉ as → Q (.ref q) (upd (upds H1 (pairsOf as xs ys)) q (.lst (as.map V.ref)))
theorem zip_made {e e2 : Expr} {ta : TA} {p pos : Pos} {pins : List (Addr × Obj)} {s : Shared} {σ : L2.St} {H : Hp} {k : Hp → List V → List V → Prop} {Q : Value → Shared → Prop} (hg : Gl X "zip") (hm : X.mg "zip" = none) (ha : PA X [e, e2] ta)
    (hs : starEach [e, e2] X.env = (false, eval e X.env) :: starEach [e2] X.env) (hpl : (backTo pos (starEach [e2] X.env)).any (·.1) = false) (I : Inv X pins σ H s) (h : ta σ H fun vs H1 => zArgs X.K vs H1 (k H1))
    (go : ∀ (s1 : Shared) (H1 : Hp) (z TI TO i1 i2 l1 l2 : Addr) (h' : Heap) (xs ys : List V) (its its2 : List Value), Inv X pins σ H1 s1 → (∀ b o, s1.heap.get? b = some o → h'.get? b = some o) → Vals xs its → Vals ys its2 → ZipApart z TI TO i1 i2 l1 l2 →
      Zv.St0 h' z TI TO i1 i2 l1 l2 its.toArray its2.toArray → xs.length ≤ sizeLine → (∀ b ∈ [z, TO, i1, i2, TI], s1.heap.objs.size ≤ b) → k H1 xs ys → Q (.ref z) { s1 with heap := h' }) :
    wpAny (model X.prog X.w) X.A (eval (.Call (.Name "zip" p) [e, e2] [] pos) X.env) Q X.xe s := by
  refine Call_ (ld_blt I hg hm PyProof.Rows.boot_zip (PyProof.Rows.callWith_type1 (thn (ha.run pos pins s σ H _ I h) fun us s1 ⟨vs, H1, I1, r1, q1⟩ => ?_) hs hpl))
  obtain ⟨a, b, xs, ys, ex, hk, q⟩ := q1
  subst ex
  cases r1 with
  | cons r rr =>
    cases rr with
    | cons r' rr =>
      cases rr
      cases r
      cases r'
      have far : ∀ c ∈ [s1.heap.objs.size + 4, s1.heap.objs.size + 3, s1.heap.objs.size, s1.heap.objs.size + 1, s1.heap.objs.size + 2], s1.heap.objs.size ≤ c := fun c hc => by
        have e' : c = s1.heap.objs.size + 4 ∨ c = s1.heap.objs.size + 3 ∨ c = s1.heap.objs.size ∨ c = s1.heap.objs.size + 1 ∨ c = s1.heap.objs.size + 2 := by simpa using hc
        rcases e' with z | z | z | z | z
        · rw [z]; exact Nat.le_add_right _ _
        · rw [z]; exact Nat.le_add_right _ _
        · rw [z]; exact Nat.le_refl _
        · rw [z]; exact Nat.le_add_right _ _
        · rw [z]; exact Nat.le_add_right _ _
      rcases hk with ⟨hqx, hqy⟩ | ⟨hqx, hqy⟩
      · obtain ⟨its, rv, p1, z1⟩ := I1.list hqx
        obtain ⟨its2, rv2, p2, _⟩ := I1.list hqy
        refine call_zip_2 p1.isList p2.isList fun h' hz hTI hTO h1 h2 hsz hk => ?_
        exact go s1 H1 _ _ _ _ _ a b h' xs ys its its2 I1 hk rv rv2 (PySem.W.ktu_apart s1.heap.objs.size a b p1.lt p2.lt) ⟨hTI, hz, ⟨_, _, hTO⟩, .inr ⟨h1, h2, p1.isList.at fun o => hk _ o, p2.isList.at fun o => hk _ o⟩⟩ z1 far q
      · obtain ⟨its, rv, p1, z1⟩ := I1.tuple hqx
        obtain ⟨its2, rv2, p2, _⟩ := I1.tuple hqy
        obtain ⟨o1, ho1, _⟩ := id p1
        obtain ⟨o2, ho2, _⟩ := id p2
        have t1 : s1.heap.IsTuple a its.toArray := p1
        have t2 : s1.heap.IsTuple b its2.toArray := p2
        refine RZ.call_zipT t1 t2 fun h' hz hTI hTO h1 h2 hsz hk => ?_
        exact go s1 H1 _ _ _ _ _ a b h' xs ys its its2 I1 hk rv rv2 (PySem.W.ktu_apart s1.heap.objs.size a b (Heap.lt_size ho1) (Heap.lt_size ho2)) ⟨hTI, hz, ⟨_, _, hTO⟩, .inl ⟨h1, h2, t1.at fun o => hk _ o, t2.at fun o => hk _ o⟩⟩ z1 far q
theorem rise_nodup {as : List Addr} (h : as.Pairwise (· < ·)) : as.Nodup := h.imp fun q => Nat.ne_of_lt q
theorem vals_refs' : ∀ bs : List Addr, Vals (bs.map V.ref) (bs.map Value.ref)
  | [] => .nil
  | _ :: r => .cons rfl (vals_refs' r)
theorem pe_tupZip {e e2 : Expr} {ta : TA} {p p2 pos pos2 : Pos} (hc : X.calm = true) (hg : Gl X "tuple") (hm : X.mg "tuple" = none) (hg2 : Gl X "zip") (hm2 : X.mg "zip" = none) (ha : PA X [e, e2] ta)
    (hs : starEach [e, e2] X.env = (false, eval e X.env) :: starEach [e2] X.env := by rfl) (hpl : (backTo pos2 (starEach [e2] X.env)).any (·.1) = false := by rfl)
    (hs2 : starEach [.Call (.Name "zip" p2) [e, e2] [] pos2] X.env = (false, eval (.Call (.Name "zip" p2) [e, e2] [] pos2) X.env) :: starEach [] X.env := by rfl) :
    PE X (.Call (.Name "tuple" p) [.Call (.Name "zip" p2) [e, e2] [] pos2] [] pos) (tTupZip X.K ta) := by
  refine ⟨fun pins s σ H Q I h => ?_⟩
  refine Call_ (ld_blt I hg hm boot_tuple (PyProof.Rows.callWith_type1 (args_cons (zip_made hg2 hm2 ha hs hpl I h fun s1 H1 z TI TO i1 i2 l1 l2 h1 xs ys its its2 I1 hk rv rv2 D st hz far q => args_nil ?_) hs2) hs2 rfl))
  have hx : its.toArray.size = xs.length := by rw [List.size_toArray, ← rv.length]
  have hy : its2.toArray.size = ys.length := by rw [List.size_toArray, ← rv2.length]
  have hsl : s1.heap.objs.size ≤ z := far z (by simp)
  have hzl : z < h1.objs.size := Heap.lt_size st.2.1
  refine Zv.call_tuple_zip (s := { s1 with heap := h1 }) (I1.ok.hd hc) D st (by rw [hx]; exact hz) fun h2 tk as hk2 hl g => ?_
  have keep : ∀ b o, s1.heap.get? b = some o → (h2.push { cls := .type "tuple", data := .seq (as.map Value.ref).toArray }).get? b = some o := fun b o e => by
    have hb := Heap.lt_size e
    exact Heap.get?_push_of_some _ (hk2 b o (Nat.ne_of_lt (Nat.lt_of_lt_of_le hb (far z (by simp)))) (Nat.ne_of_lt (Nat.lt_of_lt_of_le hb (far TO (by simp)))) (Nat.ne_of_lt (Nat.lt_of_lt_of_le hb (far i1 (by simp)))) (Nat.ne_of_lt (Nat.lt_of_lt_of_le hb (far i2 (by simp)))) (hk b o e))
  have alt : ∀ c ∈ as, s1.heap.objs.size ≤ c ∧ c < h2.objs.size := fun c hcm => by
    refine ⟨Nat.le_trans (Nat.le_trans hsl (Nat.le_of_lt hzl)) (Nat.le_trans (Nat.le_succ _) (g.2.1 c hcm)), ?_⟩
    obtain ⟨j, hj⟩ := List.mem_iff_getElem?.mp hcm
    obtain ⟨_, _, _, _, e⟩ := g.2.2 j c hj
    exact Heap.lt_size e
  have hq : h2.objs.size ∉ as := fun hm => Nat.lt_irrefl _ (alt _ hm).2
  have lo2 : s1.heap.objs.size ≤ h2.objs.size := Nat.le_of_lt (Nat.lt_of_le_of_lt (far TI (by simp)) (Heap.lt_size (hk2 TI _ D.TIz D.TITO D.TIi1 D.TIi2 st.1)))
  have hmin : as.length = min xs.length ys.length := by rw [hl, hx, hy]
  have none1 : ∀ c, s1.heap.objs.size ≤ c → s1.heap.get? c = none ∧ H1 c = none := fun c hcm => by
    refine ⟨?_, I1.hok.fresh hcm⟩
    cases e : s1.heap.get? c with
    | none => rfl
    | some o => exact absurd (Heap.lt_size e) (Nat.not_lt.mpr hcm)
  have sub := pairsOf_fst as xs ys
  have I3 : Inv X pins σ (upds H1 (pairsOf as xs ys ++ [(h2.objs.size, .tup (as.map V.ref))])) { s1 with heap := h2.push { cls := .type "tuple", data := .seq (as.map Value.ref).toArray }, toks := tk } := by
    refine laidL _ I1 keep (fun p hp => ?_) ?_ fun p hp H2 G e => ?_
    · rcases List.mem_append.mp hp with hp | hp
      · exact none1 _ (alt _ (sub.subset (List.mem_map_of_mem hp))).1
      · rw [List.mem_singleton.mp hp]; exact none1 _ lo2
    · rw [List.map_append]
      refine List.nodup_append.mpr ⟨(rise_nodup g.1).sublist sub, by simp, fun c hc1 d hd => ?_⟩
      intro e
      have : d = h2.objs.size := by simpa using hd
      exact hq (this ▸ e ▸ sub.subset hc1)
    · rcases List.mem_append.mp hp with hp | hp
      · refine got_ok rv rv2 g hp (e.trans ?_)
        have hlt := (alt _ (sub.subset (List.mem_map_of_mem hp))).2
        obtain ⟨j, v, w, e1, _⟩ := pairsOf_mem hp
        obtain ⟨_, _, _, _, e5⟩ := g.2.2 j _ e1
        exact (Heap.get?_push_of_some _ e5).trans e5.symm
      · have ep := List.mem_singleton.mp hp
        subst ep
        refine ⟨by rw [List.length_map, hmin]; omega, as.map Value.ref, vals_refs' as, ⟨_, e.trans (Heap.get?_push_size _ rfl), rfl, _, rfl⟩⟩
  rw [upds_append] at I3
  exact ⟨.ref h2.objs.size, _, I3, rfl, q as _ hmin (rise_nodup g.1) (fun c hcm => (none1 c (alt c hcm).1).2) (none1 _ lo2).2 hq⟩
theorem pe_lstZip {e e2 : Expr} {ta : TA} {p p2 pos pos2 : Pos} (hc : X.calm = true) (hg : Gl X "list") (hm : X.mg "list" = none) (hg2 : Gl X "zip") (hm2 : X.mg "zip" = none) (ha : PA X [e, e2] ta)
    (hs : starEach [e, e2] X.env = (false, eval e X.env) :: starEach [e2] X.env := by rfl) (hpl : (backTo pos2 (starEach [e2] X.env)).any (·.1) = false := by rfl)
    (hs2 : starEach [.Call (.Name "zip" p2) [e, e2] [] pos2] X.env = (false, eval (.Call (.Name "zip" p2) [e, e2] [] pos2) X.env) :: starEach [] X.env := by rfl) :
    PE X (.Call (.Name "list" p) [.Call (.Name "zip" p2) [e, e2] [] pos2] [] pos) (tLstZip X.K ta) := by
  refine ⟨fun pins s σ H Q I h => ?_⟩
  refine Call_ (ld_blt I hg hm boot_list (PyProof.Rows.callWith_type1 (args_cons (zip_made hg2 hm2 ha hs hpl I h fun s1 H1 z TI TO i1 i2 l1 l2 h1 xs ys its its2 I1 hk rv rv2 D st hz far q => args_nil ?_) hs2) hs2 rfl))
  have hx : its.toArray.size = xs.length := by rw [List.size_toArray, ← rv.length]
  have hy : its2.toArray.size = ys.length := by rw [List.size_toArray, ← rv2.length]
  have hsl : s1.heap.objs.size ≤ z := far z (by simp)
  have hzl : z < h1.objs.size := Heap.lt_size st.2.1
  have lo1 : s1.heap.objs.size ≤ h1.objs.size := Nat.le_of_lt (Nat.lt_of_le_of_lt hsl hzl)
  refine Zv.call_list_zip (s := { s1 with heap := h1 }) (I1.ok.hd hc) D st (by rw [hx]; exact hz) fun h2 tk acc cc as hk2 hS hl g hacc => ?_
  have keep : ∀ b o, s1.heap.get? b = some o → h2.get? b = some o := fun b o e => by
    have hb := Heap.lt_size e
    exact hk2 b o (Nat.ne_of_lt (Nat.lt_of_lt_of_le hb (far z (by simp)))) (Nat.ne_of_lt (Nat.lt_of_lt_of_le hb (far TO (by simp)))) (Nat.ne_of_lt (Nat.lt_of_lt_of_le hb (far i1 (by simp)))) (Nat.ne_of_lt (Nat.lt_of_lt_of_le hb (far i2 (by simp)))) (hk b o e)
  have alt : ∀ c ∈ as, h1.objs.size + 1 ≤ c := fun c hcm => g.2.1 c hcm
  have hq : h1.objs.size ∉ as := fun hm => Nat.not_succ_le_self _ (alt _ hm)
  have hmin : as.length = min xs.length ys.length := by rw [hl, hx, hy]
  have none1 : ∀ c, s1.heap.objs.size ≤ c → s1.heap.get? c = none ∧ H1 c = none := fun c hcm => by
    refine ⟨?_, I1.hok.fresh hcm⟩
    cases e : s1.heap.get? c with
    | none => rfl
    | some o => exact absurd (Heap.lt_size e) (Nat.not_lt.mpr hcm)
  have lo3 : ∀ c ∈ as, s1.heap.objs.size ≤ c := fun c hcm => Nat.le_trans lo1 (Nat.le_trans (Nat.le_succ _) (alt c hcm))
  have sub := pairsOf_fst as xs ys
  have I3 : Inv X pins σ (upds H1 (pairsOf as xs ys ++ [(h1.objs.size, .lst (as.map V.ref))])) { s1 with heap := h2, toks := tk } := by
    refine laidL _ I1 keep (fun p hp => ?_) ?_ fun p hp H2 G e => ?_
    · rcases List.mem_append.mp hp with hp | hp
      · exact none1 _ (lo3 _ (sub.subset (List.mem_map_of_mem hp)))
      · rw [List.mem_singleton.mp hp]; exact none1 _ lo1
    · rw [List.map_append]
      refine List.nodup_append.mpr ⟨(rise_nodup g.1).sublist sub, by simp, fun c hc1 d hd => ?_⟩
      intro e
      have : d = h1.objs.size := by simpa using hd
      exact hq (this ▸ e ▸ sub.subset hc1)
    · rcases List.mem_append.mp hp with hp | hp
      · exact got_ok rv rv2 g hp e
      · have ep := List.mem_singleton.mp hp
        subst ep
        refine ⟨by rw [List.length_map, hmin]; omega, as.map Value.ref, cc, vals_refs' as, ?_⟩
        rw [← hacc, Array.toArray_toList]
        exact e.trans hS
  rw [upds_append] at I3
  exact ⟨.ref h1.objs.size, _, I3, rfl, q as _ hmin (rise_nodup g.1) (fun c hcm => (none1 c (lo3 c hcm)).2) (none1 _ lo1).2 hq⟩
end
/-! the mirrors -/
def zipD : List D → List D → List D
  | x :: xs, y :: ys => .tup [x, y] :: zipD xs ys
  | _, _ => []
def zipSrc (ds : List D) (h : Hm) : Option (List D) := match ds with
  | [.ref i, .ref j] => match h.get i, h.get j with
    | some (.lst xs), some (.lst ys) => some (zipD xs ys)
    | _, _ => none
  | [.tup xs, .tup ys] => some (zipD xs ys)
  | _ => none
def mTupZip (k : MA) : ME := fun σ h => (k σ h).bind fun ds h1 => match zipSrc ds h1 with
  | some l => .ok (.tup l) h1
  | none => .bad
def mLstZip (k : MA) : ME := fun σ h => (k σ h).bind fun ds h1 => match zipSrc ds h1 with
  | some l => .ok (.ref h1.n) (h1.push (.lst l))
  | none => .bad
section
variable {X : Cx} {Z : Cz} {E : L2.St → XK} {pos pos2 p p2 : Pos} {e e2 : Expr} {ka : MA}
theorem pairs_rep {ρ : Nat → Addr} {h : Hm} : ∀ {as : List Addr} {xs ys : List D} {vs ws : List V} {H : Hp}, Rep Z ρ h H → RVs Z ρ h.n H xs vs → RVs Z ρ h.n H ys ws → as.length = min vs.length ws.length → as.Nodup → (∀ c ∈ as, H c = none) →
    Ext ρ h.n H ρ h.n (upds H (pairsOf as vs ws)) ∧ Rep Z ρ h (upds H (pairsOf as vs ws)) ∧ RVs Z ρ h.n (upds H (pairsOf as vs ws)) (zipD xs ys) (as.map V.ref) ∧ ∀ q, q ∉ as → upds H (pairsOf as vs ws) q = H q
  | [], xs, ys, vs, ws, H, r, rx, ry, hl, _, _ => by
    have e : zipD xs ys = [] := by
      have l1 := rx.length
      have l2 := ry.length
      cases xs with
      | nil => rfl
      | cons _ _ => cases ys with
        | nil => rfl
        | cons _ _ => simp only [List.length_cons, List.length_nil] at hl l1 l2; omega
    rw [e]
    exact ⟨Ext.refl, r, .nil, fun _ _ => rfl⟩
  | a :: as, xs, ys, vs, ws, H, r, rx, ry, hl, nd, hn => by
    cases rx with
    | nil => simp at hl
    | cons r1 rx =>
      cases ry with
      | nil => simp at hl
      | cons r2 ry =>
        obtain ⟨nd1, nd2⟩ := List.nodup_cons.mp nd
        obtain ⟨e1, rep1, rv1⟩ := yld_tup r (.cons r1 (.cons r2 .nil)) (hn a List.mem_cons_self)
        obtain ⟨e2, rep2, rv2, ot⟩ := pairs_rep (as := as) rep1 (rx.mono r e1) (ry.mono r e1) (by simp only [List.length_cons] at hl; omega) nd2 fun c hc => by
          have hne : c ≠ a := fun z => nd1 (by rw [← z]; exact hc)
          rw [upd_ne hne]
          exact hn c (List.mem_cons_of_mem _ hc)
        exact ⟨e1.trans e2, rep2, .cons (rv1.mono rep1 e2) rv2, fun q hq => (ot q fun z => hq (List.mem_cons_of_mem _ z)).trans (upd_ne fun z => hq (z ▸ List.mem_cons_self))⟩
theorem zip_src {ρ : Nat → Addr} {h : Hm} {H : Hp} {ds : List D} {vs : List V} {l : List D} {k : List V → List V → Prop} (r : Rep Z ρ h H) (rv : RVs Z ρ h.n H ds vs) (z : zipSrc ds h = some l)
    (go : ∀ (xs ys : List D) (us ws : List V), RVs Z ρ h.n H xs us → RVs Z ρ h.n H ys ws → l = zipD xs ys → k us ws) (K : PySem.W.Frag) : zArgs K vs H k := by
  unfold zipSrc at z
  split at z <;> try cases z
  · split at z <;> cases z
    rename_i xs ys ee ee'
    cases rv with
    | cons r1 r2 =>
      cases r2 with
      | cons r2 r3 =>
        cases r3
        cases r1
        cases r2
        rename_i hi hj
        obtain ⟨us, a1, a2⟩ := r.lst hi ee
        obtain ⟨ws, b1, b2⟩ := r.lst hj ee'
        exact ⟨_, _, us, ws, rfl, .inl ⟨SqL.of a1, SqL.of b1⟩, go _ _ us ws a2 b2 rfl⟩
  · cases rv with
    | cons r1 r2 =>
      cases r2 with
      | cons r2 r3 =>
        cases r3
        cases r1
        cases r2
        rename_i a us s t b ws s' t'
        exact ⟨_, _, us, ws, rfl, .inr ⟨SqT.of s, SqT.of s'⟩, go _ _ us ws t t' rfl⟩
theorem s_tupZip (hc : X.calm = true) (hg : Gl X "tuple") (hm : X.mg "tuple" = none) (hg2 : Gl X "zip") (hm2 : X.mg "zip" = none) (ha : PA X [e, e2] (tA Z E ka))
    (hs : starEach [e, e2] X.env = (false, eval e X.env) :: starEach [e2] X.env := by rfl) (hpl : (backTo pos2 (starEach [e2] X.env)).any (·.1) = false := by rfl)
    (hs2 : starEach [.Call (.Name "zip" p2) [e, e2] [] pos2] X.env = (false, eval (.Call (.Name "zip" p2) [e, e2] [] pos2) X.env) :: starEach [] X.env := by rfl) :
    PE X (.Call (.Name "tuple" p) [.Call (.Name "zip" p2) [e, e2] [] pos2] [] pos) (tE Z E (mTupZip ka)) := (pe_tupZip hc hg hm hg2 hm2 ha hs hpl hs2).imp fun τ H Q => by
  rintro ⟨ρ, σ, h, rep, rs, q⟩
  refine ⟨ρ, σ, h, rep, rs, Aft.bind q fun d h1 ρ1 H1 v e1 rep1 rv q1 => ?_⟩
  cases z : zipSrc d h1 with
  | none => rw [z] at q1; exact q1.elim
  | some l =>
    rw [z] at q1
    refine zip_src rep1 rv z (fun xs ys us ws rx ry el as c hl nd hn hcn hca => ?_) _
    obtain ⟨e2, rep2, rv2, ot⟩ := pairs_rep rep1 rx ry hl nd hn
    subst el
    exact new_tup rep2 rv2 (Aft.shift e2 q1) ((ot c hca).trans hcn)
theorem s_lstZip (hc : X.calm = true) (hg : Gl X "list") (hm : X.mg "list" = none) (hg2 : Gl X "zip") (hm2 : X.mg "zip" = none) (ha : PA X [e, e2] (tA Z E ka))
    (hs : starEach [e, e2] X.env = (false, eval e X.env) :: starEach [e2] X.env := by rfl) (hpl : (backTo pos2 (starEach [e2] X.env)).any (·.1) = false := by rfl)
    (hs2 : starEach [.Call (.Name "zip" p2) [e, e2] [] pos2] X.env = (false, eval (.Call (.Name "zip" p2) [e, e2] [] pos2) X.env) :: starEach [] X.env := by rfl) :
    PE X (.Call (.Name "list" p) [.Call (.Name "zip" p2) [e, e2] [] pos2] [] pos) (tE Z E (mLstZip ka)) := (pe_lstZip hc hg hm hg2 hm2 ha hs hpl hs2).imp fun τ H Q => by
  rintro ⟨ρ, σ, h, rep, rs, q⟩
  refine ⟨ρ, σ, h, rep, rs, Aft.bind q fun d h1 ρ1 H1 v e1 rep1 rv q1 => ?_⟩
  cases z : zipSrc d h1 with
  | none => rw [z] at q1; exact q1.elim
  | some l =>
    rw [z] at q1
    refine zip_src rep1 rv z (fun xs ys us ws rx ry el as c hl nd hn hcn hca => ?_) _
    obtain ⟨e2, rep2, rv2, ot⟩ := pairs_rep rep1 rx ry hl nd hn
    subst el
    exact new_lst rep2 rv2 (Aft.shift e2 q1) ((ot c hca).trans hcn)
end
end
end Sm
namespace Sm
open PySem PySem.Spec PyProof.Rows L2
noncomputable section
/-! ### a, b, .. = a list -/
variable {X : Cx} {Z : Cz} {E : L2.St → XK} {pos pos' : Pos} {e : Expr} {m : ME}
def msAsgL (m : ME) (n : Nat) (gs : MGs) : MS := fun σ h => (m σ h).bindS fun d h1 => match d with
  | .ref i => match h1.get i with
    | some (.lst ds) => match Nat.beq ds.length n with
      | true => match gs ds σ with
        | some σ' => .nx σ' h1
        | none => .bad
      | false => .bad
    | _ => .bad
  | _ => .bad
theorem s_asgL {es : List Expr} {j n : Nat} {is : List Nat} {gs : MGs} (hc : X.calm = true) (p : PE X e (tE Z E m)) (pg : PGs X es (gMs Z is gs)) (hs : swapsWithSole [.Tuple es j pos'] e pos.line X.env = pure false := by rfl)
    (hw : swappedStores [.Tuple es j pos'] e X.env = pure none := by rfl) (h1 : (assignEach [.Tuple es j pos'] X.env).map (·.2) = [assign (.Tuple es j pos') X.env] := by rfl)
    (hn : (assignEach es X.env).length = n := by rfl) (hst : (assignEach es X.env).findIdx? (·.1) = none := by rfl) : PS X (.Assign [.Tuple es j pos'] e pos) (tS Z E (msAsgL m n gs)) :=
  (ps_asg p (pg_lst hc pg hn hst) hs hw h1).imp fun De τ H => by
    rintro ⟨ρ, σ, h, rep, rs, q⟩
    refine ⟨ρ, σ, h, rep, rs, AftS.bind q fun d h1 ρ1 H1 v e1 rep1 rv q1 => ?_⟩
    split at q1 <;> try exact q1.elim
    split at q1 <;> try exact q1.elim
    rename_i i ds ee
    cases rv
    rename_i hi
    obtain ⟨vs, a1, a2⟩ := rep1.lst hi ee
    cases z : Nat.beq ds.length n with
    | false => rw [z] at q1; exact q1.elim
    | true =>
      rw [z] at q1
      refine ⟨_, vs, rfl, SqL.of a1, by rw [← a2.length]; exact Nat.eq_of_beq_eq_true z, ρ1, h1.n, ds, σ, rs.mono rep e1, a2, ?_⟩
      cases z2 : gs ds σ with
      | none => simp only [z2] at q1; exact q1.elim
      | some σ' =>
        simp only [z2] at q1
        exact fun τ' _ rs' => q1 ρ1 H1 τ' Ext.refl rep1 rs'
end
end Sm
namespace Sm
open PySem PySem.Spec PyProof.Rows L2
noncomputable section
/-! ### min of a list of tuples -/
def minP {γ : Type} (x : PyData × γ) (xs : List (PyData × γ)) : PyData × γ := xs.foldl (fun a y => if PySem.W.dataLt y.1 a.1 = true then y else a) x
def rMinD (K : PySem.W.Frag) : List V → Hp → VK → Prop := fun vs H Q => ∃ (a : Addr) (t : PyData × V) (ts : List (PyData × V)), vs = [V.ref a] ∧ SqL K H a ((t :: ts).map (·.2)) ∧ (∀ x ∈ t :: ts, Dp K H x.2 x.1) ∧
  sortableB ((t :: ts).map (·.1)) = true ∧ allP isTupNe ((t :: ts).map (·.1)) = true ∧ Q (minP t ts).2 H
section
variable {X : Cx} {Z : Cz}
theorem cr_minD (hc : X.calm = true) (hu : X.A.units + 70 < cLine) : CallR X (.builtin "min") (rMinD X.K) := by
  intro pins s σ H vs us Q I r h
  obtain ⟨a, t, ts, rfl, hs, hd, hb, hn, q⟩ := h
  obtain ⟨its, rv, hl, hz⟩ := I.list hs
  rw [Vals.ref1 r]
  obtain ⟨b1, b2, b3⟩ := sortableB_ok hb
  have er : ∀ {us : List (PyData × V)} {its : List Value}, (∀ x ∈ us, Dp X.K H x.2 x.1) → Vals (us.map (·.2)) its → ∃ as, ReadsAll s.heap its (us.map (·.1)) as := by
    intro us
    induction us with
    | nil => intro its _ x; cases x; exact ⟨_, .nil⟩
    | cons u r ih =>
      intro its hd x
      cases x with
      | cons x1 x2 =>
        obtain ⟨as, k⟩ := ih (fun y hy => hd y (List.mem_cons_of_mem _ hy)) x2
        obtain ⟨bs, k2⟩ := Dp.reads I u.1 u.2 _ (hd u List.mem_cons_self) x1
        exact ⟨_, .cons k2 k⟩
  obtain ⟨as, ra⟩ := er hd rv
  have al : PySem.W.AlikeAll ((t :: ts).map (·.1)) := ⟨fun x hx y hy => b2 x hx y hy, fun x hx e => by
    have := allP_ok hn x hx
    rw [e] at this
    cases this⟩
  have dp : ∀ l : List PyData, (∀ d ∈ l, d.depth ≤ 64) → PyData.depthAll l ≤ 64 := by
    intro l
    induction l with
    | nil => intro _; exact Nat.zero_le _
    | cons d r ih => intro k; exact Nat.max_le.mpr ⟨k d List.mem_cons_self, ih fun y hy => k y (List.mem_cons_of_mem _ hy)⟩
  have dd : PyData.depthAll ((t :: ts).map (·.1)) ≤ 64 := dp _ fun d hd' => by
    have := b1 d hd'
    unfold SeqAt.shaped at this
    exact of_decide_eq_true (Bool.and_eq_true_iff.mp this).2
  have lens : its.toArray.size = ts.length + 1 := by rw [List.size_toArray, ← rv.length, List.length_map]; rfl
  refine call_min_walkH (PySem.W.iter_listW (A := X.A.in1) (I.ok.hd hc) hl.isList fun s₂ e W st hfp hw hk => ?_)
  refine ⟨_, _, _, _, _, _, _, s.heap, _, rfl, W, st, hfp, by omega, hw, hk, PySem.W.cmpIn_lt (A := X.A.in1) ra al (by show X.A.units + 1 + _ < _; omega), fun v s' hP m => ?_⟩
  obtain ⟨h', tk, rfl, hk'⟩ := PySem.W.moved_old e rfl m
  have eb : (fun i j => PySem.W.dataLt (((t :: ts).map (·.1)).getD i .none) (((t :: ts).map (·.1)).getD j .none)) = fun i j => PySem.W.dataLt ((t :: ts).getD i (PyData.none, V.non)).1 ((t :: ts).getD j (PyData.none, V.non)).1 := by
    have g : ∀ i, ((t :: ts).map (·.1)).getD i .none = ((t :: ts).getD i (PyData.none, V.non)).1 := fun i => by
      rw [List.getD_eq_getElem?_getD, List.getD_eq_getElem?_getD, List.getElem?_map]
      cases (t :: ts)[i]? <;> rfl
    funext i j
    rw [g, g]
  rw [eb, show its.toArray.size - 1 = ts.length from by omega] at hP
  obtain ⟨i1, i2⟩ := PySem.W.argBest_fold (fun p q : PyData × V => PySem.W.dataLt p.1 q.1) (PyData.none, V.non) t ts ts.length (Nat.le_refl _)
  rw [List.take_length] at i2
  generalize argBest (fun i j => PySem.W.dataLt ((t :: ts).getD i (PyData.none, V.non)).1 ((t :: ts).getD j (PyData.none, V.non)).1) ts.length = k at hP i1 i2
  have hk2 : k < (t :: ts).length := by rw [List.length_cons]; omega
  have e3 : (t :: ts)[k]? = some (minP t ts) := by
    rw [List.getD_eq_getElem?_getD, List.getElem?_eq_getElem hk2] at i2
    rw [List.getElem?_eq_getElem hk2]
    exact congrArg some i2
  have e4 : ((t :: ts).map (·.2))[k]? = some (minP t ts).2 := by rw [List.getElem?_map, e3]; rfl
  obtain ⟨u, hu2, ru⟩ := rv.get e4
  have : u = v := by
    have hp : its[k]? = some v := by simpa using hP
    rw [hu2] at hp
    exact Option.some.inj hp
  subst this
  exact ⟨(minP t ts).2, H, I.kept hk', ru, q⟩
def fMinD : FL := fun ds h => match ds with
  | [.ref i] => match h.get i with
    | some (.lst xs) => match keyed h xs with
      | some (t :: ts) => match sortableB (mapK (t :: ts)) && allP isTupNe (mapK (t :: ts)) with
        | true => .ok (minP t ts).2 h
        | false => .bad
      | _ => .bad
    | _ => .bad
  | _ => .bad
theorem minP_rel {α β : Type} {R : α → β → Prop} : ∀ {l : List (PyData × α)} {l' : List (PyData × β)} {x : PyData × α} {x' : PyData × β}, x.1 = x'.1 ∧ R x.2 x'.2 → Paired (fun a b => a.1 = b.1 ∧ R a.2 b.2) l l' → (minP x l).1 = (minP x' l').1 ∧ R (minP x l).2 (minP x' l').2 := by
  intro l l' x x' hx p
  induction p generalizing x x' with
  | nil => exact hx
  | @cons a b l l' ha hl ih =>
    refine ih ?_
    dsimp only
    rw [hx.1, ha.1]
    by_cases z : PySem.W.dataLt b.1 x'.1 = true
    · rw [if_pos z, if_pos z]; exact ha
    · rw [if_neg z, if_neg z]; exact hx
theorem cs_minD : CS Z (rMinD Z.K) fMinD := by
  intro ρ h H ds vs Q E rep rv q
  unfold fMinD at q
  split at q <;> try exact q.elim
  split at q <;> try exact q.elim
  rename_i i _ xs ee
  cases rv with
  | cons r1 r2 =>
    cases r2
    cases r1
    rename_i hi
    obtain ⟨us, a1, a2⟩ := rep.lst hi ee
    split at q <;> try exact q.elim
    rename_i t ts e1
    split at q <;> try exact q.elim
    rename_i e2
    obtain ⟨e3, e4⟩ := Bool.and_eq_true_iff.mp e2
    obtain ⟨l', h1, h2, h3⟩ := keyed_ok rep a2 e1
    have same : ∀ {l : List (PyData × D)} {ts : List (PyData × V)}, Paired (fun a b => a.1 = b.1 ∧ RV Z ρ h.n H a.2 b.2) l ts → l.map (·.1) = ts.map (·.1) := fun {l ts} p => by
      induction p with
      | nil => rfl
      | cons a b ih => rw [List.map_cons, List.map_cons, ih, a.1]
    have sm := same h2
    rw [mapK_eq, sm] at e3 e4
    cases h2 with
    | @cons _ b _ bs p1 p2 =>
      obtain ⟨_, rr⟩ := minP_rel p1 p2
      exact ⟨_, b, bs, rfl, h1 ▸ SqL.of a1, h3, e3, e4, q ρ H _ Ext.refl rep rr⟩
end
end
end Sm
namespace Sm
open PySem PySem.Spec PyProof.Rows L2
noncomputable section
/-! ### a try body of several statements: the error's own locals -/
abbrev MB := Loc → Hm → Loc × RT
def AftX (Z : Cz) (ρ : Nat → Addr) (h : Hm) (H : Hp) (r : Loc × RT) (De : Ends) (W : WX) : Prop := match r.2 with
  | .exn c ds h' => ∀ ρ' H' cl dd τ', Ext ρ h.n H ρ' h'.n H' → Rep Z ρ' h' H' → RS Z ρ' h'.n H' r.1 τ' → RX Z ρ' h'.n H' c ds cl dd → W cl dd τ' H'
  | .bad => False
  | r' => AftS Z ρ h H r' De fun _ _ _ => False
def tSX (Z : Cz) (W : WX) (mb : MB) : TS := fun De τ H => ∃ ρ σ h, Rep Z ρ h H ∧ RS Z ρ h.n H σ τ ∧ AftX Z ρ h H (mb σ h) De W
section
variable {Z : Cz} {ρ ρ1 : Nat → Addr} {h h1 : Hm} {H H1 : Hp} {De : Ends} {W : WX}
theorem AftX.shift {r : Loc × RT} (e : Ext ρ h.n H ρ1 h1.n H1) (q : AftX Z ρ h H r De W) : AftX Z ρ1 h1 H1 r De W := by
  obtain ⟨l, r⟩ := r
  cases r with
  | nx σ h' => exact fun ρ' H' τ e' r' l => q ρ' H' τ (e.trans e') r' l
  | bk σ h' => exact fun ρ' H' τ e' r' l => q ρ' H' τ (e.trans e') r' l
  | ct σ h' => exact fun ρ' H' τ e' r' l => q ρ' H' τ (e.trans e') r' l
  | rt σ h' => exact fun ρ' H' τ e' r' l => q ρ' H' τ (e.trans e') r' l
  | exn c ds h' => exact fun ρ' H' b dd τ e' r' l x => q ρ' H' b dd τ (e.trans e') r' l x
  | bad => exact q
end
def xOne (m : MS) : MB := fun σ h => (σ, m σ h)
def xCons (a : MS) (b : MB) : MB := fun σ h => match a σ h with
  | .nx σ1 h1 => b σ1 h1
  | r => (σ, r)
section
variable {X : Cx} {Z : Cz} {W : WX} {E0 : XK} {pos : Pos}
theorem sx_one {st : Stmt} {m : MS} (p : PS X st (tS Z (fun τ cl d H => W cl d τ H) m)) : PSs X [st] (tSX Z W (xOne m)) := (pss_one p).imp fun De τ H => by
  rintro ⟨ρ, σ, h, rep, rs, q⟩
  refine ⟨ρ, σ, h, rep, rs, ?_⟩
  unfold xOne AftX at q
  cases z : m σ h with
  | nx σ' h' => rw [z] at q; exact q
  | bk σ' h' => rw [z] at q; exact q
  | ct σ' h' => rw [z] at q; exact q
  | rt d h' => rw [z] at q; exact q
  | bad => rw [z] at q; exact q
  | exn c ds h' =>
    rw [z] at q
    exact fun ρ' H' cl dd e' rep' rx => q ρ' H' cl dd τ e' rep' (rs.mono rep e') rx
theorem sx_cons {st : Stmt} {rest : List Stmt} {a : MS} {b : MB} (p : PS X st (tS Z (fun τ cl d H => W cl d τ H) a)) (r : PSs X rest (tSX Z W b)) : PSs X (st :: rest) (tSX Z W (xCons a b)) := (pss_cons p r).imp fun De τ H => by
  rintro ⟨ρ, σ, h, rep, rs, q⟩
  refine ⟨ρ, σ, h, rep, rs, ?_⟩
  unfold xCons at q
  cases z : a σ h with
  | nx σ' h' =>
    rw [z] at q
    exact fun ρ' H' τ' e' r' l => ⟨ρ', σ', h', r', l, AftX.shift e' q⟩
  | bk σ' h' => rw [z] at q; exact q
  | ct σ' h' => rw [z] at q; exact q
  | rt d h' => rw [z] at q; exact q
  | bad => rw [z] at q; exact q
  | exn c ds h' =>
    rw [z] at q
    exact fun ρ' H' cl dd e' rep' rx => q ρ' H' cl dd τ e' rep' (rs.mono rep e') rx
def msTryX (mb : MB) (l : List Hd) : MS := fun σ h => match mb σ h with
  | (σ', .exn c ds h') => mHandle l c ds σ' h'
  | (_, r) => r
theorem s_tryX {body : List Stmt} {h₀ : ExceptHandler} {hds : List ExceptHandler} {l : List Cl} {r : List Hd} {mb : MB} (hs : X.stack = X.env :: X.outer) (hf : X.env.frame = some X.env.locals) (hN : X.N.Nodup) (tk : Takes X (fun cl d _ H => E0 cl d H))
    (hb : ∀ (W : WX) (pn : List (Addr × Obj)) (xe : Value → Shared → Prop), Takes (X.tr pn xe) W → PassesOwn (model X.prog X.w) X.A X.env xe → PSs (X.tr pn xe) body (tSX Z W mb)) (hh : ClOk X (h₀ :: hds) l) (hr : HdRel Z X.K l r) :
    PS X (.Try body (h₀ :: hds) [] [] pos) (tS Z (fun _ => E0) (msTryX mb r)) := (ps_tryC hs hf hN tk (tb := fun W => tSX Z W mb) hb hh).imp fun De τ H => by
  rintro ⟨ρ, σ, h, rep, rs, q⟩
  refine ⟨ρ, σ, h, rep, rs, ?_⟩
  unfold msTryX at q
  cases z : mb σ h with
  | mk l1 r1 =>
    rw [z] at q
    cases r1 with
    | nx σ' h' => exact q
    | rt d h' => exact q
    | bk σ' h' => exact q
    | ct σ' h' => exact q
    | bad => exact q
    | exn c ds h' => exact fun ρ' H' cl dd τ' e' rep' rs' rx => handle_ok (E := fun _ => E0) rep' rs' rx hr (AftS.shift e' q)
end
end
end Sm
namespace Sm
open PySem PySem.Spec PyProof.Rows L2
noncomputable section
/-! ### a call among values without heap, its heap forgotten; else as it is -/
def dflat : Nat → D → Bool
  | 0, _ => false
  | k + 1, d => match d with
    | .non => true
    | .bl _ => true
    | .int _ => true
    | .str _ => true
    | .fn _ => true
    | .tup ds => ds.all (dflat k)
    | _ => false
def dflatO : Option D → Bool
  | none => true
  | some d => dflat 8 d
theorem dflat_rv {Z : Cz} {ρ ρ' : Nat → Addr} {n n' : Nat} {H : Hp} : ∀ (k : Nat) {d : D} {v : V}, dflat k d = true → RV Z ρ n H d v → RV Z ρ' n' H d v
  | 0, _, _, f, _ => by cases f
  | k + 1, d, v, f, r => by
    have go : ∀ {ds : List D} {vs : List V}, ds.all (dflat k) = true → RVs Z ρ n H ds vs → RVs Z ρ' n' H ds vs := by
      intro ds
      induction ds with
      | nil => intro vs _ r; cases r; exact .nil
      | cons d ds ih =>
        intro vs f r
        cases r with
        | cons r1 r2 =>
          obtain ⟨f1, f2⟩ := Bool.and_eq_true_iff.mp f
          exact .cons (dflat_rv k f1 r1) (ih f2 r2)
    cases r with
    | non => exact .non
    | bl b => exact .bl b
    | int i => exact .int i
    | str x => exact .str x
    | tup a b => exact .tup a (go f b)
    | ref h => cases f
    | fn k => exact .fn k
    | exc a => cases f
def mRfE (m : ME) (σ : Loc) (h : Hm) : R D → R D
  | .ok d _ => match dflat 8 d with
    | true => .ok d h
    | false => m σ h
  | .exn c ds _ => match ds.all (dflat 8) with
    | true => .exn c ds h
    | false => m σ h
  | .bad => .bad
def mRf (m : ME) : ME := fun σ h => match σ.all dflatO with
  | true => mRfE m σ h (m σ Hm.nil)
  | false => m σ h
theorem s_resetF {X : Cx} {Z : Cz} {E : L2.St → XK} {e : Expr} {m : ME} (pe : PE X e (tE Z E m)) : PE X e (tE Z E (mRf m)) := pe.imp fun τ H Q => by
  rintro ⟨ρ, σ, h, rep, rs, q⟩
  unfold mRf at q
  cases hf : σ.all dflatO with
  | false => rw [hf] at q; exact ⟨ρ, σ, h, rep, rs, q⟩
  | true =>
    rw [hf] at q
    have fs : ∀ (i : Nat) (d : D), σ[i]? = some (some d) → dflat 8 d = true := fun i d z => by
      have := List.all_eq_true.mp hf (some d) (List.mem_of_getElem? z)
      exact this
    have back : ∀ {ρ' : Nat → Addr} {h' : Hm} {H' : Hp}, Ext ρ Hm.nil.n H ρ' h'.n H' → Rep Z ρ' h' H' → Ext ρ h.n H ρ h.n H' ∧ Rep Z ρ h H' := fun ex rep' => by
      have out : ∀ a o, H a = some o → _ = some o := fun a o ha => ex.out a o ha fun i hi => absurd hi (Nat.not_lt_zero _)
      refine ⟨⟨Nat.le_refl _, fun _ _ => rfl, fun a o ha _ => out a o ha, ex.dom, fun i h1 h2 => absurd h2 (by omega), ex.frz⟩, rep.inj, fun i hi => ?_, rep'.pin⟩
      obtain ⟨o, e1, e2⟩ := rep.obj i hi
      exact ⟨o, e1, roWk (Nat.le_refl _) (fun _ _ => rfl) (fun a vs z => out a _ z) (fun u hu => out _ u hu) e2⟩
    have rsN : RS Z ρ Hm.nil.n H σ τ := ⟨rs.1, fun i d z => by
      obtain ⟨v, hv, rv⟩ := rs.2 i d z
      exact ⟨v, hv, dflat_rv 8 (fs i d z) rv⟩⟩
    cases hm : m σ Hm.nil with
    | bad => simp only [hm, mRfE] at q; exact q.elim
    | ok d h' =>
      cases fd : dflat 8 d with
      | false => simp only [hm, mRfE, fd] at q; exact ⟨ρ, σ, h, rep, rs, q⟩
      | true =>
        simp only [hm, mRfE, fd] at q
        refine ⟨ρ, σ, Hm.nil, rep_nil rep.pin, rsN, ?_⟩
        rw [hm]
        intro ρ' H' v ex rep' rv
        obtain ⟨ex2, r2⟩ := back ex rep'
        exact q ρ H' v ex2 r2 (dflat_rv 8 fd rv)
    | exn c ds h' =>
      cases fd : ds.all (dflat 8) with
      | false => simp only [hm, mRfE, fd] at q; exact ⟨ρ, σ, h, rep, rs, q⟩
      | true =>
        simp only [hm, mRfE, fd] at q
        refine ⟨ρ, σ, Hm.nil, rep_nil rep.pin, rsN, ?_⟩
        rw [hm]
        intro ρ' H' cl dd ex rep' rx
        obtain ⟨ex2, r2⟩ := back ex rep'
        refine q ρ H' cl dd ex2 r2 ⟨rx.1, ?_⟩
        rcases rx.2 with z | ⟨d, f, v, dx, a, b, c', e, g⟩
        · exact .inl z
        · refine .inr ⟨d, f, v, dx, a, b, c', e, dflat_rv 8 ?_ g⟩
          subst a
          exact List.all_eq_true.mp fd d (by simp)
end
end Sm
namespace Gk
open PySem PySem.Spec PyProof.Rows L2 Sm
noncomputable section
def top (i : Nat) : Stmt := PySem.Challenge.pw_eachhandtied_k24_shares_and_prices_by_ha.main.body.getD i (.Pass ⟨0, 0, 0, 0⟩)
def fl0 : List Str := ["top_of", "forest", "holds", "is_number", "are_numbers", "is_pair", "rises", "tupled", "same", "ties_round", "is_ring", "row_in", "steps_of", "steps_toward", "beyond_along", "shares_in", "shares_along", "good_ties", "good_web", "good_side", "good_place", "good_tie", "good_tree", "good_order", "good_shares", "fit_pair", "fit_web", "fit_side", "fit_tree", "fit_order"]
def fl1 : List Str := ["fit_shares", "fit_ring", "need_place", "need_tie", "share_of", "pairs_of", "share", "tree_shares", "shares_by", "shares_round", "carried", "is_shares", "row_by_shares", "other_shares", "prices_of", "potentials_along", "potentials_of", "gaps_along", "gaps_of", "under_of", "cost_of", "price", "prices", "potentials", "is_potentials", "gap", "under", "most_under", "cost", "is_cheaper"]
def fl2 : List Str := ["balance", "_law_cells", "_law_same", "_law_no_nets", "_law_asked", "_law_reply", "_law_front_right", "_law_others_right", "_law_refused_right", "law"]
def fnl : List Str := fl0 ++ fl1 ++ fl2
def cnl : List Str := ["NoPlace", "NoTie", "CanNot", "Unfit"]
def clC (k : Nat) : Nat := clN 3 k
def Zk (K : PySem.W.Frag) (w : World) (sA : Addr) (sN : List Int) : Cz where
  K := K
  w := w
  φ := fun k => match Nat.beq k 1000 with
    | true => sA
    | false => He.ga K (fnl.getD k "")
  κ := fun k => He.ga K (cnl.getD (clC k) "")
  fld := fun k => [[("place" : Str)], [("tie" : Str)], [], []].getD k []
  pin := pinS K sA sN
  pinm := pinS_m
theorem zk_pin {K : PySem.W.Frag} {w : World} {sA : Addr} {sN : List Int} (H : Hp) (h : (Zk K w sA sN).pin H) : SqL K H ((Zk K w sA sN).φ 1000) (sN.map V.int) := pinS_sq h
theorem zk_fn {K : PySem.W.Frag} {w : World} {sA : Addr} {sN : List Int} : (Zk K w sA sN).K = K := rfl
def exmT (c k : Nat) : Bool := Nat.beq (clC k) c
def kt_LookupError : List (Option Bool) := [some true, some true, some false, some false]
def kiT_LookupError (k : Nat) : Option Bool := kt_LookupError.getD (clC k) none
def kt_ValueError : List (Option Bool) := [some false, some false, some true, some true]
def kiT_ValueError (k : Nat) : Option Bool := kt_ValueError.getD (clC k) none
def B_top_of : MS := msCons (msWhile (mTest (m2 (fEq true) (m2 fIxM (mVar 0) (mVar 1)) (mVar 1))) (msCons (msSet (m2 fIxM (mVar 0) (m2 fIxM (mVar 0) (mVar 1))) (mVar 0) (mVar 1)) (msAsg (m2 fIxM (mVar 0) (mVar 1)) (gmName 1)))) (msRet (mVar 1))
def F_top_of : MF := mDef 2 (B_top_of)
def B_forest : MS := msCons (msAsg (mAlloc (mlR1 (m2 fAdd (mVar 0) (mVar 1)))) (gmName 3)) (msCons (msAsg (mLst (maNil)) (gmName 4)) (msCons (msFor (miS (mVar 2)) (gmName 5) (msCons (msPar [6, 7] (maCons (mCall 2 F_top_of (maCons (mVar 3) (maCons (m2 fIxM (mVar 5) (mC (.int 0))) (maNil)))) (maCons (mCall 2 F_top_of (maCons (mVar 3) (maCons (m2 fAdd (mVar 0) (m2 fIxM (mVar 5) (mC (.int 1)))) (maNil)))) (maNil)))) (msIf (mTest (m2 (fEq true) (mVar 6) (mVar 7))) (msCons (msSet (mVar 7) (mVar 3) (mVar 6)) (msExpr (mBM fAppend (mVar 4) (maCons (mVar 5) (maNil))))) (msNil)))) (msRet (mVar 4))))
def F_forest : MF := mDef 8 (B_forest)
def B_holds : MS := msCons (msAsg (m2 fSub (m2 fAdd (mVar 0) (mVar 1)) (mC (.int 1))) (gmName 3)) (msRet (mAnd (m2 fGe (mCB fLenA (maCons (mVar 2) (maNil))) (mVar 3)) (m2 (fEq false) (mCB fLenA (maCons (mCall 3 F_forest (maCons (mVar 0) (maCons (mVar 1) (maCons (mVar 2) (maNil))))) (maNil))) (mVar 3))))
def F_holds : MF := mDef 4 (B_holds)
def B_is_number : MS := msRet (mAnd (mIsi (tBools [("NoneType", false), ("bool", true), ("int", true), ("str", false), ("tuple", false), ("list", false), ("dict", false)]) (mVar 0)) (mNotT (mIsi (tBools [("NoneType", false), ("bool", true), ("int", false), ("str", false), ("tuple", false), ("list", false), ("dict", false)]) (mVar 0))))
def F_is_number : MF := mDef 1 (B_is_number)
def B_are_numbers : MS := msRet (mAnd (mIsi (tBools [("NoneType", false), ("bool", false), ("int", false), ("str", false), ("tuple", true), ("list", false), ("dict", false)]) (mVar 0)) (mCT gAll (mLc (miS (mVar 0)) (gmName 1) (mYes) (mCall 1 F_is_number (maCons (mVar 1) (maNil))) [1])))
def F_are_numbers : MF := mDef 2 (B_are_numbers)
def B_is_pair : MS := msRet (mAnd (mIsi (tBools [("NoneType", false), ("bool", false), ("int", false), ("str", false), ("tuple", true), ("list", false), ("dict", false)]) (mVar 0)) (mAnd (m2 (fEq false) (mCB fLenA (maCons (mVar 0) (maNil))) (mC (.int 2))) (mCall 1 F_are_numbers (maCons (mVar 0) (maNil)))))
def F_is_pair : MF := mDef 1 (B_is_pair)
def B_rises : MS := msRet (mCT gAll (mLc (miR2 (maCons (mC (.int 1)) (maCons (mCB fLenA (maCons (mVar 0) (maNil))) (maNil)))) (gmName 1) (mYes) (m2 fLtM (m2 fIxM (mVar 0) (m2 fSub (mVar 1) (mC (.int 1)))) (m2 fIxM (mVar 0) (mVar 1))) [1]))
def F_rises : MF := mDef 2 (B_rises)
def B_tupled (self : MF) : MS := msCons (msIf (tOrM (mTest (m2 (fEq false) (mVar 1) (mC (.int 0)))) (tNotM (mTru (mIsi (tBools [("NoneType", false), ("bool", false), ("int", false), ("str", false), ("tuple", true), ("list", true), ("dict", false)]) (mVar 0))))) (msRet (mVar 0)) (msNil)) (msRet (mCT gTuple (mLc (miS (mVar 0)) (gmName 2) (mYes) (mCall 2 self (maCons (mVar 2) (maCons (m2 fSub (mVar 1) (mC (.int 1))) (maNil)))) [2])))
def F_tupled : Nat → MF
  | 0 => fun _ _ => .bad
  | n + 1 => mDef 3 (B_tupled (F_tupled n))
def B_same (self : MF) : MS := msCons (msIf (mTru (mIsi (tBools [("NoneType", false), ("bool", false), ("int", false), ("str", false), ("tuple", true), ("list", false), ("dict", false)]) (mVar 1))) (msCons (msIf (tOrM (tNotM (mTru (mIsi (tBools [("NoneType", false), ("bool", false), ("int", false), ("str", false), ("tuple", true), ("list", false), ("dict", false)]) (mVar 0)))) (mTest (m2 (fEq true) (mCB fLenA (maCons (mVar 0) (maNil))) (mCB fLenA (maCons (mVar 1) (maNil)))))) (msRet (mC (.bl false))) (msNil)) (msRet (mCT gAll (mLc (miZip (maCons (mVar 0) (maCons (mVar 1) (maNil)))) (gmTup 2 (gmCons (gmName 2) (gmCons (gmName 3) (gmNil)))) (mYes) (mCall 2 self (maCons (mVar 2) (maCons (mVar 3) (maNil)))) [2, 3])))) (msNil)) (msRet (mAnd (mNotT (mIsi (tBools [("NoneType", false), ("bool", true), ("int", false), ("str", false), ("tuple", false), ("list", false), ("dict", false)]) (mVar 0))) (m2 (fEq false) (mVar 0) (mVar 1))))
def F_same : Nat → MF
  | 0 => fun _ _ => .bad
  | n + 1 => mDef 4 (B_same (F_same n))
def B_ties_round : MS := msCons (msPar [1, 2] (maCons (mStep (mVar 0) (moNone) (moNone) (moSome (mC (.int 2)))) (maCons (mStep (mVar 0) (moSome (mC (.int 1))) (moNone) (moSome (mC (.int 2)))) (maNil)))) (msCons (msAsg (m2 fAdd (mSl (mVar 1) (moSome (mC (.int 1))) (moNone)) (mSl (mVar 1) (moNone) (moSome (mC (.int 1))))) (gmName 3)) (msRet (mTup (maCons (mLstZip (maCons (mVar 1) (maCons (mVar 2) (maNil)))) (maCons (mLstZip (maCons (mVar 3) (maCons (mVar 2) (maNil)))) (maNil))))))
def F_ties_round : MF := mDef 4 (B_ties_round)
def B_is_ring : MS := msCons (msIf (tOrM (tNotM (mTru (mCall 1 F_are_numbers (maCons (mVar 2) (maNil))))) (tOrM (mTest (m2 fLtM (mCB fLenA (maCons (mVar 2) (maNil))) (mC (.int 4)))) (mTest (m2 (fEq false) (m2 fMod (mCB fLenA (maCons (mVar 2) (maNil))) (mC (.int 2))) (mC (.int 1)))))) (msRet (mC (.bl false))) (msNil)) (msCons (msPar [3, 4] (maCons (mStep (mVar 2) (moNone) (moNone) (moSome (mC (.int 2)))) (maCons (mStep (mVar 2) (moSome (mC (.int 1))) (moNone) (moSome (mC (.int 2)))) (maNil)))) (msCons (msIf (tOrM (mTest (m2 fLtM (mCB fLenB (maCons (mCB fSetI (maCons (mVar 3) (maNil))) (maNil))) (mCB fLenA (maCons (mVar 3) (maNil))))) (mTest (m2 fLtM (mCB fLenB (maCons (mCB fSetI (maCons (mVar 4) (maNil))) (maNil))) (mCB fLenA (maCons (mVar 4) (maNil)))))) (msRet (mC (.bl false))) (msNil)) (msCons (msAsg (mCall 1 F_ties_round (maCons (mVar 2) (maNil))) (gmTup 2 (gmCons (gmName 5) (gmCons (gmName 6) (gmNil))))) (msRet (mAnd (mCT gAll (mLc (miS (mVar 5)) (gmName 7) (mYes) (m2 (fIn false) (mVar 7) (mVar 0)) [7])) (mCT gAll (mLc (miS (mVar 6)) (gmName 7) (mYes) (m2 (fIn false) (mVar 7) (mVar 1)) [7])))))))
def F_is_ring : MF := mDef 8 (B_is_ring)
def B_row_in : MS := msCons (msAsg (m2 fMulT (mLst (maCons (mNeg (mC (.int 1))) (maNil))) (m2 fIxM (mVar 0) (mVar 2))) (gmName 3)) (msCons (msFor (miS (mVar 1)) (gmName 4) (msAugS (mVar 3) (m2 fIxM (mVar 4) (mVar 2)) (fI0 fun i j => .int (i + j)) (mC (.int 1)))) (msRet (mCB fTuple (maCons (mVar 3) (maNil)))))
def F_row_in : MF := mDef 5 (B_row_in)
def B_steps_of : MS := msCons (msAsg (mNewT) (gmName 1)) (msCons (msFor (miS (mVar 0)) (gmName 2) (msCons (msPar [3, 4] (maCons (mTup (maCons (mC (.int 0)) (maCons (m2 fIxM (mVar 2) (mC (.int 0))) (maNil)))) (maCons (mTup (maCons (mC (.int 1)) (maCons (m2 fIxM (mVar 2) (mC (.int 1))) (maNil)))) (maNil)))) (msCons (msExpr (mBM fAppend (mSetd (mVar 1) (mVar 3) (mLst (maNil))) (maCons (mTup (maCons (mVar 2) (maCons (mVar 4) (maNil)))) (maNil)))) (msExpr (mBM fAppend (mSetd (mVar 1) (mVar 4) (mLst (maNil))) (maCons (mTup (maCons (mVar 2) (maCons (mVar 3) (maNil)))) (maNil))))))) (msRet (mVar 1)))
def F_steps_of : MF := mDef 5 (B_steps_of)
def B_steps_toward : MS := msCons (msAsg (mCall 1 F_steps_of (maCons (mVar 0) (maNil))) (gmName 2)) (msCons (msAsg (mD1 (mVar 1) (mC .non)) (gmName 3)) (msCons (msAsg (mLst (maCons (mVar 1) (maNil))) (gmName 4)) (msCons (msWhile (mTru (mVar 4)) (msCons (msAsg (mBM fPop (mVar 4) maNil) (gmName 5)) (msFor (miS (mGet2 (mVar 2) (mVar 5) (mLst (maNil)))) (gmTup 2 (gmCons (gmName 6) (gmCons (gmName 7) (gmNil)))) (msIf (mTest (m2 (fIn true) (mVar 7) (mVar 3))) (msCons (msSet (mTup (maCons (mVar 6) (maCons (mVar 5) (maNil)))) (mVar 3) (mVar 7)) (msExpr (mBM fAppend (mVar 4) (maCons (mVar 7) (maNil))))) (msNil))))) (msRet (mVar 3)))))
def F_steps_toward : MF := mDef 8 (B_steps_toward)
def B_beyond_along : MS := msCons (mLockS 0 (msAsg (mDc1 (miK (mVar 0)) (gmName 4) (mVar 4) (m2 fIxM (mVar 1) (mVar 4)) [4]) (gmName 2))) (msCons (msAsg (mNewT) (gmName 3)) (msCons (msFor (miRev (mCB fListA (maCons (mVar 0) (maNil)))) (gmName 4) (msCons (msAsg (m2 fIxM (mVar 0) (mVar 4)) (gmName 5)) (msIf (mTest (mIsN true (mVar 5))) (msCons (msAsg (mVar 5) (gmTup 2 (gmCons (gmName 6) (gmCons (gmName 7) (gmNil))))) (msCons (msSet (mTup (maCons (mVar 4) (maCons (m2 fIxM (mVar 2) (mVar 4)) (maNil)))) (mVar 3) (mVar 6)) (msAugS (mVar 2) (mVar 7) (fI0 fun i j => .int (i + j)) (m2 fIxM (mVar 2) (mVar 4))))) (msNil)))) (msRet (mVar 3))))
def F_beyond_along : MF := mDef 8 (B_beyond_along)
def B_shares_in : MS := msCons (msAsg (mDc2 (miS (mTup (maCons (mC (.int 0)) (maCons (mC (.int 1)) (maNil))))) (gmName 9) (miR1 (maCons (m2 fIxM (mVar 0) (mVar 9)) (maNil))) (gmName 10) (mTup (maCons (mVar 9) (maCons (mVar 10) (maNil)))) (mIf (mTest (m2 (fEq false) (mVar 9) (mVar 2))) (mC (.int 1)) (mC (.int 0))) [9, 10]) (gmName 3)) (msCons (msAsg (mCall 2 F_beyond_along (maCons (mCall 2 F_steps_toward (maCons (mVar 1) (maCons (mTup (maCons (mC (.int 0)) (maCons (mC (.int 0)) (maNil)))) (maNil)))) (maCons (mVar 3) (maNil)))) (gmName 4)) (msCons (msAsg (mNewT) (gmName 5)) (msCons (msFor (miS (mVar 1)) (gmName 6) (msCons (msAsg (m2 fIxM (mVar 4) (mVar 6)) (gmTup 2 (gmCons (gmName 7) (gmCons (gmName 8) (gmNil))))) (msSet (mIf (mTest (m2 (fEq false) (m2 fIxM (mVar 7) (mC (.int 0))) (mVar 2))) (mVar 8) (m2 fSub (m2 fIxM (mVar 0) (mVar 2)) (mVar 8))) (mVar 5) (mVar 6)))) (msRet (mVar 5)))))
def F_shares_in : MF := mDef 11 (B_shares_in)
def B_shares_along : MS := msCons (msAsg (mCall 3 F_shares_in (maCons (mVar 0) (maCons (mVar 1) (maCons (mVar 3) (maNil))))) (gmName 4)) (msRet (mCT gTuple (mLc (miS (mVar 2)) (gmName 5) (mYes) (mGet2 (mVar 4) (mVar 5) (mC (.int 0))) [5])))
def F_shares_along : MF := mDef 6 (B_shares_along)
def B_good_ties : MS := msCons (msIf (tOrM (tNotM (mTru (mIsi (tBools [("NoneType", false), ("bool", false), ("int", false), ("str", false), ("tuple", true), ("list", false), ("dict", false)]) (mVar 2)))) (tNotM (mTru (mCT gAll (mLc (miS (mVar 2)) (gmName 5) (mYes) (mCall 1 F_is_pair (maCons (mVar 5) (maNil))) [5]))))) (msRet (mC (.bl false))) (msNil)) (msRet (mCT gAll (mLc (miS (mVar 2)) (gmTup 2 (gmCons (gmName 3) (gmCons (gmName 4) (gmNil)))) (mYes) (mAnd (mChain fLe fLtM (mC (.int 0)) (mVar 3) (mVar 0)) (mChain fLe fLtM (mC (.int 0)) (mVar 4) (mVar 1))) [3, 4])))
def F_good_ties : MF := mDef 6 (B_good_ties)
def B_good_web : MS := msCons (msIf (tOrM (tNotM (mTru (mIsi (tBools [("NoneType", false), ("bool", false), ("int", false), ("str", false), ("tuple", true), ("list", false), ("dict", false)]) (mVar 0)))) (mTest (m2 (fEq true) (mCB fLenA (maCons (mVar 0) (maNil))) (mC (.int 3))))) (msRet (mC (.bl false))) (msNil)) (msCons (msAsg (mVar 0) (gmTup 3 (gmCons (gmName 1) (gmCons (gmName 2) (gmCons (gmName 3) (gmNil)))))) (msCons (msIf (tOrM (tNotM (mTru (mCall 1 F_is_number (maCons (mVar 1) (maNil))))) (tOrM (tNotM (mTru (mCall 1 F_is_number (maCons (mVar 2) (maNil))))) (tOrM (mTest (m2 fLtM (mVar 1) (mC (.int 1)))) (mTest (m2 fLtM (mVar 2) (mC (.int 1))))))) (msRet (mC (.bl false))) (msNil)) (msRet (mAnd (mCall 3 F_good_ties (maCons (mVar 1) (maCons (mVar 2) (maCons (mVar 3) (maNil))))) (mAnd (mCall 1 F_rises (maCons (mVar 3) (maNil))) (mCall 3 F_holds (maCons (mVar 1) (maCons (mVar 2) (maCons (mVar 3) (maNil))))))))))
def F_good_web : MF := mDef 4 (B_good_web)
def B_good_side : MS := msRet (mAnd (mCall 1 F_is_number (maCons (mVar 0) (maNil))) (mChain fLe fLe (mC (.int 0)) (mVar 0) (mC (.int 1))))
def F_good_side : MF := mDef 1 (B_good_side)
def B_good_place : MS := msRet (mAnd (mCall 1 F_is_pair (maCons (mVar 1) (maNil))) (mAnd (mChain fLe fLe (mC (.int 0)) (m2 fIxM (mVar 1) (mC (.int 0))) (mC (.int 1))) (mChain fLe fLtM (mC (.int 0)) (m2 fIxM (mVar 1) (mC (.int 1))) (m2 fIxM (mVar 0) (m2 fIxM (mVar 1) (mC (.int 0)))))))
def F_good_place : MF := mDef 2 (B_good_place)
def B_good_tie : MS := msRet (mAnd (mCall 1 F_is_pair (maCons (mVar 1) (maNil))) (m2 (fIn false) (mVar 1) (m2 fIxM (mVar 0) (mC (.int 2)))))
def F_good_tie : MF := mDef 2 (B_good_tie)
def B_good_tree : MS := msCons (msAsg (mVar 0) (gmTup 3 (gmCons (gmName 2) (gmCons (gmName 3) (gmCons (gmName 4) (gmNil)))))) (msCons (msIf (tOrM (tNotM (mTru (mIsi (tBools [("NoneType", false), ("bool", false), ("int", false), ("str", false), ("tuple", true), ("list", false), ("dict", false)]) (mVar 1)))) (mTest (m2 (fEq true) (mCB fLenA (maCons (mVar 1) (maNil))) (m2 fSub (m2 fAdd (mVar 2) (mVar 3)) (mC (.int 1)))))) (msRet (mC (.bl false))) (msNil)) (msCons (msIf (tOrM (tNotM (mTru (mCall 3 F_good_ties (maCons (mVar 2) (maCons (mVar 3) (maCons (mVar 1) (maNil))))))) (tNotM (mTru (mCall 1 F_rises (maCons (mVar 1) (maNil)))))) (msRet (mC (.bl false))) (msNil)) (msRet (mAnd (mCT gAll (mLc (miS (mVar 1)) (gmName 5) (mYes) (m2 (fIn false) (mVar 5) (mVar 4)) [5])) (mCall 3 F_holds (maCons (mVar 2) (maCons (mVar 3) (maCons (mVar 1) (maNil)))))))))
def F_good_tree : MF := mDef 6 (B_good_tree)
def B_good_order : MS := msCons (msIf (tOrM (tNotM (mTru (mIsi (tBools [("NoneType", false), ("bool", false), ("int", false), ("str", false), ("tuple", true), ("list", false), ("dict", false)]) (mVar 1)))) (mTest (m2 (fEq true) (mCB fLenA (maCons (mVar 1) (maNil))) (mCB fLenA (maCons (m2 fIxM (mVar 0) (mC (.int 2))) (maNil)))))) (msRet (mC (.bl false))) (msNil)) (msRet (mAnd (mCT gAll (mLc (miS (mVar 1)) (gmName 2) (mYes) (mCall 1 F_is_pair (maCons (mVar 2) (maNil))) [2])) (m2 (fEq false) (mCB fSortB (maCons (mVar 1) (maNil))) (mCB fListA (maCons (m2 fIxM (mVar 0) (mC (.int 2))) (maNil))))))
def F_good_order : MF := mDef 3 (B_good_order)
def B_good_shares : MS := msCons (msIf (tOrM (tNotM (mTru (mIsi (tBools [("NoneType", false), ("bool", false), ("int", false), ("str", false), ("tuple", true), ("list", false), ("dict", false)]) (mVar 2)))) (tNotM (mTru (mCT gAll (mLc (miS (mVar 2)) (gmName 5) (mYes) (mAnd (mIsi (tBools [("NoneType", false), ("bool", false), ("int", false), ("str", false), ("tuple", true), ("list", false), ("dict", false)]) (mVar 5)) (m2 (fEq false) (mCB fLenA (maCons (mVar 5) (maNil))) (mC (.int 2)))) [5]))))) (msRet (mC (.bl false))) (msNil)) (msCons (msAsg (mCT gTuple (mLc (miS (mVar 2)) (gmName 5) (mYes) (m2 fIxM (mVar 5) (mC (.int 0))) [5])) (gmName 3)) (msCons (msIf (tNotM (mTru (mCall 2 F_good_tree (maCons (mVar 0) (maCons (mVar 3) (maNil)))))) (msRet (mC (.bl false))) (msNil)) (msCons (msAsg (mCall 3 F_shares_in (maCons (mVar 0) (maCons (mVar 3) (maCons (mVar 1) (maNil))))) (gmName 4)) (msRet (mCT gAll (mLc (miS (mVar 2)) (gmName 5) (mYes) (mCall 2 (F_same 10) (maCons (m2 fIxM (mVar 5) (mC (.int 1))) (maCons (m2 fIxM (mVar 4) (m2 fIxM (mVar 5) (mC (.int 0)))) (maNil)))) [5]))))))
def F_good_shares : MF := mDef 6 (B_good_shares)
def B_fit_pair : MS := msCons (msAsg (mCall 2 (F_tupled 8) (maCons (mVar 0) (maCons (mC (.int 1)) (maNil)))) (gmName 1)) (msCons (msIf (tNotM (mTru (mCall 1 F_is_pair (maCons (mVar 1) (maNil))))) (msRaise 3) (msNil)) (msRet (mVar 1)))
def F_fit_pair : MF := mDef 2 (B_fit_pair)
def B_fit_web : MS := msCons (msAsg (mCall 2 (F_tupled 8) (maCons (mVar 0) (maCons (mC (.int 3)) (maNil)))) (gmName 1)) (msCons (msIf (tNotM (mTru (mCall 1 F_good_web (maCons (mVar 1) (maNil))))) (msRaise 3) (msNil)) (msRet (mVar 1)))
def F_fit_web : MF := mDef 2 (B_fit_web)
def B_fit_side : MS := msCons (msIf (tNotM (mTru (mCall 1 F_good_side (maCons (mVar 0) (maNil))))) (msRaise 3) (msNil)) (msRet (mVar 0))
def F_fit_side : MF := mDef 1 (B_fit_side)
def B_fit_tree : MS := msCons (msAsg (mCall 2 (F_tupled 8) (maCons (mVar 1) (maCons (mC (.int 2)) (maNil)))) (gmName 2)) (msCons (msIf (tNotM (mTru (mCall 2 F_good_tree (maCons (mVar 0) (maCons (mVar 2) (maNil)))))) (msRaise 3) (msNil)) (msRet (mVar 2)))
def F_fit_tree : MF := mDef 3 (B_fit_tree)
def B_fit_order : MS := msCons (msAsg (mCall 2 (F_tupled 8) (maCons (mVar 1) (maCons (mC (.int 2)) (maNil)))) (gmName 2)) (msCons (msIf (tNotM (mTru (mCall 2 F_good_order (maCons (mVar 0) (maCons (mVar 2) (maNil)))))) (msRaise 3) (msNil)) (msRet (mVar 2)))
def F_fit_order : MF := mDef 3 (B_fit_order)
def B_fit_shares : MS := msCons (msAsg (mCall 2 (F_tupled 8) (maCons (mVar 2) (maCons (mC (.int 3)) (maNil)))) (gmName 3)) (msCons (msIf (tNotM (mTru (mCall 3 F_good_shares (maCons (mVar 0) (maCons (mVar 1) (maCons (mVar 3) (maNil))))))) (msRaise 3) (msNil)) (msRet (mVar 3)))
def F_fit_shares : MF := mDef 4 (B_fit_shares)
def B_fit_ring : MS := msCons (msAsg (mCall 2 (F_tupled 8) (maCons (mVar 2) (maCons (mC (.int 1)) (maNil)))) (gmName 3)) (msCons (msIf (tNotM (mTru (mCall 3 F_is_ring (maCons (mVar 0) (maCons (mVar 1) (maCons (mVar 3) (maNil))))))) (msRaise 3) (msNil)) (msRet (mVar 3)))
def F_fit_ring : MF := mDef 4 (B_fit_ring)
def B_need_place : MS := msIf (tNotM (mTru (mCall 2 F_good_place (maCons (mVar 0) (maCons (mVar 1) (maNil)))))) (msRaise1 0 (mVar 1)) (msNil)
def F_need_place : MF := mDef 2 (B_need_place)
def B_need_tie : MS := msIf (tNotM (mTru (mCall 2 F_good_tie (maCons (mVar 0) (maCons (mVar 1) (maNil)))))) (msRaise1 1 (mVar 1)) (msNil)
def F_need_tie : MF := mDef 2 (B_need_tie)
def B_share_of : MS := msCons (msExpr (mCall 2 F_need_tie (maCons (mVar 0) (maCons (mVar 2) (maNil))))) (msCons (msIf (mTest (m2 (fIn true) (mVar 2) (mVar 1))) (msRaise 2) (msNil)) (msRet (m2 fIxM (mCall 3 F_shares_in (maCons (mVar 0) (maCons (mVar 1) (maCons (mVar 3) (maNil))))) (mVar 2))))
def F_share_of : MF := mDef 4 (B_share_of)
def B_pairs_of : MS := msRet (mTupZip (maCons (mVar 1) (maCons (mCall 4 F_shares_along (maCons (mVar 0) (maCons (mVar 1) (maCons (mVar 1) (maCons (mVar 2) (maNil)))))) (maNil))))
def F_pairs_of : MF := mDef 3 (B_pairs_of)
def B_share : MS := msCons (msAsg (mRf (mCall 1 F_fit_web (maCons (mVar 0) (maNil)))) (gmName 0)) (msCons (msPar [1, 2, 3] (maCons (mRf (mCall 2 F_fit_tree (maCons (mVar 0) (maCons (mVar 1) (maNil))))) (maCons (mRf (mCall 1 F_fit_pair (maCons (mVar 2) (maNil)))) (maCons (mRf (mCall 1 F_fit_side (maCons (mVar 3) (maNil)))) (maNil))))) (msRet (mCall 4 F_share_of (maCons (mVar 0) (maCons (mVar 1) (maCons (mVar 2) (maCons (mVar 3) (maNil))))))))
def F_share : MF := mDef 4 (B_share)
def B_tree_shares : MS := msCons (msAsg (mRf (mCall 1 F_fit_web (maCons (mVar 0) (maNil)))) (gmName 0)) (msCons (msPar [1, 2] (maCons (mRf (mCall 2 F_fit_tree (maCons (mVar 0) (maCons (mVar 1) (maNil))))) (maCons (mRf (mCall 1 F_fit_side (maCons (mVar 2) (maNil)))) (maNil)))) (msRet (mCall 3 F_pairs_of (maCons (mVar 0) (maCons (mVar 1) (maCons (mVar 2) (maNil)))))))
def F_tree_shares : MF := mDef 3 (B_tree_shares)
def B_shares_by : MS := msCons (msAsg (mRf (mCall 1 F_fit_web (maCons (mVar 0) (maNil)))) (gmName 0)) (msCons (msPar [1, 2, 3] (maCons (mRf (mCall 2 F_fit_tree (maCons (mVar 0) (maCons (mVar 1) (maNil))))) (maCons (mRf (mCall 2 F_fit_order (maCons (mVar 0) (maCons (mVar 2) (maNil))))) (maCons (mRf (mCall 1 F_fit_side (maCons (mVar 3) (maNil)))) (maNil))))) (msRet (mCall 4 F_shares_along (maCons (mVar 0) (maCons (mVar 1) (maCons (mVar 2) (maCons (mVar 3) (maNil))))))))
def F_shares_by : MF := mDef 4 (B_shares_by)
def B_shares_round : MS := msCons (msAsg (mRf (mCall 1 F_fit_web (maCons (mVar 0) (maNil)))) (gmName 0)) (msCons (msAsg (mTup (maCons (mRf (mCall 2 F_fit_tree (maCons (mVar 0) (maCons (mVar 1) (maNil))))) (maCons (mRf (mCall 1 F_fit_side (maCons (mVar 2) (maNil)))) (maCons (mRf (mCall 1 F_fit_pair (maCons (mVar 3) (maNil)))) (maNil))))) (gmTup 3 (gmCons (gmName 1) (gmCons (gmName 2) (gmCons (gmName 3) (gmNil)))))) (msCons (msExpr (mCall 2 F_need_place (maCons (mVar 0) (maCons (mVar 3) (maNil))))) (msRet (mCT gSum (mLc (miS (mCall 3 F_pairs_of (maCons (mVar 0) (maCons (mVar 1) (maCons (mVar 2) (maNil)))))) (gmName 4) (mTest (m2 (fEq false) (m2 fIxM (m2 fIxM (mVar 4) (mC (.int 0))) (m2 fIxM (mVar 3) (mC (.int 0)))) (m2 fIxM (mVar 3) (mC (.int 1))))) (m2 fIxM (mVar 4) (mC (.int 1))) [4])))))
def F_shares_round : MF := mDef 5 (B_shares_round)
def B_carried : MS := msCons (msAsg (mRf (mCall 1 F_fit_web (maCons (mVar 0) (maNil)))) (gmName 0)) (msCons (msPar [1, 2, 3] (maCons (mRf (mCall 2 F_fit_tree (maCons (mVar 0) (maCons (mVar 1) (maNil))))) (maCons (mRf (mCall 1 F_fit_pair (maCons (mVar 2) (maNil)))) (maCons (mRf (mCall 1 F_fit_side (maCons (mVar 3) (maNil)))) (maNil))))) (msCons (msAsg (mCall 4 F_share_of (maCons (mVar 0) (maCons (mVar 1) (maCons (mVar 2) (maCons (mVar 3) (maNil)))))) (gmName 4)) (msCons (msAsg (mCB fGcd (maCons (mVar 4) (maCons (m2 fIxM (mVar 0) (mVar 3)) (maNil)))) (gmName 5)) (msRet (mTup (maCons (m2 fDiv (mVar 4) (mVar 5)) (maCons (m2 fDiv (m2 fIxM (mVar 0) (mVar 3)) (mVar 5)) (maNil))))))))
def F_carried : MF := mDef 6 (B_carried)
def B_is_shares : MS := msCons (msAsg (mRf (mCall 1 F_fit_web (maCons (mVar 0) (maNil)))) (gmName 0)) (msRet (mCall 3 F_good_shares (maCons (mVar 0) (maCons (mRf (mCall 1 F_fit_side (maCons (mVar 1) (maNil)))) (maCons (mVar 2) (maNil))))))
def F_is_shares : MF := mDef 3 (B_is_shares)
def B_row_by_shares : MS := msCons (msPar [0, 1] (maCons (mRf (mCall 1 F_fit_web (maCons (mVar 0) (maNil)))) (maCons (mRf (mCall 1 F_fit_side (maCons (mVar 1) (maNil)))) (maNil)))) (msRet (mCall 3 F_row_in (maCons (mVar 0) (maCons (mAlloc (mLc (miS (mRf (mCall 3 F_fit_shares (maCons (mVar 0) (maCons (mVar 1) (maCons (mVar 2) (maNil))))))) (gmName 3) (mYes) (m2 fIxM (mVar 3) (mC (.int 0))) [3])) (maCons (mVar 1) (maNil))))))
def F_row_by_shares : MF := mDef 4 (B_row_by_shares)
def B_other_shares : MS := msCons (msPar [0, 1] (maCons (mRf (mCall 1 F_fit_web (maCons (mVar 0) (maNil)))) (maCons (mRf (mCall 1 F_fit_side (maCons (mVar 1) (maNil)))) (maNil)))) (msCons (msAsg (mCT gTuple (mLc (miS (mRf (mCall 3 F_fit_shares (maCons (mVar 0) (maCons (mVar 1) (maCons (mVar 2) (maNil))))))) (gmName 4) (mYes) (m2 fIxM (mVar 4) (mC (.int 0))) [4])) (gmName 3)) (msRet (mCall 3 F_pairs_of (maCons (mVar 0) (maCons (mVar 3) (maCons (m2 fSub (mC (.int 1)) (mVar 1)) (maNil)))))))
def F_other_shares : MF := mDef 5 (B_other_shares)
def B_prices_of : MS := msCons (msAsg (mNewT) (gmName 2)) (msCons (msAsg (mC (.int 1)) (gmName 3)) (msCons (msFor (miRev (mVar 1)) (gmName 4) (msCons (msSet (mVar 3) (mVar 2) (mVar 4)) (msAug 3 fMulI (m2 fAdd (m2 fAdd (m2 fIxM (mVar 0) (mC (.int 0))) (m2 fIxM (mVar 0) (mC (.int 1)))) (mC (.int 1)))))) (msRet (mVar 2))))
def F_prices_of : MF := mDef 5 (B_prices_of)
def B_potentials_along : MS := msCons (msAsg (mNewT) (gmName 3)) (msCons (mLockS 1 (msFor (miK (mVar 1)) (gmName 4) (msCons (msAsg (m2 fIxM (mVar 1) (mVar 4)) (gmName 5)) (msSet (mIf (mTest (mIsN false (mVar 5))) (mC (.int 0)) (m2 fSub (m2 fIxM (mVar 2) (m2 fIxM (mVar 5) (mC (.int 0)))) (m2 fIxM (mVar 3) (m2 fIxM (mVar 5) (mC (.int 1)))))) (mVar 3) (mVar 4))))) (msCons (msAsg (mCT gTuple (mLc (miR1 (maCons (m2 fIxM (mVar 0) (mC (.int 0))) (maNil))) (gmName 7) (mYes) (m2 fIxM (mVar 3) (mTup (maCons (mC (.int 0)) (maCons (mVar 7) (maNil))))) [7])) (gmName 6)) (msRet (mTup (maCons (mVar 6) (maCons (mCT gTuple (mLc (miR1 (maCons (m2 fIxM (mVar 0) (mC (.int 1))) (maNil))) (gmName 8) (mYes) (m2 fIxM (mVar 3) (mTup (maCons (mC (.int 1)) (maCons (mVar 8) (maNil))))) [8])) (maNil)))))))
def F_potentials_along : MF := mDef 9 (B_potentials_along)
def B_potentials_of : MS := msRet (mCall 3 F_potentials_along (maCons (mVar 0) (maCons (mCall 2 F_steps_toward (maCons (mVar 1) (maCons (mTup (maCons (mC (.int 0)) (maCons (mC (.int 0)) (maNil)))) (maNil)))) (maCons (mVar 2) (maNil)))))
def F_potentials_of : MF := mDef 3 (B_potentials_of)
def B_gaps_along : MS := msCons (msAsg (mCall 3 F_potentials_along (maCons (mVar 0) (maCons (mVar 1) (maCons (mVar 2) (maNil))))) (gmTup 2 (gmCons (gmName 3) (gmCons (gmName 4) (gmNil))))) (msRet (mDc1 (miS (m2 fIxM (mVar 0) (mC (.int 2)))) (gmName 5) (mVar 5) (m2 fSub (m2 fSub (m2 fIxM (mVar 2) (mVar 5)) (m2 fIxM (mVar 3) (m2 fIxM (mVar 5) (mC (.int 0))))) (m2 fIxM (mVar 4) (m2 fIxM (mVar 5) (mC (.int 1))))) [5]))
def F_gaps_along : MF := mDef 6 (B_gaps_along)
def B_gaps_of : MS := msRet (mCall 3 F_gaps_along (maCons (mVar 0) (maCons (mCall 2 F_steps_toward (maCons (mVar 1) (maCons (mTup (maCons (mC (.int 0)) (maCons (mC (.int 0)) (maNil)))) (maNil)))) (maCons (mVar 2) (maNil)))))
def F_gaps_of : MF := mDef 3 (B_gaps_of)
def B_under_of : MS := msCons (msAsg (mCall 3 F_gaps_of (maCons (mVar 0) (maCons (mVar 1) (maCons (mVar 2) (maNil))))) (gmName 3)) (msRet (mCT gTuple (mLc (miS (m2 fIxM (mVar 0) (mC (.int 2)))) (gmName 4) (mTest (m2 fLtM (m2 fIxM (mVar 3) (mVar 4)) (mC (.int 0)))) (mVar 4) [4])))
def F_under_of : MF := mDef 5 (B_under_of)
def B_cost_of : MS := msCons (msAsg (mCall 3 F_shares_in (maCons (mVar 0) (maCons (mVar 1) (maCons (mVar 3) (maNil))))) (gmName 4)) (msRet (mCT gSum (mLc (miS (mVar 1)) (gmName 5) (mYes) (m2 fMulT (m2 fIxM (mVar 4) (mVar 5)) (m2 fIxM (mVar 2) (mVar 5))) [5])))
def F_cost_of : MF := mDef 6 (B_cost_of)
def B_price : MS := msCons (msAsg (mRf (mCall 1 F_fit_web (maCons (mVar 0) (maNil)))) (gmName 0)) (msCons (msPar [1, 2] (maCons (mRf (mCall 2 F_fit_order (maCons (mVar 0) (maCons (mVar 1) (maNil))))) (maCons (mRf (mCall 1 F_fit_pair (maCons (mVar 2) (maNil)))) (maNil)))) (msCons (msExpr (mCall 2 F_need_tie (maCons (mVar 0) (maCons (mVar 2) (maNil))))) (msRet (m2 fIxM (mCall 2 F_prices_of (maCons (mVar 0) (maCons (mVar 1) (maNil)))) (mVar 2)))))
def F_price : MF := mDef 3 (B_price)
def B_prices : MS := msCons (msAsg (mRf (mCall 1 F_fit_web (maCons (mVar 0) (maNil)))) (gmName 0)) (msCons (msAsg (mCall 2 F_prices_of (maCons (mVar 0) (maCons (mRf (mCall 2 F_fit_order (maCons (mVar 0) (maCons (mVar 1) (maNil))))) (maNil)))) (gmName 2)) (msRet (mCT gTuple (mLc (miS (m2 fIxM (mVar 0) (mC (.int 2)))) (gmName 3) (mYes) (m2 fIxM (mVar 2) (mVar 3)) [3]))))
def F_prices : MF := mDef 4 (B_prices)
def B_potentials : MS := msCons (msAsg (mRf (mCall 1 F_fit_web (maCons (mVar 0) (maNil)))) (gmName 0)) (msCons (msPar [1, 2] (maCons (mRf (mCall 2 F_fit_tree (maCons (mVar 0) (maCons (mVar 1) (maNil))))) (maCons (mRf (mCall 2 F_fit_order (maCons (mVar 0) (maCons (mVar 2) (maNil))))) (maNil)))) (msRet (mCall 3 F_potentials_of (maCons (mVar 0) (maCons (mVar 1) (maCons (mCall 2 F_prices_of (maCons (mVar 0) (maCons (mVar 2) (maNil)))) (maNil)))))))
def F_potentials : MF := mDef 3 (B_potentials)
def B_is_potentials : MS := msCons (msAsg (mRf (mCall 1 F_fit_web (maCons (mVar 0) (maNil)))) (gmName 0)) (msCons (msPar [1, 2] (maCons (mRf (mCall 2 F_fit_tree (maCons (mVar 0) (maCons (mVar 1) (maNil))))) (maCons (mRf (mCall 2 F_fit_order (maCons (mVar 0) (maCons (mVar 2) (maNil))))) (maNil)))) (msRet (mCall 2 (F_same 10) (maCons (mVar 3) (maCons (mCall 3 F_potentials_of (maCons (mVar 0) (maCons (mVar 1) (maCons (mCall 2 F_prices_of (maCons (mVar 0) (maCons (mVar 2) (maNil)))) (maNil))))) (maNil))))))
def F_is_potentials : MF := mDef 4 (B_is_potentials)
def B_gap : MS := msCons (msAsg (mRf (mCall 1 F_fit_web (maCons (mVar 0) (maNil)))) (gmName 0)) (msCons (msPar [1, 2, 3] (maCons (mRf (mCall 2 F_fit_tree (maCons (mVar 0) (maCons (mVar 1) (maNil))))) (maCons (mRf (mCall 2 F_fit_order (maCons (mVar 0) (maCons (mVar 2) (maNil))))) (maCons (mRf (mCall 1 F_fit_pair (maCons (mVar 3) (maNil)))) (maNil))))) (msCons (msExpr (mCall 2 F_need_tie (maCons (mVar 0) (maCons (mVar 3) (maNil))))) (msRet (m2 fIxM (mCall 3 F_gaps_of (maCons (mVar 0) (maCons (mVar 1) (maCons (mCall 2 F_prices_of (maCons (mVar 0) (maCons (mVar 2) (maNil)))) (maNil))))) (mVar 3)))))
def F_gap : MF := mDef 4 (B_gap)
def B_under : MS := msCons (msAsg (mRf (mCall 1 F_fit_web (maCons (mVar 0) (maNil)))) (gmName 0)) (msCons (msPar [1, 2] (maCons (mRf (mCall 2 F_fit_tree (maCons (mVar 0) (maCons (mVar 1) (maNil))))) (maCons (mRf (mCall 2 F_fit_order (maCons (mVar 0) (maCons (mVar 2) (maNil))))) (maNil)))) (msRet (mCall 3 F_under_of (maCons (mVar 0) (maCons (mVar 1) (maCons (mCall 2 F_prices_of (maCons (mVar 0) (maCons (mVar 2) (maNil)))) (maNil)))))))
def F_under : MF := mDef 3 (B_under)
def B_most_under : MS := msCons (msAsg (mRf (mCall 1 F_fit_web (maCons (mVar 0) (maNil)))) (gmName 0)) (msCons (msPar [1, 2] (maCons (mRf (mCall 2 F_fit_tree (maCons (mVar 0) (maCons (mVar 1) (maNil))))) (maCons (mRf (mCall 2 F_fit_order (maCons (mVar 0) (maCons (mVar 2) (maNil))))) (maNil)))) (msCons (msAsg (mCall 3 F_gaps_of (maCons (mVar 0) (maCons (mVar 1) (maCons (mCall 2 F_prices_of (maCons (mVar 0) (maCons (mVar 2) (maNil)))) (maNil))))) (gmName 3)) (msCons (msAsg (mCB fMinD (maCons (mAlloc (mLc (miS (m2 fIxM (mVar 0) (mC (.int 2)))) (gmName 6) (mYes) (mTup (maCons (m2 fIxM (mVar 3) (mVar 6)) (maCons (mVar 6) (maNil)))) [6])) (maNil))) (gmTup 2 (gmCons (gmName 4) (gmCons (gmName 5) (gmNil))))) (msCons (msIf (mTest (m2 (fEq false) (mVar 4) (mC (.int 0)))) (msRaise 2) (msNil)) (msRet (mVar 5))))))
def F_most_under : MF := mDef 7 (B_most_under)
def B_cost : MS := msCons (msAsg (mRf (mCall 1 F_fit_web (maCons (mVar 0) (maNil)))) (gmName 0)) (msCons (msPar [1, 2, 3] (maCons (mRf (mCall 2 F_fit_tree (maCons (mVar 0) (maCons (mVar 1) (maNil))))) (maCons (mRf (mCall 2 F_fit_order (maCons (mVar 0) (maCons (mVar 2) (maNil))))) (maCons (mRf (mCall 1 F_fit_side (maCons (mVar 3) (maNil)))) (maNil))))) (msRet (mCall 4 F_cost_of (maCons (mVar 0) (maCons (mVar 1) (maCons (mCall 2 F_prices_of (maCons (mVar 0) (maCons (mVar 2) (maNil)))) (maCons (mVar 3) (maNil))))))))
def F_cost : MF := mDef 4 (B_cost)
def B_is_cheaper : MS := msCons (msAsg (mRf (mCall 1 F_fit_web (maCons (mVar 0) (maNil)))) (gmName 0)) (msCons (msPar [1, 2] (maCons (mRf (mCall 2 F_fit_tree (maCons (mVar 0) (maCons (mVar 1) (maNil))))) (maCons (mRf (mCall 2 F_fit_tree (maCons (mVar 0) (maCons (mVar 2) (maNil))))) (maNil)))) (msCons (msPar [3, 4] (maCons (mRf (mCall 2 F_fit_order (maCons (mVar 0) (maCons (mVar 3) (maNil))))) (maCons (mRf (mCall 1 F_fit_side (maCons (mVar 4) (maNil)))) (maNil)))) (msCons (msAsg (mCall 2 F_prices_of (maCons (mVar 0) (maCons (mVar 3) (maNil)))) (gmName 5)) (msRet (m2 fLtM (mCall 4 F_cost_of (maCons (mVar 0) (maCons (mVar 1) (maCons (mVar 5) (maCons (mVar 4) (maNil)))))) (mCall 4 F_cost_of (maCons (mVar 0) (maCons (mVar 2) (maCons (mVar 5) (maCons (mVar 4) (maNil)))))))))))
def F_is_cheaper : MF := mDef 6 (B_is_cheaper)
def B_balance : MS := msCons (msAsg (mRf (mCall 1 F_fit_web (maCons (mVar 0) (maNil)))) (gmName 0)) (msCons (msPar [1, 2] (maCons (mRf (mCall 2 F_fit_order (maCons (mVar 0) (maCons (mVar 1) (maNil))))) (maCons (mRf (mCall 3 F_fit_ring (maCons (m2 fIxM (mVar 0) (mC (.int 2))) (maCons (m2 fIxM (mVar 0) (mC (.int 2))) (maCons (mVar 2) (maNil)))))) (maNil)))) (msCons (msAsg (mCall 2 F_prices_of (maCons (mVar 0) (maCons (mVar 1) (maNil)))) (gmName 3)) (msCons (msAsg (mCall 1 F_ties_round (maCons (mVar 2) (maNil))) (gmTup 2 (gmCons (gmName 4) (gmCons (gmName 5) (gmNil))))) (msRet (m2 fSub (mCT gSum (mLc (miS (mVar 4)) (gmName 6) (mYes) (m2 fIxM (mVar 3) (mVar 6)) [6])) (mCT gSum (mLc (miS (mVar 5)) (gmName 6) (mYes) (m2 fIxM (mVar 3) (mVar 6)) [6])))))))
def F_balance : MF := mDef 7 (B_balance)
def B__law_cells (sN : List Int) : MS := msCons (msAsg (mOrT (mCB fListA (maCons (mSlS sN (mVar 0) (moNone) (moSome (mVar 1))) (maNil))) (mLst (maCons (mC (.int 0)) (maNil)))) (gmName 2)) (msCons (msFor (miEn (maCons (mSlS sN (mVar 0) (moSome (mVar 1)) (moSome (mC (.int 63)))) (maNil))) (gmTup 2 (gmCons (gmName 3) (gmCons (gmName 4) (gmNil)))) (msCons (msAsg (m2 fMod (mCB fInt (maCons (mVar 3) (maNil))) (mVar 1)) (gmName 5)) (msSet (m2 fAdd (m2 fIxM (mVar 2) (mVar 5)) (m2 fMul (mVar 4) (m2 fAdd (mVar 3) (mC (.int 2))))) (mVar 2) (mVar 5)))) (msRet (mVar 2)))
def F__law_cells (sN : List Int) : MF := mDef 6 (B__law_cells sN)
def B__law_same (self : MF) : MS := msCons (msIf (mTru (mIsi (tBools [("NoneType", false), ("bool", false), ("int", false), ("str", false), ("tuple", true), ("list", true), ("dict", false)]) (mVar 1))) (msCons (msIf (tOrM (mTest (m2 (fEq true) (mIsi (tBools [("NoneType", false), ("bool", false), ("int", false), ("str", false), ("tuple", false), ("list", true), ("dict", false)]) (mVar 0)) (mIsi (tBools [("NoneType", false), ("bool", false), ("int", false), ("str", false), ("tuple", false), ("list", true), ("dict", false)]) (mVar 1)))) (mTest (m2 (fEq true) (mIsi (tBools [("NoneType", false), ("bool", false), ("int", false), ("str", false), ("tuple", true), ("list", false), ("dict", false)]) (mVar 0)) (mIsi (tBools [("NoneType", false), ("bool", false), ("int", false), ("str", false), ("tuple", true), ("list", false), ("dict", false)]) (mVar 1))))) (msRet (mC (.bl false))) (msNil)) (msRet (mAnd (m2 (fEq false) (mCB fLenA (maCons (mVar 0) (maNil))) (mCB fLenA (maCons (mVar 1) (maNil)))) (mCT gAll (mLc (miZip (maCons (mVar 0) (maCons (mVar 1) (maNil)))) (gmTup 2 (gmCons (gmName 2) (gmCons (gmName 3) (gmNil)))) (mYes) (mCall 2 self (maCons (mVar 2) (maCons (mVar 3) (maNil)))) [2, 3]))))) (msNil)) (msCons (msIf (tOrM (mTest (mIsN false (mVar 1))) (mTru (mIsi (tBools [("NoneType", false), ("bool", true), ("int", false), ("str", true), ("tuple", false), ("list", false), ("dict", false)]) (mVar 1)))) (msRet (mAnd (m2 (fEq false) (mVar 0) (mVar 1)) (mAnd (m2 (fEq false) (mIsi (tBools [("NoneType", false), ("bool", true), ("int", false), ("str", false), ("tuple", false), ("list", false), ("dict", false)]) (mVar 0)) (mIsi (tBools [("NoneType", false), ("bool", true), ("int", false), ("str", false), ("tuple", false), ("list", false), ("dict", false)]) (mVar 1))) (m2 (fEq false) (mIsN false (mVar 0)) (mIsN false (mVar 1)))))) (msNil)) (msRet (mAnd (mIsi (tBools [("NoneType", false), ("bool", true), ("int", true), ("str", false), ("tuple", false), ("list", false), ("dict", false)]) (mVar 0)) (mAnd (mNotT (mIsi (tBools [("NoneType", false), ("bool", true), ("int", false), ("str", false), ("tuple", false), ("list", false), ("dict", false)]) (mVar 0))) (m2 (fEq false) (mVar 0) (mVar 1))))))
def F__law_same : Nat → MF
  | 0 => fun _ _ => .bad
  | n + 1 => mDef 4 (B__law_same (F__law_same n))
def B__law_no_nets : MS := msRet (mLst (maCons (mTup (maNil)) (maCons (mC .non) (maCons (mC (.int 5)) (maCons (mC (.str "ab")) (maCons (mTup (maCons (mC (.int 1)) (maCons (mC (.int 1)) (maNil)))) (maCons (mTup (maCons (mC (.int 1)) (maCons (mC (.int 1)) (maCons (mTup (maNil)) (maNil))))) (maCons (mTup (maCons (mC (.int 0)) (maCons (mC (.int 1)) (maCons (mTup (maNil)) (maNil))))) (maCons (mTup (maCons (mC (.int 2)) (maCons (mC (.int 1)) (maCons (mTup (maCons (mTup (maCons (mC (.int 0)) (maCons (mC (.int 0)) (maNil)))) (maNil))) (maNil))))) (maCons (mTup (maCons (mC (.int 1)) (maCons (mC (.int 1)) (maCons (mTup (maCons (mTup (maCons (mC (.int 0)) (maCons (mC (.int 0)) (maNil)))) (maCons (mTup (maCons (mC (.int 0)) (maCons (mC (.int 0)) (maNil)))) (maNil)))) (maNil))))) (maCons (mTup (maCons (mC (.int 1)) (maCons (mC (.int 2)) (maCons (mTup (maCons (mTup (maCons (mC (.int 0)) (maCons (mC (.int 1)) (maNil)))) (maCons (mTup (maCons (mC (.int 0)) (maCons (mC (.int 0)) (maNil)))) (maNil)))) (maNil))))) (maCons (mTup (maCons (mC (.bl true)) (maCons (mC (.int 1)) (maCons (mTup (maCons (mTup (maCons (mC (.int 0)) (maCons (mC (.int 0)) (maNil)))) (maNil))) (maNil))))) (maCons (mTup (maCons (mC (.int 1)) (maCons (mC (.int 1)) (maCons (mTup (maCons (mTup (maCons (mC (.int 0)) (maCons (mC (.int 1)) (maNil)))) (maNil))) (maNil))))) (maCons (mTup (maCons (mC (.int 2)) (maCons (mC (.int 2)) (maCons (mTup (maCons (mTup (maCons (mC (.int 0)) (maCons (mC (.int 0)) (maNil)))) (maCons (mTup (maCons (mC (.int 1)) (maCons (mC (.int 1)) (maNil)))) (maNil)))) (maNil))))) (maNil)))))))))))))))
def F__law_no_nets : MF := mDef 0 (B__law_no_nets)
def B__law_asked : MS := msCons (msIf (mTest (m2 (fEq false) (mVar 0) (mC (.int 0)))) (msRet (mCall 2 F_prices (maCons (m2 fIxM (mVar 1) (mC (.int 0))) (maCons (m2 fIxM (mVar 1) (mC (.int 1))) (maNil))))) (msNil)) (msCons (msIf (mTest (m2 fLtM (mVar 0) (mC (.int 10)))) (msCons (msAsg (mLst (maCons (mC (.fn 51)) (maCons (mC (.fn 60)) (maCons (mC (.fn 37)) (maCons (mC (.fn 41)) (maCons (mC (.fn 42)) (maCons (mC (.fn 43)) (maCons (mC (.fn 53)) (maCons (mC (.fn 56)) (maCons (mC (.fn 57)) (maNil))))))))))) (gmName 2)) (msRet (mCallV (tb [(37, 3, F_tree_shares), (41, 3, F_is_shares), (42, 3, F_row_by_shares), (43, 3, F_other_shares), (51, 3, F_price), (53, 3, F_potentials), (56, 3, F_under), (57, 3, F_most_under), (60, 3, F_balance)]) (m2 fIxM (mVar 2) (m2 fSub (mVar 0) (mC (.int 1)))) (maCons (m2 fIxM (mVar 1) (mC (.int 0))) (maCons (m2 fIxM (mVar 1) (mC (.int 1))) (maCons (m2 fIxM (mVar 1) (mC (.int 2))) (maNil))))))) (msNil)) (msCons (msIf (mTest (m2 fLtM (mVar 0) (mC (.int 17)))) (msCons (msAsg (mLst (maCons (mC (.fn 36)) (maCons (mC (.fn 38)) (maCons (mC (.fn 39)) (maCons (mC (.fn 40)) (maCons (mC (.fn 55)) (maCons (mC (.fn 58)) (maCons (mC (.fn 54)) (maNil))))))))) (gmName 2)) (msRet (mCallV (tb [(36, 4, F_share), (38, 4, F_shares_by), (39, 4, F_shares_round), (40, 4, F_carried), (54, 4, F_is_potentials), (55, 4, F_gap), (58, 4, F_cost)]) (m2 fIxM (mVar 2) (m2 fSub (mVar 0) (mC (.int 10)))) (maCons (m2 fIxM (mVar 1) (mC (.int 0))) (maCons (m2 fIxM (mVar 1) (mC (.int 1))) (maCons (m2 fIxM (mVar 1) (mC (.int 2))) (maCons (m2 fIxM (mVar 1) (mC (.int 3))) (maNil)))))))) (msNil)) (msRet (mCall 5 F_is_cheaper (maCons (m2 fIxM (mVar 1) (mC (.int 0))) (maCons (m2 fIxM (mVar 1) (mC (.int 1))) (maCons (m2 fIxM (mVar 1) (mC (.int 2))) (maCons (m2 fIxM (mVar 1) (mC (.int 3))) (maCons (m2 fIxM (mVar 1) (mC (.int 4))) (maNil))))))))))
def F__law_asked : MF := mDef 3 (B__law_asked)
def B__law_reply : MS := msCons (msAsg (mC (.str "none")) (gmName 2)) (msCons (msTry (msAsg (mCall 2 F__law_asked (maCons (mVar 0) (maCons (mVar 1) (maNil)))) (gmName 2)) [⟨exmT 2, some 3, smSet 2 [amC (.str "cannot"), amI kiT_ValueError]⟩, ⟨exmT 1, some 4, smSet 2 [amC (.str "tie"), amF 1, amI kiT_LookupError]⟩, ⟨exmT 0, some 5, smSet 2 [amC (.str "place"), amF 0, amI kiT_LookupError]⟩, ⟨exmT 3, some 6, smSet 2 [amC (.str "unfit"), amI kiT_ValueError]⟩]) (msRet (mVar 2)))
def F__law_reply : MF := mDef 7 (B__law_reply)
def B__law_front_right : MS := msCons (msAsg (mTup (maCons (mC (.int 1)) (maCons (mC (.int 1)) (maCons (mTup (maCons (mTup (maCons (mC (.int 0)) (maCons (mC (.int 0)) (maNil)))) (maNil))) (maNil))))) (gmName 0)) (msCons (msAsg (mTup (maCons (mVar 0) (maCons (m2 fIxM (mVar 0) (mC (.int 2))) (maCons (m2 fIxM (mVar 0) (mC (.int 2))) (maNil))))) (gmName 1)) (msCons (msAsg (mLst (maCons (mCall 3 F_tree_shares (maCons (mVar 0) (maCons (m2 fIxM (mVar 0) (mC (.int 2))) (maCons (mC (.int 0)) (maNil))))) (maCons (mCall 4 F_shares_by (maCons (mVar 0) (maCons (m2 fIxM (mVar 0) (mC (.int 2))) (maCons (m2 fIxM (mVar 0) (mC (.int 2))) (maCons (mC (.int 1)) (maNil)))))) (maCons (mCall 4 F_carried (maCons (mVar 0) (maCons (m2 fIxM (mVar 0) (mC (.int 2))) (maCons (mTup (maCons (mC (.int 0)) (maCons (mC (.int 0)) (maNil)))) (maCons (mC (.int 1)) (maNil)))))) (maNil))))) (gmName 2)) (msCons (msAsg (m2 fAdd (mVar 2) (mLst (maCons (mCall 3 F_potentials (maCons (mVar 0) (maCons (m2 fIxM (mVar 0) (mC (.int 2))) (maCons (m2 fIxM (mVar 0) (mC (.int 2))) (maNil))))) (maCons (mCall 3 F_under (maCons (mVar 0) (maCons (m2 fIxM (mVar 0) (mC (.int 2))) (maCons (m2 fIxM (mVar 0) (mC (.int 2))) (maNil))))) (maCons (mCall 2 F__law_reply (maCons (mC (.int 9)) (maCons (mVar 1) (maNil)))) (maNil)))))) (gmName 2)) (msCons (msAsg (mLst (maCons (mTup (maCons (mTup (maCons (mTup (maCons (mC (.int 0)) (maCons (mC (.int 0)) (maNil)))) (maCons (mC (.int 1)) (maNil)))) (maNil))) (maCons (mTup (maCons (mC (.int 1)) (maNil))) (maCons (mTup (maCons (mC (.int 1)) (maCons (mC (.int 1)) (maNil)))) (maCons (mTup (maCons (mTup (maCons (mC (.int 0)) (maNil))) (maCons (mTup (maCons (mC (.int 1)) (maNil))) (maNil)))) (maCons (mTup (maNil)) (maCons (mLst (maCons (mC (.str "cannot")) (maCons (mC (.bl true)) (maNil)))) (maNil)))))))) (gmName 3)) (msCons (msAsg (mTup (maCons (mC (.int 3)) (maCons (mC (.int 2)) (maCons (mTup (maCons (mTup (maCons (mC (.int 0)) (maCons (mC (.int 0)) (maNil)))) (maCons (mTup (maCons (mC (.int 1)) (maCons (mC (.int 0)) (maNil)))) (maCons (mTup (maCons (mC (.int 1)) (maCons (mC (.int 1)) (maNil)))) (maCons (mTup (maCons (mC (.int 2)) (maCons (mC (.int 1)) (maNil)))) (maNil)))))) (maNil))))) (gmName 4)) (msCons (msAsg (m2 fAdd (mVar 2) (mLst (maCons (mCall 3 F_tree_shares (maCons (mVar 4) (maCons (m2 fIxM (mVar 4) (mC (.int 2))) (maCons (mC (.int 0)) (maNil))))) (maCons (mCall 3 F_tree_shares (maCons (mVar 4) (maCons (m2 fIxM (mVar 4) (mC (.int 2))) (maCons (mC (.int 1)) (maNil))))) (maNil))))) (gmName 2)) (msCons (msAsg (m2 fAdd (mVar 2) (mLst (maCons (mCall 3 F_row_by_shares (maCons (mVar 4) (maCons (mC (.int 0)) (maCons (mCall 3 F_tree_shares (maCons (mVar 4) (maCons (m2 fIxM (mVar 4) (mC (.int 2))) (maCons (mC (.int 0)) (maNil))))) (maNil))))) (maCons (mCall 3 F_potentials (maCons (mVar 4) (maCons (m2 fIxM (mVar 4) (mC (.int 2))) (maCons (m2 fIxM (mVar 4) (mC (.int 2))) (maNil))))) (maNil))))) (gmName 2)) (msCons (msAsg (m2 fAdd (mVar 3) (mLst (maCons (mTup (maCons (mTup (maCons (mTup (maCons (mC (.int 0)) (maCons (mC (.int 0)) (maNil)))) (maCons (mC (.int 1)) (maNil)))) (maCons (mTup (maCons (mTup (maCons (mC (.int 1)) (maCons (mC (.int 0)) (maNil)))) (maCons (mC (.int 2)) (maNil)))) (maCons (mTup (maCons (mTup (maCons (mC (.int 1)) (maCons (mC (.int 1)) (maNil)))) (maCons (mC (.int 2)) (maNil)))) (maCons (mTup (maCons (mTup (maCons (mC (.int 2)) (maCons (mC (.int 1)) (maNil)))) (maCons (mC (.int 1)) (maNil)))) (maNil)))))) (maCons (mTup (maCons (mTup (maCons (mTup (maCons (mC (.int 0)) (maCons (mC (.int 0)) (maNil)))) (maCons (mC (.int 2)) (maNil)))) (maCons (mTup (maCons (mTup (maCons (mC (.int 1)) (maCons (mC (.int 0)) (maNil)))) (maCons (mC (.int 1)) (maNil)))) (maCons (mTup (maCons (mTup (maCons (mC (.int 1)) (maCons (mC (.int 1)) (maNil)))) (maCons (mC (.int 1)) (maNil)))) (maCons (mTup (maCons (mTup (maCons (mC (.int 2)) (maCons (mC (.int 1)) (maNil)))) (maCons (mC (.int 2)) (maNil)))) (maNil)))))) (maCons (mTup (maCons (mC (.int 0)) (maCons (mC (.int 1)) (maCons (mC (.int 0)) (maNil))))) (maCons (mTup (maCons (mTup (maCons (mC (.int 0)) (maCons (mNeg (mC (.int 180))) (maCons (mNeg (mC (.int 185))) (maNil))))) (maCons (mTup (maCons (mC (.int 216)) (maCons (mC (.int 186)) (maNil)))) (maNil)))) (maNil))))))) (gmName 3)) (msCons (msAsg (mTup (maCons (mC (.int 1)) (maCons (mC (.int 5)) (maCons (mCT gTuple (mLc (miR1 (maCons (mC (.int 5)) (maNil))) (gmName 6) (mYes) (mTup (maCons (mC (.int 0)) (maCons (mVar 6) (maNil)))) [6])) (maNil))))) (gmName 5)) (msCons (msAsg (m2 fAdd (mVar 2) (mLst (maCons (mCall 3 F_tree_shares (maCons (mVar 5) (maCons (m2 fIxM (mVar 5) (mC (.int 2))) (maCons (mC (.int 0)) (maNil))))) (maCons (mCall 4 F_shares_round (maCons (mVar 5) (maCons (m2 fIxM (mVar 5) (mC (.int 2))) (maCons (mC (.int 0)) (maCons (mTup (maCons (mC (.int 0)) (maCons (mC (.int 0)) (maNil)))) (maNil)))))) (maCons (mCall 4 F_carried (maCons (mVar 5) (maCons (m2 fIxM (mVar 5) (mC (.int 2))) (maCons (mTup (maCons (mC (.int 0)) (maCons (mC (.int 3)) (maNil)))) (maCons (mC (.int 1)) (maNil)))))) (maNil)))))) (gmName 2)) (msCons (msAsg (m2 fAdd (mVar 2) (mLst (maCons (mCall 4 F_cost (maCons (mVar 5) (maCons (m2 fIxM (mVar 5) (mC (.int 2))) (maCons (m2 fIxM (mVar 5) (mC (.int 2))) (maCons (mC (.int 0)) (maNil)))))) (maCons (mCall 2 F__law_reply (maCons (mC (.int 2)) (maCons (mTup (maCons (mVar 5) (maCons (m2 fIxM (mVar 5) (mC (.int 2))) (maCons (mTup (maCons (mC (.int 0)) (maCons (mC (.int 0)) (maCons (mC (.int 0)) (maCons (mC (.int 1)) (maNil)))))) (maNil))))) (maNil)))) (maNil))))) (gmName 2)) (msRet (mCall 2 (F__law_same 10) (maCons (mVar 2) (maCons (m2 fAdd (mVar 3) (mLst (maCons (mCT gTuple (mLc (miS (m2 fIxM (mVar 5) (mC (.int 2)))) (gmName 6) (mYes) (mTup (maCons (mVar 6) (maCons (mC (.int 1)) (maNil)))) [6])) (maCons (mC (.int 5)) (maCons (mTup (maCons (mC (.int 1)) (maCons (mC (.int 5)) (maNil)))) (maCons (mC (.int 2801)) (maCons (mLst (maCons (mC (.str "unfit")) (maCons (mC (.bl true)) (maNil)))) (maNil)))))))) (maNil))))))))))))))))
def F__law_front_right : MF := mDef 7 (B__law_front_right)
def B__law_others_right : MS := msCons (msAsg (mTup (maCons (mC (.int 2)) (maCons (mC (.int 3)) (maCons (mTup (maCons (mTup (maCons (mC (.int 0)) (maCons (mC (.int 0)) (maNil)))) (maCons (mTup (maCons (mC (.int 0)) (maCons (mC (.int 1)) (maNil)))) (maCons (mTup (maCons (mC (.int 0)) (maCons (mC (.int 2)) (maNil)))) (maCons (mTup (maCons (mC (.int 1)) (maCons (mC (.int 0)) (maNil)))) (maCons (mTup (maCons (mC (.int 1)) (maCons (mC (.int 1)) (maNil)))) (maCons (mTup (maCons (mC (.int 1)) (maCons (mC (.int 2)) (maNil)))) (maNil)))))))) (maNil))))) (gmName 0)) (msCons (msAsg (mTup (maCons (mTup (maCons (mTup (maCons (mC (.int 0)) (maCons (mC (.int 0)) (maNil)))) (maCons (mTup (maCons (mC (.int 0)) (maCons (mC (.int 1)) (maNil)))) (maCons (mTup (maCons (mC (.int 1)) (maCons (mC (.int 1)) (maNil)))) (maCons (mTup (maCons (mC (.int 1)) (maCons (mC (.int 2)) (maNil)))) (maNil)))))) (maCons (m2 fIxM (mVar 0) (mC (.int 2))) (maNil)))) (gmTup 2 (gmCons (gmName 1) (gmCons (gmName 2) (gmNil))))) (msCons (msAsg (m2 fAdd (mAlloc (mLc (miS (mTup (maCons (mC (.int 10)) (maCons (mC (.int 13)) (maNil))))) (gmName 5) (mYes) (mCall 2 F__law_reply (maCons (mVar 5) (maCons (mTup (maCons (mVar 0) (maCons (mVar 1) (maCons (mTup (maCons (mC (.int 0)) (maCons (mC (.int 2)) (maNil)))) (maCons (mC (.int 0)) (maNil)))))) (maNil)))) [5])) (mAlloc (mLc (miS (mTup (maCons (mC (.int 10)) (maCons (mC (.int 13)) (maNil))))) (gmName 5) (mYes) (mCall 2 F__law_reply (maCons (mVar 5) (maCons (mTup (maCons (mVar 0) (maCons (mVar 1) (maCons (mTup (maCons (mC (.int 2)) (maCons (mC (.int 0)) (maNil)))) (maCons (mC (.int 0)) (maNil)))))) (maNil)))) [5]))) (gmName 3)) (msCons (msAsg (m2 fAdd (m2 fMulT (mLst (maCons (mLst (maCons (mC (.str "cannot")) (maCons (mC (.bl true)) (maNil)))) (maNil))) (mC (.int 2))) (m2 fMulT (mLst (maCons (mLst (maCons (mC (.str "tie")) (maCons (mTup (maCons (mC (.int 2)) (maCons (mC (.int 0)) (maNil)))) (maCons (mC (.bl true)) (maNil))))) (maNil))) (mC (.int 2)))) (gmName 4)) (msCons (msAsg (m2 fAdd (mVar 3) (mLst (maCons (mCall 2 F__law_reply (maCons (mC (.int 1)) (maCons (mTup (maCons (mVar 0) (maCons (mVar 2) (maCons (mTup (maCons (mC (.int 0)) (maCons (mNeg (mC (.int 1))) (maNil)))) (maNil))))) (maNil)))) (maCons (mCall 2 F__law_reply (maCons (mC (.int 14)) (maCons (mTup (maCons (mVar 0) (maCons (mVar 1) (maCons (mVar 2) (maCons (mTup (maCons (mC (.int 0)) (maCons (mC (.int 3)) (maNil)))) (maNil)))))) (maNil)))) (maNil))))) (gmName 3)) (msCons (msAsg (m2 fAdd (mVar 4) (mLst (maCons (mLst (maCons (mC (.str "tie")) (maCons (mTup (maCons (mC (.int 0)) (maCons (mNeg (mC (.int 1))) (maNil)))) (maCons (mC (.bl true)) (maNil))))) (maCons (mLst (maCons (mC (.str "tie")) (maCons (mTup (maCons (mC (.int 0)) (maCons (mC (.int 3)) (maNil)))) (maCons (mC (.bl true)) (maNil))))) (maNil))))) (gmName 4)) (msCons (msAsg (m2 fAdd (mVar 3) (mAlloc (mLc (miS (mTup (maCons (mTup (maCons (mC (.int 0)) (maCons (mC (.int 2)) (maNil)))) (maCons (mTup (maCons (mC (.int 1)) (maCons (mC (.int 3)) (maNil)))) (maCons (mTup (maCons (mC (.int 0)) (maCons (mNeg (mC (.int 1))) (maNil)))) (maNil)))))) (gmName 6) (mYes) (mCall 2 F__law_reply (maCons (mC (.int 12)) (maCons (mTup (maCons (mVar 0) (maCons (mVar 1) (maCons (mC (.int 0)) (maCons (mVar 6) (maNil)))))) (maNil)))) [6]))) (gmName 3)) (msRet (mCall 2 (F__law_same 10) (maCons (mVar 3) (maCons (m2 fAdd (mVar 4) (mLst (maCons (mLst (maCons (mC (.str "place")) (maCons (mTup (maCons (mC (.int 0)) (maCons (mC (.int 2)) (maNil)))) (maCons (mC (.bl true)) (maNil))))) (maCons (mLst (maCons (mC (.str "place")) (maCons (mTup (maCons (mC (.int 1)) (maCons (mC (.int 3)) (maNil)))) (maCons (mC (.bl true)) (maNil))))) (maCons (mLst (maCons (mC (.str "place")) (maCons (mTup (maCons (mC (.int 0)) (maCons (mNeg (mC (.int 1))) (maNil)))) (maCons (mC (.bl true)) (maNil))))) (maNil)))))) (maNil)))))))))))
def F__law_others_right : MF := mDef 7 (B__law_others_right)
def B__law_refused_right : MS := msCons (msAsg (mTup (maCons (mC (.int 2)) (maCons (mC (.int 3)) (maCons (mTup (maCons (mTup (maCons (mC (.int 0)) (maCons (mC (.int 0)) (maNil)))) (maCons (mTup (maCons (mC (.int 0)) (maCons (mC (.int 1)) (maNil)))) (maCons (mTup (maCons (mC (.int 0)) (maCons (mC (.int 2)) (maNil)))) (maCons (mTup (maCons (mC (.int 1)) (maCons (mC (.int 0)) (maNil)))) (maCons (mTup (maCons (mC (.int 1)) (maCons (mC (.int 1)) (maNil)))) (maCons (mTup (maCons (mC (.int 1)) (maCons (mC (.int 2)) (maNil)))) (maNil)))))))) (maNil))))) (gmName 0)) (msCons (msAsg (mTup (maCons (mTup (maCons (mTup (maCons (mC (.int 0)) (maCons (mC (.int 0)) (maNil)))) (maCons (mTup (maCons (mC (.int 0)) (maCons (mC (.int 1)) (maNil)))) (maCons (mTup (maCons (mC (.int 1)) (maCons (mC (.int 1)) (maNil)))) (maCons (mTup (maCons (mC (.int 1)) (maCons (mC (.int 2)) (maNil)))) (maNil)))))) (maCons (m2 fIxM (mVar 0) (mC (.int 2))) (maCons (mLst (maNil)) (maNil))))) (gmTup 3 (gmCons (gmName 1) (gmCons (gmName 2) (gmCons (gmName 3) (gmNil)))))) (msCons (msFor (miS (mCall 0 F__law_no_nets maNil)) (gmName 4) (msCons (msAsg (m2 fAdd (mVar 3) (mLst (maCons (mCall 2 F__law_reply (maCons (mC (.int 0)) (maCons (mTup (maCons (mVar 4) (maCons (mVar 2) (maNil)))) (maNil)))) (maCons (mCall 2 F__law_reply (maCons (mC (.int 1)) (maCons (mTup (maCons (mVar 4) (maCons (mVar 2) (maCons (mTup (maCons (mC (.int 9)) (maCons (mC (.int 9)) (maNil)))) (maNil))))) (maNil)))) (maCons (mCall 2 F__law_reply (maCons (mC (.int 2)) (maCons (mTup (maCons (mVar 4) (maCons (mVar 2) (maCons (mTup (maCons (mC (.int 0)) (maCons (mC (.int 0)) (maCons (mC (.int 1)) (maCons (mC (.int 1)) (maNil)))))) (maNil))))) (maNil)))) (maNil)))))) (gmName 3)) (msCons (msAsg (m2 fAdd (m2 fAdd (mVar 3) (mAlloc (mLc (miS (mTup (maCons (mC (.int 3)) (maNil)))) (gmName 5) (mYes) (mCall 2 F__law_reply (maCons (mVar 5) (maCons (mTup (maCons (mVar 4) (maCons (mVar 1) (maCons (mC (.int 0)) (maNil))))) (maNil)))) [5]))) (mAlloc (mLc (miS (mTup (maCons (mC (.int 4)) (maCons (mC (.int 5)) (maCons (mC (.int 6)) (maNil)))))) (gmName 5) (mYes) (mCall 2 F__law_reply (maCons (mVar 5) (maCons (mTup (maCons (mVar 4) (maCons (mC (.int 0)) (maCons (mTup (maNil)) (maNil))))) (maNil)))) [5]))) (gmName 3)) (msCons (msAsg (m2 fAdd (m2 fAdd (mVar 3) (mAlloc (mLc (miS (mTup (maCons (mC (.int 7)) (maCons (mC (.int 8)) (maCons (mC (.int 9)) (maNil)))))) (gmName 5) (mYes) (mCall 2 F__law_reply (maCons (mVar 5) (maCons (mTup (maCons (mVar 4) (maCons (mVar 1) (maCons (mVar 2) (maNil))))) (maNil)))) [5]))) (mAlloc (mLc (miS (mTup (maCons (mC (.int 10)) (maCons (mC (.int 13)) (maNil))))) (gmName 5) (mYes) (mCall 2 F__law_reply (maCons (mVar 5) (maCons (mTup (maCons (mVar 4) (maCons (mVar 1) (maCons (mTup (maCons (mC (.int 9)) (maCons (mC (.int 9)) (maNil)))) (maCons (mC (.int 0)) (maNil)))))) (maNil)))) [5]))) (gmName 3)) (msAsg (m2 fAdd (mVar 3) (mLst (maCons (mCall 2 F__law_reply (maCons (mC (.int 11)) (maCons (mTup (maCons (mVar 4) (maCons (mVar 1) (maCons (mVar 2) (maCons (mC (.int 0)) (maNil)))))) (maNil)))) (maCons (mCall 2 F__law_reply (maCons (mC (.int 12)) (maCons (mTup (maCons (mVar 4) (maCons (mVar 1) (maCons (mC (.int 0)) (maCons (mTup (maCons (mC (.int 0)) (maCons (mC (.int 9)) (maNil)))) (maNil)))))) (maNil)))) (maCons (mCall 2 F__law_reply (maCons (mC (.int 17)) (maCons (mTup (maCons (mVar 4) (maCons (mVar 1) (maCons (mVar 1) (maCons (mVar 2) (maCons (mC (.int 0)) (maNil))))))) (maNil)))) (maNil)))))) (gmName 3)))))) (msCons (msFor (miS (mTup (maCons (mTup (maNil)) (maCons (mC .non) (maCons (mC (.int 5)) (maCons (mSl (mVar 1) (moSome (mC (.int 1))) (moNone)) (maCons (mStep (mVar 1) (moNone) (moNone) (moSome (mNeg (mC (.int 1))))) (maCons (m2 fAdd (mVar 1) (mSl (mVar 1) (moNone) (moSome (mC (.int 1))))) (maCons (mTup (maCons (mTup (maCons (mC (.int 0)) (maCons (mC (.int 0)) (maNil)))) (maCons (mTup (maCons (mC (.int 0)) (maCons (mC (.int 1)) (maNil)))) (maCons (mTup (maCons (mC (.int 1)) (maCons (mC (.int 0)) (maNil)))) (maCons (mTup (maCons (mC (.int 1)) (maCons (mC (.int 1)) (maNil)))) (maNil)))))) (maCons (mC (.str "ab")) (maCons (mTup (maCons (mTup (maCons (mC (.int 0)) (maCons (mC (.int 0)) (maNil)))) (maCons (mTup (maCons (mC (.int 0)) (maCons (mC (.int 1)) (maNil)))) (maCons (mTup (maCons (mC (.int 1)) (maCons (mC (.int 1)) (maNil)))) (maCons (mTup (maCons (mC (.int 1)) (maCons (mC (.bl true)) (maNil)))) (maNil)))))) (maNil)))))))))))) (gmName 4) (msCons (msAsg (m2 fAdd (m2 fAdd (m2 fAdd (mVar 3) (mLst (maCons (mCall 2 F__law_reply (maCons (mC (.int 3)) (maCons (mTup (maCons (mVar 0) (maCons (mVar 4) (maCons (mC (.int 0)) (maNil))))) (maNil)))) (maNil)))) (mAlloc (mLc (miS (mTup (maCons (mC (.int 7)) (maCons (mC (.int 8)) (maCons (mC (.int 9)) (maNil)))))) (gmName 5) (mYes) (mCall 2 F__law_reply (maCons (mVar 5) (maCons (mTup (maCons (mVar 0) (maCons (mVar 4) (maCons (mVar 2) (maNil))))) (maNil)))) [5]))) (mAlloc (mLc (miS (mTup (maCons (mC (.int 10)) (maCons (mC (.int 13)) (maNil))))) (gmName 5) (mYes) (mCall 2 F__law_reply (maCons (mVar 5) (maCons (mTup (maCons (mVar 0) (maCons (mVar 4) (maCons (mTup (maCons (mC (.int 9)) (maCons (mC (.int 9)) (maNil)))) (maCons (mC (.int 0)) (maNil)))))) (maNil)))) [5]))) (gmName 3)) (msCons (msAsg (m2 fAdd (mVar 3) (mLst (maCons (mCall 2 F__law_reply (maCons (mC (.int 11)) (maCons (mTup (maCons (mVar 0) (maCons (mVar 4) (maCons (mVar 2) (maCons (mC (.int 0)) (maNil)))))) (maNil)))) (maCons (mCall 2 F__law_reply (maCons (mC (.int 12)) (maCons (mTup (maCons (mVar 0) (maCons (mVar 4) (maCons (mC (.int 0)) (maCons (mTup (maCons (mC (.int 0)) (maCons (mC (.int 9)) (maNil)))) (maNil)))))) (maNil)))) (maCons (mCall 2 F__law_reply (maCons (mC (.int 14)) (maCons (mTup (maCons (mVar 0) (maCons (mVar 4) (maCons (mVar 2) (maCons (mTup (maCons (mC (.int 9)) (maCons (mC (.int 9)) (maNil)))) (maNil)))))) (maNil)))) (maNil)))))) (gmName 3)) (msCons (msAsg (m2 fAdd (mVar 3) (mLst (maCons (mCall 2 F__law_reply (maCons (mC (.int 15)) (maCons (mTup (maCons (mVar 0) (maCons (mVar 4) (maCons (mVar 2) (maCons (mC (.int 0)) (maNil)))))) (maNil)))) (maCons (mCall 2 F__law_reply (maCons (mC (.int 16)) (maCons (mTup (maCons (mVar 0) (maCons (mVar 4) (maCons (mVar 2) (maCons (mC .non) (maNil)))))) (maNil)))) (maNil))))) (gmName 3)) (msAsg (m2 fAdd (mVar 3) (mLst (maCons (mCall 2 F__law_reply (maCons (mC (.int 17)) (maCons (mTup (maCons (mVar 0) (maCons (mVar 4) (maCons (mVar 1) (maCons (mVar 2) (maCons (mC (.int 0)) (maNil))))))) (maNil)))) (maCons (mCall 2 F__law_reply (maCons (mC (.int 17)) (maCons (mTup (maCons (mVar 0) (maCons (mVar 1) (maCons (mVar 4) (maCons (mVar 2) (maCons (mC (.int 0)) (maNil))))))) (maNil)))) (maNil))))) (gmName 3)))))) (msCons (msFor (miS (mTup (maCons (mTup (maNil)) (maCons (mC .non) (maCons (mSl (mVar 2) (moSome (mC (.int 1))) (moNone)) (maCons (m2 fAdd (mVar 2) (mSl (mVar 2) (moNone) (moSome (mC (.int 1))))) (maCons (m2 fAdd (mSl (mVar 2) (moNone) (moSome (mC (.int 5)))) (mTup (maCons (mTup (maCons (mC (.int 0)) (maCons (mC (.int 0)) (maNil)))) (maNil)))) (maCons (mC (.int 5)) (maCons (m2 fAdd (mSl (mVar 2) (moNone) (moSome (mC (.int 5)))) (mTup (maCons (mTup (maCons (mC (.int 1)) (maCons (mC (.int 3)) (maNil)))) (maNil)))) (maNil)))))))))) (gmName 4) (msCons (msAsg (m2 fAdd (mVar 3) (mLst (maCons (mCall 2 F__law_reply (maCons (mC (.int 0)) (maCons (mTup (maCons (mVar 0) (maCons (mVar 4) (maNil)))) (maNil)))) (maCons (mCall 2 F__law_reply (maCons (mC (.int 1)) (maCons (mTup (maCons (mVar 0) (maCons (mVar 4) (maCons (mTup (maCons (mC (.int 9)) (maCons (mC (.int 9)) (maNil)))) (maNil))))) (maNil)))) (maCons (mCall 2 F__law_reply (maCons (mC (.int 7)) (maCons (mTup (maCons (mVar 0) (maCons (mVar 1) (maCons (mVar 4) (maNil))))) (maNil)))) (maCons (mCall 2 F__law_reply (maCons (mC (.int 14)) (maCons (mTup (maCons (mVar 0) (maCons (mVar 1) (maCons (mVar 4) (maCons (mTup (maCons (mC (.int 9)) (maCons (mC (.int 9)) (maNil)))) (maNil)))))) (maNil)))) (maNil))))))) (gmName 3)) (msAsg (m2 fAdd (mVar 3) (mLst (maCons (mCall 2 F__law_reply (maCons (mC (.int 11)) (maCons (mTup (maCons (mVar 0) (maCons (mVar 1) (maCons (mVar 4) (maCons (mC (.int 0)) (maNil)))))) (maNil)))) (maCons (mCall 2 F__law_reply (maCons (mC (.int 15)) (maCons (mTup (maCons (mVar 0) (maCons (mVar 1) (maCons (mVar 4) (maCons (mC (.int 0)) (maNil)))))) (maNil)))) (maNil))))) (gmName 3)))) (msCons (msFor (miS (mTup (maCons (mC (.int 2)) (maCons (mNeg (mC (.int 1))) (maCons (mC .non) (maCons (mC (.bl true)) (maCons (mC (.str "0")) (maCons (mTup (maCons (mC (.int 0)) (maNil))) (maNil))))))))) (gmName 4) (msCons (msAsg (m2 fAdd (mVar 3) (mLst (maCons (mCall 2 F__law_reply (maCons (mC (.int 3)) (maCons (mTup (maCons (mVar 0) (maCons (mVar 1) (maCons (mVar 4) (maNil))))) (maNil)))) (maCons (mCall 2 F__law_reply (maCons (mC (.int 4)) (maCons (mTup (maCons (mVar 0) (maCons (mVar 4) (maCons (mTup (maNil)) (maNil))))) (maNil)))) (maCons (mCall 2 F__law_reply (maCons (mC (.int 10)) (maCons (mTup (maCons (mVar 0) (maCons (mVar 1) (maCons (mTup (maCons (mC (.int 9)) (maCons (mC (.int 9)) (maNil)))) (maCons (mVar 4) (maNil)))))) (maNil)))) (maCons (mCall 2 F__law_reply (maCons (mC (.int 11)) (maCons (mTup (maCons (mVar 0) (maCons (mVar 1) (maCons (mVar 2) (maCons (mVar 4) (maNil)))))) (maNil)))) (maNil))))))) (gmName 3)) (msAsg (m2 fAdd (mVar 3) (mLst (maCons (mCall 2 F__law_reply (maCons (mC (.int 12)) (maCons (mTup (maCons (mVar 0) (maCons (mVar 1) (maCons (mVar 4) (maCons (mTup (maCons (mC (.int 0)) (maCons (mC (.int 9)) (maNil)))) (maNil)))))) (maNil)))) (maCons (mCall 2 F__law_reply (maCons (mC (.int 15)) (maCons (mTup (maCons (mVar 0) (maCons (mVar 1) (maCons (mVar 2) (maCons (mVar 4) (maNil)))))) (maNil)))) (maCons (mCall 2 F__law_reply (maCons (mC (.int 17)) (maCons (mTup (maCons (mVar 0) (maCons (mVar 1) (maCons (mVar 1) (maCons (mVar 2) (maCons (mVar 4) (maNil))))))) (maNil)))) (maNil)))))) (gmName 3)))) (msCons (msFor (miS (mTup (maCons (mC .non) (maCons (mTup (maCons (mC (.int 0)) (maNil))) (maCons (mC (.int 5)) (maCons (mTup (maCons (mC (.int 0)) (maCons (mC .non) (maNil)))) (maCons (mTup (maCons (mC (.int 0)) (maCons (mC (.int 0)) (maCons (mC (.int 0)) (maNil))))) (maCons (mTup (maCons (mC (.bl true)) (maCons (mC (.int 0)) (maNil)))) (maCons (mC (.str "00")) (maNil)))))))))) (gmName 4) (msAsg (m2 fAdd (mVar 3) (mLst (maCons (mCall 2 F__law_reply (maCons (mC (.int 10)) (maCons (mTup (maCons (mVar 0) (maCons (mVar 1) (maCons (mVar 4) (maCons (mC (.int 0)) (maNil)))))) (maNil)))) (maCons (mCall 2 F__law_reply (maCons (mC (.int 1)) (maCons (mTup (maCons (mVar 0) (maCons (mVar 2) (maCons (mVar 4) (maNil))))) (maNil)))) (maCons (mCall 2 F__law_reply (maCons (mC (.int 14)) (maCons (mTup (maCons (mVar 0) (maCons (mVar 1) (maCons (mVar 2) (maCons (mVar 4) (maNil)))))) (maNil)))) (maCons (mCall 2 F__law_reply (maCons (mC (.int 12)) (maCons (mTup (maCons (mVar 0) (maCons (mVar 1) (maCons (mC (.int 0)) (maCons (mVar 4) (maNil)))))) (maNil)))) (maNil))))))) (gmName 3))) (msCons (msFor (miS (mTup (maCons (mTup (maNil)) (maCons (mC .non) (maCons (mTup (maCons (mTup (maCons (mTup (maCons (mC (.int 0)) (maCons (mC (.int 0)) (maNil)))) (maCons (mC (.int 1)) (maNil)))) (maNil))) (maCons (mTup (maCons (mTup (maCons (mC (.int 0)) (maCons (mC (.int 0)) (maNil)))) (maCons (mC (.int 2)) (maNil)))) (maCons (mC (.int 5)) (maNil)))))))) (gmName 4) (msAsg (m2 fAdd (mVar 3) (mAlloc (mLc (miS (mTup (maCons (mC (.int 5)) (maCons (mC (.int 6)) (maNil))))) (gmName 5) (mYes) (mCall 2 F__law_reply (maCons (mVar 5) (maCons (mTup (maCons (mVar 0) (maCons (mC (.int 0)) (maCons (mVar 4) (maNil))))) (maNil)))) [5]))) (gmName 3))) (msRet (mCall 2 (F__law_same 10) (maCons (mVar 3) (maCons (m2 fMulT (mLst (maCons (mLst (maCons (mC (.str "unfit")) (maCons (mC (.bl true)) (maNil)))) (maNil))) (mCB fLenA (maCons (mVar 3) (maNil)))) (maNil))))))))))))
def F__law_refused_right : MF := mDef 6 (B__law_refused_right)
def B_law (sN : List Int) : MS := msCons (msIf (tOrM (tNotM (mTru (mR (mCall 0 F__law_front_right maNil)))) (tNotM (mTru (mR (mCall 0 F__law_others_right maNil))))) (msRet (mC (.bl false))) (msNil)) (msRet (mOrT (m2 (fEq false) (m2 fMod (mR (mCB fInt (maCons (m2 fIxM (mCall 2 (F__law_cells sN) (maCons (mVar 0) (maCons (mC (.int 1)) (maNil)))) (mC (.int 0))) (maNil)))) (mC (.int 2))) (mC (.int 1))) (mR (mCall 0 F__law_refused_right maNil))))
def F_law (sN : List Int) : MF := mDef 1 (B_law sN)
structure Tp (K : PySem.W.Frag) (w : World) (sA : Addr) (sN : List Int) (mg : Str → Option Value) : Prop where
  g_top_of : mg "top_of" = some (.ref ((Zk K w sA sN).φ 0))
  g_forest : mg "forest" = some (.ref ((Zk K w sA sN).φ 1))
  g_holds : mg "holds" = some (.ref ((Zk K w sA sN).φ 2))
  g_is_number : mg "is_number" = some (.ref ((Zk K w sA sN).φ 3))
  g_are_numbers : mg "are_numbers" = some (.ref ((Zk K w sA sN).φ 4))
  g_is_pair : mg "is_pair" = some (.ref ((Zk K w sA sN).φ 5))
  g_rises : mg "rises" = some (.ref ((Zk K w sA sN).φ 6))
  g_tupled : mg "tupled" = some (.ref ((Zk K w sA sN).φ 7))
  g_same : mg "same" = some (.ref ((Zk K w sA sN).φ 8))
  g_ties_round : mg "ties_round" = some (.ref ((Zk K w sA sN).φ 9))
  g_is_ring : mg "is_ring" = some (.ref ((Zk K w sA sN).φ 10))
  g_row_in : mg "row_in" = some (.ref ((Zk K w sA sN).φ 11))
  g_steps_of : mg "steps_of" = some (.ref ((Zk K w sA sN).φ 12))
  g_steps_toward : mg "steps_toward" = some (.ref ((Zk K w sA sN).φ 13))
  g_beyond_along : mg "beyond_along" = some (.ref ((Zk K w sA sN).φ 14))
  g_shares_in : mg "shares_in" = some (.ref ((Zk K w sA sN).φ 15))
  g_shares_along : mg "shares_along" = some (.ref ((Zk K w sA sN).φ 16))
  g_good_ties : mg "good_ties" = some (.ref ((Zk K w sA sN).φ 17))
  g_good_web : mg "good_web" = some (.ref ((Zk K w sA sN).φ 18))
  g_good_side : mg "good_side" = some (.ref ((Zk K w sA sN).φ 19))
  g_good_place : mg "good_place" = some (.ref ((Zk K w sA sN).φ 20))
  g_good_tie : mg "good_tie" = some (.ref ((Zk K w sA sN).φ 21))
  g_good_tree : mg "good_tree" = some (.ref ((Zk K w sA sN).φ 22))
  g_good_order : mg "good_order" = some (.ref ((Zk K w sA sN).φ 23))
  g_good_shares : mg "good_shares" = some (.ref ((Zk K w sA sN).φ 24))
  g_fit_pair : mg "fit_pair" = some (.ref ((Zk K w sA sN).φ 25))
  g_fit_web : mg "fit_web" = some (.ref ((Zk K w sA sN).φ 26))
  g_fit_side : mg "fit_side" = some (.ref ((Zk K w sA sN).φ 27))
  g_fit_tree : mg "fit_tree" = some (.ref ((Zk K w sA sN).φ 28))
  g_fit_order : mg "fit_order" = some (.ref ((Zk K w sA sN).φ 29))
  g_fit_shares : mg "fit_shares" = some (.ref ((Zk K w sA sN).φ 30))
  g_fit_ring : mg "fit_ring" = some (.ref ((Zk K w sA sN).φ 31))
  g_need_place : mg "need_place" = some (.ref ((Zk K w sA sN).φ 32))
  g_need_tie : mg "need_tie" = some (.ref ((Zk K w sA sN).φ 33))
  g_share_of : mg "share_of" = some (.ref ((Zk K w sA sN).φ 34))
  g_pairs_of : mg "pairs_of" = some (.ref ((Zk K w sA sN).φ 35))
  g_share : mg "share" = some (.ref ((Zk K w sA sN).φ 36))
  g_tree_shares : mg "tree_shares" = some (.ref ((Zk K w sA sN).φ 37))
  g_shares_by : mg "shares_by" = some (.ref ((Zk K w sA sN).φ 38))
  g_shares_round : mg "shares_round" = some (.ref ((Zk K w sA sN).φ 39))
  g_carried : mg "carried" = some (.ref ((Zk K w sA sN).φ 40))
  g_is_shares : mg "is_shares" = some (.ref ((Zk K w sA sN).φ 41))
  g_row_by_shares : mg "row_by_shares" = some (.ref ((Zk K w sA sN).φ 42))
  g_other_shares : mg "other_shares" = some (.ref ((Zk K w sA sN).φ 43))
  g_prices_of : mg "prices_of" = some (.ref ((Zk K w sA sN).φ 44))
  g_potentials_along : mg "potentials_along" = some (.ref ((Zk K w sA sN).φ 45))
  g_potentials_of : mg "potentials_of" = some (.ref ((Zk K w sA sN).φ 46))
  g_gaps_along : mg "gaps_along" = some (.ref ((Zk K w sA sN).φ 47))
  g_gaps_of : mg "gaps_of" = some (.ref ((Zk K w sA sN).φ 48))
  g_under_of : mg "under_of" = some (.ref ((Zk K w sA sN).φ 49))
  g_cost_of : mg "cost_of" = some (.ref ((Zk K w sA sN).φ 50))
  g_price : mg "price" = some (.ref ((Zk K w sA sN).φ 51))
  g_prices : mg "prices" = some (.ref ((Zk K w sA sN).φ 52))
  g_potentials : mg "potentials" = some (.ref ((Zk K w sA sN).φ 53))
  g_is_potentials : mg "is_potentials" = some (.ref ((Zk K w sA sN).φ 54))
  g_gap : mg "gap" = some (.ref ((Zk K w sA sN).φ 55))
  g_under : mg "under" = some (.ref ((Zk K w sA sN).φ 56))
  g_most_under : mg "most_under" = some (.ref ((Zk K w sA sN).φ 57))
  g_cost : mg "cost" = some (.ref ((Zk K w sA sN).φ 58))
  g_is_cheaper : mg "is_cheaper" = some (.ref ((Zk K w sA sN).φ 59))
  g_balance : mg "balance" = some (.ref ((Zk K w sA sN).φ 60))
  g__law_cells : mg "_law_cells" = some (.ref ((Zk K w sA sN).φ 61))
  g__law_same : mg "_law_same" = some (.ref ((Zk K w sA sN).φ 62))
  g__law_no_nets : mg "_law_no_nets" = some (.ref ((Zk K w sA sN).φ 63))
  g__law_asked : mg "_law_asked" = some (.ref ((Zk K w sA sN).φ 64))
  g__law_reply : mg "_law_reply" = some (.ref ((Zk K w sA sN).φ 65))
  g__law_front_right : mg "_law_front_right" = some (.ref ((Zk K w sA sN).φ 66))
  g__law_others_right : mg "_law_others_right" = some (.ref ((Zk K w sA sN).φ 67))
  g__law_refused_right : mg "_law_refused_right" = some (.ref ((Zk K w sA sN).φ 68))
  g_law : mg "law" = some (.ref ((Zk K w sA sN).φ 69))
  d_top_of : ∃ fd, FunD K "top_of" "top_of" (defArgs (top 7)) (defBody (top 7)) (defScope (top 7)) [] [] ((Zk K w sA sN).φ 0) fd
  d_forest : ∃ fd, FunD K "forest" "forest" (defArgs (top 8)) (defBody (top 8)) (defScope (top 8)) [] [] ((Zk K w sA sN).φ 1) fd
  d_holds : ∃ fd, FunD K "holds" "holds" (defArgs (top 9)) (defBody (top 9)) (defScope (top 9)) [] [] ((Zk K w sA sN).φ 2) fd
  d_is_number : ∃ fd, FunD K "is_number" "is_number" (defArgs (top 11)) (defBody (top 11)) (defScope (top 11)) [] [] ((Zk K w sA sN).φ 3) fd
  d_are_numbers : ∃ fd, FunD K "are_numbers" "are_numbers" (defArgs (top 12)) (defBody (top 12)) (defScope (top 12)) [] [] ((Zk K w sA sN).φ 4) fd
  d_is_pair : ∃ fd, FunD K "is_pair" "is_pair" (defArgs (top 13)) (defBody (top 13)) (defScope (top 13)) [] [] ((Zk K w sA sN).φ 5) fd
  d_rises : ∃ fd, FunD K "rises" "rises" (defArgs (top 14)) (defBody (top 14)) (defScope (top 14)) [] [] ((Zk K w sA sN).φ 6) fd
  d_tupled : ∃ fd, FunD K "tupled" "tupled" (defArgs (top 15)) (defBody (top 15)) (defScope (top 15)) [] [] ((Zk K w sA sN).φ 7) fd
  d_same : ∃ fd, FunD K "same" "same" (defArgs (top 16)) (defBody (top 16)) (defScope (top 16)) [] [] ((Zk K w sA sN).φ 8) fd
  d_ties_round : ∃ fd, FunD K "ties_round" "ties_round" (defArgs (top 18)) (defBody (top 18)) (defScope (top 18)) [] [] ((Zk K w sA sN).φ 9) fd
  d_is_ring : ∃ fd, FunD K "is_ring" "is_ring" (defArgs (top 19)) (defBody (top 19)) (defScope (top 19)) [] [] ((Zk K w sA sN).φ 10) fd
  d_row_in : ∃ fd, FunD K "row_in" "row_in" (defArgs (top 21)) (defBody (top 21)) (defScope (top 21)) [] [] ((Zk K w sA sN).φ 11) fd
  d_steps_of : ∃ fd, FunD K "steps_of" "steps_of" (defArgs (top 22)) (defBody (top 22)) (defScope (top 22)) [] [] ((Zk K w sA sN).φ 12) fd
  d_steps_toward : ∃ fd, FunD K "steps_toward" "steps_toward" (defArgs (top 23)) (defBody (top 23)) (defScope (top 23)) [] [] ((Zk K w sA sN).φ 13) fd
  d_beyond_along : ∃ fd, FunD K "beyond_along" "beyond_along" (defArgs (top 24)) (defBody (top 24)) (defScope (top 24)) [] [] ((Zk K w sA sN).φ 14) fd
  d_shares_in : ∃ fd, FunD K "shares_in" "shares_in" (defArgs (top 25)) (defBody (top 25)) (defScope (top 25)) [] [] ((Zk K w sA sN).φ 15) fd
  d_shares_along : ∃ fd, FunD K "shares_along" "shares_along" (defArgs (top 26)) (defBody (top 26)) (defScope (top 26)) [] [] ((Zk K w sA sN).φ 16) fd
  d_good_ties : ∃ fd, FunD K "good_ties" "good_ties" (defArgs (top 28)) (defBody (top 28)) (defScope (top 28)) [] [] ((Zk K w sA sN).φ 17) fd
  d_good_web : ∃ fd, FunD K "good_web" "good_web" (defArgs (top 29)) (defBody (top 29)) (defScope (top 29)) [] [] ((Zk K w sA sN).φ 18) fd
  d_good_side : ∃ fd, FunD K "good_side" "good_side" (defArgs (top 30)) (defBody (top 30)) (defScope (top 30)) [] [] ((Zk K w sA sN).φ 19) fd
  d_good_place : ∃ fd, FunD K "good_place" "good_place" (defArgs (top 31)) (defBody (top 31)) (defScope (top 31)) [] [] ((Zk K w sA sN).φ 20) fd
  d_good_tie : ∃ fd, FunD K "good_tie" "good_tie" (defArgs (top 32)) (defBody (top 32)) (defScope (top 32)) [] [] ((Zk K w sA sN).φ 21) fd
  d_good_tree : ∃ fd, FunD K "good_tree" "good_tree" (defArgs (top 33)) (defBody (top 33)) (defScope (top 33)) [] [] ((Zk K w sA sN).φ 22) fd
  d_good_order : ∃ fd, FunD K "good_order" "good_order" (defArgs (top 34)) (defBody (top 34)) (defScope (top 34)) [] [] ((Zk K w sA sN).φ 23) fd
  d_good_shares : ∃ fd, FunD K "good_shares" "good_shares" (defArgs (top 35)) (defBody (top 35)) (defScope (top 35)) [] [] ((Zk K w sA sN).φ 24) fd
  d_fit_pair : ∃ fd, FunD K "fit_pair" "fit_pair" (defArgs (top 36)) (defBody (top 36)) (defScope (top 36)) [] [] ((Zk K w sA sN).φ 25) fd
  d_fit_web : ∃ fd, FunD K "fit_web" "fit_web" (defArgs (top 37)) (defBody (top 37)) (defScope (top 37)) [] [] ((Zk K w sA sN).φ 26) fd
  d_fit_side : ∃ fd, FunD K "fit_side" "fit_side" (defArgs (top 38)) (defBody (top 38)) (defScope (top 38)) [] [] ((Zk K w sA sN).φ 27) fd
  d_fit_tree : ∃ fd, FunD K "fit_tree" "fit_tree" (defArgs (top 39)) (defBody (top 39)) (defScope (top 39)) [] [] ((Zk K w sA sN).φ 28) fd
  d_fit_order : ∃ fd, FunD K "fit_order" "fit_order" (defArgs (top 40)) (defBody (top 40)) (defScope (top 40)) [] [] ((Zk K w sA sN).φ 29) fd
  d_fit_shares : ∃ fd, FunD K "fit_shares" "fit_shares" (defArgs (top 41)) (defBody (top 41)) (defScope (top 41)) [] [] ((Zk K w sA sN).φ 30) fd
  d_fit_ring : ∃ fd, FunD K "fit_ring" "fit_ring" (defArgs (top 42)) (defBody (top 42)) (defScope (top 42)) [] [] ((Zk K w sA sN).φ 31) fd
  d_need_place : ∃ fd, FunD K "need_place" "need_place" (defArgs (top 43)) (defBody (top 43)) (defScope (top 43)) [] [] ((Zk K w sA sN).φ 32) fd
  d_need_tie : ∃ fd, FunD K "need_tie" "need_tie" (defArgs (top 44)) (defBody (top 44)) (defScope (top 44)) [] [] ((Zk K w sA sN).φ 33) fd
  d_share_of : ∃ fd, FunD K "share_of" "share_of" (defArgs (top 46)) (defBody (top 46)) (defScope (top 46)) [] [] ((Zk K w sA sN).φ 34) fd
  d_pairs_of : ∃ fd, FunD K "pairs_of" "pairs_of" (defArgs (top 47)) (defBody (top 47)) (defScope (top 47)) [] [] ((Zk K w sA sN).φ 35) fd
  d_share : ∃ fd, FunD K "share" "share" (defArgs (top 48)) (defBody (top 48)) (defScope (top 48)) [] [] ((Zk K w sA sN).φ 36) fd
  d_tree_shares : ∃ fd, FunD K "tree_shares" "tree_shares" (defArgs (top 49)) (defBody (top 49)) (defScope (top 49)) [] [] ((Zk K w sA sN).φ 37) fd
  d_shares_by : ∃ fd, FunD K "shares_by" "shares_by" (defArgs (top 50)) (defBody (top 50)) (defScope (top 50)) [] [] ((Zk K w sA sN).φ 38) fd
  d_shares_round : ∃ fd, FunD K "shares_round" "shares_round" (defArgs (top 51)) (defBody (top 51)) (defScope (top 51)) [] [] ((Zk K w sA sN).φ 39) fd
  d_carried : ∃ fd, FunD K "carried" "carried" (defArgs (top 52)) (defBody (top 52)) (defScope (top 52)) [] [] ((Zk K w sA sN).φ 40) fd
  d_is_shares : ∃ fd, FunD K "is_shares" "is_shares" (defArgs (top 53)) (defBody (top 53)) (defScope (top 53)) [] [] ((Zk K w sA sN).φ 41) fd
  d_row_by_shares : ∃ fd, FunD K "row_by_shares" "row_by_shares" (defArgs (top 54)) (defBody (top 54)) (defScope (top 54)) [] [] ((Zk K w sA sN).φ 42) fd
  d_other_shares : ∃ fd, FunD K "other_shares" "other_shares" (defArgs (top 55)) (defBody (top 55)) (defScope (top 55)) [] [] ((Zk K w sA sN).φ 43) fd
  d_prices_of : ∃ fd, FunD K "prices_of" "prices_of" (defArgs (top 57)) (defBody (top 57)) (defScope (top 57)) [] [] ((Zk K w sA sN).φ 44) fd
  d_potentials_along : ∃ fd, FunD K "potentials_along" "potentials_along" (defArgs (top 58)) (defBody (top 58)) (defScope (top 58)) [] [] ((Zk K w sA sN).φ 45) fd
  d_potentials_of : ∃ fd, FunD K "potentials_of" "potentials_of" (defArgs (top 59)) (defBody (top 59)) (defScope (top 59)) [] [] ((Zk K w sA sN).φ 46) fd
  d_gaps_along : ∃ fd, FunD K "gaps_along" "gaps_along" (defArgs (top 60)) (defBody (top 60)) (defScope (top 60)) [] [] ((Zk K w sA sN).φ 47) fd
  d_gaps_of : ∃ fd, FunD K "gaps_of" "gaps_of" (defArgs (top 61)) (defBody (top 61)) (defScope (top 61)) [] [] ((Zk K w sA sN).φ 48) fd
  d_under_of : ∃ fd, FunD K "under_of" "under_of" (defArgs (top 62)) (defBody (top 62)) (defScope (top 62)) [] [] ((Zk K w sA sN).φ 49) fd
  d_cost_of : ∃ fd, FunD K "cost_of" "cost_of" (defArgs (top 63)) (defBody (top 63)) (defScope (top 63)) [] [] ((Zk K w sA sN).φ 50) fd
  d_price : ∃ fd, FunD K "price" "price" (defArgs (top 65)) (defBody (top 65)) (defScope (top 65)) [] [] ((Zk K w sA sN).φ 51) fd
  d_prices : ∃ fd, FunD K "prices" "prices" (defArgs (top 66)) (defBody (top 66)) (defScope (top 66)) [] [] ((Zk K w sA sN).φ 52) fd
  d_potentials : ∃ fd, FunD K "potentials" "potentials" (defArgs (top 67)) (defBody (top 67)) (defScope (top 67)) [] [] ((Zk K w sA sN).φ 53) fd
  d_is_potentials : ∃ fd, FunD K "is_potentials" "is_potentials" (defArgs (top 68)) (defBody (top 68)) (defScope (top 68)) [] [] ((Zk K w sA sN).φ 54) fd
  d_gap : ∃ fd, FunD K "gap" "gap" (defArgs (top 69)) (defBody (top 69)) (defScope (top 69)) [] [] ((Zk K w sA sN).φ 55) fd
  d_under : ∃ fd, FunD K "under" "under" (defArgs (top 70)) (defBody (top 70)) (defScope (top 70)) [] [] ((Zk K w sA sN).φ 56) fd
  d_most_under : ∃ fd, FunD K "most_under" "most_under" (defArgs (top 71)) (defBody (top 71)) (defScope (top 71)) [] [] ((Zk K w sA sN).φ 57) fd
  d_cost : ∃ fd, FunD K "cost" "cost" (defArgs (top 72)) (defBody (top 72)) (defScope (top 72)) [] [] ((Zk K w sA sN).φ 58) fd
  d_is_cheaper : ∃ fd, FunD K "is_cheaper" "is_cheaper" (defArgs (top 73)) (defBody (top 73)) (defScope (top 73)) [] [] ((Zk K w sA sN).φ 59) fd
  d_balance : ∃ fd, FunD K "balance" "balance" (defArgs (top 74)) (defBody (top 74)) (defScope (top 74)) [] [] ((Zk K w sA sN).φ 60) fd
  d__law_cells : ∃ fd, FunD K "_law_cells" "_law_cells" (defArgs (top 76)) (defBody (top 76)) (defScope (top 76)) [] [] ((Zk K w sA sN).φ 61) fd
  d__law_same : ∃ fd, FunD K "_law_same" "_law_same" (defArgs (top 77)) (defBody (top 77)) (defScope (top 77)) [] [] ((Zk K w sA sN).φ 62) fd
  d__law_no_nets : ∃ fd, FunD K "_law_no_nets" "_law_no_nets" (defArgs (top 78)) (defBody (top 78)) (defScope (top 78)) [] [] ((Zk K w sA sN).φ 63) fd
  d__law_asked : ∃ fd, FunD K "_law_asked" "_law_asked" (defArgs (top 79)) (defBody (top 79)) (defScope (top 79)) [] [] ((Zk K w sA sN).φ 64) fd
  d__law_reply : ∃ fd, FunD K "_law_reply" "_law_reply" (defArgs (top 80)) (defBody (top 80)) (defScope (top 80)) [] [] ((Zk K w sA sN).φ 65) fd
  d__law_front_right : ∃ fd, FunD K "_law_front_right" "_law_front_right" (defArgs (top 81)) (defBody (top 81)) (defScope (top 81)) [] [] ((Zk K w sA sN).φ 66) fd
  d__law_others_right : ∃ fd, FunD K "_law_others_right" "_law_others_right" (defArgs (top 82)) (defBody (top 82)) (defScope (top 82)) [] [] ((Zk K w sA sN).φ 67) fd
  d__law_refused_right : ∃ fd, FunD K "_law_refused_right" "_law_refused_right" (defArgs (top 83)) (defBody (top 83)) (defScope (top 83)) [] [] ((Zk K w sA sN).φ 68) fd
  d_law : ∃ fd, FunD K "law" "law" (defArgs (top 84)) (defBody (top 84)) (defScope (top 84)) [] [] ((Zk K w sA sN).φ 69) fd
  b_LookupError : mg "LookupError" = none
  b_ValueError : mg "ValueError" = none
  b_all : mg "all" = none
  b_bool : mg "bool" = none
  b_enumerate : mg "enumerate" = none
  b_int : mg "int" = none
  b_isinstance : mg "isinstance" = none
  b_len : mg "len" = none
  b_list : mg "list" = none
  b_min : mg "min" = none
  b_range : mg "range" = none
  b_reversed : mg "reversed" = none
  b_set : mg "set" = none
  b_sorted : mg "sorted" = none
  b_str : mg "str" = none
  b_sum : mg "sum" = none
  b_tuple : mg "tuple" = none
  b_zip : mg "zip" = none
  i_gcd : mg "gcd" = some (.builtin "math.gcd")
  k_NoPlace : mg "NoPlace" = some (.ref ((Zk K w sA sN).κ 0))
  x_NoPlace : ∃ fI, XI.Txt K mg "NoPlace" "place" ((Zk K w sA sN).κ 0) fI [.type "LookupError", .type "Exception", .type "BaseException", .type "object"] "LookupError.__new__"
  m_NoPlace : ∀ k, PySem.W.exmOne K (.ref ((Zk K w sA sN).κ k)) (.ref ((Zk K w sA sN).κ 0)) = some (exmT 0 k)
  f_NoPlace : XfC K ((Zk K w sA sN).κ 0)
  n_NoPlace : PySem.W.findIn K (.ref ((Zk K w sA sN).κ 0)) "place" = some none
  k_NoTie : mg "NoTie" = some (.ref ((Zk K w sA sN).κ 1))
  x_NoTie : ∃ fI, XI.Txt K mg "NoTie" "tie" ((Zk K w sA sN).κ 1) fI [.type "LookupError", .type "Exception", .type "BaseException", .type "object"] "LookupError.__new__"
  m_NoTie : ∀ k, PySem.W.exmOne K (.ref ((Zk K w sA sN).κ k)) (.ref ((Zk K w sA sN).κ 1)) = some (exmT 1 k)
  f_NoTie : XfC K ((Zk K w sA sN).κ 1)
  n_NoTie : PySem.W.findIn K (.ref ((Zk K w sA sN).κ 1)) "tie" = some none
  k_CanNot : mg "CanNot" = some (.ref ((Zk K w sA sN).κ 2))
  x_CanNot : X0 K mg "CanNot" ((Zk K w sA sN).κ 2) [.type "ValueError", .type "Exception", .type "BaseException", .type "object"] "ValueError.__new__"
  m_CanNot : ∀ k, PySem.W.exmOne K (.ref ((Zk K w sA sN).κ k)) (.ref ((Zk K w sA sN).κ 2)) = some (exmT 2 k)
  k_Unfit : mg "Unfit" = some (.ref ((Zk K w sA sN).κ 3))
  x_Unfit : X0 K mg "Unfit" ((Zk K w sA sN).κ 3) [.type "ValueError", .type "Exception", .type "BaseException", .type "object"] "ValueError.__new__"
  m_Unfit : ∀ k, PySem.W.exmOne K (.ref ((Zk K w sA sN).κ k)) (.ref ((Zk K w sA sN).κ 3)) = some (exmT 3 k)
  ex_LookupError : ∀ c b, kiT_LookupError c = some b → ExcC K ((Zk K w sA sN).κ c)
  ki_LookupError : ∀ c b, kiT_LookupError c = some b → PySem.W.kitOne K (.ref ((Zk K w sA sN).κ c)) (.type "LookupError") = some b
  ex_ValueError : ∀ c b, kiT_ValueError c = some b → ExcC K ((Zk K w sA sN).κ c)
  ki_ValueError : ∀ c b, kiT_ValueError c = some b → PySem.W.kitOne K (.ref ((Zk K w sA sN).κ c)) (.type "ValueError") = some b
section
variable {P : Program} {w : World} {K : PySem.W.Frag} {sA : Addr} {sN : List Int} {mg : Str → Option Value} {base : Heap}
theorem sc_top_of : FnScope ["above", "at"] ["above", "at"] (defScope (top 7)) := ⟨rfl, rfl, rfl, by decide +kernel, rfl, by decide +kernel, by decide +kernel⟩
theorem fo_top_of (T : Tp K w sA sN mg) {fd : FuncData} (F : FunD K "top_of" "top_of" (defArgs (top 7)) (defBody (top 7)) (defScope (top 7)) [] [] ((Zk K w sA sN).φ 0) fd) : FnOk P w K mg base (L2.CX P w) 1 ((Zk K w sA sN).φ 0) fd ["above", "at"] (spM (Zk K w sA sN) 2 F_top_of) :=
  def_ofD (k := 0) (b := B_top_of) (n := 2) rfl F sc_top_of rfl fun cdv A outer s H E hr tk => ss_cons (s_while passes_cx (s_tcmp (op_neM (hu64 hr)) s2_ne (s_ixM rfl (hu1 hr) (s_var 0 (pv 0)) (s_var 1 (pv 1))) (s_var 1 (pv 1)) (nomark _)) (ss_cons (s_setIx (hu1 hr) (s_ixM rfl (hu1 hr) (s_var 0 (pv 0)) (s_ixM rfl (hu1 hr) (s_var 0 (pv 0)) (s_var 1 (pv 1)))) (s_var 0 (pv 0)) (s_var 1 (pv 1))) (ss_one (s_set (i := 1) sc_top_of.nd rfl (by first | exact .inl rfl | exact .inr rfl) (s_ixM rfl (hu1 hr) (s_var 0 (pv 0)) (s_var 1 (pv 1))))))) (ss_one (s_ret (s_var 1 (pv 1))))
theorem ok_top_of (T : Tp K w sA sN mg) : FnP P w K mg base (Zk K w sA sN) 1 0 2 F_top_of := by
  obtain ⟨fd, F⟩ := T.d_top_of
  exact ⟨fd, ["above", "at"], fo_top_of T F, F.kp, F.bindsN fun _ _ _ _ _ _ us hl => match us, hl with | [_, _], _ => rfl⟩
theorem sc_forest : FnScope ["many", "number", "ties", "above", "joining", "tie", "hand", "task"] ["many", "number", "ties"] (defScope (top 8)) := ⟨rfl, rfl, rfl, by decide +kernel, rfl, by decide +kernel, by decide +kernel⟩
theorem fo_forest (T : Tp K w sA sN mg) (o_top_of : FnP P w K mg base (Zk K w sA sN) 1 0 2 F_top_of) {fd : FuncData} (F : FunD K "forest" "forest" (defArgs (top 8)) (defBody (top 8)) (defScope (top 8)) [] [] ((Zk K w sA sN).φ 1) fd) : FnOk P w K mg base (L2.CX P w) 2 ((Zk K w sA sN).φ 1) fd ["many", "number", "ties"] (spM (Zk K w sA sN) 3 F_forest) :=
  def_ofD (k := 1) (b := B_forest) (n := 8) rfl F sc_forest rfl fun cdv A outer s H E hr tk => ss_cons (s_set (i := 3) sc_forest.nd rfl (by first | exact .inl rfl | exact .inr rfl) (s_alloc (s_listR1 rfl rfl T.b_list rfl T.b_range (s_op op_addM s2_add (s_var 0 (pv 0)) (s_var 1 (pv 1)))))) (ss_cons (s_set (i := 4) sc_forest.nd rfl (by first | exact .inl rfl | exact .inr rfl) (s_lst (s_nil))) (ss_cons (s_for passes_cx rfl (s_iS rfl (s_var 2 (pv 2))) (s_gname (pg_name (i := 5) sc_forest.nd rfl (by first | exact .inl rfl | exact .inr rfl))) (ss_cons (s_par2 (i := 6) (j := 7) rfl sc_forest.nd rfl rfl (by decide) rfl rfl (s_cons (s_callF (o_top_of.at_ hr rfl) tk rfl T.g_top_of (s_cons (s_var 3 (pv 3)) (s_cons (s_ixM rfl (hu1 hr) (s_var 5 (pv 5)) (s_int)) (s_nil)))) (s_cons (s_callF (o_top_of.at_ hr rfl) tk rfl T.g_top_of (s_cons (s_var 3 (pv 3)) (s_cons (s_op op_addM s2_add (s_var 0 (pv 0)) (s_ixM rfl (hu1 hr) (s_var 5 (pv 5)) (s_int))) (s_nil)))) (s_nil))) (by rfl)) (ss_one (s_ifS (s_tcmp (op_neM (hu64 hr)) s2_ne (s_var 6 (pv 6)) (s_var 7 (pv 7)) (nomark _)) (ss_cons (s_setIx (hu1 hr) (s_var 7 (pv 7)) (s_var 3 (pv 3)) (s_var 6 (pv 6))) (ss_one (s_expr (s_bm PySem.F.slot_list_append PySem.F.type_list_append mt_append ms_append (s_var 4 (pv 4)) (s_cons (s_var 5 (pv 5)) (s_nil)))))) (ss_nil))))) (ss_one (s_ret (s_var 4 (pv 4))))))
theorem ok_forest (T : Tp K w sA sN mg) (o_top_of : FnP P w K mg base (Zk K w sA sN) 1 0 2 F_top_of) : FnP P w K mg base (Zk K w sA sN) 2 1 3 F_forest := by
  obtain ⟨fd, F⟩ := T.d_forest
  exact ⟨fd, ["many", "number", "ties"], fo_forest T o_top_of F, F.kp, F.bindsN fun _ _ _ _ _ _ us hl => match us, hl with | [_, _, _], _ => rfl⟩
theorem sc_holds : FnScope ["many", "number", "ties", "need"] ["many", "number", "ties"] (defScope (top 9)) := ⟨rfl, rfl, rfl, by decide +kernel, rfl, by decide +kernel, by decide +kernel⟩
theorem fo_holds (T : Tp K w sA sN mg) (o_forest : FnP P w K mg base (Zk K w sA sN) 2 1 3 F_forest) {fd : FuncData} (F : FunD K "holds" "holds" (defArgs (top 9)) (defBody (top 9)) (defScope (top 9)) [] [] ((Zk K w sA sN).φ 2) fd) : FnOk P w K mg base (L2.CX P w) 3 ((Zk K w sA sN).φ 2) fd ["many", "number", "ties"] (spM (Zk K w sA sN) 3 F_holds) :=
  def_ofD (k := 2) (b := B_holds) (n := 4) rfl F sc_holds rfl fun cdv A outer s H E hr tk => ss_cons (s_set (i := 3) sc_holds.nd rfl (by first | exact .inl rfl | exact .inr rfl) (s_op op_sub s2_sub (s_op op_addM s2_add (s_var 0 (pv 0)) (s_var 1 (pv 1))) (s_int))) (ss_one (s_ret (s_and (s_cmp op_ge s2_ge (s_cb cr_lenA cs_lenA rfl T.b_len bt_len (s_cons (s_var 2 (pv 2)) (s_nil))) (s_var 3 (pv 3)) (nomark _)) (pe_one (s_cmp (op_eqM (hu64 hr)) s2_eq (s_cb cr_lenA cs_lenA rfl T.b_len bt_len (s_cons (s_callF (o_forest.at_ hr rfl) tk rfl T.g_forest (s_cons (s_var 0 (pv 0)) (s_cons (s_var 1 (pv 1)) (s_cons (s_var 2 (pv 2)) (s_nil))))) (s_nil))) (s_var 3 (pv 3)) (nomark _))))))
theorem ok_holds (T : Tp K w sA sN mg) (o_forest : FnP P w K mg base (Zk K w sA sN) 2 1 3 F_forest) : FnP P w K mg base (Zk K w sA sN) 3 2 3 F_holds := by
  obtain ⟨fd, F⟩ := T.d_holds
  exact ⟨fd, ["many", "number", "ties"], fo_holds T o_forest F, F.kp, F.bindsN fun _ _ _ _ _ _ us hl => match us, hl with | [_, _, _], _ => rfl⟩
theorem sc_is_number : FnScope ["thing"] ["thing"] (defScope (top 11)) := ⟨rfl, rfl, rfl, by decide +kernel, rfl, by decide +kernel, by decide +kernel⟩
theorem fo_is_number (T : Tp K w sA sN mg) {fd : FuncData} (F : FunD K "is_number" "is_number" (defArgs (top 11)) (defBody (top 11)) (defScope (top 11)) [] [] ((Zk K w sA sN).φ 3) fd) : FnOk P w K mg base (L2.CX P w) 1 ((Zk K w sA sN).φ 3) fd ["thing"] (spM (Zk K w sA sN) 1 F_is_number) :=
  def_ofD (k := 0) (b := B_is_number) (n := 1) rfl F sc_is_number rfl fun cdv A outer s H E hr tk => ss_one (s_ret (s_and (s_isi1 rfl rfl T.b_isinstance bt_isinstance (pe_bltn rfl T.b_int bt_int rfl) (s_var 0 (pv 0)) (tB_ok (by decide +kernel))) (pe_one (s_notT rfl (s_isi1 rfl rfl T.b_isinstance bt_isinstance (pe_bltn rfl T.b_bool bt_bool rfl) (s_var 0 (pv 0)) (tB_ok (by decide +kernel)))))))
theorem ok_is_number (T : Tp K w sA sN mg) : FnP P w K mg base (Zk K w sA sN) 1 3 1 F_is_number := by
  obtain ⟨fd, F⟩ := T.d_is_number
  exact ⟨fd, ["thing"], fo_is_number T F, F.kp, F.bindsN fun _ _ _ _ _ _ us hl => match us, hl with | [_], _ => rfl⟩
theorem sc_are_numbers : FnScope ["thing", "own"] ["thing"] (defScope (top 12)) := ⟨rfl, rfl, rfl, by decide +kernel, rfl, by decide +kernel, by decide +kernel⟩
theorem fo_are_numbers (T : Tp K w sA sN mg) (o_is_number : FnP P w K mg base (Zk K w sA sN) 1 3 1 F_is_number) {fd : FuncData} (F : FunD K "are_numbers" "are_numbers" (defArgs (top 12)) (defBody (top 12)) (defScope (top 12)) [] [] ((Zk K w sA sN).φ 4) fd) : FnOk P w K mg base (L2.CX P w) 2 ((Zk K w sA sN).φ 4) fd ["thing"] (spM (Zk K w sA sN) 1 F_are_numbers) :=
  def_ofD (k := 1) (b := B_are_numbers) (n := 2) rfl F sc_are_numbers rfl fun cdv A outer s H E hr tk => ss_one (s_ret (s_and (s_isi1 rfl rfl T.b_isinstance bt_isinstance (pe_bltn rfl T.b_tuple bt_tuple rfl) (s_var 0 (pv 0)) (tB_ok (by decide +kernel))) (pe_one (s_cbT (cr_all rfl) ct_all rfl T.b_all bt_all (s_lc (own := [("own", 1)]) rfl sc_are_numbers.nd (s_iS rfl (s_var 0 (pv 0))) (blkOk_by (N := ["thing", "own"]) (sc := defScope (top 12)) (own := [("own", 1)]) (by decide +kernel)) (fun _ _ _ _ _ => s_gname (pg_name (i := 1) sc_are_numbers.nd rfl (by first | exact .inl rfl | exact .inr rfl))) (fun _ _ _ _ _ => sts_nil) (fun _ _ _ _ _ => s_callF (o_is_number.at_ hr rfl) takes0 rfl T.g_is_number (s_cons (s_var 1 (pv 1)) (s_nil))))))))
theorem ok_are_numbers (T : Tp K w sA sN mg) (o_is_number : FnP P w K mg base (Zk K w sA sN) 1 3 1 F_is_number) : FnP P w K mg base (Zk K w sA sN) 2 4 1 F_are_numbers := by
  obtain ⟨fd, F⟩ := T.d_are_numbers
  exact ⟨fd, ["thing"], fo_are_numbers T o_is_number F, F.kp, F.bindsN fun _ _ _ _ _ _ us hl => match us, hl with | [_], _ => rfl⟩
theorem sc_is_pair : FnScope ["thing"] ["thing"] (defScope (top 13)) := ⟨rfl, rfl, rfl, by decide +kernel, rfl, by decide +kernel, by decide +kernel⟩
theorem fo_is_pair (T : Tp K w sA sN mg) (o_are_numbers : FnP P w K mg base (Zk K w sA sN) 2 4 1 F_are_numbers) {fd : FuncData} (F : FunD K "is_pair" "is_pair" (defArgs (top 13)) (defBody (top 13)) (defScope (top 13)) [] [] ((Zk K w sA sN).φ 5) fd) : FnOk P w K mg base (L2.CX P w) 3 ((Zk K w sA sN).φ 5) fd ["thing"] (spM (Zk K w sA sN) 1 F_is_pair) :=
  def_ofD (k := 2) (b := B_is_pair) (n := 1) rfl F sc_is_pair rfl fun cdv A outer s H E hr tk => ss_one (s_ret (s_and (s_isi1 rfl rfl T.b_isinstance bt_isinstance (pe_bltn rfl T.b_tuple bt_tuple rfl) (s_var 0 (pv 0)) (tB_ok (by decide +kernel))) (s_and (s_cmp (op_eqM (hu64 hr)) s2_eq (s_cb cr_lenA cs_lenA rfl T.b_len bt_len (s_cons (s_var 0 (pv 0)) (s_nil))) (s_int) (nomark _)) (pe_one (s_callF (o_are_numbers.at_ hr rfl) tk rfl T.g_are_numbers (s_cons (s_var 0 (pv 0)) (s_nil)))))))
theorem ok_is_pair (T : Tp K w sA sN mg) (o_are_numbers : FnP P w K mg base (Zk K w sA sN) 2 4 1 F_are_numbers) : FnP P w K mg base (Zk K w sA sN) 3 5 1 F_is_pair := by
  obtain ⟨fd, F⟩ := T.d_is_pair
  exact ⟨fd, ["thing"], fo_is_pair T o_are_numbers F, F.kp, F.bindsN fun _ _ _ _ _ _ us hl => match us, hl with | [_], _ => rfl⟩
theorem sc_rises : FnScope ["row", "at"] ["row"] (defScope (top 14)) := ⟨rfl, rfl, rfl, by decide +kernel, rfl, by decide +kernel, by decide +kernel⟩
theorem fo_rises (T : Tp K w sA sN mg) {fd : FuncData} (F : FunD K "rises" "rises" (defArgs (top 14)) (defBody (top 14)) (defScope (top 14)) [] [] ((Zk K w sA sN).φ 6) fd) : FnOk P w K mg base (L2.CX P w) 1 ((Zk K w sA sN).φ 6) fd ["row"] (spM (Zk K w sA sN) 1 F_rises) :=
  def_ofD (k := 0) (b := B_rises) (n := 2) rfl F sc_rises rfl fun cdv A outer s H E hr tk => ss_one (s_ret (s_cbT (cr_all rfl) ct_all rfl T.b_all bt_all (s_lc (own := [("at", 1)]) rfl sc_rises.nd (s_iR2 rfl T.b_range (s_cons (s_int) (s_cons (s_cb cr_lenA cs_lenA rfl T.b_len bt_len (s_cons (s_var 0 (pv 0)) (s_nil))) (s_nil)))) (blkOk_by (N := ["row", "at"]) (sc := defScope (top 14)) (own := [("at", 1)]) (by decide +kernel)) (fun _ _ _ _ _ => s_gname (pg_name (i := 1) sc_rises.nd rfl (by first | exact .inl rfl | exact .inr rfl))) (fun _ _ _ _ _ => sts_nil) (fun _ _ _ _ _ => s_cmp (op_ltM (hu0 hr)) s2_ltM (s_ixM rfl (hu1 hr) (s_var 0 (pv 0)) (s_op op_sub s2_sub (s_var 1 (pv 1)) (s_int))) (s_ixM rfl (hu1 hr) (s_var 0 (pv 0)) (s_var 1 (pv 1))) (nomark _)))))
theorem ok_rises (T : Tp K w sA sN mg) : FnP P w K mg base (Zk K w sA sN) 1 6 1 F_rises := by
  obtain ⟨fd, F⟩ := T.d_rises
  exact ⟨fd, ["row"], fo_rises T F, F.kp, F.bindsN fun _ _ _ _ _ _ us hl => match us, hl with | [_], _ => rfl⟩
theorem sc_tupled : FnScope ["value", "depth", "own"] ["value", "depth"] (defScope (top 15)) := ⟨rfl, rfl, rfl, by decide +kernel, rfl, by decide +kernel, by decide +kernel⟩
theorem fo_tupled (T : Tp K w sA sN mg) {fd : FuncData} (F : FunD K "tupled" "tupled" (defArgs (top 15)) (defBody (top 15)) (defScope (top 15)) [] [] ((Zk K w sA sN).φ 7) fd) (hb : Binds K fd ["value", "depth"] []) : ∀ n, FnOk P w K mg base (L2.CX P w) (0 + n) ((Zk K w sA sN).φ 7) fd ["value", "depth"] (spM (Zk K w sA sN) 2 (F_tupled n))
  | 0 => fn_bad rfl
  | n + 1 => def_ofD (k := 0 + n) (b := B_tupled (F_tupled n)) (n := 3) rfl F sc_tupled rfl fun cdv A outer s H E hr tk => ss_cons (s_ifS (L2.PW.pt (s_wor (s_tcmp (op_eqM (hu64 hr)) s2_eq (s_var 1 (pv 1)) (s_int) (nomark _)) (pw_or1 (s_tnot (s_truth rfl (s_isi2 rfl rfl T.b_isinstance bt_isinstance (pe_bltn rfl T.b_list bt_list rfl) (pe_bltn rfl T.b_tuple bt_tuple rfl) (s_var 0 (pv 0)) (tB_ok2 (by decide +kernel)))))))) (ss_one (s_ret (s_var 0 (pv 0)))) (ss_nil)) (ss_one (s_ret (s_ctyT call_tuple_of ct_tuple rfl T.b_tuple bt_tuple (s_lc (own := [("own", 2)]) rfl sc_tupled.nd (s_iS rfl (s_var 0 (pv 0))) (blkOk_by (N := ["value", "depth", "own"]) (sc := defScope (top 15)) (own := [("own", 2)]) (by decide +kernel)) (fun _ _ _ _ _ => s_gname (pg_name (i := 2) sc_tupled.nd rfl (by first | exact .inl rfl | exact .inr rfl))) (fun _ _ _ _ _ => sts_nil) (fun _ _ _ _ _ => s_callF (fn_at (fo_tupled T F hb n) hr F.kp hb) takes0 rfl T.g_tupled (s_cons (s_var 2 (pv 2)) (s_cons (s_op op_sub s2_sub (s_var 1 (pv 1)) (s_int)) (s_nil))))))))
theorem ok_tupled (T : Tp K w sA sN mg) : FnP P w K mg base (Zk K w sA sN) 8 7 2 (F_tupled 8) := by
  obtain ⟨fd, F⟩ := T.d_tupled
  have hb : Binds K fd ["value", "depth"] [] := F.bindsN fun _ _ _ _ _ _ us hl => match us, hl with | [_, _], _ => rfl
  exact ⟨fd, ["value", "depth"], fo_tupled T F hb 8, F.kp, hb⟩
theorem sc_same : FnScope ["thing", "wanted", "own", "other"] ["thing", "wanted"] (defScope (top 16)) := ⟨rfl, rfl, rfl, by decide +kernel, rfl, by decide +kernel, by decide +kernel⟩
theorem fo_same (T : Tp K w sA sN mg) {fd : FuncData} (F : FunD K "same" "same" (defArgs (top 16)) (defBody (top 16)) (defScope (top 16)) [] [] ((Zk K w sA sN).φ 8) fd) (hb : Binds K fd ["thing", "wanted"] []) : ∀ n, FnOk P w K mg base (L2.CX P w) (0 + n) ((Zk K w sA sN).φ 8) fd ["thing", "wanted"] (spM (Zk K w sA sN) 2 (F_same n))
  | 0 => fn_bad rfl
  | n + 1 => def_ofD (k := 0 + n) (b := B_same (F_same n)) (n := 4) rfl F sc_same rfl fun cdv A outer s H E hr tk => ss_cons (s_ifS (s_truth rfl (s_isi1 rfl rfl T.b_isinstance bt_isinstance (pe_bltn rfl T.b_tuple bt_tuple rfl) (s_var 1 (pv 1)) (tB_ok (by decide +kernel)))) (ss_cons (s_ifS (L2.PW.pt (s_wor (s_tnot (s_truth rfl (s_isi1 rfl rfl T.b_isinstance bt_isinstance (pe_bltn rfl T.b_tuple bt_tuple rfl) (s_var 0 (pv 0)) (tB_ok (by decide +kernel))))) (pw_or1 (s_tcmp (op_neM (hu64 hr)) s2_ne (s_cb cr_lenA cs_lenA rfl T.b_len bt_len (s_cons (s_var 0 (pv 0)) (s_nil))) (s_cb cr_lenA cs_lenA rfl T.b_len bt_len (s_cons (s_var 1 (pv 1)) (s_nil))) (nomark _))))) (ss_one (s_ret (s_bl))) (ss_nil)) (ss_one (s_ret (s_cbT (cr_all rfl) ct_all rfl T.b_all bt_all (s_lc (own := [("own", 2), ("other", 3)]) rfl sc_same.nd (s_iZip rfl rfl T.b_zip (s_cons (s_var 0 (pv 0)) (s_cons (s_var 1 (pv 1)) (s_nil)))) (blkOk_by (N := ["thing", "wanted", "own", "other"]) (sc := defScope (top 16)) (own := [("own", 2), ("other", 3)]) (by decide +kernel)) (fun _ _ _ _ _ => s_gtup rfl (s_gcons (s_gname (pg_name (i := 2) sc_same.nd rfl (by first | exact .inl rfl | exact .inr rfl))) (s_gcons (s_gname (pg_name (i := 3) sc_same.nd rfl (by first | exact .inl rfl | exact .inr rfl))) (s_gnil)))) (fun _ _ _ _ _ => sts_nil) (fun _ _ _ _ _ => s_callF (fn_at (fo_same T F hb n) hr F.kp hb) takes0 rfl T.g_same (s_cons (s_var 2 (pv 2)) (s_cons (s_var 3 (pv 3)) (s_nil))))))))) (ss_nil)) (ss_one (s_ret (s_and (s_notT rfl (s_isi1 rfl rfl T.b_isinstance bt_isinstance (pe_bltn rfl T.b_bool bt_bool rfl) (s_var 0 (pv 0)) (tB_ok (by decide +kernel)))) (pe_one (s_cmp (op_eqM (hu64 hr)) s2_eq (s_var 0 (pv 0)) (s_var 1 (pv 1)) (nomark _))))))
theorem ok_same (T : Tp K w sA sN mg) : FnP P w K mg base (Zk K w sA sN) 10 8 2 (F_same 10) := by
  obtain ⟨fd, F⟩ := T.d_same
  have hb : Binds K fd ["thing", "wanted"] [] := F.bindsN fun _ _ _ _ _ _ us hl => match us, hl with | [_, _], _ => rfl
  exact ⟨fd, ["thing", "wanted"], fo_same T F hb 10, F.kp, hb⟩
theorem sc_ties_round : FnScope ["ring", "hands", "tasks", "later"] ["ring"] (defScope (top 18)) := ⟨rfl, rfl, rfl, by decide +kernel, rfl, by decide +kernel, by decide +kernel⟩
theorem fo_ties_round (T : Tp K w sA sN mg) {fd : FuncData} (F : FunD K "ties_round" "ties_round" (defArgs (top 18)) (defBody (top 18)) (defScope (top 18)) [] [] ((Zk K w sA sN).φ 9) fd) : FnOk P w K mg base (L2.CX P w) 1 ((Zk K w sA sN).φ 9) fd ["ring"] (spM (Zk K w sA sN) 1 F_ties_round) :=
  def_ofD (k := 0) (b := B_ties_round) (n := 4) rfl F sc_ties_round rfl fun cdv A outer s H E hr tk => ss_cons (s_par2 (i := 1) (j := 2) rfl sc_ties_round.nd rfl rfl (by decide) rfl rfl (s_cons (s_step rfl (s_var 0 (pv 0)) (so_none) (so_none) (so_some (s_int))) (s_cons (s_step rfl (s_var 0 (pv 0)) (so_some (s_int)) (so_none) (so_some (s_int))) (s_nil))) (by rfl)) (ss_cons (s_set (i := 3) sc_ties_round.nd rfl (by first | exact .inl rfl | exact .inr rfl) (s_op op_addM s2_add (s_sl rfl (s_var 1 (pv 1)) (so_some (s_int)) (so_none)) (s_sl rfl (s_var 1 (pv 1)) (so_none) (so_some (s_int))))) (ss_one (s_ret (s_tup (s_cons (s_lstZip rfl rfl T.b_list rfl T.b_zip (s_cons (s_var 1 (pv 1)) (s_cons (s_var 2 (pv 2)) (s_nil)))) (s_cons (s_lstZip rfl rfl T.b_list rfl T.b_zip (s_cons (s_var 3 (pv 3)) (s_cons (s_var 2 (pv 2)) (s_nil)))) (s_nil)))))))
theorem ok_ties_round (T : Tp K w sA sN mg) : FnP P w K mg base (Zk K w sA sN) 1 9 1 F_ties_round := by
  obtain ⟨fd, F⟩ := T.d_ties_round
  exact ⟨fd, ["ring"], fo_ties_round T F, F.kp, F.bindsN fun _ _ _ _ _ _ us hl => match us, hl with | [_], _ => rfl⟩
theorem sc_is_ring : FnScope ["first", "second", "thing", "hands", "tasks", "there", "back", "tie"] ["first", "second", "thing"] (defScope (top 19)) := ⟨rfl, rfl, rfl, by decide +kernel, rfl, by decide +kernel, by decide +kernel⟩
theorem fo_is_ring (T : Tp K w sA sN mg) (o_are_numbers : FnP P w K mg base (Zk K w sA sN) 2 4 1 F_are_numbers) (o_ties_round : FnP P w K mg base (Zk K w sA sN) 1 9 1 F_ties_round) {fd : FuncData} (F : FunD K "is_ring" "is_ring" (defArgs (top 19)) (defBody (top 19)) (defScope (top 19)) [] [] ((Zk K w sA sN).φ 10) fd) : FnOk P w K mg base (L2.CX P w) 3 ((Zk K w sA sN).φ 10) fd ["first", "second", "thing"] (spM (Zk K w sA sN) 3 F_is_ring) :=
  def_ofD (k := 2) (b := B_is_ring) (n := 8) rfl F sc_is_ring rfl fun cdv A outer s H E hr tk => ss_cons (s_ifS (L2.PW.pt (s_wor (s_tnot (s_truth rfl (s_callF (o_are_numbers.at_ hr rfl) tk rfl T.g_are_numbers (s_cons (s_var 2 (pv 2)) (s_nil))))) (s_wor (s_tcmp (op_ltM (hu0 hr)) s2_ltM (s_cb cr_lenA cs_lenA rfl T.b_len bt_len (s_cons (s_var 2 (pv 2)) (s_nil))) (s_int) (nomark _)) (pw_or1 (s_tcmp (op_eqM (hu64 hr)) s2_eq (s_op op_modN s2_mod (s_cb cr_lenA cs_lenA rfl T.b_len bt_len (s_cons (s_var 2 (pv 2)) (s_nil))) (s_int)) (s_int) (nomark _)))))) (ss_one (s_ret (s_bl))) (ss_nil)) (ss_cons (s_par2 (i := 3) (j := 4) rfl sc_is_ring.nd rfl rfl (by decide) rfl rfl (s_cons (s_step rfl (s_var 2 (pv 2)) (so_none) (so_none) (so_some (s_int))) (s_cons (s_step rfl (s_var 2 (pv 2)) (so_some (s_int)) (so_none) (so_some (s_int))) (s_nil))) (by rfl)) (ss_cons (s_ifS (L2.PW.pt (s_wor (s_tcmp (op_ltM (hu0 hr)) s2_ltM (s_cb cr_lenB cs_lenB rfl T.b_len bt_len (s_cons (s_cty (cr_setI rfl) cs_setI rfl T.b_set bt_set (s_cons (s_var 3 (pv 3)) (s_nil))) (s_nil))) (s_cb cr_lenA cs_lenA rfl T.b_len bt_len (s_cons (s_var 3 (pv 3)) (s_nil))) (nomark _)) (pw_or1 (s_tcmp (op_ltM (hu0 hr)) s2_ltM (s_cb cr_lenB cs_lenB rfl T.b_len bt_len (s_cons (s_cty (cr_setI rfl) cs_setI rfl T.b_set bt_set (s_cons (s_var 4 (pv 4)) (s_nil))) (s_nil))) (s_cb cr_lenA cs_lenA rfl T.b_len bt_len (s_cons (s_var 4 (pv 4)) (s_nil))) (nomark _))))) (ss_one (s_ret (s_bl))) (ss_nil)) (ss_cons (s_asg (s_callF (o_ties_round.at_ hr rfl) tk rfl T.g_ties_round (s_cons (s_var 2 (pv 2)) (s_nil))) (s_gtup rfl (s_gcons (s_gname (pg_name (i := 5) sc_is_ring.nd rfl (by first | exact .inl rfl | exact .inr rfl))) (s_gcons (s_gname (pg_name (i := 6) sc_is_ring.nd rfl (by first | exact .inl rfl | exact .inr rfl))) (s_gnil))))) (ss_one (s_ret (s_and (s_cbT (cr_all rfl) ct_all rfl T.b_all bt_all (s_lc (own := [("tie", 7)]) rfl sc_is_ring.nd (s_iS rfl (s_var 5 (pv 5))) (blkOk_by (N := ["first", "second", "thing", "hands", "tasks", "there", "back", "tie"]) (sc := defScope (top 19)) (own := [("tie", 7)]) (by decide +kernel)) (fun _ _ _ _ _ => s_gname (pg_name (i := 7) sc_is_ring.nd rfl (by first | exact .inl rfl | exact .inr rfl))) (fun _ _ _ _ _ => sts_nil) (fun _ _ _ _ _ => s_cmp (op_inA (hu65 hr)) s2_inA (s_var 7 (pv 7)) (s_var 0 (pv 0)) (by rfl)))) (pe_one (s_cbT (cr_all rfl) ct_all rfl T.b_all bt_all (s_lc (own := [("tie", 7)]) rfl sc_is_ring.nd (s_iS rfl (s_var 6 (pv 6))) (blkOk_by (N := ["first", "second", "thing", "hands", "tasks", "there", "back", "tie"]) (sc := defScope (top 19)) (own := [("tie", 7)]) (by decide +kernel)) (fun _ _ _ _ _ => s_gname (pg_name (i := 7) sc_is_ring.nd rfl (by first | exact .inl rfl | exact .inr rfl))) (fun _ _ _ _ _ => sts_nil) (fun _ _ _ _ _ => s_cmp (op_inA (hu65 hr)) s2_inA (s_var 7 (pv 7)) (s_var 1 (pv 1)) (by rfl)))))))))))
theorem ok_is_ring (T : Tp K w sA sN mg) (o_are_numbers : FnP P w K mg base (Zk K w sA sN) 2 4 1 F_are_numbers) (o_ties_round : FnP P w K mg base (Zk K w sA sN) 1 9 1 F_ties_round) : FnP P w K mg base (Zk K w sA sN) 3 10 3 F_is_ring := by
  obtain ⟨fd, F⟩ := T.d_is_ring
  exact ⟨fd, ["first", "second", "thing"], fo_is_ring T o_are_numbers o_ties_round F, F.kp, F.bindsN fun _ _ _ _ _ _ us hl => match us, hl with | [_, _, _], _ => rfl⟩
theorem sc_row_in : FnScope ["web", "tree", "side", "row", "tie"] ["web", "tree", "side"] (defScope (top 21)) := ⟨rfl, rfl, rfl, by decide +kernel, rfl, by decide +kernel, by decide +kernel⟩
theorem fo_row_in (T : Tp K w sA sN mg) {fd : FuncData} (F : FunD K "row_in" "row_in" (defArgs (top 21)) (defBody (top 21)) (defScope (top 21)) [] [] ((Zk K w sA sN).φ 11) fd) : FnOk P w K mg base (L2.CX P w) 1 ((Zk K w sA sN).φ 11) fd ["web", "tree", "side"] (spM (Zk K w sA sN) 3 F_row_in) :=
  def_ofD (k := 0) (b := B_row_in) (n := 5) rfl F sc_row_in rfl fun cdv A outer s H E hr tk => ss_cons (s_set (i := 3) sc_row_in.nd rfl (by first | exact .inl rfl | exact .inr rfl) (s_op op_mulMT s2_mulT (s_lst (s_cons (s_neg (s_int)) (s_nil))) (s_ixM rfl (hu1 hr) (s_var 0 (pv 0)) (s_var 2 (pv 2))))) (ss_cons (s_for passes_cx rfl (s_iS rfl (s_var 1 (pv 1))) (s_gname (pg_name (i := 4) sc_row_in.nd rfl (by first | exact .inl rfl | exact .inr rfl))) (ss_one (s_augS rfl (hu1 hr) (s2_I0 fun _ _ _ _ _ => .int _) ip_add (s_var 3 (pv 3)) (s_ixM rfl (hu1 hr) (s_var 4 (pv 4)) (s_var 2 (pv 2))) (s_int)))) (ss_one (s_ret (s_cty call_tuple_of cs_tuple rfl T.b_tuple bt_tuple (s_cons (s_var 3 (pv 3)) (s_nil))))))
theorem ok_row_in (T : Tp K w sA sN mg) : FnP P w K mg base (Zk K w sA sN) 1 11 3 F_row_in := by
  obtain ⟨fd, F⟩ := T.d_row_in
  exact ⟨fd, ["web", "tree", "side"], fo_row_in T F, F.kp, F.bindsN fun _ _ _ _ _ _ us hl => match us, hl with | [_, _, _], _ => rfl⟩
theorem sc_steps_of : FnScope ["tree", "steps", "tie", "hand", "task"] ["tree"] (defScope (top 22)) := ⟨rfl, rfl, rfl, by decide +kernel, rfl, by decide +kernel, by decide +kernel⟩
theorem fo_steps_of (T : Tp K w sA sN mg) {fd : FuncData} (F : FunD K "steps_of" "steps_of" (defArgs (top 22)) (defBody (top 22)) (defScope (top 22)) [] [] ((Zk K w sA sN).φ 12) fd) : FnOk P w K mg base (L2.CX P w) 1 ((Zk K w sA sN).φ 12) fd ["tree"] (spM (Zk K w sA sN) 1 F_steps_of) :=
  def_ofD (k := 0) (b := B_steps_of) (n := 5) rfl F sc_steps_of rfl fun cdv A outer s H E hr tk => ss_cons (s_set (i := 1) sc_steps_of.nd rfl (by first | exact .inl rfl | exact .inr rfl) (s_newT)) (ss_cons (s_for passes_cx rfl (s_iS rfl (s_var 0 (pv 0))) (s_gname (pg_name (i := 2) sc_steps_of.nd rfl (by first | exact .inl rfl | exact .inr rfl))) (ss_cons (s_par2 (i := 3) (j := 4) rfl sc_steps_of.nd rfl rfl (by decide) rfl rfl (s_cons (s_tup (s_cons (s_int) (s_cons (s_ixM rfl (hu1 hr) (s_var 2 (pv 2)) (s_int)) (s_nil)))) (s_cons (s_tup (s_cons (s_int) (s_cons (s_ixM rfl (hu1 hr) (s_var 2 (pv 2)) (s_int)) (s_nil)))) (s_nil))) (by rfl)) (ss_cons (s_expr (s_bm PySem.F.slot_list_append PySem.F.type_list_append mt_append ms_append (s_setd (hu1 hr) (s_var 1 (pv 1)) (s_var 3 (pv 3)) (s_lst (s_nil))) (s_cons (s_tup (s_cons (s_var 2 (pv 2)) (s_cons (s_var 4 (pv 4)) (s_nil)))) (s_nil)))) (ss_one (s_expr (s_bm PySem.F.slot_list_append PySem.F.type_list_append mt_append ms_append (s_setd (hu1 hr) (s_var 1 (pv 1)) (s_var 4 (pv 4)) (s_lst (s_nil))) (s_cons (s_tup (s_cons (s_var 2 (pv 2)) (s_cons (s_var 3 (pv 3)) (s_nil)))) (s_nil)))))))) (ss_one (s_ret (s_var 1 (pv 1)))))
theorem ok_steps_of (T : Tp K w sA sN mg) : FnP P w K mg base (Zk K w sA sN) 1 12 1 F_steps_of := by
  obtain ⟨fd, F⟩ := T.d_steps_of
  exact ⟨fd, ["tree"], fo_steps_of T F, F.kp, F.bindsN fun _ _ _ _ _ _ us hl => match us, hl with | [_], _ => rfl⟩
theorem sc_steps_toward : FnScope ["tree", "goal", "steps", "toward", "waiting", "at", "tie", "beyond"] ["tree", "goal"] (defScope (top 23)) := ⟨rfl, rfl, rfl, by decide +kernel, rfl, by decide +kernel, by decide +kernel⟩
theorem fo_steps_toward (T : Tp K w sA sN mg) (o_steps_of : FnP P w K mg base (Zk K w sA sN) 1 12 1 F_steps_of) {fd : FuncData} (F : FunD K "steps_toward" "steps_toward" (defArgs (top 23)) (defBody (top 23)) (defScope (top 23)) [] [] ((Zk K w sA sN).φ 13) fd) : FnOk P w K mg base (L2.CX P w) 2 ((Zk K w sA sN).φ 13) fd ["tree", "goal"] (spM (Zk K w sA sN) 2 F_steps_toward) :=
  def_ofD (k := 1) (b := B_steps_toward) (n := 8) rfl F sc_steps_toward rfl fun cdv A outer s H E hr tk => ss_cons (s_set (i := 2) sc_steps_toward.nd rfl (by first | exact .inl rfl | exact .inr rfl) (s_callF (o_steps_of.at_ hr rfl) tk rfl T.g_steps_of (s_cons (s_var 0 (pv 0)) (s_nil)))) (ss_cons (s_set (i := 3) sc_steps_toward.nd rfl (by first | exact .inl rfl | exact .inr rfl) (s_d1 (hu1 hr) (s_var 1 (pv 1)) (s_non))) (ss_cons (s_set (i := 4) sc_steps_toward.nd rfl (by first | exact .inl rfl | exact .inr rfl) (s_lst (s_cons (s_var 1 (pv 1)) (s_nil)))) (ss_cons (s_while passes_cx (s_truth rfl (s_var 4 (pv 4))) (ss_cons (s_set (i := 5) sc_steps_toward.nd rfl (by first | exact .inl rfl | exact .inr rfl) (s_bm0 PySem.F.slot_list_pop PySem.F.type_list_pop mt_pop ms_pop (s_var 4 (pv 4)))) (ss_one (s_for passes_cx rfl (s_iS rfl (s_get2 (hu1 hr) (s_var 2 (pv 2)) (s_var 5 (pv 5)) (s_lst (s_nil)))) (s_gtup rfl (s_gcons (s_gname (pg_name (i := 6) sc_steps_toward.nd rfl (by first | exact .inl rfl | exact .inr rfl))) (s_gcons (s_gname (pg_name (i := 7) sc_steps_toward.nd rfl (by first | exact .inl rfl | exact .inr rfl))) (s_gnil)))) (ss_one (s_ifS (s_tcmp (op_notInA (hu65 hr)) s2_inA (s_var 7 (pv 7)) (s_var 3 (pv 3)) (by rfl)) (ss_cons (s_setIx (hu1 hr) (s_tup (s_cons (s_var 6 (pv 6)) (s_cons (s_var 5 (pv 5)) (s_nil)))) (s_var 3 (pv 3)) (s_var 7 (pv 7))) (ss_one (s_expr (s_bm PySem.F.slot_list_append PySem.F.type_list_append mt_append ms_append (s_var 4 (pv 4)) (s_cons (s_var 7 (pv 7)) (s_nil)))))) (ss_nil))))))) (ss_one (s_ret (s_var 3 (pv 3)))))))
theorem ok_steps_toward (T : Tp K w sA sN mg) (o_steps_of : FnP P w K mg base (Zk K w sA sN) 1 12 1 F_steps_of) : FnP P w K mg base (Zk K w sA sN) 2 13 2 F_steps_toward := by
  obtain ⟨fd, F⟩ := T.d_steps_toward
  exact ⟨fd, ["tree", "goal"], fo_steps_toward T o_steps_of F, F.kp, F.bindsN fun _ _ _ _ _ _ us hl => match us, hl with | [_, _], _ => rfl⟩
theorem sc_beyond_along : FnScope ["toward", "numbers", "come", "found", "place", "step", "tie", "at"] ["toward", "numbers"] (defScope (top 24)) := ⟨rfl, rfl, rfl, by decide +kernel, rfl, by decide +kernel, by decide +kernel⟩
theorem fo_beyond_along (T : Tp K w sA sN mg) {fd : FuncData} (F : FunD K "beyond_along" "beyond_along" (defArgs (top 24)) (defBody (top 24)) (defScope (top 24)) [] [] ((Zk K w sA sN).φ 14) fd) : FnOk P w K mg base (L2.CX P w) 1 ((Zk K w sA sN).φ 14) fd ["toward", "numbers"] (spM (Zk K w sA sN) 2 F_beyond_along) :=
  def_ofD (k := 0) (b := B_beyond_along) (n := 8) rfl F sc_beyond_along rfl fun cdv A outer s H E hr tk => ss_cons (s_lockS (s_setDdc1 (own := [("place", 4)]) (i := 2) rfl rfl (sw_trueD rfl rfl rfl rfl) rfl sc_beyond_along.nd (hu1 hr) (s_iK (s_var 0 (pv 0))) (blkOk_by (N := ["toward", "numbers", "come", "found", "place", "step", "tie", "at"]) (sc := defScope (top 24)) (own := [("place", 4)]) (by decide +kernel)) (fun _ _ _ _ _ => s_gname (pg_name (i := 4) sc_beyond_along.nd rfl (by first | exact .inl rfl | exact .inr rfl))) (fun _ _ _ _ _ => s_var 4 (pv 4)) (fun _ _ _ _ _ => s_ixM rfl (hu1 hr) (s_var 1 (pv 1)) (s_var 4 (pv 4))))) (ss_cons (s_set (i := 3) sc_beyond_along.nd rfl (by first | exact .inl rfl | exact .inr rfl) (s_newT)) (ss_cons (s_for passes_cx rfl (s_iRev rfl rfl T.b_reversed (s_cty (cr_listA rfl) cs_listA rfl T.b_list bt_list (s_cons (s_var 0 (pv 0)) (s_nil)))) (s_gname (pg_name (i := 4) sc_beyond_along.nd rfl (by first | exact .inl rfl | exact .inr rfl))) (ss_cons (s_set (i := 5) sc_beyond_along.nd rfl (by first | exact .inl rfl | exact .inr rfl) (s_ixM rfl (hu1 hr) (s_var 0 (pv 0)) (s_var 4 (pv 4)))) (ss_one (s_ifS (s_tnotN (s_var 5 (pv 5))) (ss_cons (s_asg (s_var 5 (pv 5)) (s_gtup rfl (s_gcons (s_gname (pg_name (i := 6) sc_beyond_along.nd rfl (by first | exact .inl rfl | exact .inr rfl))) (s_gcons (s_gname (pg_name (i := 7) sc_beyond_along.nd rfl (by first | exact .inl rfl | exact .inr rfl))) (s_gnil))))) (ss_cons (s_setIx (hu1 hr) (s_tup (s_cons (s_var 4 (pv 4)) (s_cons (s_ixM rfl (hu1 hr) (s_var 2 (pv 2)) (s_var 4 (pv 4))) (s_nil)))) (s_var 3 (pv 3)) (s_var 6 (pv 6))) (ss_one (s_augS rfl (hu1 hr) (s2_I0 fun _ _ _ _ _ => .int _) ip_add (s_var 2 (pv 2)) (s_var 7 (pv 7)) (s_ixM rfl (hu1 hr) (s_var 2 (pv 2)) (s_var 4 (pv 4))))))) (ss_nil))))) (ss_one (s_ret (s_var 3 (pv 3))))))
theorem ok_beyond_along (T : Tp K w sA sN mg) : FnP P w K mg base (Zk K w sA sN) 1 14 2 F_beyond_along := by
  obtain ⟨fd, F⟩ := T.d_beyond_along
  exact ⟨fd, ["toward", "numbers"], fo_beyond_along T F, F.kp, F.bindsN fun _ _ _ _ _ _ us hl => match us, hl with | [_, _], _ => rfl⟩
theorem sc_shares_in : FnScope ["web", "tree", "side", "numbers", "beyond", "found", "tie", "end", "many", "own", "number"] ["web", "tree", "side"] (defScope (top 25)) := ⟨rfl, rfl, rfl, by decide +kernel, rfl, by decide +kernel, by decide +kernel⟩
theorem fo_shares_in (T : Tp K w sA sN mg) (o_steps_toward : FnP P w K mg base (Zk K w sA sN) 2 13 2 F_steps_toward) (o_beyond_along : FnP P w K mg base (Zk K w sA sN) 1 14 2 F_beyond_along) {fd : FuncData} (F : FunD K "shares_in" "shares_in" (defArgs (top 25)) (defBody (top 25)) (defScope (top 25)) [] [] ((Zk K w sA sN).φ 15) fd) : FnOk P w K mg base (L2.CX P w) 3 ((Zk K w sA sN).φ 15) fd ["web", "tree", "side"] (spM (Zk K w sA sN) 3 F_shares_in) :=
  def_ofD (k := 2) (b := B_shares_in) (n := 11) rfl F sc_shares_in rfl fun cdv A outer s H E hr tk => ss_cons (s_setDdc2 (own := [("own", 9), ("number", 10)]) (i := 3) rfl rfl (sw_trueD rfl rfl rfl rfl) rfl sc_shares_in.nd (hu1 hr) (s_iS rfl (s_tup (s_cons (s_int) (s_cons (s_int) (s_nil))))) (blkOk_by (N := ["web", "tree", "side", "numbers", "beyond", "found", "tie", "end", "many", "own", "number"]) (sc := defScope (top 25)) (own := [("own", 9), ("number", 10)]) (by decide +kernel)) (fun _ _ _ _ _ => s_gname (pg_name (i := 9) sc_shares_in.nd rfl (by first | exact .inl rfl | exact .inr rfl))) (fun _ _ _ _ _ => s_iR1 rfl T.b_range (s_cons (s_ixM rfl (hu1 hr) (s_var 0 (pv 0)) (s_var 9 (pv 9))) (s_nil))) (fun _ _ _ _ _ => s_gname (pg_name (i := 10) sc_shares_in.nd rfl (by first | exact .inl rfl | exact .inr rfl))) (fun _ _ _ _ _ => s_tup (s_cons (s_var 9 (pv 9)) (s_cons (s_var 10 (pv 10)) (s_nil)))) (fun _ _ _ _ _ => s_if (s_tcmp (op_eqM (hu64 hr)) s2_eq (s_var 9 (pv 9)) (s_var 2 (pv 2)) (nomark _)) (s_int) (s_int))) (ss_cons (s_set (i := 4) sc_shares_in.nd rfl (by first | exact .inl rfl | exact .inr rfl) (s_callF (o_beyond_along.at_ hr rfl) tk rfl T.g_beyond_along (s_cons (s_callF (o_steps_toward.at_ hr rfl) tk rfl T.g_steps_toward (s_cons (s_var 1 (pv 1)) (s_cons (s_tup (s_cons (s_int) (s_cons (s_int) (s_nil)))) (s_nil)))) (s_cons (s_var 3 (pv 3)) (s_nil))))) (ss_cons (s_set (i := 5) sc_shares_in.nd rfl (by first | exact .inl rfl | exact .inr rfl) (s_newT)) (ss_cons (s_for passes_cx rfl (s_iS rfl (s_var 1 (pv 1))) (s_gname (pg_name (i := 6) sc_shares_in.nd rfl (by first | exact .inl rfl | exact .inr rfl))) (ss_cons (s_asg (s_ixM rfl (hu1 hr) (s_var 4 (pv 4)) (s_var 6 (pv 6))) (s_gtup rfl (s_gcons (s_gname (pg_name (i := 7) sc_shares_in.nd rfl (by first | exact .inl rfl | exact .inr rfl))) (s_gcons (s_gname (pg_name (i := 8) sc_shares_in.nd rfl (by first | exact .inl rfl | exact .inr rfl))) (s_gnil))))) (ss_one (s_setIx (hu1 hr) (s_if (s_tcmp (op_eqM (hu64 hr)) s2_eq (s_ixM rfl (hu1 hr) (s_var 7 (pv 7)) (s_int)) (s_var 2 (pv 2)) (nomark _)) (s_var 8 (pv 8)) (s_op op_sub s2_sub (s_ixM rfl (hu1 hr) (s_var 0 (pv 0)) (s_var 2 (pv 2))) (s_var 8 (pv 8)))) (s_var 5 (pv 5)) (s_var 6 (pv 6)))))) (ss_one (s_ret (s_var 5 (pv 5)))))))
theorem ok_shares_in (T : Tp K w sA sN mg) (o_steps_toward : FnP P w K mg base (Zk K w sA sN) 2 13 2 F_steps_toward) (o_beyond_along : FnP P w K mg base (Zk K w sA sN) 1 14 2 F_beyond_along) : FnP P w K mg base (Zk K w sA sN) 3 15 3 F_shares_in := by
  obtain ⟨fd, F⟩ := T.d_shares_in
  exact ⟨fd, ["web", "tree", "side"], fo_shares_in T o_steps_toward o_beyond_along F, F.kp, F.bindsN fun _ _ _ _ _ _ us hl => match us, hl with | [_, _, _], _ => rfl⟩
theorem sc_shares_along : FnScope ["web", "tree", "ties", "side", "shares", "tie"] ["web", "tree", "ties", "side"] (defScope (top 26)) := ⟨rfl, rfl, rfl, by decide +kernel, rfl, by decide +kernel, by decide +kernel⟩
theorem fo_shares_along (T : Tp K w sA sN mg) (o_shares_in : FnP P w K mg base (Zk K w sA sN) 3 15 3 F_shares_in) {fd : FuncData} (F : FunD K "shares_along" "shares_along" (defArgs (top 26)) (defBody (top 26)) (defScope (top 26)) [] [] ((Zk K w sA sN).φ 16) fd) : FnOk P w K mg base (L2.CX P w) 4 ((Zk K w sA sN).φ 16) fd ["web", "tree", "ties", "side"] (spM (Zk K w sA sN) 4 F_shares_along) :=
  def_ofD (k := 3) (b := B_shares_along) (n := 6) rfl F sc_shares_along rfl fun cdv A outer s H E hr tk => ss_cons (s_set (i := 4) sc_shares_along.nd rfl (by first | exact .inl rfl | exact .inr rfl) (s_callF (o_shares_in.at_ hr rfl) tk rfl T.g_shares_in (s_cons (s_var 0 (pv 0)) (s_cons (s_var 1 (pv 1)) (s_cons (s_var 3 (pv 3)) (s_nil)))))) (ss_one (s_ret (s_ctyT call_tuple_of ct_tuple rfl T.b_tuple bt_tuple (s_lc (own := [("tie", 5)]) rfl sc_shares_along.nd (s_iS rfl (s_var 2 (pv 2))) (blkOk_by (N := ["web", "tree", "ties", "side", "shares", "tie"]) (sc := defScope (top 26)) (own := [("tie", 5)]) (by decide +kernel)) (fun _ _ _ _ _ => s_gname (pg_name (i := 5) sc_shares_along.nd rfl (by first | exact .inl rfl | exact .inr rfl))) (fun _ _ _ _ _ => sts_nil) (fun _ _ _ _ _ => s_get2 (hu1 hr) (s_var 4 (pv 4)) (s_var 5 (pv 5)) (s_int))))))
theorem ok_shares_along (T : Tp K w sA sN mg) (o_shares_in : FnP P w K mg base (Zk K w sA sN) 3 15 3 F_shares_in) : FnP P w K mg base (Zk K w sA sN) 4 16 4 F_shares_along := by
  obtain ⟨fd, F⟩ := T.d_shares_along
  exact ⟨fd, ["web", "tree", "ties", "side"], fo_shares_along T o_shares_in F, F.kp, F.bindsN fun _ _ _ _ _ _ us hl => match us, hl with | [_, _, _, _], _ => rfl⟩
theorem sc_good_ties : FnScope ["many", "number", "thing", "hand", "task", "own"] ["many", "number", "thing"] (defScope (top 28)) := ⟨rfl, rfl, rfl, by decide +kernel, rfl, by decide +kernel, by decide +kernel⟩
theorem fo_good_ties (T : Tp K w sA sN mg) (o_is_pair : FnP P w K mg base (Zk K w sA sN) 3 5 1 F_is_pair) {fd : FuncData} (F : FunD K "good_ties" "good_ties" (defArgs (top 28)) (defBody (top 28)) (defScope (top 28)) [] [] ((Zk K w sA sN).φ 17) fd) : FnOk P w K mg base (L2.CX P w) 4 ((Zk K w sA sN).φ 17) fd ["many", "number", "thing"] (spM (Zk K w sA sN) 3 F_good_ties) :=
  def_ofD (k := 3) (b := B_good_ties) (n := 6) rfl F sc_good_ties rfl fun cdv A outer s H E hr tk => ss_cons (s_ifS (L2.PW.pt (s_wor (s_tnot (s_truth rfl (s_isi1 rfl rfl T.b_isinstance bt_isinstance (pe_bltn rfl T.b_tuple bt_tuple rfl) (s_var 2 (pv 2)) (tB_ok (by decide +kernel))))) (pw_or1 (s_tnot (s_truth rfl (s_cbT (cr_all rfl) ct_all rfl T.b_all bt_all (s_lc (own := [("own", 5)]) rfl sc_good_ties.nd (s_iS rfl (s_var 2 (pv 2))) (blkOk_by (N := ["many", "number", "thing", "hand", "task", "own"]) (sc := defScope (top 28)) (own := [("own", 5)]) (by decide +kernel)) (fun _ _ _ _ _ => s_gname (pg_name (i := 5) sc_good_ties.nd rfl (by first | exact .inl rfl | exact .inr rfl))) (fun _ _ _ _ _ => sts_nil) (fun _ _ _ _ _ => s_callF (o_is_pair.at_ hr rfl) takes0 rfl T.g_is_pair (s_cons (s_var 5 (pv 5)) (s_nil)))))))))) (ss_one (s_ret (s_bl))) (ss_nil)) (ss_one (s_ret (s_cbT (cr_all rfl) ct_all rfl T.b_all bt_all (s_lc (own := [("hand", 3), ("task", 4)]) rfl sc_good_ties.nd (s_iS rfl (s_var 2 (pv 2))) (blkOk_by (N := ["many", "number", "thing", "hand", "task", "own"]) (sc := defScope (top 28)) (own := [("hand", 3), ("task", 4)]) (by decide +kernel)) (fun _ _ _ _ _ => s_gtup rfl (s_gcons (s_gname (pg_name (i := 3) sc_good_ties.nd rfl (by first | exact .inl rfl | exact .inr rfl))) (s_gcons (s_gname (pg_name (i := 4) sc_good_ties.nd rfl (by first | exact .inl rfl | exact .inr rfl))) (s_gnil)))) (fun _ _ _ _ _ => sts_nil) (fun _ _ _ _ _ => s_and (s_chain op_le (op_ltM (hu0 hr)) s2_le s2_ltM (s_int) (s_var 3 (pv 3)) (s_var 0 (pv 0))) (pe_one (s_chain op_le (op_ltM (hu0 hr)) s2_le s2_ltM (s_int) (s_var 4 (pv 4)) (s_var 1 (pv 1)))))))))
theorem ok_good_ties (T : Tp K w sA sN mg) (o_is_pair : FnP P w K mg base (Zk K w sA sN) 3 5 1 F_is_pair) : FnP P w K mg base (Zk K w sA sN) 4 17 3 F_good_ties := by
  obtain ⟨fd, F⟩ := T.d_good_ties
  exact ⟨fd, ["many", "number", "thing"], fo_good_ties T o_is_pair F, F.kp, F.bindsN fun _ _ _ _ _ _ us hl => match us, hl with | [_, _, _], _ => rfl⟩
theorem sc_good_web : FnScope ["thing", "many", "number", "ties"] ["thing"] (defScope (top 29)) := ⟨rfl, rfl, rfl, by decide +kernel, rfl, by decide +kernel, by decide +kernel⟩
theorem fo_good_web (T : Tp K w sA sN mg) (o_is_number : FnP P w K mg base (Zk K w sA sN) 1 3 1 F_is_number) (o_good_ties : FnP P w K mg base (Zk K w sA sN) 4 17 3 F_good_ties) (o_rises : FnP P w K mg base (Zk K w sA sN) 1 6 1 F_rises) (o_holds : FnP P w K mg base (Zk K w sA sN) 3 2 3 F_holds) {fd : FuncData} (F : FunD K "good_web" "good_web" (defArgs (top 29)) (defBody (top 29)) (defScope (top 29)) [] [] ((Zk K w sA sN).φ 18) fd) : FnOk P w K mg base (L2.CX P w) 5 ((Zk K w sA sN).φ 18) fd ["thing"] (spM (Zk K w sA sN) 1 F_good_web) :=
  def_ofD (k := 4) (b := B_good_web) (n := 4) rfl F sc_good_web rfl fun cdv A outer s H E hr tk => ss_cons (s_ifS (L2.PW.pt (s_wor (s_tnot (s_truth rfl (s_isi1 rfl rfl T.b_isinstance bt_isinstance (pe_bltn rfl T.b_tuple bt_tuple rfl) (s_var 0 (pv 0)) (tB_ok (by decide +kernel))))) (pw_or1 (s_tcmp (op_neM (hu64 hr)) s2_ne (s_cb cr_lenA cs_lenA rfl T.b_len bt_len (s_cons (s_var 0 (pv 0)) (s_nil))) (s_int) (nomark _))))) (ss_one (s_ret (s_bl))) (ss_nil)) (ss_cons (s_asg (s_var 0 (pv 0)) (s_gtup rfl (s_gcons (s_gname (pg_name (i := 1) sc_good_web.nd rfl (by first | exact .inl rfl | exact .inr rfl))) (s_gcons (s_gname (pg_name (i := 2) sc_good_web.nd rfl (by first | exact .inl rfl | exact .inr rfl))) (s_gcons (s_gname (pg_name (i := 3) sc_good_web.nd rfl (by first | exact .inl rfl | exact .inr rfl))) (s_gnil)))))) (ss_cons (s_ifS (L2.PW.pt (s_wor (s_tnot (s_truth rfl (s_callF (o_is_number.at_ hr rfl) tk rfl T.g_is_number (s_cons (s_var 1 (pv 1)) (s_nil))))) (s_wor (s_tnot (s_truth rfl (s_callF (o_is_number.at_ hr rfl) tk rfl T.g_is_number (s_cons (s_var 2 (pv 2)) (s_nil))))) (s_wor (s_tcmp (op_ltM (hu0 hr)) s2_ltM (s_var 1 (pv 1)) (s_int) (nomark _)) (pw_or1 (s_tcmp (op_ltM (hu0 hr)) s2_ltM (s_var 2 (pv 2)) (s_int) (nomark _))))))) (ss_one (s_ret (s_bl))) (ss_nil)) (ss_one (s_ret (s_and (s_callF (o_good_ties.at_ hr rfl) tk rfl T.g_good_ties (s_cons (s_var 1 (pv 1)) (s_cons (s_var 2 (pv 2)) (s_cons (s_var 3 (pv 3)) (s_nil))))) (s_and (s_callF (o_rises.at_ hr rfl) tk rfl T.g_rises (s_cons (s_var 3 (pv 3)) (s_nil))) (pe_one (s_callF (o_holds.at_ hr rfl) tk rfl T.g_holds (s_cons (s_var 1 (pv 1)) (s_cons (s_var 2 (pv 2)) (s_cons (s_var 3 (pv 3)) (s_nil))))))))))))
theorem ok_good_web (T : Tp K w sA sN mg) (o_is_number : FnP P w K mg base (Zk K w sA sN) 1 3 1 F_is_number) (o_good_ties : FnP P w K mg base (Zk K w sA sN) 4 17 3 F_good_ties) (o_rises : FnP P w K mg base (Zk K w sA sN) 1 6 1 F_rises) (o_holds : FnP P w K mg base (Zk K w sA sN) 3 2 3 F_holds) : FnP P w K mg base (Zk K w sA sN) 5 18 1 F_good_web := by
  obtain ⟨fd, F⟩ := T.d_good_web
  exact ⟨fd, ["thing"], fo_good_web T o_is_number o_good_ties o_rises o_holds F, F.kp, F.bindsN fun _ _ _ _ _ _ us hl => match us, hl with | [_], _ => rfl⟩
theorem sc_good_side : FnScope ["thing"] ["thing"] (defScope (top 30)) := ⟨rfl, rfl, rfl, by decide +kernel, rfl, by decide +kernel, by decide +kernel⟩
theorem fo_good_side (T : Tp K w sA sN mg) (o_is_number : FnP P w K mg base (Zk K w sA sN) 1 3 1 F_is_number) {fd : FuncData} (F : FunD K "good_side" "good_side" (defArgs (top 30)) (defBody (top 30)) (defScope (top 30)) [] [] ((Zk K w sA sN).φ 19) fd) : FnOk P w K mg base (L2.CX P w) 2 ((Zk K w sA sN).φ 19) fd ["thing"] (spM (Zk K w sA sN) 1 F_good_side) :=
  def_ofD (k := 1) (b := B_good_side) (n := 1) rfl F sc_good_side rfl fun cdv A outer s H E hr tk => ss_one (s_ret (s_and (s_callF (o_is_number.at_ hr rfl) tk rfl T.g_is_number (s_cons (s_var 0 (pv 0)) (s_nil))) (pe_one (s_chain op_le op_le s2_le s2_le (s_int) (s_var 0 (pv 0)) (s_int)))))
theorem ok_good_side (T : Tp K w sA sN mg) (o_is_number : FnP P w K mg base (Zk K w sA sN) 1 3 1 F_is_number) : FnP P w K mg base (Zk K w sA sN) 2 19 1 F_good_side := by
  obtain ⟨fd, F⟩ := T.d_good_side
  exact ⟨fd, ["thing"], fo_good_side T o_is_number F, F.kp, F.bindsN fun _ _ _ _ _ _ us hl => match us, hl with | [_], _ => rfl⟩
theorem sc_good_place : FnScope ["web", "thing"] ["web", "thing"] (defScope (top 31)) := ⟨rfl, rfl, rfl, by decide +kernel, rfl, by decide +kernel, by decide +kernel⟩
theorem fo_good_place (T : Tp K w sA sN mg) (o_is_pair : FnP P w K mg base (Zk K w sA sN) 3 5 1 F_is_pair) {fd : FuncData} (F : FunD K "good_place" "good_place" (defArgs (top 31)) (defBody (top 31)) (defScope (top 31)) [] [] ((Zk K w sA sN).φ 20) fd) : FnOk P w K mg base (L2.CX P w) 4 ((Zk K w sA sN).φ 20) fd ["web", "thing"] (spM (Zk K w sA sN) 2 F_good_place) :=
  def_ofD (k := 3) (b := B_good_place) (n := 2) rfl F sc_good_place rfl fun cdv A outer s H E hr tk => ss_one (s_ret (s_and (s_callF (o_is_pair.at_ hr rfl) tk rfl T.g_is_pair (s_cons (s_var 1 (pv 1)) (s_nil))) (s_and (s_chain op_le op_le s2_le s2_le (s_int) (s_ixM rfl (hu1 hr) (s_var 1 (pv 1)) (s_int)) (s_int)) (pe_one (s_chain op_le (op_ltM (hu0 hr)) s2_le s2_ltM (s_int) (s_ixM rfl (hu1 hr) (s_var 1 (pv 1)) (s_int)) (s_ixM rfl (hu1 hr) (s_var 0 (pv 0)) (s_ixM rfl (hu1 hr) (s_var 1 (pv 1)) (s_int))))))))
theorem ok_good_place (T : Tp K w sA sN mg) (o_is_pair : FnP P w K mg base (Zk K w sA sN) 3 5 1 F_is_pair) : FnP P w K mg base (Zk K w sA sN) 4 20 2 F_good_place := by
  obtain ⟨fd, F⟩ := T.d_good_place
  exact ⟨fd, ["web", "thing"], fo_good_place T o_is_pair F, F.kp, F.bindsN fun _ _ _ _ _ _ us hl => match us, hl with | [_, _], _ => rfl⟩
theorem sc_good_tie : FnScope ["web", "thing"] ["web", "thing"] (defScope (top 32)) := ⟨rfl, rfl, rfl, by decide +kernel, rfl, by decide +kernel, by decide +kernel⟩
theorem fo_good_tie (T : Tp K w sA sN mg) (o_is_pair : FnP P w K mg base (Zk K w sA sN) 3 5 1 F_is_pair) {fd : FuncData} (F : FunD K "good_tie" "good_tie" (defArgs (top 32)) (defBody (top 32)) (defScope (top 32)) [] [] ((Zk K w sA sN).φ 21) fd) : FnOk P w K mg base (L2.CX P w) 4 ((Zk K w sA sN).φ 21) fd ["web", "thing"] (spM (Zk K w sA sN) 2 F_good_tie) :=
  def_ofD (k := 3) (b := B_good_tie) (n := 2) rfl F sc_good_tie rfl fun cdv A outer s H E hr tk => ss_one (s_ret (s_and (s_callF (o_is_pair.at_ hr rfl) tk rfl T.g_is_pair (s_cons (s_var 1 (pv 1)) (s_nil))) (pe_one (s_cmp (op_inA (hu65 hr)) s2_inA (s_var 1 (pv 1)) (s_ixM rfl (hu1 hr) (s_var 0 (pv 0)) (s_int)) (by rfl)))))
theorem ok_good_tie (T : Tp K w sA sN mg) (o_is_pair : FnP P w K mg base (Zk K w sA sN) 3 5 1 F_is_pair) : FnP P w K mg base (Zk K w sA sN) 4 21 2 F_good_tie := by
  obtain ⟨fd, F⟩ := T.d_good_tie
  exact ⟨fd, ["web", "thing"], fo_good_tie T o_is_pair F, F.kp, F.bindsN fun _ _ _ _ _ _ us hl => match us, hl with | [_, _], _ => rfl⟩
theorem sc_good_tree : FnScope ["web", "thing", "many", "number", "ties", "tie"] ["web", "thing"] (defScope (top 33)) := ⟨rfl, rfl, rfl, by decide +kernel, rfl, by decide +kernel, by decide +kernel⟩
theorem fo_good_tree (T : Tp K w sA sN mg) (o_good_ties : FnP P w K mg base (Zk K w sA sN) 4 17 3 F_good_ties) (o_rises : FnP P w K mg base (Zk K w sA sN) 1 6 1 F_rises) (o_holds : FnP P w K mg base (Zk K w sA sN) 3 2 3 F_holds) {fd : FuncData} (F : FunD K "good_tree" "good_tree" (defArgs (top 33)) (defBody (top 33)) (defScope (top 33)) [] [] ((Zk K w sA sN).φ 22) fd) : FnOk P w K mg base (L2.CX P w) 5 ((Zk K w sA sN).φ 22) fd ["web", "thing"] (spM (Zk K w sA sN) 2 F_good_tree) :=
  def_ofD (k := 4) (b := B_good_tree) (n := 6) rfl F sc_good_tree rfl fun cdv A outer s H E hr tk => ss_cons (s_asg (s_var 0 (pv 0)) (s_gtup rfl (s_gcons (s_gname (pg_name (i := 2) sc_good_tree.nd rfl (by first | exact .inl rfl | exact .inr rfl))) (s_gcons (s_gname (pg_name (i := 3) sc_good_tree.nd rfl (by first | exact .inl rfl | exact .inr rfl))) (s_gcons (s_gname (pg_name (i := 4) sc_good_tree.nd rfl (by first | exact .inl rfl | exact .inr rfl))) (s_gnil)))))) (ss_cons (s_ifS (L2.PW.pt (s_wor (s_tnot (s_truth rfl (s_isi1 rfl rfl T.b_isinstance bt_isinstance (pe_bltn rfl T.b_tuple bt_tuple rfl) (s_var 1 (pv 1)) (tB_ok (by decide +kernel))))) (pw_or1 (s_tcmp (op_neM (hu64 hr)) s2_ne (s_cb cr_lenA cs_lenA rfl T.b_len bt_len (s_cons (s_var 1 (pv 1)) (s_nil))) (s_op op_sub s2_sub (s_op op_addM s2_add (s_var 2 (pv 2)) (s_var 3 (pv 3))) (s_int)) (nomark _))))) (ss_one (s_ret (s_bl))) (ss_nil)) (ss_cons (s_ifS (L2.PW.pt (s_wor (s_tnot (s_truth rfl (s_callF (o_good_ties.at_ hr rfl) tk rfl T.g_good_ties (s_cons (s_var 2 (pv 2)) (s_cons (s_var 3 (pv 3)) (s_cons (s_var 1 (pv 1)) (s_nil))))))) (pw_or1 (s_tnot (s_truth rfl (s_callF (o_rises.at_ hr rfl) tk rfl T.g_rises (s_cons (s_var 1 (pv 1)) (s_nil)))))))) (ss_one (s_ret (s_bl))) (ss_nil)) (ss_one (s_ret (s_and (s_cbT (cr_all rfl) ct_all rfl T.b_all bt_all (s_lc (own := [("tie", 5)]) rfl sc_good_tree.nd (s_iS rfl (s_var 1 (pv 1))) (blkOk_by (N := ["web", "thing", "many", "number", "ties", "tie"]) (sc := defScope (top 33)) (own := [("tie", 5)]) (by decide +kernel)) (fun _ _ _ _ _ => s_gname (pg_name (i := 5) sc_good_tree.nd rfl (by first | exact .inl rfl | exact .inr rfl))) (fun _ _ _ _ _ => sts_nil) (fun _ _ _ _ _ => s_cmp (op_inA (hu65 hr)) s2_inA (s_var 5 (pv 5)) (s_var 4 (pv 4)) (by rfl)))) (pe_one (s_callF (o_holds.at_ hr rfl) tk rfl T.g_holds (s_cons (s_var 2 (pv 2)) (s_cons (s_var 3 (pv 3)) (s_cons (s_var 1 (pv 1)) (s_nil)))))))))))
theorem ok_good_tree (T : Tp K w sA sN mg) (o_good_ties : FnP P w K mg base (Zk K w sA sN) 4 17 3 F_good_ties) (o_rises : FnP P w K mg base (Zk K w sA sN) 1 6 1 F_rises) (o_holds : FnP P w K mg base (Zk K w sA sN) 3 2 3 F_holds) : FnP P w K mg base (Zk K w sA sN) 5 22 2 F_good_tree := by
  obtain ⟨fd, F⟩ := T.d_good_tree
  exact ⟨fd, ["web", "thing"], fo_good_tree T o_good_ties o_rises o_holds F, F.kp, F.bindsN fun _ _ _ _ _ _ us hl => match us, hl with | [_, _], _ => rfl⟩
theorem sc_good_order : FnScope ["web", "thing", "own"] ["web", "thing"] (defScope (top 34)) := ⟨rfl, rfl, rfl, by decide +kernel, rfl, by decide +kernel, by decide +kernel⟩
theorem fo_good_order (T : Tp K w sA sN mg) (o_is_pair : FnP P w K mg base (Zk K w sA sN) 3 5 1 F_is_pair) {fd : FuncData} (F : FunD K "good_order" "good_order" (defArgs (top 34)) (defBody (top 34)) (defScope (top 34)) [] [] ((Zk K w sA sN).φ 23) fd) : FnOk P w K mg base (L2.CX P w) 4 ((Zk K w sA sN).φ 23) fd ["web", "thing"] (spM (Zk K w sA sN) 2 F_good_order) :=
  def_ofD (k := 3) (b := B_good_order) (n := 3) rfl F sc_good_order rfl fun cdv A outer s H E hr tk => ss_cons (s_ifS (L2.PW.pt (s_wor (s_tnot (s_truth rfl (s_isi1 rfl rfl T.b_isinstance bt_isinstance (pe_bltn rfl T.b_tuple bt_tuple rfl) (s_var 1 (pv 1)) (tB_ok (by decide +kernel))))) (pw_or1 (s_tcmp (op_neM (hu64 hr)) s2_ne (s_cb cr_lenA cs_lenA rfl T.b_len bt_len (s_cons (s_var 1 (pv 1)) (s_nil))) (s_cb cr_lenA cs_lenA rfl T.b_len bt_len (s_cons (s_ixM rfl (hu1 hr) (s_var 0 (pv 0)) (s_int)) (s_nil))) (nomark _))))) (ss_one (s_ret (s_bl))) (ss_nil)) (ss_one (s_ret (s_and (s_cbT (cr_all rfl) ct_all rfl T.b_all bt_all (s_lc (own := [("own", 2)]) rfl sc_good_order.nd (s_iS rfl (s_var 1 (pv 1))) (blkOk_by (N := ["web", "thing", "own"]) (sc := defScope (top 34)) (own := [("own", 2)]) (by decide +kernel)) (fun _ _ _ _ _ => s_gname (pg_name (i := 2) sc_good_order.nd rfl (by first | exact .inl rfl | exact .inr rfl))) (fun _ _ _ _ _ => sts_nil) (fun _ _ _ _ _ => s_callF (o_is_pair.at_ hr rfl) takes0 rfl T.g_is_pair (s_cons (s_var 2 (pv 2)) (s_nil))))) (pe_one (s_cmp (op_eqM (hu64 hr)) s2_eq (s_cb (cr_sortB rfl (hu70 hr)) cs_sortB rfl T.b_sorted bt_sorted (s_cons (s_var 1 (pv 1)) (s_nil))) (s_cty (cr_listA rfl) cs_listA rfl T.b_list bt_list (s_cons (s_ixM rfl (hu1 hr) (s_var 0 (pv 0)) (s_int)) (s_nil))) (nomark _))))))
theorem ok_good_order (T : Tp K w sA sN mg) (o_is_pair : FnP P w K mg base (Zk K w sA sN) 3 5 1 F_is_pair) : FnP P w K mg base (Zk K w sA sN) 4 23 2 F_good_order := by
  obtain ⟨fd, F⟩ := T.d_good_order
  exact ⟨fd, ["web", "thing"], fo_good_order T o_is_pair F, F.kp, F.bindsN fun _ _ _ _ _ _ us hl => match us, hl with | [_, _], _ => rfl⟩
theorem sc_good_shares : FnScope ["web", "side", "thing", "tree", "shares", "own"] ["web", "side", "thing"] (defScope (top 35)) := ⟨rfl, rfl, rfl, by decide +kernel, rfl, by decide +kernel, by decide +kernel⟩
theorem fo_good_shares (T : Tp K w sA sN mg) (o_good_tree : FnP P w K mg base (Zk K w sA sN) 5 22 2 F_good_tree) (o_shares_in : FnP P w K mg base (Zk K w sA sN) 3 15 3 F_shares_in) (o_same : FnP P w K mg base (Zk K w sA sN) 10 8 2 (F_same 10)) {fd : FuncData} (F : FunD K "good_shares" "good_shares" (defArgs (top 35)) (defBody (top 35)) (defScope (top 35)) [] [] ((Zk K w sA sN).φ 24) fd) : FnOk P w K mg base (L2.CX P w) 11 ((Zk K w sA sN).φ 24) fd ["web", "side", "thing"] (spM (Zk K w sA sN) 3 F_good_shares) :=
  def_ofD (k := 10) (b := B_good_shares) (n := 6) rfl F sc_good_shares rfl fun cdv A outer s H E hr tk => ss_cons (s_ifS (L2.PW.pt (s_wor (s_tnot (s_truth rfl (s_isi1 rfl rfl T.b_isinstance bt_isinstance (pe_bltn rfl T.b_tuple bt_tuple rfl) (s_var 2 (pv 2)) (tB_ok (by decide +kernel))))) (pw_or1 (s_tnot (s_truth rfl (s_cbT (cr_all rfl) ct_all rfl T.b_all bt_all (s_lc (own := [("own", 5)]) rfl sc_good_shares.nd (s_iS rfl (s_var 2 (pv 2))) (blkOk_by (N := ["web", "side", "thing", "tree", "shares", "own"]) (sc := defScope (top 35)) (own := [("own", 5)]) (by decide +kernel)) (fun _ _ _ _ _ => s_gname (pg_name (i := 5) sc_good_shares.nd rfl (by first | exact .inl rfl | exact .inr rfl))) (fun _ _ _ _ _ => sts_nil) (fun _ _ _ _ _ => s_and (s_isi1 rfl rfl T.b_isinstance bt_isinstance (pe_bltn rfl T.b_tuple bt_tuple rfl) (s_var 5 (pv 5)) (tB_ok (by decide +kernel))) (pe_one (s_cmp (op_eqM (hu64 hr)) s2_eq (s_cb cr_lenA cs_lenA rfl T.b_len bt_len (s_cons (s_var 5 (pv 5)) (s_nil))) (s_int) (nomark _))))))))))) (ss_one (s_ret (s_bl))) (ss_nil)) (ss_cons (s_set (i := 3) sc_good_shares.nd rfl (by first | exact .inl rfl | exact .inr rfl) (s_ctyT call_tuple_of ct_tuple rfl T.b_tuple bt_tuple (s_lc (own := [("own", 5)]) rfl sc_good_shares.nd (s_iS rfl (s_var 2 (pv 2))) (blkOk_by (N := ["web", "side", "thing", "tree", "shares", "own"]) (sc := defScope (top 35)) (own := [("own", 5)]) (by decide +kernel)) (fun _ _ _ _ _ => s_gname (pg_name (i := 5) sc_good_shares.nd rfl (by first | exact .inl rfl | exact .inr rfl))) (fun _ _ _ _ _ => sts_nil) (fun _ _ _ _ _ => s_ixM rfl (hu1 hr) (s_var 5 (pv 5)) (s_int))))) (ss_cons (s_ifS (s_tnot (s_truth rfl (s_callF (o_good_tree.at_ hr rfl) tk rfl T.g_good_tree (s_cons (s_var 0 (pv 0)) (s_cons (s_var 3 (pv 3)) (s_nil)))))) (ss_one (s_ret (s_bl))) (ss_nil)) (ss_cons (s_set (i := 4) sc_good_shares.nd rfl (by first | exact .inl rfl | exact .inr rfl) (s_callF (o_shares_in.at_ hr rfl) tk rfl T.g_shares_in (s_cons (s_var 0 (pv 0)) (s_cons (s_var 3 (pv 3)) (s_cons (s_var 1 (pv 1)) (s_nil)))))) (ss_one (s_ret (s_cbT (cr_all rfl) ct_all rfl T.b_all bt_all (s_lc (own := [("own", 5)]) rfl sc_good_shares.nd (s_iS rfl (s_var 2 (pv 2))) (blkOk_by (N := ["web", "side", "thing", "tree", "shares", "own"]) (sc := defScope (top 35)) (own := [("own", 5)]) (by decide +kernel)) (fun _ _ _ _ _ => s_gname (pg_name (i := 5) sc_good_shares.nd rfl (by first | exact .inl rfl | exact .inr rfl))) (fun _ _ _ _ _ => sts_nil) (fun _ _ _ _ _ => s_callF (o_same.at_ hr rfl) takes0 rfl T.g_same (s_cons (s_ixM rfl (hu1 hr) (s_var 5 (pv 5)) (s_int)) (s_cons (s_ixM rfl (hu1 hr) (s_var 4 (pv 4)) (s_ixM rfl (hu1 hr) (s_var 5 (pv 5)) (s_int))) (s_nil)))))))))))
theorem ok_good_shares (T : Tp K w sA sN mg) (o_good_tree : FnP P w K mg base (Zk K w sA sN) 5 22 2 F_good_tree) (o_shares_in : FnP P w K mg base (Zk K w sA sN) 3 15 3 F_shares_in) (o_same : FnP P w K mg base (Zk K w sA sN) 10 8 2 (F_same 10)) : FnP P w K mg base (Zk K w sA sN) 11 24 3 F_good_shares := by
  obtain ⟨fd, F⟩ := T.d_good_shares
  exact ⟨fd, ["web", "side", "thing"], fo_good_shares T o_good_tree o_shares_in o_same F, F.kp, F.bindsN fun _ _ _ _ _ _ us hl => match us, hl with | [_, _, _], _ => rfl⟩
theorem sc_fit_pair : FnScope ["pair", "told"] ["pair"] (defScope (top 36)) := ⟨rfl, rfl, rfl, by decide +kernel, rfl, by decide +kernel, by decide +kernel⟩
theorem fo_fit_pair (T : Tp K w sA sN mg) (o_tupled : FnP P w K mg base (Zk K w sA sN) 8 7 2 (F_tupled 8)) (o_is_pair : FnP P w K mg base (Zk K w sA sN) 3 5 1 F_is_pair) {fd : FuncData} (F : FunD K "fit_pair" "fit_pair" (defArgs (top 36)) (defBody (top 36)) (defScope (top 36)) [] [] ((Zk K w sA sN).φ 25) fd) : FnOk P w K mg base (L2.CX P w) 9 ((Zk K w sA sN).φ 25) fd ["pair"] (spM (Zk K w sA sN) 1 F_fit_pair) :=
  def_ofD (k := 8) (b := B_fit_pair) (n := 2) rfl F sc_fit_pair rfl fun cdv A outer s H E hr tk => ss_cons (s_set (i := 1) sc_fit_pair.nd rfl (by first | exact .inl rfl | exact .inr rfl) (s_callF (o_tupled.at_ hr rfl) tk rfl T.g_tupled (s_cons (s_var 0 (pv 0)) (s_cons (s_int) (s_nil))))) (ss_cons (s_ifS (s_tnot (s_truth rfl (s_callF (o_is_pair.at_ hr rfl) tk rfl T.g_is_pair (s_cons (s_var 1 (pv 1)) (s_nil))))) (ss_one (s_raise0 (c := 3) rfl PySem.F.excBase_ValueError T.x_Unfit tk rfl)) (ss_nil)) (ss_one (s_ret (s_var 1 (pv 1)))))
theorem ok_fit_pair (T : Tp K w sA sN mg) (o_tupled : FnP P w K mg base (Zk K w sA sN) 8 7 2 (F_tupled 8)) (o_is_pair : FnP P w K mg base (Zk K w sA sN) 3 5 1 F_is_pair) : FnP P w K mg base (Zk K w sA sN) 9 25 1 F_fit_pair := by
  obtain ⟨fd, F⟩ := T.d_fit_pair
  exact ⟨fd, ["pair"], fo_fit_pair T o_tupled o_is_pair F, F.kp, F.bindsN fun _ _ _ _ _ _ us hl => match us, hl with | [_], _ => rfl⟩
theorem sc_fit_web : FnScope ["web", "told"] ["web"] (defScope (top 37)) := ⟨rfl, rfl, rfl, by decide +kernel, rfl, by decide +kernel, by decide +kernel⟩
theorem fo_fit_web (T : Tp K w sA sN mg) (o_tupled : FnP P w K mg base (Zk K w sA sN) 8 7 2 (F_tupled 8)) (o_good_web : FnP P w K mg base (Zk K w sA sN) 5 18 1 F_good_web) {fd : FuncData} (F : FunD K "fit_web" "fit_web" (defArgs (top 37)) (defBody (top 37)) (defScope (top 37)) [] [] ((Zk K w sA sN).φ 26) fd) : FnOk P w K mg base (L2.CX P w) 9 ((Zk K w sA sN).φ 26) fd ["web"] (spM (Zk K w sA sN) 1 F_fit_web) :=
  def_ofD (k := 8) (b := B_fit_web) (n := 2) rfl F sc_fit_web rfl fun cdv A outer s H E hr tk => ss_cons (s_set (i := 1) sc_fit_web.nd rfl (by first | exact .inl rfl | exact .inr rfl) (s_callF (o_tupled.at_ hr rfl) tk rfl T.g_tupled (s_cons (s_var 0 (pv 0)) (s_cons (s_int) (s_nil))))) (ss_cons (s_ifS (s_tnot (s_truth rfl (s_callF (o_good_web.at_ hr rfl) tk rfl T.g_good_web (s_cons (s_var 1 (pv 1)) (s_nil))))) (ss_one (s_raise0 (c := 3) rfl PySem.F.excBase_ValueError T.x_Unfit tk rfl)) (ss_nil)) (ss_one (s_ret (s_var 1 (pv 1)))))
theorem ok_fit_web (T : Tp K w sA sN mg) (o_tupled : FnP P w K mg base (Zk K w sA sN) 8 7 2 (F_tupled 8)) (o_good_web : FnP P w K mg base (Zk K w sA sN) 5 18 1 F_good_web) : FnP P w K mg base (Zk K w sA sN) 9 26 1 F_fit_web := by
  obtain ⟨fd, F⟩ := T.d_fit_web
  exact ⟨fd, ["web"], fo_fit_web T o_tupled o_good_web F, F.kp, F.bindsN fun _ _ _ _ _ _ us hl => match us, hl with | [_], _ => rfl⟩
theorem sc_fit_side : FnScope ["side"] ["side"] (defScope (top 38)) := ⟨rfl, rfl, rfl, by decide +kernel, rfl, by decide +kernel, by decide +kernel⟩
theorem fo_fit_side (T : Tp K w sA sN mg) (o_good_side : FnP P w K mg base (Zk K w sA sN) 2 19 1 F_good_side) {fd : FuncData} (F : FunD K "fit_side" "fit_side" (defArgs (top 38)) (defBody (top 38)) (defScope (top 38)) [] [] ((Zk K w sA sN).φ 27) fd) : FnOk P w K mg base (L2.CX P w) 3 ((Zk K w sA sN).φ 27) fd ["side"] (spM (Zk K w sA sN) 1 F_fit_side) :=
  def_ofD (k := 2) (b := B_fit_side) (n := 1) rfl F sc_fit_side rfl fun cdv A outer s H E hr tk => ss_cons (s_ifS (s_tnot (s_truth rfl (s_callF (o_good_side.at_ hr rfl) tk rfl T.g_good_side (s_cons (s_var 0 (pv 0)) (s_nil))))) (ss_one (s_raise0 (c := 3) rfl PySem.F.excBase_ValueError T.x_Unfit tk rfl)) (ss_nil)) (ss_one (s_ret (s_var 0 (pv 0))))
theorem ok_fit_side (T : Tp K w sA sN mg) (o_good_side : FnP P w K mg base (Zk K w sA sN) 2 19 1 F_good_side) : FnP P w K mg base (Zk K w sA sN) 3 27 1 F_fit_side := by
  obtain ⟨fd, F⟩ := T.d_fit_side
  exact ⟨fd, ["side"], fo_fit_side T o_good_side F, F.kp, F.bindsN fun _ _ _ _ _ _ us hl => match us, hl with | [_], _ => rfl⟩
theorem sc_fit_tree : FnScope ["web", "tree", "told"] ["web", "tree"] (defScope (top 39)) := ⟨rfl, rfl, rfl, by decide +kernel, rfl, by decide +kernel, by decide +kernel⟩
theorem fo_fit_tree (T : Tp K w sA sN mg) (o_tupled : FnP P w K mg base (Zk K w sA sN) 8 7 2 (F_tupled 8)) (o_good_tree : FnP P w K mg base (Zk K w sA sN) 5 22 2 F_good_tree) {fd : FuncData} (F : FunD K "fit_tree" "fit_tree" (defArgs (top 39)) (defBody (top 39)) (defScope (top 39)) [] [] ((Zk K w sA sN).φ 28) fd) : FnOk P w K mg base (L2.CX P w) 9 ((Zk K w sA sN).φ 28) fd ["web", "tree"] (spM (Zk K w sA sN) 2 F_fit_tree) :=
  def_ofD (k := 8) (b := B_fit_tree) (n := 3) rfl F sc_fit_tree rfl fun cdv A outer s H E hr tk => ss_cons (s_set (i := 2) sc_fit_tree.nd rfl (by first | exact .inl rfl | exact .inr rfl) (s_callF (o_tupled.at_ hr rfl) tk rfl T.g_tupled (s_cons (s_var 1 (pv 1)) (s_cons (s_int) (s_nil))))) (ss_cons (s_ifS (s_tnot (s_truth rfl (s_callF (o_good_tree.at_ hr rfl) tk rfl T.g_good_tree (s_cons (s_var 0 (pv 0)) (s_cons (s_var 2 (pv 2)) (s_nil)))))) (ss_one (s_raise0 (c := 3) rfl PySem.F.excBase_ValueError T.x_Unfit tk rfl)) (ss_nil)) (ss_one (s_ret (s_var 2 (pv 2)))))
theorem ok_fit_tree (T : Tp K w sA sN mg) (o_tupled : FnP P w K mg base (Zk K w sA sN) 8 7 2 (F_tupled 8)) (o_good_tree : FnP P w K mg base (Zk K w sA sN) 5 22 2 F_good_tree) : FnP P w K mg base (Zk K w sA sN) 9 28 2 F_fit_tree := by
  obtain ⟨fd, F⟩ := T.d_fit_tree
  exact ⟨fd, ["web", "tree"], fo_fit_tree T o_tupled o_good_tree F, F.kp, F.bindsN fun _ _ _ _ _ _ us hl => match us, hl with | [_, _], _ => rfl⟩
theorem sc_fit_order : FnScope ["web", "order", "told"] ["web", "order"] (defScope (top 40)) := ⟨rfl, rfl, rfl, by decide +kernel, rfl, by decide +kernel, by decide +kernel⟩
theorem fo_fit_order (T : Tp K w sA sN mg) (o_tupled : FnP P w K mg base (Zk K w sA sN) 8 7 2 (F_tupled 8)) (o_good_order : FnP P w K mg base (Zk K w sA sN) 4 23 2 F_good_order) {fd : FuncData} (F : FunD K "fit_order" "fit_order" (defArgs (top 40)) (defBody (top 40)) (defScope (top 40)) [] [] ((Zk K w sA sN).φ 29) fd) : FnOk P w K mg base (L2.CX P w) 9 ((Zk K w sA sN).φ 29) fd ["web", "order"] (spM (Zk K w sA sN) 2 F_fit_order) :=
  def_ofD (k := 8) (b := B_fit_order) (n := 3) rfl F sc_fit_order rfl fun cdv A outer s H E hr tk => ss_cons (s_set (i := 2) sc_fit_order.nd rfl (by first | exact .inl rfl | exact .inr rfl) (s_callF (o_tupled.at_ hr rfl) tk rfl T.g_tupled (s_cons (s_var 1 (pv 1)) (s_cons (s_int) (s_nil))))) (ss_cons (s_ifS (s_tnot (s_truth rfl (s_callF (o_good_order.at_ hr rfl) tk rfl T.g_good_order (s_cons (s_var 0 (pv 0)) (s_cons (s_var 2 (pv 2)) (s_nil)))))) (ss_one (s_raise0 (c := 3) rfl PySem.F.excBase_ValueError T.x_Unfit tk rfl)) (ss_nil)) (ss_one (s_ret (s_var 2 (pv 2)))))
theorem ok_fit_order (T : Tp K w sA sN mg) (o_tupled : FnP P w K mg base (Zk K w sA sN) 8 7 2 (F_tupled 8)) (o_good_order : FnP P w K mg base (Zk K w sA sN) 4 23 2 F_good_order) : FnP P w K mg base (Zk K w sA sN) 9 29 2 F_fit_order := by
  obtain ⟨fd, F⟩ := T.d_fit_order
  exact ⟨fd, ["web", "order"], fo_fit_order T o_tupled o_good_order F, F.kp, F.bindsN fun _ _ _ _ _ _ us hl => match us, hl with | [_, _], _ => rfl⟩
theorem sc_fit_shares : FnScope ["web", "side", "shares", "told"] ["web", "side", "shares"] (defScope (top 41)) := ⟨rfl, rfl, rfl, by decide +kernel, rfl, by decide +kernel, by decide +kernel⟩
theorem fo_fit_shares (T : Tp K w sA sN mg) (o_tupled : FnP P w K mg base (Zk K w sA sN) 8 7 2 (F_tupled 8)) (o_good_shares : FnP P w K mg base (Zk K w sA sN) 11 24 3 F_good_shares) {fd : FuncData} (F : FunD K "fit_shares" "fit_shares" (defArgs (top 41)) (defBody (top 41)) (defScope (top 41)) [] [] ((Zk K w sA sN).φ 30) fd) : FnOk P w K mg base (L2.CX P w) 12 ((Zk K w sA sN).φ 30) fd ["web", "side", "shares"] (spM (Zk K w sA sN) 3 F_fit_shares) :=
  def_ofD (k := 11) (b := B_fit_shares) (n := 4) rfl F sc_fit_shares rfl fun cdv A outer s H E hr tk => ss_cons (s_set (i := 3) sc_fit_shares.nd rfl (by first | exact .inl rfl | exact .inr rfl) (s_callF (o_tupled.at_ hr rfl) tk rfl T.g_tupled (s_cons (s_var 2 (pv 2)) (s_cons (s_int) (s_nil))))) (ss_cons (s_ifS (s_tnot (s_truth rfl (s_callF (o_good_shares.at_ hr rfl) tk rfl T.g_good_shares (s_cons (s_var 0 (pv 0)) (s_cons (s_var 1 (pv 1)) (s_cons (s_var 3 (pv 3)) (s_nil))))))) (ss_one (s_raise0 (c := 3) rfl PySem.F.excBase_ValueError T.x_Unfit tk rfl)) (ss_nil)) (ss_one (s_ret (s_var 3 (pv 3)))))
theorem ok_fit_shares (T : Tp K w sA sN mg) (o_tupled : FnP P w K mg base (Zk K w sA sN) 8 7 2 (F_tupled 8)) (o_good_shares : FnP P w K mg base (Zk K w sA sN) 11 24 3 F_good_shares) : FnP P w K mg base (Zk K w sA sN) 12 30 3 F_fit_shares := by
  obtain ⟨fd, F⟩ := T.d_fit_shares
  exact ⟨fd, ["web", "side", "shares"], fo_fit_shares T o_tupled o_good_shares F, F.kp, F.bindsN fun _ _ _ _ _ _ us hl => match us, hl with | [_, _, _], _ => rfl⟩
theorem sc_fit_ring : FnScope ["first", "second", "ring", "told"] ["first", "second", "ring"] (defScope (top 42)) := ⟨rfl, rfl, rfl, by decide +kernel, rfl, by decide +kernel, by decide +kernel⟩
theorem fo_fit_ring (T : Tp K w sA sN mg) (o_tupled : FnP P w K mg base (Zk K w sA sN) 8 7 2 (F_tupled 8)) (o_is_ring : FnP P w K mg base (Zk K w sA sN) 3 10 3 F_is_ring) {fd : FuncData} (F : FunD K "fit_ring" "fit_ring" (defArgs (top 42)) (defBody (top 42)) (defScope (top 42)) [] [] ((Zk K w sA sN).φ 31) fd) : FnOk P w K mg base (L2.CX P w) 9 ((Zk K w sA sN).φ 31) fd ["first", "second", "ring"] (spM (Zk K w sA sN) 3 F_fit_ring) :=
  def_ofD (k := 8) (b := B_fit_ring) (n := 4) rfl F sc_fit_ring rfl fun cdv A outer s H E hr tk => ss_cons (s_set (i := 3) sc_fit_ring.nd rfl (by first | exact .inl rfl | exact .inr rfl) (s_callF (o_tupled.at_ hr rfl) tk rfl T.g_tupled (s_cons (s_var 2 (pv 2)) (s_cons (s_int) (s_nil))))) (ss_cons (s_ifS (s_tnot (s_truth rfl (s_callF (o_is_ring.at_ hr rfl) tk rfl T.g_is_ring (s_cons (s_var 0 (pv 0)) (s_cons (s_var 1 (pv 1)) (s_cons (s_var 3 (pv 3)) (s_nil))))))) (ss_one (s_raise0 (c := 3) rfl PySem.F.excBase_ValueError T.x_Unfit tk rfl)) (ss_nil)) (ss_one (s_ret (s_var 3 (pv 3)))))
theorem ok_fit_ring (T : Tp K w sA sN mg) (o_tupled : FnP P w K mg base (Zk K w sA sN) 8 7 2 (F_tupled 8)) (o_is_ring : FnP P w K mg base (Zk K w sA sN) 3 10 3 F_is_ring) : FnP P w K mg base (Zk K w sA sN) 9 31 3 F_fit_ring := by
  obtain ⟨fd, F⟩ := T.d_fit_ring
  exact ⟨fd, ["first", "second", "ring"], fo_fit_ring T o_tupled o_is_ring F, F.kp, F.bindsN fun _ _ _ _ _ _ us hl => match us, hl with | [_, _, _], _ => rfl⟩
theorem sc_need_place : FnScope ["web", "place"] ["web", "place"] (defScope (top 43)) := ⟨rfl, rfl, rfl, by decide +kernel, rfl, by decide +kernel, by decide +kernel⟩
theorem fo_need_place (T : Tp K w sA sN mg) (o_good_place : FnP P w K mg base (Zk K w sA sN) 4 20 2 F_good_place) {fd : FuncData} (F : FunD K "need_place" "need_place" (defArgs (top 43)) (defBody (top 43)) (defScope (top 43)) [] [] ((Zk K w sA sN).φ 32) fd) : FnOk P w K mg base (L2.CX P w) 5 ((Zk K w sA sN).φ 32) fd ["web", "place"] (spM (Zk K w sA sN) 2 F_need_place) :=
  def_ofD (k := 4) (b := B_need_place) (n := 2) rfl F sc_need_place rfl fun cdv A outer s H E hr tk => ss_one (s_ifS (s_tnot (s_truth rfl (s_callF (o_good_place.at_ hr rfl) tk rfl T.g_good_place (s_cons (s_var 0 (pv 0)) (s_cons (s_var 1 (pv 1)) (s_nil)))))) (ss_one (s_raise1 (c := 0) rfl (T.x_NoPlace).choose_spec nm_place sa_Lookup PySem.F.excBase_LookupError rfl tk hr (s_var 1 (pv 1)) rfl)) (ss_nil))
theorem ok_need_place (T : Tp K w sA sN mg) (o_good_place : FnP P w K mg base (Zk K w sA sN) 4 20 2 F_good_place) : FnP P w K mg base (Zk K w sA sN) 5 32 2 F_need_place := by
  obtain ⟨fd, F⟩ := T.d_need_place
  exact ⟨fd, ["web", "place"], fo_need_place T o_good_place F, F.kp, F.bindsN fun _ _ _ _ _ _ us hl => match us, hl with | [_, _], _ => rfl⟩
theorem sc_need_tie : FnScope ["web", "tie"] ["web", "tie"] (defScope (top 44)) := ⟨rfl, rfl, rfl, by decide +kernel, rfl, by decide +kernel, by decide +kernel⟩
theorem fo_need_tie (T : Tp K w sA sN mg) (o_good_tie : FnP P w K mg base (Zk K w sA sN) 4 21 2 F_good_tie) {fd : FuncData} (F : FunD K "need_tie" "need_tie" (defArgs (top 44)) (defBody (top 44)) (defScope (top 44)) [] [] ((Zk K w sA sN).φ 33) fd) : FnOk P w K mg base (L2.CX P w) 5 ((Zk K w sA sN).φ 33) fd ["web", "tie"] (spM (Zk K w sA sN) 2 F_need_tie) :=
  def_ofD (k := 4) (b := B_need_tie) (n := 2) rfl F sc_need_tie rfl fun cdv A outer s H E hr tk => ss_one (s_ifS (s_tnot (s_truth rfl (s_callF (o_good_tie.at_ hr rfl) tk rfl T.g_good_tie (s_cons (s_var 0 (pv 0)) (s_cons (s_var 1 (pv 1)) (s_nil)))))) (ss_one (s_raise1 (c := 1) rfl (T.x_NoTie).choose_spec nm_tie sa_Lookup PySem.F.excBase_LookupError rfl tk hr (s_var 1 (pv 1)) rfl)) (ss_nil))
theorem ok_need_tie (T : Tp K w sA sN mg) (o_good_tie : FnP P w K mg base (Zk K w sA sN) 4 21 2 F_good_tie) : FnP P w K mg base (Zk K w sA sN) 5 33 2 F_need_tie := by
  obtain ⟨fd, F⟩ := T.d_need_tie
  exact ⟨fd, ["web", "tie"], fo_need_tie T o_good_tie F, F.kp, F.bindsN fun _ _ _ _ _ _ us hl => match us, hl with | [_, _], _ => rfl⟩
theorem sc_share_of : FnScope ["web", "tree", "tie", "side"] ["web", "tree", "tie", "side"] (defScope (top 46)) := ⟨rfl, rfl, rfl, by decide +kernel, rfl, by decide +kernel, by decide +kernel⟩
theorem fo_share_of (T : Tp K w sA sN mg) (o_need_tie : FnP P w K mg base (Zk K w sA sN) 5 33 2 F_need_tie) (o_shares_in : FnP P w K mg base (Zk K w sA sN) 3 15 3 F_shares_in) {fd : FuncData} (F : FunD K "share_of" "share_of" (defArgs (top 46)) (defBody (top 46)) (defScope (top 46)) [] [] ((Zk K w sA sN).φ 34) fd) : FnOk P w K mg base (L2.CX P w) 6 ((Zk K w sA sN).φ 34) fd ["web", "tree", "tie", "side"] (spM (Zk K w sA sN) 4 F_share_of) :=
  def_ofD (k := 5) (b := B_share_of) (n := 4) rfl F sc_share_of rfl fun cdv A outer s H E hr tk => ss_cons (s_expr (s_callF (o_need_tie.at_ hr rfl) tk rfl T.g_need_tie (s_cons (s_var 0 (pv 0)) (s_cons (s_var 2 (pv 2)) (s_nil))))) (ss_cons (s_ifS (s_tcmp (op_notInA (hu65 hr)) s2_inA (s_var 2 (pv 2)) (s_var 1 (pv 1)) (by rfl)) (ss_one (s_raise0 (c := 2) rfl PySem.F.excBase_ValueError T.x_CanNot tk rfl)) (ss_nil)) (ss_one (s_ret (s_ixM rfl (hu1 hr) (s_callF (o_shares_in.at_ hr rfl) tk rfl T.g_shares_in (s_cons (s_var 0 (pv 0)) (s_cons (s_var 1 (pv 1)) (s_cons (s_var 3 (pv 3)) (s_nil))))) (s_var 2 (pv 2))))))
theorem ok_share_of (T : Tp K w sA sN mg) (o_need_tie : FnP P w K mg base (Zk K w sA sN) 5 33 2 F_need_tie) (o_shares_in : FnP P w K mg base (Zk K w sA sN) 3 15 3 F_shares_in) : FnP P w K mg base (Zk K w sA sN) 6 34 4 F_share_of := by
  obtain ⟨fd, F⟩ := T.d_share_of
  exact ⟨fd, ["web", "tree", "tie", "side"], fo_share_of T o_need_tie o_shares_in F, F.kp, F.bindsN fun _ _ _ _ _ _ us hl => match us, hl with | [_, _, _, _], _ => rfl⟩
theorem sc_pairs_of : FnScope ["web", "tree", "side"] ["web", "tree", "side"] (defScope (top 47)) := ⟨rfl, rfl, rfl, by decide +kernel, rfl, by decide +kernel, by decide +kernel⟩
theorem fo_pairs_of (T : Tp K w sA sN mg) (o_shares_along : FnP P w K mg base (Zk K w sA sN) 4 16 4 F_shares_along) {fd : FuncData} (F : FunD K "pairs_of" "pairs_of" (defArgs (top 47)) (defBody (top 47)) (defScope (top 47)) [] [] ((Zk K w sA sN).φ 35) fd) : FnOk P w K mg base (L2.CX P w) 5 ((Zk K w sA sN).φ 35) fd ["web", "tree", "side"] (spM (Zk K w sA sN) 3 F_pairs_of) :=
  def_ofD (k := 4) (b := B_pairs_of) (n := 3) rfl F sc_pairs_of rfl fun cdv A outer s H E hr tk => ss_one (s_ret (s_tupZip rfl rfl T.b_tuple rfl T.b_zip (s_cons (s_var 1 (pv 1)) (s_cons (s_callF (o_shares_along.at_ hr rfl) tk rfl T.g_shares_along (s_cons (s_var 0 (pv 0)) (s_cons (s_var 1 (pv 1)) (s_cons (s_var 1 (pv 1)) (s_cons (s_var 2 (pv 2)) (s_nil)))))) (s_nil)))))
theorem ok_pairs_of (T : Tp K w sA sN mg) (o_shares_along : FnP P w K mg base (Zk K w sA sN) 4 16 4 F_shares_along) : FnP P w K mg base (Zk K w sA sN) 5 35 3 F_pairs_of := by
  obtain ⟨fd, F⟩ := T.d_pairs_of
  exact ⟨fd, ["web", "tree", "side"], fo_pairs_of T o_shares_along F, F.kp, F.bindsN fun _ _ _ _ _ _ us hl => match us, hl with | [_, _, _], _ => rfl⟩
theorem sc_share : FnScope ["web", "tree", "tie", "side"] ["web", "tree", "tie", "side"] (defScope (top 48)) := ⟨rfl, rfl, rfl, by decide +kernel, rfl, by decide +kernel, by decide +kernel⟩
theorem fo_share (T : Tp K w sA sN mg) (o_fit_web : FnP P w K mg base (Zk K w sA sN) 9 26 1 F_fit_web) (o_fit_side : FnP P w K mg base (Zk K w sA sN) 3 27 1 F_fit_side) (o_fit_pair : FnP P w K mg base (Zk K w sA sN) 9 25 1 F_fit_pair) (o_fit_tree : FnP P w K mg base (Zk K w sA sN) 9 28 2 F_fit_tree) (o_share_of : FnP P w K mg base (Zk K w sA sN) 6 34 4 F_share_of) {fd : FuncData} (F : FunD K "share" "share" (defArgs (top 48)) (defBody (top 48)) (defScope (top 48)) [] [] ((Zk K w sA sN).φ 36) fd) : FnOk P w K mg base (L2.CX P w) 10 ((Zk K w sA sN).φ 36) fd ["web", "tree", "tie", "side"] (spM (Zk K w sA sN) 4 F_share) :=
  def_ofD (k := 9) (b := B_share) (n := 4) rfl F sc_share rfl fun cdv A outer s H E hr tk => ss_cons (s_set (i := 0) sc_share.nd rfl (by first | exact .inl rfl | exact .inr rfl) (s_resetF (s_callF (o_fit_web.at_ hr rfl) tk rfl T.g_fit_web (s_cons (s_var 0 (pv 0)) (s_nil))))) (ss_cons (s_par3 (i := 1) (j := 2) (l := 3) rfl sc_share.nd rfl rfl rfl (by decide) (by decide) (by decide) rfl rfl rfl (s_cons (s_resetF (s_callF (o_fit_tree.at_ hr rfl) tk rfl T.g_fit_tree (s_cons (s_var 0 (pv 0)) (s_cons (s_var 1 (pv 1)) (s_nil))))) (s_cons (s_resetF (s_callF (o_fit_pair.at_ hr rfl) tk rfl T.g_fit_pair (s_cons (s_var 2 (pv 2)) (s_nil)))) (s_cons (s_resetF (s_callF (o_fit_side.at_ hr rfl) tk rfl T.g_fit_side (s_cons (s_var 3 (pv 3)) (s_nil)))) (s_nil)))) (by rfl)) (ss_one (s_ret (s_callF (o_share_of.at_ hr rfl) tk rfl T.g_share_of (s_cons (s_var 0 (pv 0)) (s_cons (s_var 1 (pv 1)) (s_cons (s_var 2 (pv 2)) (s_cons (s_var 3 (pv 3)) (s_nil)))))))))
theorem ok_share (T : Tp K w sA sN mg) (o_fit_web : FnP P w K mg base (Zk K w sA sN) 9 26 1 F_fit_web) (o_fit_side : FnP P w K mg base (Zk K w sA sN) 3 27 1 F_fit_side) (o_fit_pair : FnP P w K mg base (Zk K w sA sN) 9 25 1 F_fit_pair) (o_fit_tree : FnP P w K mg base (Zk K w sA sN) 9 28 2 F_fit_tree) (o_share_of : FnP P w K mg base (Zk K w sA sN) 6 34 4 F_share_of) : FnP P w K mg base (Zk K w sA sN) 10 36 4 F_share := by
  obtain ⟨fd, F⟩ := T.d_share
  exact ⟨fd, ["web", "tree", "tie", "side"], fo_share T o_fit_web o_fit_side o_fit_pair o_fit_tree o_share_of F, F.kp, F.bindsN fun _ _ _ _ _ _ us hl => match us, hl with | [_, _, _, _], _ => rfl⟩
theorem sc_tree_shares : FnScope ["web", "tree", "side"] ["web", "tree", "side"] (defScope (top 49)) := ⟨rfl, rfl, rfl, by decide +kernel, rfl, by decide +kernel, by decide +kernel⟩
theorem fo_tree_shares (T : Tp K w sA sN mg) (o_fit_web : FnP P w K mg base (Zk K w sA sN) 9 26 1 F_fit_web) (o_fit_side : FnP P w K mg base (Zk K w sA sN) 3 27 1 F_fit_side) (o_fit_tree : FnP P w K mg base (Zk K w sA sN) 9 28 2 F_fit_tree) (o_pairs_of : FnP P w K mg base (Zk K w sA sN) 5 35 3 F_pairs_of) {fd : FuncData} (F : FunD K "tree_shares" "tree_shares" (defArgs (top 49)) (defBody (top 49)) (defScope (top 49)) [] [] ((Zk K w sA sN).φ 37) fd) : FnOk P w K mg base (L2.CX P w) 10 ((Zk K w sA sN).φ 37) fd ["web", "tree", "side"] (spM (Zk K w sA sN) 3 F_tree_shares) :=
  def_ofD (k := 9) (b := B_tree_shares) (n := 3) rfl F sc_tree_shares rfl fun cdv A outer s H E hr tk => ss_cons (s_set (i := 0) sc_tree_shares.nd rfl (by first | exact .inl rfl | exact .inr rfl) (s_resetF (s_callF (o_fit_web.at_ hr rfl) tk rfl T.g_fit_web (s_cons (s_var 0 (pv 0)) (s_nil))))) (ss_cons (s_par2 (i := 1) (j := 2) rfl sc_tree_shares.nd rfl rfl (by decide) rfl rfl (s_cons (s_resetF (s_callF (o_fit_tree.at_ hr rfl) tk rfl T.g_fit_tree (s_cons (s_var 0 (pv 0)) (s_cons (s_var 1 (pv 1)) (s_nil))))) (s_cons (s_resetF (s_callF (o_fit_side.at_ hr rfl) tk rfl T.g_fit_side (s_cons (s_var 2 (pv 2)) (s_nil)))) (s_nil))) (by rfl)) (ss_one (s_ret (s_callF (o_pairs_of.at_ hr rfl) tk rfl T.g_pairs_of (s_cons (s_var 0 (pv 0)) (s_cons (s_var 1 (pv 1)) (s_cons (s_var 2 (pv 2)) (s_nil))))))))
theorem ok_tree_shares (T : Tp K w sA sN mg) (o_fit_web : FnP P w K mg base (Zk K w sA sN) 9 26 1 F_fit_web) (o_fit_side : FnP P w K mg base (Zk K w sA sN) 3 27 1 F_fit_side) (o_fit_tree : FnP P w K mg base (Zk K w sA sN) 9 28 2 F_fit_tree) (o_pairs_of : FnP P w K mg base (Zk K w sA sN) 5 35 3 F_pairs_of) : FnP P w K mg base (Zk K w sA sN) 10 37 3 F_tree_shares := by
  obtain ⟨fd, F⟩ := T.d_tree_shares
  exact ⟨fd, ["web", "tree", "side"], fo_tree_shares T o_fit_web o_fit_side o_fit_tree o_pairs_of F, F.kp, F.bindsN fun _ _ _ _ _ _ us hl => match us, hl with | [_, _, _], _ => rfl⟩
theorem sc_shares_by : FnScope ["web", "tree", "order", "side"] ["web", "tree", "order", "side"] (defScope (top 50)) := ⟨rfl, rfl, rfl, by decide +kernel, rfl, by decide +kernel, by decide +kernel⟩
theorem fo_shares_by (T : Tp K w sA sN mg) (o_fit_web : FnP P w K mg base (Zk K w sA sN) 9 26 1 F_fit_web) (o_fit_side : FnP P w K mg base (Zk K w sA sN) 3 27 1 F_fit_side) (o_fit_order : FnP P w K mg base (Zk K w sA sN) 9 29 2 F_fit_order) (o_fit_tree : FnP P w K mg base (Zk K w sA sN) 9 28 2 F_fit_tree) (o_shares_along : FnP P w K mg base (Zk K w sA sN) 4 16 4 F_shares_along) {fd : FuncData} (F : FunD K "shares_by" "shares_by" (defArgs (top 50)) (defBody (top 50)) (defScope (top 50)) [] [] ((Zk K w sA sN).φ 38) fd) : FnOk P w K mg base (L2.CX P w) 10 ((Zk K w sA sN).φ 38) fd ["web", "tree", "order", "side"] (spM (Zk K w sA sN) 4 F_shares_by) :=
  def_ofD (k := 9) (b := B_shares_by) (n := 4) rfl F sc_shares_by rfl fun cdv A outer s H E hr tk => ss_cons (s_set (i := 0) sc_shares_by.nd rfl (by first | exact .inl rfl | exact .inr rfl) (s_resetF (s_callF (o_fit_web.at_ hr rfl) tk rfl T.g_fit_web (s_cons (s_var 0 (pv 0)) (s_nil))))) (ss_cons (s_par3 (i := 1) (j := 2) (l := 3) rfl sc_shares_by.nd rfl rfl rfl (by decide) (by decide) (by decide) rfl rfl rfl (s_cons (s_resetF (s_callF (o_fit_tree.at_ hr rfl) tk rfl T.g_fit_tree (s_cons (s_var 0 (pv 0)) (s_cons (s_var 1 (pv 1)) (s_nil))))) (s_cons (s_resetF (s_callF (o_fit_order.at_ hr rfl) tk rfl T.g_fit_order (s_cons (s_var 0 (pv 0)) (s_cons (s_var 2 (pv 2)) (s_nil))))) (s_cons (s_resetF (s_callF (o_fit_side.at_ hr rfl) tk rfl T.g_fit_side (s_cons (s_var 3 (pv 3)) (s_nil)))) (s_nil)))) (by rfl)) (ss_one (s_ret (s_callF (o_shares_along.at_ hr rfl) tk rfl T.g_shares_along (s_cons (s_var 0 (pv 0)) (s_cons (s_var 1 (pv 1)) (s_cons (s_var 2 (pv 2)) (s_cons (s_var 3 (pv 3)) (s_nil)))))))))
theorem ok_shares_by (T : Tp K w sA sN mg) (o_fit_web : FnP P w K mg base (Zk K w sA sN) 9 26 1 F_fit_web) (o_fit_side : FnP P w K mg base (Zk K w sA sN) 3 27 1 F_fit_side) (o_fit_order : FnP P w K mg base (Zk K w sA sN) 9 29 2 F_fit_order) (o_fit_tree : FnP P w K mg base (Zk K w sA sN) 9 28 2 F_fit_tree) (o_shares_along : FnP P w K mg base (Zk K w sA sN) 4 16 4 F_shares_along) : FnP P w K mg base (Zk K w sA sN) 10 38 4 F_shares_by := by
  obtain ⟨fd, F⟩ := T.d_shares_by
  exact ⟨fd, ["web", "tree", "order", "side"], fo_shares_by T o_fit_web o_fit_side o_fit_order o_fit_tree o_shares_along F, F.kp, F.bindsN fun _ _ _ _ _ _ us hl => match us, hl with | [_, _, _, _], _ => rfl⟩
theorem sc_shares_round : FnScope ["web", "tree", "side", "place", "own"] ["web", "tree", "side", "place"] (defScope (top 51)) := ⟨rfl, rfl, rfl, by decide +kernel, rfl, by decide +kernel, by decide +kernel⟩
theorem fo_shares_round (T : Tp K w sA sN mg) (o_fit_web : FnP P w K mg base (Zk K w sA sN) 9 26 1 F_fit_web) (o_fit_pair : FnP P w K mg base (Zk K w sA sN) 9 25 1 F_fit_pair) (o_fit_side : FnP P w K mg base (Zk K w sA sN) 3 27 1 F_fit_side) (o_fit_tree : FnP P w K mg base (Zk K w sA sN) 9 28 2 F_fit_tree) (o_need_place : FnP P w K mg base (Zk K w sA sN) 5 32 2 F_need_place) (o_pairs_of : FnP P w K mg base (Zk K w sA sN) 5 35 3 F_pairs_of) {fd : FuncData} (F : FunD K "shares_round" "shares_round" (defArgs (top 51)) (defBody (top 51)) (defScope (top 51)) [] [] ((Zk K w sA sN).φ 39) fd) : FnOk P w K mg base (L2.CX P w) 10 ((Zk K w sA sN).φ 39) fd ["web", "tree", "side", "place"] (spM (Zk K w sA sN) 4 F_shares_round) :=
  def_ofD (k := 9) (b := B_shares_round) (n := 5) rfl F sc_shares_round rfl fun cdv A outer s H E hr tk => ss_cons (s_set (i := 0) sc_shares_round.nd rfl (by first | exact .inl rfl | exact .inr rfl) (s_resetF (s_callF (o_fit_web.at_ hr rfl) tk rfl T.g_fit_web (s_cons (s_var 0 (pv 0)) (s_nil))))) (ss_cons (s_asg (s_tup (s_cons (s_resetF (s_callF (o_fit_tree.at_ hr rfl) tk rfl T.g_fit_tree (s_cons (s_var 0 (pv 0)) (s_cons (s_var 1 (pv 1)) (s_nil))))) (s_cons (s_resetF (s_callF (o_fit_side.at_ hr rfl) tk rfl T.g_fit_side (s_cons (s_var 2 (pv 2)) (s_nil)))) (s_cons (s_resetF (s_callF (o_fit_pair.at_ hr rfl) tk rfl T.g_fit_pair (s_cons (s_var 3 (pv 3)) (s_nil)))) (s_nil))))) (s_gtup rfl (s_gcons (s_gname (pg_name (i := 1) sc_shares_round.nd rfl (by first | exact .inl rfl | exact .inr rfl))) (s_gcons (s_gname (pg_name (i := 2) sc_shares_round.nd rfl (by first | exact .inl rfl | exact .inr rfl))) (s_gcons (s_gname (pg_name (i := 3) sc_shares_round.nd rfl (by first | exact .inl rfl | exact .inr rfl))) (s_gnil)))))) (ss_cons (s_expr (s_callF (o_need_place.at_ hr rfl) tk rfl T.g_need_place (s_cons (s_var 0 (pv 0)) (s_cons (s_var 3 (pv 3)) (s_nil))))) (ss_one (s_ret (s_cbT (cr_sumM rfl) ct_sum rfl T.b_sum bt_sum (s_lc (own := [("own", 4)]) rfl sc_shares_round.nd (s_iS rfl (s_callF (o_pairs_of.at_ hr rfl) tk rfl T.g_pairs_of (s_cons (s_var 0 (pv 0)) (s_cons (s_var 1 (pv 1)) (s_cons (s_var 2 (pv 2)) (s_nil)))))) (blkOk_by (N := ["web", "tree", "side", "place", "own"]) (sc := defScope (top 51)) (own := [("own", 4)]) (by decide +kernel)) (fun _ _ _ _ _ => s_gname (pg_name (i := 4) sc_shares_round.nd rfl (by first | exact .inl rfl | exact .inr rfl))) (fun _ _ _ _ _ => sts_one (s_tcmp (op_eqM (hu64 hr)) s2_eq (s_ixM rfl (hu1 hr) (s_ixM rfl (hu1 hr) (s_var 4 (pv 4)) (s_int)) (s_ixM rfl (hu1 hr) (s_var 3 (pv 3)) (s_int))) (s_ixM rfl (hu1 hr) (s_var 3 (pv 3)) (s_int)) (nomark _))) (fun _ _ _ _ _ => s_ixM rfl (hu1 hr) (s_var 4 (pv 4)) (s_int))))))))
theorem ok_shares_round (T : Tp K w sA sN mg) (o_fit_web : FnP P w K mg base (Zk K w sA sN) 9 26 1 F_fit_web) (o_fit_pair : FnP P w K mg base (Zk K w sA sN) 9 25 1 F_fit_pair) (o_fit_side : FnP P w K mg base (Zk K w sA sN) 3 27 1 F_fit_side) (o_fit_tree : FnP P w K mg base (Zk K w sA sN) 9 28 2 F_fit_tree) (o_need_place : FnP P w K mg base (Zk K w sA sN) 5 32 2 F_need_place) (o_pairs_of : FnP P w K mg base (Zk K w sA sN) 5 35 3 F_pairs_of) : FnP P w K mg base (Zk K w sA sN) 10 39 4 F_shares_round := by
  obtain ⟨fd, F⟩ := T.d_shares_round
  exact ⟨fd, ["web", "tree", "side", "place"], fo_shares_round T o_fit_web o_fit_pair o_fit_side o_fit_tree o_need_place o_pairs_of F, F.kp, F.bindsN fun _ _ _ _ _ _ us hl => match us, hl with | [_, _, _, _], _ => rfl⟩
theorem sc_carried : FnScope ["web", "tree", "tie", "side", "own", "common"] ["web", "tree", "tie", "side"] (defScope (top 52)) := ⟨rfl, rfl, rfl, by decide +kernel, rfl, by decide +kernel, by decide +kernel⟩
theorem fo_carried (T : Tp K w sA sN mg) (o_fit_web : FnP P w K mg base (Zk K w sA sN) 9 26 1 F_fit_web) (o_fit_side : FnP P w K mg base (Zk K w sA sN) 3 27 1 F_fit_side) (o_fit_pair : FnP P w K mg base (Zk K w sA sN) 9 25 1 F_fit_pair) (o_fit_tree : FnP P w K mg base (Zk K w sA sN) 9 28 2 F_fit_tree) (o_share_of : FnP P w K mg base (Zk K w sA sN) 6 34 4 F_share_of) {fd : FuncData} (F : FunD K "carried" "carried" (defArgs (top 52)) (defBody (top 52)) (defScope (top 52)) [] [] ((Zk K w sA sN).φ 40) fd) : FnOk P w K mg base (L2.CX P w) 10 ((Zk K w sA sN).φ 40) fd ["web", "tree", "tie", "side"] (spM (Zk K w sA sN) 4 F_carried) :=
  def_ofD (k := 9) (b := B_carried) (n := 6) rfl F sc_carried rfl fun cdv A outer s H E hr tk => ss_cons (s_set (i := 0) sc_carried.nd rfl (by first | exact .inl rfl | exact .inr rfl) (s_resetF (s_callF (o_fit_web.at_ hr rfl) tk rfl T.g_fit_web (s_cons (s_var 0 (pv 0)) (s_nil))))) (ss_cons (s_par3 (i := 1) (j := 2) (l := 3) rfl sc_carried.nd rfl rfl rfl (by decide) (by decide) (by decide) rfl rfl rfl (s_cons (s_resetF (s_callF (o_fit_tree.at_ hr rfl) tk rfl T.g_fit_tree (s_cons (s_var 0 (pv 0)) (s_cons (s_var 1 (pv 1)) (s_nil))))) (s_cons (s_resetF (s_callF (o_fit_pair.at_ hr rfl) tk rfl T.g_fit_pair (s_cons (s_var 2 (pv 2)) (s_nil)))) (s_cons (s_resetF (s_callF (o_fit_side.at_ hr rfl) tk rfl T.g_fit_side (s_cons (s_var 3 (pv 3)) (s_nil)))) (s_nil)))) (by rfl)) (ss_cons (s_set (i := 4) sc_carried.nd rfl (by first | exact .inl rfl | exact .inr rfl) (s_callF (o_share_of.at_ hr rfl) tk rfl T.g_share_of (s_cons (s_var 0 (pv 0)) (s_cons (s_var 1 (pv 1)) (s_cons (s_var 2 (pv 2)) (s_cons (s_var 3 (pv 3)) (s_nil))))))) (ss_cons (s_set (i := 5) sc_carried.nd rfl (by first | exact .inl rfl | exact .inr rfl) (s_cbf cr_gcd cs_gcd rfl T.i_gcd (s_cons (s_var 4 (pv 4)) (s_cons (s_ixM rfl (hu1 hr) (s_var 0 (pv 0)) (s_var 3 (pv 3))) (s_nil))))) (ss_one (s_ret (s_tup (s_cons (s_op op_fdivN s2_div (s_var 4 (pv 4)) (s_var 5 (pv 5))) (s_cons (s_op op_fdivN s2_div (s_ixM rfl (hu1 hr) (s_var 0 (pv 0)) (s_var 3 (pv 3))) (s_var 5 (pv 5))) (s_nil)))))))))
theorem ok_carried (T : Tp K w sA sN mg) (o_fit_web : FnP P w K mg base (Zk K w sA sN) 9 26 1 F_fit_web) (o_fit_side : FnP P w K mg base (Zk K w sA sN) 3 27 1 F_fit_side) (o_fit_pair : FnP P w K mg base (Zk K w sA sN) 9 25 1 F_fit_pair) (o_fit_tree : FnP P w K mg base (Zk K w sA sN) 9 28 2 F_fit_tree) (o_share_of : FnP P w K mg base (Zk K w sA sN) 6 34 4 F_share_of) : FnP P w K mg base (Zk K w sA sN) 10 40 4 F_carried := by
  obtain ⟨fd, F⟩ := T.d_carried
  exact ⟨fd, ["web", "tree", "tie", "side"], fo_carried T o_fit_web o_fit_side o_fit_pair o_fit_tree o_share_of F, F.kp, F.bindsN fun _ _ _ _ _ _ us hl => match us, hl with | [_, _, _, _], _ => rfl⟩
theorem sc_is_shares : FnScope ["web", "side", "thing"] ["web", "side", "thing"] (defScope (top 53)) := ⟨rfl, rfl, rfl, by decide +kernel, rfl, by decide +kernel, by decide +kernel⟩
theorem fo_is_shares (T : Tp K w sA sN mg) (o_fit_web : FnP P w K mg base (Zk K w sA sN) 9 26 1 F_fit_web) (o_fit_side : FnP P w K mg base (Zk K w sA sN) 3 27 1 F_fit_side) (o_good_shares : FnP P w K mg base (Zk K w sA sN) 11 24 3 F_good_shares) {fd : FuncData} (F : FunD K "is_shares" "is_shares" (defArgs (top 53)) (defBody (top 53)) (defScope (top 53)) [] [] ((Zk K w sA sN).φ 41) fd) : FnOk P w K mg base (L2.CX P w) 12 ((Zk K w sA sN).φ 41) fd ["web", "side", "thing"] (spM (Zk K w sA sN) 3 F_is_shares) :=
  def_ofD (k := 11) (b := B_is_shares) (n := 3) rfl F sc_is_shares rfl fun cdv A outer s H E hr tk => ss_cons (s_set (i := 0) sc_is_shares.nd rfl (by first | exact .inl rfl | exact .inr rfl) (s_resetF (s_callF (o_fit_web.at_ hr rfl) tk rfl T.g_fit_web (s_cons (s_var 0 (pv 0)) (s_nil))))) (ss_one (s_ret (s_callF (o_good_shares.at_ hr rfl) tk rfl T.g_good_shares (s_cons (s_var 0 (pv 0)) (s_cons (s_resetF (s_callF (o_fit_side.at_ hr rfl) tk rfl T.g_fit_side (s_cons (s_var 1 (pv 1)) (s_nil)))) (s_cons (s_var 2 (pv 2)) (s_nil)))))))
theorem ok_is_shares (T : Tp K w sA sN mg) (o_fit_web : FnP P w K mg base (Zk K w sA sN) 9 26 1 F_fit_web) (o_fit_side : FnP P w K mg base (Zk K w sA sN) 3 27 1 F_fit_side) (o_good_shares : FnP P w K mg base (Zk K w sA sN) 11 24 3 F_good_shares) : FnP P w K mg base (Zk K w sA sN) 12 41 3 F_is_shares := by
  obtain ⟨fd, F⟩ := T.d_is_shares
  exact ⟨fd, ["web", "side", "thing"], fo_is_shares T o_fit_web o_fit_side o_good_shares F, F.kp, F.bindsN fun _ _ _ _ _ _ us hl => match us, hl with | [_, _, _], _ => rfl⟩
theorem sc_row_by_shares : FnScope ["web", "side", "shares", "own"] ["web", "side", "shares"] (defScope (top 54)) := ⟨rfl, rfl, rfl, by decide +kernel, rfl, by decide +kernel, by decide +kernel⟩
theorem fo_row_by_shares (T : Tp K w sA sN mg) (o_fit_side : FnP P w K mg base (Zk K w sA sN) 3 27 1 F_fit_side) (o_fit_web : FnP P w K mg base (Zk K w sA sN) 9 26 1 F_fit_web) (o_fit_shares : FnP P w K mg base (Zk K w sA sN) 12 30 3 F_fit_shares) (o_row_in : FnP P w K mg base (Zk K w sA sN) 1 11 3 F_row_in) {fd : FuncData} (F : FunD K "row_by_shares" "row_by_shares" (defArgs (top 54)) (defBody (top 54)) (defScope (top 54)) [] [] ((Zk K w sA sN).φ 42) fd) : FnOk P w K mg base (L2.CX P w) 13 ((Zk K w sA sN).φ 42) fd ["web", "side", "shares"] (spM (Zk K w sA sN) 3 F_row_by_shares) :=
  def_ofD (k := 12) (b := B_row_by_shares) (n := 4) rfl F sc_row_by_shares rfl fun cdv A outer s H E hr tk => ss_cons (s_par2 (i := 0) (j := 1) rfl sc_row_by_shares.nd rfl rfl (by decide) rfl rfl (s_cons (s_resetF (s_callF (o_fit_web.at_ hr rfl) tk rfl T.g_fit_web (s_cons (s_var 0 (pv 0)) (s_nil)))) (s_cons (s_resetF (s_callF (o_fit_side.at_ hr rfl) tk rfl T.g_fit_side (s_cons (s_var 1 (pv 1)) (s_nil)))) (s_nil))) (by rfl)) (ss_one (s_ret (s_callF (o_row_in.at_ hr rfl) tk rfl T.g_row_in (s_cons (s_var 0 (pv 0)) (s_cons (s_alloc (s_lc (own := [("own", 3)]) rfl sc_row_by_shares.nd (s_iS rfl (s_resetF (s_callF (o_fit_shares.at_ hr rfl) tk rfl T.g_fit_shares (s_cons (s_var 0 (pv 0)) (s_cons (s_var 1 (pv 1)) (s_cons (s_var 2 (pv 2)) (s_nil))))))) (blkOk_by (N := ["web", "side", "shares", "own"]) (sc := defScope (top 54)) (own := [("own", 3)]) (by decide +kernel)) (fun _ _ _ _ _ => s_gname (pg_name (i := 3) sc_row_by_shares.nd rfl (by first | exact .inl rfl | exact .inr rfl))) (fun _ _ _ _ _ => sts_nil) (fun _ _ _ _ _ => s_ixM rfl (hu1 hr) (s_var 3 (pv 3)) (s_int)))) (s_cons (s_var 1 (pv 1)) (s_nil)))))))
theorem ok_row_by_shares (T : Tp K w sA sN mg) (o_fit_side : FnP P w K mg base (Zk K w sA sN) 3 27 1 F_fit_side) (o_fit_web : FnP P w K mg base (Zk K w sA sN) 9 26 1 F_fit_web) (o_fit_shares : FnP P w K mg base (Zk K w sA sN) 12 30 3 F_fit_shares) (o_row_in : FnP P w K mg base (Zk K w sA sN) 1 11 3 F_row_in) : FnP P w K mg base (Zk K w sA sN) 13 42 3 F_row_by_shares := by
  obtain ⟨fd, F⟩ := T.d_row_by_shares
  exact ⟨fd, ["web", "side", "shares"], fo_row_by_shares T o_fit_side o_fit_web o_fit_shares o_row_in F, F.kp, F.bindsN fun _ _ _ _ _ _ us hl => match us, hl with | [_, _, _], _ => rfl⟩
theorem sc_other_shares : FnScope ["web", "side", "shares", "tree", "own"] ["web", "side", "shares"] (defScope (top 55)) := ⟨rfl, rfl, rfl, by decide +kernel, rfl, by decide +kernel, by decide +kernel⟩
theorem fo_other_shares (T : Tp K w sA sN mg) (o_fit_side : FnP P w K mg base (Zk K w sA sN) 3 27 1 F_fit_side) (o_fit_web : FnP P w K mg base (Zk K w sA sN) 9 26 1 F_fit_web) (o_fit_shares : FnP P w K mg base (Zk K w sA sN) 12 30 3 F_fit_shares) (o_pairs_of : FnP P w K mg base (Zk K w sA sN) 5 35 3 F_pairs_of) {fd : FuncData} (F : FunD K "other_shares" "other_shares" (defArgs (top 55)) (defBody (top 55)) (defScope (top 55)) [] [] ((Zk K w sA sN).φ 43) fd) : FnOk P w K mg base (L2.CX P w) 13 ((Zk K w sA sN).φ 43) fd ["web", "side", "shares"] (spM (Zk K w sA sN) 3 F_other_shares) :=
  def_ofD (k := 12) (b := B_other_shares) (n := 5) rfl F sc_other_shares rfl fun cdv A outer s H E hr tk => ss_cons (s_par2 (i := 0) (j := 1) rfl sc_other_shares.nd rfl rfl (by decide) rfl rfl (s_cons (s_resetF (s_callF (o_fit_web.at_ hr rfl) tk rfl T.g_fit_web (s_cons (s_var 0 (pv 0)) (s_nil)))) (s_cons (s_resetF (s_callF (o_fit_side.at_ hr rfl) tk rfl T.g_fit_side (s_cons (s_var 1 (pv 1)) (s_nil)))) (s_nil))) (by rfl)) (ss_cons (s_set (i := 3) sc_other_shares.nd rfl (by first | exact .inl rfl | exact .inr rfl) (s_ctyT call_tuple_of ct_tuple rfl T.b_tuple bt_tuple (s_lc (own := [("own", 4)]) rfl sc_other_shares.nd (s_iS rfl (s_resetF (s_callF (o_fit_shares.at_ hr rfl) tk rfl T.g_fit_shares (s_cons (s_var 0 (pv 0)) (s_cons (s_var 1 (pv 1)) (s_cons (s_var 2 (pv 2)) (s_nil))))))) (blkOk_by (N := ["web", "side", "shares", "tree", "own"]) (sc := defScope (top 55)) (own := [("own", 4)]) (by decide +kernel)) (fun _ _ _ _ _ => s_gname (pg_name (i := 4) sc_other_shares.nd rfl (by first | exact .inl rfl | exact .inr rfl))) (fun _ _ _ _ _ => sts_nil) (fun _ _ _ _ _ => s_ixM rfl (hu1 hr) (s_var 4 (pv 4)) (s_int))))) (ss_one (s_ret (s_callF (o_pairs_of.at_ hr rfl) tk rfl T.g_pairs_of (s_cons (s_var 0 (pv 0)) (s_cons (s_var 3 (pv 3)) (s_cons (s_op op_sub s2_sub (s_int) (s_var 1 (pv 1))) (s_nil))))))))
theorem ok_other_shares (T : Tp K w sA sN mg) (o_fit_side : FnP P w K mg base (Zk K w sA sN) 3 27 1 F_fit_side) (o_fit_web : FnP P w K mg base (Zk K w sA sN) 9 26 1 F_fit_web) (o_fit_shares : FnP P w K mg base (Zk K w sA sN) 12 30 3 F_fit_shares) (o_pairs_of : FnP P w K mg base (Zk K w sA sN) 5 35 3 F_pairs_of) : FnP P w K mg base (Zk K w sA sN) 13 43 3 F_other_shares := by
  obtain ⟨fd, F⟩ := T.d_other_shares
  exact ⟨fd, ["web", "side", "shares"], fo_other_shares T o_fit_side o_fit_web o_fit_shares o_pairs_of F, F.kp, F.bindsN fun _ _ _ _ _ _ us hl => match us, hl with | [_, _, _], _ => rfl⟩
theorem sc_prices_of : FnScope ["web", "order", "found", "worth", "tie"] ["web", "order"] (defScope (top 57)) := ⟨rfl, rfl, rfl, by decide +kernel, rfl, by decide +kernel, by decide +kernel⟩
theorem fo_prices_of (T : Tp K w sA sN mg) {fd : FuncData} (F : FunD K "prices_of" "prices_of" (defArgs (top 57)) (defBody (top 57)) (defScope (top 57)) [] [] ((Zk K w sA sN).φ 44) fd) : FnOk P w K mg base (L2.CX P w) 1 ((Zk K w sA sN).φ 44) fd ["web", "order"] (spM (Zk K w sA sN) 2 F_prices_of) :=
  def_ofD (k := 0) (b := B_prices_of) (n := 5) rfl F sc_prices_of rfl fun cdv A outer s H E hr tk => ss_cons (s_set (i := 2) sc_prices_of.nd rfl (by first | exact .inl rfl | exact .inr rfl) (s_newT)) (ss_cons (s_set (i := 3) sc_prices_of.nd rfl (by first | exact .inl rfl | exact .inr rfl) (s_int)) (ss_cons (s_for passes_cx rfl (s_iRev rfl rfl T.b_reversed (s_var 1 (pv 1))) (s_gname (pg_name (i := 4) sc_prices_of.nd rfl (by first | exact .inl rfl | exact .inr rfl))) (ss_cons (s_setIx (hu1 hr) (s_var 3 (pv 3)) (s_var 2 (pv 2)) (s_var 4 (pv 4))) (ss_one (s_aug s2_mulI (ps_aug (i := 3) sc_prices_of.nd rfl (by first | exact .inl rfl | exact .inr rfl) (s_op op_addM s2_add (s_op op_addM s2_add (s_ixM rfl (hu1 hr) (s_var 0 (pv 0)) (s_int)) (s_ixM rfl (hu1 hr) (s_var 0 (pv 0)) (s_int))) (s_int)) iop_mul))))) (ss_one (s_ret (s_var 2 (pv 2))))))
theorem ok_prices_of (T : Tp K w sA sN mg) : FnP P w K mg base (Zk K w sA sN) 1 44 2 F_prices_of := by
  obtain ⟨fd, F⟩ := T.d_prices_of
  exact ⟨fd, ["web", "order"], fo_prices_of T F, F.kp, F.bindsN fun _ _ _ _ _ _ us hl => match us, hl with | [_, _], _ => rfl⟩
theorem sc_potentials_along : FnScope ["web", "toward", "by_tie", "told", "place", "step", "hands", "hand", "task"] ["web", "toward", "by_tie"] (defScope (top 58)) := ⟨rfl, rfl, rfl, by decide +kernel, rfl, by decide +kernel, by decide +kernel⟩
theorem fo_potentials_along (T : Tp K w sA sN mg) {fd : FuncData} (F : FunD K "potentials_along" "potentials_along" (defArgs (top 58)) (defBody (top 58)) (defScope (top 58)) [] [] ((Zk K w sA sN).φ 45) fd) : FnOk P w K mg base (L2.CX P w) 1 ((Zk K w sA sN).φ 45) fd ["web", "toward", "by_tie"] (spM (Zk K w sA sN) 3 F_potentials_along) :=
  def_ofD (k := 0) (b := B_potentials_along) (n := 9) rfl F sc_potentials_along rfl fun cdv A outer s H E hr tk => ss_cons (s_set (i := 3) sc_potentials_along.nd rfl (by first | exact .inl rfl | exact .inr rfl) (s_newT)) (ss_cons (s_lockS (s_for passes_cx rfl (s_iK (s_var 1 (pv 1))) (s_gname (pg_name (i := 4) sc_potentials_along.nd rfl (by first | exact .inl rfl | exact .inr rfl))) (ss_cons (s_set (i := 5) sc_potentials_along.nd rfl (by first | exact .inl rfl | exact .inr rfl) (s_ixM rfl (hu1 hr) (s_var 1 (pv 1)) (s_var 4 (pv 4)))) (ss_one (s_setIx (hu1 hr) (s_if (s_tisN (s_var 5 (pv 5))) (s_int) (s_op op_sub s2_sub (s_ixM rfl (hu1 hr) (s_var 2 (pv 2)) (s_ixM rfl (hu1 hr) (s_var 5 (pv 5)) (s_int))) (s_ixM rfl (hu1 hr) (s_var 3 (pv 3)) (s_ixM rfl (hu1 hr) (s_var 5 (pv 5)) (s_int))))) (s_var 3 (pv 3)) (s_var 4 (pv 4))))))) (ss_cons (s_set (i := 6) sc_potentials_along.nd rfl (by first | exact .inl rfl | exact .inr rfl) (s_ctyT call_tuple_of ct_tuple rfl T.b_tuple bt_tuple (s_lc (own := [("hand", 7)]) rfl sc_potentials_along.nd (s_iR1 rfl T.b_range (s_cons (s_ixM rfl (hu1 hr) (s_var 0 (pv 0)) (s_int)) (s_nil))) (blkOk_by (N := ["web", "toward", "by_tie", "told", "place", "step", "hands", "hand", "task"]) (sc := defScope (top 58)) (own := [("hand", 7)]) (by decide +kernel)) (fun _ _ _ _ _ => s_gname (pg_name (i := 7) sc_potentials_along.nd rfl (by first | exact .inl rfl | exact .inr rfl))) (fun _ _ _ _ _ => sts_nil) (fun _ _ _ _ _ => s_ixM rfl (hu1 hr) (s_var 3 (pv 3)) (s_tup (s_cons (s_int) (s_cons (s_var 7 (pv 7)) (s_nil)))))))) (ss_one (s_ret (s_tup (s_cons (s_var 6 (pv 6)) (s_cons (s_ctyT call_tuple_of ct_tuple rfl T.b_tuple bt_tuple (s_lc (own := [("task", 8)]) rfl sc_potentials_along.nd (s_iR1 rfl T.b_range (s_cons (s_ixM rfl (hu1 hr) (s_var 0 (pv 0)) (s_int)) (s_nil))) (blkOk_by (N := ["web", "toward", "by_tie", "told", "place", "step", "hands", "hand", "task"]) (sc := defScope (top 58)) (own := [("task", 8)]) (by decide +kernel)) (fun _ _ _ _ _ => s_gname (pg_name (i := 8) sc_potentials_along.nd rfl (by first | exact .inl rfl | exact .inr rfl))) (fun _ _ _ _ _ => sts_nil) (fun _ _ _ _ _ => s_ixM rfl (hu1 hr) (s_var 3 (pv 3)) (s_tup (s_cons (s_int) (s_cons (s_var 8 (pv 8)) (s_nil))))))) (s_nil))))))))
theorem ok_potentials_along (T : Tp K w sA sN mg) : FnP P w K mg base (Zk K w sA sN) 1 45 3 F_potentials_along := by
  obtain ⟨fd, F⟩ := T.d_potentials_along
  exact ⟨fd, ["web", "toward", "by_tie"], fo_potentials_along T F, F.kp, F.bindsN fun _ _ _ _ _ _ us hl => match us, hl with | [_, _, _], _ => rfl⟩
theorem sc_potentials_of : FnScope ["web", "tree", "by_tie"] ["web", "tree", "by_tie"] (defScope (top 59)) := ⟨rfl, rfl, rfl, by decide +kernel, rfl, by decide +kernel, by decide +kernel⟩
theorem fo_potentials_of (T : Tp K w sA sN mg) (o_steps_toward : FnP P w K mg base (Zk K w sA sN) 2 13 2 F_steps_toward) (o_potentials_along : FnP P w K mg base (Zk K w sA sN) 1 45 3 F_potentials_along) {fd : FuncData} (F : FunD K "potentials_of" "potentials_of" (defArgs (top 59)) (defBody (top 59)) (defScope (top 59)) [] [] ((Zk K w sA sN).φ 46) fd) : FnOk P w K mg base (L2.CX P w) 3 ((Zk K w sA sN).φ 46) fd ["web", "tree", "by_tie"] (spM (Zk K w sA sN) 3 F_potentials_of) :=
  def_ofD (k := 2) (b := B_potentials_of) (n := 3) rfl F sc_potentials_of rfl fun cdv A outer s H E hr tk => ss_one (s_ret (s_callF (o_potentials_along.at_ hr rfl) tk rfl T.g_potentials_along (s_cons (s_var 0 (pv 0)) (s_cons (s_callF (o_steps_toward.at_ hr rfl) tk rfl T.g_steps_toward (s_cons (s_var 1 (pv 1)) (s_cons (s_tup (s_cons (s_int) (s_cons (s_int) (s_nil)))) (s_nil)))) (s_cons (s_var 2 (pv 2)) (s_nil))))))
theorem ok_potentials_of (T : Tp K w sA sN mg) (o_steps_toward : FnP P w K mg base (Zk K w sA sN) 2 13 2 F_steps_toward) (o_potentials_along : FnP P w K mg base (Zk K w sA sN) 1 45 3 F_potentials_along) : FnP P w K mg base (Zk K w sA sN) 3 46 3 F_potentials_of := by
  obtain ⟨fd, F⟩ := T.d_potentials_of
  exact ⟨fd, ["web", "tree", "by_tie"], fo_potentials_of T o_steps_toward o_potentials_along F, F.kp, F.bindsN fun _ _ _ _ _ _ us hl => match us, hl with | [_, _, _], _ => rfl⟩
theorem sc_gaps_along : FnScope ["web", "toward", "by_tie", "hands", "tasks", "tie"] ["web", "toward", "by_tie"] (defScope (top 60)) := ⟨rfl, rfl, rfl, by decide +kernel, rfl, by decide +kernel, by decide +kernel⟩
theorem fo_gaps_along (T : Tp K w sA sN mg) (o_potentials_along : FnP P w K mg base (Zk K w sA sN) 1 45 3 F_potentials_along) {fd : FuncData} (F : FunD K "gaps_along" "gaps_along" (defArgs (top 60)) (defBody (top 60)) (defScope (top 60)) [] [] ((Zk K w sA sN).φ 47) fd) : FnOk P w K mg base (L2.CX P w) 2 ((Zk K w sA sN).φ 47) fd ["web", "toward", "by_tie"] (spM (Zk K w sA sN) 3 F_gaps_along) :=
  def_ofD (k := 1) (b := B_gaps_along) (n := 6) rfl F sc_gaps_along rfl fun cdv A outer s H E hr tk => ss_cons (s_asg (s_callF (o_potentials_along.at_ hr rfl) tk rfl T.g_potentials_along (s_cons (s_var 0 (pv 0)) (s_cons (s_var 1 (pv 1)) (s_cons (s_var 2 (pv 2)) (s_nil))))) (s_gtup rfl (s_gcons (s_gname (pg_name (i := 3) sc_gaps_along.nd rfl (by first | exact .inl rfl | exact .inr rfl))) (s_gcons (s_gname (pg_name (i := 4) sc_gaps_along.nd rfl (by first | exact .inl rfl | exact .inr rfl))) (s_gnil))))) (ss_one (s_ret (s_dc1 (own := [("tie", 5)]) rfl sc_gaps_along.nd (hu1 hr) (s_iS rfl (s_ixM rfl (hu1 hr) (s_var 0 (pv 0)) (s_int))) (blkOk_by (N := ["web", "toward", "by_tie", "hands", "tasks", "tie"]) (sc := defScope (top 60)) (own := [("tie", 5)]) (by decide +kernel)) (fun _ _ _ _ _ => s_gname (pg_name (i := 5) sc_gaps_along.nd rfl (by first | exact .inl rfl | exact .inr rfl))) (fun _ _ _ _ _ => s_var 5 (pv 5)) (fun _ _ _ _ _ => s_op op_sub s2_sub (s_op op_sub s2_sub (s_ixM rfl (hu1 hr) (s_var 2 (pv 2)) (s_var 5 (pv 5))) (s_ixM rfl (hu1 hr) (s_var 3 (pv 3)) (s_ixM rfl (hu1 hr) (s_var 5 (pv 5)) (s_int)))) (s_ixM rfl (hu1 hr) (s_var 4 (pv 4)) (s_ixM rfl (hu1 hr) (s_var 5 (pv 5)) (s_int)))))))
theorem ok_gaps_along (T : Tp K w sA sN mg) (o_potentials_along : FnP P w K mg base (Zk K w sA sN) 1 45 3 F_potentials_along) : FnP P w K mg base (Zk K w sA sN) 2 47 3 F_gaps_along := by
  obtain ⟨fd, F⟩ := T.d_gaps_along
  exact ⟨fd, ["web", "toward", "by_tie"], fo_gaps_along T o_potentials_along F, F.kp, F.bindsN fun _ _ _ _ _ _ us hl => match us, hl with | [_, _, _], _ => rfl⟩
theorem sc_gaps_of : FnScope ["web", "tree", "by_tie"] ["web", "tree", "by_tie"] (defScope (top 61)) := ⟨rfl, rfl, rfl, by decide +kernel, rfl, by decide +kernel, by decide +kernel⟩
theorem fo_gaps_of (T : Tp K w sA sN mg) (o_steps_toward : FnP P w K mg base (Zk K w sA sN) 2 13 2 F_steps_toward) (o_gaps_along : FnP P w K mg base (Zk K w sA sN) 2 47 3 F_gaps_along) {fd : FuncData} (F : FunD K "gaps_of" "gaps_of" (defArgs (top 61)) (defBody (top 61)) (defScope (top 61)) [] [] ((Zk K w sA sN).φ 48) fd) : FnOk P w K mg base (L2.CX P w) 3 ((Zk K w sA sN).φ 48) fd ["web", "tree", "by_tie"] (spM (Zk K w sA sN) 3 F_gaps_of) :=
  def_ofD (k := 2) (b := B_gaps_of) (n := 3) rfl F sc_gaps_of rfl fun cdv A outer s H E hr tk => ss_one (s_ret (s_callF (o_gaps_along.at_ hr rfl) tk rfl T.g_gaps_along (s_cons (s_var 0 (pv 0)) (s_cons (s_callF (o_steps_toward.at_ hr rfl) tk rfl T.g_steps_toward (s_cons (s_var 1 (pv 1)) (s_cons (s_tup (s_cons (s_int) (s_cons (s_int) (s_nil)))) (s_nil)))) (s_cons (s_var 2 (pv 2)) (s_nil))))))
theorem ok_gaps_of (T : Tp K w sA sN mg) (o_steps_toward : FnP P w K mg base (Zk K w sA sN) 2 13 2 F_steps_toward) (o_gaps_along : FnP P w K mg base (Zk K w sA sN) 2 47 3 F_gaps_along) : FnP P w K mg base (Zk K w sA sN) 3 48 3 F_gaps_of := by
  obtain ⟨fd, F⟩ := T.d_gaps_of
  exact ⟨fd, ["web", "tree", "by_tie"], fo_gaps_of T o_steps_toward o_gaps_along F, F.kp, F.bindsN fun _ _ _ _ _ _ us hl => match us, hl with | [_, _, _], _ => rfl⟩
theorem sc_under_of : FnScope ["web", "tree", "by_tie", "gaps", "tie"] ["web", "tree", "by_tie"] (defScope (top 62)) := ⟨rfl, rfl, rfl, by decide +kernel, rfl, by decide +kernel, by decide +kernel⟩
theorem fo_under_of (T : Tp K w sA sN mg) (o_gaps_of : FnP P w K mg base (Zk K w sA sN) 3 48 3 F_gaps_of) {fd : FuncData} (F : FunD K "under_of" "under_of" (defArgs (top 62)) (defBody (top 62)) (defScope (top 62)) [] [] ((Zk K w sA sN).φ 49) fd) : FnOk P w K mg base (L2.CX P w) 4 ((Zk K w sA sN).φ 49) fd ["web", "tree", "by_tie"] (spM (Zk K w sA sN) 3 F_under_of) :=
  def_ofD (k := 3) (b := B_under_of) (n := 5) rfl F sc_under_of rfl fun cdv A outer s H E hr tk => ss_cons (s_set (i := 3) sc_under_of.nd rfl (by first | exact .inl rfl | exact .inr rfl) (s_callF (o_gaps_of.at_ hr rfl) tk rfl T.g_gaps_of (s_cons (s_var 0 (pv 0)) (s_cons (s_var 1 (pv 1)) (s_cons (s_var 2 (pv 2)) (s_nil)))))) (ss_one (s_ret (s_ctyT call_tuple_of ct_tuple rfl T.b_tuple bt_tuple (s_lc (own := [("tie", 4)]) rfl sc_under_of.nd (s_iS rfl (s_ixM rfl (hu1 hr) (s_var 0 (pv 0)) (s_int))) (blkOk_by (N := ["web", "tree", "by_tie", "gaps", "tie"]) (sc := defScope (top 62)) (own := [("tie", 4)]) (by decide +kernel)) (fun _ _ _ _ _ => s_gname (pg_name (i := 4) sc_under_of.nd rfl (by first | exact .inl rfl | exact .inr rfl))) (fun _ _ _ _ _ => sts_one (s_tcmp (op_ltM (hu0 hr)) s2_ltM (s_ixM rfl (hu1 hr) (s_var 3 (pv 3)) (s_var 4 (pv 4))) (s_int) (nomark _))) (fun _ _ _ _ _ => s_var 4 (pv 4))))))
theorem ok_under_of (T : Tp K w sA sN mg) (o_gaps_of : FnP P w K mg base (Zk K w sA sN) 3 48 3 F_gaps_of) : FnP P w K mg base (Zk K w sA sN) 4 49 3 F_under_of := by
  obtain ⟨fd, F⟩ := T.d_under_of
  exact ⟨fd, ["web", "tree", "by_tie"], fo_under_of T o_gaps_of F, F.kp, F.bindsN fun _ _ _ _ _ _ us hl => match us, hl with | [_, _, _], _ => rfl⟩
theorem sc_cost_of : FnScope ["web", "tree", "by_tie", "side", "shares", "tie"] ["web", "tree", "by_tie", "side"] (defScope (top 63)) := ⟨rfl, rfl, rfl, by decide +kernel, rfl, by decide +kernel, by decide +kernel⟩
theorem fo_cost_of (T : Tp K w sA sN mg) (o_shares_in : FnP P w K mg base (Zk K w sA sN) 3 15 3 F_shares_in) {fd : FuncData} (F : FunD K "cost_of" "cost_of" (defArgs (top 63)) (defBody (top 63)) (defScope (top 63)) [] [] ((Zk K w sA sN).φ 50) fd) : FnOk P w K mg base (L2.CX P w) 4 ((Zk K w sA sN).φ 50) fd ["web", "tree", "by_tie", "side"] (spM (Zk K w sA sN) 4 F_cost_of) :=
  def_ofD (k := 3) (b := B_cost_of) (n := 6) rfl F sc_cost_of rfl fun cdv A outer s H E hr tk => ss_cons (s_set (i := 4) sc_cost_of.nd rfl (by first | exact .inl rfl | exact .inr rfl) (s_callF (o_shares_in.at_ hr rfl) tk rfl T.g_shares_in (s_cons (s_var 0 (pv 0)) (s_cons (s_var 1 (pv 1)) (s_cons (s_var 3 (pv 3)) (s_nil)))))) (ss_one (s_ret (s_cbT (cr_sumM rfl) ct_sum rfl T.b_sum bt_sum (s_lc (own := [("tie", 5)]) rfl sc_cost_of.nd (s_iS rfl (s_var 1 (pv 1))) (blkOk_by (N := ["web", "tree", "by_tie", "side", "shares", "tie"]) (sc := defScope (top 63)) (own := [("tie", 5)]) (by decide +kernel)) (fun _ _ _ _ _ => s_gname (pg_name (i := 5) sc_cost_of.nd rfl (by first | exact .inl rfl | exact .inr rfl))) (fun _ _ _ _ _ => sts_nil) (fun _ _ _ _ _ => s_op op_mulMT s2_mulT (s_ixM rfl (hu1 hr) (s_var 4 (pv 4)) (s_var 5 (pv 5))) (s_ixM rfl (hu1 hr) (s_var 2 (pv 2)) (s_var 5 (pv 5))))))))
theorem ok_cost_of (T : Tp K w sA sN mg) (o_shares_in : FnP P w K mg base (Zk K w sA sN) 3 15 3 F_shares_in) : FnP P w K mg base (Zk K w sA sN) 4 50 4 F_cost_of := by
  obtain ⟨fd, F⟩ := T.d_cost_of
  exact ⟨fd, ["web", "tree", "by_tie", "side"], fo_cost_of T o_shares_in F, F.kp, F.bindsN fun _ _ _ _ _ _ us hl => match us, hl with | [_, _, _, _], _ => rfl⟩
theorem sc_price : FnScope ["web", "order", "tie"] ["web", "order", "tie"] (defScope (top 65)) := ⟨rfl, rfl, rfl, by decide +kernel, rfl, by decide +kernel, by decide +kernel⟩
theorem fo_price (T : Tp K w sA sN mg) (o_fit_web : FnP P w K mg base (Zk K w sA sN) 9 26 1 F_fit_web) (o_fit_pair : FnP P w K mg base (Zk K w sA sN) 9 25 1 F_fit_pair) (o_fit_order : FnP P w K mg base (Zk K w sA sN) 9 29 2 F_fit_order) (o_need_tie : FnP P w K mg base (Zk K w sA sN) 5 33 2 F_need_tie) (o_prices_of : FnP P w K mg base (Zk K w sA sN) 1 44 2 F_prices_of) {fd : FuncData} (F : FunD K "price" "price" (defArgs (top 65)) (defBody (top 65)) (defScope (top 65)) [] [] ((Zk K w sA sN).φ 51) fd) : FnOk P w K mg base (L2.CX P w) 10 ((Zk K w sA sN).φ 51) fd ["web", "order", "tie"] (spM (Zk K w sA sN) 3 F_price) :=
  def_ofD (k := 9) (b := B_price) (n := 3) rfl F sc_price rfl fun cdv A outer s H E hr tk => ss_cons (s_set (i := 0) sc_price.nd rfl (by first | exact .inl rfl | exact .inr rfl) (s_resetF (s_callF (o_fit_web.at_ hr rfl) tk rfl T.g_fit_web (s_cons (s_var 0 (pv 0)) (s_nil))))) (ss_cons (s_par2 (i := 1) (j := 2) rfl sc_price.nd rfl rfl (by decide) rfl rfl (s_cons (s_resetF (s_callF (o_fit_order.at_ hr rfl) tk rfl T.g_fit_order (s_cons (s_var 0 (pv 0)) (s_cons (s_var 1 (pv 1)) (s_nil))))) (s_cons (s_resetF (s_callF (o_fit_pair.at_ hr rfl) tk rfl T.g_fit_pair (s_cons (s_var 2 (pv 2)) (s_nil)))) (s_nil))) (by rfl)) (ss_cons (s_expr (s_callF (o_need_tie.at_ hr rfl) tk rfl T.g_need_tie (s_cons (s_var 0 (pv 0)) (s_cons (s_var 2 (pv 2)) (s_nil))))) (ss_one (s_ret (s_ixM rfl (hu1 hr) (s_callF (o_prices_of.at_ hr rfl) tk rfl T.g_prices_of (s_cons (s_var 0 (pv 0)) (s_cons (s_var 1 (pv 1)) (s_nil)))) (s_var 2 (pv 2)))))))
theorem ok_price (T : Tp K w sA sN mg) (o_fit_web : FnP P w K mg base (Zk K w sA sN) 9 26 1 F_fit_web) (o_fit_pair : FnP P w K mg base (Zk K w sA sN) 9 25 1 F_fit_pair) (o_fit_order : FnP P w K mg base (Zk K w sA sN) 9 29 2 F_fit_order) (o_need_tie : FnP P w K mg base (Zk K w sA sN) 5 33 2 F_need_tie) (o_prices_of : FnP P w K mg base (Zk K w sA sN) 1 44 2 F_prices_of) : FnP P w K mg base (Zk K w sA sN) 10 51 3 F_price := by
  obtain ⟨fd, F⟩ := T.d_price
  exact ⟨fd, ["web", "order", "tie"], fo_price T o_fit_web o_fit_pair o_fit_order o_need_tie o_prices_of F, F.kp, F.bindsN fun _ _ _ _ _ _ us hl => match us, hl with | [_, _, _], _ => rfl⟩
theorem sc_prices : FnScope ["web", "order", "by_tie", "tie"] ["web", "order"] (defScope (top 66)) := ⟨rfl, rfl, rfl, by decide +kernel, rfl, by decide +kernel, by decide +kernel⟩
theorem fo_prices (T : Tp K w sA sN mg) (o_fit_web : FnP P w K mg base (Zk K w sA sN) 9 26 1 F_fit_web) (o_fit_order : FnP P w K mg base (Zk K w sA sN) 9 29 2 F_fit_order) (o_prices_of : FnP P w K mg base (Zk K w sA sN) 1 44 2 F_prices_of) {fd : FuncData} (F : FunD K "prices" "prices" (defArgs (top 66)) (defBody (top 66)) (defScope (top 66)) [] [] ((Zk K w sA sN).φ 52) fd) : FnOk P w K mg base (L2.CX P w) 10 ((Zk K w sA sN).φ 52) fd ["web", "order"] (spM (Zk K w sA sN) 2 F_prices) :=
  def_ofD (k := 9) (b := B_prices) (n := 4) rfl F sc_prices rfl fun cdv A outer s H E hr tk => ss_cons (s_set (i := 0) sc_prices.nd rfl (by first | exact .inl rfl | exact .inr rfl) (s_resetF (s_callF (o_fit_web.at_ hr rfl) tk rfl T.g_fit_web (s_cons (s_var 0 (pv 0)) (s_nil))))) (ss_cons (s_set (i := 2) sc_prices.nd rfl (by first | exact .inl rfl | exact .inr rfl) (s_callF (o_prices_of.at_ hr rfl) tk rfl T.g_prices_of (s_cons (s_var 0 (pv 0)) (s_cons (s_resetF (s_callF (o_fit_order.at_ hr rfl) tk rfl T.g_fit_order (s_cons (s_var 0 (pv 0)) (s_cons (s_var 1 (pv 1)) (s_nil))))) (s_nil))))) (ss_one (s_ret (s_ctyT call_tuple_of ct_tuple rfl T.b_tuple bt_tuple (s_lc (own := [("tie", 3)]) rfl sc_prices.nd (s_iS rfl (s_ixM rfl (hu1 hr) (s_var 0 (pv 0)) (s_int))) (blkOk_by (N := ["web", "order", "by_tie", "tie"]) (sc := defScope (top 66)) (own := [("tie", 3)]) (by decide +kernel)) (fun _ _ _ _ _ => s_gname (pg_name (i := 3) sc_prices.nd rfl (by first | exact .inl rfl | exact .inr rfl))) (fun _ _ _ _ _ => sts_nil) (fun _ _ _ _ _ => s_ixM rfl (hu1 hr) (s_var 2 (pv 2)) (s_var 3 (pv 3))))))))
theorem ok_prices (T : Tp K w sA sN mg) (o_fit_web : FnP P w K mg base (Zk K w sA sN) 9 26 1 F_fit_web) (o_fit_order : FnP P w K mg base (Zk K w sA sN) 9 29 2 F_fit_order) (o_prices_of : FnP P w K mg base (Zk K w sA sN) 1 44 2 F_prices_of) : FnP P w K mg base (Zk K w sA sN) 10 52 2 F_prices := by
  obtain ⟨fd, F⟩ := T.d_prices
  exact ⟨fd, ["web", "order"], fo_prices T o_fit_web o_fit_order o_prices_of F, F.kp, F.bindsN fun _ _ _ _ _ _ us hl => match us, hl with | [_, _], _ => rfl⟩
theorem sc_potentials : FnScope ["web", "tree", "order"] ["web", "tree", "order"] (defScope (top 67)) := ⟨rfl, rfl, rfl, by decide +kernel, rfl, by decide +kernel, by decide +kernel⟩
theorem fo_potentials (T : Tp K w sA sN mg) (o_fit_web : FnP P w K mg base (Zk K w sA sN) 9 26 1 F_fit_web) (o_fit_order : FnP P w K mg base (Zk K w sA sN) 9 29 2 F_fit_order) (o_fit_tree : FnP P w K mg base (Zk K w sA sN) 9 28 2 F_fit_tree) (o_prices_of : FnP P w K mg base (Zk K w sA sN) 1 44 2 F_prices_of) (o_potentials_of : FnP P w K mg base (Zk K w sA sN) 3 46 3 F_potentials_of) {fd : FuncData} (F : FunD K "potentials" "potentials" (defArgs (top 67)) (defBody (top 67)) (defScope (top 67)) [] [] ((Zk K w sA sN).φ 53) fd) : FnOk P w K mg base (L2.CX P w) 10 ((Zk K w sA sN).φ 53) fd ["web", "tree", "order"] (spM (Zk K w sA sN) 3 F_potentials) :=
  def_ofD (k := 9) (b := B_potentials) (n := 3) rfl F sc_potentials rfl fun cdv A outer s H E hr tk => ss_cons (s_set (i := 0) sc_potentials.nd rfl (by first | exact .inl rfl | exact .inr rfl) (s_resetF (s_callF (o_fit_web.at_ hr rfl) tk rfl T.g_fit_web (s_cons (s_var 0 (pv 0)) (s_nil))))) (ss_cons (s_par2 (i := 1) (j := 2) rfl sc_potentials.nd rfl rfl (by decide) rfl rfl (s_cons (s_resetF (s_callF (o_fit_tree.at_ hr rfl) tk rfl T.g_fit_tree (s_cons (s_var 0 (pv 0)) (s_cons (s_var 1 (pv 1)) (s_nil))))) (s_cons (s_resetF (s_callF (o_fit_order.at_ hr rfl) tk rfl T.g_fit_order (s_cons (s_var 0 (pv 0)) (s_cons (s_var 2 (pv 2)) (s_nil))))) (s_nil))) (by rfl)) (ss_one (s_ret (s_callF (o_potentials_of.at_ hr rfl) tk rfl T.g_potentials_of (s_cons (s_var 0 (pv 0)) (s_cons (s_var 1 (pv 1)) (s_cons (s_callF (o_prices_of.at_ hr rfl) tk rfl T.g_prices_of (s_cons (s_var 0 (pv 0)) (s_cons (s_var 2 (pv 2)) (s_nil)))) (s_nil))))))))
theorem ok_potentials (T : Tp K w sA sN mg) (o_fit_web : FnP P w K mg base (Zk K w sA sN) 9 26 1 F_fit_web) (o_fit_order : FnP P w K mg base (Zk K w sA sN) 9 29 2 F_fit_order) (o_fit_tree : FnP P w K mg base (Zk K w sA sN) 9 28 2 F_fit_tree) (o_prices_of : FnP P w K mg base (Zk K w sA sN) 1 44 2 F_prices_of) (o_potentials_of : FnP P w K mg base (Zk K w sA sN) 3 46 3 F_potentials_of) : FnP P w K mg base (Zk K w sA sN) 10 53 3 F_potentials := by
  obtain ⟨fd, F⟩ := T.d_potentials
  exact ⟨fd, ["web", "tree", "order"], fo_potentials T o_fit_web o_fit_order o_fit_tree o_prices_of o_potentials_of F, F.kp, F.bindsN fun _ _ _ _ _ _ us hl => match us, hl with | [_, _, _], _ => rfl⟩
theorem sc_is_potentials : FnScope ["web", "tree", "order", "thing"] ["web", "tree", "order", "thing"] (defScope (top 68)) := ⟨rfl, rfl, rfl, by decide +kernel, rfl, by decide +kernel, by decide +kernel⟩
theorem fo_is_potentials (T : Tp K w sA sN mg) (o_fit_web : FnP P w K mg base (Zk K w sA sN) 9 26 1 F_fit_web) (o_fit_order : FnP P w K mg base (Zk K w sA sN) 9 29 2 F_fit_order) (o_fit_tree : FnP P w K mg base (Zk K w sA sN) 9 28 2 F_fit_tree) (o_prices_of : FnP P w K mg base (Zk K w sA sN) 1 44 2 F_prices_of) (o_potentials_of : FnP P w K mg base (Zk K w sA sN) 3 46 3 F_potentials_of) (o_same : FnP P w K mg base (Zk K w sA sN) 10 8 2 (F_same 10)) {fd : FuncData} (F : FunD K "is_potentials" "is_potentials" (defArgs (top 68)) (defBody (top 68)) (defScope (top 68)) [] [] ((Zk K w sA sN).φ 54) fd) : FnOk P w K mg base (L2.CX P w) 11 ((Zk K w sA sN).φ 54) fd ["web", "tree", "order", "thing"] (spM (Zk K w sA sN) 4 F_is_potentials) :=
  def_ofD (k := 10) (b := B_is_potentials) (n := 4) rfl F sc_is_potentials rfl fun cdv A outer s H E hr tk => ss_cons (s_set (i := 0) sc_is_potentials.nd rfl (by first | exact .inl rfl | exact .inr rfl) (s_resetF (s_callF (o_fit_web.at_ hr rfl) tk rfl T.g_fit_web (s_cons (s_var 0 (pv 0)) (s_nil))))) (ss_cons (s_par2 (i := 1) (j := 2) rfl sc_is_potentials.nd rfl rfl (by decide) rfl rfl (s_cons (s_resetF (s_callF (o_fit_tree.at_ hr rfl) tk rfl T.g_fit_tree (s_cons (s_var 0 (pv 0)) (s_cons (s_var 1 (pv 1)) (s_nil))))) (s_cons (s_resetF (s_callF (o_fit_order.at_ hr rfl) tk rfl T.g_fit_order (s_cons (s_var 0 (pv 0)) (s_cons (s_var 2 (pv 2)) (s_nil))))) (s_nil))) (by rfl)) (ss_one (s_ret (s_callF (o_same.at_ hr rfl) tk rfl T.g_same (s_cons (s_var 3 (pv 3)) (s_cons (s_callF (o_potentials_of.at_ hr rfl) tk rfl T.g_potentials_of (s_cons (s_var 0 (pv 0)) (s_cons (s_var 1 (pv 1)) (s_cons (s_callF (o_prices_of.at_ hr rfl) tk rfl T.g_prices_of (s_cons (s_var 0 (pv 0)) (s_cons (s_var 2 (pv 2)) (s_nil)))) (s_nil))))) (s_nil)))))))
theorem ok_is_potentials (T : Tp K w sA sN mg) (o_fit_web : FnP P w K mg base (Zk K w sA sN) 9 26 1 F_fit_web) (o_fit_order : FnP P w K mg base (Zk K w sA sN) 9 29 2 F_fit_order) (o_fit_tree : FnP P w K mg base (Zk K w sA sN) 9 28 2 F_fit_tree) (o_prices_of : FnP P w K mg base (Zk K w sA sN) 1 44 2 F_prices_of) (o_potentials_of : FnP P w K mg base (Zk K w sA sN) 3 46 3 F_potentials_of) (o_same : FnP P w K mg base (Zk K w sA sN) 10 8 2 (F_same 10)) : FnP P w K mg base (Zk K w sA sN) 11 54 4 F_is_potentials := by
  obtain ⟨fd, F⟩ := T.d_is_potentials
  exact ⟨fd, ["web", "tree", "order", "thing"], fo_is_potentials T o_fit_web o_fit_order o_fit_tree o_prices_of o_potentials_of o_same F, F.kp, F.bindsN fun _ _ _ _ _ _ us hl => match us, hl with | [_, _, _, _], _ => rfl⟩
theorem sc_gap : FnScope ["web", "tree", "order", "tie"] ["web", "tree", "order", "tie"] (defScope (top 69)) := ⟨rfl, rfl, rfl, by decide +kernel, rfl, by decide +kernel, by decide +kernel⟩
theorem fo_gap (T : Tp K w sA sN mg) (o_fit_web : FnP P w K mg base (Zk K w sA sN) 9 26 1 F_fit_web) (o_fit_pair : FnP P w K mg base (Zk K w sA sN) 9 25 1 F_fit_pair) (o_fit_order : FnP P w K mg base (Zk K w sA sN) 9 29 2 F_fit_order) (o_fit_tree : FnP P w K mg base (Zk K w sA sN) 9 28 2 F_fit_tree) (o_need_tie : FnP P w K mg base (Zk K w sA sN) 5 33 2 F_need_tie) (o_prices_of : FnP P w K mg base (Zk K w sA sN) 1 44 2 F_prices_of) (o_gaps_of : FnP P w K mg base (Zk K w sA sN) 3 48 3 F_gaps_of) {fd : FuncData} (F : FunD K "gap" "gap" (defArgs (top 69)) (defBody (top 69)) (defScope (top 69)) [] [] ((Zk K w sA sN).φ 55) fd) : FnOk P w K mg base (L2.CX P w) 10 ((Zk K w sA sN).φ 55) fd ["web", "tree", "order", "tie"] (spM (Zk K w sA sN) 4 F_gap) :=
  def_ofD (k := 9) (b := B_gap) (n := 4) rfl F sc_gap rfl fun cdv A outer s H E hr tk => ss_cons (s_set (i := 0) sc_gap.nd rfl (by first | exact .inl rfl | exact .inr rfl) (s_resetF (s_callF (o_fit_web.at_ hr rfl) tk rfl T.g_fit_web (s_cons (s_var 0 (pv 0)) (s_nil))))) (ss_cons (s_par3 (i := 1) (j := 2) (l := 3) rfl sc_gap.nd rfl rfl rfl (by decide) (by decide) (by decide) rfl rfl rfl (s_cons (s_resetF (s_callF (o_fit_tree.at_ hr rfl) tk rfl T.g_fit_tree (s_cons (s_var 0 (pv 0)) (s_cons (s_var 1 (pv 1)) (s_nil))))) (s_cons (s_resetF (s_callF (o_fit_order.at_ hr rfl) tk rfl T.g_fit_order (s_cons (s_var 0 (pv 0)) (s_cons (s_var 2 (pv 2)) (s_nil))))) (s_cons (s_resetF (s_callF (o_fit_pair.at_ hr rfl) tk rfl T.g_fit_pair (s_cons (s_var 3 (pv 3)) (s_nil)))) (s_nil)))) (by rfl)) (ss_cons (s_expr (s_callF (o_need_tie.at_ hr rfl) tk rfl T.g_need_tie (s_cons (s_var 0 (pv 0)) (s_cons (s_var 3 (pv 3)) (s_nil))))) (ss_one (s_ret (s_ixM rfl (hu1 hr) (s_callF (o_gaps_of.at_ hr rfl) tk rfl T.g_gaps_of (s_cons (s_var 0 (pv 0)) (s_cons (s_var 1 (pv 1)) (s_cons (s_callF (o_prices_of.at_ hr rfl) tk rfl T.g_prices_of (s_cons (s_var 0 (pv 0)) (s_cons (s_var 2 (pv 2)) (s_nil)))) (s_nil))))) (s_var 3 (pv 3)))))))
theorem ok_gap (T : Tp K w sA sN mg) (o_fit_web : FnP P w K mg base (Zk K w sA sN) 9 26 1 F_fit_web) (o_fit_pair : FnP P w K mg base (Zk K w sA sN) 9 25 1 F_fit_pair) (o_fit_order : FnP P w K mg base (Zk K w sA sN) 9 29 2 F_fit_order) (o_fit_tree : FnP P w K mg base (Zk K w sA sN) 9 28 2 F_fit_tree) (o_need_tie : FnP P w K mg base (Zk K w sA sN) 5 33 2 F_need_tie) (o_prices_of : FnP P w K mg base (Zk K w sA sN) 1 44 2 F_prices_of) (o_gaps_of : FnP P w K mg base (Zk K w sA sN) 3 48 3 F_gaps_of) : FnP P w K mg base (Zk K w sA sN) 10 55 4 F_gap := by
  obtain ⟨fd, F⟩ := T.d_gap
  exact ⟨fd, ["web", "tree", "order", "tie"], fo_gap T o_fit_web o_fit_pair o_fit_order o_fit_tree o_need_tie o_prices_of o_gaps_of F, F.kp, F.bindsN fun _ _ _ _ _ _ us hl => match us, hl with | [_, _, _, _], _ => rfl⟩
theorem sc_under : FnScope ["web", "tree", "order"] ["web", "tree", "order"] (defScope (top 70)) := ⟨rfl, rfl, rfl, by decide +kernel, rfl, by decide +kernel, by decide +kernel⟩
theorem fo_under (T : Tp K w sA sN mg) (o_fit_web : FnP P w K mg base (Zk K w sA sN) 9 26 1 F_fit_web) (o_fit_order : FnP P w K mg base (Zk K w sA sN) 9 29 2 F_fit_order) (o_fit_tree : FnP P w K mg base (Zk K w sA sN) 9 28 2 F_fit_tree) (o_prices_of : FnP P w K mg base (Zk K w sA sN) 1 44 2 F_prices_of) (o_under_of : FnP P w K mg base (Zk K w sA sN) 4 49 3 F_under_of) {fd : FuncData} (F : FunD K "under" "under" (defArgs (top 70)) (defBody (top 70)) (defScope (top 70)) [] [] ((Zk K w sA sN).φ 56) fd) : FnOk P w K mg base (L2.CX P w) 10 ((Zk K w sA sN).φ 56) fd ["web", "tree", "order"] (spM (Zk K w sA sN) 3 F_under) :=
  def_ofD (k := 9) (b := B_under) (n := 3) rfl F sc_under rfl fun cdv A outer s H E hr tk => ss_cons (s_set (i := 0) sc_under.nd rfl (by first | exact .inl rfl | exact .inr rfl) (s_resetF (s_callF (o_fit_web.at_ hr rfl) tk rfl T.g_fit_web (s_cons (s_var 0 (pv 0)) (s_nil))))) (ss_cons (s_par2 (i := 1) (j := 2) rfl sc_under.nd rfl rfl (by decide) rfl rfl (s_cons (s_resetF (s_callF (o_fit_tree.at_ hr rfl) tk rfl T.g_fit_tree (s_cons (s_var 0 (pv 0)) (s_cons (s_var 1 (pv 1)) (s_nil))))) (s_cons (s_resetF (s_callF (o_fit_order.at_ hr rfl) tk rfl T.g_fit_order (s_cons (s_var 0 (pv 0)) (s_cons (s_var 2 (pv 2)) (s_nil))))) (s_nil))) (by rfl)) (ss_one (s_ret (s_callF (o_under_of.at_ hr rfl) tk rfl T.g_under_of (s_cons (s_var 0 (pv 0)) (s_cons (s_var 1 (pv 1)) (s_cons (s_callF (o_prices_of.at_ hr rfl) tk rfl T.g_prices_of (s_cons (s_var 0 (pv 0)) (s_cons (s_var 2 (pv 2)) (s_nil)))) (s_nil))))))))
theorem ok_under (T : Tp K w sA sN mg) (o_fit_web : FnP P w K mg base (Zk K w sA sN) 9 26 1 F_fit_web) (o_fit_order : FnP P w K mg base (Zk K w sA sN) 9 29 2 F_fit_order) (o_fit_tree : FnP P w K mg base (Zk K w sA sN) 9 28 2 F_fit_tree) (o_prices_of : FnP P w K mg base (Zk K w sA sN) 1 44 2 F_prices_of) (o_under_of : FnP P w K mg base (Zk K w sA sN) 4 49 3 F_under_of) : FnP P w K mg base (Zk K w sA sN) 10 56 3 F_under := by
  obtain ⟨fd, F⟩ := T.d_under
  exact ⟨fd, ["web", "tree", "order"], fo_under T o_fit_web o_fit_order o_fit_tree o_prices_of o_under_of F, F.kp, F.bindsN fun _ _ _ _ _ _ us hl => match us, hl with | [_, _, _], _ => rfl⟩
theorem sc_most_under : FnScope ["web", "tree", "order", "gaps", "least", "tie", "own"] ["web", "tree", "order"] (defScope (top 71)) := ⟨rfl, rfl, rfl, by decide +kernel, rfl, by decide +kernel, by decide +kernel⟩
theorem fo_most_under (T : Tp K w sA sN mg) (o_fit_web : FnP P w K mg base (Zk K w sA sN) 9 26 1 F_fit_web) (o_fit_order : FnP P w K mg base (Zk K w sA sN) 9 29 2 F_fit_order) (o_fit_tree : FnP P w K mg base (Zk K w sA sN) 9 28 2 F_fit_tree) (o_prices_of : FnP P w K mg base (Zk K w sA sN) 1 44 2 F_prices_of) (o_gaps_of : FnP P w K mg base (Zk K w sA sN) 3 48 3 F_gaps_of) {fd : FuncData} (F : FunD K "most_under" "most_under" (defArgs (top 71)) (defBody (top 71)) (defScope (top 71)) [] [] ((Zk K w sA sN).φ 57) fd) : FnOk P w K mg base (L2.CX P w) 10 ((Zk K w sA sN).φ 57) fd ["web", "tree", "order"] (spM (Zk K w sA sN) 3 F_most_under) :=
  def_ofD (k := 9) (b := B_most_under) (n := 7) rfl F sc_most_under rfl fun cdv A outer s H E hr tk => ss_cons (s_set (i := 0) sc_most_under.nd rfl (by first | exact .inl rfl | exact .inr rfl) (s_resetF (s_callF (o_fit_web.at_ hr rfl) tk rfl T.g_fit_web (s_cons (s_var 0 (pv 0)) (s_nil))))) (ss_cons (s_par2 (i := 1) (j := 2) rfl sc_most_under.nd rfl rfl (by decide) rfl rfl (s_cons (s_resetF (s_callF (o_fit_tree.at_ hr rfl) tk rfl T.g_fit_tree (s_cons (s_var 0 (pv 0)) (s_cons (s_var 1 (pv 1)) (s_nil))))) (s_cons (s_resetF (s_callF (o_fit_order.at_ hr rfl) tk rfl T.g_fit_order (s_cons (s_var 0 (pv 0)) (s_cons (s_var 2 (pv 2)) (s_nil))))) (s_nil))) (by rfl)) (ss_cons (s_set (i := 3) sc_most_under.nd rfl (by first | exact .inl rfl | exact .inr rfl) (s_callF (o_gaps_of.at_ hr rfl) tk rfl T.g_gaps_of (s_cons (s_var 0 (pv 0)) (s_cons (s_var 1 (pv 1)) (s_cons (s_callF (o_prices_of.at_ hr rfl) tk rfl T.g_prices_of (s_cons (s_var 0 (pv 0)) (s_cons (s_var 2 (pv 2)) (s_nil)))) (s_nil)))))) (ss_cons (s_asg (s_cb (cr_minD rfl (hu70 hr)) cs_minD rfl T.b_min bt_min (s_cons (s_alloc (s_lc (own := [("own", 6)]) rfl sc_most_under.nd (s_iS rfl (s_ixM rfl (hu1 hr) (s_var 0 (pv 0)) (s_int))) (blkOk_by (N := ["web", "tree", "order", "gaps", "least", "tie", "own"]) (sc := defScope (top 71)) (own := [("own", 6)]) (by decide +kernel)) (fun _ _ _ _ _ => s_gname (pg_name (i := 6) sc_most_under.nd rfl (by first | exact .inl rfl | exact .inr rfl))) (fun _ _ _ _ _ => sts_nil) (fun _ _ _ _ _ => s_tup (s_cons (s_ixM rfl (hu1 hr) (s_var 3 (pv 3)) (s_var 6 (pv 6))) (s_cons (s_var 6 (pv 6)) (s_nil)))))) (s_nil))) (s_gtup rfl (s_gcons (s_gname (pg_name (i := 4) sc_most_under.nd rfl (by first | exact .inl rfl | exact .inr rfl))) (s_gcons (s_gname (pg_name (i := 5) sc_most_under.nd rfl (by first | exact .inl rfl | exact .inr rfl))) (s_gnil))))) (ss_cons (s_ifS (s_tcmp (op_eqM (hu64 hr)) s2_eq (s_var 4 (pv 4)) (s_int) (nomark _)) (ss_one (s_raise0 (c := 2) rfl PySem.F.excBase_ValueError T.x_CanNot tk rfl)) (ss_nil)) (ss_one (s_ret (s_var 5 (pv 5))))))))
theorem ok_most_under (T : Tp K w sA sN mg) (o_fit_web : FnP P w K mg base (Zk K w sA sN) 9 26 1 F_fit_web) (o_fit_order : FnP P w K mg base (Zk K w sA sN) 9 29 2 F_fit_order) (o_fit_tree : FnP P w K mg base (Zk K w sA sN) 9 28 2 F_fit_tree) (o_prices_of : FnP P w K mg base (Zk K w sA sN) 1 44 2 F_prices_of) (o_gaps_of : FnP P w K mg base (Zk K w sA sN) 3 48 3 F_gaps_of) : FnP P w K mg base (Zk K w sA sN) 10 57 3 F_most_under := by
  obtain ⟨fd, F⟩ := T.d_most_under
  exact ⟨fd, ["web", "tree", "order"], fo_most_under T o_fit_web o_fit_order o_fit_tree o_prices_of o_gaps_of F, F.kp, F.bindsN fun _ _ _ _ _ _ us hl => match us, hl with | [_, _, _], _ => rfl⟩
theorem sc_cost : FnScope ["web", "tree", "order", "side"] ["web", "tree", "order", "side"] (defScope (top 72)) := ⟨rfl, rfl, rfl, by decide +kernel, rfl, by decide +kernel, by decide +kernel⟩
theorem fo_cost (T : Tp K w sA sN mg) (o_fit_web : FnP P w K mg base (Zk K w sA sN) 9 26 1 F_fit_web) (o_fit_side : FnP P w K mg base (Zk K w sA sN) 3 27 1 F_fit_side) (o_fit_order : FnP P w K mg base (Zk K w sA sN) 9 29 2 F_fit_order) (o_fit_tree : FnP P w K mg base (Zk K w sA sN) 9 28 2 F_fit_tree) (o_prices_of : FnP P w K mg base (Zk K w sA sN) 1 44 2 F_prices_of) (o_cost_of : FnP P w K mg base (Zk K w sA sN) 4 50 4 F_cost_of) {fd : FuncData} (F : FunD K "cost" "cost" (defArgs (top 72)) (defBody (top 72)) (defScope (top 72)) [] [] ((Zk K w sA sN).φ 58) fd) : FnOk P w K mg base (L2.CX P w) 10 ((Zk K w sA sN).φ 58) fd ["web", "tree", "order", "side"] (spM (Zk K w sA sN) 4 F_cost) :=
  def_ofD (k := 9) (b := B_cost) (n := 4) rfl F sc_cost rfl fun cdv A outer s H E hr tk => ss_cons (s_set (i := 0) sc_cost.nd rfl (by first | exact .inl rfl | exact .inr rfl) (s_resetF (s_callF (o_fit_web.at_ hr rfl) tk rfl T.g_fit_web (s_cons (s_var 0 (pv 0)) (s_nil))))) (ss_cons (s_par3 (i := 1) (j := 2) (l := 3) rfl sc_cost.nd rfl rfl rfl (by decide) (by decide) (by decide) rfl rfl rfl (s_cons (s_resetF (s_callF (o_fit_tree.at_ hr rfl) tk rfl T.g_fit_tree (s_cons (s_var 0 (pv 0)) (s_cons (s_var 1 (pv 1)) (s_nil))))) (s_cons (s_resetF (s_callF (o_fit_order.at_ hr rfl) tk rfl T.g_fit_order (s_cons (s_var 0 (pv 0)) (s_cons (s_var 2 (pv 2)) (s_nil))))) (s_cons (s_resetF (s_callF (o_fit_side.at_ hr rfl) tk rfl T.g_fit_side (s_cons (s_var 3 (pv 3)) (s_nil)))) (s_nil)))) (by rfl)) (ss_one (s_ret (s_callF (o_cost_of.at_ hr rfl) tk rfl T.g_cost_of (s_cons (s_var 0 (pv 0)) (s_cons (s_var 1 (pv 1)) (s_cons (s_callF (o_prices_of.at_ hr rfl) tk rfl T.g_prices_of (s_cons (s_var 0 (pv 0)) (s_cons (s_var 2 (pv 2)) (s_nil)))) (s_cons (s_var 3 (pv 3)) (s_nil)))))))))
theorem ok_cost (T : Tp K w sA sN mg) (o_fit_web : FnP P w K mg base (Zk K w sA sN) 9 26 1 F_fit_web) (o_fit_side : FnP P w K mg base (Zk K w sA sN) 3 27 1 F_fit_side) (o_fit_order : FnP P w K mg base (Zk K w sA sN) 9 29 2 F_fit_order) (o_fit_tree : FnP P w K mg base (Zk K w sA sN) 9 28 2 F_fit_tree) (o_prices_of : FnP P w K mg base (Zk K w sA sN) 1 44 2 F_prices_of) (o_cost_of : FnP P w K mg base (Zk K w sA sN) 4 50 4 F_cost_of) : FnP P w K mg base (Zk K w sA sN) 10 58 4 F_cost := by
  obtain ⟨fd, F⟩ := T.d_cost
  exact ⟨fd, ["web", "tree", "order", "side"], fo_cost T o_fit_web o_fit_side o_fit_order o_fit_tree o_prices_of o_cost_of F, F.kp, F.bindsN fun _ _ _ _ _ _ us hl => match us, hl with | [_, _, _, _], _ => rfl⟩
theorem sc_is_cheaper : FnScope ["web", "tree", "other", "order", "side", "by_tie"] ["web", "tree", "other", "order", "side"] (defScope (top 73)) := ⟨rfl, rfl, rfl, by decide +kernel, rfl, by decide +kernel, by decide +kernel⟩
theorem fo_is_cheaper (T : Tp K w sA sN mg) (o_fit_web : FnP P w K mg base (Zk K w sA sN) 9 26 1 F_fit_web) (o_fit_tree : FnP P w K mg base (Zk K w sA sN) 9 28 2 F_fit_tree) (o_fit_side : FnP P w K mg base (Zk K w sA sN) 3 27 1 F_fit_side) (o_fit_order : FnP P w K mg base (Zk K w sA sN) 9 29 2 F_fit_order) (o_prices_of : FnP P w K mg base (Zk K w sA sN) 1 44 2 F_prices_of) (o_cost_of : FnP P w K mg base (Zk K w sA sN) 4 50 4 F_cost_of) {fd : FuncData} (F : FunD K "is_cheaper" "is_cheaper" (defArgs (top 73)) (defBody (top 73)) (defScope (top 73)) [] [] ((Zk K w sA sN).φ 59) fd) : FnOk P w K mg base (L2.CX P w) 10 ((Zk K w sA sN).φ 59) fd ["web", "tree", "other", "order", "side"] (spM (Zk K w sA sN) 5 F_is_cheaper) :=
  def_ofD (k := 9) (b := B_is_cheaper) (n := 6) rfl F sc_is_cheaper rfl fun cdv A outer s H E hr tk => ss_cons (s_set (i := 0) sc_is_cheaper.nd rfl (by first | exact .inl rfl | exact .inr rfl) (s_resetF (s_callF (o_fit_web.at_ hr rfl) tk rfl T.g_fit_web (s_cons (s_var 0 (pv 0)) (s_nil))))) (ss_cons (s_par2 (i := 1) (j := 2) rfl sc_is_cheaper.nd rfl rfl (by decide) rfl rfl (s_cons (s_resetF (s_callF (o_fit_tree.at_ hr rfl) tk rfl T.g_fit_tree (s_cons (s_var 0 (pv 0)) (s_cons (s_var 1 (pv 1)) (s_nil))))) (s_cons (s_resetF (s_callF (o_fit_tree.at_ hr rfl) tk rfl T.g_fit_tree (s_cons (s_var 0 (pv 0)) (s_cons (s_var 2 (pv 2)) (s_nil))))) (s_nil))) (by rfl)) (ss_cons (s_par2 (i := 3) (j := 4) rfl sc_is_cheaper.nd rfl rfl (by decide) rfl rfl (s_cons (s_resetF (s_callF (o_fit_order.at_ hr rfl) tk rfl T.g_fit_order (s_cons (s_var 0 (pv 0)) (s_cons (s_var 3 (pv 3)) (s_nil))))) (s_cons (s_resetF (s_callF (o_fit_side.at_ hr rfl) tk rfl T.g_fit_side (s_cons (s_var 4 (pv 4)) (s_nil)))) (s_nil))) (by rfl)) (ss_cons (s_set (i := 5) sc_is_cheaper.nd rfl (by first | exact .inl rfl | exact .inr rfl) (s_callF (o_prices_of.at_ hr rfl) tk rfl T.g_prices_of (s_cons (s_var 0 (pv 0)) (s_cons (s_var 3 (pv 3)) (s_nil))))) (ss_one (s_ret (s_cmp (op_ltM (hu0 hr)) s2_ltM (s_callF (o_cost_of.at_ hr rfl) tk rfl T.g_cost_of (s_cons (s_var 0 (pv 0)) (s_cons (s_var 1 (pv 1)) (s_cons (s_var 5 (pv 5)) (s_cons (s_var 4 (pv 4)) (s_nil)))))) (s_callF (o_cost_of.at_ hr rfl) tk rfl T.g_cost_of (s_cons (s_var 0 (pv 0)) (s_cons (s_var 2 (pv 2)) (s_cons (s_var 5 (pv 5)) (s_cons (s_var 4 (pv 4)) (s_nil)))))) (nomark _)))))))
theorem ok_is_cheaper (T : Tp K w sA sN mg) (o_fit_web : FnP P w K mg base (Zk K w sA sN) 9 26 1 F_fit_web) (o_fit_tree : FnP P w K mg base (Zk K w sA sN) 9 28 2 F_fit_tree) (o_fit_side : FnP P w K mg base (Zk K w sA sN) 3 27 1 F_fit_side) (o_fit_order : FnP P w K mg base (Zk K w sA sN) 9 29 2 F_fit_order) (o_prices_of : FnP P w K mg base (Zk K w sA sN) 1 44 2 F_prices_of) (o_cost_of : FnP P w K mg base (Zk K w sA sN) 4 50 4 F_cost_of) : FnP P w K mg base (Zk K w sA sN) 10 59 5 F_is_cheaper := by
  obtain ⟨fd, F⟩ := T.d_is_cheaper
  exact ⟨fd, ["web", "tree", "other", "order", "side"], fo_is_cheaper T o_fit_web o_fit_tree o_fit_side o_fit_order o_prices_of o_cost_of F, F.kp, F.bindsN fun _ _ _ _ _ _ us hl => match us, hl with | [_, _, _, _, _], _ => rfl⟩
theorem sc_balance : FnScope ["web", "order", "ring", "by_tie", "there", "back", "tie"] ["web", "order", "ring"] (defScope (top 74)) := ⟨rfl, rfl, rfl, by decide +kernel, rfl, by decide +kernel, by decide +kernel⟩
theorem fo_balance (T : Tp K w sA sN mg) (o_fit_web : FnP P w K mg base (Zk K w sA sN) 9 26 1 F_fit_web) (o_fit_ring : FnP P w K mg base (Zk K w sA sN) 9 31 3 F_fit_ring) (o_fit_order : FnP P w K mg base (Zk K w sA sN) 9 29 2 F_fit_order) (o_prices_of : FnP P w K mg base (Zk K w sA sN) 1 44 2 F_prices_of) (o_ties_round : FnP P w K mg base (Zk K w sA sN) 1 9 1 F_ties_round) {fd : FuncData} (F : FunD K "balance" "balance" (defArgs (top 74)) (defBody (top 74)) (defScope (top 74)) [] [] ((Zk K w sA sN).φ 60) fd) : FnOk P w K mg base (L2.CX P w) 10 ((Zk K w sA sN).φ 60) fd ["web", "order", "ring"] (spM (Zk K w sA sN) 3 F_balance) :=
  def_ofD (k := 9) (b := B_balance) (n := 7) rfl F sc_balance rfl fun cdv A outer s H E hr tk => ss_cons (s_set (i := 0) sc_balance.nd rfl (by first | exact .inl rfl | exact .inr rfl) (s_resetF (s_callF (o_fit_web.at_ hr rfl) tk rfl T.g_fit_web (s_cons (s_var 0 (pv 0)) (s_nil))))) (ss_cons (s_par2 (i := 1) (j := 2) rfl sc_balance.nd rfl rfl (by decide) rfl rfl (s_cons (s_resetF (s_callF (o_fit_order.at_ hr rfl) tk rfl T.g_fit_order (s_cons (s_var 0 (pv 0)) (s_cons (s_var 1 (pv 1)) (s_nil))))) (s_cons (s_resetF (s_callF (o_fit_ring.at_ hr rfl) tk rfl T.g_fit_ring (s_cons (s_ixM rfl (hu1 hr) (s_var 0 (pv 0)) (s_int)) (s_cons (s_ixM rfl (hu1 hr) (s_var 0 (pv 0)) (s_int)) (s_cons (s_var 2 (pv 2)) (s_nil)))))) (s_nil))) (by rfl)) (ss_cons (s_set (i := 3) sc_balance.nd rfl (by first | exact .inl rfl | exact .inr rfl) (s_callF (o_prices_of.at_ hr rfl) tk rfl T.g_prices_of (s_cons (s_var 0 (pv 0)) (s_cons (s_var 1 (pv 1)) (s_nil))))) (ss_cons (s_asg (s_callF (o_ties_round.at_ hr rfl) tk rfl T.g_ties_round (s_cons (s_var 2 (pv 2)) (s_nil))) (s_gtup rfl (s_gcons (s_gname (pg_name (i := 4) sc_balance.nd rfl (by first | exact .inl rfl | exact .inr rfl))) (s_gcons (s_gname (pg_name (i := 5) sc_balance.nd rfl (by first | exact .inl rfl | exact .inr rfl))) (s_gnil))))) (ss_one (s_ret (s_op op_sub s2_sub (s_cbT (cr_sumM rfl) ct_sum rfl T.b_sum bt_sum (s_lc (own := [("tie", 6)]) rfl sc_balance.nd (s_iS rfl (s_var 4 (pv 4))) (blkOk_by (N := ["web", "order", "ring", "by_tie", "there", "back", "tie"]) (sc := defScope (top 74)) (own := [("tie", 6)]) (by decide +kernel)) (fun _ _ _ _ _ => s_gname (pg_name (i := 6) sc_balance.nd rfl (by first | exact .inl rfl | exact .inr rfl))) (fun _ _ _ _ _ => sts_nil) (fun _ _ _ _ _ => s_ixM rfl (hu1 hr) (s_var 3 (pv 3)) (s_var 6 (pv 6))))) (s_cbT (cr_sumM rfl) ct_sum rfl T.b_sum bt_sum (s_lc (own := [("tie", 6)]) rfl sc_balance.nd (s_iS rfl (s_var 5 (pv 5))) (blkOk_by (N := ["web", "order", "ring", "by_tie", "there", "back", "tie"]) (sc := defScope (top 74)) (own := [("tie", 6)]) (by decide +kernel)) (fun _ _ _ _ _ => s_gname (pg_name (i := 6) sc_balance.nd rfl (by first | exact .inl rfl | exact .inr rfl))) (fun _ _ _ _ _ => sts_nil) (fun _ _ _ _ _ => s_ixM rfl (hu1 hr) (s_var 3 (pv 3)) (s_var 6 (pv 6)))))))))))
theorem ok_balance (T : Tp K w sA sN mg) (o_fit_web : FnP P w K mg base (Zk K w sA sN) 9 26 1 F_fit_web) (o_fit_ring : FnP P w K mg base (Zk K w sA sN) 9 31 3 F_fit_ring) (o_fit_order : FnP P w K mg base (Zk K w sA sN) 9 29 2 F_fit_order) (o_prices_of : FnP P w K mg base (Zk K w sA sN) 1 44 2 F_prices_of) (o_ties_round : FnP P w K mg base (Zk K w sA sN) 1 9 1 F_ties_round) : FnP P w K mg base (Zk K w sA sN) 10 60 3 F_balance := by
  obtain ⟨fd, F⟩ := T.d_balance
  exact ⟨fd, ["web", "order", "ring"], fo_balance T o_fit_web o_fit_ring o_fit_order o_prices_of o_ties_round F, F.kp, F.bindsN fun _ _ _ _ _ _ us hl => match us, hl with | [_, _, _], _ => rfl⟩
theorem sc__law_cells : FnScope ["script", "most_so", "cells_so", "k", "bit_so", "at_so"] ["script", "most_so"] (defScope (top 76)) := ⟨rfl, rfl, rfl, by decide +kernel, rfl, by decide +kernel, by decide +kernel⟩
theorem fo__law_cells (T : Tp K w sA sN mg) {fd : FuncData} (F : FunD K "_law_cells" "_law_cells" (defArgs (top 76)) (defBody (top 76)) (defScope (top 76)) [] [] ((Zk K w sA sN).φ 61) fd) : FnOk P w K mg base (L2.CX P w) 1 ((Zk K w sA sN).φ 61) fd ["script", "most_so"] (spM (Zk K w sA sN) 2 (F__law_cells sN)) :=
  def_ofD (k := 0) (b := (B__law_cells sN)) (n := 6) rfl F sc__law_cells rfl fun cdv A outer s H E hr tk => ss_cons (s_set (i := 2) sc__law_cells.nd rfl (by first | exact .inl rfl | exact .inr rfl) (s_orT rfl (s_cty (cr_listA rfl) cs_listA rfl T.b_list bt_list (s_cons (s_slS rfl zk_pin (s_var 0 (pv 0)) (so_none) (so_some (s_var 1 (pv 1)))) (s_nil))) (pe_one (s_lst (s_cons (s_int) (s_nil)))))) (ss_cons (s_for passes_cx rfl (s_iEn rfl rfl T.b_enumerate (s_cons (s_slS rfl zk_pin (s_var 0 (pv 0)) (so_some (s_var 1 (pv 1))) (so_some (s_int))) (s_nil))) (s_gtup rfl (s_gcons (s_gname (pg_name (i := 3) sc__law_cells.nd rfl (by first | exact .inl rfl | exact .inr rfl))) (s_gcons (s_gname (pg_name (i := 4) sc__law_cells.nd rfl (by first | exact .inl rfl | exact .inr rfl))) (s_gnil)))) (ss_cons (s_set (i := 5) sc__law_cells.nd rfl (by first | exact .inl rfl | exact .inr rfl) (s_op op_modN s2_mod (s_cty call_int1 cs_int rfl T.b_int bt_int (s_cons (s_var 3 (pv 3)) (s_nil))) (s_var 1 (pv 1)))) (ss_one (s_setIx (hu1 hr) (s_op op_addM s2_add (s_ixM rfl (hu1 hr) (s_var 2 (pv 2)) (s_var 5 (pv 5))) (s_op op_mulM s2_mul (s_var 4 (pv 4)) (s_op op_addM s2_add (s_var 3 (pv 3)) (s_int)))) (s_var 2 (pv 2)) (s_var 5 (pv 5)))))) (ss_one (s_ret (s_var 2 (pv 2)))))
theorem ok__law_cells (T : Tp K w sA sN mg) : FnP P w K mg base (Zk K w sA sN) 1 61 2 (F__law_cells sN) := by
  obtain ⟨fd, F⟩ := T.d__law_cells
  exact ⟨fd, ["script", "most_so"], fo__law_cells T F, F.kp, F.bindsN fun _ _ _ _ _ _ us hl => match us, hl with | [_, _], _ => rfl⟩
theorem sc__law_same : FnScope ["got", "due", "mine", "its"] ["got", "due"] (defScope (top 77)) := ⟨rfl, rfl, rfl, by decide +kernel, rfl, by decide +kernel, by decide +kernel⟩
theorem fo__law_same (T : Tp K w sA sN mg) {fd : FuncData} (F : FunD K "_law_same" "_law_same" (defArgs (top 77)) (defBody (top 77)) (defScope (top 77)) [] [] ((Zk K w sA sN).φ 62) fd) (hb : Binds K fd ["got", "due"] []) : ∀ n, FnOk P w K mg base (L2.CX P w) (0 + n) ((Zk K w sA sN).φ 62) fd ["got", "due"] (spM (Zk K w sA sN) 2 (F__law_same n))
  | 0 => fn_bad rfl
  | n + 1 => def_ofD (k := 0 + n) (b := B__law_same (F__law_same n)) (n := 4) rfl F sc__law_same rfl fun cdv A outer s H E hr tk => ss_cons (s_ifS (s_truth rfl (s_isi2 rfl rfl T.b_isinstance bt_isinstance (pe_bltn rfl T.b_list bt_list rfl) (pe_bltn rfl T.b_tuple bt_tuple rfl) (s_var 1 (pv 1)) (tB_ok2 (by decide +kernel)))) (ss_cons (s_ifS (L2.PW.pt (s_wor (s_tcmp (op_neM (hu64 hr)) s2_ne (s_isi1 rfl rfl T.b_isinstance bt_isinstance (pe_bltn rfl T.b_list bt_list rfl) (s_var 0 (pv 0)) (tB_ok (by decide +kernel))) (s_isi1 rfl rfl T.b_isinstance bt_isinstance (pe_bltn rfl T.b_list bt_list rfl) (s_var 1 (pv 1)) (tB_ok (by decide +kernel))) (nomark _)) (pw_or1 (s_tcmp (op_neM (hu64 hr)) s2_ne (s_isi1 rfl rfl T.b_isinstance bt_isinstance (pe_bltn rfl T.b_tuple bt_tuple rfl) (s_var 0 (pv 0)) (tB_ok (by decide +kernel))) (s_isi1 rfl rfl T.b_isinstance bt_isinstance (pe_bltn rfl T.b_tuple bt_tuple rfl) (s_var 1 (pv 1)) (tB_ok (by decide +kernel))) (nomark _))))) (ss_one (s_ret (s_bl))) (ss_nil)) (ss_one (s_ret (s_and (s_cmp (op_eqM (hu64 hr)) s2_eq (s_cb cr_lenA cs_lenA rfl T.b_len bt_len (s_cons (s_var 0 (pv 0)) (s_nil))) (s_cb cr_lenA cs_lenA rfl T.b_len bt_len (s_cons (s_var 1 (pv 1)) (s_nil))) (nomark _)) (pe_one (s_cbT (cr_all rfl) ct_all rfl T.b_all bt_all (s_lc (own := [("mine", 2), ("its", 3)]) rfl sc__law_same.nd (s_iZip rfl rfl T.b_zip (s_cons (s_var 0 (pv 0)) (s_cons (s_var 1 (pv 1)) (s_nil)))) (blkOk_by (N := ["got", "due", "mine", "its"]) (sc := defScope (top 77)) (own := [("mine", 2), ("its", 3)]) (by decide +kernel)) (fun _ _ _ _ _ => s_gtup rfl (s_gcons (s_gname (pg_name (i := 2) sc__law_same.nd rfl (by first | exact .inl rfl | exact .inr rfl))) (s_gcons (s_gname (pg_name (i := 3) sc__law_same.nd rfl (by first | exact .inl rfl | exact .inr rfl))) (s_gnil)))) (fun _ _ _ _ _ => sts_nil) (fun _ _ _ _ _ => s_callF (fn_at (fo__law_same T F hb n) hr F.kp hb) takes0 rfl T.g__law_same (s_cons (s_var 2 (pv 2)) (s_cons (s_var 3 (pv 3)) (s_nil))))))))))) (ss_nil)) (ss_cons (s_ifS (L2.PW.pt (s_wor (s_tisN (s_var 1 (pv 1))) (pw_or1 (s_truth rfl (s_isi2 rfl rfl T.b_isinstance bt_isinstance (pe_bltn rfl T.b_bool bt_bool rfl) (pe_bltn rfl T.b_str bt_str rfl) (s_var 1 (pv 1)) (tB_ok2 (by decide +kernel))))))) (ss_one (s_ret (s_and (s_cmp (op_eqM (hu64 hr)) s2_eq (s_var 0 (pv 0)) (s_var 1 (pv 1)) (nomark _)) (s_and (s_cmp (op_eqM (hu64 hr)) s2_eq (s_isi1 rfl rfl T.b_isinstance bt_isinstance (pe_bltn rfl T.b_bool bt_bool rfl) (s_var 0 (pv 0)) (tB_ok (by decide +kernel))) (s_isi1 rfl rfl T.b_isinstance bt_isinstance (pe_bltn rfl T.b_bool bt_bool rfl) (s_var 1 (pv 1)) (tB_ok (by decide +kernel))) (nomark _)) (pe_one (s_cmp (op_eqM (hu64 hr)) s2_eq (s_isN (s_var 0 (pv 0))) (s_isN (s_var 1 (pv 1))) (nomark _))))))) (ss_nil)) (ss_one (s_ret (s_and (s_isi1 rfl rfl T.b_isinstance bt_isinstance (pe_bltn rfl T.b_int bt_int rfl) (s_var 0 (pv 0)) (tB_ok (by decide +kernel))) (s_and (s_notT rfl (s_isi1 rfl rfl T.b_isinstance bt_isinstance (pe_bltn rfl T.b_bool bt_bool rfl) (s_var 0 (pv 0)) (tB_ok (by decide +kernel)))) (pe_one (s_cmp (op_eqM (hu64 hr)) s2_eq (s_var 0 (pv 0)) (s_var 1 (pv 1)) (nomark _))))))))
theorem ok__law_same (T : Tp K w sA sN mg) : FnP P w K mg base (Zk K w sA sN) 10 62 2 (F__law_same 10) := by
  obtain ⟨fd, F⟩ := T.d__law_same
  have hb : Binds K fd ["got", "due"] [] := F.bindsN fun _ _ _ _ _ _ us hl => match us, hl with | [_, _], _ => rfl
  exact ⟨fd, ["got", "due"], fo__law_same T F hb 10, F.kp, hb⟩
theorem sc__law_no_nets : FnScope ([] : List Str) ([] : List Str) (defScope (top 78)) := ⟨rfl, rfl, rfl, by decide +kernel, rfl, by decide +kernel, by decide +kernel⟩
theorem fo__law_no_nets (T : Tp K w sA sN mg) {fd : FuncData} (F : FunD K "_law_no_nets" "_law_no_nets" (defArgs (top 78)) (defBody (top 78)) (defScope (top 78)) [] [] ((Zk K w sA sN).φ 63) fd) : FnOk P w K mg base (L2.CX P w) 1 ((Zk K w sA sN).φ 63) fd ([] : List Str) (spM (Zk K w sA sN) 0 F__law_no_nets) :=
  def_ofD (k := 0) (b := B__law_no_nets) (n := 0) rfl F sc__law_no_nets rfl fun cdv A outer s H E hr tk => ss_one (s_ret (s_lst (s_cons (s_tup (s_nil)) (s_cons (s_non) (s_cons (s_int) (s_cons (s_str) (s_cons (s_tup (s_cons (s_int) (s_cons (s_int) (s_nil)))) (s_cons (s_tup (s_cons (s_int) (s_cons (s_int) (s_cons (s_tup (s_nil)) (s_nil))))) (s_cons (s_tup (s_cons (s_int) (s_cons (s_int) (s_cons (s_tup (s_nil)) (s_nil))))) (s_cons (s_tup (s_cons (s_int) (s_cons (s_int) (s_cons (s_tup (s_cons (s_tup (s_cons (s_int) (s_cons (s_int) (s_nil)))) (s_nil))) (s_nil))))) (s_cons (s_tup (s_cons (s_int) (s_cons (s_int) (s_cons (s_tup (s_cons (s_tup (s_cons (s_int) (s_cons (s_int) (s_nil)))) (s_cons (s_tup (s_cons (s_int) (s_cons (s_int) (s_nil)))) (s_nil)))) (s_nil))))) (s_cons (s_tup (s_cons (s_int) (s_cons (s_int) (s_cons (s_tup (s_cons (s_tup (s_cons (s_int) (s_cons (s_int) (s_nil)))) (s_cons (s_tup (s_cons (s_int) (s_cons (s_int) (s_nil)))) (s_nil)))) (s_nil))))) (s_cons (s_tup (s_cons (s_bl) (s_cons (s_int) (s_cons (s_tup (s_cons (s_tup (s_cons (s_int) (s_cons (s_int) (s_nil)))) (s_nil))) (s_nil))))) (s_cons (s_tup (s_cons (s_int) (s_cons (s_int) (s_cons (s_tup (s_cons (s_tup (s_cons (s_int) (s_cons (s_int) (s_nil)))) (s_nil))) (s_nil))))) (s_cons (s_tup (s_cons (s_int) (s_cons (s_int) (s_cons (s_tup (s_cons (s_tup (s_cons (s_int) (s_cons (s_int) (s_nil)))) (s_cons (s_tup (s_cons (s_int) (s_cons (s_int) (s_nil)))) (s_nil)))) (s_nil))))) (s_nil))))))))))))))))
theorem ok__law_no_nets (T : Tp K w sA sN mg) : FnP P w K mg base (Zk K w sA sN) 1 63 0 F__law_no_nets := by
  obtain ⟨fd, F⟩ := T.d__law_no_nets
  exact ⟨fd, ([] : List Str), fo__law_no_nets T F, F.kp, F.bindsN fun _ _ _ _ _ _ us hl => match us, hl with | [], _ => rfl⟩
theorem sc__law_asked : FnScope ["door_so", "goods_so", "doors_so"] ["door_so", "goods_so"] (defScope (top 79)) := ⟨rfl, rfl, rfl, by decide +kernel, rfl, by decide +kernel, by decide +kernel⟩
theorem fo__law_asked (T : Tp K w sA sN mg) (o_prices : FnP P w K mg base (Zk K w sA sN) 10 52 2 F_prices) (o_balance : FnP P w K mg base (Zk K w sA sN) 10 60 3 F_balance) (o_most_under : FnP P w K mg base (Zk K w sA sN) 10 57 3 F_most_under) (o_under : FnP P w K mg base (Zk K w sA sN) 10 56 3 F_under) (o_potentials : FnP P w K mg base (Zk K w sA sN) 10 53 3 F_potentials) (o_price : FnP P w K mg base (Zk K w sA sN) 10 51 3 F_price) (o_other_shares : FnP P w K mg base (Zk K w sA sN) 13 43 3 F_other_shares) (o_row_by_shares : FnP P w K mg base (Zk K w sA sN) 13 42 3 F_row_by_shares) (o_is_shares : FnP P w K mg base (Zk K w sA sN) 12 41 3 F_is_shares) (o_tree_shares : FnP P w K mg base (Zk K w sA sN) 10 37 3 F_tree_shares) (o_cost : FnP P w K mg base (Zk K w sA sN) 10 58 4 F_cost) (o_gap : FnP P w K mg base (Zk K w sA sN) 10 55 4 F_gap) (o_is_potentials : FnP P w K mg base (Zk K w sA sN) 11 54 4 F_is_potentials) (o_carried : FnP P w K mg base (Zk K w sA sN) 10 40 4 F_carried) (o_shares_round : FnP P w K mg base (Zk K w sA sN) 10 39 4 F_shares_round) (o_shares_by : FnP P w K mg base (Zk K w sA sN) 10 38 4 F_shares_by) (o_share : FnP P w K mg base (Zk K w sA sN) 10 36 4 F_share) (o_is_cheaper : FnP P w K mg base (Zk K w sA sN) 10 59 5 F_is_cheaper) {fd : FuncData} (F : FunD K "_law_asked" "_law_asked" (defArgs (top 79)) (defBody (top 79)) (defScope (top 79)) [] [] ((Zk K w sA sN).φ 64) fd) : FnOk P w K mg base (L2.CX P w) 14 ((Zk K w sA sN).φ 64) fd ["door_so", "goods_so"] (spM (Zk K w sA sN) 2 F__law_asked) :=
  def_ofD (k := 13) (b := B__law_asked) (n := 3) rfl F sc__law_asked rfl fun cdv A outer s H E hr tk => ss_cons (s_ifS (s_tcmp (op_eqM (hu64 hr)) s2_eq (s_var 0 (pv 0)) (s_int) (nomark _)) (ss_one (s_ret (s_callF (o_prices.at_ hr rfl) tk rfl T.g_prices (s_cons (s_ixM rfl (hu1 hr) (s_var 1 (pv 1)) (s_int)) (s_cons (s_ixM rfl (hu1 hr) (s_var 1 (pv 1)) (s_int)) (s_nil)))))) (ss_nil)) (ss_cons (s_ifS (s_tcmp (op_ltM (hu0 hr)) s2_ltM (s_var 0 (pv 0)) (s_int) (nomark _)) (ss_cons (s_set (i := 2) sc__law_asked.nd rfl (by first | exact .inl rfl | exact .inr rfl) (s_lst (s_cons (s_fn rfl T.g_price) (s_cons (s_fn rfl T.g_balance) (s_cons (s_fn rfl T.g_tree_shares) (s_cons (s_fn rfl T.g_is_shares) (s_cons (s_fn rfl T.g_row_by_shares) (s_cons (s_fn rfl T.g_other_shares) (s_cons (s_fn rfl T.g_potentials) (s_cons (s_fn rfl T.g_under) (s_cons (s_fn rfl T.g_most_under) (s_nil)))))))))))) (ss_one (s_ret (s_callV (tb_cons (o_tree_shares.at_ hr rfl) (tb_cons (o_is_shares.at_ hr rfl) (tb_cons (o_row_by_shares.at_ hr rfl) (tb_cons (o_other_shares.at_ hr rfl) (tb_cons (o_price.at_ hr rfl) (tb_cons (o_potentials.at_ hr rfl) (tb_cons (o_under.at_ hr rfl) (tb_cons (o_most_under.at_ hr rfl) (tb_cons (o_balance.at_ hr rfl) tb_nil))))))))) tk (s_ixM rfl (hu1 hr) (s_var 2 (pv 2)) (s_op op_sub s2_sub (s_var 0 (pv 0)) (s_int))) (s_cons (s_ixM rfl (hu1 hr) (s_var 1 (pv 1)) (s_int)) (s_cons (s_ixM rfl (hu1 hr) (s_var 1 (pv 1)) (s_int)) (s_cons (s_ixM rfl (hu1 hr) (s_var 1 (pv 1)) (s_int)) (s_nil)))))))) (ss_nil)) (ss_cons (s_ifS (s_tcmp (op_ltM (hu0 hr)) s2_ltM (s_var 0 (pv 0)) (s_int) (nomark _)) (ss_cons (s_set (i := 2) sc__law_asked.nd rfl (by first | exact .inl rfl | exact .inr rfl) (s_lst (s_cons (s_fn rfl T.g_share) (s_cons (s_fn rfl T.g_shares_by) (s_cons (s_fn rfl T.g_shares_round) (s_cons (s_fn rfl T.g_carried) (s_cons (s_fn rfl T.g_gap) (s_cons (s_fn rfl T.g_cost) (s_cons (s_fn rfl T.g_is_potentials) (s_nil)))))))))) (ss_one (s_ret (s_callV (tb_cons (o_share.at_ hr rfl) (tb_cons (o_shares_by.at_ hr rfl) (tb_cons (o_shares_round.at_ hr rfl) (tb_cons (o_carried.at_ hr rfl) (tb_cons (o_is_potentials.at_ hr rfl) (tb_cons (o_gap.at_ hr rfl) (tb_cons (o_cost.at_ hr rfl) tb_nil))))))) tk (s_ixM rfl (hu1 hr) (s_var 2 (pv 2)) (s_op op_sub s2_sub (s_var 0 (pv 0)) (s_int))) (s_cons (s_ixM rfl (hu1 hr) (s_var 1 (pv 1)) (s_int)) (s_cons (s_ixM rfl (hu1 hr) (s_var 1 (pv 1)) (s_int)) (s_cons (s_ixM rfl (hu1 hr) (s_var 1 (pv 1)) (s_int)) (s_cons (s_ixM rfl (hu1 hr) (s_var 1 (pv 1)) (s_int)) (s_nil))))))))) (ss_nil)) (ss_one (s_ret (s_callF (o_is_cheaper.at_ hr rfl) tk rfl T.g_is_cheaper (s_cons (s_ixM rfl (hu1 hr) (s_var 1 (pv 1)) (s_int)) (s_cons (s_ixM rfl (hu1 hr) (s_var 1 (pv 1)) (s_int)) (s_cons (s_ixM rfl (hu1 hr) (s_var 1 (pv 1)) (s_int)) (s_cons (s_ixM rfl (hu1 hr) (s_var 1 (pv 1)) (s_int)) (s_cons (s_ixM rfl (hu1 hr) (s_var 1 (pv 1)) (s_int)) (s_nil)))))))))))
theorem ok__law_asked (T : Tp K w sA sN mg) (o_prices : FnP P w K mg base (Zk K w sA sN) 10 52 2 F_prices) (o_balance : FnP P w K mg base (Zk K w sA sN) 10 60 3 F_balance) (o_most_under : FnP P w K mg base (Zk K w sA sN) 10 57 3 F_most_under) (o_under : FnP P w K mg base (Zk K w sA sN) 10 56 3 F_under) (o_potentials : FnP P w K mg base (Zk K w sA sN) 10 53 3 F_potentials) (o_price : FnP P w K mg base (Zk K w sA sN) 10 51 3 F_price) (o_other_shares : FnP P w K mg base (Zk K w sA sN) 13 43 3 F_other_shares) (o_row_by_shares : FnP P w K mg base (Zk K w sA sN) 13 42 3 F_row_by_shares) (o_is_shares : FnP P w K mg base (Zk K w sA sN) 12 41 3 F_is_shares) (o_tree_shares : FnP P w K mg base (Zk K w sA sN) 10 37 3 F_tree_shares) (o_cost : FnP P w K mg base (Zk K w sA sN) 10 58 4 F_cost) (o_gap : FnP P w K mg base (Zk K w sA sN) 10 55 4 F_gap) (o_is_potentials : FnP P w K mg base (Zk K w sA sN) 11 54 4 F_is_potentials) (o_carried : FnP P w K mg base (Zk K w sA sN) 10 40 4 F_carried) (o_shares_round : FnP P w K mg base (Zk K w sA sN) 10 39 4 F_shares_round) (o_shares_by : FnP P w K mg base (Zk K w sA sN) 10 38 4 F_shares_by) (o_share : FnP P w K mg base (Zk K w sA sN) 10 36 4 F_share) (o_is_cheaper : FnP P w K mg base (Zk K w sA sN) 10 59 5 F_is_cheaper) : FnP P w K mg base (Zk K w sA sN) 14 64 2 F__law_asked := by
  obtain ⟨fd, F⟩ := T.d__law_asked
  exact ⟨fd, ["door_so", "goods_so"], fo__law_asked T o_prices o_balance o_most_under o_under o_potentials o_price o_other_shares o_row_by_shares o_is_shares o_tree_shares o_cost o_gap o_is_potentials o_carried o_shares_round o_shares_by o_share o_is_cheaper F, F.kp, F.bindsN fun _ _ _ _ _ _ us hl => match us, hl with | [_, _], _ => rfl⟩
theorem sc__law_reply : FnScope ["door_so", "goods_so", "told", "error_a", "error_b", "error_c", "error_d"] ["door_so", "goods_so"] (defScope (top 80)) := ⟨rfl, rfl, rfl, by decide +kernel, rfl, by decide +kernel, by decide +kernel⟩
theorem fo__law_reply (T : Tp K w sA sN mg) (o__law_asked : FnP P w K mg base (Zk K w sA sN) 14 64 2 F__law_asked) {fd : FuncData} (F : FunD K "_law_reply" "_law_reply" (defArgs (top 80)) (defBody (top 80)) (defScope (top 80)) [] [] ((Zk K w sA sN).φ 65) fd) : FnOk P w K mg base (L2.CX P w) 15 ((Zk K w sA sN).φ 65) fd ["door_so", "goods_so"] (spM (Zk K w sA sN) 2 F__law_reply) :=
  def_ofD (k := 14) (b := B__law_reply) (n := 7) rfl F sc__law_reply rfl fun cdv A outer s H E hr tk => ss_cons (s_set (i := 2) sc__law_reply.nd rfl (by first | exact .inl rfl | exact .inr rfl) (s_str)) (ss_cons (s_try rfl rfl sc__law_reply.nd tk (fun W pn xe tkW po => ss_one (s_set (i := 2) sc__law_reply.nd rfl (by first | exact .inl rfl | exact .inr rfl) (s_callF (o__law_asked.at_ hr rfl) tkW rfl T.g__law_asked (s_cons (s_var 0 (pv 0)) (s_cons (s_var 1 (pv 1)) (s_nil)))))) (.named (i := 3) ⟨rfl, by decide, .inl T.k_CanNot⟩ rfl rfl (fun a oe cls d pn hz hv => xs_set (Z := Zk K w sA sN) (i := some 3) (a := a) (cls := cls) (dd := d) (j := 2) sc__law_reply.nd rfl (by first | exact .inl rfl | exact .inr rfl) (x_cons (x_C pe_str fun _ _ _ => .str _) (x_cons (x_isi hz hv rfl T.b_isinstance bt_isinstance (pv 3) (pe_bltn rfl T.b_ValueError bt_ValueError rfl) T.ex_ValueError T.ki_ValueError) (x_nil)))) (.named (i := 4) ⟨rfl, by decide, .inl T.k_NoTie⟩ rfl rfl (fun a oe cls d pn hz hv => xs_set (Z := Zk K w sA sN) (i := some 4) (a := a) (cls := cls) (dd := d) (j := 2) sc__law_reply.nd rfl (by first | exact .inl rfl | exact .inr rfl) (x_cons (x_C pe_str fun _ _ _ => .str _) (x_cons (x_fld (c0 := 1) hz hv T.f_NoTie T.n_NoTie rfl (pv 4)) (x_cons (x_isi hz hv rfl T.b_isinstance bt_isinstance (pv 4) (pe_bltn rfl T.b_LookupError bt_LookupError rfl) T.ex_LookupError T.ki_LookupError) (x_nil))))) (.named (i := 5) ⟨rfl, by decide, .inl T.k_NoPlace⟩ rfl rfl (fun a oe cls d pn hz hv => xs_set (Z := Zk K w sA sN) (i := some 5) (a := a) (cls := cls) (dd := d) (j := 2) sc__law_reply.nd rfl (by first | exact .inl rfl | exact .inr rfl) (x_cons (x_C pe_str fun _ _ _ => .str _) (x_cons (x_fld (c0 := 0) hz hv T.f_NoPlace T.n_NoPlace rfl (pv 5)) (x_cons (x_isi hz hv rfl T.b_isinstance bt_isinstance (pv 5) (pe_bltn rfl T.b_LookupError bt_LookupError rfl) T.ex_LookupError T.ki_LookupError) (x_nil))))) (.named (i := 6) ⟨rfl, by decide, .inl T.k_Unfit⟩ rfl rfl (fun a oe cls d pn hz hv => xs_set (Z := Zk K w sA sN) (i := some 6) (a := a) (cls := cls) (dd := d) (j := 2) sc__law_reply.nd rfl (by first | exact .inl rfl | exact .inr rfl) (x_cons (x_C pe_str fun _ _ _ => .str _) (x_cons (x_isi hz hv rfl T.b_isinstance bt_isinstance (pv 6) (pe_bltn rfl T.b_ValueError bt_ValueError rfl) T.ex_ValueError T.ki_ValueError) (x_nil)))) (.nil))))) (.cons (q := ⟨exmT 2, some 3, smSet 2 [amC (.str "cannot"), amI kiT_ValueError]⟩) T.m_CanNot (.cons (q := ⟨exmT 1, some 4, smSet 2 [amC (.str "tie"), amF 1, amI kiT_LookupError]⟩) T.m_NoTie (.cons (q := ⟨exmT 0, some 5, smSet 2 [amC (.str "place"), amF 0, amI kiT_LookupError]⟩) T.m_NoPlace (.cons (q := ⟨exmT 3, some 6, smSet 2 [amC (.str "unfit"), amI kiT_ValueError]⟩) T.m_Unfit (.nil)))))) (ss_one (s_ret (s_var 2 (pv 2)))))
theorem ok__law_reply (T : Tp K w sA sN mg) (o__law_asked : FnP P w K mg base (Zk K w sA sN) 14 64 2 F__law_asked) : FnP P w K mg base (Zk K w sA sN) 15 65 2 F__law_reply := by
  obtain ⟨fd, F⟩ := T.d__law_reply
  exact ⟨fd, ["door_so", "goods_so"], fo__law_reply T o__law_asked F, F.kp, F.bindsN fun _ _ _ _ _ _ us hl => match us, hl with | [_, _], _ => rfl⟩
theorem sc__law_front_right : FnScope ["one_so", "goods_so", "got", "due", "line_so", "fan_so", "own"] ([] : List Str) (defScope (top 81)) := ⟨rfl, rfl, rfl, by decide +kernel, rfl, by decide +kernel, by decide +kernel⟩
theorem fo__law_front_right (T : Tp K w sA sN mg) (o_carried : FnP P w K mg base (Zk K w sA sN) 10 40 4 F_carried) (o_shares_by : FnP P w K mg base (Zk K w sA sN) 10 38 4 F_shares_by) (o_tree_shares : FnP P w K mg base (Zk K w sA sN) 10 37 3 F_tree_shares) (o__law_reply : FnP P w K mg base (Zk K w sA sN) 15 65 2 F__law_reply) (o_under : FnP P w K mg base (Zk K w sA sN) 10 56 3 F_under) (o_potentials : FnP P w K mg base (Zk K w sA sN) 10 53 3 F_potentials) (o_row_by_shares : FnP P w K mg base (Zk K w sA sN) 13 42 3 F_row_by_shares) (o_shares_round : FnP P w K mg base (Zk K w sA sN) 10 39 4 F_shares_round) (o_cost : FnP P w K mg base (Zk K w sA sN) 10 58 4 F_cost) (o__law_same : FnP P w K mg base (Zk K w sA sN) 10 62 2 (F__law_same 10)) {fd : FuncData} (F : FunD K "_law_front_right" "_law_front_right" (defArgs (top 81)) (defBody (top 81)) (defScope (top 81)) [] [] ((Zk K w sA sN).φ 66) fd) : FnOk P w K mg base (L2.CX P w) 16 ((Zk K w sA sN).φ 66) fd ([] : List Str) (spM (Zk K w sA sN) 0 F__law_front_right) :=
  def_ofD (k := 15) (b := B__law_front_right) (n := 7) rfl F sc__law_front_right rfl fun cdv A outer s H E hr tk => ss_cons (s_set (i := 0) sc__law_front_right.nd rfl (by first | exact .inl rfl | exact .inr rfl) (s_tup (s_cons (s_int) (s_cons (s_int) (s_cons (s_tup (s_cons (s_tup (s_cons (s_int) (s_cons (s_int) (s_nil)))) (s_nil))) (s_nil)))))) (ss_cons (s_set (i := 1) sc__law_front_right.nd rfl (by first | exact .inl rfl | exact .inr rfl) (s_tup (s_cons (s_var 0 (pv 0)) (s_cons (s_ixM rfl (hu1 hr) (s_var 0 (pv 0)) (s_int)) (s_cons (s_ixM rfl (hu1 hr) (s_var 0 (pv 0)) (s_int)) (s_nil)))))) (ss_cons (s_set (i := 2) sc__law_front_right.nd rfl (by first | exact .inl rfl | exact .inr rfl) (s_lst (s_cons (s_callF (o_tree_shares.at_ hr rfl) tk rfl T.g_tree_shares (s_cons (s_var 0 (pv 0)) (s_cons (s_ixM rfl (hu1 hr) (s_var 0 (pv 0)) (s_int)) (s_cons (s_int) (s_nil))))) (s_cons (s_callF (o_shares_by.at_ hr rfl) tk rfl T.g_shares_by (s_cons (s_var 0 (pv 0)) (s_cons (s_ixM rfl (hu1 hr) (s_var 0 (pv 0)) (s_int)) (s_cons (s_ixM rfl (hu1 hr) (s_var 0 (pv 0)) (s_int)) (s_cons (s_int) (s_nil)))))) (s_cons (s_callF (o_carried.at_ hr rfl) tk rfl T.g_carried (s_cons (s_var 0 (pv 0)) (s_cons (s_ixM rfl (hu1 hr) (s_var 0 (pv 0)) (s_int)) (s_cons (s_tup (s_cons (s_int) (s_cons (s_int) (s_nil)))) (s_cons (s_int) (s_nil)))))) (s_nil)))))) (ss_cons (s_set (i := 2) sc__law_front_right.nd rfl (by first | exact .inl rfl | exact .inr rfl) (s_op op_addM s2_add (s_var 2 (pv 2)) (s_lst (s_cons (s_callF (o_potentials.at_ hr rfl) tk rfl T.g_potentials (s_cons (s_var 0 (pv 0)) (s_cons (s_ixM rfl (hu1 hr) (s_var 0 (pv 0)) (s_int)) (s_cons (s_ixM rfl (hu1 hr) (s_var 0 (pv 0)) (s_int)) (s_nil))))) (s_cons (s_callF (o_under.at_ hr rfl) tk rfl T.g_under (s_cons (s_var 0 (pv 0)) (s_cons (s_ixM rfl (hu1 hr) (s_var 0 (pv 0)) (s_int)) (s_cons (s_ixM rfl (hu1 hr) (s_var 0 (pv 0)) (s_int)) (s_nil))))) (s_cons (s_callF (o__law_reply.at_ hr rfl) tk rfl T.g__law_reply (s_cons (s_int) (s_cons (s_var 1 (pv 1)) (s_nil)))) (s_nil))))))) (ss_cons (s_set (i := 3) sc__law_front_right.nd rfl (by first | exact .inl rfl | exact .inr rfl) (s_lst (s_cons (s_tup (s_cons (s_tup (s_cons (s_tup (s_cons (s_int) (s_cons (s_int) (s_nil)))) (s_cons (s_int) (s_nil)))) (s_nil))) (s_cons (s_tup (s_cons (s_int) (s_nil))) (s_cons (s_tup (s_cons (s_int) (s_cons (s_int) (s_nil)))) (s_cons (s_tup (s_cons (s_tup (s_cons (s_int) (s_nil))) (s_cons (s_tup (s_cons (s_int) (s_nil))) (s_nil)))) (s_cons (s_tup (s_nil)) (s_cons (s_lst (s_cons (s_str) (s_cons (s_bl) (s_nil)))) (s_nil))))))))) (ss_cons (s_set (i := 4) sc__law_front_right.nd rfl (by first | exact .inl rfl | exact .inr rfl) (s_tup (s_cons (s_int) (s_cons (s_int) (s_cons (s_tup (s_cons (s_tup (s_cons (s_int) (s_cons (s_int) (s_nil)))) (s_cons (s_tup (s_cons (s_int) (s_cons (s_int) (s_nil)))) (s_cons (s_tup (s_cons (s_int) (s_cons (s_int) (s_nil)))) (s_cons (s_tup (s_cons (s_int) (s_cons (s_int) (s_nil)))) (s_nil)))))) (s_nil)))))) (ss_cons (s_set (i := 2) sc__law_front_right.nd rfl (by first | exact .inl rfl | exact .inr rfl) (s_op op_addM s2_add (s_var 2 (pv 2)) (s_lst (s_cons (s_callF (o_tree_shares.at_ hr rfl) tk rfl T.g_tree_shares (s_cons (s_var 4 (pv 4)) (s_cons (s_ixM rfl (hu1 hr) (s_var 4 (pv 4)) (s_int)) (s_cons (s_int) (s_nil))))) (s_cons (s_callF (o_tree_shares.at_ hr rfl) tk rfl T.g_tree_shares (s_cons (s_var 4 (pv 4)) (s_cons (s_ixM rfl (hu1 hr) (s_var 4 (pv 4)) (s_int)) (s_cons (s_int) (s_nil))))) (s_nil)))))) (ss_cons (s_set (i := 2) sc__law_front_right.nd rfl (by first | exact .inl rfl | exact .inr rfl) (s_op op_addM s2_add (s_var 2 (pv 2)) (s_lst (s_cons (s_callF (o_row_by_shares.at_ hr rfl) tk rfl T.g_row_by_shares (s_cons (s_var 4 (pv 4)) (s_cons (s_int) (s_cons (s_callF (o_tree_shares.at_ hr rfl) tk rfl T.g_tree_shares (s_cons (s_var 4 (pv 4)) (s_cons (s_ixM rfl (hu1 hr) (s_var 4 (pv 4)) (s_int)) (s_cons (s_int) (s_nil))))) (s_nil))))) (s_cons (s_callF (o_potentials.at_ hr rfl) tk rfl T.g_potentials (s_cons (s_var 4 (pv 4)) (s_cons (s_ixM rfl (hu1 hr) (s_var 4 (pv 4)) (s_int)) (s_cons (s_ixM rfl (hu1 hr) (s_var 4 (pv 4)) (s_int)) (s_nil))))) (s_nil)))))) (ss_cons (s_set (i := 3) sc__law_front_right.nd rfl (by first | exact .inl rfl | exact .inr rfl) (s_op op_addM s2_add (s_var 3 (pv 3)) (s_lst (s_cons (s_tup (s_cons (s_tup (s_cons (s_tup (s_cons (s_int) (s_cons (s_int) (s_nil)))) (s_cons (s_int) (s_nil)))) (s_cons (s_tup (s_cons (s_tup (s_cons (s_int) (s_cons (s_int) (s_nil)))) (s_cons (s_int) (s_nil)))) (s_cons (s_tup (s_cons (s_tup (s_cons (s_int) (s_cons (s_int) (s_nil)))) (s_cons (s_int) (s_nil)))) (s_cons (s_tup (s_cons (s_tup (s_cons (s_int) (s_cons (s_int) (s_nil)))) (s_cons (s_int) (s_nil)))) (s_nil)))))) (s_cons (s_tup (s_cons (s_tup (s_cons (s_tup (s_cons (s_int) (s_cons (s_int) (s_nil)))) (s_cons (s_int) (s_nil)))) (s_cons (s_tup (s_cons (s_tup (s_cons (s_int) (s_cons (s_int) (s_nil)))) (s_cons (s_int) (s_nil)))) (s_cons (s_tup (s_cons (s_tup (s_cons (s_int) (s_cons (s_int) (s_nil)))) (s_cons (s_int) (s_nil)))) (s_cons (s_tup (s_cons (s_tup (s_cons (s_int) (s_cons (s_int) (s_nil)))) (s_cons (s_int) (s_nil)))) (s_nil)))))) (s_cons (s_tup (s_cons (s_int) (s_cons (s_int) (s_cons (s_int) (s_nil))))) (s_cons (s_tup (s_cons (s_tup (s_cons (s_int) (s_cons (s_neg (s_int)) (s_cons (s_neg (s_int)) (s_nil))))) (s_cons (s_tup (s_cons (s_int) (s_cons (s_int) (s_nil)))) (s_nil)))) (s_nil)))))))) (ss_cons (s_set (i := 5) sc__law_front_right.nd rfl (by first | exact .inl rfl | exact .inr rfl) (s_tup (s_cons (s_int) (s_cons (s_int) (s_cons (s_ctyT call_tuple_of ct_tuple rfl T.b_tuple bt_tuple (s_lc (own := [("own", 6)]) rfl sc__law_front_right.nd (s_iR1 rfl T.b_range (s_cons (s_int) (s_nil))) (blkOk_by (N := ["one_so", "goods_so", "got", "due", "line_so", "fan_so", "own"]) (sc := defScope (top 81)) (own := [("own", 6)]) (by decide +kernel)) (fun _ _ _ _ _ => s_gname (pg_name (i := 6) sc__law_front_right.nd rfl (by first | exact .inl rfl | exact .inr rfl))) (fun _ _ _ _ _ => sts_nil) (fun _ _ _ _ _ => s_tup (s_cons (s_int) (s_cons (s_var 6 (pv 6)) (s_nil)))))) (s_nil)))))) (ss_cons (s_set (i := 2) sc__law_front_right.nd rfl (by first | exact .inl rfl | exact .inr rfl) (s_op op_addM s2_add (s_var 2 (pv 2)) (s_lst (s_cons (s_callF (o_tree_shares.at_ hr rfl) tk rfl T.g_tree_shares (s_cons (s_var 5 (pv 5)) (s_cons (s_ixM rfl (hu1 hr) (s_var 5 (pv 5)) (s_int)) (s_cons (s_int) (s_nil))))) (s_cons (s_callF (o_shares_round.at_ hr rfl) tk rfl T.g_shares_round (s_cons (s_var 5 (pv 5)) (s_cons (s_ixM rfl (hu1 hr) (s_var 5 (pv 5)) (s_int)) (s_cons (s_int) (s_cons (s_tup (s_cons (s_int) (s_cons (s_int) (s_nil)))) (s_nil)))))) (s_cons (s_callF (o_carried.at_ hr rfl) tk rfl T.g_carried (s_cons (s_var 5 (pv 5)) (s_cons (s_ixM rfl (hu1 hr) (s_var 5 (pv 5)) (s_int)) (s_cons (s_tup (s_cons (s_int) (s_cons (s_int) (s_nil)))) (s_cons (s_int) (s_nil)))))) (s_nil))))))) (ss_cons (s_set (i := 2) sc__law_front_right.nd rfl (by first | exact .inl rfl | exact .inr rfl) (s_op op_addM s2_add (s_var 2 (pv 2)) (s_lst (s_cons (s_callF (o_cost.at_ hr rfl) tk rfl T.g_cost (s_cons (s_var 5 (pv 5)) (s_cons (s_ixM rfl (hu1 hr) (s_var 5 (pv 5)) (s_int)) (s_cons (s_ixM rfl (hu1 hr) (s_var 5 (pv 5)) (s_int)) (s_cons (s_int) (s_nil)))))) (s_cons (s_callF (o__law_reply.at_ hr rfl) tk rfl T.g__law_reply (s_cons (s_int) (s_cons (s_tup (s_cons (s_var 5 (pv 5)) (s_cons (s_ixM rfl (hu1 hr) (s_var 5 (pv 5)) (s_int)) (s_cons (s_tup (s_cons (s_int) (s_cons (s_int) (s_cons (s_int) (s_cons (s_int) (s_nil)))))) (s_nil))))) (s_nil)))) (s_nil)))))) (ss_one (s_ret (s_callF (o__law_same.at_ hr rfl) tk rfl T.g__law_same (s_cons (s_var 2 (pv 2)) (s_cons (s_op op_addM s2_add (s_var 3 (pv 3)) (s_lst (s_cons (s_ctyT call_tuple_of ct_tuple rfl T.b_tuple bt_tuple (s_lc (own := [("own", 6)]) rfl sc__law_front_right.nd (s_iS rfl (s_ixM rfl (hu1 hr) (s_var 5 (pv 5)) (s_int))) (blkOk_by (N := ["one_so", "goods_so", "got", "due", "line_so", "fan_so", "own"]) (sc := defScope (top 81)) (own := [("own", 6)]) (by decide +kernel)) (fun _ _ _ _ _ => s_gname (pg_name (i := 6) sc__law_front_right.nd rfl (by first | exact .inl rfl | exact .inr rfl))) (fun _ _ _ _ _ => sts_nil) (fun _ _ _ _ _ => s_tup (s_cons (s_var 6 (pv 6)) (s_cons (s_int) (s_nil)))))) (s_cons (s_int) (s_cons (s_tup (s_cons (s_int) (s_cons (s_int) (s_nil)))) (s_cons (s_int) (s_cons (s_lst (s_cons (s_str) (s_cons (s_bl) (s_nil)))) (s_nil)))))))) (s_nil)))))))))))))))))
theorem ok__law_front_right (T : Tp K w sA sN mg) (o_carried : FnP P w K mg base (Zk K w sA sN) 10 40 4 F_carried) (o_shares_by : FnP P w K mg base (Zk K w sA sN) 10 38 4 F_shares_by) (o_tree_shares : FnP P w K mg base (Zk K w sA sN) 10 37 3 F_tree_shares) (o__law_reply : FnP P w K mg base (Zk K w sA sN) 15 65 2 F__law_reply) (o_under : FnP P w K mg base (Zk K w sA sN) 10 56 3 F_under) (o_potentials : FnP P w K mg base (Zk K w sA sN) 10 53 3 F_potentials) (o_row_by_shares : FnP P w K mg base (Zk K w sA sN) 13 42 3 F_row_by_shares) (o_shares_round : FnP P w K mg base (Zk K w sA sN) 10 39 4 F_shares_round) (o_cost : FnP P w K mg base (Zk K w sA sN) 10 58 4 F_cost) (o__law_same : FnP P w K mg base (Zk K w sA sN) 10 62 2 (F__law_same 10)) : FnP P w K mg base (Zk K w sA sN) 16 66 0 F__law_front_right := by
  obtain ⟨fd, F⟩ := T.d__law_front_right
  exact ⟨fd, ([] : List Str), fo__law_front_right T o_carried o_shares_by o_tree_shares o__law_reply o_under o_potentials o_row_by_shares o_shares_round o_cost o__law_same F, F.kp, F.bindsN fun _ _ _ _ _ _ us hl => match us, hl with | [], _ => rfl⟩
theorem sc__law_others_right : FnScope ["wide", "bent_so", "rising", "got", "due", "k", "own"] ([] : List Str) (defScope (top 82)) := ⟨rfl, rfl, rfl, by decide +kernel, rfl, by decide +kernel, by decide +kernel⟩
theorem fo__law_others_right (T : Tp K w sA sN mg) (o__law_reply : FnP P w K mg base (Zk K w sA sN) 15 65 2 F__law_reply) (o__law_same : FnP P w K mg base (Zk K w sA sN) 10 62 2 (F__law_same 10)) {fd : FuncData} (F : FunD K "_law_others_right" "_law_others_right" (defArgs (top 82)) (defBody (top 82)) (defScope (top 82)) [] [] ((Zk K w sA sN).φ 67) fd) : FnOk P w K mg base (L2.CX P w) 16 ((Zk K w sA sN).φ 67) fd ([] : List Str) (spM (Zk K w sA sN) 0 F__law_others_right) :=
  def_ofD (k := 15) (b := B__law_others_right) (n := 7) rfl F sc__law_others_right rfl fun cdv A outer s H E hr tk => ss_cons (s_set (i := 0) sc__law_others_right.nd rfl (by first | exact .inl rfl | exact .inr rfl) (s_tup (s_cons (s_int) (s_cons (s_int) (s_cons (s_tup (s_cons (s_tup (s_cons (s_int) (s_cons (s_int) (s_nil)))) (s_cons (s_tup (s_cons (s_int) (s_cons (s_int) (s_nil)))) (s_cons (s_tup (s_cons (s_int) (s_cons (s_int) (s_nil)))) (s_cons (s_tup (s_cons (s_int) (s_cons (s_int) (s_nil)))) (s_cons (s_tup (s_cons (s_int) (s_cons (s_int) (s_nil)))) (s_cons (s_tup (s_cons (s_int) (s_cons (s_int) (s_nil)))) (s_nil)))))))) (s_nil)))))) (ss_cons (s_asg (s_tup (s_cons (s_tup (s_cons (s_tup (s_cons (s_int) (s_cons (s_int) (s_nil)))) (s_cons (s_tup (s_cons (s_int) (s_cons (s_int) (s_nil)))) (s_cons (s_tup (s_cons (s_int) (s_cons (s_int) (s_nil)))) (s_cons (s_tup (s_cons (s_int) (s_cons (s_int) (s_nil)))) (s_nil)))))) (s_cons (s_ixM rfl (hu1 hr) (s_var 0 (pv 0)) (s_int)) (s_nil)))) (s_gtup rfl (s_gcons (s_gname (pg_name (i := 1) sc__law_others_right.nd rfl (by first | exact .inl rfl | exact .inr rfl))) (s_gcons (s_gname (pg_name (i := 2) sc__law_others_right.nd rfl (by first | exact .inl rfl | exact .inr rfl))) (s_gnil))))) (ss_cons (s_set (i := 3) sc__law_others_right.nd rfl (by first | exact .inl rfl | exact .inr rfl) (s_op op_addM s2_add (s_alloc (s_lc (own := [("k", 5)]) rfl sc__law_others_right.nd (s_iS rfl (s_tup (s_cons (s_int) (s_cons (s_int) (s_nil))))) (blkOk_by (N := ["wide", "bent_so", "rising", "got", "due", "k", "own"]) (sc := defScope (top 82)) (own := [("k", 5)]) (by decide +kernel)) (fun _ _ _ _ _ => s_gname (pg_name (i := 5) sc__law_others_right.nd rfl (by first | exact .inl rfl | exact .inr rfl))) (fun _ _ _ _ _ => sts_nil) (fun _ _ _ _ _ => s_callF (o__law_reply.at_ hr rfl) takes0 rfl T.g__law_reply (s_cons (s_var 5 (pv 5)) (s_cons (s_tup (s_cons (s_var 0 (pv 0)) (s_cons (s_var 1 (pv 1)) (s_cons (s_tup (s_cons (s_int) (s_cons (s_int) (s_nil)))) (s_cons (s_int) (s_nil)))))) (s_nil)))))) (s_alloc (s_lc (own := [("k", 5)]) rfl sc__law_others_right.nd (s_iS rfl (s_tup (s_cons (s_int) (s_cons (s_int) (s_nil))))) (blkOk_by (N := ["wide", "bent_so", "rising", "got", "due", "k", "own"]) (sc := defScope (top 82)) (own := [("k", 5)]) (by decide +kernel)) (fun _ _ _ _ _ => s_gname (pg_name (i := 5) sc__law_others_right.nd rfl (by first | exact .inl rfl | exact .inr rfl))) (fun _ _ _ _ _ => sts_nil) (fun _ _ _ _ _ => s_callF (o__law_reply.at_ hr rfl) takes0 rfl T.g__law_reply (s_cons (s_var 5 (pv 5)) (s_cons (s_tup (s_cons (s_var 0 (pv 0)) (s_cons (s_var 1 (pv 1)) (s_cons (s_tup (s_cons (s_int) (s_cons (s_int) (s_nil)))) (s_cons (s_int) (s_nil)))))) (s_nil)))))))) (ss_cons (s_set (i := 4) sc__law_others_right.nd rfl (by first | exact .inl rfl | exact .inr rfl) (s_op op_addM s2_add (s_op op_mulMT s2_mulT (s_lst (s_cons (s_lst (s_cons (s_str) (s_cons (s_bl) (s_nil)))) (s_nil))) (s_int)) (s_op op_mulMT s2_mulT (s_lst (s_cons (s_lst (s_cons (s_str) (s_cons (s_tup (s_cons (s_int) (s_cons (s_int) (s_nil)))) (s_cons (s_bl) (s_nil))))) (s_nil))) (s_int)))) (ss_cons (s_set (i := 3) sc__law_others_right.nd rfl (by first | exact .inl rfl | exact .inr rfl) (s_op op_addM s2_add (s_var 3 (pv 3)) (s_lst (s_cons (s_callF (o__law_reply.at_ hr rfl) tk rfl T.g__law_reply (s_cons (s_int) (s_cons (s_tup (s_cons (s_var 0 (pv 0)) (s_cons (s_var 2 (pv 2)) (s_cons (s_tup (s_cons (s_int) (s_cons (s_neg (s_int)) (s_nil)))) (s_nil))))) (s_nil)))) (s_cons (s_callF (o__law_reply.at_ hr rfl) tk rfl T.g__law_reply (s_cons (s_int) (s_cons (s_tup (s_cons (s_var 0 (pv 0)) (s_cons (s_var 1 (pv 1)) (s_cons (s_var 2 (pv 2)) (s_cons (s_tup (s_cons (s_int) (s_cons (s_int) (s_nil)))) (s_nil)))))) (s_nil)))) (s_nil)))))) (ss_cons (s_set (i := 4) sc__law_others_right.nd rfl (by first | exact .inl rfl | exact .inr rfl) (s_op op_addM s2_add (s_var 4 (pv 4)) (s_lst (s_cons (s_lst (s_cons (s_str) (s_cons (s_tup (s_cons (s_int) (s_cons (s_neg (s_int)) (s_nil)))) (s_cons (s_bl) (s_nil))))) (s_cons (s_lst (s_cons (s_str) (s_cons (s_tup (s_cons (s_int) (s_cons (s_int) (s_nil)))) (s_cons (s_bl) (s_nil))))) (s_nil)))))) (ss_cons (s_set (i := 3) sc__law_others_right.nd rfl (by first | exact .inl rfl | exact .inr rfl) (s_op op_addM s2_add (s_var 3 (pv 3)) (s_alloc (s_lc (own := [("own", 6)]) rfl sc__law_others_right.nd (s_iS rfl (s_tup (s_cons (s_tup (s_cons (s_int) (s_cons (s_int) (s_nil)))) (s_cons (s_tup (s_cons (s_int) (s_cons (s_int) (s_nil)))) (s_cons (s_tup (s_cons (s_int) (s_cons (s_neg (s_int)) (s_nil)))) (s_nil)))))) (blkOk_by (N := ["wide", "bent_so", "rising", "got", "due", "k", "own"]) (sc := defScope (top 82)) (own := [("own", 6)]) (by decide +kernel)) (fun _ _ _ _ _ => s_gname (pg_name (i := 6) sc__law_others_right.nd rfl (by first | exact .inl rfl | exact .inr rfl))) (fun _ _ _ _ _ => sts_nil) (fun _ _ _ _ _ => s_callF (o__law_reply.at_ hr rfl) takes0 rfl T.g__law_reply (s_cons (s_int) (s_cons (s_tup (s_cons (s_var 0 (pv 0)) (s_cons (s_var 1 (pv 1)) (s_cons (s_int) (s_cons (s_var 6 (pv 6)) (s_nil)))))) (s_nil)))))))) (ss_one (s_ret (s_callF (o__law_same.at_ hr rfl) tk rfl T.g__law_same (s_cons (s_var 3 (pv 3)) (s_cons (s_op op_addM s2_add (s_var 4 (pv 4)) (s_lst (s_cons (s_lst (s_cons (s_str) (s_cons (s_tup (s_cons (s_int) (s_cons (s_int) (s_nil)))) (s_cons (s_bl) (s_nil))))) (s_cons (s_lst (s_cons (s_str) (s_cons (s_tup (s_cons (s_int) (s_cons (s_int) (s_nil)))) (s_cons (s_bl) (s_nil))))) (s_cons (s_lst (s_cons (s_str) (s_cons (s_tup (s_cons (s_int) (s_cons (s_neg (s_int)) (s_nil)))) (s_cons (s_bl) (s_nil))))) (s_nil)))))) (s_nil))))))))))))
theorem ok__law_others_right (T : Tp K w sA sN mg) (o__law_reply : FnP P w K mg base (Zk K w sA sN) 15 65 2 F__law_reply) (o__law_same : FnP P w K mg base (Zk K w sA sN) 10 62 2 (F__law_same 10)) : FnP P w K mg base (Zk K w sA sN) 16 67 0 F__law_others_right := by
  obtain ⟨fd, F⟩ := T.d__law_others_right
  exact ⟨fd, ([] : List Str), fo__law_others_right T o__law_reply o__law_same F, F.kp, F.bindsN fun _ _ _ _ _ _ us hl => match us, hl with | [], _ => rfl⟩
theorem sc__law_refused_right : FnScope ["wide", "bent_so", "rising", "got", "own", "k"] ([] : List Str) (defScope (top 83)) := ⟨rfl, rfl, rfl, by decide +kernel, rfl, by decide +kernel, by decide +kernel⟩
theorem fo__law_refused_right (T : Tp K w sA sN mg) (o__law_no_nets : FnP P w K mg base (Zk K w sA sN) 1 63 0 F__law_no_nets) (o__law_reply : FnP P w K mg base (Zk K w sA sN) 15 65 2 F__law_reply) (o__law_same : FnP P w K mg base (Zk K w sA sN) 10 62 2 (F__law_same 10)) {fd : FuncData} (F : FunD K "_law_refused_right" "_law_refused_right" (defArgs (top 83)) (defBody (top 83)) (defScope (top 83)) [] [] ((Zk K w sA sN).φ 68) fd) : FnOk P w K mg base (L2.CX P w) 16 ((Zk K w sA sN).φ 68) fd ([] : List Str) (spM (Zk K w sA sN) 0 F__law_refused_right) :=
  def_ofD (k := 15) (b := B__law_refused_right) (n := 6) rfl F sc__law_refused_right rfl fun cdv A outer s H E hr tk => ss_cons (s_set (i := 0) sc__law_refused_right.nd rfl (by first | exact .inl rfl | exact .inr rfl) (s_tup (s_cons (s_int) (s_cons (s_int) (s_cons (s_tup (s_cons (s_tup (s_cons (s_int) (s_cons (s_int) (s_nil)))) (s_cons (s_tup (s_cons (s_int) (s_cons (s_int) (s_nil)))) (s_cons (s_tup (s_cons (s_int) (s_cons (s_int) (s_nil)))) (s_cons (s_tup (s_cons (s_int) (s_cons (s_int) (s_nil)))) (s_cons (s_tup (s_cons (s_int) (s_cons (s_int) (s_nil)))) (s_cons (s_tup (s_cons (s_int) (s_cons (s_int) (s_nil)))) (s_nil)))))))) (s_nil)))))) (ss_cons (s_asg (s_tup (s_cons (s_tup (s_cons (s_tup (s_cons (s_int) (s_cons (s_int) (s_nil)))) (s_cons (s_tup (s_cons (s_int) (s_cons (s_int) (s_nil)))) (s_cons (s_tup (s_cons (s_int) (s_cons (s_int) (s_nil)))) (s_cons (s_tup (s_cons (s_int) (s_cons (s_int) (s_nil)))) (s_nil)))))) (s_cons (s_ixM rfl (hu1 hr) (s_var 0 (pv 0)) (s_int)) (s_cons (s_lst (s_nil)) (s_nil))))) (s_gtup rfl (s_gcons (s_gname (pg_name (i := 1) sc__law_refused_right.nd rfl (by first | exact .inl rfl | exact .inr rfl))) (s_gcons (s_gname (pg_name (i := 2) sc__law_refused_right.nd rfl (by first | exact .inl rfl | exact .inr rfl))) (s_gcons (s_gname (pg_name (i := 3) sc__law_refused_right.nd rfl (by first | exact .inl rfl | exact .inr rfl))) (s_gnil)))))) (ss_cons (s_for passes_cx rfl (s_iS rfl (s_callF0 (o__law_no_nets.at_ hr rfl) tk rfl T.g__law_no_nets)) (s_gname (pg_name (i := 4) sc__law_refused_right.nd rfl (by first | exact .inl rfl | exact .inr rfl))) (ss_cons (s_set (i := 3) sc__law_refused_right.nd rfl (by first | exact .inl rfl | exact .inr rfl) (s_op op_addM s2_add (s_var 3 (pv 3)) (s_lst (s_cons (s_callF (o__law_reply.at_ hr rfl) tk rfl T.g__law_reply (s_cons (s_int) (s_cons (s_tup (s_cons (s_var 4 (pv 4)) (s_cons (s_var 2 (pv 2)) (s_nil)))) (s_nil)))) (s_cons (s_callF (o__law_reply.at_ hr rfl) tk rfl T.g__law_reply (s_cons (s_int) (s_cons (s_tup (s_cons (s_var 4 (pv 4)) (s_cons (s_var 2 (pv 2)) (s_cons (s_tup (s_cons (s_int) (s_cons (s_int) (s_nil)))) (s_nil))))) (s_nil)))) (s_cons (s_callF (o__law_reply.at_ hr rfl) tk rfl T.g__law_reply (s_cons (s_int) (s_cons (s_tup (s_cons (s_var 4 (pv 4)) (s_cons (s_var 2 (pv 2)) (s_cons (s_tup (s_cons (s_int) (s_cons (s_int) (s_cons (s_int) (s_cons (s_int) (s_nil)))))) (s_nil))))) (s_nil)))) (s_nil))))))) (ss_cons (s_set (i := 3) sc__law_refused_right.nd rfl (by first | exact .inl rfl | exact .inr rfl) (s_op op_addM s2_add (s_op op_addM s2_add (s_var 3 (pv 3)) (s_alloc (s_lc (own := [("k", 5)]) rfl sc__law_refused_right.nd (s_iS rfl (s_tup (s_cons (s_int) (s_nil)))) (blkOk_by (N := ["wide", "bent_so", "rising", "got", "own", "k"]) (sc := defScope (top 83)) (own := [("k", 5)]) (by decide +kernel)) (fun _ _ _ _ _ => s_gname (pg_name (i := 5) sc__law_refused_right.nd rfl (by first | exact .inl rfl | exact .inr rfl))) (fun _ _ _ _ _ => sts_nil) (fun _ _ _ _ _ => s_callF (o__law_reply.at_ hr rfl) takes0 rfl T.g__law_reply (s_cons (s_var 5 (pv 5)) (s_cons (s_tup (s_cons (s_var 4 (pv 4)) (s_cons (s_var 1 (pv 1)) (s_cons (s_int) (s_nil))))) (s_nil))))))) (s_alloc (s_lc (own := [("k", 5)]) rfl sc__law_refused_right.nd (s_iS rfl (s_tup (s_cons (s_int) (s_cons (s_int) (s_cons (s_int) (s_nil)))))) (blkOk_by (N := ["wide", "bent_so", "rising", "got", "own", "k"]) (sc := defScope (top 83)) (own := [("k", 5)]) (by decide +kernel)) (fun _ _ _ _ _ => s_gname (pg_name (i := 5) sc__law_refused_right.nd rfl (by first | exact .inl rfl | exact .inr rfl))) (fun _ _ _ _ _ => sts_nil) (fun _ _ _ _ _ => s_callF (o__law_reply.at_ hr rfl) takes0 rfl T.g__law_reply (s_cons (s_var 5 (pv 5)) (s_cons (s_tup (s_cons (s_var 4 (pv 4)) (s_cons (s_int) (s_cons (s_tup (s_nil)) (s_nil))))) (s_nil)))))))) (ss_cons (s_set (i := 3) sc__law_refused_right.nd rfl (by first | exact .inl rfl | exact .inr rfl) (s_op op_addM s2_add (s_op op_addM s2_add (s_var 3 (pv 3)) (s_alloc (s_lc (own := [("k", 5)]) rfl sc__law_refused_right.nd (s_iS rfl (s_tup (s_cons (s_int) (s_cons (s_int) (s_cons (s_int) (s_nil)))))) (blkOk_by (N := ["wide", "bent_so", "rising", "got", "own", "k"]) (sc := defScope (top 83)) (own := [("k", 5)]) (by decide +kernel)) (fun _ _ _ _ _ => s_gname (pg_name (i := 5) sc__law_refused_right.nd rfl (by first | exact .inl rfl | exact .inr rfl))) (fun _ _ _ _ _ => sts_nil) (fun _ _ _ _ _ => s_callF (o__law_reply.at_ hr rfl) takes0 rfl T.g__law_reply (s_cons (s_var 5 (pv 5)) (s_cons (s_tup (s_cons (s_var 4 (pv 4)) (s_cons (s_var 1 (pv 1)) (s_cons (s_var 2 (pv 2)) (s_nil))))) (s_nil))))))) (s_alloc (s_lc (own := [("k", 5)]) rfl sc__law_refused_right.nd (s_iS rfl (s_tup (s_cons (s_int) (s_cons (s_int) (s_nil))))) (blkOk_by (N := ["wide", "bent_so", "rising", "got", "own", "k"]) (sc := defScope (top 83)) (own := [("k", 5)]) (by decide +kernel)) (fun _ _ _ _ _ => s_gname (pg_name (i := 5) sc__law_refused_right.nd rfl (by first | exact .inl rfl | exact .inr rfl))) (fun _ _ _ _ _ => sts_nil) (fun _ _ _ _ _ => s_callF (o__law_reply.at_ hr rfl) takes0 rfl T.g__law_reply (s_cons (s_var 5 (pv 5)) (s_cons (s_tup (s_cons (s_var 4 (pv 4)) (s_cons (s_var 1 (pv 1)) (s_cons (s_tup (s_cons (s_int) (s_cons (s_int) (s_nil)))) (s_cons (s_int) (s_nil)))))) (s_nil)))))))) (ss_one (s_set (i := 3) sc__law_refused_right.nd rfl (by first | exact .inl rfl | exact .inr rfl) (s_op op_addM s2_add (s_var 3 (pv 3)) (s_lst (s_cons (s_callF (o__law_reply.at_ hr rfl) tk rfl T.g__law_reply (s_cons (s_int) (s_cons (s_tup (s_cons (s_var 4 (pv 4)) (s_cons (s_var 1 (pv 1)) (s_cons (s_var 2 (pv 2)) (s_cons (s_int) (s_nil)))))) (s_nil)))) (s_cons (s_callF (o__law_reply.at_ hr rfl) tk rfl T.g__law_reply (s_cons (s_int) (s_cons (s_tup (s_cons (s_var 4 (pv 4)) (s_cons (s_var 1 (pv 1)) (s_cons (s_int) (s_cons (s_tup (s_cons (s_int) (s_cons (s_int) (s_nil)))) (s_nil)))))) (s_nil)))) (s_cons (s_callF (o__law_reply.at_ hr rfl) tk rfl T.g__law_reply (s_cons (s_int) (s_cons (s_tup (s_cons (s_var 4 (pv 4)) (s_cons (s_var 1 (pv 1)) (s_cons (s_var 1 (pv 1)) (s_cons (s_var 2 (pv 2)) (s_cons (s_int) (s_nil))))))) (s_nil)))) (s_nil)))))))))))) (ss_cons (s_for passes_cx rfl (s_iS rfl (s_tup (s_cons (s_tup (s_nil)) (s_cons (s_non) (s_cons (s_int) (s_cons (s_sl rfl (s_var 1 (pv 1)) (so_some (s_int)) (so_none)) (s_cons (s_step rfl (s_var 1 (pv 1)) (so_none) (so_none) (so_some (s_neg (s_int)))) (s_cons (s_op op_addM s2_add (s_var 1 (pv 1)) (s_sl rfl (s_var 1 (pv 1)) (so_none) (so_some (s_int)))) (s_cons (s_tup (s_cons (s_tup (s_cons (s_int) (s_cons (s_int) (s_nil)))) (s_cons (s_tup (s_cons (s_int) (s_cons (s_int) (s_nil)))) (s_cons (s_tup (s_cons (s_int) (s_cons (s_int) (s_nil)))) (s_cons (s_tup (s_cons (s_int) (s_cons (s_int) (s_nil)))) (s_nil)))))) (s_cons (s_str) (s_cons (s_tup (s_cons (s_tup (s_cons (s_int) (s_cons (s_int) (s_nil)))) (s_cons (s_tup (s_cons (s_int) (s_cons (s_int) (s_nil)))) (s_cons (s_tup (s_cons (s_int) (s_cons (s_int) (s_nil)))) (s_cons (s_tup (s_cons (s_int) (s_cons (s_bl) (s_nil)))) (s_nil)))))) (s_nil)))))))))))) (s_gname (pg_name (i := 4) sc__law_refused_right.nd rfl (by first | exact .inl rfl | exact .inr rfl))) (ss_cons (s_set (i := 3) sc__law_refused_right.nd rfl (by first | exact .inl rfl | exact .inr rfl) (s_op op_addM s2_add (s_op op_addM s2_add (s_op op_addM s2_add (s_var 3 (pv 3)) (s_lst (s_cons (s_callF (o__law_reply.at_ hr rfl) tk rfl T.g__law_reply (s_cons (s_int) (s_cons (s_tup (s_cons (s_var 0 (pv 0)) (s_cons (s_var 4 (pv 4)) (s_cons (s_int) (s_nil))))) (s_nil)))) (s_nil)))) (s_alloc (s_lc (own := [("k", 5)]) rfl sc__law_refused_right.nd (s_iS rfl (s_tup (s_cons (s_int) (s_cons (s_int) (s_cons (s_int) (s_nil)))))) (blkOk_by (N := ["wide", "bent_so", "rising", "got", "own", "k"]) (sc := defScope (top 83)) (own := [("k", 5)]) (by decide +kernel)) (fun _ _ _ _ _ => s_gname (pg_name (i := 5) sc__law_refused_right.nd rfl (by first | exact .inl rfl | exact .inr rfl))) (fun _ _ _ _ _ => sts_nil) (fun _ _ _ _ _ => s_callF (o__law_reply.at_ hr rfl) takes0 rfl T.g__law_reply (s_cons (s_var 5 (pv 5)) (s_cons (s_tup (s_cons (s_var 0 (pv 0)) (s_cons (s_var 4 (pv 4)) (s_cons (s_var 2 (pv 2)) (s_nil))))) (s_nil))))))) (s_alloc (s_lc (own := [("k", 5)]) rfl sc__law_refused_right.nd (s_iS rfl (s_tup (s_cons (s_int) (s_cons (s_int) (s_nil))))) (blkOk_by (N := ["wide", "bent_so", "rising", "got", "own", "k"]) (sc := defScope (top 83)) (own := [("k", 5)]) (by decide +kernel)) (fun _ _ _ _ _ => s_gname (pg_name (i := 5) sc__law_refused_right.nd rfl (by first | exact .inl rfl | exact .inr rfl))) (fun _ _ _ _ _ => sts_nil) (fun _ _ _ _ _ => s_callF (o__law_reply.at_ hr rfl) takes0 rfl T.g__law_reply (s_cons (s_var 5 (pv 5)) (s_cons (s_tup (s_cons (s_var 0 (pv 0)) (s_cons (s_var 4 (pv 4)) (s_cons (s_tup (s_cons (s_int) (s_cons (s_int) (s_nil)))) (s_cons (s_int) (s_nil)))))) (s_nil)))))))) (ss_cons (s_set (i := 3) sc__law_refused_right.nd rfl (by first | exact .inl rfl | exact .inr rfl) (s_op op_addM s2_add (s_var 3 (pv 3)) (s_lst (s_cons (s_callF (o__law_reply.at_ hr rfl) tk rfl T.g__law_reply (s_cons (s_int) (s_cons (s_tup (s_cons (s_var 0 (pv 0)) (s_cons (s_var 4 (pv 4)) (s_cons (s_var 2 (pv 2)) (s_cons (s_int) (s_nil)))))) (s_nil)))) (s_cons (s_callF (o__law_reply.at_ hr rfl) tk rfl T.g__law_reply (s_cons (s_int) (s_cons (s_tup (s_cons (s_var 0 (pv 0)) (s_cons (s_var 4 (pv 4)) (s_cons (s_int) (s_cons (s_tup (s_cons (s_int) (s_cons (s_int) (s_nil)))) (s_nil)))))) (s_nil)))) (s_cons (s_callF (o__law_reply.at_ hr rfl) tk rfl T.g__law_reply (s_cons (s_int) (s_cons (s_tup (s_cons (s_var 0 (pv 0)) (s_cons (s_var 4 (pv 4)) (s_cons (s_var 2 (pv 2)) (s_cons (s_tup (s_cons (s_int) (s_cons (s_int) (s_nil)))) (s_nil)))))) (s_nil)))) (s_nil))))))) (ss_cons (s_set (i := 3) sc__law_refused_right.nd rfl (by first | exact .inl rfl | exact .inr rfl) (s_op op_addM s2_add (s_var 3 (pv 3)) (s_lst (s_cons (s_callF (o__law_reply.at_ hr rfl) tk rfl T.g__law_reply (s_cons (s_int) (s_cons (s_tup (s_cons (s_var 0 (pv 0)) (s_cons (s_var 4 (pv 4)) (s_cons (s_var 2 (pv 2)) (s_cons (s_int) (s_nil)))))) (s_nil)))) (s_cons (s_callF (o__law_reply.at_ hr rfl) tk rfl T.g__law_reply (s_cons (s_int) (s_cons (s_tup (s_cons (s_var 0 (pv 0)) (s_cons (s_var 4 (pv 4)) (s_cons (s_var 2 (pv 2)) (s_cons (s_non) (s_nil)))))) (s_nil)))) (s_nil)))))) (ss_one (s_set (i := 3) sc__law_refused_right.nd rfl (by first | exact .inl rfl | exact .inr rfl) (s_op op_addM s2_add (s_var 3 (pv 3)) (s_lst (s_cons (s_callF (o__law_reply.at_ hr rfl) tk rfl T.g__law_reply (s_cons (s_int) (s_cons (s_tup (s_cons (s_var 0 (pv 0)) (s_cons (s_var 4 (pv 4)) (s_cons (s_var 1 (pv 1)) (s_cons (s_var 2 (pv 2)) (s_cons (s_int) (s_nil))))))) (s_nil)))) (s_cons (s_callF (o__law_reply.at_ hr rfl) tk rfl T.g__law_reply (s_cons (s_int) (s_cons (s_tup (s_cons (s_var 0 (pv 0)) (s_cons (s_var 1 (pv 1)) (s_cons (s_var 4 (pv 4)) (s_cons (s_var 2 (pv 2)) (s_cons (s_int) (s_nil))))))) (s_nil)))) (s_nil))))))))))) (ss_cons (s_for passes_cx rfl (s_iS rfl (s_tup (s_cons (s_tup (s_nil)) (s_cons (s_non) (s_cons (s_sl rfl (s_var 2 (pv 2)) (so_some (s_int)) (so_none)) (s_cons (s_op op_addM s2_add (s_var 2 (pv 2)) (s_sl rfl (s_var 2 (pv 2)) (so_none) (so_some (s_int)))) (s_cons (s_op op_addM s2_add (s_sl rfl (s_var 2 (pv 2)) (so_none) (so_some (s_int))) (s_tup (s_cons (s_tup (s_cons (s_int) (s_cons (s_int) (s_nil)))) (s_nil)))) (s_cons (s_int) (s_cons (s_op op_addM s2_add (s_sl rfl (s_var 2 (pv 2)) (so_none) (so_some (s_int))) (s_tup (s_cons (s_tup (s_cons (s_int) (s_cons (s_int) (s_nil)))) (s_nil)))) (s_nil)))))))))) (s_gname (pg_name (i := 4) sc__law_refused_right.nd rfl (by first | exact .inl rfl | exact .inr rfl))) (ss_cons (s_set (i := 3) sc__law_refused_right.nd rfl (by first | exact .inl rfl | exact .inr rfl) (s_op op_addM s2_add (s_var 3 (pv 3)) (s_lst (s_cons (s_callF (o__law_reply.at_ hr rfl) tk rfl T.g__law_reply (s_cons (s_int) (s_cons (s_tup (s_cons (s_var 0 (pv 0)) (s_cons (s_var 4 (pv 4)) (s_nil)))) (s_nil)))) (s_cons (s_callF (o__law_reply.at_ hr rfl) tk rfl T.g__law_reply (s_cons (s_int) (s_cons (s_tup (s_cons (s_var 0 (pv 0)) (s_cons (s_var 4 (pv 4)) (s_cons (s_tup (s_cons (s_int) (s_cons (s_int) (s_nil)))) (s_nil))))) (s_nil)))) (s_cons (s_callF (o__law_reply.at_ hr rfl) tk rfl T.g__law_reply (s_cons (s_int) (s_cons (s_tup (s_cons (s_var 0 (pv 0)) (s_cons (s_var 1 (pv 1)) (s_cons (s_var 4 (pv 4)) (s_nil))))) (s_nil)))) (s_cons (s_callF (o__law_reply.at_ hr rfl) tk rfl T.g__law_reply (s_cons (s_int) (s_cons (s_tup (s_cons (s_var 0 (pv 0)) (s_cons (s_var 1 (pv 1)) (s_cons (s_var 4 (pv 4)) (s_cons (s_tup (s_cons (s_int) (s_cons (s_int) (s_nil)))) (s_nil)))))) (s_nil)))) (s_nil)))))))) (ss_one (s_set (i := 3) sc__law_refused_right.nd rfl (by first | exact .inl rfl | exact .inr rfl) (s_op op_addM s2_add (s_var 3 (pv 3)) (s_lst (s_cons (s_callF (o__law_reply.at_ hr rfl) tk rfl T.g__law_reply (s_cons (s_int) (s_cons (s_tup (s_cons (s_var 0 (pv 0)) (s_cons (s_var 1 (pv 1)) (s_cons (s_var 4 (pv 4)) (s_cons (s_int) (s_nil)))))) (s_nil)))) (s_cons (s_callF (o__law_reply.at_ hr rfl) tk rfl T.g__law_reply (s_cons (s_int) (s_cons (s_tup (s_cons (s_var 0 (pv 0)) (s_cons (s_var 1 (pv 1)) (s_cons (s_var 4 (pv 4)) (s_cons (s_int) (s_nil)))))) (s_nil)))) (s_nil))))))))) (ss_cons (s_for passes_cx rfl (s_iS rfl (s_tup (s_cons (s_int) (s_cons (s_neg (s_int)) (s_cons (s_non) (s_cons (s_bl) (s_cons (s_str) (s_cons (s_tup (s_cons (s_int) (s_nil))) (s_nil))))))))) (s_gname (pg_name (i := 4) sc__law_refused_right.nd rfl (by first | exact .inl rfl | exact .inr rfl))) (ss_cons (s_set (i := 3) sc__law_refused_right.nd rfl (by first | exact .inl rfl | exact .inr rfl) (s_op op_addM s2_add (s_var 3 (pv 3)) (s_lst (s_cons (s_callF (o__law_reply.at_ hr rfl) tk rfl T.g__law_reply (s_cons (s_int) (s_cons (s_tup (s_cons (s_var 0 (pv 0)) (s_cons (s_var 1 (pv 1)) (s_cons (s_var 4 (pv 4)) (s_nil))))) (s_nil)))) (s_cons (s_callF (o__law_reply.at_ hr rfl) tk rfl T.g__law_reply (s_cons (s_int) (s_cons (s_tup (s_cons (s_var 0 (pv 0)) (s_cons (s_var 4 (pv 4)) (s_cons (s_tup (s_nil)) (s_nil))))) (s_nil)))) (s_cons (s_callF (o__law_reply.at_ hr rfl) tk rfl T.g__law_reply (s_cons (s_int) (s_cons (s_tup (s_cons (s_var 0 (pv 0)) (s_cons (s_var 1 (pv 1)) (s_cons (s_tup (s_cons (s_int) (s_cons (s_int) (s_nil)))) (s_cons (s_var 4 (pv 4)) (s_nil)))))) (s_nil)))) (s_cons (s_callF (o__law_reply.at_ hr rfl) tk rfl T.g__law_reply (s_cons (s_int) (s_cons (s_tup (s_cons (s_var 0 (pv 0)) (s_cons (s_var 1 (pv 1)) (s_cons (s_var 2 (pv 2)) (s_cons (s_var 4 (pv 4)) (s_nil)))))) (s_nil)))) (s_nil)))))))) (ss_one (s_set (i := 3) sc__law_refused_right.nd rfl (by first | exact .inl rfl | exact .inr rfl) (s_op op_addM s2_add (s_var 3 (pv 3)) (s_lst (s_cons (s_callF (o__law_reply.at_ hr rfl) tk rfl T.g__law_reply (s_cons (s_int) (s_cons (s_tup (s_cons (s_var 0 (pv 0)) (s_cons (s_var 1 (pv 1)) (s_cons (s_var 4 (pv 4)) (s_cons (s_tup (s_cons (s_int) (s_cons (s_int) (s_nil)))) (s_nil)))))) (s_nil)))) (s_cons (s_callF (o__law_reply.at_ hr rfl) tk rfl T.g__law_reply (s_cons (s_int) (s_cons (s_tup (s_cons (s_var 0 (pv 0)) (s_cons (s_var 1 (pv 1)) (s_cons (s_var 2 (pv 2)) (s_cons (s_var 4 (pv 4)) (s_nil)))))) (s_nil)))) (s_cons (s_callF (o__law_reply.at_ hr rfl) tk rfl T.g__law_reply (s_cons (s_int) (s_cons (s_tup (s_cons (s_var 0 (pv 0)) (s_cons (s_var 1 (pv 1)) (s_cons (s_var 1 (pv 1)) (s_cons (s_var 2 (pv 2)) (s_cons (s_var 4 (pv 4)) (s_nil))))))) (s_nil)))) (s_nil)))))))))) (ss_cons (s_for passes_cx rfl (s_iS rfl (s_tup (s_cons (s_non) (s_cons (s_tup (s_cons (s_int) (s_nil))) (s_cons (s_int) (s_cons (s_tup (s_cons (s_int) (s_cons (s_non) (s_nil)))) (s_cons (s_tup (s_cons (s_int) (s_cons (s_int) (s_cons (s_int) (s_nil))))) (s_cons (s_tup (s_cons (s_bl) (s_cons (s_int) (s_nil)))) (s_cons (s_str) (s_nil)))))))))) (s_gname (pg_name (i := 4) sc__law_refused_right.nd rfl (by first | exact .inl rfl | exact .inr rfl))) (ss_one (s_set (i := 3) sc__law_refused_right.nd rfl (by first | exact .inl rfl | exact .inr rfl) (s_op op_addM s2_add (s_var 3 (pv 3)) (s_lst (s_cons (s_callF (o__law_reply.at_ hr rfl) tk rfl T.g__law_reply (s_cons (s_int) (s_cons (s_tup (s_cons (s_var 0 (pv 0)) (s_cons (s_var 1 (pv 1)) (s_cons (s_var 4 (pv 4)) (s_cons (s_int) (s_nil)))))) (s_nil)))) (s_cons (s_callF (o__law_reply.at_ hr rfl) tk rfl T.g__law_reply (s_cons (s_int) (s_cons (s_tup (s_cons (s_var 0 (pv 0)) (s_cons (s_var 2 (pv 2)) (s_cons (s_var 4 (pv 4)) (s_nil))))) (s_nil)))) (s_cons (s_callF (o__law_reply.at_ hr rfl) tk rfl T.g__law_reply (s_cons (s_int) (s_cons (s_tup (s_cons (s_var 0 (pv 0)) (s_cons (s_var 1 (pv 1)) (s_cons (s_var 2 (pv 2)) (s_cons (s_var 4 (pv 4)) (s_nil)))))) (s_nil)))) (s_cons (s_callF (o__law_reply.at_ hr rfl) tk rfl T.g__law_reply (s_cons (s_int) (s_cons (s_tup (s_cons (s_var 0 (pv 0)) (s_cons (s_var 1 (pv 1)) (s_cons (s_int) (s_cons (s_var 4 (pv 4)) (s_nil)))))) (s_nil)))) (s_nil)))))))))) (ss_cons (s_for passes_cx rfl (s_iS rfl (s_tup (s_cons (s_tup (s_nil)) (s_cons (s_non) (s_cons (s_tup (s_cons (s_tup (s_cons (s_tup (s_cons (s_int) (s_cons (s_int) (s_nil)))) (s_cons (s_int) (s_nil)))) (s_nil))) (s_cons (s_tup (s_cons (s_tup (s_cons (s_int) (s_cons (s_int) (s_nil)))) (s_cons (s_int) (s_nil)))) (s_cons (s_int) (s_nil)))))))) (s_gname (pg_name (i := 4) sc__law_refused_right.nd rfl (by first | exact .inl rfl | exact .inr rfl))) (ss_one (s_set (i := 3) sc__law_refused_right.nd rfl (by first | exact .inl rfl | exact .inr rfl) (s_op op_addM s2_add (s_var 3 (pv 3)) (s_alloc (s_lc (own := [("k", 5)]) rfl sc__law_refused_right.nd (s_iS rfl (s_tup (s_cons (s_int) (s_cons (s_int) (s_nil))))) (blkOk_by (N := ["wide", "bent_so", "rising", "got", "own", "k"]) (sc := defScope (top 83)) (own := [("k", 5)]) (by decide +kernel)) (fun _ _ _ _ _ => s_gname (pg_name (i := 5) sc__law_refused_right.nd rfl (by first | exact .inl rfl | exact .inr rfl))) (fun _ _ _ _ _ => sts_nil) (fun _ _ _ _ _ => s_callF (o__law_reply.at_ hr rfl) takes0 rfl T.g__law_reply (s_cons (s_var 5 (pv 5)) (s_cons (s_tup (s_cons (s_var 0 (pv 0)) (s_cons (s_int) (s_cons (s_var 4 (pv 4)) (s_nil))))) (s_nil)))))))))) (ss_one (s_ret (s_callF (o__law_same.at_ hr rfl) tk rfl T.g__law_same (s_cons (s_var 3 (pv 3)) (s_cons (s_op op_mulMT s2_mulT (s_lst (s_cons (s_lst (s_cons (s_str) (s_cons (s_bl) (s_nil)))) (s_nil))) (s_cb cr_lenA cs_lenA rfl T.b_len bt_len (s_cons (s_var 3 (pv 3)) (s_nil)))) (s_nil)))))))))))))
theorem ok__law_refused_right (T : Tp K w sA sN mg) (o__law_no_nets : FnP P w K mg base (Zk K w sA sN) 1 63 0 F__law_no_nets) (o__law_reply : FnP P w K mg base (Zk K w sA sN) 15 65 2 F__law_reply) (o__law_same : FnP P w K mg base (Zk K w sA sN) 10 62 2 (F__law_same 10)) : FnP P w K mg base (Zk K w sA sN) 16 68 0 F__law_refused_right := by
  obtain ⟨fd, F⟩ := T.d__law_refused_right
  exact ⟨fd, ([] : List Str), fo__law_refused_right T o__law_no_nets o__law_reply o__law_same F, F.kp, F.bindsN fun _ _ _ _ _ _ us hl => match us, hl with | [], _ => rfl⟩
theorem sc_law : FnScope ["script"] ["script"] (defScope (top 84)) := ⟨rfl, rfl, rfl, by decide +kernel, rfl, by decide +kernel, by decide +kernel⟩
theorem fo_law (T : Tp K w sA sN mg) (o__law_front_right : FnP P w K mg base (Zk K w sA sN) 16 66 0 F__law_front_right) (o__law_others_right : FnP P w K mg base (Zk K w sA sN) 16 67 0 F__law_others_right) (o__law_cells : FnP P w K mg base (Zk K w sA sN) 1 61 2 (F__law_cells sN)) (o__law_refused_right : FnP P w K mg base (Zk K w sA sN) 16 68 0 F__law_refused_right) {fd : FuncData} (F : FunD K "law" "law" (defArgs (top 84)) (defBody (top 84)) (defScope (top 84)) [] [] ((Zk K w sA sN).φ 69) fd) : FnOk P w K mg base (L2.CX P w) 17 ((Zk K w sA sN).φ 69) fd ["script"] (spM (Zk K w sA sN) 1 (F_law sN)) :=
  def_ofD (k := 16) (b := (B_law sN)) (n := 1) rfl F sc_law rfl fun cdv A outer s H E hr tk => ss_cons (s_ifS (L2.PW.pt (s_wor (s_tnot (s_truth rfl (s_reset (s_callF0 (o__law_front_right.at_ hr rfl) tk rfl T.g__law_front_right)))) (pw_or1 (s_tnot (s_truth rfl (s_reset (s_callF0 (o__law_others_right.at_ hr rfl) tk rfl T.g__law_others_right))))))) (ss_one (s_ret (s_bl))) (ss_nil)) (ss_one (s_ret (s_orT rfl (s_cmp (op_eqM (hu64 hr)) s2_eq (s_op op_modN s2_mod (s_reset (s_cty call_int1 cs_int rfl T.b_int bt_int (s_cons (s_ixM rfl (hu1 hr) (s_callF (o__law_cells.at_ hr rfl) tk rfl T.g__law_cells (s_cons (s_var 0 (pv 0)) (s_cons (s_int) (s_nil)))) (s_int)) (s_nil)))) (s_int)) (s_int) (nomark _)) (pe_one (s_reset (s_callF0 (o__law_refused_right.at_ hr rfl) tk rfl T.g__law_refused_right))))))
theorem ok_law (T : Tp K w sA sN mg) (o__law_front_right : FnP P w K mg base (Zk K w sA sN) 16 66 0 F__law_front_right) (o__law_others_right : FnP P w K mg base (Zk K w sA sN) 16 67 0 F__law_others_right) (o__law_cells : FnP P w K mg base (Zk K w sA sN) 1 61 2 (F__law_cells sN)) (o__law_refused_right : FnP P w K mg base (Zk K w sA sN) 16 68 0 F__law_refused_right) : FnP P w K mg base (Zk K w sA sN) 17 69 1 (F_law sN) := by
  obtain ⟨fd, F⟩ := T.d_law
  exact ⟨fd, ["script"], fo_law T o__law_front_right o__law_others_right o__law_cells o__law_refused_right F, F.kp, F.bindsN fun _ _ _ _ _ _ us hl => match us, hl with | [_], _ => rfl⟩
end
theorem law_fn {P : Program} {w : World} {K : PySem.W.Frag} {sA : Addr} {sN : List Int} {mg : Str → Option Value} {base : Heap} (T : Tp K w sA sN mg) {fd : FuncData} (F : FunD K "law" "law" (defArgs (top 84)) (defBody (top 84)) (defScope (top 84)) [] [] (He.ga K "law") fd) : FnOk P w K mg base (L2.CX P w) 17 (He.ga K "law") fd ["script"] (spM (Zk K w sA sN) 1 (F_law sN)) := by
  have o_top_of := ok_top_of (P := P) (base := base) T
  have o_forest := ok_forest (P := P) (base := base) T o_top_of
  have o_holds := ok_holds (P := P) (base := base) T o_forest
  have o_is_number := ok_is_number (P := P) (base := base) T
  have o_are_numbers := ok_are_numbers (P := P) (base := base) T o_is_number
  have o_is_pair := ok_is_pair (P := P) (base := base) T o_are_numbers
  have o_rises := ok_rises (P := P) (base := base) T
  have o_tupled := ok_tupled (P := P) (base := base) T
  have o_same := ok_same (P := P) (base := base) T
  have o_ties_round := ok_ties_round (P := P) (base := base) T
  have o_is_ring := ok_is_ring (P := P) (base := base) T o_are_numbers o_ties_round
  have o_row_in := ok_row_in (P := P) (base := base) T
  have o_steps_of := ok_steps_of (P := P) (base := base) T
  have o_steps_toward := ok_steps_toward (P := P) (base := base) T o_steps_of
  have o_beyond_along := ok_beyond_along (P := P) (base := base) T
  have o_shares_in := ok_shares_in (P := P) (base := base) T o_steps_toward o_beyond_along
  have o_shares_along := ok_shares_along (P := P) (base := base) T o_shares_in
  have o_good_ties := ok_good_ties (P := P) (base := base) T o_is_pair
  have o_good_web := ok_good_web (P := P) (base := base) T o_is_number o_good_ties o_rises o_holds
  have o_good_side := ok_good_side (P := P) (base := base) T o_is_number
  have o_good_place := ok_good_place (P := P) (base := base) T o_is_pair
  have o_good_tie := ok_good_tie (P := P) (base := base) T o_is_pair
  have o_good_tree := ok_good_tree (P := P) (base := base) T o_good_ties o_rises o_holds
  have o_good_order := ok_good_order (P := P) (base := base) T o_is_pair
  have o_good_shares := ok_good_shares (P := P) (base := base) T o_good_tree o_shares_in o_same
  have o_fit_pair := ok_fit_pair (P := P) (base := base) T o_tupled o_is_pair
  have o_fit_web := ok_fit_web (P := P) (base := base) T o_tupled o_good_web
  have o_fit_side := ok_fit_side (P := P) (base := base) T o_good_side
  have o_fit_tree := ok_fit_tree (P := P) (base := base) T o_tupled o_good_tree
  have o_fit_order := ok_fit_order (P := P) (base := base) T o_tupled o_good_order
  have o_fit_shares := ok_fit_shares (P := P) (base := base) T o_tupled o_good_shares
  have o_fit_ring := ok_fit_ring (P := P) (base := base) T o_tupled o_is_ring
  have o_need_place := ok_need_place (P := P) (base := base) T o_good_place
  have o_need_tie := ok_need_tie (P := P) (base := base) T o_good_tie
  have o_share_of := ok_share_of (P := P) (base := base) T o_need_tie o_shares_in
  have o_pairs_of := ok_pairs_of (P := P) (base := base) T o_shares_along
  have o_share := ok_share (P := P) (base := base) T o_fit_web o_fit_side o_fit_pair o_fit_tree o_share_of
  have o_tree_shares := ok_tree_shares (P := P) (base := base) T o_fit_web o_fit_side o_fit_tree o_pairs_of
  have o_shares_by := ok_shares_by (P := P) (base := base) T o_fit_web o_fit_side o_fit_order o_fit_tree o_shares_along
  have o_shares_round := ok_shares_round (P := P) (base := base) T o_fit_web o_fit_pair o_fit_side o_fit_tree o_need_place o_pairs_of
  have o_carried := ok_carried (P := P) (base := base) T o_fit_web o_fit_side o_fit_pair o_fit_tree o_share_of
  have o_is_shares := ok_is_shares (P := P) (base := base) T o_fit_web o_fit_side o_good_shares
  have o_row_by_shares := ok_row_by_shares (P := P) (base := base) T o_fit_side o_fit_web o_fit_shares o_row_in
  have o_other_shares := ok_other_shares (P := P) (base := base) T o_fit_side o_fit_web o_fit_shares o_pairs_of
  have o_prices_of := ok_prices_of (P := P) (base := base) T
  have o_potentials_along := ok_potentials_along (P := P) (base := base) T
  have o_potentials_of := ok_potentials_of (P := P) (base := base) T o_steps_toward o_potentials_along
  have o_gaps_along := ok_gaps_along (P := P) (base := base) T o_potentials_along
  have o_gaps_of := ok_gaps_of (P := P) (base := base) T o_steps_toward o_gaps_along
  have o_under_of := ok_under_of (P := P) (base := base) T o_gaps_of
  have o_cost_of := ok_cost_of (P := P) (base := base) T o_shares_in
  have o_price := ok_price (P := P) (base := base) T o_fit_web o_fit_pair o_fit_order o_need_tie o_prices_of
  have o_prices := ok_prices (P := P) (base := base) T o_fit_web o_fit_order o_prices_of
  have o_potentials := ok_potentials (P := P) (base := base) T o_fit_web o_fit_order o_fit_tree o_prices_of o_potentials_of
  have o_is_potentials := ok_is_potentials (P := P) (base := base) T o_fit_web o_fit_order o_fit_tree o_prices_of o_potentials_of o_same
  have o_gap := ok_gap (P := P) (base := base) T o_fit_web o_fit_pair o_fit_order o_fit_tree o_need_tie o_prices_of o_gaps_of
  have o_under := ok_under (P := P) (base := base) T o_fit_web o_fit_order o_fit_tree o_prices_of o_under_of
  have o_most_under := ok_most_under (P := P) (base := base) T o_fit_web o_fit_order o_fit_tree o_prices_of o_gaps_of
  have o_cost := ok_cost (P := P) (base := base) T o_fit_web o_fit_side o_fit_order o_fit_tree o_prices_of o_cost_of
  have o_is_cheaper := ok_is_cheaper (P := P) (base := base) T o_fit_web o_fit_tree o_fit_side o_fit_order o_prices_of o_cost_of
  have o_balance := ok_balance (P := P) (base := base) T o_fit_web o_fit_ring o_fit_order o_prices_of o_ties_round
  have o__law_cells := ok__law_cells (P := P) (base := base) T
  have o__law_same := ok__law_same (P := P) (base := base) T
  have o__law_no_nets := ok__law_no_nets (P := P) (base := base) T
  have o__law_asked := ok__law_asked (P := P) (base := base) T o_prices o_balance o_most_under o_under o_potentials o_price o_other_shares o_row_by_shares o_is_shares o_tree_shares o_cost o_gap o_is_potentials o_carried o_shares_round o_shares_by o_share o_is_cheaper
  have o__law_reply := ok__law_reply (P := P) (base := base) T o__law_asked
  have o__law_front_right := ok__law_front_right (P := P) (base := base) T o_carried o_shares_by o_tree_shares o__law_reply o_under o_potentials o_row_by_shares o_shares_round o_cost o__law_same
  have o__law_others_right := ok__law_others_right (P := P) (base := base) T o__law_reply o__law_same
  have o__law_refused_right := ok__law_refused_right (P := P) (base := base) T o__law_no_nets o__law_reply o__law_same
  exact fo_law T o__law_front_right o__law_others_right o__law_cells o__law_refused_right F
def dd (x : Str) (i : Nat) : He.DefD := ⟨(x, none), x, x, defArgs (top i), defBody (top i), defScope (top i), [], []⟩
def di (x q : Str) (i j : Nat) : He.DefD := ⟨(x, some "__init__"), "__init__", q, defArgs (iniOf j (top i)), defBody (iniOf j (top i)), defScope (iniOf j (top i)), [], []⟩
def fnd : List He.DefD := [dd "top_of" 7, dd "forest" 8, dd "holds" 9, dd "is_number" 11, dd "are_numbers" 12, dd "is_pair" 13, dd "rises" 14, dd "tupled" 15, dd "same" 16, dd "ties_round" 18, dd "is_ring" 19, dd "row_in" 21, dd "steps_of" 22, dd "steps_toward" 23, dd "beyond_along" 24, dd "shares_in" 25, dd "shares_along" 26, dd "good_ties" 28, dd "good_web" 29, dd "good_side" 30, dd "good_place" 31, dd "good_tie" 32, dd "good_tree" 33, dd "good_order" 34, dd "good_shares" 35, dd "fit_pair" 36, dd "fit_web" 37, dd "fit_side" 38, dd "fit_tree" 39, dd "fit_order" 40, dd "fit_shares" 41, dd "fit_ring" 42, dd "need_place" 43, dd "need_tie" 44, dd "share_of" 46, dd "pairs_of" 47, dd "share" 48, dd "tree_shares" 49, dd "shares_by" 50, dd "shares_round" 51, dd "carried" 52, dd "is_shares" 53, dd "row_by_shares" 54, dd "other_shares" 55, dd "prices_of" 57, dd "potentials_along" 58, dd "potentials_of" 59, dd "gaps_along" 60, dd "gaps_of" 61, dd "under_of" 62, dd "cost_of" 63, dd "price" 65, dd "prices" 66, dd "potentials" 67, dd "is_potentials" 68, dd "gap" 69, dd "under" 70, dd "most_under" 71, dd "cost" 72, dd "is_cheaper" 73, dd "balance" 74, dd "_law_cells" 76, dd "_law_same" 77, dd "_law_no_nets" 78, dd "_law_asked" 79, dd "_law_reply" 80, dd "_law_front_right" 81, dd "_law_others_right" 82, dd "_law_refused_right" 83, dd "law" 84, di "NoPlace" "NoPlace.__init__" 2 0, di "NoTie" "NoTie.__init__" 3 0]
def fad : List He.Fa := [.glo "top_of", .glo "forest", .glo "holds", .glo "is_number", .glo "are_numbers", .glo "is_pair", .glo "rises", .glo "tupled", .glo "same", .glo "ties_round", .glo "is_ring", .glo "row_in", .glo "steps_of", .glo "steps_toward", .glo "beyond_along", .glo "shares_in", .glo "shares_along", .glo "good_ties", .glo "good_web", .glo "good_side", .glo "good_place", .glo "good_tie", .glo "good_tree", .glo "good_order", .glo "good_shares", .glo "fit_pair", .glo "fit_web", .glo "fit_side", .glo "fit_tree", .glo "fit_order", .glo "fit_shares", .glo "fit_ring", .glo "need_place", .glo "need_tie", .glo "share_of", .glo "pairs_of", .glo "share", .glo "tree_shares", .glo "shares_by", .glo "shares_round", .glo "carried", .glo "is_shares", .glo "row_by_shares", .glo "other_shares", .glo "prices_of", .glo "potentials_along", .glo "potentials_of", .glo "gaps_along", .glo "gaps_of", .glo "under_of", .glo "cost_of", .glo "price", .glo "prices", .glo "potentials", .glo "is_potentials", .glo "gap", .glo "under", .glo "most_under", .glo "cost", .glo "is_cheaper", .glo "balance", .glo "_law_cells", .glo "_law_same", .glo "_law_no_nets", .glo "_law_asked", .glo "_law_reply", .glo "_law_front_right", .glo "_law_others_right", .glo "_law_refused_right", .glo "law", .glo "NoPlace", .glo "NoTie", .glo "CanNot", .glo "Unfit", .free "LookupError", .free "ValueError", .free "all", .free "bool", .free "enumerate", .free "int", .free "isinstance", .free "len", .free "list", .free "min", .free "range", .free "reversed", .free "set", .free "sorted", .free "str", .free "sum", .free "tuple", .free "zip"]
def clL (K : PySem.W.Frag) : List Bool := [cls1B K "NoPlace" "place" Sm.lkBase "LookupError.__new__", cls1B K "NoTie" "tie" Sm.lkBase "LookupError.__new__", cls0B K "CanNot" Sm.veBase "ValueError.__new__", cls0B K "Unfit" Sm.veBase "ValueError.__new__", exmB K cnl 3 0, xfB K (He.ga K "NoPlace"), He.eqO (PySem.W.findIn K (.ref (He.ga K "NoPlace")) "place") (some none), exmB K cnl 3 1, xfB K (He.ga K "NoTie"), He.eqO (PySem.W.findIn K (.ref (He.ga K "NoTie")) "tie") (some none), exmB K cnl 3 2, exmB K cnl 3 3, kitB K cnl 3 kt_LookupError "LookupError", kitB K cnl 3 kt_ValueError "ValueError", He.eqO (PySem.W.nsIn K mainGlobals "gcd") (some (some (.builtin "math.gcd")))]
def clB (K : PySem.W.Frag) : Bool := (clL K).all id
theorem clf {K : PySem.W.Frag} (c : clB K = true) (i : Nat) {b : Bool} (h : (clL K)[i]? = some b) : b = true := List.all_eq_true.mp c b (List.mem_of_getElem? h)
theorem tp_of {w : World} {K : PySem.W.Frag} {h : Heap} {sA : Addr} {sN : List Int} {mg : Str → Option Value} (X : K.In h) (G : h.Ns mainGlobals mg) (cb : clB K = true) (c : He.SaysD fad fnd K) : Tp K w sA sN mg where
  g_top_of := He.glo_ok X G (c.fact 0 (f := .glo "top_of") rfl)
  g_forest := He.glo_ok X G (c.fact 1 (f := .glo "forest") rfl)
  g_holds := He.glo_ok X G (c.fact 2 (f := .glo "holds") rfl)
  g_is_number := He.glo_ok X G (c.fact 3 (f := .glo "is_number") rfl)
  g_are_numbers := He.glo_ok X G (c.fact 4 (f := .glo "are_numbers") rfl)
  g_is_pair := He.glo_ok X G (c.fact 5 (f := .glo "is_pair") rfl)
  g_rises := He.glo_ok X G (c.fact 6 (f := .glo "rises") rfl)
  g_tupled := He.glo_ok X G (c.fact 7 (f := .glo "tupled") rfl)
  g_same := He.glo_ok X G (c.fact 8 (f := .glo "same") rfl)
  g_ties_round := He.glo_ok X G (c.fact 9 (f := .glo "ties_round") rfl)
  g_is_ring := He.glo_ok X G (c.fact 10 (f := .glo "is_ring") rfl)
  g_row_in := He.glo_ok X G (c.fact 11 (f := .glo "row_in") rfl)
  g_steps_of := He.glo_ok X G (c.fact 12 (f := .glo "steps_of") rfl)
  g_steps_toward := He.glo_ok X G (c.fact 13 (f := .glo "steps_toward") rfl)
  g_beyond_along := He.glo_ok X G (c.fact 14 (f := .glo "beyond_along") rfl)
  g_shares_in := He.glo_ok X G (c.fact 15 (f := .glo "shares_in") rfl)
  g_shares_along := He.glo_ok X G (c.fact 16 (f := .glo "shares_along") rfl)
  g_good_ties := He.glo_ok X G (c.fact 17 (f := .glo "good_ties") rfl)
  g_good_web := He.glo_ok X G (c.fact 18 (f := .glo "good_web") rfl)
  g_good_side := He.glo_ok X G (c.fact 19 (f := .glo "good_side") rfl)
  g_good_place := He.glo_ok X G (c.fact 20 (f := .glo "good_place") rfl)
  g_good_tie := He.glo_ok X G (c.fact 21 (f := .glo "good_tie") rfl)
  g_good_tree := He.glo_ok X G (c.fact 22 (f := .glo "good_tree") rfl)
  g_good_order := He.glo_ok X G (c.fact 23 (f := .glo "good_order") rfl)
  g_good_shares := He.glo_ok X G (c.fact 24 (f := .glo "good_shares") rfl)
  g_fit_pair := He.glo_ok X G (c.fact 25 (f := .glo "fit_pair") rfl)
  g_fit_web := He.glo_ok X G (c.fact 26 (f := .glo "fit_web") rfl)
  g_fit_side := He.glo_ok X G (c.fact 27 (f := .glo "fit_side") rfl)
  g_fit_tree := He.glo_ok X G (c.fact 28 (f := .glo "fit_tree") rfl)
  g_fit_order := He.glo_ok X G (c.fact 29 (f := .glo "fit_order") rfl)
  g_fit_shares := He.glo_ok X G (c.fact 30 (f := .glo "fit_shares") rfl)
  g_fit_ring := He.glo_ok X G (c.fact 31 (f := .glo "fit_ring") rfl)
  g_need_place := He.glo_ok X G (c.fact 32 (f := .glo "need_place") rfl)
  g_need_tie := He.glo_ok X G (c.fact 33 (f := .glo "need_tie") rfl)
  g_share_of := He.glo_ok X G (c.fact 34 (f := .glo "share_of") rfl)
  g_pairs_of := He.glo_ok X G (c.fact 35 (f := .glo "pairs_of") rfl)
  g_share := He.glo_ok X G (c.fact 36 (f := .glo "share") rfl)
  g_tree_shares := He.glo_ok X G (c.fact 37 (f := .glo "tree_shares") rfl)
  g_shares_by := He.glo_ok X G (c.fact 38 (f := .glo "shares_by") rfl)
  g_shares_round := He.glo_ok X G (c.fact 39 (f := .glo "shares_round") rfl)
  g_carried := He.glo_ok X G (c.fact 40 (f := .glo "carried") rfl)
  g_is_shares := He.glo_ok X G (c.fact 41 (f := .glo "is_shares") rfl)
  g_row_by_shares := He.glo_ok X G (c.fact 42 (f := .glo "row_by_shares") rfl)
  g_other_shares := He.glo_ok X G (c.fact 43 (f := .glo "other_shares") rfl)
  g_prices_of := He.glo_ok X G (c.fact 44 (f := .glo "prices_of") rfl)
  g_potentials_along := He.glo_ok X G (c.fact 45 (f := .glo "potentials_along") rfl)
  g_potentials_of := He.glo_ok X G (c.fact 46 (f := .glo "potentials_of") rfl)
  g_gaps_along := He.glo_ok X G (c.fact 47 (f := .glo "gaps_along") rfl)
  g_gaps_of := He.glo_ok X G (c.fact 48 (f := .glo "gaps_of") rfl)
  g_under_of := He.glo_ok X G (c.fact 49 (f := .glo "under_of") rfl)
  g_cost_of := He.glo_ok X G (c.fact 50 (f := .glo "cost_of") rfl)
  g_price := He.glo_ok X G (c.fact 51 (f := .glo "price") rfl)
  g_prices := He.glo_ok X G (c.fact 52 (f := .glo "prices") rfl)
  g_potentials := He.glo_ok X G (c.fact 53 (f := .glo "potentials") rfl)
  g_is_potentials := He.glo_ok X G (c.fact 54 (f := .glo "is_potentials") rfl)
  g_gap := He.glo_ok X G (c.fact 55 (f := .glo "gap") rfl)
  g_under := He.glo_ok X G (c.fact 56 (f := .glo "under") rfl)
  g_most_under := He.glo_ok X G (c.fact 57 (f := .glo "most_under") rfl)
  g_cost := He.glo_ok X G (c.fact 58 (f := .glo "cost") rfl)
  g_is_cheaper := He.glo_ok X G (c.fact 59 (f := .glo "is_cheaper") rfl)
  g_balance := He.glo_ok X G (c.fact 60 (f := .glo "balance") rfl)
  g__law_cells := He.glo_ok X G (c.fact 61 (f := .glo "_law_cells") rfl)
  g__law_same := He.glo_ok X G (c.fact 62 (f := .glo "_law_same") rfl)
  g__law_no_nets := He.glo_ok X G (c.fact 63 (f := .glo "_law_no_nets") rfl)
  g__law_asked := He.glo_ok X G (c.fact 64 (f := .glo "_law_asked") rfl)
  g__law_reply := He.glo_ok X G (c.fact 65 (f := .glo "_law_reply") rfl)
  g__law_front_right := He.glo_ok X G (c.fact 66 (f := .glo "_law_front_right") rfl)
  g__law_others_right := He.glo_ok X G (c.fact 67 (f := .glo "_law_others_right") rfl)
  g__law_refused_right := He.glo_ok X G (c.fact 68 (f := .glo "_law_refused_right") rfl)
  g_law := He.glo_ok X G (c.fact 69 (f := .glo "law") rfl)
  d_top_of := c.def_ 0 (d := dd "top_of" 7) rfl
  d_forest := c.def_ 1 (d := dd "forest" 8) rfl
  d_holds := c.def_ 2 (d := dd "holds" 9) rfl
  d_is_number := c.def_ 3 (d := dd "is_number" 11) rfl
  d_are_numbers := c.def_ 4 (d := dd "are_numbers" 12) rfl
  d_is_pair := c.def_ 5 (d := dd "is_pair" 13) rfl
  d_rises := c.def_ 6 (d := dd "rises" 14) rfl
  d_tupled := c.def_ 7 (d := dd "tupled" 15) rfl
  d_same := c.def_ 8 (d := dd "same" 16) rfl
  d_ties_round := c.def_ 9 (d := dd "ties_round" 18) rfl
  d_is_ring := c.def_ 10 (d := dd "is_ring" 19) rfl
  d_row_in := c.def_ 11 (d := dd "row_in" 21) rfl
  d_steps_of := c.def_ 12 (d := dd "steps_of" 22) rfl
  d_steps_toward := c.def_ 13 (d := dd "steps_toward" 23) rfl
  d_beyond_along := c.def_ 14 (d := dd "beyond_along" 24) rfl
  d_shares_in := c.def_ 15 (d := dd "shares_in" 25) rfl
  d_shares_along := c.def_ 16 (d := dd "shares_along" 26) rfl
  d_good_ties := c.def_ 17 (d := dd "good_ties" 28) rfl
  d_good_web := c.def_ 18 (d := dd "good_web" 29) rfl
  d_good_side := c.def_ 19 (d := dd "good_side" 30) rfl
  d_good_place := c.def_ 20 (d := dd "good_place" 31) rfl
  d_good_tie := c.def_ 21 (d := dd "good_tie" 32) rfl
  d_good_tree := c.def_ 22 (d := dd "good_tree" 33) rfl
  d_good_order := c.def_ 23 (d := dd "good_order" 34) rfl
  d_good_shares := c.def_ 24 (d := dd "good_shares" 35) rfl
  d_fit_pair := c.def_ 25 (d := dd "fit_pair" 36) rfl
  d_fit_web := c.def_ 26 (d := dd "fit_web" 37) rfl
  d_fit_side := c.def_ 27 (d := dd "fit_side" 38) rfl
  d_fit_tree := c.def_ 28 (d := dd "fit_tree" 39) rfl
  d_fit_order := c.def_ 29 (d := dd "fit_order" 40) rfl
  d_fit_shares := c.def_ 30 (d := dd "fit_shares" 41) rfl
  d_fit_ring := c.def_ 31 (d := dd "fit_ring" 42) rfl
  d_need_place := c.def_ 32 (d := dd "need_place" 43) rfl
  d_need_tie := c.def_ 33 (d := dd "need_tie" 44) rfl
  d_share_of := c.def_ 34 (d := dd "share_of" 46) rfl
  d_pairs_of := c.def_ 35 (d := dd "pairs_of" 47) rfl
  d_share := c.def_ 36 (d := dd "share" 48) rfl
  d_tree_shares := c.def_ 37 (d := dd "tree_shares" 49) rfl
  d_shares_by := c.def_ 38 (d := dd "shares_by" 50) rfl
  d_shares_round := c.def_ 39 (d := dd "shares_round" 51) rfl
  d_carried := c.def_ 40 (d := dd "carried" 52) rfl
  d_is_shares := c.def_ 41 (d := dd "is_shares" 53) rfl
  d_row_by_shares := c.def_ 42 (d := dd "row_by_shares" 54) rfl
  d_other_shares := c.def_ 43 (d := dd "other_shares" 55) rfl
  d_prices_of := c.def_ 44 (d := dd "prices_of" 57) rfl
  d_potentials_along := c.def_ 45 (d := dd "potentials_along" 58) rfl
  d_potentials_of := c.def_ 46 (d := dd "potentials_of" 59) rfl
  d_gaps_along := c.def_ 47 (d := dd "gaps_along" 60) rfl
  d_gaps_of := c.def_ 48 (d := dd "gaps_of" 61) rfl
  d_under_of := c.def_ 49 (d := dd "under_of" 62) rfl
  d_cost_of := c.def_ 50 (d := dd "cost_of" 63) rfl
  d_price := c.def_ 51 (d := dd "price" 65) rfl
  d_prices := c.def_ 52 (d := dd "prices" 66) rfl
  d_potentials := c.def_ 53 (d := dd "potentials" 67) rfl
  d_is_potentials := c.def_ 54 (d := dd "is_potentials" 68) rfl
  d_gap := c.def_ 55 (d := dd "gap" 69) rfl
  d_under := c.def_ 56 (d := dd "under" 70) rfl
  d_most_under := c.def_ 57 (d := dd "most_under" 71) rfl
  d_cost := c.def_ 58 (d := dd "cost" 72) rfl
  d_is_cheaper := c.def_ 59 (d := dd "is_cheaper" 73) rfl
  d_balance := c.def_ 60 (d := dd "balance" 74) rfl
  d__law_cells := c.def_ 61 (d := dd "_law_cells" 76) rfl
  d__law_same := c.def_ 62 (d := dd "_law_same" 77) rfl
  d__law_no_nets := c.def_ 63 (d := dd "_law_no_nets" 78) rfl
  d__law_asked := c.def_ 64 (d := dd "_law_asked" 79) rfl
  d__law_reply := c.def_ 65 (d := dd "_law_reply" 80) rfl
  d__law_front_right := c.def_ 66 (d := dd "_law_front_right" 81) rfl
  d__law_others_right := c.def_ 67 (d := dd "_law_others_right" 82) rfl
  d__law_refused_right := c.def_ 68 (d := dd "_law_refused_right" 83) rfl
  d_law := c.def_ 69 (d := dd "law" 84) rfl
  b_LookupError := He.free_ok X G (c.fact 74 (f := .free "LookupError") rfl)
  b_ValueError := He.free_ok X G (c.fact 75 (f := .free "ValueError") rfl)
  b_all := He.free_ok X G (c.fact 76 (f := .free "all") rfl)
  b_bool := He.free_ok X G (c.fact 77 (f := .free "bool") rfl)
  b_enumerate := He.free_ok X G (c.fact 78 (f := .free "enumerate") rfl)
  b_int := He.free_ok X G (c.fact 79 (f := .free "int") rfl)
  b_isinstance := He.free_ok X G (c.fact 80 (f := .free "isinstance") rfl)
  b_len := He.free_ok X G (c.fact 81 (f := .free "len") rfl)
  b_list := He.free_ok X G (c.fact 82 (f := .free "list") rfl)
  b_min := He.free_ok X G (c.fact 83 (f := .free "min") rfl)
  b_range := He.free_ok X G (c.fact 84 (f := .free "range") rfl)
  b_reversed := He.free_ok X G (c.fact 85 (f := .free "reversed") rfl)
  b_set := He.free_ok X G (c.fact 86 (f := .free "set") rfl)
  b_sorted := He.free_ok X G (c.fact 87 (f := .free "sorted") rfl)
  b_str := He.free_ok X G (c.fact 88 (f := .free "str") rfl)
  b_sum := He.free_ok X G (c.fact 89 (f := .free "sum") rfl)
  b_tuple := He.free_ok X G (c.fact 90 (f := .free "tuple") rfl)
  b_zip := He.free_ok X G (c.fact 91 (f := .free "zip") rfl)
  i_gcd := PySem.W.mg_of X G (He.eqO_ok (clf cb 14 rfl))
  k_NoPlace := He.glo_ok X G (c.fact 70 (f := .glo "NoPlace") rfl)
  x_NoPlace := cls1_ok X G (clf cb 0 rfl) ⟨_, _, _, _, _, _, rfl, rfl, rfl⟩ (c.def_ 70 (d := di "NoPlace" "NoPlace.__init__" 2 0) rfl)
  m_NoPlace := exmB_ok (clf cb 4 rfl)
  f_NoPlace := xfB_ok (clf cb 5 rfl)
  n_NoPlace := He.eqO_ok (clf cb 6 rfl)
  k_NoTie := He.glo_ok X G (c.fact 71 (f := .glo "NoTie") rfl)
  x_NoTie := cls1_ok X G (clf cb 1 rfl) ⟨_, _, _, _, _, _, rfl, rfl, rfl⟩ (c.def_ 71 (d := di "NoTie" "NoTie.__init__" 3 0) rfl)
  m_NoTie := exmB_ok (clf cb 7 rfl)
  f_NoTie := xfB_ok (clf cb 8 rfl)
  n_NoTie := He.eqO_ok (clf cb 9 rfl)
  k_CanNot := He.glo_ok X G (c.fact 72 (f := .glo "CanNot") rfl)
  x_CanNot := cls0_ok X G (clf cb 2 rfl)
  m_CanNot := exmB_ok (clf cb 10 rfl)
  k_Unfit := He.glo_ok X G (c.fact 73 (f := .glo "Unfit") rfl)
  x_Unfit := cls0_ok X G (clf cb 3 rfl)
  m_Unfit := exmB_ok (clf cb 11 rfl)
  ex_LookupError := fun k b e => (kitB_ok (clf cb 12 rfl) k b e).1
  ki_LookupError := fun k b e => (kitB_ok (clf cb 12 rfl) k b e).2
  ex_ValueError := fun k b e => (kitB_ok (clf cb 13 rfl) k b e).1
  ki_ValueError := fun k b e => (kitB_ok (clf cb 13 rfl) k b e).2
abbrev R : PySem.W.OpenRow := PySem.W.OpenLaw.row PySem.Challenge.rw_eachhandtied_k24_shares_and_prices_by_ha
def nm0 : List Str := ["NoPlace", "NoTie", "CanNot", "Unfit", "top_of", "forest", "holds", "is_number", "are_numbers", "is_pair", "rises", "tupled", "same", "ties_round", "is_ring", "row_in", "steps_of", "steps_toward", "beyond_along", "shares_in", "shares_along", "good_ties", "good_web", "good_side", "good_place", "good_tie", "good_tree", "good_order", "good_shares", "fit_pair"]
def nm1 : List Str := ["fit_web", "fit_side", "fit_tree", "fit_order", "fit_shares", "fit_ring", "need_place", "need_tie", "share_of", "pairs_of", "share", "tree_shares", "shares_by", "shares_round", "carried", "is_shares", "row_by_shares", "other_shares", "prices_of", "potentials_along", "potentials_of", "gaps_along", "gaps_of", "under_of", "cost_of", "price", "prices", "potentials", "is_potentials", "gap"]
def nm2 : List Str := ["under", "most_under", "cost", "is_cheaper", "balance", "_law_cells", "_law_same", "_law_no_nets", "_law_asked", "_law_reply", "_law_front_right", "_law_others_right", "_law_refused_right"]
def names : List Str := nm0 ++ nm1 ++ nm2
theorem run (w : World) : HandSHeadRun.RunEqI R (PySem.W.view R.prog [0, 84]) (hkZ clB fad fnd) (fun s => obZ clB fad fnd (HandSHeadRun.getT s)) 6000 names w := by
  unfold HandSHeadRun.RunEqI
  kernel_rfl
end
end Gk
open PySem PySem.W PySem.Calls PyProof.Rows in
theorem Gk.holds_of (ev : ∀ ns : List Int, ns.length ≤ 63 → ∃ h, Gk.F_law ns [.fn 1000] Sm.Hm.nil = .ok (.bl true) h) : PySem.Challenge.rw_eachhandtied_k24_shares_and_prices_by_ha.Holds := by
  w_on; o_law
  refine HandSHeadRun.head_imp (r := OpenLaw.row PySem.Challenge.rw_eachhandtied_k24_shares_and_prices_by_ha) (q := view (OpenLaw.row PySem.Challenge.rw_eachhandtied_k24_shares_and_prices_by_ha).prog [0, 84]) (H := Sm.hkZ Gk.clB Gk.fad Gk.fnd) (ob := fun s => Sm.obZ Gk.clB Gk.fad Gk.fnd (HandSHeadRun.getT s)) (M := 6000) (loose := Gk.names) (d := HandSHeadRun.topDef (OpenLaw.row PySem.Challenge.rw_eachhandtied_k24_shares_and_prices_by_ha).prog 84) (kwd := []) Sm.obZ_eq
    Gk.run (by kernel_rfl) (by kernel_rfl) (by kernel_rfl) (by rfl) (by first | assumption | decide +kernel) (by decide +kernel) ⟨rfl, rfl, rfl, rfl, rfl, by decide +kernel⟩ ?hw ?hc
  case hw => w_witness2
  case hc =>
    refine Sm.walkZ (l := PySem.Challenge.rw_eachhandtied_k24_shares_and_prices_by_ha) (n := 63) (k := 17) (x := "script") rfl (by decide) (by kernel_rfl) ⟨rfl, by decide, by decide⟩ ?F
    intro w mg fa h Y G hmg0
    obtain ⟨K, KX, cb, c⟩ := Y
    have hmg : mg ("law" : PySem.Str) = some (.ref fa) := by
      have e : (HandSHeadRun.topDef (OpenLaw.row PySem.Challenge.rw_eachhandtied_k24_shares_and_prices_by_ha).prog 84).name = ("law" : PySem.Str) := by kernel_rfl
      rw [← e]
      exact hmg0
    have T : ∀ a ns, Gk.Tp K w a ns mg := fun a ns => Gk.tp_of KX G cb c
    obtain ⟨fd, F⟩ := (T 0 []).d_law
    have e := hmg.symm.trans (T 0 []).g_law
    cases e
    have hb := L2.FunD.bindsA (ps := ["script"]) F fun _ _ _ _ _ _ us hl => match us, hl with | [_], _ => rfl
    exact ⟨K, fd, Sm.spZ K 63, KX, fun s v => hb s [v] rfl, Sm.spZ_law, fun base _ _ => Sm.fn_spZ (Z := fun a ns => Gk.Zk K w a ns) (F := Gk.F_law) rfl (fun _ _ => rfl) (fun _ _ _ p => p) (fun a ns => Gk.law_fn (T a ns) F) ev⟩
namespace Gk
open PySem PySem.Spec PyProof.Rows L2 Sm
noncomputable section
theorem v1 : okT (F__law_front_right [] Hm.nil) = true := by decide +kernel
theorem v2 : okT (F__law_others_right [] Hm.nil) = true := by decide +kernel
theorem v3 : okT (F__law_refused_right [] Hm.nil) = true := by decide +kernel
theorem ev_torF {m k : MT} {σ : Sm.Loc} {h h1 : Hm} {r : Sm.R Bool} (a : m σ h = .ok false h1) (b : k σ h1 = r) : tOrM m k σ h = r := by
  unfold tOrM
  rw [a]
  exact b
theorem ev (ns : List Int) (_ : ns.length ≤ 63) : ∃ h, F_law ns [.fn 1000] Hm.nil = .ok (.bl true) h := by
  obtain ⟨x, e, x0, x1⟩ := mcmod_ok (ns := ns) (m := 2) (r := []) (h0 := Hm.nil) rfl (by decide)
  have f : ([some (.fn 1000)] : Sm.Loc).all flatO = true := rfl
  refine ⟨Hm.nil, ev_def (b := B_law ns) (ev_ss (σ1 := [some (.fn 1000)]) (h1 := Hm.nil) (ev_sel (ev_torF (ev_not (ev_tru (mR_call0 f v1) rfl)) (ev_not (ev_tru (mR_call0 f v2) rfl))) rfl) (ev_ret ?_))⟩
  by_cases hx : x = 1
  · refine ev_orT (d := .bl true) (ev_2 e rfl ?_) rfl
    subst hx; rfl
  · refine ev_orF (d := .bl false) (h1 := Hm.nil) (ev_2 e rfl ?_) rfl (mR_call0 f v3)
    have : x = 0 := by omega
    subst this; rfl
end
end Gk
theorem PySem.Challenge.cw_eachhandtied_k24_shares_and_prices_by_ha_holds : PySem.Challenge.rw_eachhandtied_k24_shares_and_prices_by_ha.Holds :=
  Gk.holds_of Gk.ev
