import PyProof.Rows.All
import Wide.All
import OpenK.AllK
import Wide.FinOn
import HandS.ForMost
import HandS.Exc
import HandS.TryOnly
import HandS.ExcOwn
import HandS.WordsExc
import HandS.Property
import HandS.TupMul
import HandS.TupAny
import HandS.Style
import HandS.Wide
import HandS.IsInst
import HandS.FStr
import HandS.ExcInit
import HandS.ExcIs
import HandS.OwnEq
import PyProof.NeKinds
import KE.KExcInit
import PyProof.ExcBaseAll.RuntimeError
import PyProof.ExcBaseAll.IndexError
import PyProof.ExcBaseAll.LookupError
import PyProof.ExcBaseAll.OverflowError
import PyProof.ExcBaseAll.ValueError
import HandS.Defaults
import HandS.More
import HandS.Strs
import KE.GoesEnum
import KE.KRevSl
import PyProof.EnumMake
import KE.KExcLine
import HandS.Zip0
import PyProof.CollectWalk
import PyProof.TupleCall
import PyProof.TupleOfSeq
import KE.KStar
import HandS.Star
import HandS.ExcValue
import PySem.Challenge.RW_pictureframes_k03_single_steps
set_option Elab.async false
set_option linter.all false
set_option maxRecDepth 100000
set_option maxHeartbeats 1000000
/-! data trees over the abstract heap, and what code yields of them -/
namespace DL
open PySem PySem.Spec PyProof.Rows L2

abbrev Sig := L2.St
inductive D where
  | non | bl (b : Bool) | int (i : Int) | str (x : Str)
  | lst (xs : List D) | tup (xs : List D)
  | dic (ks : List Key) (xs : List D)
  | ins (C : Str) (ns : List Str) (xs : List D)
  /-- a list that is only read; an object of one's own (see OH) -/
  | frz (xs : List D) | loc (a : Addr)
  /-- a class or a def of the module, a built-in type -/
  | cls (C : Str) | ty (n : String)

/-- a list that nobody changes: a locked one, or one of the written part -/
def SqF (K : PySem.W.Frag) (G : Hp) (a : Addr) (xs : List V) : Prop :=
  (∃ o, G a = some (.frz o (.lst xs))) ∨
    ∃ (o : Obj) (its : Array Value) (n : Nat), K.lookup a = some o ∧ o.cls = .type "list" ∧ o.dict = none ∧ o.data = .seq its n ∧ its.size ≤ sizeLine ∧ Vals xs its.toList
theorem SqF.sql {K : PySem.W.Frag} {G : Hp} {a : Addr} {xs : List V} (h : SqF K G a xs) : SqL K G a xs := h.elim (fun q => .inl (.inr q)) .inr
section
variable (K : PySem.W.Frag) (mg : Str → Option Value)
mutual
/-- v stands for the tree d in G -/
inductive Rp (G : Hp) : V → D → Prop
  | non : Rp G .non .non
  | bl (b : Bool) : Rp G (.bl b) (.bl b)
  | int (i : Int) : Rp G (.int i) (.int i)
  | str (x : Str) : Rp G (.str x) (.str x)
  | lst {a : Addr} {vs : List V} {ds : List D} : G a = some (.lst vs) → RpL G vs ds → Rp G (.ref a) (.lst ds)
  | tup {a : Addr} {vs : List V} {ds : List D} : SqT K G a vs → RpL G vs ds → Rp G (.ref a) (.tup ds)
  | dic {a : Addr} {ks : List Key} {vs : List V} {ds : List D} : G a = some (.dK (ks.zip vs)) → ks.length = vs.length → RpL G vs ds → Rp G (.ref a) (.dic ks ds)
  | ins {a c dx : Addr} {C : Str} {ns : List Str} {vs : List V} {ds : List D} : mg C = some (.ref c) → G a = some (.ins c dx (ns.zip vs)) → ns.length = vs.length → RpL G vs ds → Rp G (.ref a) (.ins C ns ds)
  | frz {a : Addr} {vs : List V} {ds : List D} : SqF K G a vs → RpL G vs ds → Rp G (.ref a) (.frz ds)
  | loc (a : Addr) : Rp G (.ref a) (.loc a)
  | cls {C : Str} {c : Addr} : mg C = some (.ref c) → Rp G (.ref c) (.cls C)
  | ty (n : String) : Rp G (.ty n) (.ty n)
inductive RpL (G : Hp) : List V → List D → Prop
  | nil : RpL G [] []
  | cons {v : V} {vs : List V} {d : D} {ds : List D} : Rp G v d → RpL G vs ds → RpL G (v :: vs) (d :: ds)
end
end

section
variable {K : PySem.W.Frag} {mg : Str → Option Value} {G G' : Hp}
theorem sql_mono {a : Addr} {xs : List V} (e : Same G G') (h : SqL K G a xs) : SqL K G' a xs := Same.seq e h
theorem sqf_mono {a : Addr} {xs : List V} (e : Same G G') (h : SqF K G a xs) : SqF K G' a xs := h.elim (fun ⟨o, q⟩ => .inl ⟨o, e _ _ q⟩) .inr
theorem sqt_mono {a : Addr} {xs : List V} (e : Same G G') (h : SqT K G a xs) : SqT K G' a xs := by
  rcases h with (h | ⟨o, h⟩) | h
  · exact Or.inl (Or.inl (e _ _ h))
  · exact Or.inl (Or.inr ⟨o, e _ _ h⟩)
  · exact Or.inr h
mutual
theorem Rp.mono (e : Same G G') : ∀ {v : V} {d : D}, Rp K mg G v d → Rp K mg G' v d
  | _, _, .non => .non
  | _, _, .bl b => .bl b
  | _, _, .int i => .int i
  | _, _, .str x => .str x
  | _, _, .lst h r => .lst (e _ _ h) (RpL.mono e r)
  | _, _, .tup h r => .tup (sqt_mono e h) (RpL.mono e r)
  | _, _, .dic h l r => .dic (e _ _ h) l (RpL.mono e r)
  | _, _, .ins m h l r => .ins m (e _ _ h) l (RpL.mono e r)
  | _, _, .frz h r => .frz (sqf_mono e h) (RpL.mono e r)
  | _, _, .loc a => .loc a
  | _, _, .cls h => .cls h
  | _, _, .ty n => .ty n
theorem RpL.mono (e : Same G G') : ∀ {vs : List V} {ds : List D}, RpL K mg G vs ds → RpL K mg G' vs ds
  | _, _, .nil => .nil
  | _, _, .cons a b => .cons (Rp.mono e a) (RpL.mono e b)
end
theorem RpL.len : ∀ {vs : List V} {ds : List D}, RpL K mg G vs ds → vs.length = ds.length
  | _, _, .nil => rfl
  | _, _, .cons _ r => by rw [List.length_cons, List.length_cons, RpL.len r]
theorem RpL.at : ∀ {vs : List V} {ds : List D} {i : Nat} {d : D}, RpL K mg G vs ds → ds[i]? = some d → ∃ v, vs[i]? = some v ∧ Rp K mg G v d
  | _, _, _, _, .nil, h => by simp at h
  | _, _, 0, _, .cons a _, h => by
    simp at h
    subst h
    exact ⟨_, rfl, a⟩
  | _, _, i + 1, _, .cons _ r, h => by
    obtain ⟨v, e, q⟩ := RpL.at (i := i) r (by simpa using h)
    exact ⟨v, by simpa using e, q⟩
theorem RpL.atV : ∀ {vs : List V} {ds : List D} {i : Nat} {v : V}, RpL K mg G vs ds → vs[i]? = some v → ∃ d, ds[i]? = some d ∧ Rp K mg G v d
  | _, _, _, _, .nil, h => by simp at h
  | _, _, 0, _, .cons a _, h => by
    simp at h
    subst h
    exact ⟨_, rfl, a⟩
  | _, _, i + 1, _, .cons _ r, h => by
    obtain ⟨v, e, q⟩ := RpL.atV (i := i) r (by simpa using h)
    exact ⟨v, by simpa using e, q⟩
theorem RpL.app : ∀ {vs ws : List V} {ds es : List D}, RpL K mg G vs ds → RpL K mg G ws es → RpL K mg G (vs ++ ws) (ds ++ es)
  | _, _, _, _, .nil, s => s
  | _, _, _, _, .cons a r, s => .cons a (RpL.app r s)
theorem RpL.tk : ∀ {vs : List V} {ds : List D} (n : Nat), RpL K mg G vs ds → RpL K mg G (vs.take n) (ds.take n)
  | _, _, 0, _ => .nil
  | _, _, _ + 1, .nil => .nil
  | _, _, n + 1, .cons a r => .cons a (RpL.tk n r)
theorem RpL.dr : ∀ {vs : List V} {ds : List D} (n : Nat), RpL K mg G vs ds → RpL K mg G (vs.drop n) (ds.drop n)
  | _, _, 0, r => r
  | _, _, _ + 1, .nil => .nil
  | _, _, n + 1, .cons _ r => RpL.dr n r
theorem RpL.rev : ∀ {vs : List V} {ds : List D}, RpL K mg G vs ds → RpL K mg G vs.reverse ds.reverse
  | _, _, .nil => .nil
  | _, _, .cons a r => by
    rw [List.reverse_cons, List.reverse_cons]
    exact (RpL.rev r).app (.cons a .nil)
theorem RpL.flat (n : Nat) {vs : List V} {ds : List D} (r : RpL K mg G vs ds) : RpL K mg G (List.replicate n vs).flatten (List.replicate n ds).flatten := by
  induction n with
  | zero => exact .nil
  | succ n ih =>
    rw [List.replicate_succ, List.replicate_succ, List.flatten_cons, List.flatten_cons]
    exact r.app ih
end

/-- fresh objects are laid in both -/
inductive Ext : Hp → Hp → Hp → Hp → Prop
  | refl {G H : Hp} : Ext G H G H
  | step {G H G' H' : Hp} {a : Addr} {o : HO} : Ext G H G' H' → H' a = none → Ext G H (upd G' a o) (upd H' a o)
theorem Ext.trans {G H G1 H1 G2 H2 : Hp} (a : Ext G H G1 H1) (b : Ext G1 H1 G2 H2) : Ext G H G2 H2 := by
  induction b with
  | refl => exact a
  | step _ n ih => exact .step ih n
theorem Ext.one {G H : Hp} {a : Addr} {o : HO} (n : H a = none) : Ext G H (upd G a o) (upd H a o) := .step .refl n
theorem same_new {H : Hp} {a : Addr} {o : HO} (n : H a = none) : Same H (upd H a o) := fun b u e => by
  rw [upd_ne (ne_of_none e n)]
  exact e
theorem same_both {G H : Hp} {a : Addr} {o : HO} (s : Same G H) (n : H a = none) : Same (upd G a o) (upd H a o) := fun b u e => by
  by_cases hb : b = a
  · subst hb
    rw [upd_same] at e ⊢
    exact e
  · rw [upd_ne hb] at e ⊢
    exact s _ _ e
theorem Ext.out {G H G' H' : Hp} (x : Ext G H G' H') (s : Same G H) : Same G G' ∧ Same H H' ∧ Same G' H' := by
  induction x with
  | refl => exact ⟨Same.refl _, Same.refl _, s⟩
  | step x n ih =>
    obtain ⟨a, b, c⟩ := ih
    exact ⟨a.trans (same_new (c.free n)), b.trans (same_new n), same_both c n⟩

/-- what stands around the trees: it is kept where fresh objects are laid -/
class Frm {S : Type} (Φ : S → Hp → Hp → Prop) : Prop where
  same : ∀ {s G H}, Φ s G H → Same G H
  ext : ∀ {s G H a o}, Φ s G H → H a = none → Φ s (upd G a o) (upd H a o)
theorem Frm.exts {S : Type} {Φ : S → Hp → Hp → Prop} [Frm Φ] {s : S} {G H G' H' : Hp} (x : Ext G H G' H') (h : Φ s G H) : Φ s G' H' := by
  induction x with
  | refl => exact h
  | step _ n ih => exact Frm.ext ih n

abbrev Rho := List (Option D)
def RelE (K : PySem.W.Frag) (mg : Str → Option Value) (G : Hp) (σ : Sig) (ρ : Rho) : Prop :=
  σ.length = ρ.length ∧ ∀ (i : Nat) (d : D), ρ[i]? = some (some d) → ∃ v, σ[i]? = some (some v) ∧ Rp K mg G v d
section
variable {K : PySem.W.Frag} {mg : Str → Option Value} {G G' : Hp} {σ : Sig} {ρ : Rho}
theorem RelE.mono (h : RelE K mg G σ ρ) (e : Same G G') : RelE K mg G' σ ρ := ⟨h.1, fun i d q => by
  obtain ⟨v, a, b⟩ := h.2 i d q
  exact ⟨v, a, b.mono e⟩⟩
theorem RelE.set (h : RelE K mg G σ ρ) (i : Nat) {v : V} {d : D} (r : Rp K mg G v d) : RelE K mg G (σ.set i (some v)) (ρ.set i (some d)) := by
  refine ⟨by rw [List.length_set, List.length_set]; exact h.1, fun j e q => ?_⟩
  by_cases hj : i = j
  · subst hj
    have hl : i < ρ.length := by
      have q' := (List.getElem?_eq_some_iff.mp q).1
      rwa [List.length_set] at q'
    rw [List.getElem?_set_self hl] at q
    cases q
    exact ⟨v, List.getElem?_set_self (by rw [h.1]; exact hl), r⟩
  · rw [List.getElem?_set_ne hj] at q ⊢
    exact h.2 j e q
theorem RelE.drop (h : RelE K mg G σ ρ) (i : Nat) (u : Option V) : RelE K mg G (σ.set i u) (ρ.set i none) := by
  refine ⟨by rw [List.length_set, List.length_set]; exact h.1, fun j e q => ?_⟩
  by_cases hj : i = j
  · subst hj
    have hl : i < ρ.length := by
      have q' := (List.getElem?_eq_some_iff.mp q).1
      rwa [List.length_set] at q'
    rw [List.getElem?_set_self hl] at q
    cases q
  · rw [List.getElem?_set_ne hj] at q ⊢
    exact h.2 j e q
end

structure Exn where
  cls : Str
  fs : Option (List Str × List D)
def ExR (K : PySem.W.Frag) (mg : Str → Option Value) (G : Hp) (cls : Value) (d : Option Addr) (x : Exn) : Prop :=
  mg x.cls = some cls ∧ match x.fs with
    | none => d = none
    | some (ns, ds) => ∃ (a : Addr) (vs : List V), d = some a ∧ G a = some (.xd (ns.zip vs)) ∧ ns.length = vs.length ∧ RpL K mg G vs ds
theorem ExR.mono {K : PySem.W.Frag} {mg : Str → Option Value} {G G' : Hp} {cls : Value} {d : Option Addr} {x : Exn} (h : ExR K mg G cls d x) (e : Same G G') : ExR K mg G' cls d x := by
  obtain ⟨c, h⟩ := h
  refine ⟨c, ?_⟩
  cases q : x.fs with
  | none => rw [q] at h; exact h
  | some p =>
    rw [q] at h
    obtain ⟨a, vs, h1, h2, h3, h4⟩ := h
    exact ⟨a, vs, h1, e _ _ h2, h3, h4.mono e⟩

/-! ### readings over trees -/
abbrev ME (S : Type) := Rho → S → (D → S → Prop) → (Exn → S → Prop) → Prop
abbrev MT (S : Type) := Rho → S → (Bool → S → Prop) → (Exn → S → Prop) → Prop
abbrev MA (S : Type) := Rho → S → (List D → S → Prop) → (Exn → S → Prop) → Prop
structure MEnds (S : Type) where
  nx : Rho → S → Prop
  rt : D → S → Prop
  bk : Rho → S → Prop
  ct : Rho → S → Prop
  ex : Exn → Rho → S → Prop
abbrev MS (S : Type) := MEnds S → Rho → S → Prop
/-- what is wished of errors at the slots σ -/
def Wsh {S : Type} (K : PySem.W.Frag) (mg : Str → Option Value) (Φ : S → Hp → Hp → Prop) (W : WX) (G : Hp) (σ : Sig) (R : Exn → S → Prop) : Prop :=
  ∀ (x : Exn) (s : S) (G' H' : Hp) (cls : Value) (d : Option Addr), Same G G' → Φ s G' H' → ExR K mg G' cls d x → R x s → W cls d σ H'
theorem Wsh.mono {S : Type} {K : PySem.W.Frag} {mg : Str → Option Value} {Φ : S → Hp → Hp → Prop} {W : WX} {G G1 : Hp} {σ : Sig} {R : Exn → S → Prop} (h : Wsh K mg Φ W G σ R) (e : Same G G1) : Wsh K mg Φ W G1 σ R :=
  fun x s G' H' cls d q => h x s G' H' cls d (e.trans q)

section
variable {S : Type} (X : Cx) (Φ : S → Hp → Hp → Prop) (W : WX)
structure DE (e : Expr) (te : TE) (m : ME S) : Prop where
  pe : PE X e te
  sem : ∀ (σ : Sig) (ρ : Rho) (s : S) (G H : Hp) (Q : VK) (P : D → S → Prop) (R : Exn → S → Prop), RelE X.K X.mg G σ ρ → Φ s G H → Wsh X.K X.mg Φ W G σ R → m ρ s P R →
    (∀ (d : D) (s' : S) (v : V) (G' H' : Hp), P d s' → Same G G' → Φ s' G' H' → Rp X.K X.mg G' v d → Q v H') → te σ H Q
structure DT (e : Expr) (tt : TT) (m : MT S) : Prop where
  pt : PT X e tt
  sem : ∀ (σ : Sig) (ρ : Rho) (s : S) (G H : Hp) (Q : Bool → Hp → Prop) (P : Bool → S → Prop) (R : Exn → S → Prop), RelE X.K X.mg G σ ρ → Φ s G H → Wsh X.K X.mg Φ W G σ R → m ρ s P R →
    (∀ (b : Bool) (s' : S) (G' H' : Hp), P b s' → Same G G' → Φ s' G' H' → Q b H') → tt σ H Q
structure DW (e : Expr) (tt : TT) (m : MT S) : Prop where
  pw : PW X e tt
  sem : ∀ (σ : Sig) (ρ : Rho) (s : S) (G H : Hp) (Q : Bool → Hp → Prop) (P : Bool → S → Prop) (R : Exn → S → Prop), RelE X.K X.mg G σ ρ → Φ s G H → Wsh X.K X.mg Φ W G σ R → m ρ s P R →
    (∀ (b : Bool) (s' : S) (G' H' : Hp), P b s' → Same G G' → Φ s' G' H' → Q b H') → tt σ H Q
structure DA (es : List Expr) (ta : TA) (m : MA S) : Prop where
  pa : PA X es ta
  sem : ∀ (σ : Sig) (ρ : Rho) (s : S) (G H : Hp) (Q : List V → Hp → Prop) (P : List D → S → Prop) (R : Exn → S → Prop), RelE X.K X.mg G σ ρ → Φ s G H → Wsh X.K X.mg Φ W G σ R → m ρ s P R →
    (∀ (ds : List D) (s' : S) (vs : List V) (G' H' : Hp), P ds s' → Same G G' → Φ s' G' H' → RpL X.K X.mg G' vs ds → Q vs H') → ta σ H Q
/-- the ends of a statement, met -/
structure EndsOk (K : PySem.W.Frag) (mg : Str → Option Value) (G : Hp) (M : MEnds S) (D : Ends) : Prop where
  nx : ∀ (σ : Sig) (ρ : Rho) (s : S) (G' H' : Hp), M.nx ρ s → Same G G' → RelE K mg G' σ ρ → Φ s G' H' → D.nx σ H'
  rt : ∀ (d : DL.D) (s : S) (v : V) (G' H' : Hp), M.rt d s → Same G G' → Φ s G' H' → Rp K mg G' v d → D.rt v H'
  bk : ∀ (σ : Sig) (ρ : Rho) (s : S) (G' H' : Hp), M.bk ρ s → Same G G' → RelE K mg G' σ ρ → Φ s G' H' → D.bk σ H'
  ct : ∀ (σ : Sig) (ρ : Rho) (s : S) (G' H' : Hp), M.ct ρ s → Same G G' → RelE K mg G' σ ρ → Φ s G' H' → D.ct σ H'
  ex : ∀ (x : Exn) (σ : Sig) (ρ : Rho) (s : S) (G' H' : Hp) (cls : Value) (d : Option Addr), M.ex x ρ s → Same G G' → RelE K mg G' σ ρ → Φ s G' H' → ExR K mg G' cls d x → W cls d σ H'
structure DS (st : Stmt) (ts : TS) (m : MS S) : Prop where
  ps : PS X st ts
  sem : ∀ (σ : Sig) (ρ : Rho) (s : S) (G H : Hp) (D : Ends) (M : MEnds S), RelE X.K X.mg G σ ρ → Φ s G H → m M ρ s → EndsOk Φ W X.K X.mg G M D → ts D σ H
structure DSs (st : List Stmt) (ts : TS) (m : MS S) : Prop where
  pss : PSs X st ts
  sem : ∀ (σ : Sig) (ρ : Rho) (s : S) (G H : Hp) (D : Ends) (M : MEnds S), RelE X.K X.mg G σ ρ → Φ s G H → m M ρ s → EndsOk Φ W X.K X.mg G M D → ts D σ H
end
section
variable {S : Type} {Φ : S → Hp → Hp → Prop} {W : WX} {K : PySem.W.Frag} {mg : Str → Option Value} {G G1 : Hp} {M : MEnds S} {D : Ends}
theorem EndsOk.mono (h : EndsOk Φ W K mg G M D) (e : Same G G1) : EndsOk Φ W K mg G1 M D :=
  ⟨fun σ ρ s G' H' a b => h.nx σ ρ s G' H' a (e.trans b), fun d s v G' H' a b => h.rt d s v G' H' a (e.trans b), fun σ ρ s G' H' a b => h.bk σ ρ s G' H' a (e.trans b),
    fun σ ρ s G' H' a b => h.ct σ ρ s G' H' a (e.trans b), fun x σ ρ s G' H' c d a b => h.ex x σ ρ s G' H' c d a (e.trans b)⟩
/-- an expression's wish within a statement -/
theorem EndsOk.wsh {σ : Sig} {ρ : Rho} (h : EndsOk Φ W K mg G M D) (r : RelE K mg G σ ρ) : Wsh K mg Φ W G σ (fun x s => M.ex x ρ s) :=
  fun x s G' H' cls d e f q z => h.ex x σ ρ s G' H' cls d z e (r.mono e) f q
end
end DL

set_option Elab.async false
set_option linter.all false
set_option maxRecDepth 100000
set_option maxHeartbeats 1000000
namespace DL
open PySem PySem.Spec PyProof.Rows L2

section
variable {S : Type} {X : Cx} {Φ : S → Hp → Hp → Prop} {W : WX} [Frm Φ]

/-! names and constants -/
def mVar (i : Nat) : ME S := fun ρ s P _ => ∃ d, ρ[i]? = some (some d) ∧ P d s
def mC (d : D) : ME S := fun _ s P _ => P d s
theorem de_var (i : Nat) {x : Str} {pos : Pos} (hN : X.N[i]? = some x := by rfl) (hv : Vis X.env.scope x := by first | exact Or.inl rfl | exact Or.inr (Or.inl rfl) | exact Or.inr (Or.inr rfl)) (hd : (x == ("__debug__" : Str)) = false := by decide)
    (hcd : (x == ("__classdict__" : Str)) = false := by decide) : DE X Φ W (.Name x pos) (tVar i) (mVar i) :=
  ⟨pe_var hN hv hd hcd, fun σ ρ s G H Q P R hρ hΦ hW ⟨d, e, p⟩ k => by
    obtain ⟨v, hv, r⟩ := hρ.2 i d e
    exact ⟨v, hv, k d s v G H p (Same.refl _) hΦ r⟩⟩
theorem de_int {i j pos} : DE X Φ W (.Constant (.int i) j pos) (tC (.int i)) (mC (.int i)) := ⟨pe_int, fun _ _ s G H _ _ _ _ f _ p k => k _ s _ G H p (Same.refl _) f (.int i)⟩
theorem de_bl {b j pos} : DE X Φ W (.Constant (.bool b) j pos) (tC (.bl b)) (mC (.bl b)) := ⟨pe_bl, fun _ _ s G H _ _ _ _ f _ p k => k _ s _ G H p (Same.refl _) f (.bl b)⟩
theorem de_non {j pos} : DE X Φ W (.Constant .none j pos) (tC .non) (mC .non) := ⟨pe_non, fun _ _ s G H _ _ _ _ f _ p k => k _ s _ G H p (Same.refl _) f .non⟩
theorem de_str {x j pos} : DE X Φ W (.Constant (.str x) j pos) (tC (.str x)) (mC (.str x)) := ⟨pe_str, fun _ _ s G H _ _ _ _ f _ p k => k _ s _ G H p (Same.refl _) f (.str x)⟩
/-- a module's constant: a tree that stands in the written part -/
theorem de_glob {x : Str} {v : V} {u : Value} {d : D} {pos : Pos} (hg : Gl X x) (hm : X.mg x = some u) (r : RelV v u) (hc : ∀ G, Rp X.K X.mg G v d) (hd : (x == ("__debug__" : Str)) = false := by decide) : DE X Φ W (.Name x pos) (tC v) (mC d) :=
  ⟨pe_glob hg hm r hd, fun _ _ s G H _ _ _ _ f _ p k => k _ s _ G H p (Same.refl _) f (hc G)⟩

/-! operators by values -/
abbrev W2 := D → D → (D → Prop) → Prop
/-- r of the layer serves w over trees -/
structure Op2 (X : Cx) (f : Value → Value → Sem Value) (r : R2) (w : W2) : Prop where
  op : OpR X f r
  sem : ∀ (x y : V) (a b : D) (G H : Hp) (Q : VK) (P : D → Prop), Rp X.K X.mg G x a → Rp X.K X.mg G y b → Same G H → w a b P → (∀ (d : D) (v : V) (G' H' : Hp), P d → Ext G H G' H' → Rp X.K X.mg G' v d → Q v H') → r x y H Q
def mBin (w : W2) (ma mb : ME S) : ME S := fun ρ s P R => ma ρ s (fun a s1 => mb ρ s1 (fun b s2 => w a b fun d => P d s2) R) R
theorem bin_sem {te tb : TE} {r : R2} {f : Value → Value → Sem Value} {w : W2} {a b : Expr} {ma mb : ME S} (o : Op2 X f r w) (ha : DE X Φ W a te ma) (hb : DE X Φ W b tb mb) {σ : Sig} {ρ : Rho} {s : S} {G H : Hp} {Q : VK} {P : D → S → Prop} {R : Exn → S → Prop}
    (hρ : RelE X.K X.mg G σ ρ) (f0 : Φ s G H) (hW : Wsh X.K X.mg Φ W G σ R) (h : mBin w ma mb ρ s P R) (k : ∀ (d : D) (s' : S) (v : V) (G' H' : Hp), P d s' → Same G G' → Φ s' G' H' → Rp X.K X.mg G' v d → Q v H') : tOp r te tb σ H Q := by
  refine ha.sem σ ρ s G H _ _ R hρ f0 hW h fun x s1 u G1 H1 h1 e1 f1 r1 => ?_
  refine hb.sem σ ρ s1 G1 H1 _ _ R (hρ.mono e1) f1 (hW.mono e1) h1 fun y s2 v G2 H2 h2 e2 f2 r2 => ?_
  refine o.sem u v x y G2 H2 _ _ (r1.mono e2) r2 (Frm.same f2) h2 fun d z G3 H3 p x3 r3 => ?_
  exact k d s2 z G3 H3 p ((e1.trans e2).trans (x3.out (Frm.same f2)).1) (Frm.exts x3 f2) r3
theorem de_bin {op : Operator} {te tb : TE} {r : R2} {w : W2} {a b : Expr} {ma mb : ME S} {pos : Pos} (o : Op2 X (binaryOp op) r w) (ha : DE X Φ W a te ma) (hb : DE X Φ W b tb mb) : DE X Φ W (.BinOp a op b pos) (tOp r te tb) (mBin w ma mb) :=
  ⟨pe_op o.op ha.pe hb.pe, fun _ _ _ _ _ _ _ _ hρ f hW h k => bin_sem o ha hb hρ f hW h k⟩
theorem de_cmp {op : CmpOp} {te tb : TE} {r : R2} {w : W2} {a b : Expr} {ma mb : ME S} {pos : Pos} (o : Op2 X (compareOp op) r w) (ha : DE X Φ W a te ma) (hb : DE X Φ W b tb mb) (hm : behindInMarks op b = false := by first | exact nomark _ | rfl) : DE X Φ W (.Compare a [op] [b] pos) (tOp r te tb) (mBin w ma mb) :=
  ⟨pe_cmpR o.op ha.pe hb.pe hm, fun _ _ _ _ _ _ _ _ hρ f hW h k => bin_sem o ha hb hρ f hW h k⟩
/-- a value that is a bool, as a test -/
def mTest (m : ME S) : MT S := fun ρ s P R => m ρ s (fun d s' => ∃ b, d = .bl b ∧ P b s') R
theorem rp_bl {K : PySem.W.Frag} {mg : Str → Option Value} {G : Hp} {v : V} {b : Bool} (r : Rp K mg G v (.bl b)) : v = .bl b := by cases r; rfl
theorem rp_int {K : PySem.W.Frag} {mg : Str → Option Value} {G : Hp} {v : V} {b : Int} (r : Rp K mg G v (.int b)) : v = .int b := by cases r; rfl
theorem rp_str {K : PySem.W.Frag} {mg : Str → Option Value} {G : Hp} {v : V} {b : Str} (r : Rp K mg G v (.str b)) : v = .str b := by cases r; rfl
theorem dt_cmp {op : CmpOp} {te tb : TE} {r : R2} {w : W2} {a b : Expr} {ma mb : ME S} {pos : Pos} (o : Op2 X (compareOp op) r w) (ha : DE X Φ W a te ma) (hb : DE X Φ W b tb mb) (hm : behindInMarks op b = false := by first | exact nomark _ | rfl) : DT X Φ W (.Compare a [op] [b] pos) (tTest (tOp r te tb)) (mTest (mBin w ma mb)) :=
  ⟨pt_cmpR o.op ha.pe hb.pe hm, fun _ _ _ _ _ _ _ _ hρ f hW h k => bin_sem o ha hb hρ f hW h fun d s' v G' H' ⟨c, e, p⟩ q1 q2 q3 => by
    subst e
    exact ⟨c, rp_bl q3, k c s' G' H' p q1 q2⟩⟩
theorem dt_val {e : Expr} {te : TE} {m : ME S} (h : DE X Φ W e te m) (he : ∀ whole, isTrue e X.env whole = (do let v ← whole; standAt e.pos; holding [v] (truthy v)) := by intro _; rfl) : DT X Φ W e (tB te) (mTest m) :=
  ⟨pt_val h.pe he, fun σ ρ s G H _ _ R hρ f hW hm k => h.sem σ ρ s G H _ _ R hρ f hW hm fun d s' v G' H' ⟨c, e, p⟩ q1 q2 q3 => by
    subst e
    exact ⟨c, rp_bl q3, k c s' G' H' p q1 q2⟩⟩
/-! and, or, not as tests -/
def mAnd (t u : MT S) : MT S := fun ρ s P R => t ρ s (fun c s1 => if c = true then u ρ s1 P R else P false s1) R
def mOr (t u : MT S) : MT S := fun ρ s P R => t ρ s (fun c s1 => if c = true then P true s1 else u ρ s1 P R) R
def mNot (t : MT S) : MT S := fun ρ s P R => t ρ s (fun c s1 => P (!c) s1) R
section
variable {a b : Expr} {rest : List Expr} {ta tb : TT} {ma mb : MT S} {pos : Pos}
theorem dw_and1 (h : DT X Φ W a ta ma) : DW X Φ W (.BoolOp .And [a] pos) ta ma := ⟨pw_and1 h.pt, h.sem⟩
theorem dw_or1 (h : DT X Φ W a ta ma) : DW X Φ W (.BoolOp .Or [a] pos) ta ma := ⟨pw_or1 h.pt, h.sem⟩
theorem dw_and (h : DT X Φ W a ta ma) (h' : DW X Φ W (.BoolOp .And (b :: rest) pos) tb mb) : DW X Φ W (.BoolOp .And (a :: b :: rest) pos) (tAnd ta tb) (mAnd ma mb) :=
  ⟨pw_and h.pt h'.pw, fun σ ρ s G H Q P R hρ f hW hm k => h.sem σ ρ s G H _ _ R hρ f hW hm fun c s1 G1 H1 h1 e1 f1 => by
    cases c with
    | true =>
      simp only [if_true] at h1 ⊢
      exact h'.sem σ ρ s1 G1 H1 Q P R (hρ.mono e1) f1 (hW.mono e1) h1 fun b s' G' H' p q => k b s' G' H' p (e1.trans q)
    | false =>
      simp only [Bool.false_eq_true, if_false] at h1 ⊢
      exact k _ s1 G1 H1 h1 e1 f1⟩
theorem dw_or (h : DT X Φ W a ta ma) (h' : DW X Φ W (.BoolOp .Or (b :: rest) pos) tb mb) : DW X Φ W (.BoolOp .Or (a :: b :: rest) pos) (tOr ta tb) (mOr ma mb) :=
  ⟨pw_or h.pt h'.pw, fun σ ρ s G H Q P R hρ f hW hm k => h.sem σ ρ s G H _ _ R hρ f hW hm fun c s1 G1 H1 h1 e1 f1 => by
    cases c with
    | true =>
      simp only [if_true] at h1 ⊢
      exact k _ s1 G1 H1 h1 e1 f1
    | false =>
      simp only [Bool.false_eq_true, if_false] at h1 ⊢
      exact h'.sem σ ρ s1 G1 H1 Q P R (hρ.mono e1) f1 (hW.mono e1) h1 fun b s' G' H' p q => k b s' G' H' p (e1.trans q)⟩
theorem DW.dt {e : Expr} (h : DW X Φ W e ta ma) : DT X Φ W e ta ma := ⟨h.pw.pt, h.sem⟩
theorem dt_not (h : DT X Φ W a ta ma) : DT X Φ W (.UnaryOp .Not a pos) (tNot ta) (mNot ma) :=
  ⟨pt_not h.pt, fun σ ρ s G H _ _ R hρ f hW hm k => h.sem σ ρ s G H _ _ R hρ f hW hm fun c s1 G1 H1 h1 e1 f1 => k _ s1 G1 H1 h1 e1 f1⟩
end
/-! .. as values -/
def mAndV (m n : ME S) : ME S := fun ρ s P R => m ρ s (fun d s1 => ∃ c, d = .bl c ∧ if c = true then n ρ s1 P R else P (.bl false) s1) R
def mOrV (m n : ME S) : ME S := fun ρ s P R => m ρ s (fun d s1 => ∃ c, d = .bl c ∧ if c = true then P (.bl true) s1 else n ρ s1 P R) R
def mNotV (m : ME S) : ME S := fun ρ s P R => m ρ s (fun d s1 => ∃ c, d = .bl c ∧ P (.bl (!c)) s1) R
section
variable {a b : Expr} {rest : List Expr} {ta tb : TE} {ma mb : ME S} {pos : Pos}
theorem de_one {op} (h : DE X Φ W a ta ma) : DE X Φ W (.BoolOp op [a] pos) ta ma := ⟨pe_one h.pe, h.sem⟩
theorem de_and (h : DE X Φ W a ta ma) (h' : DE X Φ W (.BoolOp .And (b :: rest) pos) tb mb) : DE X Φ W (.BoolOp .And (a :: b :: rest) pos) (tAndV ta tb) (mAndV ma mb) :=
  ⟨pe_and h.pe h'.pe, fun σ ρ s G H Q P R hρ f hW hm k => h.sem σ ρ s G H _ _ R hρ f hW hm fun d s1 v G1 H1 ⟨c, ed, h1⟩ e1 f1 r1 => by
    subst ed
    refine ⟨c, rp_bl r1, ?_⟩
    cases c with
    | true =>
      simp only [if_true] at h1 ⊢
      exact h'.sem σ ρ s1 G1 H1 Q P R (hρ.mono e1) f1 (hW.mono e1) h1 fun b s' v G' H' p q => k b s' v G' H' p (e1.trans q)
    | false =>
      simp only [Bool.false_eq_true, if_false] at h1 ⊢
      exact k _ s1 _ G1 H1 h1 e1 f1 (.bl false)⟩
theorem de_or (h : DE X Φ W a ta ma) (h' : DE X Φ W (.BoolOp .Or (b :: rest) pos) tb mb) : DE X Φ W (.BoolOp .Or (a :: b :: rest) pos) (tOrV ta tb) (mOrV ma mb) :=
  ⟨pe_or h.pe h'.pe, fun σ ρ s G H Q P R hρ f hW hm k => h.sem σ ρ s G H _ _ R hρ f hW hm fun d s1 v G1 H1 ⟨c, ed, h1⟩ e1 f1 r1 => by
    subst ed
    refine ⟨c, rp_bl r1, ?_⟩
    cases c with
    | true =>
      simp only [if_true] at h1 ⊢
      exact k _ s1 _ G1 H1 h1 e1 f1 (.bl true)
    | false =>
      simp only [Bool.false_eq_true, if_false] at h1 ⊢
      exact h'.sem σ ρ s1 G1 H1 Q P R (hρ.mono e1) f1 (hW.mono e1) h1 fun b s' v G' H' p q => k b s' v G' H' p (e1.trans q)⟩
theorem de_not (h : DE X Φ W a ta ma) : DE X Φ W (.UnaryOp .Not a pos) (tNotV ta) (mNotV ma) :=
  ⟨pe_not h.pe, fun σ ρ s G H Q P R hρ f hW hm k => h.sem σ ρ s G H _ _ R hρ f hW hm fun d s1 v G1 H1 ⟨c, ed, h1⟩ e1 f1 r1 => by
    subst ed
    exact ⟨c, rp_bl r1, k _ s1 _ G1 H1 h1 e1 f1 (.bl _)⟩⟩
def mIf (t : MT S) (m n : ME S) : ME S := fun ρ s P R => t ρ s (fun c s1 => if c = true then m ρ s1 P R else n ρ s1 P R) R
theorem de_if {c : Expr} {tc : TT} {mc : MT S} (hc : DT X Φ W c tc mc) (h : DE X Φ W a ta ma) (h' : DE X Φ W b tb mb) : DE X Φ W (.IfExp c a b pos) (tIf tc ta tb) (mIf mc ma mb) :=
  ⟨pe_ifExp hc.pt h.pe h'.pe, fun σ ρ s G H Q P R hρ f hW hm k => hc.sem σ ρ s G H _ _ R hρ f hW hm fun c s1 G1 H1 h1 e1 f1 => by
    cases c with
    | true =>
      simp only [if_true] at h1 ⊢
      exact h.sem σ ρ s1 G1 H1 Q P R (hρ.mono e1) f1 (hW.mono e1) h1 fun b s' v G' H' p q => k b s' v G' H' p (e1.trans q)
    | false =>
      simp only [Bool.false_eq_true, if_false] at h1 ⊢
      exact h'.sem σ ρ s1 G1 H1 Q P R (hρ.mono e1) f1 (hW.mono e1) h1 fun b s' v G' H' p q => k b s' v G' H' p (e1.trans q)⟩
end
/-! lists of arguments, displays -/
def mNil : MA S := fun _ s P _ => P [] s
def mCons (m : ME S) (n : MA S) : MA S := fun ρ s P R => m ρ s (fun d s1 => n ρ s1 (fun ds s2 => P (d :: ds) s2) R) R
section
variable {e : Expr} {es : List Expr} {te : TE} {ta : TA} {m : ME S} {n : MA S} {pos : Pos}
theorem da_nil : DA X Φ W [] tNil (mNil : MA S) := ⟨pa_nil, fun _ _ s G H _ _ _ _ f _ p k => k _ s _ G H p (Same.refl _) f .nil⟩
theorem da_cons (h : DE X Φ W e te m) (h' : DA X Φ W es ta n) (hs : starEach (e :: es) X.env = (false, eval e X.env) :: starEach es X.env := by rfl) : DA X Φ W (e :: es) (tCons te ta) (mCons m n) :=
  ⟨pa_cons h.pe h'.pa hs, fun σ ρ s G H Q P R hρ f hW hm k => h.sem σ ρ s G H _ _ R hρ f hW hm fun d s1 v G1 H1 h1 e1 f1 r1 =>
    h'.sem σ ρ s1 G1 H1 _ _ R (hρ.mono e1) f1 (hW.mono e1) h1 fun ds s2 vs G2 H2 h2 e2 f2 r2 => k _ s2 _ G2 H2 h2 (e1.trans e2) f2 (.cons (r1.mono e2) r2)⟩
def mLst (n : MA S) : ME S := fun ρ s P R => n ρ s (fun ds s1 => ds.length ≤ sizeLine ∧ P (.lst ds) s1) R
def mTup (n : MA S) : ME S := fun ρ s P R => n ρ s (fun ds s1 => ds.length ≤ sizeLine ∧ P (.tup ds) s1) R
theorem de_lst (h : DA X Φ W es ta n) : DE X Φ W (.List es pos) (tLst ta) (mLst n) :=
  ⟨pe_lst h.pa, fun σ ρ s G H Q P R hρ f hW hm k => h.sem σ ρ s G H _ _ R hρ f hW hm fun ds s1 vs G1 H1 ⟨hl, h1⟩ e1 f1 r1 =>
    ⟨by rw [r1.len]; exact hl, fun p np => k _ s1 _ _ _ h1 (e1.trans (same_new ((Frm.same f1).free np))) (Frm.ext f1 np) (.lst upd_same (r1.mono (same_new ((Frm.same f1).free np))))⟩⟩
theorem de_tup {x1} (h : DA X Φ W es ta n) : DE X Φ W (.Tuple es x1 pos) (tTup ta) (mTup n) :=
  ⟨pe_tup h.pa, fun σ ρ s G H Q P R hρ f hW hm k => h.sem σ ρ s G H _ _ R hρ f hW hm fun ds s1 vs G1 H1 ⟨hl, h1⟩ e1 f1 r1 =>
    ⟨by rw [r1.len]; exact hl, fun p np => k _ s1 _ _ _ h1 (e1.trans (same_new ((Frm.same f1).free np))) (Frm.ext f1 np) (.tup (SqT.of upd_same) (r1.mono (same_new ((Frm.same f1).free np))))⟩⟩
end
/-! built-ins called -/
abbrev WL := List D → (D → Prop) → Prop
structure Fn1 (X : Cx) (f : Value) (r : List V → Hp → VK → Prop) (w : WL) : Prop where
  cr : CallR X f r
  sem : ∀ (vs : List V) (ds : List D) (G H : Hp) (Q : VK) (P : D → Prop), RpL X.K X.mg G vs ds → Same G H → w ds P → (∀ (d : D) (v : V) (G' H' : Hp), P d → Ext G H G' H' → Rp X.K X.mg G' v d → Q v H') → r vs H Q
def mFn (w : WL) (n : MA S) : ME S := fun ρ s P R => n ρ s (fun ds s1 => w ds fun d => P d s1) R
section
variable {x : Str} {p pos : Pos} {e : Expr} {es : List Expr} {ta : TA} {n : MA S} {id T : String} {r : List V → Hp → VK → Prop} {w : WL}
theorem de_callB (c : Fn1 X (.builtin id) r w) (hg : Gl X x) (hm : X.mg x = none) (hv : bootBuiltins x = some (.builtin id)) (ha : DA X Φ W (e :: es) ta n) (hn : x ≠ "__name__" := by decide) (hdb : (x == ("__debug__" : Str)) = false := by decide)
    (he : starEach (e :: es) X.env = (false, eval e X.env) :: starEach es X.env := by rfl) (hpl : (backTo pos (starEach es X.env)).any (·.1) = false := by rfl) : DE X Φ W (.Call (.Name x p) (e :: es) [] pos) (tCB r ta) (mFn w n) :=
  ⟨pe_callB c.cr hg hm hv ha.pa hn hdb he hpl, fun σ ρ s G H Q P R hρ f hW h k => ha.sem σ ρ s G H _ _ R hρ f hW h fun ds s1 vs G1 H1 h1 e1 f1 r1 =>
    c.sem vs ds G1 H1 _ _ r1 (Frm.same f1) h1 fun d v G2 H2 p x2 r2 => k d s1 v G2 H2 p (e1.trans (x2.out (Frm.same f1)).1) (Frm.exts x2 f1) r2⟩
theorem de_callTy (c : Fn1 X (.type T) r w) (hg : Gl X x) (hm : X.mg x = none) (hv : bootBuiltins x = some (.type T)) (ha : DA X Φ W (e :: es) ta n) (hn : x ≠ "__name__" := by decide) (hdb : (x == ("__debug__" : Str)) = false := by decide)
    (he : starEach (e :: es) X.env = (false, eval e X.env) :: starEach es X.env := by rfl) (hpl : (backTo pos (starEach es X.env)).any (·.1) = false := by rfl) : DE X Φ W (.Call (.Name x p) (e :: es) [] pos) (tCB r ta) (mFn w n) :=
  ⟨pe_callTy c.cr hg hm hv ha.pa hn hdb he hpl, fun σ ρ s G H Q P R hρ f hW h k => ha.sem σ ρ s G H _ _ R hρ f hW h fun ds s1 vs G1 H1 h1 e1 f1 r1 =>
    c.sem vs ds G1 H1 _ _ r1 (Frm.same f1) h1 fun d v G2 H2 p x2 r2 => k d s1 v G2 H2 p (e1.trans (x2.out (Frm.same f1)).1) (Frm.exts x2 f1) r2⟩
end
end
end DL

set_option Elab.async false
set_option linter.all false
set_option maxRecDepth 100000
set_option maxHeartbeats 1000000
namespace DL
open PySem PySem.Spec PyProof.Rows L2

section
variable {S : Type} {X : Cx} {Φ : S → Hp → Hp → Prop} {W : WX} [Frm Φ]
/-! ### statements -/
def sNil : MS S := fun M ρ s => M.nx ρ s
def sSeq (t u : MS S) : MS S := fun M ρ s => t { M with nx := u M } ρ s
section
variable {st : Stmt} {rest : List Stmt} {ts us : TS} {m n : MS S} {pos : Pos}
theorem dss_nil : DSs X Φ W [] tNext (sNil : MS S) := ⟨pss_nil, fun σ ρ s G H D M hρ f h E => E.nx σ ρ s G H h (Same.refl _) hρ f⟩
theorem dss_one (h : DS X Φ W st ts m) : DSs X Φ W [st] ts m := ⟨pss_one h.ps, h.sem⟩
theorem dss_cons (h : DS X Φ W st ts m) (h' : DSs X Φ W rest us n) : DSs X Φ W (st :: rest) (tSeq ts us) (sSeq m n) :=
  ⟨pss_cons h.ps h'.pss, fun σ ρ s G H D M hρ f hm E => h.sem σ ρ s G H { D with nx := us D } { M with nx := n M } hρ f hm
    ⟨fun σ' ρ' s' G' H' p e r f' => h'.sem σ' ρ' s' G' H' D M r f' p (E.mono e), E.rt, E.bk, E.ct, E.ex⟩⟩
theorem ds_pass : DS X Φ W (.Pass pos) tNext (sNil : MS S) := ⟨ps_pass, fun σ ρ s G H D M hρ f h E => E.nx σ ρ s G H h (Same.refl _) hρ f⟩
def sBrk : MS S := fun M ρ s => M.bk ρ s
def sCt : MS S := fun M ρ s => M.ct ρ s
theorem ds_break : DS X Φ W (.Break pos) tBreak (sBrk : MS S) := ⟨ps_break, fun σ ρ s G H D M hρ f h E => E.bk σ ρ s G H h (Same.refl _) hρ f⟩
theorem ds_continue : DS X Φ W (.Continue pos) tCont (sCt : MS S) := ⟨ps_continue, fun σ ρ s G H D M hρ f h E => E.ct σ ρ s G H h (Same.refl _) hρ f⟩
theorem ds_doc {x j pos pos'} : DS X Φ W (.Expr (.Constant (.str x) j pos) pos') tNext (sNil : MS S) := ⟨ps_doc, fun σ ρ s G H D M hρ f h E => E.nx σ ρ s G H h (Same.refl _) hρ f⟩
end
section
variable {e : Expr} {te : TE} {m : ME S} {pos : Pos}
def sDrop (m : ME S) : MS S := fun M ρ s => m ρ s (fun _ s1 => M.nx ρ s1) (fun x s1 => M.ex x ρ s1)
theorem ds_expr (h : DE X Φ W e te m) (hs : swapsWith e none pos.line X.env = pure false := by rfl) : DS X Φ W (.Expr e pos) (tDrop te) (sDrop m) :=
  ⟨ps_expr h.pe hs, fun σ ρ s G H D M hρ f hm E => h.sem σ ρ s G H _ _ _ hρ f (E.wsh hρ) hm fun d s1 v G1 H1 p e1 f1 _ => E.nx σ ρ s1 G1 H1 p e1 (hρ.mono e1) f1⟩
def sRet (m : ME S) : MS S := fun M ρ s => m ρ s M.rt (fun x s1 => M.ex x ρ s1)
theorem ds_ret (h : DE X Φ W e te m) : DS X Φ W (.Return (some e) pos) (tRet te) (sRet m) :=
  ⟨ps_ret h.pe, fun σ ρ s G H D M hρ f hm E => h.sem σ ρ s G H _ _ _ hρ f (E.wsh hρ) hm fun d s1 v G1 H1 p e1 f1 r1 => E.rt d s1 v G1 H1 p e1 f1 r1⟩
def sRetN : MS S := fun M _ s => M.rt .non s
theorem ds_retN : DS X Φ W (.Return none pos) tRetN (sRetN : MS S) := ⟨ps_retN, fun σ ρ s G H D M hρ f h E => E.rt .non s .non G H h (Same.refl _) f .non⟩
def sSet (i : Nat) (m : ME S) : MS S := fun M ρ s => m ρ s (fun d s1 => M.nx (ρ.set i (some d)) s1) (fun x s1 => M.ex x ρ s1)
theorem ds_set {i : Nat} {x : Str} {pos' : Pos} (hN : X.N.Nodup) (hi : X.N[i]? = some x) (hx : Loc X.env.scope x) (h : DE X Φ W e te m) (hs : swapsWith e (some (.Name x pos')) pos.line X.env = pure false := by rfl) (hf : X.fn x = true ∨ X.env.scope.names.lookup x = some .local := by first | exact .inl rfl | exact .inr rfl | assumption) :
    DS X Φ W (.Assign [.Name x pos'] e pos) (tAsg te (gName i)) (sSet i m) :=
  ⟨ps_set hN hi hx h.pe hs hf, fun σ ρ s G H D M hρ f hm E => h.sem σ ρ s G H _ _ _ hρ f (E.wsh hρ) hm fun d s1 v G1 H1 p e1 f1 r1 => E.nx _ _ s1 G1 H1 p e1 ((hρ.mono e1).set i r1) f1⟩
end
def sIf (t : MT S) (m n : MS S) : MS S := fun M ρ s => t ρ s (fun c s1 => if c = true then m M ρ s1 else n M ρ s1) (fun x s1 => M.ex x ρ s1)
theorem ds_if {c : Expr} {a b : List Stmt} {tc : TT} {ts us : TS} {mc : MT S} {m n : MS S} {pos : Pos} (hc : DT X Φ W c tc mc) (ha : DSs X Φ W a ts m) (hb : DSs X Φ W b us n) : DS X Φ W (.If c a b pos) (tIfS tc ts us) (sIf mc m n) :=
  ⟨ps_if hc.pt ha.pss hb.pss, fun σ ρ s G H D M hρ f hm E => hc.sem σ ρ s G H _ _ _ hρ f (E.wsh hρ) hm fun c s1 G1 H1 h1 e1 f1 => by
    cases c with
    | true =>
      simp only [if_true] at h1 ⊢
      exact ha.sem σ ρ s1 G1 H1 D M (hρ.mono e1) f1 h1 (E.mono e1)
    | false =>
      simp only [Bool.false_eq_true, if_false] at h1 ⊢
      exact hb.sem σ ρ s1 G1 H1 D M (hρ.mono e1) f1 h1 (E.mono e1)⟩
/-! two names at once, x, y = a, b -/
def sPar (i j : Nat) (n : MA S) : MS S := fun M ρ s => n ρ s (fun ds s1 => ∃ a b, ds = [a, b] ∧ M.nx ((ρ.set i (some a)).set j (some b)) s1) (fun x s1 => M.ex x ρ s1)
theorem ds_par {i j : Nat} {x y : Str} {a b : Expr} {ta : TA} {n : MA S} {px py pt pos : Pos} {kt k2 pt2} (hc : X.calm = true) (hN : X.N.Nodup) (hi : X.N[i]? = some x) (hj : X.N[j]? = some y) (hij : i ≠ j)
    (hx : X.env.scope.names.lookup x = some .local) (hy : X.env.scope.names.lookup y = some .local) (ha : DA X Φ W [a, b] ta n)
    (hw : swappedStores [.Tuple [.Name x px, .Name y py] kt pt] (.Tuple [a, b] k2 pt2) X.env = pure (some [x, y]) := by rfl)
    (hs : swapsWithSole [.Tuple [.Name x px, .Name y py] kt pt] (.Tuple [a, b] k2 pt2) pos.line X.env = pure false := by rfl) :
    DS X Φ W (.Assign [.Tuple [.Name x px, .Name y py] kt pt] (.Tuple [a, b] k2 pt2) pos) (tPar i j ta) (sPar i j n) :=
  ⟨ps_par hc hN hi hj hij hx hy ha.pa hw hs, fun σ ρ s G H D M hρ f hm E => ha.sem σ ρ s G H _ _ _ hρ f (E.wsh hρ) hm fun ds s1 vs G1 H1 ⟨a, b, ed, p⟩ e1 f1 r1 => by
    subst ed
    cases r1 with
    | cons ra r1 =>
      cases r1 with
      | cons rb r1 =>
        cases r1
        exact ⟨_, _, rfl, E.nx _ _ s1 G1 H1 p e1 (((hρ.mono e1).set i ra).set j rb) f1⟩⟩

/-! ### targets -/
abbrev MG (S : Type) := D → Rho → S → (Rho → S → Prop) → Prop
abbrev MGs (S : Type) := List D → Rho → S → (Rho → S → Prop) → Prop
structure DG (X : Cx) (Φ : S → Hp → Hp → Prop) (tg : Expr) (g : TG) (m : MG S) (il : List Nat) : Prop where
  pg : PG X tg g
  sem : ∀ (σ : Sig) (ρ : Rho) (s : S) (G H : Hp) (v : V) (d : D) (Q : Sig → Hp → Prop) (P : Rho → S → Prop), RelE X.K X.mg G σ ρ → Φ s G H → Rp X.K X.mg G v d → m d ρ s P →
    (∀ (σ' : Sig) (ρ' : Rho) (s' : S) (G' H' : Hp), P ρ' s' → Same G G' → RelE X.K X.mg G' σ' ρ' → Φ s' G' H' → (∀ vs : List Nat, (∀ i ∈ il, i ∈ vs) → wipe σ' vs = wipe σ vs) → Q σ' H') → g v σ H Q
structure DGs (X : Cx) (Φ : S → Hp → Hp → Prop) (tg : List Expr) (g : TGs) (m : MGs S) (il : List Nat) : Prop where
  pg : PGs X tg g
  sem : ∀ (σ : Sig) (ρ : Rho) (s : S) (G H : Hp) (vs : List V) (ds : List D) (Q : Sig → Hp → Prop) (P : Rho → S → Prop), RelE X.K X.mg G σ ρ → Φ s G H → RpL X.K X.mg G vs ds → m ds ρ s P →
    (∀ (σ' : Sig) (ρ' : Rho) (s' : S) (G' H' : Hp), P ρ' s' → Same G G' → RelE X.K X.mg G' σ' ρ' → Φ s' G' H' → (∀ vs : List Nat, (∀ i ∈ il, i ∈ vs) → wipe σ' vs = wipe σ vs) → Q σ' H') → g vs σ H Q
def gNm (i : Nat) : MG S := fun d ρ s P => P (ρ.set i (some d)) s
theorem wipe_out' {σ : Sig} {u : Option V} {i : Nat} : ∀ {vs : List Nat}, i ∉ vs → wipe (σ.set i u) vs = (wipe σ vs).set i u
  | [], _ => rfl
  | v :: vs, h => by
    unfold wipe
    rw [wipe_out' fun q => h (List.mem_cons_of_mem _ q), List.set_comm _ _ fun q => h (by rw [q]; exact List.mem_cons_self)]
theorem wipe_set {σ : Sig} {u : Option V} {i : Nat} : ∀ {vs : List Nat}, i ∈ vs → wipe (σ.set i u) vs = wipe σ vs
  | v :: vs, h => by
    unfold wipe
    by_cases q : i ∈ vs
    · rw [wipe_set q]
    · have e : i = v := by
        rcases List.mem_cons.mp h with e | e
        · exact e
        · exact absurd e q
      subst e
      rw [wipe_out' q, List.set_set]
theorem dg_name {i : Nat} {x : Str} {pos : Pos} (hN : X.N.Nodup) (hi : X.N[i]? = some x) (hx : Loc X.env.scope x) (hf : X.fn x = true ∨ X.env.scope.names.lookup x = some .local := by first | exact .inl rfl | exact .inr rfl | assumption) : DG X Φ (.Name x pos) (gName i) (gNm i : MG S) [i] :=
  ⟨pg_name hN hi hx hf, fun σ ρ s G H v d Q P hρ f r h k => k _ _ s G H h (Same.refl _) (hρ.set i r) f fun vs hv => wipe_set (hv i (List.mem_singleton.mpr rfl))⟩
def gNl : MGs S := fun ds ρ s P => ds = [] ∧ P ρ s
def gCn (m : MG S) (n : MGs S) : MGs S := fun ds ρ s P => ∃ d es, ds = d :: es ∧ m d ρ s fun ρ' s' => n es ρ' s' P
theorem dgs_nil : DGs X Φ [] gNil (gNl : MGs S) [] := ⟨pgs_nil, fun σ ρ s G H vs ds Q P hρ f r ⟨e, h⟩ k => by
  subst e
  cases r
  exact ⟨rfl, k _ _ s G H h (Same.refl _) hρ f fun _ _ => rfl⟩⟩
theorem dgs_cons {e : Expr} {es : List Expr} {g : TG} {gs : TGs} {m : MG S} {n : MGs S} {il jl : List Nat} (h : DG X Φ e g m il) (h' : DGs X Φ es gs n jl)
    (hs : (assignEach (e :: es) X.env).map (·.2) = assign e X.env :: (assignEach es X.env).map (·.2) := by rfl) : DGs X Φ (e :: es) (gCons g gs) (gCn m n) (il ++ jl) :=
  ⟨pgs_cons h.pg h'.pg hs, fun σ ρ s G H vs ds Q P hρ f r ⟨d, es, e, hm⟩ k => by
    subst e
    cases r with
    | cons r1 r2 => exact ⟨_, _, rfl, h.sem σ ρ s G H _ _ _ _ hρ f r1 hm fun σ1 ρ1 s1 G1 H1 p e1 h1 f1 z1 => h'.sem σ1 ρ1 s1 G1 H1 _ _ _ _ h1 f1 (r2.mono e1) p fun σ2 ρ2 s2 G2 H2 p2 e2 h2 f2 z2 => k σ2 ρ2 s2 G2 H2 p2 (e1.trans e2) h2 f2 fun vs hv => (z2 vs fun i hi => hv i (List.mem_append_right _ hi)).trans (z1 vs fun i hi => hv i (List.mem_append_left _ hi))⟩⟩
def gTp (n : Nat) (m : MGs S) : MG S := fun d ρ s P => ∃ ds, d = .tup ds ∧ ds.length = n ∧ m ds ρ s P
theorem dg_tup {es : List Expr} {k n : Nat} {pos : Pos} {g : TGs} {m : MGs S} {il : List Nat} (hc : X.calm = true) (h : DGs X Φ es g m il)
    (hn : (assignEach es X.env).length = n := by rfl) (hst : (assignEach es X.env).findIdx? (·.1) = none := by rfl) : DG X Φ (.Tuple es k pos) (gTup X.K n g) (gTp n m) il :=
  ⟨pg_tup hc h.pg hn hst, fun σ ρ s G H v d Q P hρ f r ⟨ds, e, hl, hm⟩ k => by
    subst e
    cases r with
    | tup q rl => exact ⟨_, _, rfl, sqt_mono (Frm.same f) q, by rw [rl.len]; exact hl, h.sem σ ρ s G H _ _ _ _ hρ f rl hm k⟩⟩
def sAsg (m : ME S) (g : MG S) : MS S := fun M ρ s => m ρ s (fun d s1 => g d ρ s1 M.nx) (fun x s1 => M.ex x ρ s1)
theorem ds_asg {tg e : Expr} {te : TE} {g : TG} {m : ME S} {mg : MG S} {pos : Pos} {il : List Nat} (h : DE X Φ W e te m) (hg : DG X Φ tg g mg il) (hs : swapsWithSole [tg] e pos.line X.env = pure false := by rfl) (hw : swappedStores [tg] e X.env = pure none := by rfl)
    (h1 : (assignEach [tg] X.env).map (·.2) = [assign tg X.env] := by rfl) : DS X Φ W (.Assign [tg] e pos) (tAsg te g) (sAsg m mg) :=
  ⟨ps_asg h.pe hg.pg hs hw h1, fun σ ρ s G H D M hρ f hm E => h.sem σ ρ s G H _ _ _ hρ f (E.wsh hρ) hm fun d s1 v G1 H1 p e1 f1 r1 =>
    hg.sem σ ρ s1 G1 H1 v d _ _ (hρ.mono e1) f1 r1 p fun σ2 ρ2 s2 G2 H2 p2 e2 r2 f2 _ => E.nx σ2 ρ2 s2 G2 H2 p2 (e1.trans e2) r2 f2⟩

/-! ### what is walked: a list of trees -/
abbrev MI (S : Type) := Rho → S → (List D → S → Prop) → (Exn → S → Prop) → Prop
/-- the turns of J yield the trees ds -/
def Yields (K : PySem.W.Frag) (mg : Str → Option Value) (J : It) (G : Hp) (ds : List D) : Prop :=
  ∀ G' H, Same G G' → Same G' H → (∀ i, i < ds.length → J.go i H) ∧ J.stop ds.length H ∧ ∀ i x H', i < ds.length → J.yld i H x H' → ∃ G2, Ext G' H G2 H' ∧ ∃ d, ds[i]? = some d ∧ Rp K mg G2 x d
structure DI (X : Cx) (Φ : S → Hp → Hp → Prop) (W : WX) (tg iter : Expr) (wi : TI) (m : MI S) : Prop where
  pi : PI X tg iter wi
  sem : ∀ (σ : Sig) (ρ : Rho) (s : S) (G H : Hp) (Q : It → Hp → Prop) (P : List D → S → Prop) (R : Exn → S → Prop), RelE X.K X.mg G σ ρ → Φ s G H → Wsh X.K X.mg Φ W G σ R → m ρ s P R →
    (∀ (ds : List D) (s' : S) (J : It) (G' H' : Hp), P ds s' → Same G G' → Φ s' G' H' → Yields X.K X.mg J G' ds → Q J H') → wi σ H Q
section
variable {K : PySem.W.Frag} {mg : Str → Option Value} {G : Hp}
theorem y_list {a : Addr} {vs : List V} {ds : List D} (h : G a = some (.lst vs)) (r : RpL K mg G vs ds) : Yields K mg (Itl K a) G ds := fun G' H e e' => by
  have hq : SqL K H a vs := SqL.of (e' _ _ (e _ _ h))
  have hl := r.len
  refine ⟨fun i hi => ⟨vs, vs[i]'(by omega), hq, by simp [hl, hi]⟩, ⟨vs, hq, by omega⟩, fun i x H' hi ⟨e1, y⟩ => ?_⟩
  subst e1
  obtain ⟨d, h1, h2⟩ := r.atV (y vs hq)
  exact ⟨G', .refl, d, h1, h2.mono e⟩
theorem y_tup {a : Addr} {vs : List V} {ds : List D} (h : SqT K G a vs) (r : RpL K mg G vs ds) : Yields K mg (Itt K a) G ds := fun G' H e e' => by
  have hq : SqT K H a vs := sqt_mono (e.trans e') h
  have hl := r.len
  refine ⟨fun i hi => ⟨vs, vs[i]'(by omega), hq, by simp [hl, hi]⟩, ⟨vs, hq, by omega⟩, fun i x H' hi ⟨e1, y⟩ => ?_⟩
  subst e1
  obtain ⟨d, h1, h2⟩ := r.atV (y vs hq)
  exact ⟨G', .refl, d, h1, h2.mono e⟩
def rngD (lo : Int) (n : Nat) : List D := (List.range n).map fun (i : Nat) => D.int (lo + i)
theorem y_rng (lo : Int) (n : Nat) : Yields K mg (Itr lo n) G (rngD lo n) := fun G' H e e' => by
  have hl : (rngD lo n).length = n := by simp [rngD]
  rw [hl]
  refine ⟨fun i hi => hi, Nat.le_refl _, fun i x H' hi ⟨e1, y⟩ => ?_⟩
  subst e1 y
  refine ⟨G', .refl, .int (lo + i), ?_, .int _⟩
  unfold rngD
  rw [List.getElem?_map, List.getElem?_range hi]
  rfl
end
end
end DL

set_option Elab.async false
set_option linter.all false
set_option maxRecDepth 100000
set_option maxHeartbeats 1000000
namespace DL
open PySem PySem.Spec PyProof.Rows L2

section
variable {S : Type} {X : Cx} {Φ : S → Hp → Hp → Prop} {W : WX} [Frm Φ]
/-! ### for -/
def wFor (g : MG S) (b : MS S) : List D → MS S
  | [] => fun M ρ s => M.nx ρ s
  | d :: ds => fun M ρ s => g d ρ s fun ρ1 s1 => b { M with nx := wFor g b ds M, ct := wFor g b ds M, bk := M.nx } ρ1 s1
def sFor (mi : MI S) (g : MG S) (b : MS S) : MS S := fun M ρ s => mi ρ s (fun ds s1 => wFor g b ds M ρ s1) (fun x s1 => M.ex x ρ s1)
theorem ds_for {tg iter : Expr} {body : List Stmt} {wi : TI} {gt : TG} {tb : TS} {pos : Pos} {mi : MI S} {g : MG S} {b : MS S} {il : List Nat} (hp : PassesOwn (model X.prog X.w) X.A X.env X.xe) (hc : X.calm = true) (hi : DI X Φ W tg iter wi mi) (hg : DG X Φ tg gt g il) (hb : DSs X Φ W body tb b)
    (hs : ∀ x, foldedSetIterable iter X.env x = pure x := by intro _; rfl) : DS X Φ W (.For tg iter body [] pos) (tFor wi gt tb) (sFor mi g b) := by
  refine ⟨ps_for hp hc hi.pi hg.pg hb.pss hs, fun σ ρ s G H D M hρ f hm E => ?_⟩
  refine hi.sem σ ρ s G H _ _ _ hρ f (E.wsh hρ) hm fun ds s1 J G1 H1 p e1 f1 y => ?_
  refine ⟨fun i m σ H => m = ds.length - i ∧ i ≤ ds.length ∧ ∃ ρ s G', Same G1 G' ∧ RelE X.K X.mg G' σ ρ ∧ Φ s G' H ∧ wFor g b (ds.drop i) M ρ s, ⟨_, rfl, Nat.zero_le _, ρ, s1, G1, Same.refl _, hρ.mono e1, f1, p⟩, ?_⟩
  rintro i m σ2 H2 ⟨rfl, hi', ρ2, s2, G2, e2, r2, f2, q⟩
  obtain ⟨go, st, yl⟩ := y G2 H2 e2 (Frm.same f2)
  by_cases hlt : i < ds.length
  · refine .inr ⟨go i hlt, fun σ' H' => ∃ ρ s G', Same G1 G' ∧ RelE X.K X.mg G' σ' ρ ∧ Φ s G' H' ∧ wFor g b (ds.drop (i + 1)) M ρ s, fun σ' H' h => ⟨ds.length - (i + 1), by omega, rfl, hlt, h⟩, fun x H' hx => ?_⟩
    obtain ⟨G3, x3, d, hd, rd⟩ := yl i x H' hlt hx
    have ed : ds.drop i = d :: ds.drop (i + 1) := by
      rw [List.drop_eq_getElem_cons hlt]
      congr 1
      have := List.getElem?_eq_getElem hlt
      rw [hd] at this
      exact (Option.some.inj this).symm
    rw [ed] at q
    have s23 := (x3.out (Frm.same f2)).1
    have f3 := Frm.exts x3 f2
    refine hg.sem σ2 ρ2 s2 G3 H' x d _ _ (r2.mono s23) f3 rd q fun σ4 ρ4 s4 G4 H4 h4 e4 r4 f4 _ => ?_
    have e14 : Same G1 G4 := (e2.trans s23).trans e4
    refine hb.sem σ4 ρ4 s4 G4 H4 _ _ r4 f4 h4 ⟨fun σ5 ρ5 s5 G5 H5 h5 e5 r5 f5 => ⟨ρ5, s5, G5, e14.trans e5, r5, f5, h5⟩, fun d s5 v G5 H5 h5 e5 f5 r5 => E.rt d s5 v G5 H5 h5 ((e1.trans e14).trans e5) f5 r5,
      fun σ5 ρ5 s5 G5 H5 h5 e5 r5 f5 => E.nx σ5 ρ5 s5 G5 H5 h5 ((e1.trans e14).trans e5) r5 f5, fun σ5 ρ5 s5 G5 H5 h5 e5 r5 f5 => ⟨ρ5, s5, G5, e14.trans e5, r5, f5, h5⟩,
      fun x σ5 ρ5 s5 G5 H5 cls d h5 e5 r5 f5 z => E.ex x σ5 ρ5 s5 G5 H5 cls d h5 ((e1.trans e14).trans e5) r5 f5 z⟩
  · have ei : i = ds.length := by omega
    subst ei
    rw [List.drop_length] at q
    exact .inl ⟨st, E.nx σ2 ρ2 s2 G2 H2 q (e1.trans e2) r2 f2⟩
/-! sources -/
def iLst (m : ME S) : MI S := fun ρ s P R => m ρ s (fun d s1 => ∃ ds, d = .lst ds ∧ P ds s1) R
def iTpl (m : ME S) : MI S := fun ρ s P R => m ρ s (fun d s1 => ∃ ds, d = .tup ds ∧ P ds s1) R
theorem di_list {tg l : Expr} {tl : TE} {m : ME S} (h : DE X Φ W l tl m) : DI X Φ W tg l (iList X.K tl) (iLst m) :=
  ⟨pi_list h.pe, fun σ ρ s G H Q P R hρ f hW hm k => h.sem σ ρ s G H _ _ R hρ f hW hm fun d s1 v G1 H1 ⟨ds, ed, p⟩ e1 f1 r1 => by
    subst ed
    cases r1 with
    | lst q rl => exact ⟨_, rfl, ⟨_, SqL.of (Frm.same f1 _ _ q)⟩, k ds s1 _ G1 H1 p e1 f1 (y_list q rl)⟩⟩
theorem di_tup {tg l : Expr} {tl : TE} {m : ME S} (h : DE X Φ W l tl m) : DI X Φ W tg l (iTup X.K tl) (iTpl m) :=
  ⟨pi_tup h.pe, fun σ ρ s G H Q P R hρ f hW hm k => h.sem σ ρ s G H _ _ R hρ f hW hm fun d s1 v G1 H1 ⟨ds, ed, p⟩ e1 f1 r1 => by
    subst ed
    cases r1 with
    | tup q rl => exact ⟨_, rfl, ⟨_, sqt_mono (Frm.same f1) q⟩, k ds s1 _ G1 H1 p e1 f1 (y_tup q rl)⟩⟩
def iRg1 (n : MA S) : MI S := fun ρ s P R => n ρ s (fun ds s1 => ∃ j : Int, ds = [.int j] ∧ (-(2 ^ 62) ≤ j ∧ j < 2 ^ 62) ∧ P (rngD 0 j.toNat) s1) R
def iRg2 (n : MA S) : MI S := fun ρ s P R => n ρ s (fun ds s1 => ∃ i j : Int, ds = [.int i, .int j] ∧ (-(2 ^ 62) ≤ i ∧ i < 2 ^ 62 ∧ -(2 ^ 62) ≤ j ∧ j < 2 ^ 62) ∧ P (rngD i (j - i).toNat) s1) R
theorem rpl1 {K : PySem.W.Frag} {mg : Str → Option Value} {G : Hp} {vs : List V} {a : D} (r : RpL K mg G vs [a]) : ∃ v, vs = [v] ∧ Rp K mg G v a := by
  cases r with
  | cons ra r =>
    cases r
    exact ⟨_, rfl, ra⟩
theorem rpl2 {K : PySem.W.Frag} {mg : Str → Option Value} {G : Hp} {vs : List V} {a b : D} (r : RpL K mg G vs [a, b]) : ∃ v u, vs = [v, u] ∧ Rp K mg G v a ∧ Rp K mg G u b := by
  cases r with
  | cons ra r =>
    obtain ⟨u, rfl, rb⟩ := rpl1 r
    exact ⟨_, _, rfl, ra, rb⟩
theorem di_range1 {tg a : Expr} {ta : TA} {n : MA S} {p pos : Pos} (hg : Gl X "range") (hm : X.mg "range" = none) (ha : DA X Φ W [a] ta n) (hs : starEach [a] X.env = [(false, eval a X.env)] := by rfl) : DI X Φ W tg (.Call (.Name "range" p) [a] [] pos) (iRng1 ta) (iRg1 n) :=
  ⟨pi_range1 hg hm ha.pa hs, fun σ ρ s G H Q P R hρ f hW h k => ha.sem σ ρ s G H _ _ R hρ f hW h fun ds s1 vs G1 H1 ⟨j, ed, hb, p⟩ e1 f1 r1 => by
    subst ed
    obtain ⟨v, rfl, r⟩ := rpl1 r1
    cases rp_int r
    exact ⟨j, rfl, hb.1, hb.2, k _ s1 _ G1 H1 p e1 f1 (y_rng 0 _)⟩⟩
theorem di_range2 {tg a b : Expr} {ta : TA} {n : MA S} {p pos : Pos} (hg : Gl X "range") (hm : X.mg "range" = none) (ha : DA X Φ W [a, b] ta n) (hs : starEach [a, b] X.env = [(false, eval a X.env), (false, eval b X.env)] := by rfl) (hs2 : starEach [b] X.env = [(false, eval b X.env)] := by rfl) : DI X Φ W tg (.Call (.Name "range" p) [a, b] [] pos) (iRng2 ta) (iRg2 n) :=
  ⟨pi_range2 hg hm ha.pa hs hs2, fun σ ρ s G H Q P R hρ f hW h k => ha.sem σ ρ s G H _ _ R hρ f hW h fun ds s1 vs G1 H1 ⟨i, j, ed, hb, p⟩ e1 f1 r1 => by
    subst ed
    obtain ⟨v, u, rfl, r, q⟩ := rpl2 r1
    cases rp_int r
    cases rp_int q
    exact ⟨i, j, rfl, hb, k _ s1 _ G1 H1 p e1 f1 (y_rng i _)⟩⟩
end

/-! ### objects of one's own: what one name holds, and what is changed -/
inductive DO where
  | lst (ds : List D)
  | dic (ks : List Key) (ds : List D)
  | ins (C : Str) (ns : List Str) (ds : List D)
def DO.tree : DO → D
  | .lst ds => .lst ds
  | .dic ks ds => .dic ks ds
  | .ins C ns ds => .ins C ns ds
inductive RpO (K : PySem.W.Frag) (mg : Str → Option Value) (G : Hp) : HO → DO → Prop
  | lst {vs : List V} {ds : List D} : RpL K mg G vs ds → RpO K mg G (.lst vs) (.lst ds)
  | dic {ks : List Key} {vs : List V} {ds : List D} : ks.length = vs.length → RpL K mg G vs ds → RpO K mg G (.dK (ks.zip vs)) (.dic ks ds)
  | ins {C : Str} {c dx : Addr} {ns : List Str} {vs : List V} {ds : List D} : mg C = some (.ref c) → ns.length = vs.length → RpL K mg G vs ds → RpO K mg G (.ins c dx (ns.zip vs)) (.ins C ns ds)
theorem RpO.mono {K : PySem.W.Frag} {mg : Str → Option Value} {G G' : Hp} {o : HO} {d : DO} (h : RpO K mg G o d) (e : Same G G') : RpO K mg G' o d := by
  cases h with
  | lst r => exact .lst (r.mono e)
  | dic l r => exact .dic l (r.mono e)
  | ins c l r => exact .ins c l (r.mono e)
theorem RpO.rp {K : PySem.W.Frag} {mg : Str → Option Value} {G : Hp} {o : HO} {d : DO} {a : Addr} (h : RpO K mg G o d) (g : G a = some o) : Rp K mg G (.ref a) d.tree := by
  cases h with
  | lst r => exact .lst g r
  | dic l r => exact .dic g l r
  | ins c l r => exact .ins c g l r
abbrev OH := Addr → Option DO
def OH.put (O : OH) (a : Addr) (x : DO) : OH := fun b => if b = a then some x else O b
def OH.del (O : OH) (a : Addr) : OH := fun b => if b = a then none else O b
theorem OH.put_same {O : OH} {a : Addr} {x : DO} : O.put a x a = some x := by unfold OH.put; rw [if_pos rfl]
theorem OH.put_ne {O : OH} {a b : Addr} {x : DO} (h : b ≠ a) : O.put a x b = O b := by unfold OH.put; rw [if_neg h]
theorem OH.del_same {O : OH} {a : Addr} : O.del a a = none := by unfold OH.del; rw [if_pos rfl]
theorem OH.del_ne {O : OH} {a b : Addr} (h : b ≠ a) : O.del a b = O b := by unfold OH.del; rw [if_neg h]
theorem OH.del_put {O : OH} {a : Addr} {x : DO} (h : O a = none) : (O.put a x).del a = O := by
  funext b
  by_cases e : b = a
  · subst e
    rw [OH.del_same, h]
  · rw [OH.del_ne e, OH.put_ne e]
theorem OH.put_put {O : OH} {a : Addr} {x y : DO} : (O.put a x).put a y = O.put a y := by
  funext b
  by_cases e : b = a
  · subst e
    rw [OH.put_same, OH.put_same]
  · rw [OH.put_ne e, OH.put_ne e, OH.put_ne e]
structure Phi (K : PySem.W.Frag) (mg : Str → Option Value) (O : OH) (G H : Hp) : Prop where
  same : Same G H
  own : ∀ a x, O a = some x → G a = none ∧ ∃ o, H a = some o ∧ RpO K mg G o x
instance {K : PySem.W.Frag} {mg : Str → Option Value} : Frm (Phi K mg) where
  same := fun h => h.same
  ext := fun {O G H a o} h n => ⟨same_both h.same n, fun b x e => by
    obtain ⟨h1, u, h2, h3⟩ := h.own b x e
    have nb := ne_of_none h2 n
    exact ⟨by rw [upd_ne nb]; exact h1, u, by rw [upd_ne nb]; exact h2, h3.mono (same_new (h.same.free n))⟩⟩
section
variable {K : PySem.W.Frag} {mg : Str → Option Value} {O : OH} {G H : Hp} {a : Addr} {o : HO} {x y : DO}
/-- a new one -/
theorem Phi.new (h : Phi K mg O G H) (n : H a = none) (r : RpO K mg G o x) : Phi K mg (O.put a x) G (upd H a o) := by
  refine ⟨h.same.trans (same_new n), fun b y e => ?_⟩
  by_cases q : b = a
  · subst q
    rw [OH.put_same] at e
    cases e
    exact ⟨h.same.free n, o, upd_same, r⟩
  · rw [OH.put_ne q] at e
    obtain ⟨h1, u, h2, h3⟩ := h.own b y e
    exact ⟨h1, u, by rw [upd_ne q]; exact h2, h3⟩
/-- .. changed -/
theorem Phi.put (h : Phi K mg O G H) (e : O a = some y) (r : RpO K mg G o x) : Phi K mg (O.put a x) G (upd H a o) := by
  obtain ⟨g0, u, h2, _⟩ := h.own a y e
  refine ⟨fun b u e => ?_, fun b y e => ?_⟩
  · have nb : b ≠ a := fun q => by
      rw [q, g0] at e
      cases e
    rw [upd_ne nb]
    exact h.same _ _ e
  · by_cases q : b = a
    · subst q
      rw [OH.put_same] at e
      cases e
      exact ⟨g0, o, upd_same, r⟩
    · rw [OH.put_ne q] at e
      obtain ⟨h1, u, h2, h3⟩ := h.own b y e
      exact ⟨h1, u, by rw [upd_ne q]; exact h2, h3⟩
/-- .. handed on as a tree: it changes no more -/
theorem Phi.frz (h : Phi K mg O G H) (e : O a = some x) : ∃ G', Same G G' ∧ Phi K mg (O.del a) G' H ∧ Rp K mg G' (.ref a) x.tree := by
  obtain ⟨g0, u, h2, h3⟩ := h.own a x e
  have sg := same_new (o := u) g0
  refine ⟨upd G a u, sg, ⟨fun b v e => ?_, fun b y e => ?_⟩, (h3.mono sg).rp upd_same⟩
  · by_cases q : b = a
    · subst q
      rw [upd_same] at e
      cases e
      exact h2
    · rw [upd_ne q] at e
      exact h.same _ _ e
  · by_cases q : b = a
    · subst q
      rw [OH.del_same] at e
      cases e
    · rw [OH.del_ne q] at e
      obtain ⟨h1, v, h4, h5⟩ := h.own b y e
      exact ⟨by rw [upd_ne q]; exact h1, v, h4, h5.mono sg⟩
/-- .. forgotten -/
theorem Phi.less {O' : OH} (h : Phi K mg O G H) (l : ∀ b x, O' b = some x → O b = some x) : Phi K mg O' G H := ⟨h.same, fun b x e => h.own b x (l b x e)⟩
end
/-- what stands around, one's own objects among it -/
class OFrm (K : PySem.W.Frag) (mg : Str → Option Value) (Φ : OH → Hp → Hp → Prop) : Prop extends Frm Φ where
  own : ∀ {O G H a x}, Φ O G H → O a = some x → G a = none ∧ ∃ o, H a = some o ∧ RpO K mg G o x
  new : ∀ {O G H a o x}, Φ O G H → H a = none → RpO K mg G o x → Φ (O.put a x) G (upd H a o)
  put : ∀ {O G H a o x y}, Φ O G H → O a = some y → RpO K mg G o x → Φ (O.put a x) G (upd H a o)
  frz : ∀ {O G H a x}, Φ O G H → O a = some x → ∃ G', Same G G' ∧ Φ (O.del a) G' H ∧ Rp K mg G' (.ref a) x.tree
  less : ∀ {O O' G H}, Φ O G H → (∀ b x, O' b = some x → O b = some x) → Φ O' G H
instance {K : PySem.W.Frag} {mg : Str → Option Value} : OFrm K mg (Phi K mg) where
  own := fun h o => h.own _ _ o
  new := fun h n r => h.new n r
  put := fun h o r => h.put o r
  frz := fun h o => h.frz o
  less := fun h l => h.less l
def delH (H : Hp) (a : Addr) : Hp := fun b => if b = a then none else H b
theorem delH_same {H : Hp} {a : Addr} : delH H a a = none := by unfold delH; rw [if_pos rfl]
theorem delH_ne {H : Hp} {a b : Addr} (h : b ≠ a) : delH H a b = H b := by unfold delH; rw [if_neg h]
theorem delH_upd {H : Hp} {a b : Addr} {o : HO} (h : b ≠ a) : delH (upd H b o) a = upd (delH H a) b o := by
  funext c
  by_cases e : c = a
  · subst e
    rw [delH_same, upd_ne h.symm, delH_same]
  · rw [delH_ne e]
    by_cases e2 : c = b
    · subst e2
      rw [upd_same, upd_same]
    · rw [upd_ne e2, upd_ne e2, delH_ne e]
theorem delH_self {H : Hp} {a : Addr} {o : HO} : delH (upd H a o) a = delH H a := by
  funext c
  by_cases e : c = a
  · subst e
    rw [delH_same, delH_same]
  · rw [delH_ne e, delH_ne e, upd_ne e]
theorem delH_new {H : Hp} {a : Addr} {o : HO} (n : H a = none) : delH (upd H a o) a = H := by
  rw [delH_self]
  funext c
  by_cases e : c = a
  · subst e
    rw [delH_same, n]
  · rw [delH_ne e]
theorem delH_some {H : Hp} {a b : Addr} {o : HO} (h : delH H a b = some o) : b ≠ a ∧ H b = some o := by
  by_cases e : b = a
  · subst e
    rw [delH_same] at h
    cases h
  · rw [delH_ne e] at h
    exact ⟨e, h⟩
theorem delH_none {H : Hp} {a b : Addr} (h : H b = none) : delH H a b = none := by
  by_cases e : b = a
  · subst e
    exact delH_same
  · rw [delH_ne e]
    exact h
/-- besides, at a stands the list vs: nobody's -/
def Own (Φ : OH → Hp → Hp → Prop) (a : Addr) (vs : List V) : OH → Hp → Hp → Prop := fun O G H => H a = some (.lst vs) ∧ Φ O G (delH H a)
instance {K : PySem.W.Frag} {mg : Str → Option Value} {Φ : OH → Hp → Hp → Prop} [F : OFrm K mg Φ] {a : Addr} {vs : List V} : OFrm K mg (Own Φ a vs) where
  same := fun h b o e => (delH_some (F.same h.2 b o e)).2
  ext := fun {O G H b o} h n => by
    have nb : a ≠ b := ne_of_none h.1 n
    refine ⟨by rw [upd_ne nb]; exact h.1, ?_⟩
    rw [delH_upd nb.symm]
    exact F.ext h.2 (delH_none n)
  own := fun h o => by
    obtain ⟨h1, ws, h2, h3⟩ := F.own h.2 o
    exact ⟨h1, ws, (delH_some h2).2, h3⟩
  new := fun {O G H b o x} h n r => by
    have nb : a ≠ b := ne_of_none h.1 n
    refine ⟨by rw [upd_ne nb]; exact h.1, ?_⟩
    rw [delH_upd nb.symm]
    exact F.new h.2 (delH_none n) r
  put := fun {O G H b u x y} h o r => by
    obtain ⟨h1, us, h2, h3⟩ := F.own h.2 o
    have nb := (delH_some h2).1
    refine ⟨by rw [upd_ne nb.symm]; exact h.1, ?_⟩
    rw [delH_upd nb]
    exact F.put h.2 o r
  frz := fun h o => by
    obtain ⟨G', s, p, r⟩ := F.frz h.2 o
    exact ⟨G', s, ⟨h.1, p⟩, r⟩
  less := fun h l => ⟨h.1, F.less h.2 l⟩
end DL

set_option Elab.async false
set_option linter.all false
set_option maxRecDepth 100000
set_option maxHeartbeats 1000000
namespace DL
open PySem PySem.Spec PyProof.Rows L2

/-! ### comprehensions -/
def wipeD (ρ : Rho) : List Nat → Rho
  | [] => ρ
  | v :: vs => (wipeD ρ vs).set v none
theorem RelE.wipe {K : PySem.W.Frag} {mg : Str → Option Value} {G : Hp} {σ : Sig} {ρ : Rho} (h : RelE K mg G σ ρ) : ∀ vs : List Nat, RelE K mg G (L2.wipe σ vs) (wipeD ρ vs)
  | [] => h
  | v :: vs => (h.wipe vs).drop v none
section
variable {X : Cx} {Φ : OH → Hp → Hp → Prop} {W : WX} [F : OFrm X.K X.mg Φ]
def W0 : WX := fun _ _ _ _ => False
def R0 {S : Type} : Exn → S → Prop := fun _ _ => False
/-- a reading taken as a rule's need: it speaks of no block -/
def cE (K : PySem.W.Frag) (mg : Str → Option Value) (F : Addr → List V → OH → Hp → Hp → Prop) (m : ME OH) : TE := fun σ H Q =>
  ∃ (D : Addr) (vs : List V) (ρ : Rho) (O : OH) (G : Hp) (P : DL.D → OH → Prop) (R : Exn → OH → Prop), RelE K mg G σ ρ ∧ F D vs O G H ∧ Wsh K mg (F D vs) W0 G σ R ∧ m ρ O P R ∧
    ∀ (d : DL.D) (O' : OH) (v : V) (G' H' : Hp), P d O' → Same G G' → F D vs O' G' H' → Rp K mg G' v d → Q v H'
def cT (K : PySem.W.Frag) (mg : Str → Option Value) (F : Addr → List V → OH → Hp → Hp → Prop) (m : MT OH) : TT := fun σ H Q =>
  ∃ (D : Addr) (vs : List V) (ρ : Rho) (O : OH) (G : Hp) (P : Bool → OH → Prop) (R : Exn → OH → Prop), RelE K mg G σ ρ ∧ F D vs O G H ∧ Wsh K mg (F D vs) W0 G σ R ∧ m ρ O P R ∧
    ∀ (b : Bool) (O' : OH) (G' H' : Hp), P b O' → Same G G' → F D vs O' G' H' → Q b H'
structure DTs {S : Type} (X : Cx) (Φ : S → Hp → Hp → Prop) (W : WX) (ifs : List Expr) (tt : TT) (m : MT S) : Prop where
  pts : PTs X ifs tt
  sem : ∀ (σ : Sig) (ρ : Rho) (s : S) (G H : Hp) (Q : Bool → Hp → Prop) (P : Bool → S → Prop) (R : Exn → S → Prop), RelE X.K X.mg G σ ρ → Φ s G H → Wsh X.K X.mg Φ W G σ R → m ρ s P R →
    (∀ (b : Bool) (s' : S) (G' H' : Hp), P b s' → Same G G' → Φ s' G' H' → Q b H') → tt σ H Q
def mYes {S : Type} : MT S := fun _ s P _ => P true s
theorem dts_nil {S : Type} {X : Cx} {Φ : S → Hp → Hp → Prop} {W : WX} : DTs X Φ W [] tYes (mYes : MT S) := ⟨pts_nil, fun σ ρ s G H Q P R hρ f hW h k => k true s G H h (Same.refl _) f⟩
theorem dts_one {S : Type} {X : Cx} {Φ : S → Hp → Hp → Prop} {W : WX} {c : Expr} {t : TT} {m : MT S} (h : DT X Φ W c t m) : DTs X Φ W [c] t m := ⟨pts_one h.pt, h.sem⟩
/-- the list that the turns make -/
def wLc (g : MG OH) (t : MT OH) (m : ME OH) (vs : List Nat) (ρ : Rho) (P : List D → OH → Prop) : List D → List D → OH → Prop
  | [], acc, O => P acc O
  | d :: ds, acc, O => g d (wipeD ρ vs) O fun ρ1 O1 => t ρ1 O1 (fun b O2 => if b = true then m ρ1 O2 (fun y O3 => acc.length < sizeLine ∧ wLc g t m vs ρ P ds (acc ++ [y]) O3) R0 else wLc g t m vs ρ P ds acc O2) R0
def mLc (mi : MI OH) (g : MG OH) (t : MT OH) (m : ME OH) (vs : List Nat) : ME OH := fun ρ O P R => mi ρ O (fun ds O1 => wLc g t m vs ρ (fun acc O2 => P (.lst acc) O2) ds [] O1) R
section
variable {elt tg iter : Expr} {ifs : List Expr} {scope : Scope} {own : List (Str × Nat)} {pos : Pos} {wi : TI} {g : TG} {tt : TT} {te : TE} {mi : MI OH} {mg : MG OH} {mt : MT OH} {me : ME OH} {il : List Nat}
theorem lc_sem (hi : DI X Φ W tg iter wi mi)
    (hg : ∀ (D : Addr) (vs : List V) (s : Shared) (H : Hp) (C : Addr) (cl : List (Str × Addr)) (fp : List Addr), DG (X.blk s H scope (compEnvC scope cl C X.env) fp) (Own Φ D vs) tg g mg il) (hil : ∀ i ∈ il, i ∈ own.map (·.2))
    (ht : ∀ (D : Addr) (vs : List V) (s : Shared) (H : Hp) (C : Addr) (cl : List (Str × Addr)) (fp : List Addr), DTs (X.blk s H scope (compEnvC scope cl C X.env) fp) (Own Φ D vs) W0 ifs tt mt)
    (he : ∀ (D : Addr) (vs : List V) (s : Shared) (H : Hp) (C : Addr) (cl : List (Str × Addr)) (fp : List Addr), DE (X.blk s H scope (compEnvC scope cl C X.env) fp) (Own Φ D vs) W0 elt te me)
    {σ : Sig} {ρ : Rho} {O : OH} {G H : Hp} {Q : VK} {R : Exn → OH → Prop} (hρ : RelE X.K X.mg G σ ρ) (f : Φ O G H) (hW : Wsh X.K X.mg Φ W G σ R) {PP : List D → OH → Prop} (h : mi ρ O (fun ds O1 => wLc mg mt me (own.map (·.2)) ρ PP ds [] O1) R)
    (k : ∀ (acc : List D) (vs : List V) (D : Addr) (s' : OH) (G' H' : Hp), PP acc s' → Same G G' → Own Φ D vs s' G' H' → RpL X.K X.mg G' vs acc → Q (.ref D) H') : tLc wi g tt te (own.map (·.2)) σ H Q := by
  refine hi.sem σ ρ O G H _ _ R hρ f hW h fun ds O1 J G1 H1 p e1 f1 y => ?_
  intro D nD
  refine ⟨fun i m H => m = ds.length - i ∧ i ≤ ds.length ∧ ∃ acc vs O G', Same G1 G' ∧ Own Φ D vs O G' H ∧ RpL X.K X.mg G' vs acc ∧ wLc mg mt me (own.map (·.2)) ρ PP (ds.drop i) acc O,
    ⟨_, rfl, Nat.zero_le _, [], [], O1, G1, Same.refl _, ⟨upd_same, by rw [delH_new nD]; exact f1⟩, .nil, p⟩, ?_⟩
  rintro i m H2 ⟨rfl, hi', acc, vs, O2, G2, e2, f2, racc, q⟩
  obtain ⟨go, st, yl⟩ := y G2 H2 e2 (Frm.same f2)
  by_cases hlt : i < ds.length
  · refine .inr ⟨go i hlt, fun H => ∃ acc vs O G', Same G1 G' ∧ Own Φ D vs O G' H ∧ RpL X.K X.mg G' vs acc ∧ wLc mg mt me (own.map (·.2)) ρ PP (ds.drop (i + 1)) acc O,
      fun H' h => ⟨ds.length - (i + 1), by omega, rfl, hlt, h⟩, fun x H' hx => ?_⟩
    obtain ⟨G3, x3, d, hd, rd⟩ := yl i x H' hlt hx
    have ed : ds.drop i = d :: ds.drop (i + 1) := by
      rw [List.drop_eq_getElem_cons hlt]
      congr 1
      have := List.getElem?_eq_getElem hlt
      rw [hd] at this
      exact (Option.some.inj this).symm
    rw [ed] at q
    have s23 := (x3.out (Frm.same f2)).1
    have f3 : Own Φ D vs O2 G3 H' := Frm.exts x3 f2
    refine (hg D vs X.s_0 H 0 [] []).sem _ _ O2 G3 H' x d _ _ (((hρ.mono e1).mono (e2.trans s23)).wipe (own.map fun p => p.2)) f3 rd q fun σ4 ρ4 O4 G4 H4 h4 e4 r4 f4 z4 => ?_
    refine ⟨?_, ?_⟩
    · have z := z4 (own.map (·.2)) hil
      rw [z]
      exact wipe_wipe
    refine (ht D vs X.s_0 H 0 [] []).sem σ4 ρ4 O4 G4 H4 _ _ R0 r4 f4 (fun _ _ _ _ _ _ _ _ _ z => z.elim) h4 fun b O5 G5 H5 h5 e5 f5 => ?_
    have e15 : Same G1 G5 := ((e2.trans s23).trans e4).trans e5
    cases b with
    | false =>
      simp only [Bool.false_eq_true, if_false] at h5 ⊢
      exact ⟨acc, vs, O5, G5, e15, f5, racc.mono ((s23.trans e4).trans e5), h5⟩
    | true =>
      simp only [if_true] at h5 ⊢
      refine (he D vs X.s_0 H 0 [] []).sem σ4 ρ4 O5 G5 H5 _ _ R0 (r4.mono e5) f5 (fun _ _ _ _ _ _ _ _ _ z => z.elim) h5 fun y O6 v6 G6 H6 ⟨hl, h6⟩ e6 f6 r6 => ?_
      have ra := racc.mono (((s23.trans e4).trans e5).trans e6)
      refine ⟨vs, f6.1, by rw [ra.len]; exact hl, acc ++ [y], vs ++ [v6], O6, G6, e15.trans e6, ⟨upd_same, ?_⟩, ra.app (.cons r6 .nil), h6⟩
      rw [delH_self]
      exact f6.2
  · have ei : i = ds.length := by omega
    subst ei
    rw [List.drop_length] at q
    exact .inl ⟨st, k acc vs D O2 G2 H2 q (e1.trans e2) f2 racc⟩
where
  wipe_wipe {σ : Sig} {vs : List Nat} : L2.wipe (L2.wipe σ vs) vs = L2.wipe σ vs := by
    have key : ∀ (us ws : List Nat) (τ : Sig), (∀ i ∈ us, i ∈ ws) → L2.wipe (L2.wipe τ us) ws = L2.wipe τ ws := by
      intro us
      induction us with
      | nil => intro ws τ _; rfl
      | cons u us ih =>
        intro ws τ h
        show L2.wipe ((L2.wipe τ us).set u none) ws = _
        rw [wipe_set (h u List.mem_cons_self)]
        exact ih ws τ fun i hi => h i (List.mem_cons_of_mem _ hi)
    exact key vs vs σ fun _ h => h
def relS (sc sc0 : Scope) : Scope := relabel sc ⟨sc0, 0, 0, [], .empty, none, .none, none, 0⟩
theorem blkOk_in {N : List Str} {sc0 sc scope : Scope} {own : List (Str × Nat)} {cl : List (Str × Addr)} {C : Addr} {env : Env} (h : blkC N (relS sc sc0) scope own = true) (he : env.scope = sc0 := by rfl) : BlkOk N (compEnvC sc cl C env).scope scope own := by
  subst he
  exact blkOk_by h
theorem cE_de {X : Cx} {F : Addr → List V → OH → Hp → Hp → Prop} {e : Expr} {m : ME OH} (h : ∀ D vs, ∃ te, DE X (F D vs) W0 e te m) (D : Addr) (vs : List V) : DE X (F D vs) W0 e (cE X.K X.mg F m) m := by
  refine ⟨⟨fun pins s σ H Q I ⟨D, vs, ρ, O, G, P, R, hρ, f, hW, hm, k⟩ => ?_⟩, fun σ ρ O G H Q P R hρ f hW hm k => ⟨D, vs, ρ, O, G, P, R, hρ, f, hW, hm, k⟩⟩
  obtain ⟨te, d⟩ := h D vs
  exact d.pe.run pins s σ H Q I (d.sem σ ρ O G H Q P R hρ f hW hm k)
theorem cT_dt {X : Cx} {F : Addr → List V → OH → Hp → Hp → Prop} {ifs : List Expr} {m : MT OH} (h : ∀ D vs, ∃ tt, DTs X (F D vs) W0 ifs tt m) (D : Addr) (vs : List V) : DTs X (F D vs) W0 ifs (cT X.K X.mg F m) m := by
  refine ⟨⟨fun pins s σ H Q I ⟨D, vs, ρ, O, G, P, R, hρ, f, hW, hm, k⟩ => ?_⟩, fun σ ρ O G H Q P R hρ f hW hm k => ⟨D, vs, ρ, O, G, P, R, hρ, f, hW, hm, k⟩⟩
  obtain ⟨tt, d⟩ := h D vs
  exact d.pts.run pins s σ H Q I (d.sem σ ρ O G H Q P R hρ f hW hm k)
theorem own_up {D : Addr} {vs : List V} {acc : List DL.D} {O : OH} {G H : Hp} (f2 : Own Φ D vs O G H) (racc : RpL X.K X.mg G vs acc) : ∃ G', Same G G' ∧ Φ O G' H ∧ Rp X.K X.mg G' (.ref D) (.lst acc) := by
  have g0 : G D = none := by
    cases z : G D with
    | none => rfl
    | some o => exact absurd rfl (delH_some (F.same f2.2 D o z)).1
  have sg := same_new (o := .lst vs) g0
  have eqH : upd (delH H D) D (.lst vs) = H := by
    funext c
    by_cases e : c = D
    · subst e
      rw [upd_same, f2.1]
    · rw [upd_ne e, delH_ne e]
  have z := F.ext (o := .lst vs) f2.2 (delH_same (H := H) (a := D))
  rw [eqH] at z
  exact ⟨_, sg, z, .lst upd_same (racc.mono sg)⟩
theorem own_own {D : Addr} {vs : List V} {acc : List DL.D} {O : OH} {G H : Hp} (f2 : Own Φ D vs O G H) (racc : RpL X.K X.mg G vs acc) : O D = none ∧ Φ (O.put D (.lst acc)) G H := by
  have eqH : upd (delH H D) D (.lst vs) = H := by
    funext c
    by_cases e : c = D
    · subst e
      rw [upd_same, f2.1]
    · rw [upd_ne e, delH_ne e]
  have z := F.new f2.2 (delH_same (H := H) (a := D)) (.lst racc)
  rw [eqH] at z
  refine ⟨?_, z⟩
  cases q : O D with
  | none => rfl
  | some y =>
    obtain ⟨_, o, h1, _⟩ := F.own f2.2 q
    rw [delH_same] at h1
    cases h1
/-- .. the list one's own -/
def mLcO (mi : MI OH) (g : MG OH) (t : MT OH) (m : ME OH) (vs : List Nat) : ME OH := fun ρ O P R => mi ρ O (fun ds O1 => wLc g t m vs ρ (fun acc O2 => ∀ p, O2 p = none → P (.loc p) (O2.put p (.lst acc))) ds [] O1) R
theorem de_lc (hc : X.calm = true) (hN : X.N.Nodup) (hi : DI X Φ W tg iter wi mi) (ok : BlkOk X.N X.env.scope scope own)
    (hg : ∀ (D : Addr) (vs : List V) (s : Shared) (H : Hp) (C : Addr) (cl : List (Str × Addr)) (fp : List Addr), DG (X.blk s H scope (compEnvC scope cl C X.env) fp) (Own Φ D vs) tg g mg il)
    (ht : ∀ (D : Addr) (vs : List V) (s : Shared) (H : Hp) (C : Addr) (cl : List (Str × Addr)) (fp : List Addr), DTs (X.blk s H scope (compEnvC scope cl C X.env) fp) (Own Φ D vs) W0 ifs tt mt)
    (he : ∀ (D : Addr) (vs : List V) (s : Shared) (H : Hp) (C : Addr) (cl : List (Str × Addr)) (fp : List Addr), DE (X.blk s H scope (compEnvC scope cl C X.env) fp) (Own Φ D vs) W0 elt te me)
    (hil : ∀ i ∈ il, i ∈ own.map (·.2) := by decide) (hs : ∀ x, foldedSetIterable iter X.env x = pure x := by intro _; rfl) :
    DE X Φ W (.ListComp elt [⟨tg, iter, ifs, 0⟩] scope pos) (tLc wi g tt te (own.map (·.2))) (mLc mi mg mt me (own.map (·.2))) :=
  ⟨pe_lc hc hN hi.pi ok (fun s H C cl fp => (hg 0 [] s H C cl fp).pg) (fun s H C cl fp => (ht 0 [] s H C cl fp).pts) (fun s H C cl fp => (he 0 [] s H C cl fp).pe) hs,
    fun σ ρ O G H Q P R hρ f hW h k => lc_sem hi hg hil ht he hρ f hW h fun acc vs D O2 G2 H2 p e f2 r => by
      obtain ⟨G3, s3, f3, r3⟩ := own_up f2 r
      exact k _ O2 _ G3 H2 p (e.trans s3) f3 r3⟩
theorem de_lcO (hc : X.calm = true) (hN : X.N.Nodup) (hi : DI X Φ W tg iter wi mi) (ok : BlkOk X.N X.env.scope scope own)
    (hg : ∀ (D : Addr) (vs : List V) (s : Shared) (H : Hp) (C : Addr) (cl : List (Str × Addr)) (fp : List Addr), DG (X.blk s H scope (compEnvC scope cl C X.env) fp) (Own Φ D vs) tg g mg il)
    (ht : ∀ (D : Addr) (vs : List V) (s : Shared) (H : Hp) (C : Addr) (cl : List (Str × Addr)) (fp : List Addr), DTs (X.blk s H scope (compEnvC scope cl C X.env) fp) (Own Φ D vs) W0 ifs tt mt)
    (he : ∀ (D : Addr) (vs : List V) (s : Shared) (H : Hp) (C : Addr) (cl : List (Str × Addr)) (fp : List Addr), DE (X.blk s H scope (compEnvC scope cl C X.env) fp) (Own Φ D vs) W0 elt te me)
    (hil : ∀ i ∈ il, i ∈ own.map (·.2) := by decide) (hs : ∀ x, foldedSetIterable iter X.env x = pure x := by intro _; rfl) :
    DE X Φ W (.ListComp elt [⟨tg, iter, ifs, 0⟩] scope pos) (tLc wi g tt te (own.map (·.2))) (mLcO mi mg mt me (own.map (·.2))) :=
  ⟨pe_lc hc hN hi.pi ok (fun s H C cl fp => (hg 0 [] s H C cl fp).pg) (fun s H C cl fp => (ht 0 [] s H C cl fp).pts) (fun s H C cl fp => (he 0 [] s H C cl fp).pe) hs,
    fun σ ρ O G H Q P R hρ f hW h k => lc_sem hi hg hil ht he hρ f hW h fun acc vs D O2 G2 H2 p e f2 r => by
      obtain ⟨o3, f3⟩ := own_own f2 r
      exact k _ _ _ G2 H2 (p D o3) e f3 (.loc D)⟩
/-- name = [..] -/
theorem ds_setLc {i : Nat} {y : Str} {py spos : Pos} (hc : X.calm = true) (hN : X.N.Nodup) (hy : X.N[i]? = some y) (hyl : X.env.scope.names.lookup y = some .local)
    (hsw : swapsWith (.ListComp elt [⟨tg, iter, ifs, 0⟩] scope pos) (some (.Name y py)) spos.line X.env = pure true) (hi : DI X Φ W tg iter wi mi) (ok : BlkOk X.N X.env.scope scope own)
    (hg : ∀ (D : Addr) (vs : List V) (s : Shared) (H : Hp) (C : Addr) (cl : List (Str × Addr)) (fp : List Addr), DG (X.blk s H scope (compEnvC scope cl C X.env) fp) (Own Φ D vs) tg g mg il)
    (ht : ∀ (D : Addr) (vs : List V) (s : Shared) (H : Hp) (C : Addr) (cl : List (Str × Addr)) (fp : List Addr), DTs (X.blk s H scope (compEnvC scope cl C X.env) fp) (Own Φ D vs) W0 ifs tt mt)
    (he : ∀ (D : Addr) (vs : List V) (s : Shared) (H : Hp) (C : Addr) (cl : List (Str × Addr)) (fp : List Addr), DE (X.blk s H scope (compEnvC scope cl C X.env) fp) (Own Φ D vs) W0 elt te me)
    (hil : ∀ i ∈ il, i ∈ own.map (·.2) := by decide) (hs : ∀ x, foldedSetIterable iter X.env x = pure x := by intro _; rfl) :
    DS X Φ W (.Assign [.Name y py] (.ListComp elt [⟨tg, iter, ifs, 0⟩] scope pos) spos) (tAsg (tLc wi g tt te (own.map (·.2))) (gName i)) (sSet i (mLc mi mg mt me (own.map (·.2)))) :=
  ⟨ps_setLc hc hN hy hyl hsw hi.pi ok (fun s H C cl fp => (hg 0 [] s H C cl fp).pg) (fun s H C cl fp => (ht 0 [] s H C cl fp).pts) (fun s H C cl fp => (he 0 [] s H C cl fp).pe) hs,
    fun σ ρ O G H D M hρ f hm E => lc_sem hi hg hil ht he hρ f (E.wsh hρ) hm fun acc vs D O2 G2 H2 p e f2 r => by
      obtain ⟨G3, s3, f3, r3⟩ := own_up f2 r
      exact E.nx _ _ O2 G3 H2 p (e.trans s3) ((hρ.mono (e.trans s3)).set i r3) f3⟩
/-! the same, where the rules of the element and the test may speak of the block -/
theorem de_lcE (hc : X.calm = true) (hN : X.N.Nodup) (hi : DI X Φ W tg iter wi mi) (ok : BlkOk X.N X.env.scope scope own)
    (hg : ∀ (D : Addr) (vs : List V) (s : Shared) (H : Hp) (C : Addr) (cl : List (Str × Addr)) (fp : List Addr), DG (X.blk s H scope (compEnvC scope cl C X.env) fp) (Own Φ D vs) tg g mg il)
    (ht : ∀ (D : Addr) (vs : List V) (s : Shared) (H : Hp) (C : Addr) (cl : List (Str × Addr)) (fp : List Addr), ∃ tt, DTs (X.blk s H scope (compEnvC scope cl C X.env) fp) (Own Φ D vs) W0 ifs tt mt)
    (he : ∀ (D : Addr) (vs : List V) (s : Shared) (H : Hp) (C : Addr) (cl : List (Str × Addr)) (fp : List Addr), ∃ te, DE (X.blk s H scope (compEnvC scope cl C X.env) fp) (Own Φ D vs) W0 elt te me)
    (hil : ∀ i ∈ il, i ∈ own.map (·.2) := by decide) (hs : ∀ x, foldedSetIterable iter X.env x = pure x := by intro _; rfl) :
    DE X Φ W (.ListComp elt [⟨tg, iter, ifs, 0⟩] scope pos) (tLc wi g (cT X.K X.mg (Own Φ) mt) (cE X.K X.mg (Own Φ) me) (own.map (·.2))) (mLc mi mg mt me (own.map (·.2))) :=
  de_lc hc hN hi ok hg (fun D vs s H C cl fp => cT_dt (fun D vs => ht D vs s H C cl fp) D vs) (fun D vs s H C cl fp => cE_de (fun D vs => he D vs s H C cl fp) D vs) hil hs
theorem de_lcOE (hc : X.calm = true) (hN : X.N.Nodup) (hi : DI X Φ W tg iter wi mi) (ok : BlkOk X.N X.env.scope scope own)
    (hg : ∀ (D : Addr) (vs : List V) (s : Shared) (H : Hp) (C : Addr) (cl : List (Str × Addr)) (fp : List Addr), DG (X.blk s H scope (compEnvC scope cl C X.env) fp) (Own Φ D vs) tg g mg il)
    (ht : ∀ (D : Addr) (vs : List V) (s : Shared) (H : Hp) (C : Addr) (cl : List (Str × Addr)) (fp : List Addr), ∃ tt, DTs (X.blk s H scope (compEnvC scope cl C X.env) fp) (Own Φ D vs) W0 ifs tt mt)
    (he : ∀ (D : Addr) (vs : List V) (s : Shared) (H : Hp) (C : Addr) (cl : List (Str × Addr)) (fp : List Addr), ∃ te, DE (X.blk s H scope (compEnvC scope cl C X.env) fp) (Own Φ D vs) W0 elt te me)
    (hil : ∀ i ∈ il, i ∈ own.map (·.2) := by decide) (hs : ∀ x, foldedSetIterable iter X.env x = pure x := by intro _; rfl) :
    DE X Φ W (.ListComp elt [⟨tg, iter, ifs, 0⟩] scope pos) (tLc wi g (cT X.K X.mg (Own Φ) mt) (cE X.K X.mg (Own Φ) me) (own.map (·.2))) (mLcO mi mg mt me (own.map (·.2))) :=
  de_lcO hc hN hi ok hg (fun D vs s H C cl fp => cT_dt (fun D vs => ht D vs s H C cl fp) D vs) (fun D vs s H C cl fp => cE_de (fun D vs => he D vs s H C cl fp) D vs) hil hs
theorem ds_setLcE {i : Nat} {y : Str} {py spos : Pos} (hc : X.calm = true) (hN : X.N.Nodup) (hy : X.N[i]? = some y) (hyl : X.env.scope.names.lookup y = some .local)
    (hsw : swapsWith (.ListComp elt [⟨tg, iter, ifs, 0⟩] scope pos) (some (.Name y py)) spos.line X.env = pure true) (hi : DI X Φ W tg iter wi mi) (ok : BlkOk X.N X.env.scope scope own)
    (hg : ∀ (D : Addr) (vs : List V) (s : Shared) (H : Hp) (C : Addr) (cl : List (Str × Addr)) (fp : List Addr), DG (X.blk s H scope (compEnvC scope cl C X.env) fp) (Own Φ D vs) tg g mg il)
    (ht : ∀ (D : Addr) (vs : List V) (s : Shared) (H : Hp) (C : Addr) (cl : List (Str × Addr)) (fp : List Addr), ∃ tt, DTs (X.blk s H scope (compEnvC scope cl C X.env) fp) (Own Φ D vs) W0 ifs tt mt)
    (he : ∀ (D : Addr) (vs : List V) (s : Shared) (H : Hp) (C : Addr) (cl : List (Str × Addr)) (fp : List Addr), ∃ te, DE (X.blk s H scope (compEnvC scope cl C X.env) fp) (Own Φ D vs) W0 elt te me)
    (hil : ∀ i ∈ il, i ∈ own.map (·.2) := by decide) (hs : ∀ x, foldedSetIterable iter X.env x = pure x := by intro _; rfl) :
    DS X Φ W (.Assign [.Name y py] (.ListComp elt [⟨tg, iter, ifs, 0⟩] scope pos) spos) (tAsg (tLc wi g (cT X.K X.mg (Own Φ) mt) (cE X.K X.mg (Own Φ) me) (own.map (·.2))) (gName i)) (sSet i (mLc mi mg mt me (own.map (·.2)))) :=
  ds_setLc hc hN hy hyl hsw hi ok hg (fun D vs s H C cl fp => cT_dt (fun D vs => ht D vs s H C cl fp) D vs) (fun D vs s H C cl fp => cE_de (fun D vs => he D vs s H C cl fp) D vs) hil hs
end
end
end DL

set_option Elab.async false
set_option linter.all false
set_option maxRecDepth 100000
set_option maxHeartbeats 1000000
namespace DL
open PySem PySem.Spec PyProof.Rows L2

/-! ### defs and their contracts -/
abbrev WF := List D → OH → (D → OH → Prop) → (Exn → OH → Prop) → Prop
/-- the contract of a def over trees -/
def spO (K : PySem.W.Frag) (mg : Str → Option Value) (n : Nat) (g : WF) : Sp := fun vs H Q E =>
  ∃ (Φ : OH → Hp → Hp → Prop) (_ : OFrm K mg Φ) (G : Hp) (O : OH) (ds : List D) (P : D → OH → Prop) (R : Exn → OH → Prop), Φ O G H ∧ RpL K mg G vs ds ∧ ds.length = n ∧ g ds O P R ∧
    (∀ (d : D) (O' : OH) (v : V) (G' H' : Hp), P d O' → Same G G' → Φ O' G' H' → Rp K mg G' v d → Q v H') ∧
    (∀ (x : Exn) (O' : OH) (G' H' : Hp) (cls : Value) (d : Option Addr), R x O' → Same G G' → Φ O' G' H' → ExR K mg G' cls d x → E cls d H')
section
variable (P : Program) (w : World) (K : PySem.W.Frag) (mg : Str → Option Value) (base : Heap)
/-- as the layer's FnOk, where no repr is under way -/
structure FnS (k : Nat) (f : Addr) (fd : FuncData) (ps : List Str) (sp : Sp) : Prop where
  len : ∀ vs H Q E, sp vs H Q E → vs.length = ps.length
  run : ∀ (A : Around) (outer : List Env) (s : Shared) (H : Hp) (args : Args) (us : List Value) (vs : List V) (Q : VK) (E : XK), Room k A → A.guards = some [] → Env0 P w K mg base A outer s H →
    BindsTo s fd args (ps.zip us) → Vals vs us → sp vs H Q E → codeAny (model P w) A (.call (.ref f) args) (CR (L2.CX P w) outer P w H s Q E) s
abbrev FnG (k : Nat) (f : Addr) (fd : FuncData) (ps : List Str) (g : WF) : Prop := FnS P w K mg base k f fd ps (spO K mg ps.length g)
end
section
variable {P : Program} {w : World} {K : PySem.W.Frag} {mg : Str → Option Value} {base : Heap}
theorem fnS_of {k : Nat} {f : Addr} {name qual : Str} {params : Arguments} {body : List Stmt} {scope : Scope} {dV kV doc pm cdv ct oc : Value} {an od : Option Addr} {osl : Array (Option Value)} {N ps : List Str} {sp : Sp}
    (lk : K.lookup f = some ⟨oc, od, .func (PySem.W.fnOf name qual params body scope dV kV doc pm an cdv ct), osl⟩) (hcd : PySem.W.codeIn K cdv qual = true) (Sc : FnScope N ps scope) (len : ∀ vs H Q E, sp vs H Q E → vs.length = ps.length)
    (hbody : ∀ (A : Around) (outer : List Env) (s : Shared) (H : Hp) (vs : List V) (Q : VK) (E : XK), Room k (A.deeper (envOfC qual scope s.heap.objs.size f cdv)) → A.guards = some [] → sp vs H Q E →
      ∃ t, PSs (cxOf (L2.CX P w) P w K mg base N qual scope f cdv A outer s H E) body t ∧ t { nx := fun _ H' => Q .non H', rt := Q } (L2.start N vs) H) :
    FnS P w K mg base (k + 1) f (PySem.W.fnOf name qual params body scope dV kV doc pm an cdv ct) ps sp := by
  refine ⟨len, fun A outer s H args us vs Q E hr hg e0 hb r hsp => ?_⟩
  have hl : vs.length = ps.length := len vs H Q E hsp
  have kin : K.In s.heap := e0.mod.kin.keeps (fun b o e => (e0.bs b o e).1)
  have nolim : s.heap.NoLimit := e0.mod.nolimit.keeps (fun b o e => (e0.bs b o e).1)
  have kinds : ∀ y ∈ ps.zip us, scope.names.lookup y.1 = some .local ∨ (scope.names.lookup y.1 = some .cell ∧ ((cellsFrom (s.heap.objs.size + 1) scope.names []).lookup y.1).isSome = true) := by
    intro ⟨n, v⟩ hy
    exact (Sc.par n (List.of_mem_zip hy).1).elim Or.inl fun q => .inr ⟨q, PySem.W.cellsFrom_some _ _ _ (.inl q)⟩
  refine codeAny_call_function hr.depth (kin _ _ lk) rfl Sc.co Sc.gen rfl (PySem.W.codeRec_of kin hcd) (hb _ _ _ _ ?_)
  refine wpAny_newFunctionEnv_cells Sc.kind kinds fun env he s1 x => ?_
  subst he
  obtain ⟨t, ht, hq⟩ := hbody A outer s H vs Q E (hr.deeper _) hg hsp
  refine ⟨nolim.keeps x.toInCall.keep, codeAny_func ?_⟩
  have I := inv_start (CX := L2.CX P w) (E := E) Sc hr.hd e0 hl r x
  refine wpAny_mono (ht.run [] s1 (L2.start N vs) H _ I hq) (fun fl s' hs => ?_) fun e s' hs => hs
  have fin : ∀ {σ' : Sig} {H' : Hp} {v : V} {u : Value}, Inv (cxOf (L2.CX P w) P w K mg base N qual scope f cdv A outer s H E) [] σ' H' s' → RelV v u → Q v H' → CE outer P w H s Q u s' := by
    intro σ' H' v u J rv q
    exact ⟨v, H', J.os, J.bare, J.base, J.hok, rv, q⟩
  match fl, hs with
  | .ret u, ⟨v, σ', H', J, rv, q⟩ => exact fin J rv q
  | .next, ⟨σ', H', J, q⟩ => exact fin (v := V.non) (u := Value.none) J rfl q
  | .brk, ⟨_, _, _, q⟩ => exact q.elim
  | .cont, ⟨_, _, _, q⟩ => exact q.elim
theorem spO_len {n : Nat} {g : WF} {vs : List V} {H : Hp} {Q : VK} {E : XK} (h : spO K mg n g vs H Q E) : vs.length = n := by
  obtain ⟨_, _, _, _, ds, _, _, _, r, l, _⟩ := h
  rw [r.len, l]
/-- the tree reading of a body, from the arguments on -/
def bodyF (m : MS OH) (k : Nat) : WF := fun ds O P R => m { nx := fun _ O' => P .non O', rt := P, bk := fun _ _ => False, ct := fun _ _ => False, ex := fun x _ O' => R x O' } (ds.map some ++ List.replicate k none) O
theorem start_rel {N : List Str} {G : Hp} {vs : List V} {ds : List D} (r : RpL K mg G vs ds) : RelE K mg G (L2.start N vs) (ds.map some ++ List.replicate (N.length - ds.length) none) := by
  have hl := r.len
  refine ⟨by unfold L2.start; simp [hl], fun i d h => ?_⟩
  have hi : i < ds.length := by
    by_cases q : i < ds.length
    · exact q
    · rw [List.getElem?_append_right (by simpa using q), List.getElem?_replicate] at h
      split at h <;> cases h
  rw [List.getElem?_append_left (by simpa using hi), List.getElem?_map] at h
  cases e : ds[i]? with
  | none => rw [e] at h; cases h
  | some d' =>
    rw [e] at h
    cases h
    obtain ⟨v, hv, rv⟩ := r.at e
    refine ⟨v, ?_, rv⟩
    unfold L2.start
    rw [List.getElem?_append_left (by simp [hl, hi]), List.getElem?_map, hv]
    rfl
/-- where a def may be called -/
structure Rm (k : Nat) (X : Cx) : Prop where
  room : Room k X.A
  gd : X.A.guards = some []
theorem Rm.mono {j k : Nat} {X : Cx} (h : Rm k X) (l : j ≤ k) : Rm j X := ⟨h.room.mono l, h.gd⟩
theorem rmB {k : Nat} {X : Cx} {s : Shared} {H : Hp} {sc : Scope} {ce : Env} {fp : List Addr} (h : Rm k X) : Rm k (X.blk s H sc ce fp) := ⟨h.room, h.gd⟩
theorem rmT {k : Nat} {X : Cx} {pn : List (Addr × Obj)} {xe : Value → Shared → Prop} (h : Rm k X) : Rm k (X.tr pn xe) := ⟨h.room, h.gd⟩
theorem sgd {k : Nat} {X : Cx} {a : Addr} {pn : List (Addr × Obj)} (h : Rm k X) : (X.suite a pn).A.guards = some [] := h.gd
theorem sun {k : Nat} {X : Cx} {a : Addr} {pn : List (Addr × Obj)} (h : Rm k X) : (X.suite a pn).A.units + 64 < cLine := h.room.units
theorem Rm.units {k : Nat} {X : Cx} (h : Rm k X) : X.A.units + 64 < cLine := h.room.units
/-- THE RULE of a def -/
theorem fnG_mk {x qual : Str} {st : Stmt} {f : Addr} {fd : FuncData} {N ps : List Str} {k : Nat} {g : WF} (F : Fun K x qual st f fd) (Sc : FnScope N ps (defScope st)) {m : MS OH}
    (hb : ∀ (Φ : OH → Hp → Hp → Prop) (cdv : Value) (A : Around) (outer : List Env) (s : Shared) (H : Hp) (E : XK), OFrm (cxOf (L2.CX P w) P w K mg base N qual (defScope st) f cdv A outer s H E).K (cxOf (L2.CX P w) P w K mg base N qual (defScope st) f cdv A outer s H E).mg Φ → Rm k (cxOf (L2.CX P w) P w K mg base N qual (defScope st) f cdv A outer s H E) →
      ∃ ts, DSs (cxOf (L2.CX P w) P w K mg base N qual (defScope st) f cdv A outer s H E) Φ (fun cls d _ H' => E cls d H') (defBody st) ts m)
    (hg : ∀ ds O Pd R, ds.length = ps.length → g ds O Pd R → bodyF m (N.length - ps.length) ds O Pd R) : FnG P w K mg base (k + 1) f fd ps g := by
  obtain ⟨oc, od, kV, doc, pm, an, cdv, ct, osl, rfl, lk, hcd⟩ := F.ex
  refine fnS_of lk hcd Sc (fun vs H Q E h => spO_len h) fun A outer s H vs Q E hr hgd hsp => ?_
  obtain ⟨Φ, iΦ, G, O, ds, Pd, R, f0, r, hl, hgs, hP, hR⟩ := hsp
  obtain ⟨ts, d⟩ := hb Φ cdv A outer s H E iΦ ⟨hr, hgd⟩
  refine ⟨ts, d.pss, ?_⟩
  have r0 := start_rel (N := N) r
  rw [hl] at r0
  refine d.sem _ _ O G H _ _ r0 f0 (hg ds O Pd R hl hgs) ⟨fun σ ρ s G' H' p e _ q => hP .non s .non G' H' p e q .non, fun d s v G' H' p e q r => hP d s v G' H' p e q r, fun _ _ _ _ _ p => p.elim, fun _ _ _ _ _ p => p.elim,
    fun x σ ρ s G' H' cls d p e _ q z => hR x s G' H' cls d p e q z⟩
end

/-! ### calls -/
section
variable {X : Cx} {Φ : OH → Hp → Hp → Prop} {W : WX} [FΦ : OFrm X.K X.mg Φ]
theorem runS {k : Nat} {f : Addr} {fd : FuncData} {ps : List Str} {sp : Sp} {dvs : List V} {dflt : List Value} {E : XK} {pins : List (Addr × Obj)} {σ : Sig} {H : Hp} {s : Shared} {Q : VK} {us : List Value} {vs : List V}
    (F : FnS X.prog X.w X.K X.mg X.base k f fd ps sp) (hr : Rm k X) (hb : Binds X.K fd ps dflt) (hd : Vals dvs dflt) (hx : PassesAt (L2.CX X.prog X.w) X σ E) (I : Inv X pins σ H s) (r : Vals vs us) (h : sp (vs ++ dvs) H Q E) :
    wpAny (model X.prog X.w) X.A (call (.ref f) us) (EP X pins σ Q) X.xe s := by
  have r2 : Vals (vs ++ dvs) (us ++ dflt) := Vals.append r hd
  have hl : (us ++ dflt).length = ps.length := r2.length.symm.trans (F.len _ _ _ _ h)
  have go := F.run X.A X.stack s H ⟨us, []⟩ (us ++ dflt) (vs ++ dvs) Q E hr.room hr.gd I.env0 (hb s us I.kIn hl) r2 h
  refine wpAny_call (codeAny_mono go fun r s' hq => ?_)
  match r, hq with
  | .error e, hq => exact hx pins H s e s' I hq
  | .ok (.ret u), hq => exact I.after hq
  | .ok .next, hq => exact hq.elim
  | .ok .brk, hq => exact hq.elim
  | .ok .cont, hq => exact hq.elim
/-- f(e, ..) -/
theorem pe_callG {k : Nat} {f : Addr} {fd : FuncData} {ps : List Str} {sp : Sp} {dvs : List V} {dflt : List Value} {x : Str} {p pos : Pos} {e : Expr} {es : List Expr} {t : TA} (F : FnS X.prog X.w X.K X.mg X.base k f fd ps sp) (hr : Rm k X) (hg : Gl X x)
    (hm : X.mg x = some (.ref f)) (hk : PySem.W.keepIn X.K (.ref f) = true) (hb : Binds X.K fd ps dflt) (hd : Vals dvs dflt) (tk : Takes X W) (ha : PA X (e :: es) t) (hdb : (x == ("__debug__" : Str)) = false)
    (he : starEach (e :: es) X.env = (false, eval e X.env) :: starEach es X.env) (hpl : (backTo pos (starEach es X.env)).any (·.1) = false) :
    PE X (.Call (.Name x p) (e :: es) [] pos) (fun σ H Q => t σ H fun vs H1 => sp (vs ++ dvs) H1 Q (WE W σ)) := by
  refine ⟨fun pins s σ H Q I h => wpAny_Call_Name_kw (ld_glob I hg hm ?_ hdb)⟩
  have arg := ha.run pos pins s σ H _ I h
  refine PySem.W.callWith_K (h₀ := X.base) I.ok.mod.kin hk (thn arg fun us s1 ⟨vs, H1, I1, r, q⟩ => ⟨I1.kIn, ?_⟩) he hpl
  exact runS F hr hb hd (passAt tk σ) I1 r q
theorem pe_callG0 {k : Nat} {f : Addr} {fd : FuncData} {ps : List Str} {sp : Sp} {dvs : List V} {dflt : List Value} {x : Str} {p pos : Pos} (F : FnS X.prog X.w X.K X.mg X.base k f fd ps sp) (hr : Rm k X) (hg : Gl X x)
    (hm : X.mg x = some (.ref f)) (hk : PySem.W.keepIn X.K (.ref f) = true) (hb : Binds X.K fd ps dflt) (hd : Vals dvs dflt) (tk : Takes X W) (hdb : (x == ("__debug__" : Str)) = false) :
    PE X (.Call (.Name x p) [] [] pos) (fun σ H Q => sp dvs H Q (WE W σ)) := by
  refine ⟨fun pins s σ H Q I h => wpAny_Call_Name_kw (ld_glob I hg hm ?_ hdb)⟩
  exact PySem.W.callWith_K0 I.kIn hk (runS (us := []) (vs := []) F hr hb hd (passAt tk σ) I .nil h)
/-- o.m(e, ..) -/
theorem pe_methG {k : Nat} {f C : Addr} {fd : FuncData} {ps : List Str} {sp : Sp} {dvs : List V} {dflt : List Value} {m : Str} {apos pos : Pos} {o e : Expr} {es : List Expr} {ta : TE} {t : TA} {pl : Sem Bool} (he : PE X o ta) (c : Cls X.K C) (hm : Meth X.K C m f)
    (F : FnS X.prog X.w X.K X.mg X.base k f fd ps sp) (hr : Rm k X) (hb : Binds X.K fd ps dflt) (hd : Vals dvs dflt) (tk : Takes X W) (ha : PA X (e :: es) t)
    (h1 : starEach (e :: es) X.env = (false, eval e X.env) :: starEach es X.env) (h2 : (backTo pos (starEach es X.env)).any (·.1) = false)
    (ht : eval (.Call (.Attribute o m apos) (e :: es) [] pos) X.env = (do
      let ov ← eval o X.env
      standAt apos.atName
      let (f, first) ← holding [ov] (getMethod ov m pl)
      callWith pos f first (backTo pos (starEach (e :: es) X.env)) (backToKw pos (keywordEach [] X.env)))) :
    PE X (.Call (.Attribute o m apos) (e :: es) [] pos) (fun σ H Q => ta σ H fun x H1 => ∃ a dx fs, x = .ref a ∧ H1 a = some (.ins C dx fs) ∧ fs.lookup m = none ∧ t σ H1 fun vs H2 => sp (x :: (vs ++ dvs)) H2 Q (WE W σ)) := by
  refine ⟨fun pins s σ H Q I h => PySem.W.methodCall_KW (pl := pl) (thn (he.run pins s σ H _ I h) fun u s1 ⟨x, H1, I1, rx, a, dx, fs, ex, ea, l, q⟩ => ?_) ht⟩
  subst ex
  cases (show u = Value.ref a from rx)
  refine getmeth_ok I1 ea c hm l ?_
  have arg := ha.run pos pins s1 σ H1 _ I1 q
  refine PySem.W.callWith_K (first := [.ref a]) (h₀ := X.base) I.ok.mod.kin hm.kp (thn arg fun us s2 ⟨vs, H2, I2, r, q2⟩ => ⟨I2.kIn, ?_⟩) h1 h2
  exact runS (us := .ref a :: us) (vs := .ref a :: vs) F hr hb hd (passAt tk σ) I2 (.cons rfl r) q2
theorem pe_methG0 {k : Nat} {f C : Addr} {fd : FuncData} {ps : List Str} {sp : Sp} {dvs : List V} {dflt : List Value} {m : Str} {apos pos : Pos} {o : Expr} {ta : TE} {pl : Sem Bool} (he : PE X o ta) (c : Cls X.K C) (hm : Meth X.K C m f)
    (F : FnS X.prog X.w X.K X.mg X.base k f fd ps sp) (hr : Rm k X) (hb : Binds X.K fd ps dflt) (hd : Vals dvs dflt) (tk : Takes X W)
    (ht : eval (.Call (.Attribute o m apos) [] [] pos) X.env = (do
      let ov ← eval o X.env
      standAt apos.atName
      let (f, first) ← holding [ov] (getMethod ov m pl)
      callWith pos f first (backTo pos (starEach [] X.env)) (backToKw pos (keywordEach [] X.env)))) :
    PE X (.Call (.Attribute o m apos) [] [] pos) (fun σ H Q => ta σ H fun x H1 => ∃ a dx fs, x = .ref a ∧ H1 a = some (.ins C dx fs) ∧ fs.lookup m = none ∧ sp (x :: dvs) H1 Q (WE W σ)) := by
  refine ⟨fun pins s σ H Q I h => PySem.W.methodCall_KW (pl := pl) (thn (he.run pins s σ H _ I h) fun u s1 ⟨x, H1, I1, rx, a, dx, fs, ex, ea, l, q⟩ => ?_) ht⟩
  subst ex
  cases (show u = Value.ref a from rx)
  refine getmeth_ok I1 ea c hm l ?_
  exact PySem.W.callWith_K0 (first := [.ref a]) I1.kIn hm.kp (runS (us := [.ref a]) (vs := [.ref a]) F hr hb hd (passAt tk σ) I1 (.cons rfl .nil) q)
/-- C(e, ..): a new instance, then its __init__ -/
theorem runMk {k : Nat} {f C : Addr} {fd : FuncData} {ps : List Str} {sp : Sp} {dvs : List V} {dflt : List Value} {E : XK} {pins : List (Addr × Obj)} {σ : Sig} {H : Hp} {s : Shared} {Q : VK} {us : List Value} {vs : List V} (M : Mk X.K C f)
    (F : FnS X.prog X.w X.K X.mg X.base k f fd ps sp) (hr : Rm (k + 1) X) (hb : Binds X.K fd ps dflt) (hd : Vals dvs dflt) (hx : PassesAt (L2.CX X.prog X.w) X σ E) (I : Inv X pins σ H s) (r : Vals vs us)
    (gm : (X.A.under (.builtin "type.__call__" ⟨.ref C :: us, []⟩)).guards = some [])
    (h : ∀ x dx, H x = none → H dx = none → dx ≠ x → sp (.ref x :: (vs ++ dvs)) (upd (upd H dx (.own x)) x (.ins C dx [])) (fun v H2 => v = .non ∧ Q (.ref x) H2) E) :
    wpAny (model X.prog X.w) X.A (call (.ref C) us) (EP X pins σ Q) X.xe s := by
  have q0 := h (s.heap.objs.size + 1) s.heap.objs.size (I.hok.fresh (Nat.le_succ _)) (I.hok.fresh (Nat.le_refl _)) (Nat.ne_of_lt (Nat.lt_succ_self _))
  have I2 := Inv.made (C := C) I
  have r2 : Vals (V.ref (s.heap.objs.size + 1) :: (vs ++ dvs)) (Value.ref (s.heap.objs.size + 1) :: (us ++ dflt)) := Paired.cons rfl (Vals.append r hd)
  have hl : (Value.ref (s.heap.objs.size + 1) :: us ++ dflt).length = ps.length := r2.length.symm.trans (F.len _ _ _ _ q0)
  have go := F.run _ X.stack _ _ ⟨Value.ref (s.heap.objs.size + 1) :: us, []⟩ (Value.ref (s.heap.objs.size + 1) :: (us ++ dflt)) _ _ E (hr.room.make C us []) gm (I2.env0.make C us []) (hb _ (Value.ref (s.heap.objs.size + 1) :: us) I2.kIn hl) r2 q0
  refine wpAny_call (make_map (f := f) I.kIn M.makes M.init (beq_iff_eq.mp M.fn) (codeAny_mono go fun r s' hq => ?_))
  match r, hq with
  | .error e, hq => exact hx pins _ _ e s' I2 hq
  | .ok (.ret u), hq =>
    obtain ⟨v, H', I3, rv, ev, q3⟩ := I2.after hq
    subst ev
    exact ⟨rv, V.ref (s.heap.objs.size + 1), H', I3, rfl, q3⟩
  | .ok .next, hq => exact hq.elim
  | .ok .brk, hq => exact hq.elim
  | .ok .cont, hq => exact hq.elim
theorem make_guards {A : Around} {C : Addr} {us : List Value} (h : A.guards = some []) : (A.under (.builtin "type.__call__" ⟨.ref C :: us, []⟩)).guards = some [] := by
  first
    | exact h
    | (simp [Around.under, Code.isGuard, guardIds, h])
theorem pe_makeG {k : Nat} {f C : Addr} {fd : FuncData} {ps : List Str} {sp : Sp} {dvs : List V} {dflt : List Value} {x : Str} {p pos : Pos} {e : Expr} {es : List Expr} {t : TA} (M : Mk X.K C f) (F : FnS X.prog X.w X.K X.mg X.base k f fd ps sp) (hr : Rm (k + 1) X)
    (hg : Gl X x) (hm : X.mg x = some (.ref C)) (hb : Binds X.K fd ps dflt) (hd : Vals dvs dflt) (tk : Takes X W) (ha : PA X (e :: es) t) (hdb : (x == ("__debug__" : Str)) = false)
    (he : starEach (e :: es) X.env = (false, eval e X.env) :: starEach es X.env) (hpl : (backTo pos (starEach es X.env)).any (·.1) = false) :
    PE X (.Call (.Name x p) (e :: es) [] pos) (fun σ H Q => t σ H fun vs H1 => ∀ x dx, H1 x = none → H1 dx = none → dx ≠ x → sp (.ref x :: (vs ++ dvs)) (upd (upd H1 dx (.own x)) x (.ins C dx [])) (fun v H2 => v = .non ∧ Q (.ref x) H2) (WE W σ)) := by
  refine ⟨fun pins s σ H Q I h => wpAny_Call_Name_kw (ld_glob I hg hm ?_ hdb)⟩
  have arg := ha.run pos pins s σ H _ I h
  refine PySem.W.callWith_K (h₀ := X.base) I.ok.mod.kin M.kp (thn arg fun us s1 ⟨vs, H1, I1, r, q⟩ => ⟨I1.kIn, ?_⟩) he hpl
  exact runMk M F hr hb hd (passAt tk σ) I1 r (make_guards hr.gd) q
theorem pe_makeG0 {k : Nat} {f C : Addr} {fd : FuncData} {ps : List Str} {sp : Sp} {dvs : List V} {dflt : List Value} {x : Str} {p pos : Pos} (M : Mk X.K C f) (F : FnS X.prog X.w X.K X.mg X.base k f fd ps sp) (hr : Rm (k + 1) X)
    (hg : Gl X x) (hm : X.mg x = some (.ref C)) (hb : Binds X.K fd ps dflt) (hd : Vals dvs dflt) (tk : Takes X W) (hdb : (x == ("__debug__" : Str)) = false) :
    PE X (.Call (.Name x p) [] [] pos) (fun σ H Q => ∀ x dx, H x = none → H dx = none → dx ≠ x → sp (.ref x :: dvs) (upd (upd H dx (.own x)) x (.ins C dx [])) (fun v H2 => v = .non ∧ Q (.ref x) H2) (WE W σ)) := by
  refine ⟨fun pins s σ H Q I h => wpAny_Call_Name_kw (ld_glob I hg hm ?_ hdb)⟩
  exact PySem.W.callWith_K0 I.kIn M.kp (runMk (us := []) (vs := []) M F hr hb hd (passAt tk σ) I .nil (make_guards hr.gd) h)
end
end DL

set_option Elab.async false
set_option linter.all false
set_option maxRecDepth 100000
set_option maxHeartbeats 1000000
namespace DL
open PySem PySem.Spec PyProof.Rows L2

section
variable {X : Cx} {Φ : OH → Hp → Hp → Prop} {W : WX} [FΦ : OFrm X.K X.mg Φ]
/-! ### calls, over trees -/
/-- what a contract asks, from the arguments' trees -/
theorem spO_of {n : Nat} {g : WF} {O : OH} {G H : Hp} {vs : List V} {ds : List D} {Q : VK} {P : D → OH → Prop} {R : Exn → OH → Prop} {E : XK} (f : Φ O G H) (r : RpL X.K X.mg G vs ds) (l : ds.length = n) (h : g ds O P R)
    (k : ∀ (d : D) (s' : OH) (v : V) (G' H' : Hp), P d s' → Same G G' → Φ s' G' H' → Rp X.K X.mg G' v d → Q v H') (hE : ∀ (x : Exn) (s : OH) (G' H' : Hp) (cls : Value) (d : Option Addr), Same G G' → Φ s G' H' → ExR X.K X.mg G' cls d x → R x s → E cls d H') :
    spO X.K X.mg n g vs H Q E := ⟨Φ, FΦ, G, O, ds, P, R, f, r, l, h, k, fun x O' G' H' cls d a b c e => hE x O' G' H' cls d b c e a⟩
def mCall (g : WF) (k : Nat) (dd : List D) (n : MA OH) : ME OH := fun ρ O P R => n ρ O (fun ds O1 => (ds ++ dd).length = k ∧ g (ds ++ dd) O1 P R) R
section
variable {k : Nat} {f C : Addr} {fd : FuncData} {ps : List Str} {g : WF} {dvs : List V} {dd : List D} {dflt : List Value} {x m : Str} {p pos apos : Pos} {e o : Expr} {es : List Expr} {ta : TA} {n : MA OH} {te : TE} {me : ME OH}
theorem de_call (F : FnG X.prog X.w X.K X.mg X.base k f fd ps g) (hr : Rm k X) (hg : Gl X x) (hm : X.mg x = some (.ref f)) (hk : PySem.W.keepIn X.K (.ref f) = true) (hb : Binds X.K fd ps dflt) (hd : Vals dvs dflt) (hdd : ∀ G, RpL X.K X.mg G dvs dd) (tk : Takes X W)
    (ha : DA X Φ W (e :: es) ta n) (hdb : (x == ("__debug__" : Str)) = false := by decide) (he : starEach (e :: es) X.env = (false, eval e X.env) :: starEach es X.env := by rfl) (hpl : (backTo pos (starEach es X.env)).any (·.1) = false := by rfl) :
    DE X Φ W (.Call (.Name x p) (e :: es) [] pos) (fun σ H Q => ta σ H fun vs H1 => spO X.K X.mg ps.length g (vs ++ dvs) H1 Q (WE W σ)) (mCall g ps.length dd n) :=
  ⟨pe_callG F hr hg hm hk hb hd tk ha.pa hdb he hpl, fun σ ρ s G H Q P R hρ f hW h k => ha.sem σ ρ s G H _ _ R hρ f hW h fun ds s1 vs G1 H1 ⟨hl, h1⟩ e1 f1 r1 =>
    spO_of f1 (r1.app (hdd G1)) hl h1 (fun d s' v G' H' p q => k d s' v G' H' p (e1.trans q)) (hW.mono e1)⟩
def mCall0 (g : WF) (k : Nat) (dd : List D) : ME OH := fun _ O P R => dd.length = k ∧ g dd O P R
theorem de_call0 (F : FnG X.prog X.w X.K X.mg X.base k f fd ps g) (hr : Rm k X) (hg : Gl X x) (hm : X.mg x = some (.ref f)) (hk : PySem.W.keepIn X.K (.ref f) = true) (hb : Binds X.K fd ps dflt) (hd : Vals dvs dflt) (hdd : ∀ G, RpL X.K X.mg G dvs dd) (tk : Takes X W) (hdb : (x == ("__debug__" : Str)) = false := by decide) :
    DE X Φ W (.Call (.Name x p) [] [] pos) (fun σ H Q => spO X.K X.mg ps.length g dvs H Q (WE W σ)) (mCall0 g ps.length dd) :=
  ⟨pe_callG0 F hr hg hm hk hb hd tk hdb, fun σ ρ s G H Q P R hρ f hW ⟨hl, h⟩ k => spO_of f (hdd G) hl h k hW⟩
/-- o.m(e, ..) of a tree that is an instance of C -/
def mMeth (C : Str) (m : Str) (g : WF) (k : Nat) (dd : List D) (me : ME OH) (n : MA OH) : ME OH := fun ρ O P R => me ρ O (fun x O1 => ∃ ns fs, x = .ins C ns fs ∧ m ∉ ns ∧ n ρ O1 (fun ds O2 => (x :: (ds ++ dd)).length = k ∧ g (x :: (ds ++ dd)) O2 P R) R) R
theorem zip_none {ns : List Str} {vs : List V} {m : Str} (h : m ∉ ns) : (ns.zip vs).lookup m = none := by
  induction ns generalizing vs with
  | nil => rfl
  | cons a ns ih =>
    cases vs with
    | nil => rfl
    | cons v vs =>
      rw [List.zip_cons_cons, List.lookup_cons]
      have q : (m == a) = false := beq_eq_false_iff_ne.mpr fun z => h (by rw [z]; exact List.mem_cons_self)
      rw [q]
      exact ih fun z => h (List.mem_cons_of_mem _ z)
theorem de_meth {Cn : Str} {pl : Sem Bool} (ho : DE X Φ W o te me) (c : Cls X.K C) (hC : X.mg Cn = some (.ref C)) (hm : Meth X.K C m f) (F : FnG X.prog X.w X.K X.mg X.base k f fd ps g) (hr : Rm k X) (hb : Binds X.K fd ps dflt) (hd : Vals dvs dflt) (hdd : ∀ G, RpL X.K X.mg G dvs dd) (tk : Takes X W)
    (ha : DA X Φ W (e :: es) ta n) (h1 : starEach (e :: es) X.env = (false, eval e X.env) :: starEach es X.env := by rfl) (h2 : (backTo pos (starEach es X.env)).any (·.1) = false := by rfl)
    (ht : eval (.Call (.Attribute o m apos) (e :: es) [] pos) X.env = (do
      let ov ← eval o X.env
      standAt apos.atName
      let (f, first) ← holding [ov] (getMethod ov m pl)
      callWith pos f first (backTo pos (starEach (e :: es) X.env)) (backToKw pos (keywordEach [] X.env))) := by rfl) :
    DE X Φ W (.Call (.Attribute o m apos) (e :: es) [] pos) (fun σ H Q => te σ H fun x H1 => ∃ a dx fs, x = .ref a ∧ H1 a = some (.ins C dx fs) ∧ fs.lookup m = none ∧ ta σ H1 fun vs H2 => spO X.K X.mg ps.length g (x :: (vs ++ dvs)) H2 Q (WE W σ)) (mMeth Cn m g ps.length dd me n) :=
  ⟨pe_methG ho.pe c hm F hr hb hd tk ha.pa h1 h2 ht, fun σ ρ s G H Q P R hρ f hW h k => ho.sem σ ρ s G H _ _ R hρ f hW h fun d s1 v G1 H1 ⟨ns, fs, ed, hn, h1⟩ e1 f1 r1 => by
    subst ed
    have r1' := r1
    cases r1 with
    | ins mC hG hl rl =>
      rw [hC] at mC
      cases mC
      refine ⟨_, _, _, rfl, Frm.same f1 _ _ hG, zip_none hn, ha.sem σ ρ s1 G1 H1 _ _ R (hρ.mono e1) f1 (hW.mono e1) h1 fun ds s2 vs G2 H2 ⟨hl2, h2⟩ e2 f2 r2 => ?_⟩
      exact spO_of f2 (.cons (r1'.mono e2) (r2.app (hdd G2))) hl2 h2 (fun d s' v G' H' p q => k d s' v G' H' p ((e1.trans e2).trans q)) (hW.mono (e1.trans e2))⟩
def mMeth0 (C : Str) (m : Str) (g : WF) (k : Nat) (dd : List D) (me : ME OH) : ME OH := fun ρ O P R => me ρ O (fun x O1 => ∃ ns fs, x = .ins C ns fs ∧ m ∉ ns ∧ (x :: dd).length = k ∧ g (x :: dd) O1 P R) R
theorem de_meth0 {Cn : Str} {pl : Sem Bool} (ho : DE X Φ W o te me) (c : Cls X.K C) (hC : X.mg Cn = some (.ref C)) (hm : Meth X.K C m f) (F : FnG X.prog X.w X.K X.mg X.base k f fd ps g) (hr : Rm k X) (hb : Binds X.K fd ps dflt) (hd : Vals dvs dflt) (hdd : ∀ G, RpL X.K X.mg G dvs dd) (tk : Takes X W)
    (ht : eval (.Call (.Attribute o m apos) [] [] pos) X.env = (do
      let ov ← eval o X.env
      standAt apos.atName
      let (f, first) ← holding [ov] (getMethod ov m pl)
      callWith pos f first (backTo pos (starEach [] X.env)) (backToKw pos (keywordEach [] X.env))) := by rfl) :
    DE X Φ W (.Call (.Attribute o m apos) [] [] pos) (fun σ H Q => te σ H fun x H1 => ∃ a dx fs, x = .ref a ∧ H1 a = some (.ins C dx fs) ∧ fs.lookup m = none ∧ spO X.K X.mg ps.length g (x :: dvs) H1 Q (WE W σ)) (mMeth0 Cn m g ps.length dd me) :=
  ⟨pe_methG0 ho.pe c hm F hr hb hd tk ht, fun σ ρ s G H Q P R hρ f hW h k => ho.sem σ ρ s G H _ _ R hρ f hW h fun d s1 v G1 H1 ⟨ns, fs, ed, hn, hl2, h1⟩ e1 f1 r1 => by
    subst ed
    have r1' := r1
    cases r1 with
    | ins mC hG hl rl =>
      rw [hC] at mC
      cases mC
      exact ⟨_, _, _, rfl, Frm.same f1 _ _ hG, zip_none hn, spO_of f1 (.cons r1' (hdd G1)) hl2 h1 (fun d s' v G' H' p q => k d s' v G' H' p (e1.trans q)) (hW.mono e1)⟩⟩
/-- C(e, ..): the instance as a tree, behind its __init__ -/
def kMake (P : D → OH → Prop) (x : Addr) : D → OH → Prop := fun d O2 => d = .non ∧ ∃ y, O2 x = some y ∧ P y.tree (O2.del x)
def mMake (C : Str) (g : WF) (k : Nat) (dd : List D) (n : MA OH) : ME OH := fun ρ O P R => n ρ O (fun ds O1 => (ds ++ dd).length + 1 = k ∧ ∀ x, O1 x = none → g (.loc x :: (ds ++ dd)) (O1.put x (.ins C [] [])) (kMake P x) R) R
theorem make_sem {Cn : Str} (hC : X.mg Cn = some (.ref C)) {O : OH} {G H : Hp} {vs : List V} {ds : List D} {Q : VK} {P : D → OH → Prop} {R : Exn → OH → Prop} {E : XK} (f : Φ O G H) (r : RpL X.K X.mg G vs ds) (l : ds.length + 1 = ps.length)
    (h : ∀ x, O x = none → g (.loc x :: ds) (O.put x (.ins Cn [] [])) (kMake P x) R)
    (k : ∀ (d : D) (s' : OH) (v : V) (G' H' : Hp), P d s' → Same G G' → Φ s' G' H' → Rp X.K X.mg G' v d → Q v H') (hE : ∀ (x : Exn) (s : OH) (G' H' : Hp) (cls : Value) (d : Option Addr), Same G G' → Φ s G' H' → ExR X.K X.mg G' cls d x → R x s → E cls d H') :
    ∀ x dx, H x = none → H dx = none → dx ≠ x → spO X.K X.mg ps.length g (.ref x :: vs) (upd (upd H dx (.own x)) x (.ins C dx [])) (fun v H2 => v = .non ∧ Q (.ref x) H2) E := fun x dx nx nd ne => by
  have gx : O x = none := by
    cases z : O x with
    | none => rfl
    | some y =>
      obtain ⟨_, o, q, _⟩ := FΦ.own f z
      rw [nx] at q
      cases q
  have s1 := same_new (o := HO.own x) ((Frm.same f).free nd)
  have f1 : Φ O (upd G dx (.own x)) (upd H dx (.own x)) := Frm.ext f nd
  have nx1 : upd H dx (.own x) x = none := by rw [upd_ne ne.symm]; exact nx
  have f2 := FΦ.new (o := .ins C dx []) f1 nx1 (.ins (vs := []) (ns := []) hC rfl .nil)
  refine spO_of f2 (.cons (.loc x) (r.mono s1)) (by rw [List.length_cons]; exact l) (h x gx) (fun d s' v G' H' ⟨ed, y, oy, p⟩ e2 f3 r3 => ?_) fun z s' G' H' cls d e2 f3 => hE z s' G' H' cls d (s1.trans e2) f3
  subst ed
  cases r3
  obtain ⟨G4, e4, f4, r4⟩ := FΦ.frz f3 oy
  exact ⟨rfl, k _ _ _ G4 H' p ((s1.trans e2).trans e4) f4 r4⟩
theorem de_make (M : Mk X.K C f) (hC : X.mg x = some (.ref C)) (F : FnG X.prog X.w X.K X.mg X.base k f fd ps g) (hr : Rm (k + 1) X) (hg : Gl X x) (hb : Binds X.K fd ps dflt) (hd : Vals dvs dflt) (hdd : ∀ G, RpL X.K X.mg G dvs dd) (tk : Takes X W)
    (ha : DA X Φ W (e :: es) ta n) (hdb : (x == ("__debug__" : Str)) = false := by decide) (he : starEach (e :: es) X.env = (false, eval e X.env) :: starEach es X.env := by rfl) (hpl : (backTo pos (starEach es X.env)).any (·.1) = false := by rfl) :
    DE X Φ W (.Call (.Name x p) (e :: es) [] pos) (fun σ H Q => ta σ H fun vs H1 => ∀ x dx, H1 x = none → H1 dx = none → dx ≠ x → spO X.K X.mg ps.length g (.ref x :: (vs ++ dvs)) (upd (upd H1 dx (.own x)) x (.ins C dx [])) (fun v H2 => v = .non ∧ Q (.ref x) H2) (WE W σ)) (mMake x g ps.length dd n) :=
  ⟨pe_makeG M F hr hg hC hb hd tk ha.pa hdb he hpl, fun σ ρ s G H Q P R hρ f hW h k => ha.sem σ ρ s G H _ _ R hρ f hW h fun ds s1 vs G1 H1 ⟨hl, h1⟩ e1 f1 r1 =>
    make_sem hC f1 (r1.app (hdd G1)) hl h1 (fun d s' v G' H' p q => k d s' v G' H' p (e1.trans q)) (hW.mono e1)⟩
end

/-! ### fields -/
def lookD (f : Str) : List Str → List D → Option D
  | n :: ns, d :: ds => if f = n then some d else lookD f ns ds
  | _, _ => none
theorem lookD_rp {K : PySem.W.Frag} {mg : Str → Option Value} {G : Hp} {f : Str} {d : D} : ∀ {ns : List Str} {vs : List V} {ds : List D}, RpL K mg G vs ds → lookD f ns ds = some d → ∃ v, (ns.zip vs).lookup f = some v ∧ Rp K mg G v d
  | [], _, _, _, h => by simp [lookD] at h
  | n :: ns, _, _, .nil, h => by simp [lookD] at h
  | n :: ns, _, _, .cons (v := v) r rl, h => by
    rw [List.zip_cons_cons, List.lookup_cons]
    unfold lookD at h
    by_cases q : f = n
    · rw [if_pos q] at h
      cases h
      have e : (f == n) = true := beq_iff_eq.mpr q
      rw [e]
      exact ⟨v, rfl, r⟩
    · rw [if_neg q] at h
      have e : (f == n) = false := beq_eq_false_iff_ne.mpr q
      rw [e]
      exact lookD_rp rl h
def mFld (C f : Str) (m : ME OH) : ME OH := fun ρ O P R => m ρ O (fun x O1 => ∃ ns ds d, x = .ins C ns ds ∧ lookD f ns ds = some d ∧ P d O1) R
/-- .. of an object of one's own -/
def mFldO (C f : Str) (m : ME OH) : ME OH := fun ρ O P R => m ρ O (fun x O1 => ∃ a ns ds d, x = .loc a ∧ O1 a = some (.ins C ns ds) ∧ lookD f ns ds = some d ∧ P d O1) R
section
variable {C : Addr} {Cn f : Str} {e : Expr} {te : TE} {m : ME OH} {pos : Pos}
theorem de_fld (c : Cls X.K C) (hC : X.mg Cn = some (.ref C)) (n : NoAttr X.K C f) (h : DE X Φ W e te m) (hb : attributeBase e f X.env (eval e X.env) = eval e X.env := by rfl) : DE X Φ W (.Attribute e f pos) (tFld X.K te f) (mFld Cn f m) :=
  ⟨pe_fld h.pe hb, fun σ ρ s G H Q P R hρ f0 hW hm k => h.sem σ ρ s G H _ _ R hρ f0 hW hm fun x s1 v G1 H1 ⟨ns, ds, d, ex, l, p⟩ e1 f1 r1 => by
    subst ex
    cases r1 with
    | ins mC hG hl rl =>
      rw [hC] at mC
      cases mC
      obtain ⟨u, hu, ru⟩ := lookD_rp rl l
      exact ⟨_, C, _, _, u, rfl, Frm.same f1 _ _ hG, c, n, hu, k d s1 u G1 H1 p e1 f1 ru⟩⟩
theorem de_fldO (c : Cls X.K C) (hC : X.mg Cn = some (.ref C)) (n : NoAttr X.K C f) (h : DE X Φ W e te m) (hb : attributeBase e f X.env (eval e X.env) = eval e X.env := by rfl) : DE X Φ W (.Attribute e f pos) (tFld X.K te f) (mFldO Cn f m) :=
  ⟨pe_fld h.pe hb, fun σ ρ s G H Q P R hρ f0 hW hm k => h.sem σ ρ s G H _ _ R hρ f0 hW hm fun x s1 v G1 H1 ⟨a, ns, ds, d, ex, oa, l, p⟩ e1 f1 r1 => by
    subst ex
    cases r1
    obtain ⟨_, o, ho, ro⟩ := FΦ.own f1 oa
    cases ro with
    | ins mC hl rl =>
      rw [hC] at mC
      cases mC
      obtain ⟨u, hu, ru⟩ := lookD_rp rl l
      exact ⟨_, C, _, _, u, rfl, ho, c, n, hu, k d s1 u G1 H1 p e1 f1 ru⟩⟩
/-- e.f = value, of an object of one's own -/
def putN (f : Str) : List Str → List Str
  | [] => [f]
  | n :: ns => if n = f then n :: ns else n :: putN f ns
def putD (f : Str) (y : D) : List Str → List D → List D
  | [], _ => [y]
  | n :: ns, d :: ds => if n = f then y :: ds else d :: putD f y ns ds
  | _ :: _, [] => []
theorem put_zip {K : PySem.W.Frag} {mg : Str → Option Value} {G : Hp} {f : Str} {v : V} {y : D} (r : Rp K mg G v y) : ∀ {ns : List Str} {vs : List V} {ds : List D}, ns.length = vs.length → RpL K mg G vs ds →
    ∃ us, putF f v (ns.zip vs) = (putN f ns).zip us ∧ (putN f ns).length = us.length ∧ RpL K mg G us (putD f y ns ds)
  | [], [], _, _, .nil => ⟨[v], rfl, rfl, .cons r .nil⟩
  | n :: ns, u :: vs, _, hl, .cons (d := d) a b => by
    unfold putN putD
    rw [List.zip_cons_cons]
    unfold putF
    by_cases q : n = f
    · rw [if_pos q, if_pos q, if_pos q]
      exact ⟨v :: vs, rfl, by simpa using hl, .cons r b⟩
    · rw [if_neg q, if_neg q, if_neg q]
      obtain ⟨us, h1, h2, h3⟩ := put_zip r (ns := ns) (by simpa using hl) b
      exact ⟨u :: us, by rw [h1]; rfl, by simpa using h2, .cons a h3⟩
def sFldD (C f : Str) (mo mv : ME OH) : MS OH := fun M ρ O => mv ρ O (fun y O1 => mo ρ O1 (fun x O2 => ∃ a ns ds, x = .loc a ∧ O2 a = some (.ins C ns ds) ∧ ns.length < 1000 ∧ M.nx ρ (O2.put a (.ins C (putN f ns) (putD f y ns ds)))) (fun x O2 => M.ex x ρ O2)) (fun x O1 => M.ex x ρ O1)
theorem ds_fld {o value : Expr} {pos' : Pos} {to tv : TE} {mo mv : ME OH} (c : Cls X.K C) (hC : X.mg Cn = some (.ref C)) (n : NoAttr X.K C f) (ho : DE X Φ W o to mo) (hv : DE X Φ W value tv mv) (hs : swapsWith value (some (.Attribute o f pos')) pos.line X.env = pure false := by rfl) :
    DS X Φ W (.Assign [.Attribute o f pos'] value pos) (sFld X.K to tv f) (sFldD Cn f mo mv) :=
  ⟨ps_fld ho.pe hv.pe hs, fun σ ρ s G H D M hρ f0 hm E => hv.sem σ ρ s G H _ _ _ hρ f0 (E.wsh hρ) hm fun y s1 v G1 H1 h1 e1 f1 r1 =>
    ho.sem σ ρ s1 G1 H1 _ _ _ (hρ.mono e1) f1 ((E.mono e1).wsh (hρ.mono e1)) h1 fun x s2 u G2 H2 ⟨a, ns, ds, ex, oa, hl, p⟩ e2 f2 r2 => by
      subst ex
      cases r2
      obtain ⟨_, ob, hob, ro⟩ := FΦ.own f2 oa
      cases ro with
      | ins mC hl2 rl =>
        rw [hC] at mC
        cases mC
        rename_i dx vs
        obtain ⟨us, q1, q2, q3⟩ := put_zip (f := f) (r1.mono e2) hl2 rl
        refine ⟨a, C, dx, _, rfl, hob, c, n, by rw [List.length_zip]; omega, ?_⟩
        rw [q1]
        exact E.nx σ ρ _ G2 _ p (e1.trans e2) ((hρ.mono e1).mono e2) (FΦ.put f2 oa (.ins hC q2 q3))⟩
end
end
end DL

set_option Elab.async false
set_option linter.all false
set_option maxRecDepth 100000
set_option maxHeartbeats 1000000
namespace DL
open PySem PySem.Spec PyProof.Rows L2

section
variable {K : PySem.W.Frag} {mg : Str → Option Value} {G H : Hp}
theorem rp_cut {lo hi : Option Int} {vs : List V} {ds : List D} (r : RpL K mg G vs ds) : RpL K mg G (cutV vs lo hi) ((ds.drop (HT.sIx ds.length 0 lo)).take (HT.sIx ds.length ds.length hi - HT.sIx ds.length 0 lo)) := by
  unfold cutV
  rw [r.len]
  exact (r.dr _).tk _
theorem rp_at {i : Int} {vs : List V} {ds : List D} {d : D} (r : RpL K mg G vs ds) (h : atI ds i = some d) : ∃ v, atI vs i = some v ∧ Rp K mg G v d := by
  unfold atI at h ⊢
  rw [r.len]
  cases e : ixN ds.length i with
  | none =>
    rw [e] at h
    cases h
  | some j =>
    rw [e] at h
    obtain ⟨v, a, b⟩ := r.at (i := j) h
    exact ⟨v, a, b⟩
end

section
variable {X : Cx}
/-! ### a + b -/
def wAdd : W2 := fun a b P => match a, b with
  | .int i, .int j => P (.int (i + j))
  | .str x, .str y => x.length + y.length ≤ sizeLine ∧ P (.str (x ++ y))
  | .lst x, .lst y => x.length + y.length ≤ sizeLine ∧ P (.lst (x ++ y))
  | .tup x, .tup y => x.length + y.length ≤ sizeLine ∧ P (.tup (x ++ y))
  | _, _ => False
theorem o_add : Op2 X (binaryOp .Add) (fun x y H Q => (∃ i j, x = .int i ∧ y = .int j ∧ Q (.int (i + j)) H) ∨ (∃ i j, x = .str i ∧ y = .str j ∧ i.length + j.length ≤ sizeLine ∧ Q (.str (i ++ j)) H) ∨ rCat x y H Q ∨ rCatA X.K x y H Q) wAdd := by
  refine ⟨op_add.or (op_add_str.or (op_cat.or op_catA)), fun x y a b G H Q P ra rb sm h k => ?_⟩
  cases a with
  | int i =>
    cases b with
    | int j =>
      cases ra
      cases rb
      exact .inl ⟨i, j, rfl, rfl, k _ _ G H h .refl (.int _)⟩
    | _ => exact h.elim
  | str i =>
    cases b with
    | str j =>
      cases ra
      cases rb
      exact .inr (.inl ⟨i, j, rfl, rfl, h.1, k _ _ G H h.2 .refl (.str _)⟩)
    | _ => exact h.elim
  | lst i =>
    cases b with
    | lst j =>
      cases ra with
      | lst ha la =>
        cases rb with
        | lst hb lb =>
          refine .inr (.inr (.inl ⟨_, _, _, _, rfl, rfl, sm _ _ ha, sm _ _ hb, by rw [la.len, lb.len]; exact h.1, fun p np => ?_⟩))
          exact k _ _ _ _ h.2 (.one np) (.lst upd_same ((la.app lb).mono (same_new (sm.free np))))
    | _ => exact h.elim
  | tup i =>
    cases b with
    | tup j =>
      have ra' := ra
      have rb' := rb
      cases ra with
      | tup ha la =>
        cases rb with
        | tup hb lb =>
          have l1 := la.len
          have l2 := lb.len
          refine .inr (.inr (.inr ⟨_, _, _, _, rfl, rfl, sqt_mono sm ha, sqt_mono sm hb, by rw [l1, l2]; exact h.1, fun e => ?_, fun _ e => ?_, fun _ _ p np => ?_⟩))
          · subst e
            cases la
            exact k _ _ G H h.2 .refl rb'
          · subst e
            cases lb
            refine k _ _ G H h.2 .refl ?_
            rw [List.append_nil]
            exact ra'
          · exact k _ _ _ _ h.2 (.one np) (.tup (SqT.of upd_same) ((la.app lb).mono (same_new (sm.free np))))
    | _ => exact h.elim
  | _ => exact h.elim
/-! ### ints -/
def wI (C : Int → Int → Prop) (g : Int → Int → D) : W2 := fun a b P => match a, b with
  | .int i, .int j => C i j ∧ P (g i j)
  | _, _ => False
theorem wI_sem {C : Int → Int → Prop} {gv : Int → Int → V} {g : Int → Int → D} (hg : ∀ G i j, Rp X.K X.mg G (gv i j) (g i j)) {f : Value → Value → Sem Value} (o : OpR X f (rI C gv)) : Op2 X f (rI C gv) (wI C g) := by
  refine ⟨o, fun x y a b G H Q P ra rb sm h k => ?_⟩
  cases a with
  | int i =>
    cases b with
    | int j =>
      cases ra
      cases rb
      exact ⟨i, j, rfl, rfl, h.1, k _ _ G H h.2 .refl (hg G i j)⟩
    | _ => exact h.elim
  | _ => exact h.elim
def wI0 (g : Int → Int → D) : W2 := fun a b P => match a, b with
  | .int i, .int j => P (g i j)
  | _, _ => False
theorem wI0_sem {gv : Int → Int → V} {g : Int → Int → D} (hg : ∀ G i j, Rp X.K X.mg G (gv i j) (g i j)) {f : Value → Value → Sem Value} (o : OpR X f (rI0 gv)) : Op2 X f (rI0 gv) (wI0 g) := by
  refine ⟨o, fun x y a b G H Q P ra rb sm h k => ?_⟩
  cases a with
  | int i =>
    cases b with
    | int j =>
      cases ra
      cases rb
      exact ⟨i, j, rfl, rfl, k _ _ G H h .refl (hg G i j)⟩
    | _ => exact h.elim
  | _ => exact h.elim
def wSub : W2 := wI0 fun i j => .int (i - j)
theorem o_sub : Op2 X (binaryOp .Sub) (rI0 fun i j => .int (i - j)) wSub := wI0_sem (fun G i j => .int _) op_sub
def wMod : W2 := wI (fun _ j => 0 < j) fun i j => .int (i % j)
theorem o_mod : Op2 X (binaryOp .Mod) (rI (fun _ j => 0 < j) fun i j => .int (i % j)) wMod := wI_sem (fun G i j => .int _) op_mod
def wDiv : W2 := wI CDivW fun i j => .int (i / j)
theorem o_div : Op2 X (binaryOp .FloorDiv) (rI CDivW fun i j => .int (i / j)) wDiv := wI_sem (fun G i j => .int _) op_fdivW
def wLt : W2 := wI0 fun i j => .bl (decide (i < j))
def wLe : W2 := wI0 fun i j => .bl (decide (i ≤ j))
def wGt : W2 := wI0 fun i j => .bl (decide (j < i))
def wGe : W2 := wI0 fun i j => .bl (decide (j ≤ i))
theorem o_lt : Op2 X (compareOp .Lt) (rI0 fun i j => .bl (decide (i < j))) wLt := wI0_sem (fun G i j => .bl _) op_lt
theorem o_le : Op2 X (compareOp .LtE) (rI0 fun i j => .bl (decide (i ≤ j))) wLe := wI0_sem (fun G i j => .bl _) op_le
theorem o_gt : Op2 X (compareOp .Gt) (rI0 fun i j => .bl (decide (j < i))) wGt := wI0_sem (fun G i j => .bl _) op_gt
theorem o_ge : Op2 X (compareOp .GtE) (rI0 fun i j => .bl (decide (j ≤ i))) wGe := wI0_sem (fun G i j => .bl _) op_ge
/-! ### a * b -/
def wMul : W2 := fun a b P => match a, b with
  | .int i, .int j => (CMul i j ∨ CMulW i j) ∧ P (.int (i * j))
  | .lst x, .int k => (-(2 ^ 63) ≤ k ∧ k < 2 ^ 63 ∧ x.length * k.toNat ≤ sizeLine) ∧ P (.lst (List.replicate k.toNat x).flatten)
  | .tup x, .int k => (x ≠ [] ∧ 2 ≤ k ∧ k ≤ 1000 ∧ x.length ≤ 1000) ∧ P (.tup (List.replicate k.toNat x).flatten)
  | _, _ => False
theorem o_mul : Op2 X (binaryOp .Mult) (fun x y H Q => rI CMul (fun i j => .int (i * j)) x y H Q ∨ rI CMulW (fun i j => .int (i * j)) x y H Q ∨ rRep x y H Q ∨ rRepT X.K x y H Q) wMul := by
  refine ⟨op_mul.or (op_mulW.or (op_rep.or op_repT)), fun x y a b G H Q P ra rb sm h k => ?_⟩
  cases a with
  | int i =>
    cases b with
    | int j =>
      cases ra
      cases rb
      rcases h.1 with c | c
      · exact .inl ⟨i, j, rfl, rfl, c, k _ _ G H h.2 .refl (.int _)⟩
      · exact .inr (.inl ⟨i, j, rfl, rfl, c, k _ _ G H h.2 .refl (.int _)⟩)
    | _ => exact h.elim
  | lst i =>
    cases b with
    | int j =>
      cases rb
      cases ra with
      | lst ha la =>
        refine .inr (.inr (.inl ⟨_, _, _, rfl, rfl, sm _ _ ha, h.1.1, h.1.2.1, by rw [la.len]; exact h.1.2.2, fun p np => ?_⟩))
        exact k _ _ _ _ h.2 (.one np) (.lst upd_same ((la.flat _).mono (same_new (sm.free np))))
    | _ => exact h.elim
  | tup i =>
    cases b with
    | int j =>
      cases rb
      cases ra with
      | tup ha la =>
        have l1 := la.len
        refine .inr (.inr (.inr ⟨_, _, _, rfl, rfl, sqt_mono sm ha, fun e => h.1.1 (by subst e; cases la; rfl), h.1.2.1, h.1.2.2.1, by rw [l1]; exact h.1.2.2.2, fun p np => ?_⟩))
        exact k _ _ _ _ h.2 (.one np) (.tup (SqT.of upd_same) ((la.flat _).mono (same_new (sm.free np))))
    | _ => exact h.elim
  | _ => exact h.elim
/-! ### == over trees without instances -/
mutual
def toPy : D → Option PyData
  | .non => some .none
  | .bl b => some (.bool b)
  | .int i => some (.int i)
  | .str x => some (.str x)
  | .lst ds => (toPyL ds).map .list
  | .tup ds => (toPyL ds).map .tuple
  | _ => none
def toPyL : List D → Option (List PyData)
  | [] => some []
  | d :: ds => match toPy d, toPyL ds with
    | some p, some ps => some (p :: ps)
    | _, _ => none
end
mutual
theorem rp_dp {K : PySem.W.Frag} {mg : Str → Option Value} {G H : Hp} (sm : Same G H) : ∀ {v : V} {d : D} {p : PyData}, Rp K mg G v d → toPy d = some p → Dp K H v p
  | _, _, _, .non, h => by
    simp only [toPy] at h
    cases h
    exact .non
  | _, _, _, .bl b, h => by
    simp only [toPy] at h
    cases h
    exact .bl b
  | _, _, _, .int b, h => by
    simp only [toPy] at h
    cases h
    exact .int b
  | _, _, _, .str b, h => by
    simp only [toPy] at h
    cases h
    exact .str b
  | _, _, _, .lst q r, h => by
    simp only [toPy, Option.map_eq_some_iff] at h
    obtain ⟨ps, h, rfl⟩ := h
    exact .lst (SqL.of (sm _ _ q)) (rpl_dp sm r h)
  | _, _, _, .tup q r, h => by
    simp only [toPy, Option.map_eq_some_iff] at h
    obtain ⟨ps, h, rfl⟩ := h
    exact .tup (sqt_mono sm q) (rpl_dp sm r h)
  | _, _, _, .dic _ _ _, h => by simp [toPy] at h
  | _, _, _, .ins _ _ _ _, h => by simp [toPy] at h
  | _, _, _, .frz _ _, h => by simp [toPy] at h
  | _, _, _, .loc _, h => by simp [toPy] at h
  | _, _, _, .cls _, h => by simp [toPy] at h
  | _, _, _, .ty _, h => by simp [toPy] at h
theorem rpl_dp {K : PySem.W.Frag} {mg : Str → Option Value} {G H : Hp} (sm : Same G H) : ∀ {vs : List V} {ds : List D} {ps : List PyData}, RpL K mg G vs ds → toPyL ds = some ps → DpAll K H vs ps
  | _, _, _, .nil, h => by
    simp only [toPyL] at h
    cases h
    exact .nil
  | _, _, _, .cons (d := d) (ds := ds) a b, h => by
    simp only [toPyL] at h
    cases e1 : toPy d with
    | none => simp [e1] at h
    | some p =>
      cases e2 : toPyL ds with
      | none => simp [e1, e2] at h
      | some ps =>
        simp [e1, e2] at h
        subst h
        exact .cons (rp_dp sm a e1) (rpl_dp sm b e2)
end
def wEq : W2 := fun a b P => ∃ p q, toPy a = some p ∧ toPy b = some q ∧ SeqAt.shaped p = true ∧ SeqAt.shaped q = true ∧ P (.bl (PyData.eqv p q))
def wNe : W2 := fun a b P => ∃ p q, toPy a = some p ∧ toPy b = some q ∧ SeqAt.shaped p = true ∧ SeqAt.shaped q = true ∧ P (.bl (!PyData.eqv p q))
theorem o_eq (hu : X.A.units + 64 < cLine) : Op2 X (compareOp .Eq) (rEqD X.K) wEq := by
  refine ⟨op_eqD hu, fun x y a b G H Q P ra rb sm ⟨p, q, h1, h2, h3, h4, h⟩ k => ?_⟩
  exact ⟨p, q, rp_dp sm ra h1, rp_dp sm rb h2, h3, h4, k _ _ G H h .refl (.bl _)⟩
theorem o_ne (hu : X.A.units + 64 < cLine) : Op2 X (compareOp .NotEq) (rNeD X.K) wNe := by
  refine ⟨op_neD hu, fun x y a b G H Q P ra rb sm ⟨p, q, h1, h2, h3, h4, h⟩ k => ?_⟩
  exact ⟨p, q, rp_dp sm ra h1, rp_dp sm rb h2, h3, h4, k _ _ G H h .refl (.bl _)⟩
/-! ### is None -/
def isNon : D → Bool
  | .non => true
  | _ => false
theorem rp_isNon {K : PySem.W.Frag} {mg : Str → Option Value} {G : Hp} {v : V} {d : D} (r : Rp K mg G v d) : decide (v = .non) = isNon d := by
  cases r <;> first | rfl | exact decide_eq_false (fun z => nomatch z)
def wIsN : W2 := fun a b P => b = .non ∧ P (.bl (isNon a))
def wNotN : W2 := fun a b P => b = .non ∧ P (.bl (!isNon a))
theorem o_isN : Op2 X (compareOp .Is) (fun x y H Q => y = .non ∧ Q (.bl (decide (x = .non))) H) wIsN := by
  refine ⟨op_isN, fun x y a b G H Q P ra rb sm ⟨e, h⟩ k => ?_⟩
  subst e
  cases rb
  exact ⟨rfl, by rw [rp_isNon ra]; exact k _ _ G H h .refl (.bl _)⟩
theorem o_notN : Op2 X (compareOp .IsNot) (fun x y H Q => y = .non ∧ Q (.bl (!decide (x = .non))) H) wNotN := by
  refine ⟨op_notN, fun x y a b G H Q P ra rb sm ⟨e, h⟩ k => ?_⟩
  subst e
  cases rb
  exact ⟨rfl, by rw [rp_isNon ra]; exact k _ _ G H h .refl (.bl _)⟩
end
end DL

set_option Elab.async false
set_option linter.all false
set_option maxRecDepth 100000
set_option maxHeartbeats 1000000
namespace DL
open PySem PySem.Spec PyProof.Rows L2

section
variable {X : Cx}
/-! ### built-ins -/
def wLen : WL := fun ds P => ∃ d, ds = [d] ∧ match d with
  | .lst x => P (.int x.length)
  | .tup x => P (.int x.length)
  | .frz x => P (.int x.length)
  | .str x => x.length ≤ sizeLine ∧ P (.int x.length)
  | _ => False
theorem f_len : Fn1 X (.builtin "len") (fun xs H Q => ∃ x n, xs = [x] ∧ LenV X.K x H n ∧ Q (.int n) H) wLen := by
  refine ⟨call_len, fun vs ds G H Q P r sm ⟨d, ed, h⟩ k => ?_⟩
  subst ed
  obtain ⟨v, rfl, r1⟩ := rpl1 r
  cases r1 with
  | lst a b => exact ⟨_, _, rfl, .inl ⟨_, SqL.of (sm _ _ a), b.len.symm⟩, k _ _ G H h .refl (.int _)⟩
  | tup a b => exact ⟨_, _, rfl, .inr ⟨_, sqt_mono sm a, b.len.symm⟩, k _ _ G H h .refl (.int _)⟩
  | frz a b => exact ⟨_, _, rfl, .inl ⟨_, sql_mono sm a.sql, b.len.symm⟩, k _ _ G H h .refl (.int _)⟩
  | str x => exact ⟨_, _, rfl, ⟨h.1, rfl⟩, k _ _ G H h.2 .refl (.int _)⟩
  | _ => exact h.elim
def wTuple : WL := fun ds P => (∃ x, ds = [.lst x] ∧ P (.tup x)) ∨ (∃ x, ds = [.tup x] ∧ P (.tup x))
theorem f_tuple : Fn1 X (.type "tuple") (fun xs H Q => ∃ p ys, xs = [.ref p] ∧ ((SqL X.K H p ys ∧ ∀ l, H l = none → Q (.ref l) (upd H l (.tup ys))) ∨ (SqT X.K H p ys ∧ Q (.ref p) H))) wTuple := by
  refine ⟨call_tuple_of, fun vs ds G H Q P r sm h k => ?_⟩
  rcases h with ⟨x, ed, h⟩ | ⟨x, ed, h⟩
  · subst ed
    obtain ⟨v, rfl, r1⟩ := rpl1 r
    cases r1 with
    | lst a b => exact ⟨_, _, rfl, .inl ⟨SqL.of (sm _ _ a), fun l nl => k _ _ _ _ h (.one nl) (.tup (SqT.of upd_same) (b.mono (same_new (sm.free nl))))⟩⟩
  · subst ed
    obtain ⟨v, rfl, r1⟩ := rpl1 r
    have r' := r1
    cases r1 with
    | tup a b => exact ⟨_, _, rfl, .inr ⟨sqt_mono sm a, k _ _ G H h .refl r'⟩⟩
def wList : WL := fun ds P => (∃ x, ds = [.lst x] ∧ P (.lst x)) ∨ (∃ x, ds = [.tup x] ∧ P (.lst x))
theorem f_list : Fn1 X (.type "list") (fun xs H Q => ∃ p ys, xs = [.ref p] ∧ (SqL X.K H p ys ∨ SqT X.K H p ys) ∧ ∀ l, H l = none → Q (.ref l) (upd H l (.lst ys))) wList := by
  refine ⟨call_list_of, fun vs ds G H Q P r sm h k => ?_⟩
  rcases h with ⟨x, ed, h⟩ | ⟨x, ed, h⟩
  · subst ed
    obtain ⟨v, rfl, r1⟩ := rpl1 r
    cases r1 with
    | lst a b => exact ⟨_, _, rfl, .inl (SqL.of (sm _ _ a)), fun l nl => k _ _ _ _ h (.one nl) (.lst upd_same (b.mono (same_new (sm.free nl))))⟩
  · subst ed
    obtain ⟨v, rfl, r1⟩ := rpl1 r
    cases r1 with
    | tup a b => exact ⟨_, _, rfl, .inr (sqt_mono sm a), fun l nl => k _ _ _ _ h (.one nl) (.lst upd_same (b.mono (same_new (sm.free nl))))⟩
def wAbs : WL := fun ds P => ∃ i, ds = [.int i] ∧ P (.int (if i < 0 then -i else i))
theorem f_abs : Fn1 X (.builtin "abs") (fun xs H Q => ∃ i, xs = [.int i] ∧ Q (.int (if i < 0 then -i else i)) H) wAbs := by
  refine ⟨call_abs, fun vs ds G H Q P r sm ⟨i, ed, h⟩ k => ?_⟩
  subst ed
  obtain ⟨v, rfl, r1⟩ := rpl1 r
  cases r1
  exact ⟨i, rfl, k _ _ G H h .refl (.int _)⟩
def wInt : WL := fun ds P => (∃ i, ds = [.int i] ∧ P (.int i)) ∨ ∃ b, ds = [.bl b] ∧ P (.int (if b then 1 else 0))
theorem f_int : Fn1 X (.type "int") (fun xs H Q => (∃ i, xs = [.int i] ∧ Q (.int i) H) ∨ ∃ k, xs = [.bl k] ∧ Q (.int (if k then 1 else 0)) H) wInt := by
  refine ⟨call_int1, fun vs ds G H Q P r sm h k => ?_⟩
  rcases h with ⟨i, ed, h⟩ | ⟨i, ed, h⟩
  · subst ed
    obtain ⟨v, rfl, r1⟩ := rpl1 r
    cases r1
    exact .inl ⟨i, rfl, k _ _ G H h .refl (.int _)⟩
  · subst ed
    obtain ⟨v, rfl, r1⟩ := rpl1 r
    cases r1
    exact .inr ⟨i, rfl, k _ _ G H h .refl (.int _)⟩
def wMax : WL := fun ds P => ∃ i j : Int, ds = [.int i, .int j] ∧ P (.int (if j > i then j else i))
def wMin : WL := fun ds P => ∃ i j : Int, ds = [.int i, .int j] ∧ P (.int (if j < i then j else i))
theorem f_max (hc : X.calm = true) : Fn1 X (.builtin "max") (fun xs H Q => ∃ i j, xs = [.int i, .int j] ∧ Q (.int (if j > i then j else i)) H) wMax := by
  refine ⟨call_max2 hc, fun vs ds G H Q P r sm ⟨i, j, ed, h⟩ k => ?_⟩
  subst ed
  obtain ⟨v, u, rfl, r1, q⟩ := rpl2 r
  cases r1
  cases q
  exact ⟨i, j, rfl, k _ _ G H h .refl (.int _)⟩
theorem f_min (hc : X.calm = true) : Fn1 X (.builtin "min") (fun xs H Q => ∃ i j, xs = [.int i, .int j] ∧ Q (.int (if j < i then j else i)) H) wMin := by
  refine ⟨call_min2 hc, fun vs ds G H Q P r sm ⟨i, j, ed, h⟩ k => ?_⟩
  subst ed
  obtain ⟨v, u, rfl, r1, q⟩ := rpl2 r
  cases r1
  cases q
  exact ⟨i, j, rfl, k _ _ G H h .refl (.int _)⟩
theorem rpl_bls {K : PySem.W.Frag} {mg : Str → Option Value} {G : Hp} : ∀ {bs : List Bool} {vs : List V}, RpL K mg G vs (bs.map D.bl) → vs = bs.map V.bl
  | [], _, .nil => rfl
  | b :: bs, _, .cons a r => by
    cases a
    rw [rpl_bls r]
    rfl
theorem rpl_ints {K : PySem.W.Frag} {mg : Str → Option Value} {G : Hp} : ∀ {bs : List Int} {vs : List V}, RpL K mg G vs (bs.map D.int) → vs = bs.map V.int
  | [], _, .nil => rfl
  | b :: bs, _, .cons a r => by
    cases a
    rw [rpl_ints r]
    rfl
def wAll : WL := fun ds P => ∃ bs : List Bool, ds = [.lst (bs.map D.bl)] ∧ P (.bl (bs.all id))
def wAny : WL := fun ds P => ∃ bs : List Bool, ds = [.lst (bs.map D.bl)] ∧ P (.bl (bs.any id))
def wSum : WL := fun ds P => ∃ ns : List Int, (ds = [.lst (ns.map D.int)] ∨ ds = [.frz (ns.map D.int)]) ∧ P (.int ns.sum)
theorem f_all (hc : X.calm = true) : Fn1 X (.builtin "all") (rAll X.K) wAll := by
  refine ⟨cr_all hc, fun vs ds G H Q P r sm ⟨bs, ed, h⟩ k => ?_⟩
  subst ed
  obtain ⟨v, rfl, r1⟩ := rpl1 r
  cases r1 with
  | lst a b =>
    cases rpl_bls b
    exact ⟨_, bs, rfl, SqL.of (sm _ _ a), k _ _ G H h .refl (.bl _)⟩
theorem f_any (hc : X.calm = true) : Fn1 X (.builtin "any") (rAny X.K) wAny := by
  refine ⟨cr_any hc, fun vs ds G H Q P r sm ⟨bs, ed, h⟩ k => ?_⟩
  subst ed
  obtain ⟨v, rfl, r1⟩ := rpl1 r
  cases r1 with
  | lst a b =>
    cases rpl_bls b
    exact ⟨_, bs, rfl, SqL.of (sm _ _ a), k _ _ G H h .refl (.bl _)⟩
theorem f_sum (hc : X.calm = true) : Fn1 X (.builtin "sum") (rSum X.K) wSum := by
  refine ⟨cr_sum hc, fun vs ds G H Q P r sm ⟨bs, ed, h⟩ k => ?_⟩
  rcases ed with ed | ed
  · subst ed
    obtain ⟨v, rfl, r1⟩ := rpl1 r
    cases r1 with
    | lst a b =>
      cases rpl_ints b
      exact ⟨_, bs, rfl, SqL.of (sm _ _ a), k _ _ G H h .refl (.int _)⟩
  · subst ed
    obtain ⟨v, rfl, r1⟩ := rpl1 r
    cases r1 with
    | frz a b =>
      cases rpl_ints b
      exact ⟨_, bs, rfl, sql_mono sm a.sql, k _ _ G H h .refl (.int _)⟩
/-! ### isinstance -/
def tyD : D → Option String
  | .non => some "NoneType"
  | .bl _ => some "bool"
  | .int _ => some "int"
  | .str _ => some "str"
  | .lst _ => some "list"
  | .tup _ => some "tuple"
  | .dic _ _ => some "dict"
  | .frz _ => some "list"
  | _ => none
theorem rp_tyX {K : PySem.W.Frag} {mg : Str → Option Value} {G H : Hp} (sm : Same G H) {v : V} {d : D} {n : String} (r : Rp K mg G v d) (h : tyD d = some n) : TyX K H v (.type n) := by
  cases r with
  | non => cases h; exact .base .non
  | bl b => cases h; exact .base (.bl b)
  | int b => cases h; exact .base (.int b)
  | str b => cases h; exact .base (.str b)
  | lst a b => cases h; exact .base (.lst (sm _ _ a))
  | tup a b =>
    cases h
    rcases sqt_mono sm a with (q | ⟨o, q⟩) | ⟨o, its, n, hk, hc, _⟩
    · exact .base (.tup q)
    · exact .fTuple q
    · exact .kTuple hk hc
  | dic a _ b => cases h; exact .base (.dK (sm _ _ a))
  | frz a b =>
    cases h
    rcases sql_mono sm a.sql with (q | ⟨o, q⟩) | ⟨o, its, n, hk, hc, _⟩
    · exact .base (.lst q)
    · exact .base (.frz q)
    · exact .kList hk hc
  | _ => cases h
/-- is a built-in type's value an instance of another: a table -/
def kitL (a : String) : List String → Option Bool
  | [] => some false
  | b :: bs => match kitB a b with
    | some true => some true
    | some false => kitL a bs
    | none => none
theorem kit_all {K : PySem.W.Frag} {a : String} : ∀ {l : List String} {r : Bool}, kitL a l = some r → PySem.W.kitAny K (.type a) (l.map Value.type) = some r
  | [], r, h => by
    simp only [kitL] at h
    cases h
    exact kitAny_nil
  | b :: bs, r, h => by
    simp only [kitL] at h
    cases e : kitB a b with
    | none => rw [e] at h; cases h
    | some q =>
      rw [e] at h
      refine kitAny_cons (b := q) (kit_ty e) (fun z => ?_) fun z => ?_
      · subst z
        exact kit_all h
      · subst z
        cases h
        rfl
/-- isinstance(x, T), isinstance(x, (T, U, ..)), the types built-in -/
def wIsi (l : List String) (d : D) (P : D → Prop) : Prop := ∃ n b, tyD d = some n ∧ kitL n l = some b ∧ P (.bl b)
theorem clsV_tys : ∀ l : List String, Paired ClsV (l.map V.ty) (l.map Value.type)
  | [] => .nil
  | t :: l => .cons (.ty t) (clsV_tys l)
def mIsi {S : Type} (l : List String) (m : ME S) : ME S := fun ρ s P R => m ρ s (fun d s1 => wIsi l d fun b => P b s1) R
section
variable {S : Type} {Φ : S → Hp → Hp → Prop} {W : WX} [Frm Φ]
theorem de_isiT {l : List String} {ts : List Expr} {tt : TA} {e : Expr} {te : TE} {m : ME S} {p p2 pos : Pos} {k : Nat} (hg : Gl X "isinstance") (hm : X.mg "isinstance" = none) (h : DE X Φ W e te m) (ht : PA X ts tt) (hl : ∀ (σ : Sig) (H : Hp) (Q : List V → Hp → Prop), Q (l.map V.ty) H → tt σ H Q)
    (hz : l.length ≤ sizeLine) (h1 : starEach [e, .Tuple ts k p2] X.env = (false, eval e X.env) :: starEach [.Tuple ts k p2] X.env := by rfl) (h2 : starEach [.Tuple ts k p2] X.env = (false, eval (.Tuple ts k p2) X.env) :: starEach [] X.env := by rfl) (hpl : (backTo pos (starEach [.Tuple ts k p2] X.env)).any (·.1) = false := by rfl) :
    DE X Φ W (.Call (.Name "isinstance" p) [e, .Tuple ts k p2] [] pos) (tCB (rIsiT X.K) (tCons te (tCons (tTup tt) tNil))) (mIsi l m) :=
  ⟨pe_callB call_isiT hg hm (by decide +kernel) (pa_cons h.pe (pa_cons (pe_tup ht) pa_nil h2) h1) (by decide) (by decide) h1 hpl, fun σ ρ s G H Q P R hρ f hW hmm k => by
    refine h.sem σ ρ s G H _ _ R hρ f hW hmm fun d s1 v G1 H1 ⟨n, b, h1, h2, h3⟩ e1 f1 r1 => ?_
    refine hl _ _ _ ⟨by rw [List.length_map]; exact hz, fun tp np => ?_⟩
    have r2 := r1.mono (same_new (o := .tup (l.map V.ty)) ((Frm.same f1).free np))
    refine ⟨v, tp, _, _, _, b, rfl, upd_same, clsV_tys l, rp_tyX (same_both (Frm.same f1) np) r2 h1, kit_all h2, ?_⟩
    exact k _ s1 _ _ _ h3 (e1.trans (same_new ((Frm.same f1).free np))) (Frm.ext f1 np) (.bl b)⟩
theorem de_isi {T : String} {e : Expr} {te : TE} {m : ME S} {p p2 pos : Pos} {x : Str} (hg : Gl X "isinstance") (hm : X.mg "isinstance" = none) (h : DE X Φ W e te m) (hT : PE X (.Name x p2) (tC (.ty T)))
    (h1 : starEach [e, .Name x p2] X.env = (false, eval e X.env) :: starEach [.Name x p2] X.env := by rfl) (h2 : starEach [.Name x p2] X.env = (false, eval (.Name x p2) X.env) :: starEach [] X.env := by rfl) (hpl : (backTo pos (starEach [.Name x p2] X.env)).any (·.1) = false := by rfl) :
    DE X Φ W (.Call (.Name "isinstance" p) [e, .Name x p2] [] pos) (tCB (rIsi X.K) (tCons te (tCons (tC (.ty T)) tNil))) (mIsi [T] m) :=
  ⟨pe_callB call_isi hg hm (by decide +kernel) (pa_cons h.pe (pa_cons hT pa_nil h2) h1) (by decide) (by decide) h1 hpl, fun σ ρ s G H Q P R hρ f hW hmm k => by
    refine h.sem σ ρ s G H _ _ R hρ f hW hmm fun d s1 v G1 H1 ⟨n, b, q1, q2, q3⟩ e1 f1 r1 => ?_
    refine ⟨v, _, _, _, b, rfl, .ty T, rp_tyX (Frm.same f1) r1 q1, ?_, k _ s1 _ G1 H1 q3 e1 f1 (.bl b)⟩
    simp only [kitL] at q2
    cases e : kitB n T with
    | none => rw [e] at q2; cases q2
    | some q =>
      rw [e] at q2
      cases q <;> (cases q2; exact kit_ty e)⟩
/-- a built-in type's name -/
theorem pe_tyn {x : Str} {T : String} {pos : Pos} (hg : Gl X x) (hm : X.mg x = none) (hv : bootBuiltins x = some (.type T)) (hn : x ≠ "__name__" := by decide) (hd : (x == ("__debug__" : Str)) = false := by decide) : PE X (.Name x pos) (tC (.ty T)) := pe_bltn hg hm hv rfl hn hd
end
/-- isinstance(x, C), C an own class: what it answers is told by the table -/
structure IsiC (K : PySem.W.Frag) (mg : Str → Option Value) (c : Addr) (tb : D → Option Bool) : Prop where
  yes : ∀ (G H : Hp) (v : V) (d : D) (b : Bool), Same G H → Rp K mg G v d → tb d = some b → ∃ t, TyX K H v t ∧ PySem.W.kitOne K t (.ref c) = some b
def mIsiC {S : Type} (tb : D → Option Bool) (m : ME S) : ME S := fun ρ s P R => m ρ s (fun d s1 => ∃ b, tb d = some b ∧ P (.bl b) s1) R
theorem de_isiC {S : Type} {Φ : S → Hp → Hp → Prop} {W : WX} [Frm Φ] {c : Addr} {tb : D → Option Bool} {e : Expr} {te : TE} {m : ME S} {p p2 pos : Pos} {x : Str} (T : IsiC X.K X.mg c tb) (hg : Gl X "isinstance") (hm : X.mg "isinstance" = none) (hgx : Gl X x) (hx : X.mg x = some (.ref c)) (h : DE X Φ W e te m) (hd : (x == ("__debug__" : Str)) = false := by decide)
    (h1 : starEach [e, .Name x p2] X.env = (false, eval e X.env) :: starEach [.Name x p2] X.env := by rfl) (h2 : starEach [.Name x p2] X.env = (false, eval (.Name x p2) X.env) :: starEach [] X.env := by rfl) (hpl : (backTo pos (starEach [.Name x p2] X.env)).any (·.1) = false := by rfl) :
    DE X Φ W (.Call (.Name "isinstance" p) [e, .Name x p2] [] pos) (tCB (rIsi X.K) (tCons te (tCons (tC (.ref c)) tNil))) (mIsiC tb m) :=
  ⟨pe_callB call_isi hg hm (by decide +kernel) (pa_cons h.pe (pa_cons (pe_glob hgx hx rfl hd) pa_nil h2) h1) (by decide) (by decide) h1 hpl, fun σ ρ s G H Q P R hρ f hW hmm k => by
    refine h.sem σ ρ s G H _ _ R hρ f hW hmm fun d s1 v G1 H1 ⟨b, q1, q3⟩ e1 f1 r1 => ?_
    obtain ⟨t, ty, kt⟩ := T.yes G1 H1 v d b (Frm.same f1) r1 q1
    exact ⟨v, _, t, _, b, rfl, .own c, ty, kt, k _ s1 _ G1 H1 q3 e1 f1 (.bl b)⟩⟩
/-! ### places and cuts -/
def wIx : W2 := fun a b P => ∃ i : Int, b = .int i ∧ match a with
  | .lst x => ∃ d, atI x i = some d ∧ P d
  | .tup x => ∃ d, atI x i = some d ∧ P d
  | .frz x => ∃ d, atI x i = some d ∧ P d
  | _ => False
structure Ix2 (X : Cx) (r : R2) (w : W2) : Prop where
  ix : IxR X r
  sem : ∀ (x y : V) (a b : D) (G H : Hp) (Q : VK) (P : D → Prop), Rp X.K X.mg G x a → Rp X.K X.mg G y b → Same G H → w a b P → (∀ (d : D) (v : V) (G' H' : Hp), P d → Ext G H G' H' → Rp X.K X.mg G' v d → Q v H') → r x y H Q
theorem x_seq : Ix2 X (rIx X.K) wIx := by
  refine ⟨ix_seq, fun x y a b G H Q P ra rb sm ⟨i, eb, h⟩ k => ?_⟩
  subst eb
  cases rb
  cases ra with
  | lst p q =>
    obtain ⟨d, e, h⟩ := h
    obtain ⟨v, hv, rv⟩ := rp_at q e
    exact .inl ⟨_, _, i, v, rfl, rfl, SqL.of (sm _ _ p), hv, k _ _ G H h .refl rv⟩
  | tup p q =>
    obtain ⟨d, e, h⟩ := h
    obtain ⟨v, hv, rv⟩ := rp_at q e
    exact .inr (.inl ⟨_, _, i, v, rfl, rfl, sqt_mono sm p, hv, k _ _ G H h .refl rv⟩)
  | frz p q =>
    obtain ⟨d, e, h⟩ := h
    obtain ⟨v, hv, rv⟩ := rp_at q e
    exact .inl ⟨_, _, i, v, rfl, rfl, sql_mono sm p.sql, hv, k _ _ G H h .refl rv⟩
  | _ => exact h.elim
theorem de_ix {S : Type} {Φ : S → Hp → Hp → Prop} {W : WX} [Frm Φ] {te tb : TE} {r : R2} {w : W2} {a b : Expr} {ma mb : ME S} {pos : Pos} (o : Ix2 X r w) (ha : DE X Φ W a te ma) (hb : DE X Φ W b tb mb) (hs : PlainIx b := by exact fun _ _ => rfl) : DE X Φ W (.Subscript a b pos) (tOp r te tb) (mBin w ma mb) :=
  ⟨pe_ix o.ix ha.pe hb.pe hs, fun σ ρ s G H Q P R hρ f hW h k => by
    refine ha.sem σ ρ s G H _ _ R hρ f hW h fun x s1 u G1 H1 h1 e1 f1 r1 => ?_
    refine hb.sem σ ρ s1 G1 H1 _ _ R (hρ.mono e1) f1 (hW.mono e1) h1 fun y s2 v G2 H2 h2 e2 f2 r2 => ?_
    refine o.sem u v x y G2 H2 _ _ (r1.mono e2) r2 (Frm.same f2) h2 fun d z G3 H3 p x3 r3 => ?_
    exact k d s2 z G3 H3 p ((e1.trans e2).trans (x3.out (Frm.same f2)).1) (Frm.exts x3 f2) r3⟩
abbrev MO (S : Type) := Rho → S → (Option Int → S → Prop) → (Exn → S → Prop) → Prop
structure DO1 {S : Type} (X : Cx) (Φ : S → Hp → Hp → Prop) (W : WX) (e : Option Expr) (t : TO) (m : MO S) : Prop where
  po : PO X e t
  sem : ∀ (σ : Sig) (ρ : Rho) (s : S) (G H : Hp) (Q : Option Int → Hp → Prop) (P : Option Int → S → Prop) (R : Exn → S → Prop), RelE X.K X.mg G σ ρ → Φ s G H → Wsh X.K X.mg Φ W G σ R → m ρ s P R →
    (∀ (i : Option Int) (s' : S) (G' H' : Hp), P i s' → Same G G' → Φ s' G' H' → Q i H') → t σ H Q
section
variable {S : Type} {Φ : S → Hp → Hp → Prop} {W : WX} [Frm Φ]
def mPn : MO S := fun _ s P _ => P none s
def mPs (m : ME S) : MO S := fun ρ s P R => m ρ s (fun d s1 => ∃ i, d = .int i ∧ P (some i) s1) R
theorem do_none : DO1 X Φ W none tNoPart (mPn : MO S) := ⟨po_none, fun σ ρ s G H Q P R hρ f hW h k => k none s G H h (Same.refl _) f⟩
theorem do_some {e : Expr} {te : TE} {m : ME S} (h : DE X Φ W e te m) : DO1 X Φ W (some e) (tPart te) (mPs m) :=
  ⟨po_some h.pe, fun σ ρ s G H Q P R hρ f hW hm k => h.sem σ ρ s G H _ _ R hρ f hW hm fun d s1 v G1 H1 ⟨i, ed, p⟩ e1 f1 r1 => by
    subst ed
    cases r1
    exact ⟨i, rfl, k _ s1 G1 H1 p e1 f1⟩⟩
def cutD (ds : List D) (lo hi : Option Int) : List D := (ds.drop (HT.sIx ds.length 0 lo)).take (HT.sIx ds.length ds.length hi - HT.sIx ds.length 0 lo)
def wCut (a : D) (lo hi : Option Int) (P : D → Prop) : Prop := match a with
  | .lst x => P (.lst (cutD x lo hi))
  | .tup x => P (.tup (cutD x lo hi))
  | .frz x => P (.lst (cutD x lo hi))
  | _ => False
def mSl (m : ME S) (l h : MO S) : ME S := fun ρ s P R => m ρ s (fun a s1 => l ρ s1 (fun i s2 => h ρ s2 (fun j s3 => wCut a i j fun d => P d s3) R) R) R
theorem cut_whole {ds : List D} {lo hi : Option Int} (h : HT.sIx ds.length 0 lo = 0 ∧ HT.sIx ds.length ds.length hi = ds.length) : cutD ds lo hi = ds := by
  unfold cutD
  rw [h.1, h.2]
  simp
theorem de_sl {e : Expr} {lo hi : Option Expr} {te : TE} {tl th : TO} {m : ME S} {l h : MO S} {pos p2 : Pos} (he : DE X Φ W e te m) (hl : DO1 X Φ W lo tl l) (hh : DO1 X Φ W hi th h) :
    DE X Φ W (.Subscript e (.Slice lo hi none p2) pos) (tSl (fun x lo hi H Q => rSlL X.K x lo hi H Q ∨ rSlA X.K x lo hi H Q) te tl th) (mSl m l h) :=
  ⟨pe_slice (SlR.or sl_list sl_tupA) he.pe hl.po hh.po, fun σ ρ s G H Q P R hρ f hW hm k => by
    refine he.sem σ ρ s G H _ _ R hρ f hW hm fun a s1 v G1 H1 h1 e1 f1 r1 => ?_
    refine hl.sem σ ρ s1 G1 H1 _ _ R (hρ.mono e1) f1 (hW.mono e1) h1 fun i s2 G2 H2 h2 e2 f2 => ?_
    refine hh.sem σ ρ s2 G2 H2 _ _ R ((hρ.mono e1).mono e2) f2 (hW.mono (e1.trans e2)) h2 fun j s3 G3 H3 h3 e3 f3 => ?_
    have sm := Frm.same f3
    have r3 := r1.mono (e2.trans e3)
    have e13 := (e1.trans e2).trans e3
    cases r1 with
    | lst p q =>
      cases r3 with
      | lst p q => exact .inl ⟨_, _, rfl, SqL.of (sm _ _ p), fun z nz => k _ s3 _ _ _ h3 (e13.trans (same_new (sm.free nz))) (Frm.ext f3 nz) (.lst upd_same ((rp_cut q).mono (same_new (sm.free nz))))⟩
    | frz p q =>
      cases r3 with
      | frz p q => exact .inl ⟨_, _, rfl, sql_mono sm p.sql, fun z nz => k _ s3 _ _ _ h3 (e13.trans (same_new (sm.free nz))) (Frm.ext f3 nz) (.lst upd_same ((rp_cut q).mono (same_new (sm.free nz))))⟩
    | tup p q =>
      have r4 := r3
      cases r3 with
      | tup p q =>
        have hlen := q.len
        refine .inr ⟨_, _, rfl, sqt_mono sm p, fun hw => ?_, fun hw z nz => k _ s3 _ _ _ h3 (e13.trans (same_new (sm.free nz))) (Frm.ext f3 nz) (.tup (SqT.of upd_same) ((rp_cut q).mono (same_new (sm.free nz))))⟩
        rw [hlen] at hw
        have ew := cut_whole hw
        refine k _ s3 _ G3 H3 h3 e13 f3 ?_
        rw [ew]
        exact r4
    | _ => exact h3.elim⟩
end
end
end DL

set_option Elab.async false
set_option linter.all false
set_option maxRecDepth 100000
set_option maxHeartbeats 1000000
namespace DL
open PySem PySem.Spec PyProof.Rows L2

/-! ### repr -/
mutual
/-- a tree's datum, an empty dict too -/
def toPd : D → Option PyData
  | .non => some .none
  | .bl b => some (.bool b)
  | .int i => some (.int i)
  | .str x => some (.str x)
  | .lst ds => (toPdL ds).map .list
  | .tup ds => (toPdL ds).map .tuple
  | .dic [] [] => some (.dict [])
  | _ => none
def toPdL : List D → Option (List PyData)
  | [] => some []
  | d :: ds => match toPd d, toPdL ds with
    | some p, some ps => some (p :: ps)
    | _, _ => none
end
section
variable {X : Cx} {pins : List (Addr × Obj)} {σ : Sig} {G H : Hp} {s : Shared} {mg : Str → Option Value}
theorem not_mods (hk : ∃ mm, X.base.Ns sysModules mm) (I : Inv X pins σ H s) {a : Addr} {o : HO} (h : H a = some o) : a ≠ sysModules := fun e => by
  obtain ⟨mm, ob, es, ep, hk, _⟩ := hk
  have q := (I.bs _ _ hk).2
  rw [e] at h
  rw [h] at q
  cases q
mutual
theorem rp_reads (hk : ∃ mm, X.base.Ns sysModules mm) (I : Inv X pins σ H s) (sm : Same G H) : ∀ {v : V} {d : D} {p : PyData} {u : Value}, Rp X.K mg G v d → toPd d = some p → RelV v u → ∃ as, Reads s.heap u p as ∧ sysModules ∉ as
  | _, _, _, _, .non, h, r => by
    simp only [toPd] at h
    cases h
    cases r
    exact ⟨_, .none, by simp⟩
  | _, _, _, _, .bl b, h, r => by
    simp only [toPd] at h
    cases h
    cases r
    exact ⟨_, .bool b, by simp⟩
  | _, _, _, _, .int b, h, r => by
    simp only [toPd] at h
    cases h
    obtain ⟨t, rfl⟩ := r
    exact ⟨_, .int b t, by simp⟩
  | _, _, _, _, .str b, h, r => by
    simp only [toPd] at h
    cases h
    obtain ⟨t, rfl⟩ := r
    exact ⟨_, .str b t, by simp⟩
  | _, _, _, _, .lst q rl, h, r => by
    simp only [toPd, Option.map_eq_some_iff] at h
    obtain ⟨ps, h, rfl⟩ := h
    cases r
    obtain ⟨its, rv, ⟨o, n, ho, hc, _, hd⟩, _⟩ := I.list (SqL.of (sm _ _ q))
    obtain ⟨as, hr, hn⟩ := rpl_reads hk I sm rl h rv
    exact ⟨_, .list ho hc hd hr, by simp only [List.mem_cons, not_or]; exact ⟨fun e => not_mods hk I (sm _ _ q) e.symm, hn⟩⟩
  | _, _, _, _, .tup q rl, h, r => by
    simp only [toPd, Option.map_eq_some_iff] at h
    obtain ⟨ps, h, rfl⟩ := h
    cases r
    obtain ⟨its, rv, ⟨o, ho, hc, n, hd⟩, _⟩ := I.tuple (sqt_mono sm q)
    obtain ⟨as, hr, hn⟩ := rpl_reads hk I sm rl h rv
    exact ⟨_, .tuple ho hc hd hr, hn⟩
  | _, _, _, _, .dic (ks := ks) (vs := vs) (ds := ds) q l rl, h, r => by
    cases ks with
    | cons _ _ => simp [toPd] at h
    | nil =>
      cases ds with
      | cons _ _ => simp [toPd] at h
      | nil =>
        simp only [toPd] at h
        cases h
        cases r
        obtain ⟨_, hm, vs', hkv, o, es, ep, ho, hex, hd, _, hpr, _⟩ := I.hok _ _ (sm _ _ q)
        cases vs with
        | cons _ _ => exact absurd l (by simp)
        | nil =>
          cases hkv
          have e0 : es.toList = [] := by
            generalize es.toList = l at hpr
            cases hpr
            rfl
          have ra : ReadsAll s.heap (es.toList.map fun x => x.key) (([] : List (PyData × PyData)).map fun x => x.1) [] := by
            rw [e0]
            exact .nil
          have rb : ReadsAll s.heap (es.toList.map fun x => x.val) (([] : List (PyData × PyData)).map fun x => x.2) [] := by
            rw [e0]
            exact .nil
          refine ⟨_, Reads.dict (kvs := []) ho hex.1 hd ra rb, fun hx => ?_⟩
          have hx := List.mem_singleton.mp hx
          rw [← hx] at hm
          simp at hm
  | _, _, _, _, .ins _ _ _ _, h, _ => by simp [toPd] at h
  | _, _, _, _, .frz _ _, h, _ => by simp [toPd] at h
  | _, _, _, _, .loc _, h, _ => by simp [toPd] at h
  | _, _, _, _, .cls _, h, _ => by simp [toPd] at h
  | _, _, _, _, .ty _, h, _ => by simp [toPd] at h
theorem rpl_reads (hk : ∃ mm, X.base.Ns sysModules mm) (I : Inv X pins σ H s) (sm : Same G H) : ∀ {vs : List V} {ds : List D} {ps : List PyData} {us : List Value}, RpL X.K mg G vs ds → toPdL ds = some ps → Vals vs us → ∃ as, ReadsAll s.heap us ps as ∧ sysModules ∉ as
  | _, _, _, _, .nil, h, r => by
    simp only [toPdL] at h
    cases h
    cases r
    exact ⟨_, .nil, by simp⟩
  | _, _, _, _, .cons (d := d) (ds := ds) a b, h, r => by
    simp only [toPdL] at h
    cases e1 : toPd d with
    | none => simp [e1] at h
    | some p =>
      cases e2 : toPdL ds with
      | none => simp [e1, e2] at h
      | some ps =>
        simp [e1, e2] at h
        subst h
        cases r with
        | cons r1 r2 =>
          obtain ⟨as, h1, n1⟩ := rp_reads hk I sm a e1 r1
          obtain ⟨bs, h2, n2⟩ := rpl_reads hk I sm b e2 r2
          exact ⟨_, .cons h1 h2, by simp only [List.mem_append, not_or]; exact ⟨n1, n2⟩⟩
end
end
def wRepr : WL := fun ds P => ∃ d p, ds = [d] ∧ toPd d = some p ∧ p.showable = true ∧ p.depth ≤ 60 ∧ p.shown.length ≤ sizeLine ∧ P (.str p.shown)
/-- repr by values: any datum -/
def rRepr (K : PySem.W.Frag) (mg : Str → Option Value) : List V → Hp → VK → Prop := fun vs H Q => ∃ (v : V) (d : D) (p : PyData) (G : Hp), vs = [v] ∧ Same G H ∧ Rp K mg G v d ∧ toPd d = some p ∧ p.showable = true ∧ p.depth ≤ 60 ∧ p.shown.length ≤ sizeLine ∧ Q (.str p.shown) H
section
variable {X : Cx}
theorem reprObj_any {pins : List (Addr × Obj)} {σ : Sig} {H : Hp} {s : Shared} {v : V} {u : Value} {d : D} {p : PyData} {G : Hp} {Q : Value → Shared → Prop} (hk : ∃ mm, X.base.Ns sysModules mm) (hg : X.A.guards = some []) (hu : X.A.units + 64 < cLine) (I : Inv X pins σ H s) (ru : RelV v u) (sm : Same G H) (r : Rp X.K X.mg G v d) (hp : toPd d = some p)
    (hs : p.showable = true) (hd : p.depth ≤ 60) (hz : p.shown.length ≤ sizeLine) (q : ∀ t s', Inv X pins σ H s' → Q (.str p.shown t) s') : wpAny (model X.prog X.w) X.A (pyReprObj u) Q X.xe s := by
  obtain ⟨as, rd, hn⟩ := rp_reads hk I sm r hp ru
  cases rd with
  | none => exact pyReprObj_none (q _ _ (I.tok _))
  | bool b => exact pyReprObj_bool (q _ _ (I.tok _))
  | int i t => exact pyReprObj_int (by simpa [PyData.showable] using hs) (q _ _ (I.tok _))
  | str x t => exact pyReprObj_str (q _ _ (I.tok _)) (by simpa [PyData.shown] using hz)
  | list a b c e =>
    exact pyReprObj_of_reads (.list a b c e) hs (fun _ => hn) hg (by omega) (fun _ _ h => h) (fun h' t tk k => q t _ (I.kept k)) hz
  | tuple a b c e =>
    exact pyReprObj_of_reads (.tuple a b c e) hs (fun _ => hn) hg (by omega) (fun _ _ h => h) (fun h' t tk k => q t _ (I.kept k)) hz
  | dict a b c e f =>
    exact pyReprObj_of_reads (.dict a b c e f) hs (fun _ => hn) hg (by omega) (fun _ _ h => h) (fun h' t tk k => q t _ (I.kept k)) hz
theorem cr_repr (hk : ∃ mm, X.base.Ns sysModules mm) (hg : X.A.guards = some []) (hu : X.A.units + 64 < cLine) : CallR X (.builtin "repr") (rRepr X.K X.mg) := by
  intro pins s σ H vs us Q I r h
  obtain ⟨v, d, p, G, rfl, sm, rd, hp, hs, hd, hz, q⟩ := h
  obtain ⟨u, rfl, ru⟩ := vals1 r
  obtain ⟨as, rr, hn⟩ := rp_reads hk I sm rd hp ru
  have fin : ∀ (t : Tok) (h' : Heap) (tk : Nat), (∀ b o, s.heap.get? b = some o → h'.get? b = some o) → EP X pins σ Q (.str p.shown t) { s with heap := h', toks := tk } := fun t h' tk k => ⟨.str p.shown, H, I.kept k, ⟨t, rfl⟩, q⟩
  cases rr with
  | none => exact P.repr_of_none (fin _ _ _ fun _ _ h => h)
  | bool b => exact P.repr_of_bool (fin _ _ _ fun _ _ h => h)
  | int i t => exact P.repr_of_int (by simpa [PyData.showable] using hs) (fin _ _ _ fun _ _ h => h)
  | str x t => exact P.repr_of_str (fin _ _ _ fun _ _ h => h) (by simpa [PyData.shown] using hz)
  | list a b c e => exact repr_of_reads' (.list a b c e) hs (fun _ => hn) hg (by omega) (fun _ _ h => h) (fun h' t tk k => fin t h' tk k) hz
  | tuple a b c e => exact repr_of_reads' (.tuple a b c e) hs (fun _ => hn) hg (by omega) (fun _ _ h => h) (fun h' t tk k => fin t h' tk k) hz
  | dict a b c e f => exact repr_of_reads' (.dict a b c e f) hs (fun _ => hn) hg (by omega) (fun _ _ h => h) (fun h' t tk k => fin t h' tk k) hz
theorem f_repr (hk : ∃ mm, X.base.Ns sysModules mm) (hg : X.A.guards = some []) (hu : X.A.units + 64 < cLine) : Fn1 X (.builtin "repr") (rRepr X.K X.mg) wRepr := by
  refine ⟨cr_repr hk hg hu, fun vs ds G H Q P r sm ⟨d, p, ed, h1, h2, h3, h4, h⟩ k => ?_⟩
  subst ed
  obtain ⟨v, rfl, r1⟩ := rpl1 r
  exact ⟨v, d, p, G, rfl, sm, r1, h1, h2, h3, h4, k _ _ G H h .refl (.str _)⟩
end
end DL

set_option Elab.async false
set_option linter.all false
set_option maxRecDepth 100000
set_option maxHeartbeats 1000000
namespace DL
open PySem PySem.Spec PyProof.Rows L2

/-! ### f-strings -/
section
variable {S : Type} {X : Cx} {Φ : S → Hp → Hp → Prop} {W : WX} [Frm Φ]
/-- {x!r} -/
def tShow (K : PySem.W.Frag) (mg : Str → Option Value) (te : TE) : TE := fun σ H Q => te σ H fun v H1 => ∃ (d : D) (p : PyData) (G : Hp), Same G H1 ∧ Rp K mg G v d ∧ toPd d = some p ∧ p.showable = true ∧ p.depth ≤ 60 ∧ p.shown.length ≤ sizeLine ∧ Q (.str p.shown) H1
def mShow (m : ME S) : ME S := fun ρ s P R => m ρ s (fun d s1 => ∃ p, toPd d = some p ∧ p.showable = true ∧ p.depth ≤ 60 ∧ p.shown.length ≤ sizeLine ∧ P (.str p.shown) s1) R
theorem de_show {e : Expr} {te : TE} {m : ME S} {pos : Pos} (hk : ∃ mm, X.base.Ns sysModules mm) (hg : X.A.guards = some []) (hu : X.A.units + 64 < cLine) (h : DE X Φ W e te m) : DE X Φ W (.FormattedValue e 114 none pos) (tShow X.K X.mg te) (mShow m) := by
  refine ⟨⟨fun pins s σ H Q I hh => ?_⟩, fun σ ρ s G H Q P R hρ f hW hm k => h.sem σ ρ s G H _ _ R hρ f hW hm fun d s1 v G1 H1 ⟨p, h1, h2, h3, h4, h5⟩ e1 f1 r1 => ⟨d, p, G1, Frm.same f1, r1, h1, h2, h3, h4, k _ s1 _ G1 H1 h5 e1 f1 (.str _)⟩⟩
  refine wpAny_FormattedValue_repr (thn (h.pe.run pins s σ H _ I hh) fun u s1 ⟨v, H1, I1, rv, d, p, G, sm, rd, hp, hs, hd, hz, q⟩ => ?_)
  refine reprObj_any hk hg hu I1 rv sm rd hp hs hd hz fun t s' I' => ?_
  exact wpAny_formatField_str ⟨.str p.shown, H1, I', ⟨_, rfl⟩, q⟩ ⟨.str p.shown, H1, I'.tok _, ⟨_, rfl⟩, q⟩ hz
inductive DJ (X : Cx) (Φ : S → Hp → Hp → Prop) (W : WX) : List Expr → List TE → List (ME S) → Prop
  | nil : DJ X Φ W [] [] []
  | cons {e : Expr} {te : TE} {m : ME S} {es : List Expr} {ts : List TE} {ms : List (ME S)} : DE X Φ W e te m → DJ X Φ W es ts ms → DJ X Φ W (e :: es) (te :: ts) (m :: ms)
theorem DJ.pj {es : List Expr} {ts : List TE} {ms : List (ME S)} (h : DJ X Φ W es ts ms) : PJ X es ts := by
  induction h with
  | nil => exact .nil
  | cons a _ ih => exact .cons a.pe ih
def mJs : List (ME S) → Str → Rho → S → (Str → S → Prop) → (Exn → S → Prop) → Prop
  | [], acc, _, s, P, _ => P acc s
  | m :: ms, acc, ρ, s, P, R => m ρ s (fun d s1 => ∃ y, d = .str y ∧ (acc ++ y).length ≤ sizeLine ∧ mJs ms (acc ++ y) ρ s1 P R) R
theorem js_sem {es : List Expr} {ts : List TE} {ms : List (ME S)} (h : DJ X Φ W es ts ms) : ∀ (acc : Str) (σ : Sig) (ρ : Rho) (s : S) (G H : Hp) (Q : Str → Hp → Prop) (P : Str → S → Prop) (R : Exn → S → Prop), RelE X.K X.mg G σ ρ → Φ s G H → Wsh X.K X.mg Φ W G σ R → mJs ms acc ρ s P R →
    (∀ (y : Str) (s' : S) (G' H' : Hp), P y s' → Same G G' → Φ s' G' H' → Q y H') → tJs ts acc σ H Q := by
  induction h with
  | nil => exact fun acc σ ρ s G H Q P R hρ f hW h k => k acc s G H h (Same.refl _) f
  | cons a _ ih =>
    intro acc σ ρ s G H Q P R hρ f hW h k
    refine a.sem σ ρ s G H _ _ R hρ f hW h fun d s1 v G1 H1 ⟨y, ed, hl, h1⟩ e1 f1 r1 => ?_
    subst ed
    cases r1
    exact ⟨y, rfl, hl, ih _ σ ρ s1 G1 H1 Q P R (hρ.mono e1) f1 (hW.mono e1) h1 fun z s' G' H' p q => k z s' G' H' p (e1.trans q)⟩
def mJoin (ms : List (ME S)) : ME S := fun ρ s P R => mJs ms Str.empty ρ s (fun y s1 => P (.str y) s1) R
theorem de_join {v1 v2 : Expr} {rest : List Expr} {ts : List TE} {ms : List (ME S)} {pos : Pos} (h : DJ X Φ W (v1 :: v2 :: rest) ts ms) : DE X Φ W (.JoinedStr (v1 :: v2 :: rest) pos) (fun σ H Q => tJs ts Str.empty σ H fun out H1 => Q (.str out) H1) (mJoin ms) :=
  ⟨pe_joined h.pj, fun σ ρ s G H Q P R hρ f hW hm k => js_sem h Str.empty σ ρ s G H _ _ R hρ f hW hm fun y s' G' H' p q f' => k _ s' _ G' H' p q f' (.str y)⟩
end

section
variable {X : Cx} {Φ : OH → Hp → Hp → Prop} {W : WX} [FΦ : OFrm X.K X.mg Φ]
/-! ### one's own lists -/
def mLstO (n : MA OH) : ME OH := fun ρ O P R => n ρ O (fun ds O1 => ds.length ≤ sizeLine ∧ ∀ p, O1 p = none → P (.loc p) (O1.put p (.lst ds))) R
include FΦ in
theorem own_free {O : OH} {G H : Hp} {p : Addr} (f : Φ O G H) (n : H p = none) : O p = none := by
  cases z : O p with
  | none => rfl
  | some y =>
    obtain ⟨_, o, q, _⟩ := FΦ.own f z
    rw [n] at q
    cases q
theorem de_lstO {es : List Expr} {ta : TA} {n : MA OH} {pos : Pos} (h : DA X Φ W es ta n) : DE X Φ W (.List es pos) (tLst ta) (mLstO n) :=
  ⟨pe_lst h.pa, fun σ ρ s G H Q P R hρ f hW hm k => h.sem σ ρ s G H _ _ R hρ f hW hm fun ds s1 vs G1 H1 ⟨hl, h1⟩ e1 f1 r1 =>
    ⟨by rw [r1.len]; exact hl, fun p np => k _ _ _ G1 _ (h1 p (own_free (X := X) f1 np)) e1 (FΦ.new f1 np (.lst r1)) (.loc p)⟩⟩
/-- one's own object, handed on as a tree -/
def mFrz (m : ME OH) : ME OH := fun ρ O P R => m ρ O (fun x O1 => ∃ a y, x = .loc a ∧ O1 a = some y ∧ P y.tree (O1.del a)) R
theorem de_frz {e : Expr} {te : TE} {m : ME OH} (h : DE X Φ W e te m) : DE X Φ W e te (mFrz m) :=
  ⟨h.pe, fun σ ρ s G H Q P R hρ f hW hm k => h.sem σ ρ s G H _ _ R hρ f hW hm fun d s1 v G1 H1 ⟨a, y, ed, oa, p⟩ e1 f1 r1 => by
    subst ed
    cases r1
    obtain ⟨G2, e2, f2, r2⟩ := FΦ.frz f1 oa
    exact k _ _ _ G2 H1 p (e1.trans e2) f2 r2⟩
/-- xs.append(e) -/
def mApp (m : ME OH) (n : ME OH) : ME OH := fun ρ O P R => m ρ O (fun x O1 => ∃ a, x = .loc a ∧ (∃ ds, O1 a = some (.lst ds)) ∧ n ρ O1 (fun y O2 => ∃ ds, O2 a = some (.lst ds) ∧ ds.length < sizeLine ∧ P .non (O2.put a (.lst (ds ++ [y])))) R) R
theorem de_app {o e : Expr} {te tv : TE} {m n : ME OH} {apos pos : Pos} (h : DE X Φ W o te m) (h' : DE X Φ W e tv n) (hp : PE X (.Call (.Attribute o "append" apos) [e] [] pos) (tBM X.K "list" rAppend te (tCons tv tNil))) :
    DE X Φ W (.Call (.Attribute o "append" apos) [e] [] pos) (tBM X.K "list" rAppend te (tCons tv tNil)) (mApp m n) :=
  ⟨hp, fun σ ρ s G H Q P R hρ f hW hm k => h.sem σ ρ s G H _ _ R hρ f hW hm fun x s1 v G1 H1 ⟨a, ex, ⟨ds0, oa⟩, h1⟩ e1 f1 r1 => by
    subst ex
    cases r1
    obtain ⟨_, o, ho, ro⟩ := FΦ.own f1 oa
    cases ro
    refine ⟨.inl ⟨rfl, _, SqL.of ho⟩, ?_⟩
    refine h'.sem σ ρ s1 G1 H1 _ _ R (hρ.mono e1) f1 (hW.mono e1) h1 fun y s2 u G2 H2 ⟨ds, ob, hl, p⟩ e2 f2 r2 => ?_
    obtain ⟨_, o2, ho2, ro2⟩ := FΦ.own f2 ob
    cases ro2 with
    | lst rl => exact ⟨a, _, u, rfl, rfl, ho2, by rw [rl.len]; exact hl, k _ _ _ G2 _ p (e1.trans e2) (FΦ.put f2 ob (.lst (rl.app (.cons r2 .nil)))) .non⟩⟩
theorem de_appD {o e : Expr} {te tv : TE} {m n : ME OH} {apos pos : Pos} (h : DE X Φ W o te m) (h' : DE X Φ W e tv n)
    (h1 : attributeBase o "append" X.env (eval o X.env) = eval o X.env := by rfl)
    (h2 : ((backTo pos (starEach [e] X.env)).all (fun x => !x.1) && (backToKw pos (keywordEach [] X.env)).all (fun x => x.1.isSome) && decide ([e].length + ([] : List Keyword).length + (if ([] : List Keyword).isEmpty then 0 else 1) < 30)) = true := by rfl)
    (h3 : (apos.endLine == pos.line) = true := by rfl) (h4 : starEach [e] X.env = (false, eval e X.env) :: starEach [] X.env := by rfl) (h5 : (backTo pos (starEach [] X.env)).any (·.1) = false := by rfl) :
    DE X Φ W (.Call (.Attribute o "append" apos) [e] [] pos) (tBM X.K "list" rAppend te (tCons tv tNil)) (mApp m n) :=
  de_app h h' (pe_bm PySem.F.plainAttrs_list PySem.F.slot_list_append PySem.F.type_list_append mt_append h.pe (pa_cons h'.pe pa_nil h4) h1 h2 h3 h4 h5)
/-- xs[i] of one's own list -/
def mIxO (m n : ME OH) : ME OH := fun ρ O P R => m ρ O (fun x O1 => n ρ O1 (fun y O2 => ∃ a i ds d, x = .loc a ∧ y = .int i ∧ O2 a = some (.lst ds) ∧ atI ds i = some d ∧ P d O2) R) R
theorem de_ixO {a b : Expr} {te tb : TE} {ma mb : ME OH} {pos : Pos} (ha : DE X Φ W a te ma) (hb : DE X Φ W b tb mb) (hs : PlainIx b := by exact fun _ _ => rfl) : DE X Φ W (.Subscript a b pos) (tOp (rIxL X.K) te tb) (mIxO ma mb) :=
  ⟨pe_ix ix_list ha.pe hb.pe hs, fun σ ρ s G H Q P R hρ f hW h k => by
    refine ha.sem σ ρ s G H _ _ R hρ f hW h fun x s1 u G1 H1 h1 e1 f1 r1 => ?_
    refine hb.sem σ ρ s1 G1 H1 _ _ R (hρ.mono e1) f1 (hW.mono e1) h1 fun y s2 v G2 H2 ⟨c, i, ds, d, ex, ey, oc, hi, p⟩ e2 f2 r2 => ?_
    subst ex ey
    cases r1
    cases r2
    obtain ⟨_, o, ho, ro⟩ := FΦ.own f2 oc
    cases ro with
    | lst rl =>
      obtain ⟨z, hz, rz⟩ := rp_at rl hi
      exact ⟨c, _, i, z, rfl, rfl, SqL.of ho, hz, k d s2 z G2 H2 p (e1.trans e2) f2 rz⟩⟩
/-- xs[i] = e -/
def gSubO (m n : ME OH) : MG OH := fun d ρ O P => m ρ O (fun x O1 => n ρ O1 (fun y O2 => ∃ a i ds j, x = .loc a ∧ y = .int i ∧ O2 a = some (.lst ds) ∧ ixN ds.length i = some j ∧ P ρ (O2.put a (.lst (ds.set j d)))) R0) R0
theorem rpl_set {K : PySem.W.Frag} {mg : Str → Option Value} {G : Hp} {v : V} {d : D} (r : Rp K mg G v d) : ∀ {vs : List V} {ds : List D} (j : Nat), RpL K mg G vs ds → RpL K mg G (vs.set j v) (ds.set j d)
  | _, _, _, .nil => .nil
  | _, _, 0, .cons _ b => .cons r b
  | _, _, j + 1, .cons a b => .cons a (rpl_set r j b)
theorem dg_subO {o i : Expr} {to ti : TE} {m n : ME OH} {pos : Pos} (ho : DE X Φ W0 o to m) (hi : DE X Φ W0 i ti n)
    (ha : ∀ v, assign (.Subscript o i pos) X.env v = (do
      let ov ← holding [v] (eval o X.env)
      let iv ← holding [v, ov] (eval i X.env)
      standAt pos
      holding [v, ov, iv] (setItem ov iv v)
      release [v, ov, iv] []) := by intro _; rfl) : DG X Φ (.Subscript o i pos) (gSub to ti rSetL) (gSubO m n) [] :=
  ⟨pg_sub ho.pe hi.pe set_list ha, fun σ ρ s G H v d Q P hρ f r h k => by
    refine ho.sem σ ρ s G H _ _ R0 hρ f (fun _ _ _ _ _ _ _ _ _ z => z.elim) h fun x s1 u G1 H1 h1 e1 f1 r1 => ?_
    refine hi.sem σ ρ s1 G1 H1 _ _ R0 (hρ.mono e1) f1 (fun _ _ _ _ _ _ _ _ _ z => z.elim) h1 fun y s2 z G2 H2 ⟨a, i, ds, j, ex, ey, oa, hj, p⟩ e2 f2 r2 => ?_
    subst ex ey
    cases r1
    cases r2
    obtain ⟨_, o, hob, ro⟩ := FΦ.own f2 oa
    cases ro with
    | lst rl => exact ⟨a, _, i, j, rfl, rfl, hob, by rw [rl.len]; exact hj, k σ ρ _ G2 _ p (e1.trans e2) ((hρ.mono e1).mono e2) (FΦ.put f2 oa (.lst (rpl_set ((r.mono e1).mono e2) j rl))) fun _ _ => rfl⟩⟩
/-! ### properties -/
theorem pe_propG {k : Nat} {C p g : Addr} {f : Str} {fd : FuncData} {ps : List Str} {sp : Sp} {e : Expr} {pos : Pos} {ta : TE} (he : PE X e ta) (c : Cls X.K C) (hp : PropOf X.K C f p g) (F : FnS X.prog X.w X.K X.mg X.base k g fd ps sp) (hr : Rm (k + 1) X) (hb : Binds X.K fd ps [])
    (hab : attributeBase e f X.env (eval e X.env) = eval e X.env) : PE X (.Attribute e f pos) (fun σ H Q => ta σ H fun x H1 => ∃ a dx fs, x = .ref a ∧ H1 a = some (.ins C dx fs) ∧ sp [.ref a] H1 Q E0) := by
  refine ⟨fun pins s σ H Q I h => attr_of hab (thn (he.run pins s σ H _ I h) fun u s1 ⟨x, H1, I1, rx, a, dx, fs, ex, ea, q⟩ => ?_)⟩
  subst ex
  cases (show u = Value.ref a from rx)
  obtain ⟨mA, O, _⟩ := ins_get I1.hok ea
  obtain ⟨od, J, _⟩ := O.look
  obtain ⟨rest, hrec⟩ := hp.rec_
  have I2 := I1.tok (s1.toks + 1)
  have hl : ([Value.ref a] ++ []).length = ps.length := (F.len _ _ _ _ q)
  have hc : (PySem.W.clsIn X.K C).isSome = true := by
    obtain ⟨cd, hc, _⟩ := PySem.W.any_some c.hd
    rw [hc]
    rfl
  have go := F.run X.A.in1 X.stack { s1 with toks := s1.toks + 1 } H1 ⟨[.ref a], []⟩ [.ref a] [.ref a] Q E0 hr.room.in1 hr.gd I2.env0.in1 (hb _ [.ref a] I2.kIn hl) (.cons rfl .nil) q
  refine PySem.W.get_bind I1.kIn J (PySem.W.plainGet_of (c.get f)).1 (PySem.W.findObj_data hc hp.at_ hp.get hp.tak) (PySem.W.plainGet_of (c.get f)).2 (wpAny_call (PySem.W.prop_get (s := { s1 with toks := s1.toks + 1 }) I1.kIn hrec (codeAny_mono go fun r s' hq => ?_)))
  match r, hq with
  | .error er, hq => exact (passL (X := X.nox) pins σ H1 { s1 with toks := s1.toks + 1 } er s' (I2.wish _) hq).elim
  | .ok (.ret u), hq =>
    obtain ⟨v, H', I3, rv, q3⟩ := I2.after hq
    show wpAny _ _ (handedOut u) _ _ _
    rw [PySem.W.handedOut_of (handed_of rv)]
    exact wpAny_pure ⟨v, H', I3, rv, q3⟩
  | .ok .next, hq => exact hq.elim
  | .ok .brk, hq => exact hq.elim
  | .ok .cont, hq => exact hq.elim
def mProp (C : Str) (g : WF) (m : ME OH) : ME OH := fun ρ O P R => m ρ O (fun x O1 => ∃ ns ds, x = .ins C ns ds ∧ g [x] O1 P R0) R
theorem de_prop {k : Nat} {C p q : Addr} {Cn f : Str} {fd : FuncData} {n : Str} {g : WF} {e : Expr} {pos : Pos} {te : TE} {m : ME OH} (h : DE X Φ W e te m) (c : Cls X.K C) (hC : X.mg Cn = some (.ref C)) (hp : PropOf X.K C f p q) (F : FnG X.prog X.w X.K X.mg X.base k q fd [n] g) (hr : Rm (k + 1) X) (hb : Binds X.K fd [n] [])
    (hab : attributeBase e f X.env (eval e X.env) = eval e X.env := by rfl) : DE X Φ W (.Attribute e f pos) (fun σ H Q => te σ H fun x H1 => ∃ a dx fs, x = .ref a ∧ H1 a = some (.ins C dx fs) ∧ spO X.K X.mg 1 g [.ref a] H1 Q E0) (mProp Cn g m) :=
  ⟨pe_propG h.pe c hp F hr hb hab, fun σ ρ s G H Q P R hρ f hW hm k => h.sem σ ρ s G H _ _ R hρ f hW hm fun x s1 v G1 H1 ⟨ns, ds, ex, h1⟩ e1 f1 r1 => by
    subst ex
    have r2 := r1
    cases r1 with
    | ins mC hG hl rl =>
      rw [hC] at mC
      cases mC
      exact ⟨_, _, _, rfl, Frm.same f1 _ _ hG, spO_of f1 (.cons r2 .nil) rfl h1 (fun d s' v G' H' p q => k d s' v G' H' p (e1.trans q)) fun _ _ _ _ _ _ _ _ _ z => z.elim⟩⟩
end
end DL

set_option Elab.async false
set_option linter.all false
set_option maxRecDepth 100000
set_option maxHeartbeats 2000000
namespace DL
open PySem PySem.Spec PyProof.Rows L2

/-! ### raise C(e): C an own class over ValueError whose __init__ stores its one argument -/
def spXI (C : Addr) (fld : Str) : Sp := fun vs H Q _ => ∃ (a : Addr) (y : V), vs = [.ref a, y] ∧ H a = some (exo a C none) ∧ ∀ dx, H dx = none → dx ≠ a → Q .non (upd (upd H dx (exd dx [(fld, y)])) a (exo a C (some dx)))
section
variable {P : Program} {w : World} {K : PySem.W.Frag} {mg : Str → Option Value} {base : Heap}
theorem ok_xinit {x qual fld ar : Str} {st : Stmt} {f C : Addr} {fd : FuncData} (F : Fun K x qual st f fd) (Sc : FnScope [("self" : Str), ar] [("self" : Str), ar] (defScope st)) (T : OexC K C) (no : PySem.W.findIn K (.ref C) fld = some none)
    (hb : ∀ X : Cx, X.K = K → X.N = [("self" : Str), ar] → X.env.scope = defScope st → ∃ to te : TE, PSs X (defBody st) (tOst K fld to te) ∧ (∀ (u y : V) (H : Hp) (Q : VK), Q y H → te [some u, some y] H Q) ∧ ∀ (u y : V) (H : Hp) (Q : VK), Q u H → to [some u, some y] H Q) :
    FnOk P w K mg base CX0 1 f fd [("self" : Str), ar] (spXI C fld) := by
  refine F.ok Sc (fun vs H Q E h => ?_) fun cdv A outer s H vs Q E hr h => ?_
  · obtain ⟨a, y, rfl, _⟩ := h
    rfl
  · obtain ⟨a, y, rfl, ea, k⟩ := h
    obtain ⟨to, te, hp, h1, h2⟩ := hb (cxOf CX0 P w K mg base [("self" : Str), ar] qual (defScope st) f cdv A outer s H E).nox rfl rfl rfl
    exact ⟨_, hp, h1 _ _ _ _ (h2 _ _ _ _ ⟨a, C, rfl, T, no, .inl ⟨ea, fun dx n ne => k dx n ne⟩⟩)⟩
end
section
variable {X : Cx} {Φ : OH → Hp → Hp → Prop} {W : WX} [FΦ : OFrm X.K X.mg Φ]
def sRaise (C fld : Str) (n : MA OH) : MS OH := fun M ρ O => n ρ O (fun ds O1 => ∃ d, ds = [d] ∧ M.ex ⟨C, some ([fld], [d])⟩ ρ O1) (fun x O1 => M.ex x ρ O1)
theorem exo_end {H : Hp} {a dx : Addr} {u v : HO} {o : HO} (na : H a = none) (nd : dx ≠ a) : upd (L2.del (upd (upd (upd H a u) dx v) a o) a) dx (.xd [(fld, y)]) = upd H dx (.xd [(fld, y)]) := by
  funext b
  by_cases e : b = dx
  · subst e
    rw [upd_same, upd_same]
  · rw [upd_ne e, upd_ne e]
    by_cases e2 : b = a
    · subst e2
      rw [del_same, na]
    · rw [del_ne e2, upd_ne e2, upd_ne e, upd_ne e2]
theorem ds_raise {C fI : Addr} {x fld ar : Str} {fd : FuncData} {e : Expr} {ta : TA} {n : MA OH} {p pos pos2 : Pos} (T : OexC X.K C) (iC : PySem.W.findIn X.K (.ref C) "__init__" = some (some (.ref fI))) (tI : PySem.W.typeIn X.K (.ref fI) = some (.type "function"))
    (F : FnOk X.prog X.w X.K X.mg X.base CX0 1 fI fd [("self" : Str), ar] (spXI C fld)) (hr : Rm 2 X) (hb : Binds X.K fd [("self" : Str), ar] []) (hg : Gl X x) (hm : X.mg x = some (.ref C)) (hc : X.calm = true) (tk : Takes X W) (ha : DA X Φ W [e] ta n)
    (hdb : (x == ("__debug__" : Str)) = false := by decide) (he : starEach [e] X.env = (false, eval e X.env) :: starEach [] X.env := by rfl) (hpl : (backTo pos (starEach [] X.env)).any (·.1) = false := by rfl) :
    DS X Φ W (.Raise (some (.Call (.Name x p) [e] [] pos)) none pos2) (fun _ σ H => tMkO C (spXI C fld) [] ta σ H fun cls d H' => W cls d σ H') (sRaise x fld n) := by
  refine ⟨ps_raise hc tk (pmk_oex T iC tI F hr.room hb .nil pass0 hg hm ha.pa hdb he hpl), fun σ ρ s G H D M hρ f hmm E => ?_⟩
  refine ha.sem σ ρ s G H _ _ _ hρ f (E.wsh hρ) hmm fun ds s1 vs G1 H1 ⟨d, ed, h1⟩ e1 f1 r1 => ?_
  subst ed
  obtain ⟨v, rfl, rv⟩ := rpl1 r1
  refine ⟨by show 1 ≤ 1000; decide, fun a na => ⟨a, v, rfl, upd_same, fun dx ndx ne => ⟨rfl, dx, [(fld, v)], upd_same, ?_, ?_, ?_⟩⟩⟩
  · rw [upd_ne ne, upd_same]
  · rw [upd_ne ne] at ndx
    exact ndx
  · have nd1 : H1 dx = none := by
      rw [upd_ne ne] at ndx
      exact ndx
    rw [exo_end na ne]
    have sg := same_new (o := HO.xd [(fld, v)]) ((Frm.same f1).free nd1)
    exact E.ex ⟨x, some ([fld], [d])⟩ σ ρ s1 _ _ (.ref C) (some dx) h1 (e1.trans sg) ((hρ.mono e1).mono sg) (Frm.ext f1 nd1) ⟨hm, dx, [v], rfl, upd_same, rfl, .cons (rv.mono sg) .nil⟩
/-! ### try: .. except C as n: .. -/
/-- within the suite: the error that it holds -/
def ExF (K : PySem.W.Frag) (mg : Str → Option Value) (Φ : OH → Hp → Hp → Prop) (cls : Value) (d : Option Addr) (x : Exn) : OH → Hp → Hp → Prop := fun O G H => Φ O G H ∧ ExR K mg G cls d x
instance {K : PySem.W.Frag} {mg : Str → Option Value} {Φ : OH → Hp → Hp → Prop} [F : OFrm K mg Φ] {cls : Value} {d : Option Addr} {x : Exn} : OFrm K mg (ExF K mg Φ cls d x) where
  same := fun h => F.same h.1
  ext := fun h n => ⟨F.ext h.1 n, h.2.mono (same_new ((F.same h.1).free n))⟩
  own := fun h o => F.own h.1 o
  new := fun h n r => ⟨F.new h.1 n r, h.2⟩
  put := fun h o r => ⟨F.put h.1 o r, h.2⟩
  frz := fun h o => by
    obtain ⟨G', s, p, r⟩ := F.frz h.1 o
    exact ⟨G', s, ⟨p, h.2.mono s⟩, r⟩
  less := fun h l => ⟨F.less h.1 l, h.2⟩
def sTry (cl : Exn → Option Bool) (i : Nat) (mb : MS OH) (ms : Addr → Exn → MS OH) : MS OH := fun M ρ O =>
  mb { M with ex := fun x ρ' O' => ∃ b, cl x = some b ∧ (b = true → ∀ a, ms a x { nx := fun ρ2 O2 => M.nx (ρ2.set i none) O2, rt := M.rt, bk := fun ρ2 O2 => M.bk (ρ2.set i none) O2, ct := fun ρ2 O2 => M.ct (ρ2.set i none) O2, ex := fun _ _ _ => False } (ρ'.set i (some (.loc a))) O') ∧ (b = false → M.ex x ρ' O') } ρ O
theorem ds_try {x n : Str} {c : Value} {cl : Exn → Option Bool} {i : Nat} {body suite : List Stmt} {b₀ : Stmt} {np pos pos' : Pos} {tb : WX → TS} {ts : Addr → Value → Option Addr → TS} {mb : MS OH} {ms : Addr → Exn → MS OH}
    (hs : X.stack = X.env :: X.outer) (hf : X.env.frame = some X.env.locals) (hN : X.N.Nodup) (hi : X.N[i]? = some n) (hln : X.env.kindOf n = some .local) (hc : Names X x c) (tk : Takes X W)
    (hcl : ∀ (x : Exn) (b : Bool) (cls : Value), X.mg x.cls = some cls → cl x = some b → PySem.W.exmOne X.K cls c = some b)
    (hb : ∀ (W' : WX) (pn : List (Addr × Obj)) (xe : Value → Shared → Prop), Takes (X.tr pn xe) W' → PassesOwn (model X.prog X.w) X.A X.env xe → DSs (X.tr pn xe) Φ W' body (tb W') mb)
    (hsu : ∀ (a : Addr) (oe : Obj) (cls : Value) (d : Option Addr) (pn : List (Addr × Obj)) (x : Exn), Zc cls d oe → (∃ vs, oe.data = .fields vs) → DSs (X.suite a ((a, oe) :: pn)) (ExF X.K X.mg Φ cls d x) W0 (b₀ :: suite) (ts a cls d) (ms a x)) :
    DS X Φ W (.Try body [.ExceptHandler (some (.Name x np)) (some n) (b₀ :: suite) pos'] [] [] pos) (fun D σ H => tb (wAs X.K c i ts W D) D σ H) (sTry cl i mb ms) := by
  refine ⟨ps_try_as hs hf hN hi hln hc tk (fun W' pn xe t p => (hb W' pn xe t p).pss) (fun a oe cls d pn hz hd => (hsu a oe cls d pn ⟨x, none⟩ hz hd).pss), fun σ ρ s G H D M hρ f hm E => ?_⟩
  have tk0 : Takes (X.tr [] fun e s₁ => wpAny (model X.prog X.w) X.A (noteFrame e X.env) (fun _ s₂ => wpAny (model X.prog X.w) X.A (setFlight e none) (fun _ _ => True) (fun _ _ => True) s₂) (fun _ _ => True) s₁) (wAs X.K c i ts W D) := by
    intro u s' ⟨a, B, sI, pins, σ', H', cls, d, eu, J, nb, up, sky, rest⟩
    subst eu
    have hfr : X.A.frames = some (X.env :: X.outer) := (show X.A.frames = some X.stack from J.ok.frames).trans (by rw [hs])
    have sky' : Sky B (X.env :: X.outer) a (Zc cls d) X.env.locals s'.heap := by
      rw [← hs]
      exact sky
    exact Sky.land (Q := fun _ _ => True) Zc.steady hfr hf sky' fun _ _ _ => trivial
  refine (hb (wAs X.K c i ts W D) [] _ tk0 PassesOwn.looking).sem σ ρ s G H D _ hρ f hm ⟨E.nx, E.rt, E.bk, E.ct, fun z σ1 ρ1 O1 G1 H1 cls d ⟨b, hb1, hyes, hno⟩ e1 r1 f1 xr => ?_⟩
  refine ⟨b, hcl z b cls xr.1 hb1, fun e a na => ?_, fun e => E.ex z σ1 ρ1 O1 G1 H1 cls d (hno e) e1 r1 f1 xr⟩
  have su := hsu a ⟨cls, d, .fields #[], #[]⟩ cls d [] z ⟨rfl, rfl⟩ ⟨_, rfl⟩
  exact su.sem _ _ O1 G1 H1 _ _ (r1.set i (.loc a)) ⟨f1, xr⟩ (hyes e a)
    ⟨fun σ2 ρ2 O2 G2 H2 p e2 r2 f2 => E.nx _ _ O2 G2 H2 p (e1.trans e2) (r2.drop i none) f2.1, fun d O2 v G2 H2 p e2 f2 => E.rt d O2 v G2 H2 p (e1.trans e2) f2.1,
      fun σ2 ρ2 O2 G2 H2 p e2 r2 f2 => E.bk _ _ O2 G2 H2 p (e1.trans e2) (r2.drop i none) f2.1, fun σ2 ρ2 O2 G2 H2 p e2 r2 f2 => E.ct _ _ O2 G2 H2 p (e1.trans e2) (r2.drop i none) f2.1, fun _ _ _ _ _ _ _ _ p => p.elim⟩
/-- a body's reading as its need -/
def cS (K : PySem.W.Frag) (mg : Str → Option Value) (Φ : OH → Hp → Hp → Prop) (W : WX) (m : MS OH) : TS := fun D σ H => ∃ (ρ : Rho) (O : OH) (G : Hp) (M : MEnds OH), RelE K mg G σ ρ ∧ Φ O G H ∧ m M ρ O ∧ EndsOk Φ W K mg G M D
def cSx (K : PySem.W.Frag) (mg : Str → Option Value) (Φ : OH → Hp → Hp → Prop) (ms : Addr → Exn → MS OH) (a : Addr) (cls : Value) (d : Option Addr) : TS := fun D σ H => ∃ x, cS K mg (ExF K mg Φ cls d x) W0 (ms a x) D σ H
theorem ds_tryE {x n : Str} {c : Value} {cl : Exn → Option Bool} {i : Nat} {body suite : List Stmt} {b₀ : Stmt} {np pos pos' : Pos} {mb : MS OH} {ms : Addr → Exn → MS OH}
    (hs : X.stack = X.env :: X.outer) (hf : X.env.frame = some X.env.locals) (hN : X.N.Nodup) (hi : X.N[i]? = some n) (hln : X.env.kindOf n = some .local) (hc : Names X x c) (tk : Takes X W)
    (hcl : ∀ (x : Exn) (b : Bool) (cls : Value), X.mg x.cls = some cls → cl x = some b → PySem.W.exmOne X.K cls c = some b)
    (hb : ∀ (W' : WX) (pn : List (Addr × Obj)) (xe : Value → Shared → Prop), Takes (X.tr pn xe) W' → PassesOwn (model X.prog X.w) X.A X.env xe → ∃ tb, DSs (X.tr pn xe) Φ W' body tb mb)
    (hsu : ∀ (a : Addr) (oe : Obj) (cls : Value) (d : Option Addr) (pn : List (Addr × Obj)) (x : Exn), Zc cls d oe → (∃ vs, oe.data = .fields vs) → ∃ ts, DSs (X.suite a ((a, oe) :: pn)) (ExF X.K X.mg Φ cls d x) W0 (b₀ :: suite) ts (ms a x)) :
    DS X Φ W (.Try body [.ExceptHandler (some (.Name x np)) (some n) (b₀ :: suite) pos'] [] [] pos) (fun D σ H => cS X.K X.mg Φ (wAs X.K c i (cSx X.K X.mg Φ ms) W D) mb D σ H) (sTry cl i mb ms) := by
  refine ds_try (tb := fun W' => cS X.K X.mg Φ W' mb) (ts := cSx X.K X.mg Φ ms) hs hf hN hi hln hc tk hcl (fun W' pn xe t p => ?_) (fun a oe cls d pn x hz hd => ?_)
  · obtain ⟨tb, h⟩ := hb W' pn xe t p
    exact ⟨⟨fun pins s σ H D I ⟨ρ, O, G, M, r, f, hm, E⟩ => h.pss.run pins s σ H D I (h.sem σ ρ O G H D M r f hm E)⟩, fun σ ρ O G H D M r f hm E => ⟨ρ, O, G, M, r, f, hm, E⟩⟩
  · refine ⟨⟨fun pins s σ H D I ⟨x, ρ, O, G, M, r, f, hm, E⟩ => ?_⟩, fun σ ρ O G H D M r f hm E => ⟨x, ρ, O, G, M, r, f, hm, E⟩⟩
    obtain ⟨ts, h⟩ := hsu a oe cls d pn x hz hd
    exact h.pss.run pins s σ H D I (h.sem σ ρ O G H D M r f hm E)
end
end DL

set_option Elab.async false
set_option linter.all false
set_option maxRecDepth 100000
set_option maxHeartbeats 2000000
namespace DL
open PySem PySem.Spec PyProof.Rows L2

end DL
namespace PySem.W
open PySem PySem.Spec PySem.Calls PyProof.Rows
section
variable {prog : Program} {w : World} {A : Around} {E : Value → Shared → Prop} {s : Shared} {K : Frag} {x D : Addr} {ox od : Obj}
/-- an error's class, read off the error: also where it has fields -/
theorem dl_classE {Q : Option Value → Shared → Prop} (hga : findIn K (.ref D) "__getattribute__" = some (some (.builtin "BaseException.__getattribute__"))) (hgt : findIn K (.ref D) "__getattr__" = some none) (hsub : subIn K (.ref D) (.type "BaseException") = some true) (hdct : hasDictIn K D = true)
    (ha : findIn K (.ref D) "__class__" = some (some (.builtin "object.__class__"))) (hn : specialIn K (.builtin "object.__class__") "__get__" = some (some (.builtin "getset_descriptor.__get__"))) (htk : takesIn K (.builtin "object.__class__") = some true) (hm : mroIn K D (.type "object") = some true)
    (X : K.In s.heap) (I : InstAt s.heap x ox D (some od)) (h : Q (some (.ref D)) { s with toks := s.toks + 1 }) : wpAny (model prog w) A (getAttr? (.ref x) "__class__") Q E s := by
  have hc : (clsIn K D).isSome = true := by
    obtain ⟨cd, hc, _⟩ := any_some hdct
    rw [hc]
    rfl
  have hf : findObj K D (some od) "__class__" = some (.bind (.builtin "getset_descriptor.__get__") (.builtin "object.__class__")) := findObj_data hc ha hn htk
  obtain ⟨hp, g, d, t, os⟩ := s
  have La := I.type (M := model prog w)
  have Lb := looks_findIn (M := model prog w) X hga
  have Lc := looks_findIn (M := model prog w) X hgt
  have Ld := looks_find (M := model prog w) X I hf
  have isB : Looks (model prog w) hp (isInstance (.ref x) (.type "BaseException")) true := La.andThen (looks_subIn X hsub)
  have u2 : (Value.builtin "BaseException.__getattribute__" == Value.builtin "object.__getattribute__") = false := by decide +kernel
  have u1 : (onTheHeap (Value.ref D) && Value.builtin "BaseException.__getattribute__" == Value.builtin "object.__getattribute__") = false := by rw [u2] <;> rfl
  unfold getAttr? getAttrBy? getAttrBy
  refine wpAny_bind (wpAny_mkText (wpAny_bind (wpAny_attempt (wpAny_holding (wpAny_bind (La.at (wpAny_bind (Lb.at ?_))))))))
  show wpAny _ _ (if (onTheHeap (Value.ref D) && Value.builtin "BaseException.__getattribute__" == Value.builtin "object.__getattribute__") = true then _ else _) _ _ _
  rw [u1, if_neg Bool.false_ne_true]
  unfold getAttrByItsOwn hookBefore
  rw [if_pos (show onTheHeap (Value.ref D) = true from rfl)]
  refine wpAny_bind (Lc.at (wpAny_bind (wpAny_attempt (wpAny_holding ?_))))
  unfold callGetattribute
  rw [show (false && onTheHeap (Value.builtin "BaseException.__getattribute__")) = false from rfl, if_neg Bool.false_ne_true]
  unfold boundAndCalled
  rw [PySem.F.excAttr_ValueError.ga.bind (.ref x)]
  refine wpAny_bind (wpAny_pure ?_)
  show wpAny _ _ (call (.builtin "BaseException.__getattribute__") [.ref x, .str "__class__" t]) _ _ _
  refine wpAny_call (codeAny_call_builtin PySem.F.excAttr_ValueError.ga.plain PySem.F.entry_bexc_ga
    (@check_slot (model prog w) _ _ ⟨hp, g, d, t + 1, os⟩ "BaseException.__getattribute__" "BaseException" "__getattribute__" (.ref x) [.str "__class__" t] [] _
      (by decide +kernel) (by decide +kernel) isB (PySem.F.args_bexc_ga (.ref x) (.str "__class__" t)) ?_))
  unfold Builtin.«object.__getattribute__»
  refine wpAny_bind (wpAny_of_eq (a := ((Value.ref x : Value), [Value.str "__class__" t])) (by first | rfl | (simp only [slotArgs]; rfl)) ?_)
  refine wpAny_bind (wpAny_pure (wpAny_bind (La.at (wpAny_bind (Ld.at ?_)))))
  show wpAny _ _ (holding [Value.builtin "object.__class__"] (call (.builtin "getset_descriptor.__get__") [.builtin "object.__class__", .ref x, .ref D]) >>= ret) _ _ _
  refine wpAny_bind (wpAny_holding (wpAny_call (class_get (s := ⟨hp, g, d, t + 1, os⟩) (ox := ox) (od := some od) X I hm ?_)))
  refine wpAny_pure ?_
  show wpAny _ _ (handedOut (.ref D)) _ _ _
  rw [handedOut_of (v := .ref D) rfl]
  first
    | exact wpAny_pure (wpAny_pure h)
    | exact wpAny_pure h
    | exact wpAny_pure (wpAny_bind (wpAny_pure (wpAny_pure h)))
theorem dl_kitE (hga : findIn K (.ref D) "__getattribute__" = some (some (.builtin "BaseException.__getattribute__"))) (hgt : findIn K (.ref D) "__getattr__" = some none) (hsub : subIn K (.ref D) (.type "BaseException") = some true) (hdct : hasDictIn K D = true) (ha : findIn K (.ref D) "__class__" = some (some (.builtin "object.__class__")))
    (hn : specialIn K (.builtin "object.__class__") "__get__" = some (some (.builtin "getset_descriptor.__get__"))) (htk : takesIn K (.builtin "object.__class__") = some true) (hm : mroIn K D (.type "object") = some true) :
    KitX K (.ref x) (.ref D) (fun h => InstAt h x ox D (some od)) := by
  have key : ∀ h : Heap, K.In h → ∃ o cd, h.get? D = some o ∧ o.data = .cls cd := fun h X => by
    obtain ⟨cdD, hcD, _⟩ := any_some hdct
    unfold clsIn at hcD
    split at hcD
    · rename_i c' d' cd' sl' ho
      exact ⟨_, cd', X _ _ ho, rfl⟩
    · cases hcD
  refine ⟨fun _ _ _ I => I.type, fun _ _ X _ => ?_, fun h tp dd its n sl X htp => ?_, fun X I k => dl_classE hga hgt hsub hdct ha hn htk hm X I k⟩
  · obtain ⟨o, cd, ho, hd⟩ := key _ X
    intro A' Q' E' s' k q
    unfold isType loadHead
    refine wpAny_bind (wpAny_loadPart (k _ _ ho) ?_)
    rw [hd]
    exact wpAny_pure q
  · refine Bool.eq_false_iff.mpr fun q => ?_
    have e : D = tp := Value.ref.inj (beq_iff_eq.mp q)
    subst e
    obtain ⟨o, cd, ho, hd⟩ := key _ X
    rw [ho] at htp
    cases htp
    cases hd
end
end PySem.W
namespace DL
open PySem PySem.Spec PyProof.Rows L2
/-- isinstance(e, c), e the error that the suite holds -/
theorem call_isX {X : Cx} {a D : Addr} {d : Option Addr} {oe : Obj} {pn : List (Addr × Obj)} (C : ExcC X.K D) (hz : Zc (.ref D) d oe) (hf : ∃ vs, oe.data = .fields vs) :
    CallR (X.suite a ((a, oe) :: pn)) (.builtin "isinstance") (fun xs H Q => ∃ (c : V) (cv : Value) (b : Bool), xs = [.ref a, c] ∧ (∀ u, RelV c u → u = cv) ∧ (∃ dd fs, d = some dd ∧ H dd = some (.xd fs)) ∧ PySem.W.kitOne X.K (.ref D) cv = some b ∧ Q (.bl b) H) := by
  intro pins s σ H xs us Q I r ⟨c, cv, b, ex, hcv, hd, e, q⟩
  subst ex
  obtain ⟨u1, u2, rfl, r1, r2⟩ := vals2 r
  cases r1
  have ec := hcv _ r2
  subst ec
  have hget := (I.pin (a, oe) (List.mem_append.mpr (.inl List.mem_cons_self))).1
  obtain ⟨vs, hv⟩ := hf
  have J : ∃ od, PySem.W.InstAt s.heap a oe D (some od) := by
    obtain ⟨oc, odd, oda, osl⟩ := oe
    obtain ⟨h1, h2⟩ := hz
    dsimp only at h1 h2 hv
    subst h1 h2 hv
    obtain ⟨dd, fs, ed, hH⟩ := hd
    subst ed
    obtain ⟨mA, hns, _⟩ := (show ObjOk X.prog X.w H s.heap dd (.xd fs) from I.hok dd _ hH)
    obtain ⟨od, ho, _⟩ := lookIn_ns hns
    exact ⟨od, hget, rfl, rfl, ho⟩
  obtain ⟨od, J⟩ := J
  exact PySem.W.kia_one (PySem.W.dl_kitE C.hg C.hk C.hs C.hd C.ha C.hn C.ht C.hm) I.kIn J e (fun z => nomatch z) fun tk => ⟨.bl b, H, I.kept (t' := tk) fun _ _ z => z, rfl, q⟩
/-- what is told of an error's class, for its fields -/
structure XcT (K : PySem.W.Frag) (C : Addr) (f : Str) : Prop where
  ga : PySem.W.findIn K (.ref C) "__getattribute__" = some (some (.builtin "BaseException.__getattribute__"))
  gg : PySem.W.findIn K (.ref C) "__getattr__" = some none
  noN : PySem.W.findIn K (.ref C) f = some none
  exC : PySem.W.subIn K (.ref C) (.type "BaseException") = some true
  hdC : PySem.W.hasDictIn K C = true
section
variable {X : Cx} {Φ : OH → Hp → Hp → Prop} [FΦ : OFrm X.K X.mg Φ]
def mXf (C f : Str) (a : Addr) (x : Exn) (m : ME OH) : ME OH := fun ρ O P R => m ρ O (fun y O1 => y = .loc a ∧ x.cls = C ∧ ∃ ns ds d, x.fs = some (ns, ds) ∧ lookD f ns ds = some d ∧ P d O1) R
theorem de_xfld {a C : Addr} {oe : Obj} {cls : Value} {d : Option Addr} {pn : List (Addr × Obj)} {x : Exn} {Cn f : Str} {e : Expr} {te : TE} {m : ME OH} {W : WX} {pos : Pos} (T : XcT X.K C f) (hC : X.mg Cn = some (.ref C)) (hz : Zc cls d oe) (hf : ∃ vs, oe.data = .fields vs)
    (h : DE (X.suite a ((a, oe) :: pn)) (ExF X.K X.mg Φ cls d x) W e te m) (hb : attributeBase e f X.env (eval e X.env) = eval e X.env := by rfl) :
    DE (X.suite a ((a, oe) :: pn)) (ExF X.K X.mg Φ cls d x) W (.Attribute e f pos) (fun σ H Q => te σ H fun v H1 => v = .ref a ∧ cls = .ref C ∧ ∃ dd fs u, d = some dd ∧ H1 dd = some (.xd fs) ∧ fs.lookup f = some u ∧ Q u H1) (mXf Cn f a x m) := by
  refine ⟨⟨fun pins s σ H Q I hh => attr_of hb (thn (h.pe.run pins s σ H _ I hh) fun u s1 ⟨v, H1, I1, rv, ev, ec, dd, fs, y, ed, hH, hl, q⟩ => ?_)⟩, fun σ ρ O G H Q P R hρ f0 hW hm k => h.sem σ ρ O G H _ _ R hρ f0 hW hm fun y O1 v G1 H1 ⟨ey, ex, ns, ds, dt, efs, hl, p⟩ e1 f1 r1 => ?_⟩
  · subst ev
    cases (show u = Value.ref a from rv)
    subst ec
    subst ed
    have ha := (I1.pin (a, oe) (List.mem_append_left _ List.mem_cons_self)).1
    obtain ⟨vs, hdat⟩ := hf
    obtain ⟨mA, hns, hr⟩ := (show ObjOk X.prog X.w H1 s1.heap dd (.xd fs) from I1.hok dd _ hH)
    obtain ⟨od, ho, hlk⟩ := lookIn_ns hns
    obtain ⟨z, hz2, rz⟩ := RelO.some_of (v := y) (o := mA f) (by rw [← hl]; exact hr f)
    have J : PySem.W.InstAt s1.heap a oe C (some od) := ⟨ha, hz.1, by unfold PySem.W.notCls; rw [hdat] <;> rfl, by rw [hz.2]; exact ho⟩
    exact HandSPX.exc_get I1.kIn J T.ga T.gg T.exC (PySem.W.findObj_own T.hdC T.noN rfl (by rw [hlk, hz2])) (handed_of rz) ⟨y, H1, I1.tok _, rz, q⟩
  · subst ey
    have f1' := f1
    cases r1
    obtain ⟨f1, xc, xf⟩ := f1
    rw [efs] at xf
    obtain ⟨dd, vs, ed, hG, hlen, rl⟩ := xf
    rw [ex] at xc
    have xc' : X.mg Cn = some cls := xc
    rw [hC] at xc'
    cases xc'
    obtain ⟨u, hu, ru⟩ := lookD_rp rl hl
    exact ⟨rfl, rfl, dd, _, u, ed, FΦ.same f1 _ _ hG, hu, k _ O1 u G1 H1 p e1 f1' ru⟩
/-- isinstance(e, C) of the error that the suite holds -/
def mIsX (C : Str) (tb : Exn → Option Bool) (a : Addr) (x : Exn) (m : ME OH) : ME OH := fun ρ O P R => x.cls = C ∧ m ρ O (fun y O1 => y = .loc a ∧ (∃ z, x.fs = some z) ∧ ∃ b, tb x = some b ∧ P (.bl b) O1) R
theorem de_isX {a c : Addr} {oe : Obj} {cls : Value} {d : Option Addr} {pn : List (Addr × Obj)} {x : Exn} {D : Addr} {Dn : Str} {tb : Exn → Option Bool} {e : Expr} {te : TE} {m : ME OH} {W : WX} {p p2 pos : Pos} {xn : Str} (T : ExcC X.K D) (hD : X.mg Dn = some (.ref D))
    (htb : ∀ b, tb x = some b → PySem.W.kitOne X.K (.ref D) (.ref c) = some b) (hz : Zc cls d oe) (hf : ∃ vs, oe.data = .fields vs) (hg : Gl X "isinstance") (hm : X.mg "isinstance" = none) (hgx : Gl X xn) (hx : X.mg xn = some (.ref c))
    (h : DE (X.suite a ((a, oe) :: pn)) (ExF X.K X.mg Φ cls d x) W e te m) (hd : (xn == ("__debug__" : Str)) = false := by decide)
    (h1 : starEach [e, .Name xn p2] X.env = (false, eval e X.env) :: starEach [.Name xn p2] X.env := by rfl) (h2 : starEach [.Name xn p2] X.env = (false, eval (.Name xn p2) X.env) :: starEach [] X.env := by rfl) (hpl : (backTo pos (starEach [.Name xn p2] X.env)).any (·.1) = false := by rfl) :
    DE (X.suite a ((a, oe) :: pn)) (ExF X.K X.mg Φ cls d x) W (.Call (.Name "isinstance" p) [e, .Name xn p2] [] pos) (fun σ H Q => cls = .ref D ∧ (tCB (fun xs H Q => ∃ (c : V) (cv : Value) (b : Bool), xs = [.ref a, c] ∧ (∀ u, RelV c u → u = cv) ∧ (∃ dd fs, d = some dd ∧ H dd = some (.xd fs)) ∧ PySem.W.kitOne X.K (.ref D) cv = some b ∧ Q (.bl b) H) (tCons te (tCons (tC (.ref c)) tNil))) σ H Q) (mIsX Dn tb a x m) := by
  refine ⟨⟨fun pins s σ H Q I ⟨ec, hh⟩ => ?_⟩, fun σ ρ O G H Q P R hρ f0 hW ⟨ex, hm⟩ k => ?_⟩
  · subst ec
    exact (pe_callB (X := X.suite a ((a, oe) :: pn)) (call_isX T hz hf) hg hm (by decide +kernel) (pa_cons h.pe (pa_cons (show PE (X.suite a ((a, oe) :: pn)) (.Name xn p2) (tC (.ref c)) from pe_glob (X := X.suite a ((a, oe) :: pn)) hgx hx rfl hd) pa_nil h2) h1) (by decide) (by decide) h1 hpl).run pins s σ H Q I hh
  have xc0 : X.mg x.cls = some cls := f0.2.1
  rw [ex, hD] at xc0
  cases xc0
  refine ⟨rfl, h.sem σ ρ O G H _ _ R hρ f0 hW hm fun y O1 v G1 H1 ⟨ey, hfs, b, hb, p⟩ e1 f1 r1 => ?_⟩
  subst ey
  cases r1
  refine ⟨.ref c, .ref c, b, rfl, fun u hu => hu, ?_, htb b hb, k _ O1 _ G1 H1 p e1 f1 (.bl b)⟩
  obtain ⟨f1, xc, xf⟩ := f1
  obtain ⟨z, q⟩ := hfs
  rw [q] at xf
  obtain ⟨d2, vs, ed2, hG, _⟩ := xf
  exact ⟨d2, _, ed2, FΦ.same f1 _ _ hG⟩
end
/-! ### a == b by an own __eq__ -/
section
variable {X : Cx} {Φ : OH → Hp → Hp → Prop} {W : WX} [FΦ : OFrm X.K X.mg Φ]
/-- the other's type, as == looks at it -/
structure EqT (K : PySem.W.Frag) (mg : Str → Option Value) (C : Addr) (ok : D → Prop) : Prop where
  tb : ∀ (G H : Hp) (v : V) (d : D), Same G H → Rp K mg G v d → ok d → ∃ t, TyX K H v t ∧ PySem.W.notFirst K C t = true
def mEqI (C : Str) (g : WF) (ok : D → Prop) (ma mb : ME OH) : ME OH := fun ρ O P R => ma ρ O (fun a O1 => mb ρ O1 (fun b O2 => ∃ ns ds, a = .ins C ns ds ∧ ok b ∧ g [a, b] O2 (fun d O3 => ∃ k, d = .bl k ∧ P d O3) R) R) R
theorem de_eqI {k : Nat} {C f : Addr} {Cn : Str} {fd : FuncData} {n1 n2 : Str} {g : WF} {ok : D → Prop} {a b : Expr} {ta tb : TE} {ma mb : ME OH} {pos : Pos} (hC : X.mg Cn = some (.ref C)) (hs : PySem.W.findIn X.K (.ref C) "__eq__" = some (some (.ref f))) (hf : PySem.W.isFn X.K (.ref f) = true)
    (T : EqT X.K X.mg C ok) (F : FnG X.prog X.w X.K X.mg X.base k f fd [n1, n2] g) (hr : Rm k X) (hb : Binds X.K fd [n1, n2] []) (tk : Takes X W) (ha : DE X Φ W a ta ma) (hb' : DE X Φ W b tb mb) :
    DE X Φ W (.Compare a [.Eq] [b] pos) (fun σ H Q => ta σ H fun x H1 => tb σ H1 fun y H2 => ∃ p dx fs t, x = .ref p ∧ H2 p = some (.ins C dx fs) ∧ TyX X.K H2 y t ∧ PySem.W.notFirst X.K C t = true ∧ spO X.K X.mg 2 g [x, y] H2 (fun v H3 => ∃ k, v = .bl k ∧ Q v H3) (WE W σ)) (mEqI Cn g ok ma mb) := by
  refine ⟨⟨fun pins s σ H Q I h => ?_⟩, fun σ ρ O G H Q P R hρ f0 hW hm k => ?_⟩
  · refine wpAny_Compare1 (binT ha.pe hb'.pe I h fun u v s2 x y H2 I2 ru rv ⟨p, dx, fs, t, ex, hp, ty, nf, q⟩ => ?_) (nomark _)
    subst ex
    cases (show u = Value.ref p from ru)
    obtain ⟨mA, J, _⟩ := ins_get I2.hok hp
    obtain ⟨od, J, _⟩ := J.look
    obtain ⟨Pk, Z, pz, hx⟩ := kit_of I2 rv ty
    obtain ⟨m, hF⟩ := I2.fr
    show wpAny (model X.prog X.w) X.A (richCompare .Eq (.ref p) v) (EP X pins σ Q) X.xe s2
    refine PySem.W.cmp_K (op := .Eq) (tb := t) hr.room.units0 hF I2.ok.mod.kin J (Z.ty _ _ I2.kIn pz) nf hs hf ?_
    have go := runS (us := [.ref p, v]) (vs := [.ref p, y]) (dvs := []) (dflt := []) F hr hb .nil (passAt tk σ) I2 (.cons rfl (.cons rv .nil)) q
    refine thn go fun r s3 ⟨z, H3, I3, rz, kk, ez, q3⟩ => ?_
    subst ez
    cases rz
    exact ⟨.bl kk, H3, I3, rfl, q3⟩
  · refine ha.sem σ ρ O G H _ _ R hρ f0 hW hm fun x s1 u G1 H1 h1 e1 f1 r1 => ?_
    refine hb'.sem σ ρ s1 G1 H1 _ _ R (hρ.mono e1) f1 (hW.mono e1) h1 fun y s2 v G2 H2 ⟨ns, ds, ex, oky, hg⟩ e2 f2 r2 => ?_
    subst ex
    have r3 := r1.mono e2
    have r4 := r3
    obtain ⟨t, ty, nf⟩ := T.tb G2 H2 v y (Frm.same f2) r2 oky
    cases r3 with
    | ins mC hG hl rl =>
      rw [hC] at mC
      cases mC
      refine ⟨_, _, _, t, rfl, Frm.same f2 _ _ hG, ty, nf, spO_of f2 (.cons r4 (.cons r2 .nil)) rfl hg (fun d s' z G' H' ⟨kk, ed, p⟩ q f' rz => ?_) (hW.mono (e1.trans e2))⟩
      subst ed
      cases rz
      exact ⟨kk, rfl, k _ s' _ G' H' p ((e1.trans e2).trans q) f' (.bl kk)⟩
end
end DL

set_option Elab.async false
set_option linter.all false
set_option maxRecDepth 100000
set_option maxHeartbeats 2000000
namespace DL
open PySem PySem.Spec PyProof.Rows L2

section
variable {X : Cx}
/-! ### == where a list is empty, or of another length: whatever the items are -/
def wEqL : W2 := fun a b P => ∃ x y, a = .lst x ∧ b = .lst y ∧ (x.length ≠ y.length ∨ x = []) ∧ P (.bl (decide (x.length = y.length)))
def rEqL (neg : Bool) : R2 := fun x y H Q => ∃ a b xs ys, x = .ref a ∧ y = .ref b ∧ H a = some (.lst xs) ∧ H b = some (.lst ys) ∧ (xs.length ≠ ys.length ∨ xs = []) ∧ Q (.bl (neg != decide (xs.length = ys.length))) H
theorem op_eqL (hu : X.A.units + 64 < cLine) : OpR X (compareOp .Eq) (rEqL false) := by
  intro pins s σ H x y v u Q I rx ry ⟨a, b, xs, ys, ex, ey, ha, hb, hl, q⟩
  subst ex ey
  cases rx
  cases ry
  obtain ⟨i1, r1, p1, _⟩ := I.list (SqL.of ha)
  obtain ⟨i2, r2, p2, _⟩ := I.list (SqL.of hb)
  have l1 := Vals.length r1
  have l2 := Vals.length r2
  by_cases e : xs.length = ys.length
  · have hx : xs = [] := hl.elim (fun z => absurd e z) id
    subst hx
    have e1 : i1 = [] := List.eq_nil_of_length_eq_zero l1.symm
    have e2 : i2 = [] := List.eq_nil_of_length_eq_zero (by rw [← l2, ← e]; rfl)
    subst e1 e2
    refine SeqAt.eq_listAt (e := fun _ => true) p1.isList p2.isList rfl (by omega) (fun j h1 _ => absurd h1 (by simp)) ⟨.bl true, H, I, rfl, ?_⟩
    rw [decide_eq_true e] at q
    exact q
  · refine SeqAt.eq_list_lengthsAt p1.isList p2.isList (by simpa [← l1, ← l2] using e) (by omega) ⟨.bl false, H, I, rfl, ?_⟩
    rw [decide_eq_false e] at q
    exact q
theorem op_neL (hu : X.A.units + 64 < cLine) : OpR X (compareOp .NotEq) (rEqL true) := by
  intro pins s σ H x y v u Q I rx ry ⟨a, b, xs, ys, ex, ey, ha, hb, hl, q⟩
  subst ex ey
  cases rx
  cases ry
  obtain ⟨i1, r1, p1, _⟩ := I.list (SqL.of ha)
  obtain ⟨i2, r2, p2, _⟩ := I.list (SqL.of hb)
  have l1 := Vals.length r1
  have l2 := Vals.length r2
  by_cases e : xs.length = ys.length
  · have hx : xs = [] := hl.elim (fun z => absurd e z) id
    subst hx
    have e1 : i1 = [] := List.eq_nil_of_length_eq_zero l1.symm
    have e2 : i2 = [] := List.eq_nil_of_length_eq_zero (by rw [← l2, ← e]; rfl)
    subst e1 e2
    rw [decide_eq_true e] at q
    exact SeqAt.RcNeAt.lists (A := X.A) (s := s) (e := fun _ => true) p1.isList p2.isList rfl (by omega) (fun j h1 _ => absurd h1 (by simp)) X.prog X.w X.xe _ ⟨.bl false, H, I, rfl, q⟩
  · rw [decide_eq_false e] at q
    exact SeqAt.RcNeAt.lists_lengths (A := X.A) (s := s) p1.isList p2.isList (by simpa [← l1, ← l2] using e) (by omega) X.prog X.w X.xe _ ⟨.bl true, H, I, rfl, q⟩
theorem eqL_sem {neg : Bool} {x y : V} {a b : D} {G H : Hp} {Q : VK} {P : D → Prop} (ra : Rp X.K X.mg G x a) (rb : Rp X.K X.mg G y b) (sm : Same G H) {u w : List D} (e1 : a = .lst u) (e2 : b = .lst w) (hl : u.length ≠ w.length ∨ u = []) (h : P (.bl (neg != decide (u.length = w.length))))
    (k : ∀ (d : D) (v : V) (G' H' : Hp), P d → L2.Ext G G → True → Rp X.K X.mg G' v d → G' = G → H' = H → Q v H') : rEqL neg x y H Q := by
  subst e1 e2
  cases ra with
  | lst p q =>
    cases rb with
    | lst p' q' =>
      have l1 := q.len
      have l2 := q'.len
      refine ⟨_, _, _, _, rfl, rfl, sm _ _ p, sm _ _ p', hl.elim (fun z => .inl (by rw [l1, l2]; exact z)) (fun z => .inr ?_), ?_⟩
      · subst z
        cases q
        rfl
      · rw [l1, l2]
        exact k _ _ G H h (fun _ _ z => z) trivial (.bl _) rfl rfl
/-- == of data, or of two lists of which one is empty or that are of unlike length -/
def wEq' : W2 := fun a b P => wEq a b P ∨ ∃ x y, a = .lst x ∧ b = .lst y ∧ (x.length ≠ y.length ∨ x = []) ∧ P (.bl (decide (x.length = y.length)))
def wNe' : W2 := fun a b P => wNe a b P ∨ ∃ x y, a = .lst x ∧ b = .lst y ∧ (x.length ≠ y.length ∨ x = []) ∧ P (.bl (!decide (x.length = y.length)))
theorem o_eq' (hu : X.A.units + 64 < cLine) : Op2 X (compareOp .Eq) (fun x y H Q => rEqD X.K x y H Q ∨ rEqL false x y H Q) wEq' := by
  refine ⟨(op_eqD hu).or (op_eqL hu), fun x y a b G H Q P ra rb sm h k => ?_⟩
  rcases h with h | ⟨u, w, e1, e2, hl, h⟩
  · exact .inl ((o_eq hu).sem x y a b G H Q P ra rb sm h k)
  · exact .inr (eqL_sem (P := P) ra rb sm e1 e2 hl (by simpa using h) fun d v G' H' p _ _ r eG eH => by subst eG eH; exact k d v _ _ p .refl r)
theorem o_ne' (hu : X.A.units + 64 < cLine) : Op2 X (compareOp .NotEq) (fun x y H Q => rNeD X.K x y H Q ∨ rEqL true x y H Q) wNe' := by
  refine ⟨(op_neD hu).or (op_neL hu), fun x y a b G H Q P ra rb sm h k => ?_⟩
  rcases h with h | ⟨u, w, e1, e2, hl, h⟩
  · exact .inl ((o_ne hu).sem x y a b G H Q P ra rb sm h k)
  · exact .inr (eqL_sem (P := P) ra rb sm e1 e2 hl (by simpa using h) fun d v G' H' p _ _ r eG eH => by subst eG eH; exact k d v _ _ p .refl r)
/-! ### -a, a ** b -/
def mNeg {S : Type} (m : ME S) : ME S := fun ρ s P R => m ρ s (fun d s1 => ∃ i, d = .int i ∧ P (.int (-i)) s1) R
theorem de_neg {S : Type} {Φ : S → Hp → Hp → Prop} {W : WX} [Frm Φ] {e : Expr} {te : TE} {m : ME S} {pos : Pos} (h : DE X Φ W e te m) : DE X Φ W (.UnaryOp .USub e pos) (tUn (rU fun i => .int (-i)) te) (mNeg m) :=
  ⟨pe_un un_neg h.pe, fun σ ρ s G H Q P R hρ f hW hm k => h.sem σ ρ s G H _ _ R hρ f hW hm fun d s1 v G1 H1 ⟨i, ed, p⟩ e1 f1 r1 => by
    subst ed
    cases r1
    exact ⟨i, rfl, k _ s1 _ G1 H1 p e1 f1 (.int _)⟩⟩
def wPow : W2 := wI CPow fun i j => .int (i ^ j.toNat)
theorem o_pow : Op2 X (binaryOp .Pow) (rI CPow fun i j => .int (i ^ j.toNat)) wPow := wI_sem (fun G i j => .int _) op_pow
/-! ### {} -/
theorem de_dnew {S : Type} {Φ : S → Hp → Hp → Prop} {W : WX} [Frm Φ] {pos : Pos} : DE X Φ W (.Dict [] [] pos) tDNewK (mC (.dic [] []) : ME S) :=
  ⟨pe_dnewK, fun σ ρ s G H Q P R hρ f hW hm k => fun d hd => k _ s _ _ _ hm (same_new ((Frm.same f).free hd)) (Frm.ext f hd) (.dic (vs := []) upd_same rfl .nil)⟩
/-! ### a list or a tuple walked -/
def iSeq (K : PySem.W.Frag) (tl : TE) : TI := fun σ H R => tl σ H fun x H1 => ∃ a, x = .ref a ∧ (((∃ xs, SqL K H1 a xs) ∧ R (Itl K a) H1) ∨ ((∃ xs, SqT K H1 a xs) ∧ R (Itt K a) H1))
theorem pi_seq {tg l : Expr} {tl : TE} (hl : PE X l tl) : PI X tg l (iSeq X.K tl) := by
  refine ⟨fun pins s σ H R I h => thn (hl.run pins s σ H _ I h) fun v s1 ⟨x, H1, I1, r1, a, e, q⟩ => ?_⟩
  subst e
  have one : ∀ (t : TI) (b : V), PI X tg l t → True := fun _ _ _ => trivial
  cases r1
  have nw : ∀ (b : Addr), b ∈ [s1.heap.objs.size] → FpOk X pins H1 b := fun b hb => by
    cases List.mem_singleton.mp hb
    exact I1.fpOk (Nat.le_refl _) (I1.hok.fresh (Nat.le_refl _))
  rcases q with ⟨⟨xs, hq⟩, q⟩ | ⟨⟨xs, hq⟩, q⟩
  · obtain ⟨its, rv, p, hz⟩ := I1.list hq
    exact wpAny_pyIter_list p.isList ⟨s1.heap.objs.size, _, _, _, H1, rfl, I1.kept (t' := s1.toks) (fun b o e => Heap.get?_push_of_some _ e), turn_list a _, ⟨_, Heap.get?_push_size _ rfl, rfl, rfl⟩, nw, q⟩
  · obtain ⟨its, rv, p, hz⟩ := I1.tuple hq
    exact wpAny_pyIter_tuple (show s1.heap.IsTuple a its.toArray from p) ⟨s1.heap.objs.size, _, _, _, H1, rfl, I1.kept (t' := s1.toks) (fun b o e => Heap.get?_push_of_some _ e), turn_tuple a _, ⟨_, Heap.get?_push_size _ rfl, rfl, rfl⟩, nw, q⟩
def mSeq {S : Type} (m : ME S) : MI S := fun ρ s P R => m ρ s (fun d s1 => (∃ ds, d = .lst ds ∧ P ds s1) ∨ (∃ ds, d = .tup ds ∧ P ds s1) ∨ ∃ ds, d = .frz ds ∧ P ds s1) R
theorem y_frz {K : PySem.W.Frag} {mg : Str → Option Value} {G : Hp} {a : Addr} {vs : List V} {ds : List D} (h : SqF K G a vs) (r : RpL K mg G vs ds) : Yields K mg (Itl K a) G ds := fun G' H e e' => by
  have hq : SqL K H a vs := (sqf_mono (e.trans e') h).sql
  have hl := r.len
  refine ⟨fun i hi => ⟨vs, vs[i]'(by omega), hq, by simp [hl, hi]⟩, ⟨vs, hq, by omega⟩, fun i x H' hi ⟨e1, y⟩ => ?_⟩
  subst e1
  obtain ⟨d, h1, h2⟩ := r.atV (y vs hq)
  exact ⟨G', .refl, d, h1, h2.mono e⟩
theorem di_seq {S : Type} {Φ : S → Hp → Hp → Prop} {W : WX} [Frm Φ] {tg l : Expr} {tl : TE} {m : ME S} (h : DE X Φ W l tl m) : DI X Φ W tg l (iSeq X.K tl) (mSeq m) :=
  ⟨pi_seq h.pe, fun σ ρ s G H Q P R hρ f hW hm k => h.sem σ ρ s G H _ _ R hρ f hW hm fun d s1 v G1 H1 hd e1 f1 r1 => by
    rcases hd with ⟨ds, ed, p⟩ | ⟨ds, ed, p⟩ | ⟨ds, ed, p⟩
    · subst ed
      cases r1 with
      | lst q rl => exact ⟨_, rfl, .inl ⟨⟨_, SqL.of (Frm.same f1 _ _ q)⟩, k ds s1 _ G1 H1 p e1 f1 (y_list q rl)⟩⟩
    · subst ed
      cases r1 with
      | tup q rl => exact ⟨_, rfl, .inr ⟨⟨_, sqt_mono (Frm.same f1) q⟩, k ds s1 _ G1 H1 p e1 f1 (y_tup q rl)⟩⟩
    · subst ed
      cases r1 with
      | frz q rl => exact ⟨_, rfl, .inl ⟨⟨_, (sqf_mono (Frm.same f1) q).sql⟩, k ds s1 _ G1 H1 p e1 f1 (y_frz q rl)⟩⟩⟩
section
variable {Φ : OH → Hp → Hp → Prop} {W : WX} [FΦ : OFrm X.K X.mg Φ]
/-- a == b by an own __eq__, as a test -/
theorem dt_eqI {k : Nat} {C f : Addr} {Cn : Str} {fd : FuncData} {n1 n2 : Str} {g : WF} {ok : D → Prop} {a b : Expr} {ta tb : TE} {ma mb : ME OH} {pos : Pos} (hC : X.mg Cn = some (.ref C)) (hs : PySem.W.findIn X.K (.ref C) "__eq__" = some (some (.ref f))) (hf : PySem.W.isFn X.K (.ref f) = true)
    (T : EqT X.K X.mg C ok) (F : FnG X.prog X.w X.K X.mg X.base k f fd [n1, n2] g) (hr : Rm k X) (hb : Binds X.K fd [n1, n2] []) (tk : Takes X W) (ha : DE X Φ W a ta ma) (hb' : DE X Φ W b tb mb) :
    DT X Φ W (.Compare a [.Eq] [b] pos) (tTest (fun σ H Q => ta σ H fun x H1 => tb σ H1 fun y H2 => ∃ p dx fs t, x = .ref p ∧ H2 p = some (.ins C dx fs) ∧ TyX X.K H2 y t ∧ PySem.W.notFirst X.K C t = true ∧ spO X.K X.mg 2 g [x, y] H2 (fun v H3 => ∃ k, v = .bl k ∧ Q v H3) (WE W σ))) (mTest (mEqI Cn g ok ma mb)) := by
  have d := de_eqI (pos := pos) hC hs hf T F hr hb tk ha hb'
  refine ⟨⟨fun pins s σ H Q I h => ?_⟩, fun σ ρ s G H _ _ R hρ f hW hm k => d.sem σ ρ s G H _ _ R hρ f hW hm fun y s' v G' H' ⟨c, e, p⟩ q1 q2 q3 => by
    subst e
    exact ⟨c, rp_bl q3, k c s' G' H' p q1 q2⟩⟩
  refine wpAny_isTrue_Compare1 (binT ha.pe hb'.pe I h fun u v s2 x y H2 I2 ru rv ⟨p, dx, fs, t, ex, hp, ty, nf, q⟩ => ?_) (nomark _)
  subst ex
  cases (show u = Value.ref p from ru)
  obtain ⟨mA, J, _⟩ := ins_get I2.hok hp
  obtain ⟨od, J, _⟩ := J.look
  obtain ⟨Pk, Z, pz, hx⟩ := kit_of I2 rv ty
  obtain ⟨m, hF⟩ := I2.fr
  show wpAny (model X.prog X.w) X.A (richCompare .Eq (.ref p) v) _ X.xe s2
  refine PySem.W.cmp_K (op := .Eq) (tb := t) hr.room.units0 hF I2.ok.mod.kin J (Z.ty _ _ I2.kIn pz) nf hs hf ?_
  have go := runS (us := [.ref p, v]) (vs := [.ref p, y]) (dvs := []) (dflt := []) F hr hb .nil (passAt tk σ) I2 (.cons rfl (.cons rv .nil)) q
  refine thn go fun r s3 ⟨z, H3, I3, rz, kk, ez, c, ec, q3⟩ => ?_
  subst ez
  cases ec
  cases rz
  exact wpAny_truthy_bool ⟨H3, I3, q3⟩
end
/-! ### a list of lists, made one's own: whatever held it as a tree is forgotten -/
/-! ### repr of an instance, by its own __repr__ -/
section
variable {Φ : OH → Hp → Hp → Prop} {W : WX} [FΦ : OFrm X.K X.mg Φ]
def mReprI (C : Str) (g : WF) (m : ME OH) : ME OH := fun ρ O P R => m ρ O (fun x O1 => ∃ ns ds, x = .ins C ns ds ∧ g [x] O1 (fun d O2 => ∃ y, d = .str y ∧ P d O2) R0) R
theorem cr_reprI {k : Nat} {C f : Addr} {fd : FuncData} {n : Str} {g : WF} (c : Cls X.K C) (hs : PySem.W.findIn X.K (.ref C) "__repr__" = some (some (.ref f))) (hf : PySem.W.isFn X.K (.ref f) = true) (F : FnG X.prog X.w X.K X.mg X.base k f fd [n] g) (hr : Rm (k + 1) X) (hb : Binds X.K fd [n] []) :
    CallR X (.builtin "repr") (fun vs H Q => ∃ a dx fs, vs = [.ref a] ∧ H a = some (.ins C dx fs) ∧ spO X.K X.mg 1 g [.ref a] H (fun v H' => ∃ y, v = .str y ∧ Q v H') E0) := by
  intro pins s σ H vs us Q I r ⟨a, dx, fs, ev, ha, q⟩
  subst ev
  obtain ⟨u, rfl, ru⟩ := vals1 r
  cases (show u = Value.ref a from ru)
  obtain ⟨mA, J, _⟩ := ins_get I.hok ha
  obtain ⟨od, J, _⟩ := J.look
  obtain ⟨m, hF⟩ := I.fr
  have hl : ([Value.ref a] ++ []).length = [n].length := rfl
  have go := F.run X.A.in1 X.stack s H ⟨[.ref a], []⟩ [.ref a] [.ref a] _ E0 hr.room.in1 hr.gd I.env0.in1 (hb s [.ref a] I.kIn hl) (.cons rfl .nil) q
  refine PySem.W.repr_K (by have := hr.room.units; show X.A.units + 1 < _; omega) hF I.ok.mod.kin J hs hf (wpAny_call (codeAny_mono go fun r s' hq => ?_))
  match r, hq with
  | .error er, hq => exact (passL (X := X.nox) pins σ H s er s' (I.wish _) hq).elim
  | .ok (.ret u), hq =>
    obtain ⟨v, H', I3, rv, y, ev, q3⟩ := I.after hq
    subst ev
    obtain ⟨t, rfl⟩ := rv
    exact ⟨.str y, H', I3, ⟨t, rfl⟩, q3⟩
  | .ok .next, hq => exact hq.elim
  | .ok .brk, hq => exact hq.elim
  | .ok .cont, hq => exact hq.elim
theorem de_reprI {k : Nat} {C f : Addr} {Cn : Str} {fd : FuncData} {n : Str} {g : WF} {e : Expr} {te : TE} {m : ME OH} {p pos : Pos} (c : Cls X.K C) (hC : X.mg Cn = some (.ref C)) (hs : PySem.W.findIn X.K (.ref C) "__repr__" = some (some (.ref f))) (hf : PySem.W.isFn X.K (.ref f) = true)
    (F : FnG X.prog X.w X.K X.mg X.base k f fd [n] g) (hr : Rm (k + 1) X) (hb : Binds X.K fd [n] []) (hg : Gl X "repr") (hm : X.mg "repr" = none) (h : DE X Φ W e te m)
    (he : starEach [e] X.env = (false, eval e X.env) :: starEach [] X.env := by rfl) (hpl : (backTo pos (starEach [] X.env)).any (·.1) = false := by rfl) :
    DE X Φ W (.Call (.Name "repr" p) [e] [] pos) (tCB (fun vs H Q => ∃ a dx fs, vs = [.ref a] ∧ H a = some (.ins C dx fs) ∧ spO X.K X.mg 1 g [.ref a] H (fun v H' => ∃ y, v = .str y ∧ Q v H') E0) (tCons te tNil)) (mReprI Cn g m) :=
  ⟨pe_callB (cr_reprI c hs hf F hr hb) hg hm (by decide +kernel) (pa_cons h.pe pa_nil he) (by decide) (by decide) he hpl, fun σ ρ O G H Q P R hρ f0 hW hmm k => h.sem σ ρ O G H _ _ R hρ f0 hW hmm fun x O1 v G1 H1 ⟨ns, ds, ex, hgx⟩ e1 f1 r1 => by
    subst ex
    have r2 := r1
    cases r1 with
    | ins mC hG hl rl =>
      rw [hC] at mC
      cases mC
      refine ⟨_, _, _, rfl, Frm.same f1 _ _ hG, spO_of (R := R0) f1 (.cons r2 .nil) rfl hgx (fun d s' z G' H' ⟨y, ed, p⟩ q f' rz => ?_) fun _ _ _ _ _ _ _ _ _ z => z.elim⟩
      subst ed
      cases rz
      exact ⟨y, rfl, k _ s' _ G' H' p (e1.trans q) f' (.str y)⟩⟩
end
end
end DL

set_option Elab.async false
set_option linter.all false
set_option maxRecDepth 100000
set_option maxHeartbeats 2000000
namespace DL
open PySem PySem.Spec PyProof.Rows L2

/-! ### a list of lists, made one's own: whatever held lists as trees is forgotten -/
mutual
def noLst : D → Bool
  | .lst _ => false
  | .dic _ _ => false
  | .tup ds => noLstL ds
  | .ins _ _ ds => noLstL ds
  | .frz ds => noLstL ds
  | _ => true
def noLstL : List D → Bool
  | [] => true
  | d :: ds => noLst d && noLstL ds
end
section
variable {K : PySem.W.Frag} {mg : Str → Option Value} {G : Hp}
/-- G without the lists at A -/
def offG (G : Hp) (A : Addr → Bool) : Hp := fun b => if A b = true then none else G b
theorem offG_keep {A : Addr → Bool} (hA : ∀ b, A b = true → ∃ vs, G b = some (.lst vs)) {b : Addr} {o : HO} (h : G b = some o) (n : ∀ vs, o ≠ .lst vs) : offG G A b = some o := by
  unfold offG
  by_cases e : A b = true
  · obtain ⟨vs, q⟩ := hA b e
    rw [h] at q
    cases q
    exact absurd rfl (n vs)
  · rw [if_neg e]
    exact h
mutual
theorem rp_off {A : Addr → Bool} (hA : ∀ b, A b = true → ∃ vs, G b = some (.lst vs)) : ∀ {v : V} {d : D}, Rp K mg G v d → noLst d = true → Rp K mg (offG G A) v d
  | _, _, .non, _ => .non
  | _, _, .bl b, _ => .bl b
  | _, _, .int i, _ => .int i
  | _, _, .str x, _ => .str x
  | _, _, .lst _ _, h => by simp [noLst] at h
  | _, _, .tup q r, h => by
    simp only [noLst] at h
    refine .tup ?_ (rpl_off hA r h)
    rcases q with (q | ⟨o, q⟩) | q
    · exact .inl (.inl (offG_keep hA q fun _ z => nomatch z))
    · exact .inl (.inr ⟨o, offG_keep hA q fun _ z => nomatch z⟩)
    · exact .inr q
  | _, _, .dic _ _ _, h => by simp [noLst] at h
  | _, _, .ins m q l r, h => by
    simp only [noLst] at h
    exact .ins m (offG_keep hA q fun _ z => nomatch z) l (rpl_off hA r h)
  | _, _, .frz q r, h => by
    simp only [noLst] at h
    refine .frz ?_ (rpl_off hA r h)
    rcases q with ⟨o, q⟩ | q
    · exact .inl ⟨o, offG_keep hA q fun _ z => nomatch z⟩
    · exact .inr q
  | _, _, .loc a, _ => .loc a
  | _, _, .cls h, _ => .cls h
  | _, _, .ty n, _ => .ty n
theorem rpl_off {A : Addr → Bool} (hA : ∀ b, A b = true → ∃ vs, G b = some (.lst vs)) : ∀ {vs : List V} {ds : List D}, RpL K mg G vs ds → noLstL ds = true → RpL K mg (offG G A) vs ds
  | _, _, .nil, _ => .nil
  | _, _, .cons a r, h => by
    simp only [noLstL, Bool.and_eq_true] at h
    exact .cons (rp_off hA a h.1) (rpl_off hA r h.2)
end
/-- without any object -/
def flatL : List D → Bool
  | [] => true
  | d :: ds => (match d with
    | .non | .bl _ | .int _ | .str _ | .loc _ => true
    | _ => false) && flatL ds
theorem rpl_flat {G' : Hp} : ∀ {vs : List V} {ds : List D}, RpL K mg G vs ds → flatL ds = true → RpL K mg G' vs ds
  | _, _, .nil, _ => .nil
  | _, _, .cons a r, h => by
    simp only [flatL, Bool.and_eq_true] at h
    refine .cons ?_ (rpl_flat r h.2)
    cases a <;> first | exact .non | exact .bl _ | exact .int _ | exact .str _ | exact .loc _ | simp at h
def flatO : DO → Bool
  | .lst ds => flatL ds
  | .ins _ _ ds => flatL ds
  | _ => false
theorem rpo_flat {G' : Hp} {o : HO} {x : DO} (r : RpO K mg G o x) (h : flatO x = true) : RpO K mg G' o x := by
  cases r with
  | lst r => exact .lst (rpl_flat r h)
  | dic _ _ => simp [flatO] at h
  | ins a b r => exact .ins a b (rpl_flat r h)
end
/-! a list of lists of ints that is one's own, lent as a tree while an expression is evaluated -/
structure Rws (O : OH) (a : Addr) (as : List Addr) (xss : List (List Int)) : Prop where
  top : O a = some (.lst (as.map D.loc))
  len : as.length = xss.length
  row : ∀ (j : Nat) (b : Addr) (xs : List Int), as[j]? = some b → xss[j]? = some xs → O b = some (.lst (xs.map D.int))
def rowsD (xss : List (List Int)) : D := .lst (xss.map fun xs => .lst (xs.map D.int))
def offO (O : OH) (A : Addr → Bool) : OH := fun b => if A b = true then none else O b
def onO (O O2 : OH) (A : Addr → Bool) : OH := fun b => if A b = true then O b else O2 b
def inA (a : Addr) (as : List Addr) : Addr → Bool := fun b => decide (b = a ∨ b ∈ as)
section
variable {K : PySem.W.Frag} {mg : Str → Option Value} {O : OH} {G H : Hp} {a : Addr} {as : List Addr} {xss : List (List Int)}
theorem rpl_locs : ∀ {bs : List Addr} {vs : List V}, RpL K mg G vs (bs.map D.loc) → vs = bs.map V.ref
  | [], _, .nil => rfl
  | b :: bs, _, .cons r rl => by
    cases r
    rw [rpl_locs rl]
    rfl
theorem rI (G2 : Hp) (ns : List Int) : RpL K mg G2 (ns.map V.int) (ns.map D.int) := by
  induction ns with
  | nil => exact .nil
  | cons n ns ih => exact .cons (.int n) ih
theorem rA (G2 : Hp) (bs : List Addr) : RpL K mg G2 (bs.map V.ref) (bs.map D.loc) := by
  induction bs with
  | nil => exact .nil
  | cons n ns ih => exact .cons (.loc n) ih
theorem Rws.at (w : Rws O a as xss) (f : Phi K mg O G H) : H a = some (.lst (as.map V.ref)) ∧ ∀ (j : Nat) (b : Addr) (xs : List Int), as[j]? = some b → xss[j]? = some xs → H b = some (.lst (xs.map V.int)) := by
  obtain ⟨_, o, h1, h2⟩ := f.own _ _ w.top
  refine ⟨?_, fun j b xs q1 q2 => ?_⟩
  · cases h2 with
    | lst r => rw [h1, rpl_locs r]
  · obtain ⟨_, o, h3, h4⟩ := f.own _ _ (w.row j b xs q1 q2)
    cases h4 with
    | lst r => rw [h3, rpl_ints r]
/-- lent -/
theorem lend (w : Rws O a as xss) (f : Phi K mg O G H) : ∃ G1, Same G G1 ∧ Phi K mg (offO O (inA a as)) G1 H ∧ Rp K mg G1 (.ref a) (rowsD xss) ∧ ∀ b, inA a as b = true → G1 b = H b ∧ G b = none ∧ ∃ vs, H b = some (.lst vs) ∧ ∃ y, O b = some y ∧ flatO y = true ∧ ∀ G2, RpO K mg G2 (.lst vs) y := by
  obtain ⟨hT, hR⟩ := w.at f
  have flatI : ∀ ns : List Int, flatL (ns.map D.int) = true := fun ns => by
    induction ns with
    | nil => rfl
    | cons n ns ih => simp [flatL, ih]
  have flatA : ∀ bs : List Addr, flatL (bs.map D.loc) = true := fun bs => by
    induction bs with
    | nil => rfl
    | cons n ns ih => simp [flatL, ih]
  have key : ∀ b, inA a as b = true → G b = none ∧ ∃ vs, H b = some (.lst vs) ∧ ∃ y, O b = some y ∧ flatO y = true ∧ ∀ G2, RpO K mg G2 (.lst vs) y := fun b hb => by
    rcases of_decide_eq_true hb with e | e
    · subst e
      exact ⟨(f.own _ _ w.top).1, _, hT, _, w.top, flatA as, fun G2 => .lst (rA G2 as)⟩
    · obtain ⟨j, hj⟩ := List.getElem?_of_mem e
      have hjl : j < xss.length := by rw [← w.len]; exact (List.getElem?_eq_some_iff.mp hj).1
      have q := w.row j b _ hj (List.getElem?_eq_getElem hjl)
      exact ⟨(f.own _ _ q).1, _, hR j b _ hj (List.getElem?_eq_getElem hjl), _, q, flatI _, fun G2 => .lst (rI G2 _)⟩
  let G1 : Hp := fun b => if inA a as b = true then H b else G b
  have g1 : ∀ b, inA a as b = true → G1 b = H b := fun b hb => if_pos hb
  have s1 : Same G G1 := fun b o e => by
    show (if inA a as b = true then H b else G b) = some o
    by_cases hb : inA a as b = true
    · rw [(key b hb).1] at e
      cases e
    · rw [if_neg hb]
      exact e
  refine ⟨G1, s1, ⟨fun b o e => ?_, fun b y e => ?_⟩, ?_, fun b hb => ⟨g1 b hb, key b hb⟩⟩
  · by_cases hb : inA a as b = true
    · rw [g1 b hb] at e
      exact e
    · have e' : G b = some o := by
        have z : G1 b = G b := if_neg hb
        rw [← z]
        exact e
      exact f.same _ _ e'
  · unfold offO at e
    by_cases hb : inA a as b = true
    · rw [if_pos hb] at e
      cases e
    · rw [if_neg hb] at e
      obtain ⟨g0, o, h1, h2⟩ := f.own b y e
      exact ⟨(if_neg hb : G1 b = G b).trans g0, o, h1, h2.mono s1⟩
  · refine .lst ((g1 a (decide_eq_true (.inl rfl))).trans hT) ?_
    have go : ∀ (bs : List Addr) (yss : List (List Int)), bs.length = yss.length → (∀ (j : Nat) (b : Addr) (xs : List Int), bs[j]? = some b → yss[j]? = some xs → G1 b = some (.lst (xs.map V.int))) → RpL K mg G1 (bs.map V.ref) (yss.map fun xs => .lst (xs.map D.int)) := by
      intro bs
      induction bs with
      | nil =>
        intro yss h1 _
        cases yss with
        | nil => exact .nil
        | cons _ _ => cases h1
      | cons b bs ih =>
        intro yss h1 h2
        cases yss with
        | nil => cases h1
        | cons ys yss => exact .cons (.lst (h2 0 b ys rfl rfl) (rI G1 ys)) (ih yss (by simpa using h1) fun j c xs q1 q2 => h2 (j + 1) c xs (by simpa using q1) (by simpa using q2))
    refine go as xss w.len fun j b xs q1 q2 => ?_
    rw [g1 b (decide_eq_true (.inr (List.mem_of_getElem? q1)))]
    exact hR j b xs q1 q2
/-- .. and taken back -/
theorem back {O2 : OH} {G1 G2 H2 : Hp} (s1 : Same G G1) (hA : ∀ b, inA a as b = true → G1 b = H b ∧ G b = none ∧ ∃ vs, H b = some (.lst vs) ∧ ∃ y, O b = some y ∧ flatO y = true ∧ ∀ G2, RpO K mg G2 (.lst vs) y) (e2 : Same G1 G2) (f2 : Phi K mg O2 G2 H2)
    (hO : ∀ b y, O2 b = some y → flatO y = true) : Same G (offG G2 (inA a as)) ∧ Phi K mg (onO O O2 (inA a as)) (offG G2 (inA a as)) H2 ∧ ∀ b, inA a as b = true → ∃ vs, G2 b = some (.lst vs) := by
  have hl : ∀ b, inA a as b = true → ∃ vs, G2 b = some (.lst vs) ∧ H2 b = some (.lst vs) ∧ ∃ y, O b = some y ∧ ∀ G2, RpO K mg G2 (.lst vs) y := fun b hb => by
    obtain ⟨h1, _, vs, h2, y, h3, _, h4⟩ := hA b hb
    have q : G2 b = some (.lst vs) := e2 _ _ (h1.trans h2)
    exact ⟨vs, q, f2.same _ _ q, y, h3, h4⟩
  refine ⟨fun b o e => ?_, ⟨fun b o e => ?_, fun b y e => ?_⟩, fun b hb => let ⟨vs, q, _⟩ := hl b hb; ⟨vs, q⟩⟩
  · unfold offG
    by_cases hb : inA a as b = true
    · rw [(hA b hb).2.1] at e
      cases e
    · rw [if_neg hb]
      exact e2 _ _ (s1 _ _ e)
  · unfold offG at e
    split at e
    · cases e
    · exact f2.same _ _ e
  · unfold onO at e
    by_cases hb : inA a as b = true
    · rw [if_pos hb] at e
      obtain ⟨vs, _, h2, y', h3, h4⟩ := hl b hb
      rw [h3] at e
      cases e
      exact ⟨if_pos hb, _, h2, h4 _⟩
    · rw [if_neg hb] at e
      obtain ⟨g0, o, h1, h2⟩ := f2.own b y e
      exact ⟨(if_neg hb).trans g0, o, h1, rpo_flat h2 (hO b y e)⟩
end
/-- the state behind the loan -/
def retO (O : OH) (a : Addr) (as : List Addr) (Q : OH → Prop) (O2 : OH) : Prop := (∀ b y, O2 b = some y → flatO y = true) ∧ Q (onO O O2 (inA a as))
def mBorT (i : Nat) (m : MT OH) : MT OH := fun ρ O P R => ∃ a as xss, ρ[i]? = some (some (.loc a)) ∧ Rws O a as xss ∧ m (ρ.set i (some (rowsD xss))) (offO O (inA a as)) (fun c O2 => retO O a as (P c) O2) R0
def mBor (i : Nat) (m : ME OH) : ME OH := fun ρ O P R => ∃ a as xss, ρ[i]? = some (some (.loc a)) ∧ Rws O a as xss ∧ m (ρ.set i (some (rowsD xss))) (offO O (inA a as)) (fun d O2 => noLst d = true ∧ retO O a as (P d) O2) R0
theorem rel_lend {K : PySem.W.Frag} {mg : Str → Option Value} {G G1 : Hp} {σ : Sig} {ρ : Rho} {i : Nat} {a : Addr} {d : D} (hρ : RelE K mg G σ ρ) (s1 : Same G G1) (hi : ρ[i]? = some (some (.loc a))) (r : Rp K mg G1 (.ref a) d) : RelE K mg G1 σ (ρ.set i (some d)) := by
  obtain ⟨v, hv, rv⟩ := hρ.2 i _ hi
  cases rv
  refine ⟨by rw [List.length_set]; exact hρ.1, fun j e hj => ?_⟩
  by_cases q : i = j
  · subst q
    have hlt : i < ρ.length := (List.getElem?_eq_some_iff.mp hi).1
    rw [List.getElem?_set_self hlt] at hj
    cases hj
    exact ⟨_, hv, r⟩
  · rw [List.getElem?_set_ne q] at hj
    obtain ⟨u, h1, h2⟩ := hρ.2 j e hj
    exact ⟨u, h1, h2.mono s1⟩
section
variable {X : Cx} {W : WX}
theorem dt_bor {e : Expr} {tt : TT} {m : MT OH} (i : Nat) (h : DT X (Phi X.K X.mg) W e tt m) : DT X (Phi X.K X.mg) W e tt (mBorT i m) :=
  ⟨h.pt, fun σ ρ O G H Q P R hρ f hW ⟨a, as, xss, hi, w, hm⟩ k => by
    obtain ⟨G1, s1, f1, r1, hA⟩ := lend w f
    refine h.sem σ _ _ G1 H Q _ R0 (rel_lend hρ s1 hi r1) f1 (fun _ _ _ _ _ _ _ _ _ z => z.elim) hm fun c O2 G2 H2 ⟨hO, p⟩ e2 f2 => ?_
    obtain ⟨h1, h2, _⟩ := back s1 hA e2 f2 hO
    exact k c _ _ H2 p h1 h2⟩
theorem de_bor {e : Expr} {te : TE} {m : ME OH} (i : Nat) (h : DE X (Phi X.K X.mg) W e te m) : DE X (Phi X.K X.mg) W e te (mBor i m) :=
  ⟨h.pe, fun σ ρ O G H Q P R hρ f hW ⟨a, as, xss, hi, w, hm⟩ k => by
    obtain ⟨G1, s1, f1, r1, hA⟩ := lend w f
    refine h.sem σ _ _ G1 H Q _ R0 (rel_lend hρ s1 hi r1) f1 (fun _ _ _ _ _ _ _ _ _ z => z.elim) hm fun d O2 v G2 H2 ⟨hd, hO, p⟩ e2 f2 r2 => ?_
    obtain ⟨h1, h2, h3⟩ := back s1 hA e2 f2 hO
    exact k d _ v _ H2 p h1 h2 (rp_off h3 r2 hd)⟩
end
end DL

set_option Elab.async false
set_option linter.all false
set_option maxRecDepth 100000
set_option maxHeartbeats 2000000
namespace DL
open PySem PySem.Spec PyProof.Rows L2

/-! ### the end: the law's own call -/
/-- what a law's def promises of the script -/
def spLawD (K : PySem.W.Frag) : Sp := fun vs H Q _ => ∃ (a : Addr) (ns : List Int), vs = [.ref a] ∧ SqF K H a (ns.map V.int) ∧ ns.length ≤ 63 ∧ ∀ H', Q (.bl true) H'
theorem law_callD {P : Program} {w : World} {K : PySem.W.Frag} {mg mb : Str → Option Value} {k : Nat} {fa a : Addr} {fd : FuncData} {x : Str} {s₁ : Shared} {vs : List Value} {ns : List Int}
    (KX : K.In s₁.heap) (hns : s₁.heap.Ns mainGlobals mg) (hb : s₁.heap.Ns builtinsNs mb) (hbb : ∀ x : Str, x ≠ "__name__" → mb x = bootBuiltins x) (hlim : s₁.heap.NoLimit) (hg : s₁.gens = #[])
    (ha : s₁.heap.get? a = some { cls := .type "list", data := .seq vs.toArray }) (hi : IntsAre vs ns) (hl : ns.length ≤ 63) (hr : Room k callerA)
    (hsm : ∃ mm, s₁.heap.Ns sysModules mm) (F : ∀ base : Heap, K.In base → base.Ns mainGlobals mg → (∃ mm, base.Ns sysModules mm) → FnS P w K mg base k fa fd [x] (spLawD K)) (hbind : ∀ (s : Shared) (u : Value), BindsTo s fd ⟨[u], []⟩ [(x, u)]) :
    codeAny (model P w) callerA (.call (.ref fa) ⟨[.ref a], []⟩) (fun r s' => r = .ok (.ret (.bool true)) ∧ OldK s₁.heap s'.heap ∧ s'.os = s₁.os ∧ AllBare s'.gens) s₁ := by
  have rv := vals_ints hi
  have lenV := hi.length
  have hline : ns.length ≤ sizeLine := Nat.le_trans hl (by decide)
  have core : ∀ H : Hp, Only H → SqF K H a (ns.map V.int) → HOk P w H s₁.heap → (∀ b, H b ≠ none → b = a) → (H a ≠ none → K.lookup a = none) →
      codeAny (model P w) callerA (.call (.ref fa) ⟨[.ref a], []⟩) (fun r s' => r = .ok (.ret (.bool true)) ∧ OldK s₁.heap s'.heap ∧ s'.os = s₁.os ∧ AllBare s'.gens) s₁ := by
    intro H hO hS hok hA hK
    have at_a : ∀ {b : Addr}, H b ≠ none → b = a := fun {b} z => hA b z
    have noA : ∀ {b : Addr} {o : Obj} {es : Array DictEntry} {ep : Nat}, s₁.heap.get? b = some o → o.data = .dict es ep → H b = none := by
      intro b o es ep e d
      match q : H b with
      | none => rfl
      | some u =>
        have e' : b = a := at_a (by rw [q]; simp)
        subst e'
        rw [ha] at e
        cases e
        exact (nomatch (show Data.seq vs.toArray _ = Data.dict es ep from d))
    have nsK : ∀ {b : Addr} {m : Str → Option Value}, s₁.heap.Ns b m → (hidT s₁.heap H).Ns b m := by
      intro b m ⟨o, es, ep, e, d, r⟩
      exact ⟨o, es, ep, hidT_get e (noA e d), d, r⟩
    have hKb : K.In (hidT s₁.heap H) := by
      intro b o e
      refine hidT_get (KX b o e) ?_
      match q : H b with
      | none => rfl
      | some u =>
        have e' : b = a := at_a (by rw [q]; simp)
        subst e'
        rw [hK (by rw [q]; simp)] at e
        cases e
    have hM : Mod K mg (hidT s₁.heap H) := by
      obtain ⟨mc, h1, h2⟩ := hlim
      exact ⟨hKb, nsK hns, ⟨mb, nsK hb, hbb⟩, ⟨mc, nsK h1, h2⟩⟩
    have e0 : Env0 P w K mg (hidT s₁.heap H) callerA [] s₁ H :=
      ⟨rfl, hM, fun b o e => of_hidT e, Nat.le_of_eq (hidT_size _ _), trivial, fun b hb => absurd hb (by simp [frs]), hok, .of_eq hg⟩
    have go := (F _ hKb (nsK hns) (hsm.imp fun _ => nsK)).run callerA [] s₁ H ⟨[.ref a], []⟩ [.ref a] [.ref a] (fun v _ => v = .bl true) (fun _ _ _ => False) hr rfl e0 (hbind s₁ (.ref a)) (.cons rfl .nil) ⟨a, ns, rfl, hS, hl, fun _ => rfl⟩
    refine codeAny_mono go fun r s' h => ?_
    match r, h with
    | .error e, h =>
      obtain ⟨_, _, _, _, _, _, _, _, _, _, _, _, z⟩ := h
      exact z.elim
    | .ok .next, h => exact h.elim
    | .ok .brk, h => exact h.elim
    | .ok .cont, h => exact h.elim
    | .ok (.ret u), ⟨v, H', os, bare, un, hok', r', q⟩ =>
      have q' : v = .bl true := q
      subst q'
      cases (show u = Value.bool true from r')
      refine ⟨rfl, OldK.of_keep fun b o e => ?_, os, bare⟩
      match q : H b with
      | none => exact un.keep b o e q (by simp [frs]) (by simp)
      | some u =>
        rcases hO b with z | ⟨ob, xs, z⟩
        · rw [q] at z
          cases z
        · obtain ⟨e1, _⟩ := hok b _ z
          obtain ⟨e2, _⟩ := hok' b _ (un.frzs b ob _ z)
          rw [e] at e1
          cases e1
          exact e2
  cases hk : K.lookup a with
  | some o =>
    have e := KX a o hk
    rw [ha] at e
    cases e
    refine core (fun _ => none) (fun _ => .inl rfl) (.inr ⟨_, vs.toArray, _, hk, rfl, rfl, rfl, by rw [List.size_toArray, lenV]; exact hline, by simpa using rv⟩) (fun b u z => nomatch (show (none : Option HO) = some u from z)) (fun b z => absurd rfl z) fun z => absurd rfl z
  | none =>
    let o0 : Obj := { cls := .type "list", data := .seq vs.toArray }
    let H0 : Hp := fun b => if b = a then some (HO.frz o0 (.lst (ns.map V.int))) else none
    have eq1 : ∀ b, b = a → H0 b = some (.frz o0 (.lst (ns.map V.int))) := fun b h => if_pos h
    have eq2 : ∀ b, b ≠ a → H0 b = none := fun b h => if_neg h
    refine core H0 (fun b => ?_) (.inl ⟨_, eq1 a rfl⟩) (fun b u z => ?_) (fun b z => ?_) fun _ => hk
    · by_cases hb : b = a
      · exact .inr ⟨_, _, eq1 b hb⟩
      · exact .inl (eq2 b hb)
    · by_cases hb : b = a
      · have z' := (eq1 b hb).symm.trans z
        cases z'
        subst hb
        exact ⟨ha, by rw [List.length_map]; exact hline, vs, _, rv, ha⟩
      · have z' := (eq2 b hb).symm.trans z
        cases z'
    · by_cases hb : b = a
      · exact hb
      · exact absurd (eq2 b hb) z
theorem walk_D {l : PySem.W.OpenLaw} {k : Nat} {q : Program} {loose : List Str} {XP : (Str → Option Value) → Heap → Prop} {YP : World → Heap → Prop} {d : DefRec} {K : Params → PySem.W.Frag} {x : Str}
    (hn : l.most = some 63) (hi : importsNone q = true) (hdf : d.params.defaults = []) (hr : Room k callerA) (hY : ∀ (w : World) (h : Heap), YP w h → (K w.params).In h)
    (F : ∀ (w : World) (mg : Str → Option Value) (fa : Addr) (h : Heap), (K w.params).In h → h.Ns mainGlobals mg → mg d.name = some (.ref fa) →
      ∃ fd : FuncData, (∀ (s : Shared) (u : Value), BindsTo s fd ⟨[u], []⟩ [(x, u)]) ∧ ∀ base : Heap, (K w.params).In base → base.Ns mainGlobals mg → (∃ mm, base.Ns sysModules mm) → FnS l.prog w (K w.params) mg base k fa fd [x] (spLawD (K w.params))) :
    PySem.W.WalkO q loose XP YP l.row.toRowW d [] (fun f vs => PySem.call f vs) := by
  refine Att.attach_call hn hdf fun w s₀ s₁ mg mb fa o pm cd doc a vs ns G Y ho hd hcd hmg hobj hints hlen hg => ?_
  obtain ⟨fd, hb, hF⟩ := F w mg fa _ (hY w _ Y) G.T.g hmg
  exact law_callD (hY w _ Y) G.T.g G.T.b G.T.builtins G.T.nolimit hg hobj hints hlen hr ((G.T.seer hi).mods.imp fun _ h => h.1) hF hb
/-- the law's def, from its body's reading: Φ is the plain one -/
theorem law_mk {P : Program} {w : World} {K : PySem.W.Frag} {mg : Str → Option Value} {base : Heap} {x qual : Str} {st : Stmt} {f : Addr} {fd : FuncData} {N : List Str} {p : Str} {k : Nat} (F : Fun K x qual st f fd) (Sc : FnScope N [p] (defScope st)) {m : MS OH}
    (hb : ∀ (cdv : Value) (A : Around) (outer : List Env) (s : Shared) (H : Hp) (E : XK), OFrm (cxOf (L2.CX P w) P w K mg base N qual (defScope st) f cdv A outer s H E).K (cxOf (L2.CX P w) P w K mg base N qual (defScope st) f cdv A outer s H E).mg (Phi K mg) → Rm k (cxOf (L2.CX P w) P w K mg base N qual (defScope st) f cdv A outer s H E) →
      ∃ ts, DSs (cxOf (L2.CX P w) P w K mg base N qual (defScope st) f cdv A outer s H E) (Phi K mg) (fun cls d _ H' => E cls d H') (defBody st) ts m)
    (hm : ∀ ns : List Int, ns.length ≤ 63 → bodyF m (N.length - 1) [.frz (ns.map D.int)] (fun _ => none) (fun d _ => d = .bl true) R0) : FnS P w K mg base (k + 1) f fd [p] (spLawD K) := by
  obtain ⟨oc, od, kV, doc, pm, an, cdv, ct, osl, rfl, lk, hcd⟩ := F.ex
  refine fnS_of lk hcd Sc (fun vs H Q E ⟨a, ns, e, _⟩ => by rw [e]; rfl) fun A outer s H vs Q E hr hgd ⟨a, ns, ev, hS, hl, hQ⟩ => ?_
  subst ev
  obtain ⟨ts, d⟩ := hb cdv A outer s H E (inferInstance : OFrm K mg (Phi K mg)) ⟨hr, hgd⟩
  refine ⟨ts, d.pss, ?_⟩
  have f0 : Phi K mg (fun _ => none) H H := ⟨Same.refl H, fun a x e => nomatch e⟩
  have r : RpL K mg H [V.ref a] [.frz (ns.map D.int)] := .cons (.frz hS (rI H ns)) .nil
  have r0 := start_rel (N := N) r
  refine d.sem _ _ _ H H _ _ r0 f0 (hm ns hl) ⟨fun σ ρ s G' H' p _ _ _ => ?_, fun d s v G' H' p e q r => ?_, fun _ _ _ _ _ p => p.elim, fun _ _ _ _ _ p => p.elim, fun _ _ _ _ _ _ _ _ p => p.elim⟩
  · cases p
  · subst p
    cases r
    exact hQ H'
end DL

set_option Elab.async false
set_option linter.all false
set_option maxRecDepth 100000
set_option maxHeartbeats 2000000
/-! own error classes over any built-in base whose facts the library has -/
namespace DL
open PySem PySem.Spec PyProof.Rows L2
/-- what a built-in base gives -/
structure BaseF (nw ini : String) (tl : List Value) : Prop where
  ex : ∃ B, ExcBaseFacts B nw ini tl ∧ StoreFacts B tl "object.__setattr__" "object"
theorem base_RuntimeError : BaseF "RuntimeError.__new__" "RuntimeError.__init__" [.type "RuntimeError", .type "Exception", .type "BaseException", .type "object"] := ⟨_, F.excBase_RuntimeError, F.store_RuntimeError⟩
theorem base_IndexError : BaseF "IndexError.__new__" "IndexError.__init__" [.type "IndexError", .type "LookupError", .type "Exception", .type "BaseException", .type "object"] := ⟨_, F.excBase_IndexError, F.store_IndexError⟩
theorem base_LookupError : BaseF "LookupError.__new__" "LookupError.__init__" [.type "LookupError", .type "Exception", .type "BaseException", .type "object"] := ⟨_, F.excBase_LookupError, F.store_LookupError⟩
theorem base_OverflowError : BaseF "OverflowError.__new__" "OverflowError.__init__" [.type "OverflowError", .type "ArithmeticError", .type "Exception", .type "BaseException", .type "object"] := ⟨_, F.excBase_OverflowError, F.store_OverflowError⟩
theorem base_ValueError : BaseF "ValueError.__new__" "ValueError.__init__" [.type "ValueError", .type "Exception", .type "BaseException", .type "object"] := ⟨_, F.excBase_ValueError, F.store_ValueError⟩
/-- .. and the written part of the class -/
structure OexG (K : PySem.W.Frag) (C : Addr) : Prop where
  base : ∃ nw ini tl, BaseF nw ini tl ∧ PySem.W.excInitIn K C tl nw = true ∧ PySem.W.excOver K C tl = true
  hd : PySem.W.hasDictIn K C = true
  sa : PySem.W.findIn K (.ref C) "__setattr__" = some (some (.builtin "object.__setattr__"))
  exC : PySem.W.subIn K (.ref C) (.type "BaseException") = some true
  tyC : PySem.W.typeIn K (.ref C) = some (.type "type")
  kC : PySem.W.keepIn K (.ref C) = true
section
variable {X : Cx} {pins : List (Addr × Obj)} {σ : Sig} {H : Hp} {a C dx : Addr} {f : Str} {y : V}
/-- an error that gets its dict: the state after it -/
theorem inv_exo {hp h' : Heap} {g : Array GenState} {dr : Drawn} {t t' : Nat} {os : OsState} {t1 : Addr} {mA : Str → Option Value} (I : Inv X pins σ H ⟨hp, g, dr, t, os⟩) (e : H a = some (exo a C none))
    (k : ∀ b o, b ≠ a → hp.get? b = some o → h'.get? b = some o) (dn : hp.objs.size ≤ dx) (hx : h'.get? a = some ({ cls := .ref C, dict := some dx, data := .fields #[.ref t1, .none, .none, .none, .bool false, .none] } : Obj))
    (hn : h'.Ns1 dx mA) (rel : ∀ g, RelO (([(f, y)] : List (Str × V)).lookup g) (mA g)) : Inv X pins σ (upd (upd H dx (exd dx [(f, y)])) a (exo a C (some dx))) ⟨h', g, dr, t', os⟩ := by
  have d0 : H dx = none := I.hok.fresh dn
  have far : ∀ {b : Addr} {o : Obj}, hp.get? b = some o → b ≠ dx := fun {_ _} z => Nat.ne_of_lt (Nat.lt_of_lt_of_le (Heap.lt_size z) dn)
  have oth : ∀ {b : Addr}, H b = none → b ≠ a := fun {b} n z => by rw [z, e] at n; cases n
  have same : ∀ {b : Addr} {u : HO}, H b = some u → b ≠ a → upd (upd H dx (exd dx [(f, y)])) a (exo a C (some dx)) b = some u := fun {b u} z n => by
    rw [upd_ne n, upd_ne (ne_of_none z d0)]; exact z
  refine I.un (t' := t') (h' := h') ⟨fun b o q n _ _ => k b o (oth n) q, fun b o q n _ _ => ⟨o.slots, k b o (oth n) q⟩, fun b o q n _ => ?_, fun b o q _ => ?_, fun b xs q => same q (at_ne e q exo_tup), fun b o v q => same q (at_ne e q exo_frz), fun b ps q => ⟨#[], by rw [same q (at_ne e q exo_tbl)]; simp⟩⟩ fun b o q => ?_
  · rw [upd_ne (oth n), upd_ne (far q)]; exact n
  · by_cases z : b = a
    · exact ⟨_, z ▸ hx⟩
    · exact ⟨o, k b o z q⟩
  · by_cases z : b = a
    · subst z
      rw [upd_same] at q
      cases q
      exact exo_ok hx
    rw [upd_ne z] at q
    by_cases z2 : b = dx
    · subst z2
      rw [upd_same] at q
      cases q
      exact exd_ok hn rel
    rw [upd_ne z2] at q
    exact (I.hok b o q).stay (fun c v hc p => k c v (hc.elim (fun w => by rw [w]; exact z) fun w => at_ne e w exo_own) p) (fun c hc => same hc (at_ne e hc exo_own)) fun c xs hc => same hc (at_ne e hc exo_tup)
end
end DL
namespace DLS
open PySem Builtin Builtin.ObjectAttr PySem.W PySem.Calls PyProof.Rows PySem.HandSPX
/-- the first field of such an error: its dict is laid -/
theorem first_field {prog : Program} {w : World} {A : Around} {g : Array GenState} {d : Drawn} {t : Nat} {os : OsState} {hp : Heap} {Q : Fin → Shared → Prop} {E : Value → Shared → Prop} {K : W.Frag} {name : Str} {tk : Tok} {v : Value} {x C : Addr} {fv : Array Value} {b : Bool}
    (X : K.In hp) (hx : hp.get? x = some { cls := .ref C, data := .fields fv }) (hd : W.hasDictIn K C = true)
    (hq : ∀ h' tk' dx, (∀ b o, b ≠ x → hp.get? b = some o → h'.get? b = some o) → hp.objs.size ≤ dx → h'.get? x = some { cls := .ref C, dict := some dx, data := .fields fv } →
      h'.Ns1 dx (fun y => if y = name then some v else none) → Q (.done (.ret .none)) ⟨h', g, d, tk', os⟩) :
    wpAny (model prog w) A (storeInOwnDict (.ref x) (.ref C) (.str name tk) name v b) Q E ⟨hp, g, d, t, os⟩ := by
  obtain ⟨cd, hcd, hh⟩ := any_some hd
  have hcls : W.Looks (model prog w) hp (classData C) cd := W.looks_clsIn X hcd
  have ne : x ≠ hp.objs.size := Nat.ne_of_lt (Heap.lt_size hx)
  obtain ⟨nm, bs, mro, nsp, qn, hdt, sn, sb, ab, col, del⟩ := cd
  dsimp only at hh
  subst hh
  unfold storeInOwnDict ownDictForStores
  repeat (first | (with_reducible refine store_in_new ?_ ?_) | (with_reducible refine wpAny_loadPart_at hx ?_) | (with_reducible refine hcls.at ?_) | wp_step)
  · exact ⟨_, #[], _, (Heap.get?_update_ne _ _ _ _ ne.symm).trans (Heap.get?_push_at rfl rfl), rfl, fun e he => absurd he (by simp), fun _ => rfl⟩
  intro h' tk' n1 same
  have there : (hp.push { cls := .type "dict", data := .dict #[] }).get? x = some { cls := .ref C, data := .fields fv } := Heap.get?_push_of_some _ hx
  refine hq h' tk' _ (fun b o hb ho => ?_) (Nat.le_refl _) ((same.2 x ne).trans (Heap.get?_update_self _ there rfl)) n1
  rw [same.2 b (Nat.ne_of_lt (Heap.lt_size ho)), Heap.get?_update_ne _ _ _ _ hb]
  exact Heap.get?_push_of_some _ ho
end DLS
namespace DL
open PySem PySem.Spec PyProof.Rows L2
section
variable {X : Cx} {pins : List (Addr × Obj)} {σ : Sig} {H : Hp} {s : Shared} {a C : Addr} {f : Str} {y : V} {u : Value} {Q : Unit → Shared → Prop} {E : Value → Shared → Prop} {A : Around}
/-- self.f = y, the first one -/
theorem ostG (T : OexG X.K C) (I : Inv X pins σ H s) (e : H a = some (exo a C none)) (hno : PySem.W.findIn X.K (.ref C) f = some none) (ry : RelV y u)
    (h : ∀ dx s', H dx = none → dx ≠ a → Inv X pins σ (upd (upd H dx (exd dx [(f, y)])) a (exo a C (some dx))) s' → Q () s') : wpAny (model X.prog X.w) A (setAttr (.ref a) f u) Q E s := by
  obtain ⟨nw, ini, tl, ⟨B, FB, SF⟩, _, ov⟩ := T.base
  obtain ⟨t1, ho⟩ := exo_at I.hok e
  obtain ⟨hp, g, d, t, os⟩ := s
  have J : PySem.W.InstAt hp a { cls := .ref C, dict := none, data := .fields #[.ref t1, .none, .none, .none, .bool false, .none] } C none := ⟨ho, rfl, rfl, trivial⟩
  refine PySem.W.set_plain I.kIn J T.sa (PySem.W.osa_openX SF I.kIn J ov (NoAttr.taker hno) fun b => ?_)
  refine DLS.first_field I.kIn ho T.hd fun h' tk' dx k dn hx hn => ?_
  have d0 : H dx = none := I.hok.fresh dn
  exact h dx _ d0 (fun z => by rw [z, e] at d0; cases d0) (inv_exo (t' := tk') I e k dn hx hn (relO_put (fs := []) ry fun _ => True.intro))
end
/-- self.f = e within such an error's __init__ -/
def tOstG (K : PySem.W.Frag) (f : Str) (to te : TE) : TS := fun D σ H => te σ H fun y H1 => to σ H1 fun x H2 => ∃ a C : Addr, x = .ref a ∧ OexG K C ∧ PySem.W.findIn K (.ref C) f = some none ∧ H2 a = some (exo a C none) ∧
  ∀ dx, H2 dx = none → dx ≠ a → D.nx σ (upd (upd H2 dx (exd dx [(f, y)])) a (exo a C (some dx)))
section
variable {X : Cx} {o e : Expr} {es : List Expr} {to te : TE} {ta : TA} {f : Str} {p p' pos : Pos}
theorem ps_ostG (ho : PE X o to) (he : PE X e te) (hs : swapsWith e (some (.Attribute o f p')) pos.line X.env = pure false := by rfl) : PS X (.Assign [.Attribute o f p'] e pos) (tOstG X.K f to te) := by
  refine ⟨fun pins s σ H D I h => plainObj_wpAny_Assign_Attribute (thn (he.run pins s σ H _ I h) fun v s1 ⟨y, H1, I1, r1, q1⟩ => thn (ho.run pins s1 σ H1 _ I1 q1) fun u s2 ⟨x, H2, I2, r2, a, C, ex, T, hno, ea, q⟩ => ?_) hs⟩
  subst ex
  cases (show u = Value.ref a from r2)
  exact ostG T I2 ea hno r1 fun dx s' n ne J => ⟨σ, _, J, q dx n ne⟩
theorem pmk_oexG {CX : CXT} {x : Str} {C fI : Addr} {k : Nat} {fd : FuncData} {ps : List Str} {sp : Sp} {ds : List Value} {dvs : List V} (T : OexG X.K C) (iC : PySem.W.findIn X.K (.ref C) "__init__" = some (some (.ref fI))) (tI : PySem.W.typeIn X.K (.ref fI) = some (.type "function"))
    (F1 : FnOk X.prog X.w X.K X.mg X.base CX k fI fd ps sp) (hr : Room (k + 1) X.A) (hb : Binds X.K fd ps ds) (hd : Vals dvs ds) (hx : Passes CX X (fun _ _ _ => False)) (hg : Gl X x) (hm : X.mg x = some (.ref C)) (ha : PA X (e :: es) ta)
    (hdb : (x == ("__debug__" : Str)) = false := by decide) (he : starEach (e :: es) X.env = (false, eval e X.env) :: starEach es X.env := by rfl) (hpl : (backTo pos (starEach es X.env)).any (·.1) = false := by rfl) :
    PMk X (.Call (.Name x p) (e :: es) [] pos) (tMkO C sp dvs ta) := by
  intro pins s σ H Q I h
  obtain ⟨nw, ini, tl, ⟨B, FB, SF⟩, xi, _⟩ := T.base
  refine wpAny_Call_Name_kw (ld_glob I hg hm ?_ hdb)
  refine PySem.W.callWith_K (h₀ := X.base) I.ok.mod.kin T.kC (thn (ha.run pos pins s σ H _ I h) fun us s1 ⟨vs, H1, I1, r1, hz, q1⟩ => ⟨I1.kIn, ?_⟩) he hpl
  obtain ⟨nm, N, qn, bs, bm, hdct, sn, sub, ab, col, dd, k0, k1, k2, k3, k5, hC, hT⟩ := PySem.W.excInit_of I1.kIn xi
  show wpAny _ _ (call (.ref C) us) _ _ _
  obtain ⟨hp, g, dr, tk, os⟩ := s1
  have up := Nat.le_succ hp.objs.size
  have free : H1 (hp.objs.size + 1) = none := I1.hok.fresh up
  have hq := q1 _ free
  let hp2 : Heap := (hp.push (PySem.W.kdv_tup us)).push (PySem.HandSPX.excO C hp.objs.size)
  have kk : ∀ b o, hp.get? b = some o → hp2.get? b = some o := fun b o z => Heap.get?_push_of_some _ (Heap.get?_push_of_some _ z)
  have got : hp2.get? (hp.objs.size + 1) = some (PySem.HandSPX.excO C hp.objs.size) := by
    show ((hp.push (PySem.W.kdv_tup us)).push (PySem.HandSPX.excO C hp.objs.size)).get? _ = _
    heap_get
  have I2 : Inv X pins σ (upd H1 (hp.objs.size + 1) (exo (hp.objs.size + 1) C none)) ⟨hp2, g, dr, tk, os⟩ := I1.laid (t' := tk) (a := hp.objs.size + 1) (o := exo (hp.objs.size + 1) C none) (h' := hp2) kk up (exo_ok got)
  have r2 : Vals (V.ref (hp.objs.size + 1) :: (vs ++ dvs)) (Value.ref (hp.objs.size + 1) :: (us ++ ds)) := .cons rfl (r1.append hd)
  have hl : (Value.ref (hp.objs.size + 1) :: us ++ ds).length = ps.length := r2.length.symm.trans (F1.len _ _ _ _ hq)
  have hus : us.length ≤ sizeLine := by
    rw [← Paired.length r1, sizeLine_eq]
    omega
  have go := F1.run _ X.stack _ _ ⟨Value.ref (hp.objs.size + 1) :: us, []⟩ (Value.ref (hp.objs.size + 1) :: (us ++ ds)) _ _ (fun _ _ _ => False) (hr.make C us []) (I2.env0.make C us []) (hb _ (Value.ref (hp.objs.size + 1) :: us) I2.kIn hl) r2 hq
  refine wpAny_call (PySem.HandSPX.call_own FB hT hC (PySem.W.looks_findIn I1.kIn iC) (fun self => PySem.W.bind_fn I1.kIn self tI) hus (codeAny_mono go fun r s' hq' => ?_))
  match r, hq' with
  | .error er, hq' => exact hx pins σ _ _ er s' I2 hq'
  | .ok (.ret u), ⟨v, H2, os2, bare2, un2, hok2, rv, ev, d, fs, ea, ed, hd1, q2⟩ =>
    subst ev
    exact ⟨rv, mk_end (raises_own T.exC T.tyC) I1 up kk un2 hok2 os2 bare2 ea ed hd1 q2⟩
  | .ok .next, hq' => exact hq'.elim
  | .ok .brk, hq' => exact hq'.elim
  | .ok .cont, hq' => exact hq'.elim
end
section
variable {P : Program} {w : World} {K : PySem.W.Frag} {mg : Str → Option Value} {base : Heap}
theorem ok_xinitG {x qual fld ar : Str} {st : Stmt} {f C : Addr} {fd : FuncData} (F : Fun K x qual st f fd) (Sc : FnScope [("self" : Str), ar] [("self" : Str), ar] (defScope st)) (T : OexG K C) (no : PySem.W.findIn K (.ref C) fld = some none)
    (hb : ∀ X : Cx, X.K = K → X.N = [("self" : Str), ar] → X.env.scope = defScope st → ∃ to te : TE, PSs X (defBody st) (tOstG K fld to te) ∧ (∀ (u y : V) (H : Hp) (Q : VK), Q y H → te [some u, some y] H Q) ∧ ∀ (u y : V) (H : Hp) (Q : VK), Q u H → to [some u, some y] H Q) :
    FnOk P w K mg base CX0 1 f fd [("self" : Str), ar] (spXI C fld) := by
  refine F.ok Sc (fun vs H Q E ⟨a, y, ev, _⟩ => by rw [ev]; rfl) fun cdv A outer s H vs Q E hr ⟨a, y, ev, ea, k⟩ => ?_
  subst ev
  obtain ⟨to, te, hp, h1, h2⟩ := hb (cxOf CX0 P w K mg base [("self" : Str), ar] qual (defScope st) f cdv A outer s H E).nox rfl rfl rfl
  exact ⟨_, hp, h1 _ _ _ _ (h2 _ _ _ _ ⟨a, C, rfl, T, no, ea, k⟩)⟩
end
section
variable {X : Cx} {Φ : OH → Hp → Hp → Prop} {W : WX} [FΦ : OFrm X.K X.mg Φ]
theorem ds_raiseG {C fI : Addr} {x fld ar : Str} {fd : FuncData} {e : Expr} {ta : TA} {n : MA OH} {p pos pos2 : Pos} (T : OexG X.K C) (iC : PySem.W.findIn X.K (.ref C) "__init__" = some (some (.ref fI))) (tI : PySem.W.typeIn X.K (.ref fI) = some (.type "function"))
    (F : FnOk X.prog X.w X.K X.mg X.base CX0 1 fI fd [("self" : Str), ar] (spXI C fld)) (hr : Rm 2 X) (hb : Binds X.K fd [("self" : Str), ar] []) (hg : Gl X x) (hm : X.mg x = some (.ref C)) (hc : X.calm = true) (tk : Takes X W) (ha : DA X Φ W [e] ta n)
    (hdb : (x == ("__debug__" : Str)) = false := by decide) (he : starEach [e] X.env = (false, eval e X.env) :: starEach [] X.env := by rfl) (hpl : (backTo pos (starEach [] X.env)).any (·.1) = false := by rfl) :
    DS X Φ W (.Raise (some (.Call (.Name x p) [e] [] pos)) none pos2) (fun _ σ H => tMkO C (spXI C fld) [] ta σ H fun cls d H' => W cls d σ H') (sRaise x fld n) := by
  refine ⟨ps_raise hc tk (pmk_oexG T iC tI F hr.room hb .nil pass0 hg hm ha.pa hdb he hpl), fun σ ρ s G H D M hρ f hmm E => ha.sem σ ρ s G H _ _ _ hρ f (E.wsh hρ) hmm fun ds s1 vs G1 H1 ⟨d, ed, h1⟩ e1 f1 r1 => ?_⟩
  subst ed
  obtain ⟨v, rfl, rv⟩ := rpl1 r1
  refine ⟨by show 1 ≤ 1000; decide, fun a na => ⟨a, v, rfl, upd_same, fun dx ndx ne => ?_⟩⟩
  have nd1 : H1 dx = none := by
    rw [upd_ne ne] at ndx
    exact ndx
  refine ⟨rfl, dx, [(fld, v)], upd_same, ?_, nd1, ?_⟩
  · rw [upd_ne ne, upd_same]
  · rw [exo_end na ne]
    have sg := same_new (o := HO.xd [(fld, v)]) ((Frm.same f1).free nd1)
    exact E.ex ⟨x, some ([fld], [d])⟩ σ ρ s1 _ _ (.ref C) (some dx) h1 (e1.trans sg) ((hρ.mono e1).mono sg) (Frm.ext f1 nd1) ⟨hm, dx, [v], rfl, upd_same, rfl, .cons (rv.mono sg) .nil⟩
end
end DL

set_option Elab.async false
set_option linter.all false
set_option maxRecDepth 100000
set_option maxHeartbeats 2000000
/-! try: .. except C as e: .. except D as e: .. -/
namespace DL
open PySem PySem.Spec PyProof.Rows L2
abbrev SuT := Addr → Value → Option Addr → TS
/-- the ends behind a clause: its name is gone -/
def drops (i : Nat) (D : Ends) : Ends := { nx := fun σ H => D.nx (σ.set i none) H, rt := D.rt, bk := fun σ H => D.bk (σ.set i none) H, ct := fun σ H => D.ct (σ.set i none) H }
def wClauses (K : PySem.W.Frag) (Wo : WX) (D : Ends) : List (Value × Nat × SuT) → WX
  | [] => Wo
  | q :: r => fun cls d σ H => ∃ b, PySem.W.exmOne K cls q.1 = some b ∧ (b = true → ∀ a, H a = none → q.2.2 a cls d (drops q.2.1 D) (σ.set q.2.1 (some (.ref a))) H) ∧ (b = false → wClauses K Wo D r cls d σ H)
/-- clauses, each with its own name -/
inductive Clauses (X : Cx) : List ExceptHandler → List (Value × Nat × SuT) → Prop
  | nil : Clauses X [] []
  | cons {x n : Str} {c : Value} {i : Nat} {ts : SuT} {b₀ : Stmt} {suite : List Stmt} {np pos' : Pos} {hds : List ExceptHandler} {l : List (Value × Nat × SuT)} (hc : Names X x c) (hi : X.N[i]? = some n) (hln : X.env.kindOf n = some .local)
      (hsu : ∀ (a : Addr) (oe : Obj) (cls : Value) (d : Option Addr) (pn : List (Addr × Obj)), Zc cls d oe → (∃ vs, oe.data = .fields vs) → PSs (X.suite a ((a, oe) :: pn)) (b₀ :: suite) (ts a cls d)) (r : Clauses X hds l) :
      Clauses X (.ExceptHandler (some (.Name x np)) (some n) (b₀ :: suite) pos' :: hds) ((c, i, ts) :: l)
section
variable {X : Cx} {body : List Stmt} {h₀ : ExceptHandler} {hds : List ExceptHandler} {l : List (Value × Nat × SuT)} {pos : Pos} {tb : WX → TS} {Wo : WX}
theorem ps_clauses (hs : X.stack = X.env :: X.outer) (hf : X.env.frame = some X.env.locals) (hN : X.N.Nodup) (tk : Takes X Wo)
    (hb : ∀ (W : WX) (pn : List (Addr × Obj)) (xe : Value → Shared → Prop), Takes (X.tr pn xe) W → PassesOwn (model X.prog X.w) X.A X.env xe → PSs (X.tr pn xe) body (tb W))
    (hh : Clauses X (h₀ :: hds) l) : PS X (.Try body (h₀ :: hds) [] [] pos) (fun D σ H => tb (wClauses X.K Wo D l) D σ H) := by
  refine ⟨fun pins s σ H D I h => wpAny_Try_except ?_⟩
  have ok := I.ok
  have fr : X.A.frames = some (X.env :: X.outer) := ok.frames.trans (by rw [hs])
  let xe1 : Value → Shared → Prop := fun e s1 => wpAny (model X.prog X.w) X.A (noteFrame e X.env) (fun _ s2 => wpAny (model X.prog X.w) X.A (setFlight e none) (fun _ s3 => wpAny (model X.prog X.w) X.A (handleBy e X.env (h₀ :: hds)) (SP X pins D) X.xe s3) X.xe s2) X.xe s1
  have tk1 : Takes (X.tr (X.pn ++ pins) xe1) (wClauses X.K Wo D l) := by
    intro u s' ⟨a, B, sI, pins', σ', H', cls, d, eu, J', nb, up, sky, na, os, ag, w⟩
    subst eu
    have J : Inv X pins σ' H' sI := J'.ofTry ok
    show wpAny (model X.prog X.w) X.A (noteFrame (.ref a) X.env) _ _ _
    refine Sky.land Zc.steady fr hf (show Sky B (X.env :: X.outer) a (Zc cls d) X.env.locals s'.heap by rw [← hs]; exact sky) fun h3 f3 u3 => ?_
    have J3 : Inv X pins σ' H' { s' with heap := h3 } := J.landed nb f3.1 (up.trans u3) os ag
    obtain ⟨o3, vs3, g3, z3, d3⟩ := f3.there
    have nfr : a ∉ frs (X.env :: X.outer) := fun hm => by
      obtain ⟨_, o', e', no⟩ := f3.2.2.1.mem hm
      rw [g3] at e'
      cases e'
      exact no _ d3
    have nL : a ≠ X.env.locals := fun z => nfr (List.mem_filterMap.mpr ⟨_, List.mem_cons_self, hf.trans (by rw [z])⟩)
    have nF : a ∉ X.fs := fun hm => let ⟨e, he, q⟩ := List.mem_filterMap.mp hm; nfr (List.mem_filterMap.mpr ⟨e, List.mem_cons_of_mem _ he, q⟩)
    suffices go : ∀ {hs2 : List ExceptHandler} {l2 : List (Value × Nat × SuT)}, Clauses X hs2 l2 → wClauses X.K Wo D l2 cls d σ' H' → wpAny (model X.prog X.w) X.A (handleBy (.ref a) X.env hs2) (SP X pins D) X.xe { s' with heap := h3 } from go hh w
    intro hs2 l2 cl
    induction cl with
    | nil =>
      intro w
      obtain ⟨_, _, _, oe, vs, T, oT, _, he, _, hd, h1, _⟩ := id f3
      refine wpAny_handleBy_nil ?_
      unfold PySem.passOn
      refine wpAny_bind (wpAny_field he hd h1 ?_)
      rw [if_neg (show ¬ (Value.ref T == Value.none) = true by simp)]
      have out : wpAny (model X.prog X.w) X.A (setFlight (.ref a) X.env.frame) (fun _ s4 => wpAny (model X.prog X.w) X.A (throw (.ref a) : Sem Flow) (SP X pins D) X.xe s4) X.xe { s' with heap := h3 } := by
        rw [hf]
        exact HandSPX.setFlight_upZ f3 fun h4 k4 u4 => wpAny_throw (tk _ _ ⟨a, B, sI, pins, σ', H', cls, d, rfl, J, nb, (up.trans u3).trans u4, .inr (.inr (by rw [hs]; exact k4)), na, os, ag, w⟩)
      first | exact wpAny_bind (wpAny_pure (wpAny_bind out)) | exact wpAny_bind out
    | @cons x n c i ts b₀ suite np pos' hs3 l3 hc hi hln hsu r ih =>
      intro ⟨b, hb1, yes, no⟩
      refine wpAny_handleBy_cons (codeAny_handlers_test ?_) (by intro q; cases q)
      have Lt : PySem.W.Looks (model X.prog X.w) h3 (typeOf (.ref a)) cls := fun A Q E s k q => wpAny_typeOf_ref (k _ _ g3) (by rw [z3.1]; exact q)
      have S3 := J3.suite g3 d3 na nL nF
      have asked : ∀ {Q : Value → Shared → Prop} {E : Value → Shared → Prop}, Q c { s' with heap := h3 } → wpAny (model X.prog X.w) (X.A.mark (some (.ref a))) (eval (.Name x np) X.env) Q E { s' with heap := h3 } := fun {Q E} q => by
        obtain ⟨g1, g2, m1 | ⟨m1, m2, m3⟩⟩ := hc
        · exact ld_glob (X := X.suite a ((a, o3) :: (X.pn ++ pins))) S3 g1 m1 q g2
        · exact ld_blt (X := X.suite a ((a, o3) :: (X.pn ++ pins))) S3 g1 m1 m2 q m3 g2
      refine asked ((PySem.W.exm_one (M := model X.prog X.w) J3.kIn Lt hb1).here ?_)
      cases b with
      | false => exact ih (no rfl)
      | true =>
        refine codeAny_handlers_suite_as (HandSPX.lands_againZ f3 fun h4 f4 u4 => ?_)
        have J4 : Inv X pins σ' H' { s' with heap := h4 } := J.landed nb f4.1 ((up.trans u3).trans u4) os ag
        obtain ⟨o4, vs4, g4, z4, d4⟩ := f4.there
        refine store_ok (X := X.suite a ((a, o4) :: (X.pn ++ pins))) (v := .ref a) (J4.suite g4 d4 na nL nF) hN hi (.inl hln) rfl (fun s5 S5 => ?_) (.inr hln)
        have run := (hsu a o4 cls d (X.pn ++ pins) z4 ⟨_, d4⟩).run [] s5 _ H' _ S5 (yes rfl a na)
        refine wpAny_mono run (fun f s6 hq => ?_) fun _ _ z => z.elim
        have gone : ∀ {σ6 : Sig} {H6 : Hp} {Q : Shared → Prop}, Inv (X.suite a ((a, o4) :: (X.pn ++ pins))) [] σ6 H6 s6 → (∀ s7, Inv X pins (σ6.set i none) H6 s7 → Q s7) →
            wpAny (model X.prog X.w) X.A (do bindName X.env n .none; unbindBehindTheSuite X.env n pos') (fun _ s7 => Q s7) X.xe s6 := fun {_ _ _} S6 k => gone_ok (S6.unsuite ok) hN hi hln k
        match f, hq with
        | .next, ⟨_, _, S6, q6⟩ => exact gone S6 fun _ J7 => ⟨_, _, J7, q6⟩
        | .brk, ⟨_, _, S6, q6⟩ => exact gone S6 fun _ J7 => ⟨_, _, J7, q6⟩
        | .cont, ⟨_, _, S6, q6⟩ => exact gone S6 fun _ J7 => ⟨_, _, J7, q6⟩
        | .ret u, ⟨_, _, _, S6, r6, q6⟩ => exact gone S6 fun _ J7 => ⟨_, _, _, J7, r6, q6⟩
  have run := (hb (wClauses X.K Wo D l) (X.pn ++ pins) xe1 tk1 PassesOwn.looking).run [] s σ H D (I.toTry _) h
  refine wpAny_mono run (fun f s1 hq => ?_) fun e s1 he => he
  match f, hq with
  | .next, ⟨_, _, J', q⟩ => exact wpAny_execs_nil ⟨_, _, J'.ofTry ok, q⟩
  | .brk, ⟨_, _, J', q⟩ => exact ⟨_, _, J'.ofTry ok, q⟩
  | .cont, ⟨_, _, J', q⟩ => exact ⟨_, _, J'.ofTry ok, q⟩
  | .ret u, ⟨_, _, _, J', r, q⟩ => exact ⟨_, _, _, J'.ofTry ok, r, q⟩
end
end DL
namespace DL
open PySem PySem.Spec PyProof.Rows L2
abbrev ClD := (Exn → Option Bool) × Nat × (Addr → Exn → MS OH)
def dropM (i : Nat) (M : MEnds OH) : MEnds OH := { nx := fun ρ O => M.nx (ρ.set i none) O, rt := M.rt, bk := fun ρ O => M.bk (ρ.set i none) O, ct := fun ρ O => M.ct (ρ.set i none) O, ex := fun _ _ _ => False }
/-- the clause that takes the error -/
def pick (M : MEnds OH) (x : Exn) (ρ : Rho) (O : OH) : List ClD → Prop
  | [] => M.ex x ρ O
  | q :: r => ∃ b, q.1 x = some b ∧ (b = true → ∀ a, q.2.2 a x (dropM q.2.1 M) (ρ.set q.2.1 (some (.loc a))) O) ∧ (b = false → pick M x ρ O r)
def sTryN (cs : List ClD) (mb : MS OH) : MS OH := fun M ρ O => mb { M with ex := fun x ρ' O' => pick M x ρ' O' cs } ρ O
section
variable {X : Cx} {Φ : OH → Hp → Hp → Prop} {W : WX} [FΦ : OFrm X.K X.mg Φ]
inductive DCl (X : Cx) (Φ : OH → Hp → Hp → Prop) : List ExceptHandler → List (Value × Nat × SuT) → List ClD → Prop
  | nil : DCl X Φ [] [] []
  | cons {x n : Str} {c : Value} {i : Nat} {cl : Exn → Option Bool} {ms : Addr → Exn → MS OH} {b₀ : Stmt} {suite : List Stmt} {np pos' : Pos} {hds : List ExceptHandler} {l : List (Value × Nat × SuT)} {cs : List ClD}
      (hi : X.N[i]? = some n) (hln : X.env.kindOf n = some .local) (hc : Names X x c)
      (hcl : ∀ (x : Exn) (b : Bool) (cls : Value), X.mg x.cls = some cls → cl x = some b → PySem.W.exmOne X.K cls c = some b)
      (hsu : ∀ (a : Addr) (oe : Obj) (cls : Value) (d : Option Addr) (pn : List (Addr × Obj)) (x : Exn), Zc cls d oe → (∃ vs, oe.data = .fields vs) → ∃ ts, DSs (X.suite a ((a, oe) :: pn)) (ExF X.K X.mg Φ cls d x) W0 (b₀ :: suite) ts (ms a x))
      (r : DCl X Φ hds l cs) : DCl X Φ (.ExceptHandler (some (.Name x np)) (some n) (b₀ :: suite) pos' :: hds) ((c, i, cSx X.K X.mg Φ ms) :: l) ((cl, i, ms) :: cs)
theorem DCl.ps {hds : List ExceptHandler} {l : List (Value × Nat × SuT)} {cs : List ClD} (h : DCl X Φ hds l cs) : Clauses X hds l := by
  induction h with
  | nil => exact .nil
  | cons hi hln hc hcl hsu r ih =>
    refine .cons hc hi hln (fun a oe cls d pn hz hd => ⟨fun pins s σ H D I ⟨x, ρ, O, G, M, r, f, hm, E⟩ => ?_⟩) ih
    obtain ⟨ts, h⟩ := hsu a oe cls d pn x hz hd
    exact h.pss.run pins s σ H D I (h.sem σ ρ O G H D M r f hm E)
theorem pick_sem {D : Ends} {M : MEnds OH} {G : Hp} {hds : List ExceptHandler} {l : List (Value × Nat × SuT)} {cs : List ClD} (h : DCl X Φ hds l cs) (E : EndsOk Φ W X.K X.mg G M D) {z : Exn} {σ : Sig} {ρ : Rho} {O : OH} {G1 H1 : Hp} {cls : Value} {d : Option Addr}
    (e1 : Same G G1) (r1 : RelE X.K X.mg G1 σ ρ) (f1 : Φ O G1 H1) (xr : ExR X.K X.mg G1 cls d z) (p : pick M z ρ O cs) : wClauses X.K W D l cls d σ H1 := by
  induction h with
  | nil => exact E.ex z σ ρ O G1 H1 cls d p e1 r1 f1 xr
  | @cons x n c i cl ms b₀ suite np pos' hds l cs hi hln hc hcl hsu r ih =>
    obtain ⟨b, hb, yes, no⟩ := p
    refine ⟨b, hcl z b cls xr.1 hb, fun e a na => ⟨z, _, O, G1, _, r1.set i (.loc a), ⟨f1, xr⟩, yes e a, ?_⟩, fun e => ih (no e)⟩
    exact ⟨fun σ2 ρ2 O2 G2 H2 p e2 r2 f2 => E.nx _ _ O2 G2 H2 p (e1.trans e2) (r2.drop i none) f2.1, fun d O2 v G2 H2 p e2 f2 => E.rt d O2 v G2 H2 p (e1.trans e2) f2.1,
      fun σ2 ρ2 O2 G2 H2 p e2 r2 f2 => E.bk _ _ O2 G2 H2 p (e1.trans e2) (r2.drop i none) f2.1, fun σ2 ρ2 O2 G2 H2 p e2 r2 f2 => E.ct _ _ O2 G2 H2 p (e1.trans e2) (r2.drop i none) f2.1, fun _ _ _ _ _ _ _ _ p => p.elim⟩
theorem ds_tryN {body : List Stmt} {h₀ : ExceptHandler} {hds : List ExceptHandler} {l : List (Value × Nat × SuT)} {cs : List ClD} {pos : Pos} {mb : MS OH} (hs : X.stack = X.env :: X.outer) (hf : X.env.frame = some X.env.locals) (hN : X.N.Nodup) (tk : Takes X W)
    (hb : ∀ (W' : WX) (pn : List (Addr × Obj)) (xe : Value → Shared → Prop), Takes (X.tr pn xe) W' → PassesOwn (model X.prog X.w) X.A X.env xe → ∃ tb, DSs (X.tr pn xe) Φ W' body tb mb)
    (hh : DCl X Φ (h₀ :: hds) l cs) : DS X Φ W (.Try body (h₀ :: hds) [] [] pos) (fun D σ H => cS X.K X.mg Φ (wClauses X.K W D l) mb D σ H) (sTryN cs mb) := by
  refine ⟨ps_clauses (tb := fun W' => cS X.K X.mg Φ W' mb) hs hf hN tk (fun W' pn xe t p => ⟨fun pins s σ H D I ⟨ρ, O, G, M, r, f, hm, E⟩ => ?_⟩) hh.ps, fun σ ρ O G H D M hρ f hm E => ⟨ρ, O, G, _, hρ, f, hm, ⟨E.nx, E.rt, E.bk, E.ct, fun z σ1 ρ1 O1 G1 H1 cls d p e1 r1 f1 xr => pick_sem hh E e1 r1 f1 xr p⟩⟩⟩
  obtain ⟨tb, h⟩ := hb W' pn xe t p
  exact h.pss.run pins s σ H D I (h.sem σ ρ O G H D M r f hm E)
end
end DL

set_option Elab.async false
set_option linter.all false
set_option maxRecDepth 100000
set_option maxHeartbeats 1000000
/-! x in xs, x not in xs: flat values -/
namespace DL
open PySem PySem.Spec PyProof.Rows L2
def toV : D → Option V
  | .non => some .non
  | .bl b => some (.bl b)
  | .int i => some (.int i)
  | .str x => some (.str x)
  | _ => none
def toVL : List D → Option (List V)
  | [] => some []
  | d :: ds => match toV d, toVL ds with
    | some v, some vs => some (v :: vs)
    | _, _ => none
theorem toV_rp {K : PySem.W.Frag} {mg : Str → Option Value} {G : Hp} {v u : V} {d : D} (r : Rp K mg G v d) (h : toV d = some u) : v = u ∧ flatV v = true := by
  cases r <;> simp only [toV] at h <;> first | (cases h; exact ⟨rfl, rfl⟩) | cases h
theorem toVL_rp {K : PySem.W.Frag} {mg : Str → Option Value} {G : Hp} : ∀ {vs us : List V} {ds : List D}, RpL K mg G vs ds → toVL ds = some us → vs = us ∧ vs.all flatV = true
  | _, _, _, .nil, h => by cases h; exact ⟨rfl, rfl⟩
  | _, _, _, .cons (d := d) (ds := ds) a b, h => by
    simp only [toVL] at h
    cases e1 : toV d with
    | none => rw [e1] at h; cases h
    | some v =>
      cases e2 : toVL ds with
      | none => rw [e1, e2] at h; cases h
      | some vs =>
        rw [e1, e2] at h
        cases h
        obtain ⟨q1, q2⟩ := toV_rp a e1
        obtain ⟨q3, q4⟩ := toVL_rp b e2
        exact ⟨by rw [q1, q3], by rw [List.all_cons, q2, q4]; rfl⟩
def wInN (neg : Bool) : W2 := fun a b P => ∃ v vs xs, toV a = some v ∧ (b = .lst xs ∨ b = .tup xs ∨ b = .frz xs) ∧ toVL xs = some vs ∧ P (.bl (if neg then !inV v vs else inV v vs))
theorem in_sem {X : Cx} {neg : Bool} {f : Value → Value → Sem Value} (o : OpR X f (rIn X.K neg)) : Op2 X f (rIn X.K neg) (wInN neg) := by
  refine ⟨o, fun x y a b G H Q P ra rb sm ⟨v, vs, xs, ha, hb, hx, p⟩ k => ?_⟩
  obtain ⟨e1, f1⟩ := toV_rp ra ha
  subst e1
  have fin : ∀ {p0 : Addr} {ws : List V}, y = .ref p0 → (SqL X.K H p0 ws ∨ SqT X.K H p0 ws) → RpL X.K X.mg G ws xs → rIn X.K neg x y H Q := fun {p0 ws} ey hq rl => by
    obtain ⟨e2, f2⟩ := toVL_rp rl hx
    subst e2
    exact ⟨p0, ws, ey, hq, f1, f2, k _ _ G H p .refl (.bl _)⟩
  rcases hb with rfl | rfl | rfl
  · cases rb with | lst h l => exact fin rfl (.inl (SqL.of (sm _ _ h))) l
  · cases rb with | tup h l => exact fin rfl (.inr (sqt_mono sm h)) l
  · cases rb with | frz h l => exact fin rfl (.inl (sql_mono sm h.sql)) l
def wIn : W2 := wInN false
def wNotIn : W2 := wInN true
theorem o_in {X : Cx} : Op2 X (compareOp .In) (rIn X.K false) wIn := in_sem op_in_seq
theorem o_notIn {X : Cx} : Op2 X (compareOp .NotIn) (rIn X.K true) wNotIn := in_sem op_notIn_seq
section
variable {S : Type} {X : Cx} {Φ : S → Hp → Hp → Prop} {W : WX} [Frm Φ]
/-- xs[::-1], a list -/
def mRev (m : ME S) : ME S := fun ρ s P R => m ρ s (fun x s1 => ∃ ds, (x = .lst ds ∨ x = .frz ds) ∧ P (.lst ds.reverse) s1) R
theorem de_revL {e : Expr} {te : TE} {m : ME S} {k : Nat} {p1 p2 p3 pos : Pos} (h : DE X Φ W e te m) : DE X Φ W (.Subscript e (.Slice none none (some (.UnaryOp .USub (.Constant (.int 1) k p1) p2)) p3) pos) (tRevL X.K te) (mRev m) :=
  ⟨pe_revL h.pe, fun σ ρ s G H Q P R hρ f hW hm kk => h.sem σ ρ s G H _ _ R hρ f hW hm fun x s1 v G1 H1 ⟨ds, ex, p_⟩ e1 f1 r1 => by
    have fin : ∀ {a : Addr} {ws : List V}, v = .ref a → SqL X.K H1 a ws → RpL X.K X.mg G1 ws ds → ∃ a xs, v = .ref a ∧ SqL X.K H1 a xs ∧ ∀ p, H1 p = none → Q (.ref p) (upd H1 p (.lst xs.reverse)) := fun {a ws} ev hq rl =>
      ⟨a, ws, ev, hq, fun p np => kk _ s1 _ (upd G1 p (.lst ws.reverse)) _ p_ (e1.trans (same_new ((Frm.same f1).free np))) (Frm.ext f1 np) (.lst upd_same (rl.rev.mono (same_new ((Frm.same f1).free np))))⟩
    rcases ex with rfl | rfl
    · cases r1 with | lst h l => exact fin rfl (SqL.of (Frm.same f1 _ _ h)) l
    · cases r1 with | frz h l => exact fin rfl (sql_mono (Frm.same f1) h.sql) l⟩
end
end DL

set_option Elab.async false
set_option linter.all false
set_option maxRecDepth 100000
set_option maxHeartbeats 1000000
/-! what code yields, as plain functions over data trees; one's own objects are numbered -/
namespace FL
open PySem PySem.Spec PyProof.Rows L2 DL

abbrev St := List (Option DO)
abbrev Th := List Addr
mutual
/-- the tree with numbers, the tree with addresses -/
inductive Rn (θ : Th) : D → D → Prop
  | non : Rn θ .non .non
  | bl (b : Bool) : Rn θ (.bl b) (.bl b)
  | int (i : Int) : Rn θ (.int i) (.int i)
  | str (x : Str) : Rn θ (.str x) (.str x)
  | lst {a b : List D} : RnL θ a b → Rn θ (.lst a) (.lst b)
  | tup {a b : List D} : RnL θ a b → Rn θ (.tup a) (.tup b)
  | dic {ks : List Key} {a b : List D} : RnL θ a b → Rn θ (.dic ks a) (.dic ks b)
  | ins {C : Str} {ns : List Str} {a b : List D} : RnL θ a b → Rn θ (.ins C ns a) (.ins C ns b)
  | frz {a b : List D} : RnL θ a b → Rn θ (.frz a) (.frz b)
  | loc {i : Nat} {a : Addr} : θ[i]? = some a → Rn θ (.loc i) (.loc a)
  | cls (C : Str) : Rn θ (.cls C) (.cls C)
  | ty (n : String) : Rn θ (.ty n) (.ty n)
inductive RnL (θ : Th) : List D → List D → Prop
  | nil : RnL θ [] []
  | cons {d e : D} {ds es : List D} : Rn θ d e → RnL θ ds es → RnL θ (d :: ds) (e :: es)
end
theorem sub_at {θ θ1 : Th} (s : θ <+: θ1) {i : Nat} {a : Addr} (h : θ[i]? = some a) : θ1[i]? = some a := by
  obtain ⟨t, rfl⟩ := s
  have hi : i < θ.length := (List.getElem?_eq_some_iff.mp h).1
  rw [List.getElem?_append_left hi]
  exact h
mutual
theorem Rn.mono {θ θ1 : Th} (s : θ <+: θ1) : ∀ {a b : D}, Rn θ a b → Rn θ1 a b
  | _, _, .non => .non
  | _, _, .bl b => .bl b
  | _, _, .int i => .int i
  | _, _, .str x => .str x
  | _, _, .lst r => .lst (RnL.mono s r)
  | _, _, .tup r => .tup (RnL.mono s r)
  | _, _, .dic r => .dic (RnL.mono s r)
  | _, _, .ins r => .ins (RnL.mono s r)
  | _, _, .frz r => .frz (RnL.mono s r)
  | _, _, .loc h => .loc (sub_at s h)
  | _, _, .cls C => .cls C
  | _, _, .ty n => .ty n
theorem RnL.mono {θ θ1 : Th} (s : θ <+: θ1) : ∀ {a b : List D}, RnL θ a b → RnL θ1 a b
  | _, _, .nil => .nil
  | _, _, .cons a b => .cons (Rn.mono s a) (RnL.mono s b)
end
section
variable {θ : Th}
theorem RnL.len : ∀ {a b : List D}, RnL θ a b → a.length = b.length
  | _, _, .nil => rfl
  | _, _, .cons _ r => by rw [List.length_cons, List.length_cons, RnL.len r]
theorem RnL.at : ∀ {a b : List D} {i : Nat} {d : D}, RnL θ a b → a[i]? = some d → ∃ e, b[i]? = some e ∧ Rn θ d e
  | _, _, _, _, .nil, h => by simp at h
  | _, _, 0, _, .cons a _, h => by
    simp at h
    subst h
    exact ⟨_, rfl, a⟩
  | _, _, i + 1, _, .cons _ r, h => by
    obtain ⟨v, e, q⟩ := RnL.at (i := i) r (by simpa using h)
    exact ⟨v, by simpa using e, q⟩
theorem RnL.app : ∀ {a b c d : List D}, RnL θ a b → RnL θ c d → RnL θ (a ++ c) (b ++ d)
  | _, _, _, _, .nil, s => s
  | _, _, _, _, .cons a r, s => .cons a (RnL.app r s)
theorem RnL.tk : ∀ {a b : List D} (n : Nat), RnL θ a b → RnL θ (a.take n) (b.take n)
  | _, _, 0, _ => .nil
  | _, _, _ + 1, .nil => .nil
  | _, _, n + 1, .cons a r => .cons a (RnL.tk n r)
theorem RnL.dr : ∀ {a b : List D} (n : Nat), RnL θ a b → RnL θ (a.drop n) (b.drop n)
  | _, _, 0, r => r
  | _, _, _ + 1, .nil => .nil
  | _, _, n + 1, .cons _ r => RnL.dr n r
theorem RnL.rev : ∀ {a b : List D}, RnL θ a b → RnL θ a.reverse b.reverse
  | _, _, .nil => .nil
  | _, _, .cons a r => by
    rw [List.reverse_cons, List.reverse_cons]
    exact (RnL.rev r).app (.cons a .nil)
theorem RnL.flat (n : Nat) {a b : List D} (r : RnL θ a b) : RnL θ (List.replicate n a).flatten (List.replicate n b).flatten := by
  induction n with
  | zero => exact .nil
  | succ n ih =>
    rw [List.replicate_succ, List.replicate_succ, List.flatten_cons, List.flatten_cons]
    exact r.app ih
theorem RnL.set {d e : D} (r : Rn θ d e) : ∀ {a b : List D} (j : Nat), RnL θ a b → RnL θ (a.set j d) (b.set j e)
  | _, _, _, .nil => .nil
  | _, _, 0, .cons _ b => .cons r b
  | _, _, j + 1, .cons a b => .cons a (RnL.set r j b)
theorem rnl_mem {a b : List D} (r : RnL θ a b) : ∀ {e : D}, e ∈ b → ∃ d, d ∈ a ∧ Rn θ d e := by
  induction a generalizing b with
  | nil => cases r; intro e h; cases h
  | cons x xs ih =>
    cases r with
    | cons h t =>
      intro e he
      cases he with
      | head => exact ⟨x, List.mem_cons_self, h⟩
      | tail _ hm =>
        obtain ⟨d, hd, rd⟩ := ih t hm
        exact ⟨d, List.mem_cons_of_mem _ hd, rd⟩
end
/-! trees without numbers stand for themselves -/
mutual
def noLoc : D → Bool
  | .lst a => noLocL a
  | .tup a => noLocL a
  | .dic _ a => noLocL a
  | .ins _ _ a => noLocL a
  | .frz a => noLocL a
  | .loc _ => false
  | _ => true
def noLocL : List D → Bool
  | [] => true
  | d :: ds => noLoc d && noLocL ds
end
mutual
theorem rn_eq {θ : Th} : ∀ {a b : D}, Rn θ a b → noLoc a = true → b = a
  | _, _, .non, _ => rfl
  | _, _, .bl b, _ => rfl
  | _, _, .int i, _ => rfl
  | _, _, .str x, _ => rfl
  | _, _, .lst r, h => by rw [rnl_eq r (by simpa [noLoc] using h)]
  | _, _, .tup r, h => by rw [rnl_eq r (by simpa [noLoc] using h)]
  | _, _, .dic r, h => by rw [rnl_eq r (by simpa [noLoc] using h)]
  | _, _, .ins r, h => by rw [rnl_eq r (by simpa [noLoc] using h)]
  | _, _, .frz r, h => by rw [rnl_eq r (by simpa [noLoc] using h)]
  | _, _, .loc _, h => by simp [noLoc] at h
  | _, _, .cls C, _ => rfl
  | _, _, .ty n, _ => rfl
theorem rnl_eq {θ : Th} : ∀ {a b : List D}, RnL θ a b → noLocL a = true → b = a
  | _, _, .nil, _ => rfl
  | _, _, .cons a r, h => by
    simp only [noLocL, Bool.and_eq_true] at h
    rw [rn_eq a h.1, rnl_eq r h.2]
end
mutual
theorem rn_self {θ : Th} : ∀ {a : D}, noLoc a = true → Rn θ a a
  | .non, _ => .non
  | .bl b, _ => .bl b
  | .int i, _ => .int i
  | .str x, _ => .str x
  | .lst a, h => .lst (rnl_self (by simpa [noLoc] using h))
  | .tup a, h => .tup (rnl_self (by simpa [noLoc] using h))
  | .dic _ a, h => .dic (rnl_self (by simpa [noLoc] using h))
  | .ins _ _ a, h => .ins (rnl_self (by simpa [noLoc] using h))
  | .frz a, h => .frz (rnl_self (by simpa [noLoc] using h))
  | .loc _, h => by simp [noLoc] at h
  | .cls C, _ => .cls C
  | .ty n, _ => .ty n
theorem rnl_self {θ : Th} : ∀ {a : List D}, noLocL a = true → RnL θ a a
  | [], _ => .nil
  | d :: ds, h => by
    simp only [noLocL, Bool.and_eq_true] at h
    exact .cons (rn_self h.1) (rnl_self h.2)
end
/-! objects, errors, slots -/
inductive RnO (θ : Th) : DO → DO → Prop
  | lst {a b : List D} : RnL θ a b → RnO θ (.lst a) (.lst b)
  | dic {ks : List Key} {a b : List D} : RnL θ a b → RnO θ (.dic ks a) (.dic ks b)
  | ins {C : Str} {ns : List Str} {a b : List D} : RnL θ a b → RnO θ (.ins C ns a) (.ins C ns b)
theorem RnO.mono {θ θ1 : Th} (s : θ <+: θ1) {x y : DO} (h : RnO θ x y) : RnO θ1 x y := by
  cases h with
  | lst r => exact .lst (r.mono s)
  | dic r => exact .dic (r.mono s)
  | ins r => exact .ins (r.mono s)
theorem RnO.tree {θ : Th} {x y : DO} (h : RnO θ x y) : Rn θ x.tree y.tree := by
  cases h with
  | lst r => exact .lst r
  | dic r => exact .dic r
  | ins r => exact .ins r
def RnX (θ : Th) (x y : Exn) : Prop := x.cls = y.cls ∧ match x.fs, y.fs with
  | none, none => True
  | some (ns, a), some (ms, b) => ns = ms ∧ RnL θ a b
  | _, _ => False
theorem RnX.mono {θ θ1 : Th} (s : θ <+: θ1) {x y : Exn} (h : RnX θ x y) : RnX θ1 x y := by
  obtain ⟨c, h⟩ := h
  refine ⟨c, ?_⟩
  revert h
  cases x.fs <;> cases y.fs <;> first | exact id | exact fun h => ⟨h.1, h.2.mono s⟩
def RnE (θ : Th) (ρ ρ' : Rho) : Prop := ρ.length = ρ'.length ∧ ∀ (i : Nat) (d : D), ρ[i]? = some (some d) → ∃ e, ρ'[i]? = some (some e) ∧ Rn θ d e
theorem RnE.mono {θ θ1 : Th} (s : θ <+: θ1) {ρ ρ' : Rho} (h : RnE θ ρ ρ') : RnE θ1 ρ ρ' := ⟨h.1, fun i d q => by
  obtain ⟨e, a, b⟩ := h.2 i d q
  exact ⟨e, a, b.mono s⟩⟩
theorem RnE.set {θ : Th} {ρ ρ' : Rho} (h : RnE θ ρ ρ') (i : Nat) {d e : D} (r : Rn θ d e) : RnE θ (ρ.set i (some d)) (ρ'.set i (some e)) := by
  refine ⟨by rw [List.length_set, List.length_set]; exact h.1, fun j u q => ?_⟩
  by_cases hj : i = j
  · subst hj
    have hl : i < ρ.length := by
      have q' := (List.getElem?_eq_some_iff.mp q).1
      rwa [List.length_set] at q'
    rw [List.getElem?_set_self hl] at q
    cases q
    exact ⟨e, List.getElem?_set_self (by rw [← h.1]; exact hl), r⟩
  · rw [List.getElem?_set_ne hj] at q ⊢
    exact h.2 j u q
theorem RnE.drop {θ : Th} {ρ ρ' : Rho} (h : RnE θ ρ ρ') (i : Nat) (u : Option D) : RnE θ (ρ.set i none) (ρ'.set i u) := by
  refine ⟨by rw [List.length_set, List.length_set]; exact h.1, fun j e q => ?_⟩
  by_cases hj : i = j
  · subst hj
    have hl : i < ρ.length := by
      have q' := (List.getElem?_eq_some_iff.mp q).1
      rwa [List.length_set] at q'
    rw [List.getElem?_set_self hl] at q
    cases q
  · rw [List.getElem?_set_ne hj] at q ⊢
    exact h.2 j e q
theorem RnE.wipe {θ : Th} {ρ ρ' : Rho} (h : RnE θ ρ ρ') : ∀ vs : List Nat, RnE θ (wipeD ρ vs) (wipeD ρ' vs)
  | [] => h
  | v :: vs => (h.wipe vs).drop v none
theorem RnE.start {θ : Th} {a b : List D} (r : RnL θ a b) (k : Nat) : RnE θ (a.map some ++ List.replicate k none) (b.map some ++ List.replicate k none) := by
  have hl := r.len
  refine ⟨by simp [hl], fun i d h => ?_⟩
  by_cases hi : i < a.length
  · rw [List.getElem?_append_left (by simpa using hi), List.getElem?_map] at h
    cases e : a[i]? with
    | none => rw [e] at h; cases h
    | some d' =>
      rw [e] at h
      cases h
      obtain ⟨v, hv, rv⟩ := r.at e
      refine ⟨v, ?_, rv⟩
      rw [List.getElem?_append_left (by simpa [← hl] using hi), List.getElem?_map, hv]
      rfl
  · rw [List.getElem?_append_right (by simpa using hi), List.getElem?_replicate] at h
    split at h <;> cases h
/-- the numbered objects stand at their addresses -/
structure Mt (θ : Th) (st : St) (O : OH) : Prop where
  len : θ.length = st.length
  live : ∀ (i : Nat) (x : DO), st[i]? = some (some x) → ∃ a y, θ[i]? = some a ∧ O a = some y ∧ RnO θ x y
  inj : ∀ (i j : Nat) (x y : DO) (a : Addr), st[i]? = some (some x) → st[j]? = some (some y) → θ[i]? = some a → θ[j]? = some a → i = j
theorem Mt.new {θ : Th} {st : St} {O : OH} (h : Mt θ st O) {p : Addr} {x y : DO} (n : O p = none) (r : RnO θ x y) : Mt (θ ++ [p]) (st ++ [some x]) (O.put p y) := by
  have hl := h.len
  have sb : θ <+: θ ++ [p] := ⟨[p], rfl⟩
  have old : ∀ (i : Nat) (z : DO), i ≠ st.length → (st ++ [some x])[i]? = some (some z) → st[i]? = some (some z) := fun i z hi e => by
    by_cases q : i < st.length
    · rwa [List.getElem?_append_left q] at e
    · rw [List.getElem?_append_right (by omega)] at e
      have : i - st.length ≠ 0 := by omega
      cases e1 : i - st.length with
      | zero => exact absurd e1 this
      | succ k => rw [e1] at e; simp at e
  have atp : ∀ (i : Nat) (z : DO) (a : Addr), st[i]? = some (some z) → (θ ++ [p])[i]? = some a → θ[i]? = some a ∧ a ≠ p := fun i z a e q => by
    obtain ⟨b, y', h1, h2, _⟩ := h.live i z e
    have := sub_at sb h1
    rw [this] at q
    cases q
    exact ⟨h1, fun e' => by rw [e', n] at h2; cases h2⟩
  have lastp : ∀ (a : Addr), (θ ++ [p])[st.length]? = some a → a = p := fun a e => by
    rw [List.getElem?_append_right (by omega), hl, Nat.sub_self] at e
    simpa using e.symm
  refine ⟨by simp [hl], fun i z e => ?_, fun i j z w a e1 e2 q1 q2 => ?_⟩
  · by_cases hi : i = st.length
    · subst hi
      rw [List.getElem?_append_right (Nat.le_refl _), Nat.sub_self] at e
      simp at e
      subst e
      exact ⟨p, y, by rw [List.getElem?_append_right (by omega), hl, Nat.sub_self]; rfl, OH.put_same, r.mono sb⟩
    · have e' := old i z hi e
      obtain ⟨a, u, h1, h2, h3⟩ := h.live i z e'
      exact ⟨a, u, sub_at sb h1, by rw [OH.put_ne fun q => by rw [q, n] at h2; cases h2]; exact h2, h3.mono sb⟩
  · by_cases hi : i = st.length
    · by_cases hj : j = st.length
      · rw [hi, hj]
      · subst hi
        have := lastp a q1
        exact absurd this (atp j w a (old j w hj e2) q2).2
    · by_cases hj : j = st.length
      · subst hj
        have := lastp a q2
        exact absurd this (atp i z a (old i z hi e1) q1).2
      · exact h.inj i j z w a (old i z hi e1) (old j w hj e2) (atp i z a (old i z hi e1) q1).1 (atp j w a (old j w hj e2) q2).1
theorem Mt.put {θ : Th} {st : St} {O : OH} (h : Mt θ st O) {i : Nat} {a : Addr} {x0 x y : DO} (e : st[i]? = some (some x0)) (q : θ[i]? = some a) (r : RnO θ x y) : Mt θ (st.set i (some x)) (O.put a y) := by
  have hi : i < st.length := (List.getElem?_eq_some_iff.mp e).1
  have back : ∀ (j : Nat) (z : DO), (st.set i (some x))[j]? = some (some z) → j = i ∨ (j ≠ i ∧ st[j]? = some (some z)) := fun j z e => by
    by_cases hj : j = i
    · exact .inl hj
    · rw [List.getElem?_set_ne (Ne.symm hj)] at e
      exact .inr ⟨hj, e⟩
  have lives : ∀ (j : Nat) (z : DO), (st.set i (some x))[j]? = some (some z) → ∃ z0, st[j]? = some (some z0) := fun j z e1 => by
    rcases back j z e1 with rfl | ⟨_, e2⟩
    · exact ⟨x0, e⟩
    · exact ⟨z, e2⟩
  refine ⟨by rw [List.length_set]; exact h.len, fun j z e1 => ?_, fun j k z w b e1 e2 q1 q2 => ?_⟩
  · by_cases hj : j = i
    · subst hj
      rw [List.getElem?_set_self hi] at e1
      cases e1
      exact ⟨a, y, q, OH.put_same, r⟩
    · rw [List.getElem?_set_ne (Ne.symm hj)] at e1
      obtain ⟨b, u, h1, h2, h3⟩ := h.live j z e1
      exact ⟨b, u, h1, by rw [OH.put_ne fun e2 => hj (by subst e2; exact h.inj j i z x0 b e1 e h1 q)]; exact h2, h3⟩
  · obtain ⟨z0, l1⟩ := lives j z e1
    obtain ⟨w0, l2⟩ := lives k w e2
    exact h.inj j k z0 w0 b l1 l2 q1 q2
theorem Mt.del {θ : Th} {st : St} {O : OH} (h : Mt θ st O) {i : Nat} {a : Addr} {x0 : DO} (e : st[i]? = some (some x0)) (q : θ[i]? = some a) : Mt θ (st.set i none) (O.del a) := by
  have hi : i < st.length := (List.getElem?_eq_some_iff.mp e).1
  have back : ∀ (j : Nat) (z : DO), (st.set i none)[j]? = some (some z) → j ≠ i ∧ st[j]? = some (some z) := fun j z e => by
    by_cases hj : j = i
    · subst hj
      rw [List.getElem?_set_self hi] at e
      cases e
    · rw [List.getElem?_set_ne (Ne.symm hj)] at e
      exact ⟨hj, e⟩
  refine ⟨by rw [List.length_set]; exact h.len, fun j z e1 => ?_, fun j k z w b e1 e2 q1 q2 => h.inj j k z w b (back j z e1).2 (back k w e2).2 q1 q2⟩
  obtain ⟨hj, e1⟩ := back j z e1
  obtain ⟨b, u, h1, h2, h3⟩ := h.live j z e1
  exact ⟨b, u, h1, by rw [OH.del_ne fun e2 => hj (by subst e2; exact h.inj j i z x0 b e1 e h1 q)]; exact h2, h3⟩
theorem Mt.at {θ : Th} {st : St} {O : OH} (h : Mt θ st O) {i : Nat} {a : Addr} {x : DO} (e : st[i]? = some (some x)) (q : θ[i]? = some a) : ∃ y, O a = some y ∧ RnO θ x y := by
  obtain ⟨b, y, h1, h2, h3⟩ := h.live i x e
  rw [q] at h1
  cases h1
  exact ⟨y, h2, h3⟩
end FL

set_option Elab.async false
set_option linter.all false
set_option maxRecDepth 100000
set_option maxHeartbeats 1000000
namespace FL
open PySem PySem.Spec PyProof.Rows L2 DL

inductive Res (α : Type) where
  | ok (a : α) (st : St)
  | ex (x : Exn) (st : St)
  | bad
def Res.bind {α β : Type} (r : Res α) (k : α → St → Res β) : Res β := match r with
  | .ok a st => k a st
  | .ex x st => .ex x st
  | .bad => .bad
/-- .. no error may come -/
def Res.calm {α : Type} (r : Res α) : Res α := match r with
  | .ok a st => .ok a st
  | _ => .bad
abbrev fE := Rho → St → Res D
abbrev fT := Rho → St → Res Bool
abbrev fA := Rho → St → Res (List D)
/-- within a suite: the slot of the error, where it stands, what it is -/
abbrev Jv := Option (Nat × Addr × Exn × Exn)
def jok : Jv → Th → Rho → Prop
  | none, _, _ => True
  | some (i, a, x', x), θ, ρ' => ρ'[i]? = some (some (.loc a)) ∧ RnX θ x x'
theorem jok.mono {J : Jv} {θ θ1 : Th} {ρ : Rho} (h : jok J θ ρ) (s : θ <+: θ1) : jok J θ1 ρ := by
  cases J with
  | none => trivial
  | some q => exact ⟨h.1, h.2.mono s⟩
def jfree : Jv → Nat → Prop
  | none, _ => True
  | some (i, _), j => j ≠ i
theorem jok.set {J : Jv} {θ : Th} {ρ : Rho} (h : jok J θ ρ) {j : Nat} (f : jfree J j) (u : Option D) : jok J θ (ρ.set j u) := by
  cases J with
  | none => trivial
  | some q => exact ⟨by rw [List.getElem?_set_ne f]; exact h.1, h.2⟩
theorem jok.wipe {J : Jv} {θ : Th} {ρ : Rho} (h : jok J θ ρ) : ∀ {vs : List Nat}, (∀ v ∈ vs, jfree J v) → jok J θ (wipeD ρ vs)
  | [], _ => h
  | v :: vs, f => (h.wipe fun x hx => f x (List.mem_cons_of_mem _ hx)).set (f v List.mem_cons_self) none
structure Ct (J : Jv) (θ : Th) (ρ ρ' : Rho) (st : St) (O : OH) : Prop where
  env : RnE θ ρ ρ'
  mt : Mt θ st O
  j : jok J θ ρ'
theorem Ct.step {J : Jv} {θ θ1 : Th} {ρ ρ' : Rho} {st st1 : St} {O O1 : OH} (h : Ct J θ ρ ρ' st O) (s : θ <+: θ1) (m : Mt θ1 st1 O1) : Ct J θ1 ρ ρ' st1 O1 := ⟨h.env.mono s, m, h.j.mono s⟩
theorem Ct.sub {J : Jv} {θ θ1 : Th} {ρ ρ' : Rho} {st : St} {O : OH} (h : Ct J θ ρ ρ' st O) : θ <+: θ := List.prefix_refl _
theorem Ct.set {J : Jv} {θ : Th} {ρ ρ' : Rho} {st : St} {O : OH} (h : Ct J θ ρ ρ' st O) {i : Nat} (f : jfree J i) {d e : D} (r : Rn θ d e) : Ct J θ (ρ.set i (some d)) (ρ'.set i (some e)) st O := ⟨h.env.set i r, h.mt, h.j.set f _⟩

section
variable {α α' β β' : Type}
def Aft (rel : Th → α → α' → Prop) (θ : Th) (r : Res α) (P : α' → OH → Prop) (R : Exn → OH → Prop) : Prop := match r with
  | .ok a st => ∀ (θ1 : Th) (a' : α') (O1 : OH), θ <+: θ1 → rel θ1 a a' → Mt θ1 st O1 → P a' O1
  | .ex x st => ∀ (θ1 : Th) (x' : Exn) (O1 : OH), θ <+: θ1 → RnX θ1 x x' → Mt θ1 st O1 → R x' O1
  | .bad => False
variable {rel : Th → α → α' → Prop} {rel2 : Th → β → β' → Prop} {θ θ1 : Th} {r : Res α} {P P' : α' → OH → Prop} {R : Exn → OH → Prop}
theorem Aft.sub (h : Aft rel θ r P R) (s : θ <+: θ1) : Aft rel θ1 r P R := by
  cases r with
  | ok a st => exact fun θ2 a' O1 t => h θ2 a' O1 (s.trans t)
  | ex x st => exact fun θ2 a' O1 t => h θ2 a' O1 (s.trans t)
  | bad => exact h
theorem Aft.imp (h : Aft rel θ r P R) (k : ∀ a O, P a O → P' a O) : Aft rel θ r P' R := by
  cases r with
  | ok a st => exact fun θ2 a' O1 t u v => k _ _ (h θ2 a' O1 t u v)
  | ex x st => exact h
  | bad => exact h
theorem Aft.bind {k : α → St → Res β} {Q : β' → OH → Prop} (h : Aft rel2 θ (r.bind k) Q R)
    (kk : ∀ (θ1 : Th) (a : α) (a' : α') (st1 : St) (O1 : OH), θ <+: θ1 → rel θ1 a a' → Mt θ1 st1 O1 → Aft rel2 θ1 (k a st1) Q R → P' a' O1) : Aft rel θ r P' R := by
  cases r with
  | ok a st => exact fun θ1 a' O1 s q m => kk θ1 a a' st O1 s q m (Aft.sub (r := k a st) h s)
  | ex x st => exact h
  | bad => exact h
theorem Aft.calm (h : Aft rel θ r.calm P R) : Aft rel θ r P R0 := by
  cases r with
  | ok a st => exact h
  | ex x st => exact h.elim
  | bad => exact h
theorem Aft.ok {a : α} {a' : α'} {st : St} {O : OH} (h : Aft rel θ (.ok a st) P R) (q : rel θ a a') (m : Mt θ st O) : P a' O := h θ a' O (List.prefix_refl _) q m
end
def relB : Th → Bool → Bool → Prop := fun _ a b => a = b
def dE (J : Jv) (f : fE) : ME OH := fun ρ' O P R => ∃ θ ρ st, Ct J θ ρ ρ' st O ∧ Aft Rn θ (f ρ st) P R
def dT (J : Jv) (f : fT) : MT OH := fun ρ' O P R => ∃ θ ρ st, Ct J θ ρ ρ' st O ∧ Aft relB θ (f ρ st) P R
def dA (J : Jv) (f : fA) : MA OH := fun ρ' O P R => ∃ θ ρ st, Ct J θ ρ ρ' st O ∧ Aft RnL θ (f ρ st) P R
section
variable (X : Cx) (Φ : OH → Hp → Hp → Prop) (W : WX) (J : Jv)
def FE (e : Expr) (f : fE) : Prop := ∃ te, DE X Φ W e te (dE J f)
def FT (e : Expr) (f : fT) : Prop := ∃ tt, DT X Φ W e tt (dT J f)
def FW (e : Expr) (f : fT) : Prop := ∃ tt, DW X Φ W e tt (dT J f)
def FA (es : List Expr) (f : fA) : Prop := ∃ ta, DA X Φ W es ta (dA J f)
def FI (tg it : Expr) (f : fA) : Prop := ∃ wi, DI X Φ W tg it wi (dA J f)
end
section
variable {X : Cx} {Φ : OH → Hp → Hp → Prop} {W : WX} {J : Jv} {e : Expr} {es : List Expr} {te : TE} {tt : TT} {ta : TA}
theorem fe_of {m : ME OH} {f : fE} (h : DE X Φ W e te m) (i : ∀ ρ' O P R, dE J f ρ' O P R → m ρ' O P R) : FE X Φ W J e f :=
  ⟨te, h.pe, fun σ ρ s G H Q P R hρ f0 hW hm k => h.sem σ ρ s G H Q P R hρ f0 hW (i _ _ _ _ hm) k⟩
theorem ft_of {m : MT OH} {f : fT} (h : DT X Φ W e tt m) (i : ∀ ρ' O P R, dT J f ρ' O P R → m ρ' O P R) : FT X Φ W J e f :=
  ⟨tt, h.pt, fun σ ρ s G H Q P R hρ f0 hW hm k => h.sem σ ρ s G H Q P R hρ f0 hW (i _ _ _ _ hm) k⟩
theorem fw_of {m : MT OH} {f : fT} (h : DW X Φ W e tt m) (i : ∀ ρ' O P R, dT J f ρ' O P R → m ρ' O P R) : FW X Φ W J e f :=
  ⟨tt, h.pw, fun σ ρ s G H Q P R hρ f0 hW hm k => h.sem σ ρ s G H Q P R hρ f0 hW (i _ _ _ _ hm) k⟩
theorem fa_of {m : MA OH} {f : fA} (h : DA X Φ W es ta m) (i : ∀ ρ' O P R, dA J f ρ' O P R → m ρ' O P R) : FA X Φ W J es f :=
  ⟨ta, h.pa, fun σ ρ s G H Q P R hρ f0 hW hm k => h.sem σ ρ s G H Q P R hρ f0 hW (i _ _ _ _ hm) k⟩
theorem fi_of {tg it : Expr} {wi : TI} {m : MI OH} {f : fA} (h : DI X Φ W tg it wi m) (i : ∀ ρ' O P R, dA J f ρ' O P R → m ρ' O P R) : FI X Φ W J tg it f :=
  ⟨wi, h.pi, fun σ ρ s G H Q P R hρ f0 hW hm k => h.sem σ ρ s G H Q P R hρ f0 hW (i _ _ _ _ hm) k⟩
end

section
variable {X : Cx} {Φ : OH → Hp → Hp → Prop} {W : WX} [FΦ : OFrm X.K X.mg Φ] {J : Jv}
/-! names, constants -/
def fVar (i : Nat) : fE := fun ρ st => match ρ[i]? with
  | some (some d) => .ok d st
  | _ => .bad
theorem fe_var (i : Nat) {x : Str} {pos : Pos} (hN : X.N[i]? = some x := by rfl) (hv : Vis X.env.scope x := by first | exact Or.inl rfl | exact Or.inr (Or.inl rfl) | exact Or.inr (Or.inr rfl)) (hd : (x == ("__debug__" : Str)) = false := by decide)
    (hcd : (x == ("__classdict__" : Str)) = false := by decide) : FE X Φ W J (.Name x pos) (fVar i) :=
  fe_of (de_var i hN hv hd hcd) fun ρ' O P R ⟨θ, ρ, st, c, h⟩ => by
    unfold fVar at h
    cases q : ρ[i]? with
    | none => rw [q] at h; exact h.elim
    | some u =>
      rw [q] at h
      cases u with
      | none => exact h.elim
      | some d =>
        obtain ⟨d', e, r⟩ := c.env.2 i d q
        exact ⟨d', e, Aft.ok h r c.mt⟩
def fC (d : D) : fE := fun _ st => .ok d st
theorem fc_run {d : D} (hd : noLoc d = true) {ρ' : Rho} {O : OH} {P : D → OH → Prop} {R : Exn → OH → Prop} (h : dE J (fC d) ρ' O P R) : mC d ρ' O P R := by
  obtain ⟨θ, ρ, st, c, h⟩ := h
  exact Aft.ok h (rn_self hd) c.mt
theorem fe_int {i j pos} : FE X Φ W J (.Constant (.int i) j pos) (fC (.int i)) := fe_of de_int fun _ _ _ _ h => fc_run rfl h
theorem fe_bl {b j pos} : FE X Φ W J (.Constant (.bool b) j pos) (fC (.bl b)) := fe_of de_bl fun _ _ _ _ h => fc_run rfl h
theorem fe_non {j pos} : FE X Φ W J (.Constant .none j pos) (fC .non) := fe_of de_non fun _ _ _ _ h => fc_run rfl h
theorem fe_str {x j pos} : FE X Φ W J (.Constant (.str x) j pos) (fC (.str x)) := fe_of de_str fun _ _ _ _ h => fc_run rfl h
theorem fe_glob {x : Str} {v : V} {u : Value} {d : D} {pos : Pos} (hg : Gl X x) (hm : X.mg x = some u) (r : RelV v u) (hc : ∀ G, Rp X.K X.mg G v d) (hn : noLoc d = true := by rfl) (hd : (x == ("__debug__" : Str)) = false := by decide) : FE X Φ W J (.Name x pos) (fC d) :=
  fe_of (de_glob hg hm r hc hd) fun _ _ _ _ h => fc_run hn h
/-! operators -/
structure OW (o : D → D → Option D) (w : W2) : Prop where
  run : ∀ (θ : Th) (a b a' b' d : D) (P : D → Prop), Rn θ a a' → Rn θ b b' → o a b = some d → (∀ d', Rn θ d d' → P d') → w a' b' P
def optR (o : Option D) (st : St) : Res D := match o with
  | some d => .ok d st
  | none => .bad
def fBin (o : D → D → Option D) (fa fb : fE) : fE := fun ρ st => (fa ρ st).bind fun a st1 => (fb ρ st1).bind fun b st2 => optR (o a b) st2
theorem fbin_run {o : D → D → Option D} {w : W2} (ow : OW o w) {fa fb : fE} {ρ' : Rho} {O : OH} {P : D → OH → Prop} {R : Exn → OH → Prop} (h : dE J (fBin o fa fb) ρ' O P R) : mBin w (dE J fa) (dE J fb) ρ' O P R := by
  obtain ⟨θ, ρ, st, c, h⟩ := h
  refine ⟨θ, ρ, st, c, h.bind fun θ1 a a' st1 O1 s1 ra m1 h1 => ?_⟩
  refine ⟨θ1, ρ, st1, c.step s1 m1, h1.bind fun θ2 b b' st2 O2 s2 rb m2 h2 => ?_⟩
  cases q : o a b with
  | none => rw [q] at h2; exact h2.elim
  | some d =>
    rw [q] at h2
    exact ow.run θ2 a b a' b' d _ (ra.mono s2) rb q fun d' rd => Aft.ok h2 rd m2
section
variable {a b : Expr} {fa fb : fE} {pos : Pos} {r : R2} {w : W2} {o : D → D → Option D}
theorem fe_bin {op : Operator} (o2 : Op2 X (binaryOp op) r w) (ow : OW o w) (ha : FE X Φ W J a fa) (hb : FE X Φ W J b fb) : FE X Φ W J (.BinOp a op b pos) (fBin o fa fb) := by
  obtain ⟨_, ha⟩ := ha
  obtain ⟨_, hb⟩ := hb
  exact fe_of (de_bin o2 ha hb) fun _ _ _ _ h => fbin_run ow h
theorem fe_cmp {op : CmpOp} (o2 : Op2 X (compareOp op) r w) (ow : OW o w) (ha : FE X Φ W J a fa) (hb : FE X Φ W J b fb) (hm : behindInMarks op b = false := by first | exact nomark _ | rfl) : FE X Φ W J (.Compare a [op] [b] pos) (fBin o fa fb) := by
  obtain ⟨_, ha⟩ := ha
  obtain ⟨_, hb⟩ := hb
  exact fe_of (de_cmp o2 ha hb hm) fun _ _ _ _ h => fbin_run ow h
theorem fe_ix (o2 : Ix2 X r w) (ow : OW o w) (ha : FE X Φ W J a fa) (hb : FE X Φ W J b fb) (hs : PlainIx b := by exact fun _ _ => rfl) : FE X Φ W J (.Subscript a b pos) (fBin o fa fb) := by
  obtain ⟨_, ha⟩ := ha
  obtain ⟨_, hb⟩ := hb
  exact fe_of (de_ix o2 ha hb hs) fun _ _ _ _ h => fbin_run ow h
def blR (d : D) (st : St) : Res Bool := match d with
  | .bl b => .ok b st
  | _ => .bad
def fTest (f : fE) : fT := fun ρ st => (f ρ st).bind blR
theorem ftest_run {f : fE} {ρ' : Rho} {O : OH} {P : Bool → OH → Prop} {R : Exn → OH → Prop} (h : dT J (fTest f) ρ' O P R) : mTest (dE J f) ρ' O P R := by
  obtain ⟨θ, ρ, st, c, h⟩ := h
  refine ⟨θ, ρ, st, c, h.bind fun θ1 a a' st1 O1 s1 ra m1 h1 => ?_⟩
  cases ra with
  | bl b => exact ⟨b, rfl, Aft.ok h1 rfl m1⟩
  | _ => exact h1.elim
theorem mtest_mono {m m' : ME OH} (i : ∀ ρ' O P R, m ρ' O P R → m' ρ' O P R) {ρ' : Rho} {O : OH} {P : Bool → OH → Prop} {R : Exn → OH → Prop} (h : mTest m ρ' O P R) : mTest m' ρ' O P R := i _ _ _ _ h
theorem ft_cmp {op : CmpOp} (o2 : Op2 X (compareOp op) r w) (ow : OW o w) (ha : FE X Φ W J a fa) (hb : FE X Φ W J b fb) (hm : behindInMarks op b = false := by first | exact nomark _ | rfl) : FT X Φ W J (.Compare a [op] [b] pos) (fTest (fBin o fa fb)) := by
  obtain ⟨_, ha⟩ := ha
  obtain ⟨_, hb⟩ := hb
  exact ft_of (dt_cmp o2 ha hb hm) fun _ _ _ _ h => mtest_mono (fun _ _ _ _ => fbin_run ow) (ftest_run h)
end
theorem ft_val {e : Expr} {f : fE} (h : FE X Φ W J e f) (he : ∀ whole, isTrue e X.env whole = (do let v ← whole; standAt e.pos; holding [v] (truthy v)) := by intro _; rfl) : FT X Φ W J e (fTest f) := by
  obtain ⟨_, h⟩ := h
  exact ft_of (dt_val h he) fun _ _ _ _ h => ftest_run h
def fAnd (t u : fT) : fT := fun ρ st => (t ρ st).bind fun c st1 => if c = true then u ρ st1 else .ok false st1
def fOr (t u : fT) : fT := fun ρ st => (t ρ st).bind fun c st1 => if c = true then .ok true st1 else u ρ st1
def fNot (t : fT) : fT := fun ρ st => (t ρ st).bind fun c st1 => .ok (!c) st1
section
variable {a b : Expr} {rest : List Expr} {fa fb : fT} {pos : Pos}
theorem fw_and1 (h : FT X Φ W J a fa) : FW X Φ W J (.BoolOp .And [a] pos) fa := by
  obtain ⟨_, h⟩ := h
  exact ⟨_, dw_and1 h⟩
theorem fw_or1 (h : FT X Φ W J a fa) : FW X Φ W J (.BoolOp .Or [a] pos) fa := by
  obtain ⟨_, h⟩ := h
  exact ⟨_, dw_or1 h⟩
theorem fw_and (h : FT X Φ W J a fa) (h' : FW X Φ W J (.BoolOp .And (b :: rest) pos) fb) : FW X Φ W J (.BoolOp .And (a :: b :: rest) pos) (fAnd fa fb) := by
  obtain ⟨_, h⟩ := h
  obtain ⟨_, h'⟩ := h'
  refine fw_of (dw_and h h') fun ρ' O P R ⟨θ, ρ, st, c, h⟩ => ⟨θ, ρ, st, c, h.bind fun θ1 a a' st1 O1 s1 ra m1 h1 => ?_⟩
  cases ra
  cases a with
  | true => exact ⟨θ1, ρ, st1, c.step s1 m1, h1⟩
  | false => exact Aft.ok h1 rfl m1
theorem fw_or (h : FT X Φ W J a fa) (h' : FW X Φ W J (.BoolOp .Or (b :: rest) pos) fb) : FW X Φ W J (.BoolOp .Or (a :: b :: rest) pos) (fOr fa fb) := by
  obtain ⟨_, h⟩ := h
  obtain ⟨_, h'⟩ := h'
  refine fw_of (dw_or h h') fun ρ' O P R ⟨θ, ρ, st, c, h⟩ => ⟨θ, ρ, st, c, h.bind fun θ1 a a' st1 O1 s1 ra m1 h1 => ?_⟩
  cases ra
  cases a with
  | true => exact Aft.ok h1 rfl m1
  | false => exact ⟨θ1, ρ, st1, c.step s1 m1, h1⟩
theorem FW.ft {e : Expr} (h : FW X Φ W J e fa) : FT X Φ W J e fa := by
  obtain ⟨_, h⟩ := h
  exact ⟨_, h.dt⟩
theorem ft_not (h : FT X Φ W J a fa) : FT X Φ W J (.UnaryOp .Not a pos) (fNot fa) := by
  obtain ⟨_, h⟩ := h
  refine ft_of (dt_not h) fun ρ' O P R ⟨θ, ρ, st, c, h⟩ => ⟨θ, ρ, st, c, h.bind fun θ1 a a' st1 O1 s1 ra m1 h1 => ?_⟩
  cases ra
  exact Aft.ok h1 rfl m1
end
/-! .. as values -/
def fAndV (m n : fE) : fE := fun ρ st => (m ρ st).bind fun d st1 => match d with
  | .bl true => n ρ st1
  | .bl false => .ok (.bl false) st1
  | _ => .bad
def fOrV (m n : fE) : fE := fun ρ st => (m ρ st).bind fun d st1 => match d with
  | .bl true => .ok (.bl true) st1
  | .bl false => n ρ st1
  | _ => .bad
def fNotV (m : fE) : fE := fun ρ st => (m ρ st).bind fun d st1 => match d with
  | .bl b => .ok (.bl (!b)) st1
  | _ => .bad
def fIf (t : fT) (m n : fE) : fE := fun ρ st => (t ρ st).bind fun c st1 => if c = true then m ρ st1 else n ρ st1
section
variable {a b : Expr} {rest : List Expr} {fa fb : fE} {pos : Pos}
theorem fe_one {op} (h : FE X Φ W J a fa) : FE X Φ W J (.BoolOp op [a] pos) fa := by
  obtain ⟨_, h⟩ := h
  exact ⟨_, de_one h⟩
theorem fe_and (h : FE X Φ W J a fa) (h' : FE X Φ W J (.BoolOp .And (b :: rest) pos) fb) : FE X Φ W J (.BoolOp .And (a :: b :: rest) pos) (fAndV fa fb) := by
  obtain ⟨_, h⟩ := h
  obtain ⟨_, h'⟩ := h'
  refine fe_of (de_and h h') fun ρ' O P R ⟨θ, ρ, st, c, h⟩ => ⟨θ, ρ, st, c, h.bind fun θ1 a a' st1 O1 s1 ra m1 h1 => ?_⟩
  cases ra with
  | bl q =>
    cases q with
    | true => exact ⟨true, rfl, by rw [if_pos rfl]; exact ⟨θ1, ρ, st1, c.step s1 m1, h1⟩⟩
    | false => exact ⟨false, rfl, by rw [if_neg Bool.false_ne_true]; exact Aft.ok h1 (.bl false) m1⟩
  | _ => exact h1.elim
theorem fe_or (h : FE X Φ W J a fa) (h' : FE X Φ W J (.BoolOp .Or (b :: rest) pos) fb) : FE X Φ W J (.BoolOp .Or (a :: b :: rest) pos) (fOrV fa fb) := by
  obtain ⟨_, h⟩ := h
  obtain ⟨_, h'⟩ := h'
  refine fe_of (de_or h h') fun ρ' O P R ⟨θ, ρ, st, c, h⟩ => ⟨θ, ρ, st, c, h.bind fun θ1 a a' st1 O1 s1 ra m1 h1 => ?_⟩
  cases ra with
  | bl q =>
    cases q with
    | true => exact ⟨true, rfl, by rw [if_pos rfl]; exact Aft.ok h1 (.bl true) m1⟩
    | false => exact ⟨false, rfl, by rw [if_neg Bool.false_ne_true]; exact ⟨θ1, ρ, st1, c.step s1 m1, h1⟩⟩
  | _ => exact h1.elim
theorem fe_not (h : FE X Φ W J a fa) : FE X Φ W J (.UnaryOp .Not a pos) (fNotV fa) := by
  obtain ⟨_, h⟩ := h
  refine fe_of (de_not h) fun ρ' O P R ⟨θ, ρ, st, c, h⟩ => ⟨θ, ρ, st, c, h.bind fun θ1 a a' st1 O1 s1 ra m1 h1 => ?_⟩
  cases ra with
  | bl q => exact ⟨q, rfl, Aft.ok h1 (.bl _) m1⟩
  | _ => exact h1.elim
theorem fe_if {t : Expr} {ft : fT} (ht : FT X Φ W J t ft) (h : FE X Φ W J a fa) (h' : FE X Φ W J b fb) : FE X Φ W J (.IfExp t a b pos) (fIf ft fa fb) := by
  obtain ⟨_, ht⟩ := ht
  obtain ⟨_, h⟩ := h
  obtain ⟨_, h'⟩ := h'
  refine fe_of (de_if ht h h') fun ρ' O P R ⟨θ, ρ, st, c, h⟩ => ⟨θ, ρ, st, c, h.bind fun θ1 a a' st1 O1 s1 ra m1 h1 => ?_⟩
  cases ra
  cases a with
  | true =>
    simp only [if_true] at h1 ⊢
    exact ⟨θ1, ρ, st1, c.step s1 m1, h1⟩
  | false =>
    simp only [Bool.false_eq_true, if_false] at h1 ⊢
    exact ⟨θ1, ρ, st1, c.step s1 m1, h1⟩
end
/-! arguments, displays -/
def fNil : fA := fun _ st => .ok [] st
def fCons (m : fE) (n : fA) : fA := fun ρ st => (m ρ st).bind fun d st1 => (n ρ st1).bind fun ds st2 => .ok (d :: ds) st2
def fLst (n : fA) : fE := fun ρ st => (n ρ st).bind fun ds st1 => if ds.length ≤ sizeLine then .ok (.lst ds) st1 else .bad
def fTup (n : fA) : fE := fun ρ st => (n ρ st).bind fun ds st1 => if ds.length ≤ sizeLine then .ok (.tup ds) st1 else .bad
/-- .. a list of one's own -/
def fLstO (n : fA) : fE := fun ρ st => (n ρ st).bind fun ds st1 => if ds.length ≤ sizeLine then .ok (.loc st1.length) (st1 ++ [some (.lst ds)]) else .bad
theorem mt_last {θ : Th} {st : St} {O : OH} (m : Mt θ st O) {p : Addr} : (θ ++ [p])[st.length]? = some p := by
  rw [← m.len, List.getElem?_append_right (Nat.le_refl _), Nat.sub_self]
  rfl
section
variable {e : Expr} {es : List Expr} {f : fE} {fs : fA} {pos : Pos}
theorem fa_nil : FA X Φ W J [] fNil := fa_of da_nil fun ρ' O P R ⟨θ, ρ, st, c, h⟩ => Aft.ok h .nil c.mt
theorem fa_cons (h : FE X Φ W J e f) (h' : FA X Φ W J es fs) (hs : starEach (e :: es) X.env = (false, eval e X.env) :: starEach es X.env := by rfl) : FA X Φ W J (e :: es) (fCons f fs) := by
  obtain ⟨_, h⟩ := h
  obtain ⟨_, h'⟩ := h'
  refine fa_of (da_cons h h' hs) fun ρ' O P R ⟨θ, ρ, st, c, h⟩ => ⟨θ, ρ, st, c, h.bind fun θ1 a a' st1 O1 s1 ra m1 h1 => ?_⟩
  refine ⟨θ1, ρ, st1, c.step s1 m1, h1.bind fun θ2 b b' st2 O2 s2 rb m2 h2 => ?_⟩
  exact Aft.ok h2 (.cons (ra.mono s2) rb) m2
theorem fe_lst (h : FA X Φ W J es fs) : FE X Φ W J (.List es pos) (fLst fs) := by
  obtain ⟨_, h⟩ := h
  refine fe_of (de_lst h) fun ρ' O P R ⟨θ, ρ, st, c, h⟩ => ⟨θ, ρ, st, c, h.bind fun θ1 a a' st1 O1 s1 ra m1 h1 => ?_⟩
  by_cases q : a.length ≤ sizeLine
  · rw [if_pos q] at h1
    exact ⟨by rw [← RnL.len ra]; exact q, Aft.ok h1 (.lst ra) m1⟩
  · rw [if_neg q] at h1
    exact h1.elim
theorem fe_tup {x1} (h : FA X Φ W J es fs) : FE X Φ W J (.Tuple es x1 pos) (fTup fs) := by
  obtain ⟨_, h⟩ := h
  refine fe_of (de_tup h) fun ρ' O P R ⟨θ, ρ, st, c, h⟩ => ⟨θ, ρ, st, c, h.bind fun θ1 a a' st1 O1 s1 ra m1 h1 => ?_⟩
  by_cases q : a.length ≤ sizeLine
  · rw [if_pos q] at h1
    exact ⟨by rw [← RnL.len ra]; exact q, Aft.ok h1 (.tup ra) m1⟩
  · rw [if_neg q] at h1
    exact h1.elim
theorem fe_lstO (h : FA X Φ W J es fs) : FE X Φ W J (.List es pos) (fLstO fs) := by
  obtain ⟨_, h⟩ := h
  refine fe_of (de_lstO h) fun ρ' O P R ⟨θ, ρ, st, c, h⟩ => ⟨θ, ρ, st, c, h.bind fun θ1 a a' st1 O1 s1 ra m1 h1 => ?_⟩
  by_cases q : a.length ≤ sizeLine
  · rw [if_pos q] at h1
    refine ⟨by rw [← RnL.len ra]; exact q, fun p np => ?_⟩
    exact h1 (θ1 ++ [p]) _ _ ⟨[p], rfl⟩ (.loc (mt_last m1)) (m1.new np (.lst ra))
  · rw [if_neg q] at h1
    exact h1.elim
end
/-! built-ins -/
structure LW (o : List D → Option D) (w : WL) : Prop where
  run : ∀ (θ : Th) (ds ds' : List D) (d : D) (P : D → Prop), RnL θ ds ds' → o ds = some d → (∀ d', Rn θ d d' → P d') → w ds' P
def fFn (o : List D → Option D) (n : fA) : fE := fun ρ st => (n ρ st).bind fun ds st1 => optR (o ds) st1
theorem ffn_run {o : List D → Option D} {w : WL} (ow : LW o w) {fs : fA} {ρ' : Rho} {O : OH} {P : D → OH → Prop} {R : Exn → OH → Prop} (h : dE J (fFn o fs) ρ' O P R) : mFn w (dA J fs) ρ' O P R := by
  obtain ⟨θ, ρ, st, c, h⟩ := h
  refine ⟨θ, ρ, st, c, h.bind fun θ1 a a' st1 O1 s1 ra m1 h1 => ?_⟩
  cases q : o a with
  | none => rw [q] at h1; exact h1.elim
  | some d =>
    rw [q] at h1
    exact ow.run θ1 a a' d _ ra q fun d' rd => Aft.ok h1 rd m1
section
variable {x : Str} {p pos : Pos} {e : Expr} {es : List Expr} {fs : fA} {id T : String} {r : List V → Hp → VK → Prop} {w : WL} {o : List D → Option D}
theorem fe_callB (c : Fn1 X (.builtin id) r w) (ow : LW o w) (hg : Gl X x) (hm : X.mg x = none) (hv : bootBuiltins x = some (.builtin id)) (ha : FA X Φ W J (e :: es) fs) (hn : x ≠ "__name__" := by decide) (hdb : (x == ("__debug__" : Str)) = false := by decide)
    (he : starEach (e :: es) X.env = (false, eval e X.env) :: starEach es X.env := by rfl) (hpl : (backTo pos (starEach es X.env)).any (·.1) = false := by rfl) : FE X Φ W J (.Call (.Name x p) (e :: es) [] pos) (fFn o fs) := by
  obtain ⟨_, ha⟩ := ha
  exact fe_of (de_callB c hg hm hv ha hn hdb he hpl) fun _ _ _ _ h => ffn_run ow h
theorem fe_callTy (c : Fn1 X (.type T) r w) (ow : LW o w) (hg : Gl X x) (hm : X.mg x = none) (hv : bootBuiltins x = some (.type T)) (ha : FA X Φ W J (e :: es) fs) (hn : x ≠ "__name__" := by decide) (hdb : (x == ("__debug__" : Str)) = false := by decide)
    (he : starEach (e :: es) X.env = (false, eval e X.env) :: starEach es X.env := by rfl) (hpl : (backTo pos (starEach es X.env)).any (·.1) = false := by rfl) : FE X Φ W J (.Call (.Name x p) (e :: es) [] pos) (fFn o fs) := by
  obtain ⟨_, ha⟩ := ha
  exact fe_of (de_callTy c hg hm hv ha hn hdb he hpl) fun _ _ _ _ h => ffn_run ow h
end
end
end FL

set_option Elab.async false
set_option linter.all false
set_option maxRecDepth 100000
set_option maxHeartbeats 1000000
namespace FL
open PySem PySem.Spec PyProof.Rows L2 DL

inductive RS where
  | nx (ρ : Rho) (st : St)
  | rt (d : D) (st : St)
  | bk (ρ : Rho) (st : St)
  | ct (ρ : Rho) (st : St)
  | ex (x : Exn) (ρ : Rho) (st : St)
  | bad
abbrev fS := Rho → St → RS
def AftS (J : Jv) (θ : Th) (r : RS) (M : MEnds OH) : Prop := match r with
  | .nx ρ st => ∀ (θ1 : Th) (ρ' : Rho) (O1 : OH), θ <+: θ1 → Ct J θ1 ρ ρ' st O1 → M.nx ρ' O1
  | .rt d st => ∀ (θ1 : Th) (d' : D) (O1 : OH), θ <+: θ1 → Rn θ1 d d' → Mt θ1 st O1 → M.rt d' O1
  | .bk ρ st => ∀ (θ1 : Th) (ρ' : Rho) (O1 : OH), θ <+: θ1 → Ct J θ1 ρ ρ' st O1 → M.bk ρ' O1
  | .ct ρ st => ∀ (θ1 : Th) (ρ' : Rho) (O1 : OH), θ <+: θ1 → Ct J θ1 ρ ρ' st O1 → M.ct ρ' O1
  | .ex x ρ st => ∀ (θ1 : Th) (x' : Exn) (ρ' : Rho) (O1 : OH), θ <+: θ1 → RnX θ1 x x' → Ct J θ1 ρ ρ' st O1 → M.ex x' ρ' O1
  | .bad => False
theorem AftS.sub {J : Jv} {θ θ1 : Th} {r : RS} {M : MEnds OH} (h : AftS J θ r M) (s : θ <+: θ1) : AftS J θ1 r M := by
  cases r with
  | nx ρ st => exact fun θ2 a b t => h θ2 a b (s.trans t)
  | rt ρ st => exact fun θ2 a b t => h θ2 a b (s.trans t)
  | bk ρ st => exact fun θ2 a b t => h θ2 a b (s.trans t)
  | ct ρ st => exact fun θ2 a b t => h θ2 a b (s.trans t)
  | ex x ρ st => exact fun θ2 a b c t => h θ2 a b c (s.trans t)
  | bad => exact h
def dS (J : Jv) (f : fS) : MS OH := fun M ρ' O => ∃ θ ρ st, Ct J θ ρ ρ' st O ∧ AftS J θ (f ρ st) M
def stB {α : Type} (r : Res α) (ρ : Rho) (k : α → St → RS) : RS := match r with
  | .ok a st => k a st
  | .ex x st => .ex x ρ st
  | .bad => .bad
theorem AftS.stB {α α' : Type} {rel : Th → α → α' → Prop} {J : Jv} {θ : Th} {r : Res α} {ρ ρ' : Rho} {k : α → St → RS} {M : MEnds OH} {P : α' → OH → Prop} {st : St} {O : OH} (h : AftS J θ (FL.stB r ρ k) M) (c : Ct J θ ρ ρ' st O)
    (kk : ∀ (θ1 : Th) (a : α) (a' : α') (st1 : St) (O1 : OH), θ <+: θ1 → rel θ1 a a' → Mt θ1 st1 O1 → AftS J θ1 (k a st1) M → P a' O1) : Aft rel θ r P (fun x' O1 => M.ex x' ρ' O1) := by
  cases r with
  | ok a st => exact fun θ1 a' O1 s q m => kk θ1 a a' st O1 s q m (AftS.sub (r := k a st) h s)
  | ex x st => exact fun θ1 x' O1 s q m => h θ1 x' ρ' O1 s q (c.step s m)
  | bad => exact h
section
variable (X : Cx) (Φ : OH → Hp → Hp → Prop) (W : WX) (J : Jv)
def FS (s : Stmt) (f : fS) : Prop := ∃ ts, DS X Φ W s ts (dS J f)
def FSs (s : List Stmt) (f : fS) : Prop := ∃ ts, DSs X Φ W s ts (dS J f)
end
section
variable {X : Cx} {Φ : OH → Hp → Hp → Prop} {W : WX} {J : Jv}
theorem fs_of {s : Stmt} {ts : TS} {m : MS OH} {f : fS} (h : DS X Φ W s ts m) (i : ∀ M ρ' O, dS J f M ρ' O → m M ρ' O) : FS X Φ W J s f :=
  ⟨ts, h.ps, fun σ ρ s G H D M hρ f0 hm E => h.sem σ ρ s G H D M hρ f0 (i _ _ _ hm) E⟩
theorem fss_of {s : List Stmt} {ts : TS} {m : MS OH} {f : fS} (h : DSs X Φ W s ts m) (i : ∀ M ρ' O, dS J f M ρ' O → m M ρ' O) : FSs X Φ W J s f :=
  ⟨ts, h.pss, fun σ ρ s G H D M hρ f0 hm E => h.sem σ ρ s G H D M hρ f0 (i _ _ _ hm) E⟩
end
/-! targets -/
abbrev fG := D → Rho → St → Option (Rho × St)
abbrev fGs := List D → Rho → St → Option (Rho × St)
def AftG (J : Jv) (θ : Th) (r : Option (Rho × St)) (P : Rho → OH → Prop) : Prop := match r with
  | some (ρ, st) => ∀ (θ1 : Th) (ρ' : Rho) (O1 : OH), θ <+: θ1 → Ct J θ1 ρ ρ' st O1 → P ρ' O1
  | none => False
def dG (J : Jv) (g : fG) : MG OH := fun d' ρ' O P => ∃ θ d ρ st, Rn θ d d' ∧ Ct J θ ρ ρ' st O ∧ AftG J θ (g d ρ st) P
def dGs (J : Jv) (g : fGs) : MGs OH := fun ds' ρ' O P => ∃ θ ds ρ st, RnL θ ds ds' ∧ Ct J θ ρ ρ' st O ∧ AftG J θ (g ds ρ st) P
theorem dg_imp {X : Cx} {Φ : OH → Hp → Hp → Prop} {tg : Expr} {g : TG} {m m' : MG OH} {il : List Nat} (h : DG X Φ tg g m il) (i : ∀ d ρ O P, m' d ρ O P → m d ρ O P) : DG X Φ tg g m' il :=
  ⟨h.pg, fun σ ρ s G H v d Q P hρ f r q k => h.sem σ ρ s G H v d Q P hρ f r (i _ _ _ _ q) k⟩
theorem dgs_imp {X : Cx} {Φ : OH → Hp → Hp → Prop} {tg : List Expr} {g : TGs} {m m' : MGs OH} {il : List Nat} (h : DGs X Φ tg g m il) (i : ∀ d ρ O P, m' d ρ O P → m d ρ O P) : DGs X Φ tg g m' il :=
  ⟨h.pg, fun σ ρ s G H v d Q P hρ f r q k => h.sem σ ρ s G H v d Q P hρ f r (i _ _ _ _ q) k⟩
def fGn (i : Nat) : fG := fun d ρ st => some (ρ.set i (some d), st)
def fGl : fGs := fun ds ρ st => match ds with
  | [] => some (ρ, st)
  | _ => none
def fGc (g : fG) (gs : fGs) : fGs := fun ds ρ st => match ds with
  | [] => none
  | d :: es => match g d ρ st with
    | some (ρ1, st1) => gs es ρ1 st1
    | none => none
def fGt (n : Nat) (gs : fGs) : fG := fun d ρ st => match d with
  | .tup ds => if ds.length = n then gs ds ρ st else none
  | _ => none
section
variable {X : Cx} {Φ : OH → Hp → Hp → Prop} {J : Jv}
theorem fg_name [Frm Φ] {i : Nat} {x : Str} {pos : Pos} (hN : X.N.Nodup) (hi : X.N[i]? = some x) (hx : Loc X.env.scope x) (hj : jfree J i := by first | trivial | (show _ ≠ _; decide)) (hf : X.fn x = true ∨ X.env.scope.names.lookup x = some .local := by first | exact .inl rfl | exact .inr rfl | assumption) : DG X Φ (.Name x pos) (gName i) (dG J (fGn i)) [i] :=
  dg_imp (dg_name hN hi hx hf) fun d' ρ' O P ⟨θ, d, ρ, st, r, c, h⟩ => h θ _ O (List.prefix_refl _) (c.set hj r)
theorem fgs_nil [Frm Φ] : DGs X Φ [] gNil (dGs J fGl) [] :=
  dgs_imp dgs_nil fun ds' ρ' O P ⟨θ, ds, ρ, st, r, c, h⟩ => by
    cases r with
    | nil => exact ⟨rfl, h θ _ O (List.prefix_refl _) c⟩
    | cons _ _ => exact h.elim
theorem fgs_cons [Frm Φ] {e : Expr} {es : List Expr} {g : TG} {gs : TGs} {m : fG} {n : fGs} {il jl : List Nat} (h : DG X Φ e g (dG J m) il) (h' : DGs X Φ es gs (dGs J n) jl)
    (hs : (assignEach (e :: es) X.env).map (·.2) = assign e X.env :: (assignEach es X.env).map (·.2) := by rfl) : DGs X Φ (e :: es) (gCons g gs) (dGs J (fGc m n)) (il ++ jl) :=
  dgs_imp (dgs_cons h h' hs) fun ds' ρ' O P ⟨θ, ds, ρ, st, r, c, h⟩ => by
    cases r with
    | nil => exact h.elim
    | @cons d e ds es rd rl =>
      refine ⟨_, _, rfl, θ, d, ρ, st, rd, c, ?_⟩
      have h2 : AftG J θ (match m d ρ st with | some (ρ1, st1) => n ds ρ1 st1 | none => none) P := h
      cases q : m d ρ st with
      | none => rw [q] at h2; exact h2.elim
      | some u =>
        rw [q] at h2
        intro θ1 ρ1' O1 s1 c1
        refine ⟨θ1, ds, u.1, u.2, rl.mono s1, c1, ?_⟩
        have h3 : AftG J θ (n ds u.1 u.2) P := h2
        cases z : n ds u.1 u.2 with
        | none => rw [z] at h3; exact h3.elim
        | some w =>
          rw [z] at h3
          exact fun θ2 ρ2 O2 s2 => h3 θ2 ρ2 O2 (s1.trans s2)
theorem fg_tup [Frm Φ] {es : List Expr} {k n : Nat} {pos : Pos} {g : TGs} {m : fGs} {il : List Nat} (hc : X.calm = true) (h : DGs X Φ es g (dGs J m) il)
    (hn : (assignEach es X.env).length = n := by rfl) (hst : (assignEach es X.env).findIdx? (·.1) = none := by rfl) : DG X Φ (.Tuple es k pos) (gTup X.K n g) (dG J (fGt n m)) il :=
  dg_imp (dg_tup hc h hn hst) fun d' ρ' O P ⟨θ, d, ρ, st, r, c, h⟩ => by
    cases r with
    | @tup a b rl =>
      have h2 : AftG J θ (if a.length = n then m a ρ st else none) P := h
      by_cases q : a.length = n
      · rw [if_pos q] at h2
        exact ⟨_, rfl, by rw [← rl.len]; exact q, θ, a, ρ, st, rl, c, h2⟩
      · rw [if_neg q] at h2
        exact h2.elim
    | _ => exact h.elim
end
section
variable {X : Cx} {Φ : OH → Hp → Hp → Prop} {W : WX} [FΦ : OFrm X.K X.mg Φ] {J : Jv}
/-! statements -/
def fNext : fS := fun ρ st => .nx ρ st
def fSeq (t u : fS) : fS := fun ρ st => match t ρ st with
  | .nx ρ1 st1 => u ρ1 st1
  | r => r
section
variable {st : Stmt} {rest : List Stmt} {f g : fS} {pos : Pos}
theorem fnext_run {M : MEnds OH} {ρ' : Rho} {O : OH} (h : dS J fNext M ρ' O) : M.nx ρ' O := by
  obtain ⟨θ, ρ, st, c, h⟩ := h
  exact h θ ρ' O (List.prefix_refl _) c
theorem fss_nil : FSs X Φ W J [] fNext := fss_of dss_nil fun M ρ' O h => fnext_run h
theorem fss_one (h : FS X Φ W J st f) : FSs X Φ W J [st] f := by
  obtain ⟨_, h⟩ := h
  exact ⟨_, dss_one h⟩
theorem fss_cons (h : FS X Φ W J st f) (h' : FSs X Φ W J rest g) : FSs X Φ W J (st :: rest) (fSeq f g) := by
  obtain ⟨_, h⟩ := h
  obtain ⟨_, h'⟩ := h'
  refine fss_of (dss_cons h h') fun M ρ' O ⟨θ, ρ, st, c, h⟩ => ⟨θ, ρ, st, c, ?_⟩
  have h2 : AftS J θ (match f ρ st with | .nx ρ1 st1 => g ρ1 st1 | r => r) M := h
  cases q : f ρ st with
  | nx ρ1 st1 =>
    rw [q] at h2
    exact fun θ1 ρ1' O1 s1 c1 => ⟨θ1, ρ1, st1, c1, AftS.sub (r := g ρ1 st1) h2 s1⟩
  | rt d st1 => rw [q] at h2; exact h2
  | bk d st1 => rw [q] at h2; exact h2
  | ct d st1 => rw [q] at h2; exact h2
  | ex d st1 => rw [q] at h2; exact h2
  | bad => rw [q] at h2; exact h2
theorem fs_pass : FS X Φ W J (.Pass pos) fNext := fs_of ds_pass fun M ρ' O h => fnext_run h
theorem fs_doc {x j pos pos'} : FS X Φ W J (.Expr (.Constant (.str x) j pos) pos') fNext := fs_of ds_doc fun M ρ' O h => fnext_run h
def fBrk : fS := fun ρ st => .bk ρ st
def fCt : fS := fun ρ st => .ct ρ st
theorem fs_break : FS X Φ W J (.Break pos) fBrk := fs_of ds_break fun M ρ' O ⟨θ, ρ, st, c, h⟩ => h θ ρ' O (List.prefix_refl _) c
theorem fs_continue : FS X Φ W J (.Continue pos) fCt := fs_of ds_continue fun M ρ' O ⟨θ, ρ, st, c, h⟩ => h θ ρ' O (List.prefix_refl _) c
end
def fDrop (f : fE) : fS := fun ρ st => stB (f ρ st) ρ fun _ st1 => .nx ρ st1
def fRet (f : fE) : fS := fun ρ st => stB (f ρ st) ρ fun d st1 => .rt d st1
def fRetN : fS := fun _ st => .rt .non st
def fSet (i : Nat) (f : fE) : fS := fun ρ st => stB (f ρ st) ρ fun d st1 => .nx (ρ.set i (some d)) st1
def fPar (i j : Nat) (n : fA) : fS := fun ρ st => stB (n ρ st) ρ fun ds st1 => match ds with
  | [a, b] => .nx ((ρ.set i (some a)).set j (some b)) st1
  | _ => .bad
def optS (o : Option (Rho × St)) : RS := match o with
  | some (ρ, st) => .nx ρ st
  | none => .bad
def fAsg (f : fE) (g : fG) : fS := fun ρ st => stB (f ρ st) ρ fun d st1 => optS (g d ρ st1)
def fIfS (t : fT) (a b : fS) : fS := fun ρ st => stB (t ρ st) ρ fun c st1 => if c = true then a ρ st1 else b ρ st1
section
variable {e : Expr} {f : fE} {pos : Pos}
theorem fs_expr (h : FE X Φ W J e f) (hs : swapsWith e none pos.line X.env = pure false := by rfl) : FS X Φ W J (.Expr e pos) (fDrop f) := by
  obtain ⟨_, h⟩ := h
  exact fs_of (ds_expr h hs) fun M ρ' O ⟨θ, ρ, st, c, h⟩ => ⟨θ, ρ, st, c, h.stB c fun θ1 a a' st1 O1 s1 ra m1 h1 => h1 θ1 ρ' O1 (List.prefix_refl _) (c.step s1 m1)⟩
theorem fs_ret (h : FE X Φ W J e f) : FS X Φ W J (.Return (some e) pos) (fRet f) := by
  obtain ⟨_, h⟩ := h
  exact fs_of (ds_ret h) fun M ρ' O ⟨θ, ρ, st, c, h⟩ => ⟨θ, ρ, st, c, h.stB c fun θ1 a a' st1 O1 s1 ra m1 h1 => h1 θ1 a' O1 (List.prefix_refl _) ra m1⟩
theorem fs_retN : FS X Φ W J (.Return none pos) fRetN := fs_of ds_retN fun M ρ' O ⟨θ, ρ, st, c, h⟩ => h θ .non O (List.prefix_refl _) .non c.mt
theorem fs_set {i : Nat} {x : Str} {pos' : Pos} (hN : X.N.Nodup) (hi : X.N[i]? = some x) (hx : Loc X.env.scope x) (h : FE X Φ W J e f) (hj : jfree J i := by first | trivial | (show _ ≠ _; decide)) (hs : swapsWith e (some (.Name x pos')) pos.line X.env = pure false := by rfl) (hf : X.fn x = true ∨ X.env.scope.names.lookup x = some .local := by first | exact .inl rfl | exact .inr rfl | assumption) :
    FS X Φ W J (.Assign [.Name x pos'] e pos) (fSet i f) := by
  obtain ⟨_, h⟩ := h
  exact fs_of (ds_set hN hi hx h hs hf) fun M ρ' O ⟨θ, ρ, st, c, h⟩ => ⟨θ, ρ, st, c, h.stB c fun θ1 a a' st1 O1 s1 ra m1 h1 => h1 θ1 _ O1 (List.prefix_refl _) ((c.step s1 m1).set hj ra)⟩
theorem fs_asg {tg : Expr} {g : TG} {fg : fG} {il : List Nat} (h : FE X Φ W J e f) (hg : DG X Φ tg g (dG J fg) il) (hs : swapsWithSole [tg] e pos.line X.env = pure false := by rfl) (hw : swappedStores [tg] e X.env = pure none := by rfl)
    (h1 : (assignEach [tg] X.env).map (·.2) = [assign tg X.env] := by rfl) : FS X Φ W J (.Assign [tg] e pos) (fAsg f fg) := by
  obtain ⟨_, h⟩ := h
  refine fs_of (ds_asg h hg hs hw h1) fun M ρ' O ⟨θ, ρ, st, c, h⟩ => ⟨θ, ρ, st, c, h.stB c fun θ1 a a' st1 O1 s1 ra m1 h1 => ⟨θ1, a, ρ, st1, ra, c.step s1 m1, ?_⟩⟩
  cases q : fg a ρ st1 with
  | none => rw [q] at h1; exact h1.elim
  | some u => rw [q] at h1; exact h1
end
theorem fs_par {i j : Nat} {x y : Str} {a b : Expr} {fs : fA} {px py pt pos : Pos} {kt k2 pt2} (hc : X.calm = true) (hN : X.N.Nodup) (hi : X.N[i]? = some x) (hj : X.N[j]? = some y) (hij : i ≠ j)
    (hx : X.env.scope.names.lookup x = some .local) (hy : X.env.scope.names.lookup y = some .local) (ha : FA X Φ W J [a, b] fs)
    (ji : jfree J i := by first | trivial | (show _ ≠ _; decide)) (jj : jfree J j := by first | trivial | (show _ ≠ _; decide))
    (hw : swappedStores [.Tuple [.Name x px, .Name y py] kt pt] (.Tuple [a, b] k2 pt2) X.env = pure (some [x, y]) := by rfl)
    (hs : swapsWithSole [.Tuple [.Name x px, .Name y py] kt pt] (.Tuple [a, b] k2 pt2) pos.line X.env = pure false := by rfl) :
    FS X Φ W J (.Assign [.Tuple [.Name x px, .Name y py] kt pt] (.Tuple [a, b] k2 pt2) pos) (fPar i j fs) := by
  obtain ⟨_, ha⟩ := ha
  refine fs_of (ds_par hc hN hi hj hij hx hy ha hw hs) fun M ρ' O ⟨θ, ρ, st, c, h⟩ => ⟨θ, ρ, st, c, h.stB c fun θ1 a a' st1 O1 s1 ra m1 h1 => ?_⟩
  cases ra with
  | nil => exact h1.elim
  | cons r1 ra =>
    cases ra with
    | nil => exact h1.elim
    | cons r2 ra =>
      cases ra with
      | nil => exact ⟨_, _, rfl, h1 θ1 _ O1 (List.prefix_refl _) (((c.step s1 m1).set ji r1).set jj r2)⟩
      | cons _ _ => exact h1.elim
theorem fs_if {t : Expr} {a b : List Stmt} {ft : fT} {fa fb : fS} {pos : Pos} (ht : FT X Φ W J t ft) (ha : FSs X Φ W J a fa) (hb : FSs X Φ W J b fb) : FS X Φ W J (.If t a b pos) (fIfS ft fa fb) := by
  obtain ⟨_, ht⟩ := ht
  obtain ⟨_, ha⟩ := ha
  obtain ⟨_, hb⟩ := hb
  refine fs_of (ds_if ht ha hb) fun M ρ' O ⟨θ, ρ, st, c, h⟩ => ⟨θ, ρ, st, c, h.stB c fun θ1 a a' st1 O1 s1 ra m1 h1 => ?_⟩
  cases ra
  cases a with
  | true =>
    simp only [if_true] at h1 ⊢
    exact ⟨θ1, ρ, st1, c.step s1 m1, h1⟩
  | false =>
    simp only [Bool.false_eq_true, if_false] at h1 ⊢
    exact ⟨θ1, ρ, st1, c.step s1 m1, h1⟩
/-! for -/
def fForGo (g : fG) (b : fS) : List D → fS
  | [], ρ, st => .nx ρ st
  | d :: ds, ρ, st => match g d ρ st with
    | none => .bad
    | some (ρ1, st1) => match b ρ1 st1 with
      | .nx ρ2 st2 => fForGo g b ds ρ2 st2
      | .ct ρ2 st2 => fForGo g b ds ρ2 st2
      | .bk ρ2 st2 => .nx ρ2 st2
      | .rt d st2 => .rt d st2
      | .ex x ρ2 st2 => .ex x ρ2 st2
      | .bad => .bad
def fFor (it : fA) (g : fG) (b : fS) : fS := fun ρ st => stB (it ρ st) ρ fun ds st1 => fForGo g b ds ρ st1
theorem for_run {g : fG} {b : fS} {M : MEnds OH} : ∀ {ds ds' : List D} {θ : Th} {ρ ρ' : Rho} {st : St} {O : OH}, RnL θ ds ds' → Ct J θ ρ ρ' st O → AftS J θ (fForGo g b ds ρ st) M → wFor (dG J g) (dS J b) ds' M ρ' O
  | _, _, θ, ρ, ρ', st, O, .nil, c, h => h θ ρ' O (List.prefix_refl _) c
  | _, _, θ, ρ, ρ', st, O, .cons (d := d) (ds := ds) rd rl, c, h => by
    refine ⟨θ, d, ρ, st, rd, c, ?_⟩
    unfold fForGo at h
    cases q : g d ρ st with
    | none => rw [q] at h; exact h.elim
    | some u =>
      rw [q] at h
      intro θ1 ρ1' O1 s1 c1
      refine ⟨θ1, u.1, u.2, c1, ?_⟩
      simp only at h
      cases z : b u.1 u.2 with
      | nx ρ2 st2 => rw [z] at h; exact fun θ2 ρ2' O2 s2 c2 => for_run (rl.mono (s1.trans s2)) c2 (AftS.sub h (s1.trans s2))
      | ct ρ2 st2 => rw [z] at h; exact fun θ2 ρ2' O2 s2 c2 => for_run (rl.mono (s1.trans s2)) c2 (AftS.sub h (s1.trans s2))
      | bk ρ2 st2 => rw [z] at h; exact fun θ2 ρ2' O2 s2 c2 => h θ2 ρ2' O2 (s1.trans s2) c2
      | rt d st2 => rw [z] at h; exact fun θ2 d' O2 s2 => h θ2 d' O2 (s1.trans s2)
      | ex x ρ2 st2 => rw [z] at h; exact fun θ2 x' ρ2' O2 s2 => h θ2 x' ρ2' O2 (s1.trans s2)
      | bad => rw [z] at h; exact h.elim
theorem fs_for {tg iter : Expr} {body : List Stmt} {gt : TG} {pos : Pos} {fi : fA} {g : fG} {b : fS} {il : List Nat} (hp : PassesOwn (model X.prog X.w) X.A X.env X.xe) (hc : X.calm = true) (hi : FI X Φ W J tg iter fi) (hg : DG X Φ tg gt (dG J g) il) (hb : FSs X Φ W J body b)
    (hs : ∀ x, foldedSetIterable iter X.env x = pure x := by intro _; rfl) : FS X Φ W J (.For tg iter body [] pos) (fFor fi g b) := by
  obtain ⟨_, hi⟩ := hi
  obtain ⟨_, hb⟩ := hb
  exact fs_of (ds_for hp hc hi hg hb hs) fun M ρ' O ⟨θ, ρ, st, c, h⟩ => ⟨θ, ρ, st, c, h.stB c fun θ1 a a' st1 O1 s1 ra m1 h1 => for_run ra (c.step s1 m1) h1⟩
/-! what is walked -/
def iSq (f : fE) : fA := fun ρ st => (f ρ st).bind fun d st1 => match d with
  | .lst ds => .ok ds st1
  | .tup ds => .ok ds st1
  | .frz ds => .ok ds st1
  | _ => .bad
theorem fi_seq {tg l : Expr} {f : fE} (h : FE X Φ W J l f) : FI X Φ W J tg l (iSq f) := by
  obtain ⟨_, h⟩ := h
  refine fi_of (di_seq h) fun ρ' O P R ⟨θ, ρ, st, c, h⟩ => ⟨θ, ρ, st, c, h.bind fun θ1 a a' st1 O1 s1 ra m1 h1 => ?_⟩
  cases ra with
  | lst r => exact .inl ⟨_, rfl, Aft.ok h1 r m1⟩
  | tup r => exact .inr (.inl ⟨_, rfl, Aft.ok h1 r m1⟩)
  | frz r => exact .inr (.inr ⟨_, rfl, Aft.ok h1 r m1⟩)
  | _ => exact h1.elim
theorem rnl_ints {θ : Th} (lo : Int) (n : Nat) : RnL θ (rngD lo n) (rngD lo n) := rnl_self (by
  unfold rngD
  generalize List.range n = l
  induction l with
  | nil => rfl
  | cons x xs ih => simp [noLocL, noLoc, ih])
def iR1 (n : fA) : fA := fun ρ st => (n ρ st).bind fun ds st1 => match ds with
  | [.int j] => if -(2 ^ 62) ≤ j ∧ j < 2 ^ 62 then .ok (rngD 0 j.toNat) st1 else .bad
  | _ => .bad
def iR2 (n : fA) : fA := fun ρ st => (n ρ st).bind fun ds st1 => match ds with
  | [.int i, .int j] => if -(2 ^ 62) ≤ i ∧ i < 2 ^ 62 ∧ -(2 ^ 62) ≤ j ∧ j < 2 ^ 62 then .ok (rngD i (j - i).toNat) st1 else .bad
  | _ => .bad
theorem fi_range1 {tg a : Expr} {fs : fA} {p pos : Pos} (hg : Gl X "range") (hm : X.mg "range" = none) (ha : FA X Φ W J [a] fs) (hs : starEach [a] X.env = [(false, eval a X.env)] := by rfl) : FI X Φ W J tg (.Call (.Name "range" p) [a] [] pos) (iR1 fs) := by
  obtain ⟨_, ha⟩ := ha
  refine fi_of (di_range1 hg hm ha hs) fun ρ' O P R ⟨θ, ρ, st, c, h⟩ => ⟨θ, ρ, st, c, h.bind fun θ1 a a' st1 O1 s1 ra m1 h1 => ?_⟩
  cases ra with
  | nil => exact h1.elim
  | cons r1 ra =>
    cases ra with
    | cons _ _ =>
      cases r1 <;> exact h1.elim
    | nil =>
      cases r1 with
      | int j =>
        simp only at h1
        split at h1
        · rename_i q
          exact ⟨j, rfl, q, Aft.ok h1 (rnl_ints _ _) m1⟩
        · exact h1.elim
      | _ => exact h1.elim
theorem fi_range2 {tg a b : Expr} {fs : fA} {p pos : Pos} (hg : Gl X "range") (hm : X.mg "range" = none) (ha : FA X Φ W J [a, b] fs) (hs : starEach [a, b] X.env = [(false, eval a X.env), (false, eval b X.env)] := by rfl) (hs2 : starEach [b] X.env = [(false, eval b X.env)] := by rfl) : FI X Φ W J tg (.Call (.Name "range" p) [a, b] [] pos) (iR2 fs) := by
  obtain ⟨_, ha⟩ := ha
  refine fi_of (di_range2 hg hm ha hs hs2) fun ρ' O P R ⟨θ, ρ, st, c, h⟩ => ⟨θ, ρ, st, c, h.bind fun θ1 a a' st1 O1 s1 ra m1 h1 => ?_⟩
  cases ra with
  | nil => exact h1.elim
  | cons r1 ra =>
    cases ra with
    | nil => cases r1 <;> exact h1.elim
    | cons r2 ra =>
      cases ra with
      | cons _ _ => cases r1 <;> first | exact h1.elim | (cases r2 <;> exact h1.elim)
      | nil =>
        cases r1 with
        | int i =>
          cases r2 with
          | int j =>
            simp only at h1
            split at h1
            · rename_i q
              exact ⟨i, j, rfl, q, Aft.ok h1 (rnl_ints _ _) m1⟩
            · exact h1.elim
          | _ => exact h1.elim
        | _ => cases r2 <;> exact h1.elim
/-! comprehensions -/
def FTs (X : Cx) (Φ : OH → Hp → Hp → Prop) (W : WX) (J : Jv) (ifs : List Expr) (f : fT) : Prop := ∃ tt, DTs X Φ W ifs tt (dT J f)
def fYes : fT := fun _ st => .ok true st
theorem fts_nil : FTs X Φ W J [] fYes := ⟨tYes, pts_nil, fun σ ρ s G H Q P R hρ f0 hW ⟨θ, ρ0, st, c, h⟩ k => k true s G H (Aft.ok (a' := true) h rfl c.mt) (Same.refl _) f0⟩
theorem fts_one {c : Expr} {f : fT} (h : FT X Φ W J c f) : FTs X Φ W J [c] f := by
  obtain ⟨_, h⟩ := h
  exact ⟨_, dts_one h⟩
def fLcGo (g : fG) (t : fT) (m : fE) (vs : List Nat) (ρ : Rho) : List D → List D → St → Res (List D)
  | [], acc, st => .ok acc st
  | d :: ds, acc, st => match g d (wipeD ρ vs) st with
    | none => .bad
    | some (ρ1, st1) => match t ρ1 st1 with
      | .ok true st2 => match m ρ1 st2 with
        | .ok y st3 => if acc.length < sizeLine then fLcGo g t m vs ρ ds (acc ++ [y]) st3 else .bad
        | _ => .bad
      | .ok false st2 => fLcGo g t m vs ρ ds acc st2
      | _ => .bad
def fLc (it : fA) (g : fG) (t : fT) (m : fE) (vs : List Nat) : fE := fun ρ st => (it ρ st).bind fun ds st1 => (fLcGo g t m vs ρ ds [] st1).bind fun acc st2 => .ok (.lst acc) st2
def fLcO (it : fA) (g : fG) (t : fT) (m : fE) (vs : List Nat) : fE := fun ρ st => (it ρ st).bind fun ds st1 => (fLcGo g t m vs ρ ds [] st1).bind fun acc st2 => .ok (.loc st2.length) (st2 ++ [some (.lst acc)])
theorem lc_run {g : fG} {t : fT} {m : fE} {vs : List Nat} {β β' : Type} {rel : Th → β → β' → Prop} {kk : List D → St → Res β} {Q : β' → OH → Prop} {R : Exn → OH → Prop} {PP : List D → OH → Prop} {ρ ρ' : Rho} (hv : ∀ v ∈ vs, jfree J v)
    (fin : ∀ (θ1 : Th) (a a' : List D) (st1 : St) (O1 : OH), RnL θ1 a a' → Mt θ1 st1 O1 → Aft rel θ1 (kk a st1) Q R → PP a' O1) :
    ∀ {ds ds' : List D} {θ : Th} {acc acc' : List D} {st : St} {O : OH}, RnL θ ds ds' → RnL θ acc acc' → Ct J θ ρ ρ' st O → Aft rel θ ((fLcGo g t m vs ρ ds acc st).bind kk) Q R → wLc (dG J g) (dT J t) (dE J m) vs ρ' PP ds' acc' O
  | _, _, θ, acc, acc', st, O, .nil, ra, c, h => fin θ acc acc' st O ra c.mt h
  | _, _, θ, acc, acc', st, O, .cons (d := d) (ds := ds) (es := ds') rd rl, ra, c, h => by
    have cw : Ct J θ (wipeD ρ vs) (wipeD ρ' vs) st O := ⟨c.env.wipe vs, c.mt, c.j.wipe hv⟩
    refine ⟨θ, d, _, st, rd, cw, ?_⟩
    unfold fLcGo at h
    cases q : g d (wipeD ρ vs) st with
    | none => rw [q] at h; exact h.elim
    | some u =>
      rw [q] at h
      intro θ1 ρ1' O1 s1 c1
      refine ⟨θ1, u.1, u.2, c1, ?_⟩
      simp only at h
      cases z : t u.1 u.2 with
      | bad => rw [z] at h; exact h.elim
      | ex x st2 => rw [z] at h; exact h.elim
      | ok b st2 =>
        rw [z] at h
        cases b with
        | false =>
          intro θ2 b' O2 s2 rb m2
          cases rb
          simp only [Bool.false_eq_true, if_false] at h ⊢
          exact lc_run hv fin (rl.mono (s1.trans s2)) (ra.mono (s1.trans s2)) (c.step (s1.trans s2) m2) (Aft.sub h (s1.trans s2))
        | true =>
          intro θ2 b' O2 s2 rb m2
          cases rb
          simp only [if_true] at h ⊢
          refine ⟨θ2, u.1, st2, c1.step s2 m2, ?_⟩
          cases w : m u.1 st2 with
          | bad => rw [w] at h; exact h.elim
          | ex x st3 => rw [w] at h; exact h.elim
          | ok y st3 =>
            rw [w] at h
            simp only at h
            intro θ3 y' O3 s3 ry m3
            by_cases hl : acc.length < sizeLine
            · rw [if_pos hl] at h
              have s13 := (s1.trans s2).trans s3
              exact ⟨by rw [← ra.len]; exact hl, lc_run hv fin (rl.mono s13) ((ra.mono s13).app (.cons ry .nil)) (c.step s13 m3) (Aft.sub h s13)⟩
            · rw [if_neg hl] at h
              exact h.elim
section
variable {elt tg iter : Expr} {ifs : List Expr} {scope : Scope} {own : List (Str × Nat)} {pos : Pos} {g : TG} {fi : fA} {fg : fG} {ft : fT} {fe : fE} {il : List Nat}
theorem flc_run (hv : ∀ v ∈ own.map (·.2), jfree J v) {ρ' : Rho} {O : OH} {P : D → OH → Prop} {R : Exn → OH → Prop} (h : dE J (fLc fi fg ft fe (own.map (·.2))) ρ' O P R) : mLc (dA J fi) (dG J fg) (dT J ft) (dE J fe) (own.map (·.2)) ρ' O P R := by
  obtain ⟨θ, ρ, st, c, h⟩ := h
  refine ⟨θ, ρ, st, c, h.bind fun θ1 a a' st1 O1 s1 ra m1 h1 => ?_⟩
  exact lc_run hv (fun θ2 a a' st2 O2 r2 m2 h2 => Aft.ok h2 (.lst r2) m2) ra .nil (c.step s1 m1) h1
theorem flcO_run (hv : ∀ v ∈ own.map (·.2), jfree J v) {ρ' : Rho} {O : OH} {P : D → OH → Prop} {R : Exn → OH → Prop} (h : dE J (fLcO fi fg ft fe (own.map (·.2))) ρ' O P R) : mLcO (dA J fi) (dG J fg) (dT J ft) (dE J fe) (own.map (·.2)) ρ' O P R := by
  obtain ⟨θ, ρ, st, c, h⟩ := h
  refine ⟨θ, ρ, st, c, h.bind fun θ1 a a' st1 O1 s1 ra m1 h1 => ?_⟩
  exact lc_run hv (fun θ2 a a' st2 O2 r2 m2 (h2 : Aft Rn θ2 (Res.ok (D.loc st2.length) (st2 ++ [some (DO.lst a)])) P R) p np => h2 (θ2 ++ [p]) _ _ ⟨[p], rfl⟩ (.loc (mt_last m2)) (m2.new np (.lst r2))) ra .nil (c.step s1 m1) h1
theorem fe_lc (hc : X.calm = true) (hN : X.N.Nodup) (hi : FI X Φ W J tg iter fi) (ok : BlkOk X.N X.env.scope scope own)
    (hg : ∀ (D : Addr) (vs : List V) (s : Shared) (H : Hp) (C : Addr) (cl : List (Str × Addr)) (fp : List Addr), DG (X.blk s H scope (compEnvC scope cl C X.env) fp) (Own Φ D vs) tg g (dG J fg) il)
    (ht : ∀ (D : Addr) (vs : List V) (s : Shared) (H : Hp) (C : Addr) (cl : List (Str × Addr)) (fp : List Addr), FTs (X.blk s H scope (compEnvC scope cl C X.env) fp) (Own Φ D vs) W0 J ifs ft)
    (he : ∀ (D : Addr) (vs : List V) (s : Shared) (H : Hp) (C : Addr) (cl : List (Str × Addr)) (fp : List Addr), FE (X.blk s H scope (compEnvC scope cl C X.env) fp) (Own Φ D vs) W0 J elt fe)
    (hv : ∀ v ∈ own.map (·.2), jfree J v := by first | (intro _ _; trivial) | decide) (hil : ∀ i ∈ il, i ∈ own.map (·.2) := by decide) (hs : ∀ x, foldedSetIterable iter X.env x = pure x := by intro _; rfl) :
    FE X Φ W J (.ListComp elt [⟨tg, iter, ifs, 0⟩] scope pos) (fLc fi fg ft fe (own.map (·.2))) := by
  obtain ⟨_, hi⟩ := hi
  exact fe_of (de_lcE hc hN hi ok hg ht he hil hs) fun _ _ _ _ h => flc_run hv h
theorem fe_lcO (hc : X.calm = true) (hN : X.N.Nodup) (hi : FI X Φ W J tg iter fi) (ok : BlkOk X.N X.env.scope scope own)
    (hg : ∀ (D : Addr) (vs : List V) (s : Shared) (H : Hp) (C : Addr) (cl : List (Str × Addr)) (fp : List Addr), DG (X.blk s H scope (compEnvC scope cl C X.env) fp) (Own Φ D vs) tg g (dG J fg) il)
    (ht : ∀ (D : Addr) (vs : List V) (s : Shared) (H : Hp) (C : Addr) (cl : List (Str × Addr)) (fp : List Addr), FTs (X.blk s H scope (compEnvC scope cl C X.env) fp) (Own Φ D vs) W0 J ifs ft)
    (he : ∀ (D : Addr) (vs : List V) (s : Shared) (H : Hp) (C : Addr) (cl : List (Str × Addr)) (fp : List Addr), FE (X.blk s H scope (compEnvC scope cl C X.env) fp) (Own Φ D vs) W0 J elt fe)
    (hv : ∀ v ∈ own.map (·.2), jfree J v := by first | (intro _ _; trivial) | decide) (hil : ∀ i ∈ il, i ∈ own.map (·.2) := by decide) (hs : ∀ x, foldedSetIterable iter X.env x = pure x := by intro _; rfl) :
    FE X Φ W J (.ListComp elt [⟨tg, iter, ifs, 0⟩] scope pos) (fLcO fi fg ft fe (own.map (·.2))) := by
  obtain ⟨_, hi⟩ := hi
  exact fe_of (de_lcOE hc hN hi ok hg ht he hil hs) fun _ _ _ _ h => flcO_run hv h
theorem fs_setLc {i : Nat} {y : Str} {py spos : Pos} (hc : X.calm = true) (hN : X.N.Nodup) (hy : X.N[i]? = some y) (hyl : X.env.scope.names.lookup y = some .local)
    (hsw : swapsWith (.ListComp elt [⟨tg, iter, ifs, 0⟩] scope pos) (some (.Name y py)) spos.line X.env = pure true) (hi : FI X Φ W J tg iter fi) (ok : BlkOk X.N X.env.scope scope own)
    (hg : ∀ (D : Addr) (vs : List V) (s : Shared) (H : Hp) (C : Addr) (cl : List (Str × Addr)) (fp : List Addr), DG (X.blk s H scope (compEnvC scope cl C X.env) fp) (Own Φ D vs) tg g (dG J fg) il)
    (ht : ∀ (D : Addr) (vs : List V) (s : Shared) (H : Hp) (C : Addr) (cl : List (Str × Addr)) (fp : List Addr), FTs (X.blk s H scope (compEnvC scope cl C X.env) fp) (Own Φ D vs) W0 J ifs ft)
    (he : ∀ (D : Addr) (vs : List V) (s : Shared) (H : Hp) (C : Addr) (cl : List (Str × Addr)) (fp : List Addr), FE (X.blk s H scope (compEnvC scope cl C X.env) fp) (Own Φ D vs) W0 J elt fe)
    (hj : jfree J i := by first | trivial | (show _ ≠ _; decide)) (hv : ∀ v ∈ own.map (·.2), jfree J v := by first | (intro _ _; trivial) | decide) (hil : ∀ i ∈ il, i ∈ own.map (·.2) := by decide) (hs : ∀ x, foldedSetIterable iter X.env x = pure x := by intro _; rfl) :
    FS X Φ W J (.Assign [.Name y py] (.ListComp elt [⟨tg, iter, ifs, 0⟩] scope pos) spos) (fSet i (fLc fi fg ft fe (own.map (·.2)))) := by
  obtain ⟨_, hi⟩ := hi
  refine fs_of (ds_setLcE hc hN hy hyl hsw hi ok hg ht he hil hs) fun M ρ' O ⟨θ, ρ, st, c, h⟩ => flc_run hv ⟨θ, ρ, st, c, h.stB c fun θ1 a a' st1 O1 s1 ra m1 h1 => h1 θ1 _ O1 (List.prefix_refl _) ((c.step s1 m1).set hj ra)⟩
end
end
end FL

set_option Elab.async false
set_option linter.all false
set_option maxRecDepth 100000
set_option maxHeartbeats 1000000
namespace FL
open PySem PySem.Spec PyProof.Rows L2 DL

theorem Aft.at {α α' : Type} {rel : Th → α → α' → Prop} {θ : Th} {r : Res α} {P : α' → OH → Prop} {R : Exn → OH → Prop} {a : α} {st : St} (h : Aft rel θ r P R) (e : r = .ok a st) {a' : α'} {O : OH} {θ1 : Th} (s : θ <+: θ1) (q : rel θ1 a a') (m : Mt θ1 st O) : P a' O := by
  subst e
  exact h θ1 a' O s q m
section
variable {X : Cx} {Φ : OH → Hp → Hp → Prop} {W : WX} [FΦ : OFrm X.K X.mg Φ] {J : Jv}
/-! what a def leaves of its own is thrown away, where nothing tells of it -/
mutual
def locB (n : Nat) : D → Bool
  | .lst a => locBL n a
  | .tup a => locBL n a
  | .dic _ a => locBL n a
  | .ins _ _ a => locBL n a
  | .frz a => locBL n a
  | .loc i => decide (i < n)
  | _ => true
def locBL (n : Nat) : List D → Bool
  | [] => true
  | d :: ds => locB n d && locBL n ds
end
mutual
theorem rn_low {θ t : Th} : ∀ {a b : D}, Rn (θ ++ t) a b → locB θ.length a = true → Rn θ a b
  | _, _, .non, _ => .non
  | _, _, .bl b, _ => .bl b
  | _, _, .int i, _ => .int i
  | _, _, .str x, _ => .str x
  | _, _, .lst r, h => .lst (rnl_low r (by simpa [locB] using h))
  | _, _, .tup r, h => .tup (rnl_low r (by simpa [locB] using h))
  | _, _, .dic r, h => .dic (rnl_low r (by simpa [locB] using h))
  | _, _, .ins r, h => .ins (rnl_low r (by simpa [locB] using h))
  | _, _, .frz r, h => .frz (rnl_low r (by simpa [locB] using h))
  | _, _, .loc (i := i) e, h => .loc (by
    have h' : i < θ.length := by simpa [locB] using h
    rwa [List.getElem?_append_left h'] at e)
  | _, _, .cls C, _ => .cls C
  | _, _, .ty n, _ => .ty n
theorem rnl_low {θ t : Th} : ∀ {a b : List D}, RnL (θ ++ t) a b → locBL θ.length a = true → RnL θ a b
  | _, _, .nil, _ => .nil
  | _, _, .cons r rl, h => by
    simp only [locBL, Bool.and_eq_true] at h
    exact .cons (rn_low r h.1) (rnl_low rl h.2)
end
def lowO (n : Nat) : Option DO → Bool
  | none => true
  | some x => locB n x.tree
def gc (n : Nat) (d : D) (st : St) : St := if noLoc d = true ∧ (st.drop n).all Option.isNone = true ∧ (st.take n).all (lowO n) = true then st.take n else st
theorem gc_same {d : D} {st : St} : gc st.length d st = st := by
  unfold gc
  simp
theorem gc_app {d : D} {st t : St} (h : noLoc d = true) (ht : t.all Option.isNone = true) (hl : st.all (lowO st.length) = true) : gc st.length d (st ++ t) = st := by
  unfold gc
  rw [if_pos ⟨h, by simpa using ht, by simpa using hl⟩]
  simp
theorem rno_low {θ t : Th} {x y : DO} (r : RnO (θ ++ t) x y) (h : locB θ.length x.tree = true) : RnO θ x y := by
  cases r with
  | lst r => exact .lst (rnl_low r (by simpa [DO.tree, locB] using h))
  | dic r => exact .dic (rnl_low r (by simpa [DO.tree, locB] using h))
  | ins r => exact .ins (rnl_low r (by simpa [DO.tree, locB] using h))
theorem gc_run {θ θ1 : Th} {st : St} {O : OH} {d d' : D} {n : Nat} {X : Prop} (l : θ.length = n) (s : θ <+: θ1) (r : Rn θ1 d d') (m : Mt θ1 st O) (h : ∀ θ2, θ <+: θ2 → Rn θ2 d d' → Mt θ2 (gc n d st) O → X) : X := by
  unfold gc at h
  by_cases q : noLoc d = true ∧ (st.drop n).all Option.isNone = true ∧ (st.take n).all (lowO n) = true
  · rw [if_pos q] at h
    have e := rn_eq r q.1
    subst e
    have hl := m.len
    obtain ⟨t, rfl⟩ := s
    have at_ : ∀ (i : Nat) (x : DO), (st.take n)[i]? = some (some x) → i < n ∧ st[i]? = some (some x) := fun i x e => by
      rw [List.getElem?_take] at e
      split at e
      · rename_i q
        exact ⟨q, e⟩
      · cases e
    have low : ∀ i, i < n → (θ ++ t)[i]? = θ[i]? := fun i hi => List.getElem?_append_left (by rw [l]; exact hi)
    refine h θ (List.prefix_refl _) (rn_self q.1) ⟨?_, fun i x e => ?_, fun i j x y a e1 e2 q1 q2 => ?_⟩
    · rw [List.length_take, ← hl, List.length_append, l]
      omega
    · obtain ⟨hi, e⟩ := at_ i x e
      obtain ⟨a, y, h1, h2, h3⟩ := m.live i x e
      rw [low i hi] at h1
      have hx : locB θ.length x.tree = true := by
        have z := List.all_eq_true.mp q.2.2 (some x) (List.mem_iff_getElem?.mpr ⟨i, by rw [List.getElem?_take, if_pos hi]; exact e⟩)
        rw [l]
        exact z
      exact ⟨a, y, h1, h2, rno_low h3 hx⟩
    · obtain ⟨hi, e1⟩ := at_ i x e1
      obtain ⟨hj, e2⟩ := at_ j y e2
      exact m.inj i j x y a e1 e2 (by rw [low i hi]; exact q1) (by rw [low j hj]; exact q2)
  · rw [if_neg q] at h
    exact h θ1 s r m
/-! .. and at a def's end also what lives, but is told of by nobody -/
def gcF (n : Nat) (ok : Bool) (st : St) : St := if ok = true ∧ (st.take n).all (lowO n) = true then st.take n else st
theorem gcF_same {ok : Bool} {st : St} : gcF st.length ok st = st := by
  unfold gcF
  simp
theorem gcF_app {st t : St} (hl : st.all (lowO st.length) = true) : gcF st.length true (st ++ t) = st := by
  unfold gcF
  rw [if_pos ⟨rfl, by simpa using hl⟩]
  simp
def LeO (O' O : OH) : Prop := ∀ b x, O' b = some x → O b = some x
theorem gcF_run {θ θ1 : Th} {st : St} {O : OH} {n : Nat} {ok : Bool} {X : Prop} (l : θ.length = n) (s : θ <+: θ1) (m : Mt θ1 st O) (h1 : ok = true → ∀ O2, LeO O2 O → Mt θ (gcF n ok st) O2 → X) (h2 : Mt θ1 (gcF n ok st) O → X) : X := by
  by_cases q : ok = true ∧ (st.take n).all (lowO n) = true
  · have e : gcF n ok st = st.take n := if_pos q
    rw [e] at h1
    have hl := m.len
    obtain ⟨t, rfl⟩ := s
    have at_ : ∀ (i : Nat) (x : DO), (st.take n)[i]? = some (some x) → i < n ∧ st[i]? = some (some x) := fun i x e => by
      rw [List.getElem?_take] at e
      split at e
      · rename_i q
        exact ⟨q, e⟩
      · cases e
    have low : ∀ i, i < n → (θ ++ t)[i]? = θ[i]? := fun i hi => List.getElem?_append_left (by rw [l]; exact hi)
    refine h1 q.1 (fun b => if b ∈ θ then O b else none) (fun b x e => ?_) ⟨?_, fun i x e => ?_, fun i j x y a e1 e2 q1 q2 => ?_⟩
    · by_cases z : b ∈ θ
      · simpa [z] using e
      · simp [z] at e
    · rw [List.length_take, ← hl, List.length_append, l]
      omega
    · obtain ⟨hi, e⟩ := at_ i x e
      obtain ⟨a, y, g1, g2, g3⟩ := m.live i x e
      rw [low i hi] at g1
      have hx : locB θ.length x.tree = true := by
        have z := List.all_eq_true.mp q.2 (some x) (List.mem_iff_getElem?.mpr ⟨i, by rw [List.getElem?_take, if_pos hi]; exact e⟩)
        rw [l]
        exact z
      have ha : a ∈ θ := List.mem_iff_getElem?.mpr ⟨i, g1⟩
      exact ⟨a, y, g1, by simp [ha, g2], rno_low g3 hx⟩
    · obtain ⟨hi, e1⟩ := at_ i x e1
      obtain ⟨hj, e2⟩ := at_ j y e2
      exact m.inj i j x y a e1 e2 (by rw [low i hi]; exact q1) (by rw [low j hj]; exact q2)
  · have e : gcF n ok st = st := if_neg q
    rw [e] at h2
    exact h2 m
/-! calls -/
abbrev fF := List D → St → Res D
def gF (f : fF) : WF := fun ds' O P R => ∃ θ ds st, RnL θ ds ds' ∧ Mt θ st O ∧ Aft Rn θ (f ds st) P R
def noLocX (x : Exn) : Bool := match x.fs with
  | none => true
  | some (_, ds) => noLocL ds
theorem rnx_low {θ θ1 : Th} {x y : Exn} (r : RnX θ1 x y) (h : noLocX x = true) : RnX θ x y := by
  obtain ⟨c, r⟩ := r
  refine ⟨c, ?_⟩
  unfold noLocX at h
  revert h r
  cases x.fs with
  | none =>
    cases y.fs with
    | none => exact fun _ r => r
    | some _ => exact fun _ r => r
  | some a =>
    cases y.fs with
    | none => exact fun _ r => r
    | some b => exact fun h r => ⟨r.1, by rw [rnl_eq r.2 h]; exact rnl_self h⟩
def fBody (f : fS) (k : Nat) : fF := fun ds st => match f (ds.map some ++ List.replicate k none) st with
  | .nx _ st1 => .ok .non (gcF st.length true st1)
  | .rt d st1 => .ok d (gcF st.length (noLoc d) st1)
  | .ex x _ st1 => .ex x (gcF st.length (noLocX x) st1)
  | _ => .bad
theorem body_run {f : fS} {k : Nat} {ds' : List D} {O : OH} {P : D → OH → Prop} {R : Exn → OH → Prop} (h : gF (fBody f k) ds' O P R) : bodyF (dS none f) k ds' O (fun d O1 => ∃ O2, LeO O2 O1 ∧ P d O2) (fun x O1 => ∃ O2, LeO O2 O1 ∧ R x O2) := by
  obtain ⟨θ, ds, st, r, m, h⟩ := h
  refine ⟨θ, _, st, ⟨RnE.start r k, m, trivial⟩, ?_⟩
  unfold fBody at h
  cases q : f (ds.map some ++ List.replicate k none) st with
  | nx ρ1 st1 =>
    rw [q] at h
    exact fun θ1 ρ' O1 s c => gcF_run m.len s c.mt (fun _ O2 le m2 => ⟨O2, le, h θ .non O2 (List.prefix_refl _) .non m2⟩) fun m2 => ⟨O1, fun _ _ e => e, h θ1 .non O1 s .non m2⟩
  | rt d st1 =>
    rw [q] at h
    refine fun θ1 d' O1 s r1 m1 => gcF_run m.len s m1 (fun nl O2 le m2 => ⟨O2, le, h θ d' O2 (List.prefix_refl _) ?_ m2⟩) fun m2 => ⟨O1, fun _ _ e => e, h θ1 d' O1 s r1 m2⟩
    rw [rn_eq r1 nl]
    exact rn_self nl
  | ex x ρ1 st1 =>
    rw [q] at h
    exact fun θ1 x' ρ' O1 s rx c => gcF_run m.len s c.mt (fun nl O2 le m2 => ⟨O2, le, h θ x' O2 (List.prefix_refl _) (rnx_low rx nl) m2⟩) fun m2 => ⟨O1, fun _ _ e => e, h θ1 x' O1 s rx m2⟩
  | bk _ _ => rw [q] at h; exact h.elim
  | ct _ _ => rw [q] at h; exact h.elim
  | bad => rw [q] at h; exact h.elim
def fCall (F : fF) (k : Nat) (dd : List D) (n : fA) : fE := fun ρ st => (n ρ st).bind fun ds st1 => if (ds ++ dd).length = k then F (ds ++ dd) st1 else .bad
def fCall0 (F : fF) (k : Nat) (dd : List D) : fE := fun _ st => if dd.length = k then F dd st else .bad
def fMeth (C m : Str) (F : fF) (k : Nat) (dd : List D) (o : fE) (n : fA) : fE := fun ρ st => (o ρ st).bind fun x st1 => match x with
  | .ins C' ns fs => if C' = C ∧ m ∉ ns then (n ρ st1).bind fun ds st2 => if (ds ++ dd).length + 1 = k then F (.ins C' ns fs :: (ds ++ dd)) st2 else .bad else .bad
  | _ => .bad
def fMeth0 (C m : Str) (F : fF) (k : Nat) (dd : List D) (o : fE) : fE := fun ρ st => (o ρ st).bind fun x st1 => match x with
  | .ins C' ns fs => if C' = C ∧ m ∉ ns ∧ dd.length + 1 = k then F (.ins C' ns fs :: dd) st1 else .bad
  | _ => .bad
def mkEnd (i : Nat) (r : Res D) : Res D := match r with
  | .ok .non st2 => match st2[i]? with
    | some (some y) => .ok y.tree (gc i y.tree (st2.set i none))
    | _ => .bad
  | .ok _ _ => .bad
  | .ex x st2 => .ex x st2
  | .bad => .bad
def fMake (C : Str) (F : fF) (k : Nat) (dd : List D) (n : fA) : fE := fun ρ st => (n ρ st).bind fun ds st1 =>
  if (ds ++ dd).length + 1 = k then mkEnd st1.length (F (.loc st1.length :: (ds ++ dd)) (st1 ++ [some (.ins C [] [])])) else .bad
section
variable {k : Nat} {f C : Addr} {fd : FuncData} {ps : List Str} {F : fF} {dvs : List V} {dd : List D} {dflt : List Value} {x m : Str} {p pos apos : Pos} {e o : Expr} {es : List Expr} {fs : fA} {fo : fE}
theorem fe_call (Fg : FnG X.prog X.w X.K X.mg X.base k f fd ps (gF F)) (hr : Rm k X) (hg : Gl X x) (hm : X.mg x = some (.ref f)) (hk : PySem.W.keepIn X.K (.ref f) = true) (hb : Binds X.K fd ps dflt) (hd : Vals dvs dflt) (hdd : ∀ G, RpL X.K X.mg G dvs dd) (tk : Takes X W)
    (ha : FA X Φ W J (e :: es) fs) (hn : noLocL dd = true := by rfl) (hdb : (x == ("__debug__" : Str)) = false := by decide) (he : starEach (e :: es) X.env = (false, eval e X.env) :: starEach es X.env := by rfl) (hpl : (backTo pos (starEach es X.env)).any (·.1) = false := by rfl) :
    FE X Φ W J (.Call (.Name x p) (e :: es) [] pos) (fCall F ps.length dd fs) := by
  obtain ⟨_, ha⟩ := ha
  refine fe_of (de_call Fg hr hg hm hk hb hd hdd tk ha hdb he hpl) fun ρ' O P R ⟨θ, ρ, st, c, h⟩ => ⟨θ, ρ, st, c, h.bind fun θ1 a a' st1 O1 s1 ra m1 h1 => ?_⟩
  by_cases q : (a ++ dd).length = ps.length
  · rw [if_pos q] at h1
    have r := ra.app (rnl_self (θ := θ1) hn)
    exact ⟨by rw [← r.len]; exact q, θ1, _, st1, r, m1, h1⟩
  · rw [if_neg q] at h1
    exact h1.elim
theorem fe_call0 (Fg : FnG X.prog X.w X.K X.mg X.base k f fd ps (gF F)) (hr : Rm k X) (hg : Gl X x) (hm : X.mg x = some (.ref f)) (hk : PySem.W.keepIn X.K (.ref f) = true) (hb : Binds X.K fd ps dflt) (hd : Vals dvs dflt) (hdd : ∀ G, RpL X.K X.mg G dvs dd) (tk : Takes X W)
    (hn : noLocL dd = true := by rfl) (hdb : (x == ("__debug__" : Str)) = false := by decide) :
    FE X Φ W J (.Call (.Name x p) [] [] pos) (fCall0 F ps.length dd) :=
  fe_of (de_call0 Fg hr hg hm hk hb hd hdd tk hdb) fun ρ' O P R ⟨θ, ρ, st, c, h⟩ => by
    unfold fCall0 at h
    by_cases q : dd.length = ps.length
    · rw [if_pos q] at h
      exact ⟨q, θ, _, st, rnl_self hn, c.mt, h⟩
    · rw [if_neg q] at h
      exact h.elim
theorem fe_meth {Cn : Str} {pl : Sem Bool} (ho : FE X Φ W J o fo) (c : Cls X.K C) (hC : X.mg Cn = some (.ref C)) (hm : Meth X.K C m f) (Fg : FnG X.prog X.w X.K X.mg X.base k f fd ps (gF F)) (hr : Rm k X) (hb : Binds X.K fd ps dflt) (hd : Vals dvs dflt) (hdd : ∀ G, RpL X.K X.mg G dvs dd) (tk : Takes X W)
    (ha : FA X Φ W J (e :: es) fs) (hn : noLocL dd = true := by rfl) (h1 : starEach (e :: es) X.env = (false, eval e X.env) :: starEach es X.env := by rfl) (h2 : (backTo pos (starEach es X.env)).any (·.1) = false := by rfl)
    (ht : eval (.Call (.Attribute o m apos) (e :: es) [] pos) X.env = (do
      let ov ← eval o X.env
      standAt apos.atName
      let (f, first) ← holding [ov] (getMethod ov m pl)
      callWith pos f first (backTo pos (starEach (e :: es) X.env)) (backToKw pos (keywordEach [] X.env))) := by rfl) :
    FE X Φ W J (.Call (.Attribute o m apos) (e :: es) [] pos) (fMeth Cn m F ps.length dd fo fs) := by
  obtain ⟨_, ho⟩ := ho
  obtain ⟨_, ha⟩ := ha
  refine fe_of (de_meth ho c hC hm Fg hr hb hd hdd tk ha h1 h2 ht) fun ρ' O P R ⟨θ, ρ, st, c, h⟩ => ⟨θ, ρ, st, c, h.bind fun θ1 a a' st1 O1 s1 ra m1 h1 => ?_⟩
  cases ra with
  | @ins C' ns b b' rb =>
    simp only at h1
    by_cases q : C' = Cn ∧ m ∉ ns
    · rw [if_pos q] at h1
      obtain ⟨q1, q2⟩ := q
      subst q1
      refine ⟨_, _, rfl, q2, θ1, ρ, st1, c.step s1 m1, h1.bind fun θ2 d d' st2 O2 s2 rd m2 h2 => ?_⟩
      by_cases z : (d ++ dd).length + 1 = ps.length
      · rw [if_pos z] at h2
        have r := rd.app (rnl_self (θ := θ2) hn)
        exact ⟨by rw [List.length_cons, ← r.len]; exact z, θ2, _, st2, .cons (.ins (rb.mono s2)) r, m2, h2⟩
      · rw [if_neg z] at h2
        exact h2.elim
    · rw [if_neg q] at h1
      exact h1.elim
  | _ => exact h1.elim
theorem fe_meth0 {Cn : Str} {pl : Sem Bool} (ho : FE X Φ W J o fo) (c : Cls X.K C) (hC : X.mg Cn = some (.ref C)) (hm : Meth X.K C m f) (Fg : FnG X.prog X.w X.K X.mg X.base k f fd ps (gF F)) (hr : Rm k X) (hb : Binds X.K fd ps dflt) (hd : Vals dvs dflt) (hdd : ∀ G, RpL X.K X.mg G dvs dd) (tk : Takes X W)
    (hn : noLocL dd = true := by rfl)
    (ht : eval (.Call (.Attribute o m apos) [] [] pos) X.env = (do
      let ov ← eval o X.env
      standAt apos.atName
      let (f, first) ← holding [ov] (getMethod ov m pl)
      callWith pos f first (backTo pos (starEach [] X.env)) (backToKw pos (keywordEach [] X.env))) := by rfl) :
    FE X Φ W J (.Call (.Attribute o m apos) [] [] pos) (fMeth0 Cn m F ps.length dd fo) := by
  obtain ⟨_, ho⟩ := ho
  refine fe_of (de_meth0 ho c hC hm Fg hr hb hd hdd tk ht) fun ρ' O P R ⟨θ, ρ, st, c, h⟩ => ⟨θ, ρ, st, c, h.bind fun θ1 a a' st1 O1 s1 ra m1 h1 => ?_⟩
  cases ra with
  | @ins C' ns b b' rb =>
    simp only at h1
    by_cases q : C' = Cn ∧ m ∉ ns ∧ dd.length + 1 = ps.length
    · rw [if_pos q] at h1
      obtain ⟨q1, q2, q3⟩ := q
      subst q1
      exact ⟨_, _, rfl, q2, q3, θ1, _, st1, .cons (.ins rb) (rnl_self hn), m1, h1⟩
    · rw [if_neg q] at h1
      exact h1.elim
  | _ => exact h1.elim
theorem fe_make (M : Mk X.K C f) (hC : X.mg x = some (.ref C)) (Fg : FnG X.prog X.w X.K X.mg X.base k f fd ps (gF F)) (hr : Rm (k + 1) X) (hg : Gl X x) (hb : Binds X.K fd ps dflt) (hd : Vals dvs dflt) (hdd : ∀ G, RpL X.K X.mg G dvs dd) (tk : Takes X W)
    (ha : FA X Φ W J (e :: es) fs) (hn : noLocL dd = true := by rfl) (hdb : (x == ("__debug__" : Str)) = false := by decide) (he : starEach (e :: es) X.env = (false, eval e X.env) :: starEach es X.env := by rfl) (hpl : (backTo pos (starEach es X.env)).any (·.1) = false := by rfl) :
    FE X Φ W J (.Call (.Name x p) (e :: es) [] pos) (fMake x F ps.length dd fs) := by
  obtain ⟨_, ha⟩ := ha
  refine fe_of (de_make M hC Fg hr hg hb hd hdd tk ha hdb he hpl) fun ρ' O P R ⟨θ, ρ, st, c, h⟩ => ⟨θ, ρ, st, c, h.bind fun θ1 a a' st1 O1 s1 ra m1 h1 => ?_⟩
  by_cases q : (a ++ dd).length + 1 = ps.length
  · rw [if_pos q] at h1
    have r := ra.app (rnl_self (θ := θ1) hn)
    refine ⟨by rw [← r.len]; exact q, fun p np => ?_⟩
    have m2 := m1.new (x := .ins x [] []) (y := .ins x [] []) np (.ins .nil)
    refine ⟨θ1 ++ [p], _, _, .cons (.loc (mt_last m1)) (r.mono ⟨[p], rfl⟩), m2, ?_⟩
    cases z : F (.loc st1.length :: (a ++ dd)) (st1 ++ [some (.ins x [] [])]) with
    | bad => rw [z] at h1; exact h1.elim
    | ex w st3 => rw [z] at h1; exact fun θ3 x' O3 s3 => h1 θ3 x' O3 (List.IsPrefix.trans ⟨[p], rfl⟩ s3)
    | ok d st3 =>
      rw [z] at h1
      intro θ3 d' O3 s3 rd m3
      unfold mkEnd at h1
      cases rd with
      | non =>
        simp only at h1
        cases w : st3[st1.length]? with
        | none => rw [w] at h1; exact h1.elim
        | some u =>
          cases u with
          | none => rw [w] at h1; exact h1.elim
          | some y =>
            rw [w] at h1
            have at3 : θ3[st1.length]? = some p := sub_at s3 (mt_last m1)
            obtain ⟨y', h4, h5⟩ := m3.at w at3
            exact ⟨rfl, y', h4, gc_run m1.len (List.IsPrefix.trans ⟨[p], rfl⟩ s3) h5.tree (m3.del w at3) fun θ4 s4 r4 m4 => h1 θ4 _ _ s4 r4 m4⟩
      | _ => exact h1.elim
  · rw [if_neg q] at h1
    exact h1.elim
end
/-! fields, properties -/
def fFld (C f : Str) (m : fE) : fE := fun ρ st => (m ρ st).bind fun x st1 => match x with
  | .ins C' ns ds => if C' = C then optR (lookD f ns ds) st1 else .bad
  | _ => .bad
def fFldO (C f : Str) (m : fE) : fE := fun ρ st => (m ρ st).bind fun x st1 => match x with
  | .loc a => match st1[a]? with
    | some (some (.ins C' ns ds)) => if C' = C then optR (lookD f ns ds) st1 else .bad
    | _ => .bad
  | _ => .bad
theorem lookD_rn {θ : Th} {f : Str} {d : D} : ∀ {ns : List Str} {a b : List D}, RnL θ a b → lookD f ns a = some d → ∃ e, lookD f ns b = some e ∧ Rn θ d e
  | [], _, _, _, h => by simp [lookD] at h
  | n :: ns, _, _, .nil, h => by simp [lookD] at h
  | n :: ns, _, _, .cons r rl, h => by
    unfold lookD at h ⊢
    by_cases q : f = n
    · rw [if_pos q] at h ⊢
      cases h
      exact ⟨_, rfl, r⟩
    · rw [if_neg q] at h ⊢
      exact lookD_rn rl h
theorem putD_rn {θ : Th} {f : Str} {y y' : D} (r : Rn θ y y') : ∀ {ns : List Str} {a b : List D}, RnL θ a b → RnL θ (putD f y ns a) (putD f y' ns b)
  | [], _, _, _ => .cons r .nil
  | n :: ns, _, _, .nil => .nil
  | n :: ns, _, _, .cons h t => by
    unfold putD
    by_cases q : n = f
    · rw [if_pos q, if_pos q]
      exact .cons r t
    · rw [if_neg q, if_neg q]
      exact .cons h (putD_rn r t)
section
variable {C : Addr} {Cn f : Str} {e : Expr} {m : fE} {pos : Pos}
theorem fe_fld (c : Cls X.K C) (hC : X.mg Cn = some (.ref C)) (n : NoAttr X.K C f) (h : FE X Φ W J e m) (hb : attributeBase e f X.env (eval e X.env) = eval e X.env := by rfl) : FE X Φ W J (.Attribute e f pos) (fFld Cn f m) := by
  obtain ⟨_, h⟩ := h
  refine fe_of (de_fld c hC n h hb) fun ρ' O P R ⟨θ, ρ, st, c, h⟩ => ⟨θ, ρ, st, c, h.bind fun θ1 a a' st1 O1 s1 ra m1 h1 => ?_⟩
  cases ra with
  | @ins C' ns b b' rb =>
    simp only at h1
    by_cases q : C' = Cn
    · subst q
      rw [if_pos rfl] at h1
      cases z : lookD f ns b with
      | none => rw [z] at h1; exact h1.elim
      | some d =>
        rw [z] at h1
        obtain ⟨e, h2, h3⟩ := lookD_rn rb z
        exact ⟨_, _, e, rfl, h2, Aft.ok h1 h3 m1⟩
    · rw [if_neg q] at h1
      exact h1.elim
  | _ => exact h1.elim
theorem fe_fldO (c : Cls X.K C) (hC : X.mg Cn = some (.ref C)) (n : NoAttr X.K C f) (h : FE X Φ W J e m) (hb : attributeBase e f X.env (eval e X.env) = eval e X.env := by rfl) : FE X Φ W J (.Attribute e f pos) (fFldO Cn f m) := by
  obtain ⟨_, h⟩ := h
  refine fe_of (de_fldO c hC n h hb) fun ρ' O P R ⟨θ, ρ, st, c, h⟩ => ⟨θ, ρ, st, c, h.bind fun θ1 a a' st1 O1 s1 ra m1 h1 => ?_⟩
  cases ra with
  | @loc i p hp =>
    simp only at h1
    cases w : st1[i]? with
    | none => rw [w] at h1; exact h1.elim
    | some u =>
      cases u with
      | none => rw [w] at h1; exact h1.elim
      | some y =>
        rw [w] at h1
        obtain ⟨y', h4, h5⟩ := m1.at w hp
        cases h5 with
        | @ins C' ns b b' rb =>
          simp only at h1
          by_cases q : C' = Cn
          · subst q
            rw [if_pos rfl] at h1
            cases z : lookD f ns b with
            | none => rw [z] at h1; exact h1.elim
            | some d =>
              rw [z] at h1
              obtain ⟨e, h2, h3⟩ := lookD_rn rb z
              exact ⟨p, _, _, e, rfl, h4, h2, Aft.ok h1 h3 m1⟩
          · rw [if_neg q] at h1
            exact h1.elim
        | _ => exact h1.elim
  | _ => exact h1.elim
def fFldS (C f : Str) (mo mv : fE) : fS := fun ρ st => stB (mv ρ st) ρ fun y st1 => stB (mo ρ st1) ρ fun x st2 => match x with
  | .loc a => match st2[a]? with
    | some (some (.ins C' ns ds)) => if C' = C ∧ ns.length < 1000 then .nx ρ (st2.set a (some (.ins C (putN f ns) (putD f y ns ds)))) else .bad
    | _ => .bad
  | _ => .bad
theorem fs_fld {o value : Expr} {pos' : Pos} {mo mv : fE} (c : Cls X.K C) (hC : X.mg Cn = some (.ref C)) (n : NoAttr X.K C f) (ho : FE X Φ W J o mo) (hv : FE X Φ W J value mv) (hs : swapsWith value (some (.Attribute o f pos')) pos.line X.env = pure false := by rfl) :
    FS X Φ W J (.Assign [.Attribute o f pos'] value pos) (fFldS Cn f mo mv) := by
  obtain ⟨_, ho⟩ := ho
  obtain ⟨_, hv⟩ := hv
  refine fs_of (ds_fld c hC n ho hv hs) fun M ρ' O ⟨θ, ρ, st, c, h⟩ => ⟨θ, ρ, st, c, h.stB c fun θ1 a a' st1 O1 s1 ra m1 h1 => ?_⟩
  refine ⟨θ1, ρ, st1, c.step s1 m1, h1.stB (c.step s1 m1) fun θ2 x x' st2 O2 s2 rx m2 h2 => ?_⟩
  cases rx with
  | @loc i p hp =>
    simp only at h2
    cases w : st2[i]? with
    | none => rw [w] at h2; exact h2.elim
    | some u =>
      cases u with
      | none => rw [w] at h2; exact h2.elim
      | some y =>
        rw [w] at h2
        obtain ⟨y', h4, h5⟩ := m2.at w hp
        cases h5 with
        | @ins C' ns b b' rb =>
          simp only at h2
          by_cases q : C' = Cn ∧ ns.length < 1000
          · rw [if_pos q] at h2
            obtain ⟨q1, q2⟩ := q
            subst q1
            refine ⟨p, _, _, rfl, h4, q2, ?_⟩
            exact h2 θ2 ρ' _ (List.prefix_refl _) ((c.step s1 m1).step s2 (m2.put w hp (.ins (putD_rn (ra.mono s2) rb))))
          · rw [if_neg q] at h2
            exact h2.elim
        | _ => exact h2.elim
  | _ => exact h2.elim
def fProp (C : Str) (F : fF) (m : fE) : fE := fun ρ st => (m ρ st).bind fun x st1 => match x with
  | .ins C' ns ds => if C' = C then (F [.ins C' ns ds] st1).calm else .bad
  | _ => .bad
theorem fe_prop {k : Nat} {p q : Addr} {fd : FuncData} {n : Str} {F : fF} (h : FE X Φ W J e m) (c : Cls X.K C) (hC : X.mg Cn = some (.ref C)) (hp : PropOf X.K C f p q) (Fg : FnG X.prog X.w X.K X.mg X.base k q fd [n] (gF F)) (hr : Rm (k + 1) X) (hb : Binds X.K fd [n] [])
    (hab : attributeBase e f X.env (eval e X.env) = eval e X.env := by rfl) : FE X Φ W J (.Attribute e f pos) (fProp Cn F m) := by
  obtain ⟨_, h⟩ := h
  refine fe_of (de_prop h c hC hp Fg hr hb hab) fun ρ' O P R ⟨θ, ρ, st, c, h⟩ => ⟨θ, ρ, st, c, h.bind fun θ1 a a' st1 O1 s1 ra m1 h1 => ?_⟩
  cases ra with
  | @ins C' ns b b' rb =>
    simp only at h1
    by_cases q : C' = Cn
    · subst q
      rw [if_pos rfl] at h1
      exact ⟨_, _, rfl, θ1, _, st1, .cons (.ins rb) .nil, m1, h1.calm⟩
    · rw [if_neg q] at h1
      exact h1.elim
  | _ => exact h1.elim
/-! own __eq__, own __repr__ -/
def fEqI (C : Str) (F : fF) (ok : D → Bool) (ma mb : fE) : fE := fun ρ st => (ma ρ st).bind fun a st1 => (mb ρ st1).bind fun b st2 => match a with
  | .ins C' ns ds => if C' = C ∧ ok b = true then (F [.ins C' ns ds, b] st2).bind fun d st3 => match d with
      | .bl k => .ok (.bl k) st3
      | _ => .bad
    else .bad
  | _ => .bad
theorem feqI_run {C : Str} {F : fF} {ok : D → Bool} (hok : ∀ θ a b, Rn θ a b → ok b = ok a) {fa fb : fE} {ρ' : Rho} {O : OH} {P : D → OH → Prop} {R : Exn → OH → Prop} (h : dE J (fEqI C F ok fa fb) ρ' O P R) : mEqI C (gF F) (fun d => ok d = true) (dE J fa) (dE J fb) ρ' O P R := by
  obtain ⟨θ, ρ, st, c, h⟩ := h
  refine ⟨θ, ρ, st, c, h.bind fun θ1 a a' st1 O1 s1 ra m1 h1 => ?_⟩
  refine ⟨θ1, ρ, st1, c.step s1 m1, h1.bind fun θ2 b b' st2 O2 s2 rb m2 h2 => ?_⟩
  cases ra with
  | @ins C' ns u u' ru =>
    simp only at h2
    by_cases q : C' = C ∧ ok b = true
    · rw [if_pos q] at h2
      obtain ⟨q1, q2⟩ := q
      subst q1
      refine ⟨_, _, rfl, (hok θ2 b b' rb).trans q2, θ2, _, st2, .cons (.ins (ru.mono s2)) (.cons rb .nil), m2, h2.bind fun θ3 d d' st3 O3 s3 rd m3 h3 => ?_⟩
      cases rd with
      | bl k => exact ⟨k, rfl, Aft.ok h3 (.bl k) m3⟩
      | _ => exact h3.elim
    · rw [if_neg q] at h2
      exact h2.elim
  | _ => exact h2.elim
section
variable {k : Nat} {g : Addr} {fd : FuncData} {n1 n2 n : Str} {F : fF} {ok : D → Bool} {a b : Expr} {fa fb : fE}
theorem fe_eqI (hC : X.mg Cn = some (.ref C)) (hs : PySem.W.findIn X.K (.ref C) "__eq__" = some (some (.ref g))) (hf : PySem.W.isFn X.K (.ref g) = true)
    (T : EqT X.K X.mg C fun d => ok d = true) (hok : ∀ θ a b, Rn θ a b → ok b = ok a) (Fg : FnG X.prog X.w X.K X.mg X.base k g fd [n1, n2] (gF F)) (hr : Rm k X) (hb : Binds X.K fd [n1, n2] []) (tk : Takes X W) (ha : FE X Φ W J a fa) (hb' : FE X Φ W J b fb) :
    FE X Φ W J (.Compare a [.Eq] [b] pos) (fEqI Cn F ok fa fb) := by
  obtain ⟨_, ha⟩ := ha
  obtain ⟨_, hb'⟩ := hb'
  exact fe_of (de_eqI hC hs hf T Fg hr hb tk ha hb') fun _ _ _ _ h => feqI_run hok h
theorem ft_eqI (hC : X.mg Cn = some (.ref C)) (hs : PySem.W.findIn X.K (.ref C) "__eq__" = some (some (.ref g))) (hf : PySem.W.isFn X.K (.ref g) = true)
    (T : EqT X.K X.mg C fun d => ok d = true) (hok : ∀ θ a b, Rn θ a b → ok b = ok a) (Fg : FnG X.prog X.w X.K X.mg X.base k g fd [n1, n2] (gF F)) (hr : Rm k X) (hb : Binds X.K fd [n1, n2] []) (tk : Takes X W) (ha : FE X Φ W J a fa) (hb' : FE X Φ W J b fb) :
    FT X Φ W J (.Compare a [.Eq] [b] pos) (fTest (fEqI Cn F ok fa fb)) := by
  obtain ⟨_, ha⟩ := ha
  obtain ⟨_, hb'⟩ := hb'
  exact ft_of (dt_eqI hC hs hf T Fg hr hb tk ha hb') fun _ _ _ _ h => mtest_mono (fun _ _ _ _ => feqI_run hok) (ftest_run h)
def fReprI (C : Str) (F : fF) (m : fE) : fE := fun ρ st => (m ρ st).bind fun x st1 => match x with
  | .ins C' ns ds => if C' = C then (F [.ins C' ns ds] st1).calm.bind fun d st2 => match d with
      | .str y => .ok (.str y) st2
      | _ => .bad
    else .bad
  | _ => .bad
theorem fe_reprI {p : Pos} (c : Cls X.K C) (hC : X.mg Cn = some (.ref C)) (hs : PySem.W.findIn X.K (.ref C) "__repr__" = some (some (.ref g))) (hf : PySem.W.isFn X.K (.ref g) = true)
    (Fg : FnG X.prog X.w X.K X.mg X.base k g fd [n] (gF F)) (hr : Rm (k + 1) X) (hb : Binds X.K fd [n] []) (hg : Gl X "repr") (hm : X.mg "repr" = none) (h : FE X Φ W J e m)
    (he : starEach [e] X.env = (false, eval e X.env) :: starEach [] X.env := by rfl) (hpl : (backTo pos (starEach [] X.env)).any (·.1) = false := by rfl) :
    FE X Φ W J (.Call (.Name "repr" p) [e] [] pos) (fReprI Cn F m) := by
  obtain ⟨_, h⟩ := h
  refine fe_of (de_reprI c hC hs hf Fg hr hb hg hm h he hpl) fun ρ' O P R ⟨θ, ρ, st, c, h⟩ => ⟨θ, ρ, st, c, h.bind fun θ1 a a' st1 O1 s1 ra m1 h1 => ?_⟩
  cases ra with
  | @ins C' ns u u' ru =>
    simp only at h1
    by_cases q : C' = Cn
    · subst q
      rw [if_pos rfl] at h1
      refine ⟨_, _, rfl, θ1, _, st1, .cons (.ins ru) .nil, m1, ?_⟩
      cases z : F [.ins C' ns u] st1 with
      | bad => rw [z] at h1; exact h1.elim
      | ex w st2 => rw [z] at h1; exact h1.elim
      | ok d st2 =>
        rw [z] at h1
        intro θ2 d' O2 s2 rd m2
        cases rd with
        | str y => exact ⟨y, rfl, h1 θ2 _ O2 s2 (.str y) m2⟩
        | _ => exact h1.elim
    · rw [if_neg q] at h1
      exact h1.elim
  | _ => exact h1.elim
end
end
/-! raise, try -/
def fRaise (C fld : Str) (n : fA) : fS := fun ρ st => stB (n ρ st) ρ fun ds st1 => match ds with
  | [d] => .ex ⟨C, some ([fld], [d])⟩ ρ st1
  | _ => .bad
theorem fs_raise {C fI : Addr} {x fld ar : Str} {fd : FuncData} {e : Expr} {fs : fA} {p pos pos2 : Pos} (T : OexG X.K C) (iC : PySem.W.findIn X.K (.ref C) "__init__" = some (some (.ref fI))) (tI : PySem.W.typeIn X.K (.ref fI) = some (.type "function"))
    (F : FnOk X.prog X.w X.K X.mg X.base CX0 1 fI fd [("self" : Str), ar] (spXI C fld)) (hr : Rm 2 X) (hb : Binds X.K fd [("self" : Str), ar] []) (hg : Gl X x) (hm : X.mg x = some (.ref C)) (hc : X.calm = true) (tk : Takes X W) (ha : FA X Φ W J [e] fs)
    (hdb : (x == ("__debug__" : Str)) = false := by decide) (he : starEach [e] X.env = (false, eval e X.env) :: starEach [] X.env := by rfl) (hpl : (backTo pos (starEach [] X.env)).any (·.1) = false := by rfl) :
    FS X Φ W J (.Raise (some (.Call (.Name x p) [e] [] pos)) none pos2) (fRaise x fld fs) := by
  obtain ⟨_, ha⟩ := ha
  refine fs_of (ds_raiseG T iC tI F hr hb hg hm hc tk ha hdb he hpl) fun M ρ' O ⟨θ, ρ, st, c, h⟩ => ⟨θ, ρ, st, c, h.stB c fun θ1 a a' st1 O1 s1 ra m1 h1 => ?_⟩
  cases ra with
  | nil => exact h1.elim
  | cons r1 ra =>
    cases ra with
    | cons _ _ => exact h1.elim
    | nil => exact ⟨_, rfl, h1 θ1 ⟨x, some ([fld], [_])⟩ ρ' O1 (List.prefix_refl _) ⟨rfl, rfl, .cons r1 .nil⟩ (c.step s1 m1)⟩
abbrev ClF := (Str → Option Bool) × Nat × (Exn → fS)
def dropS (i : Nat) (r : RS) : RS := match r with
  | .nx ρ st => .nx (ρ.set i none) st
  | .rt d st => .rt d st
  | .bk ρ st => .bk (ρ.set i none) st
  | .ct ρ st => .ct (ρ.set i none) st
  | .ex _ _ _ => .bad
  | .bad => .bad
def fPick : List ClF → Exn → Rho → St → RS
  | [], x, ρ, st => .ex x ρ st
  | (cl, i, f) :: r, x, ρ, st => match cl x.cls with
    | none => .bad
    | some false => fPick r x ρ st
    | some true => if i < ρ.length then dropS i (f x (ρ.set i none) st) else .bad
def fTry (cs : List ClF) (b : fS) : fS := fun ρ st => match b ρ st with
  | .ex x ρ1 st1 => fPick cs x ρ1 st1
  | r => r
def dCl (q : ClF) : ClD := (fun x => q.1 x.cls, q.2.1, fun a x' M ρ' O => ∃ x, dS (some (q.2.1, a, x', x)) (q.2.2 x) M ρ' O)
theorem pick_run {M : MEnds OH} : ∀ {cs : List ClF} {x x' : Exn} {θ : Th} {ρ ρ' : Rho} {st : St} {O : OH}, RnX θ x x' → Ct none θ ρ ρ' st O → AftS none θ (fPick cs x ρ st) M → pick M x' ρ' O (cs.map dCl)
  | [], x, x', θ, ρ, ρ', st, O, rx, c, h => h θ x' ρ' O (List.prefix_refl _) rx c
  | (cl, i, f) :: r, x, x', θ, ρ, ρ', st, O, rx, c, h => by
    unfold fPick at h
    cases q : cl x.cls with
    | none => rw [q] at h; exact h.elim
    | some b =>
      rw [q] at h
      refine ⟨b, by show cl x'.cls = some b; rw [← rx.1]; exact q, fun e a => ?_, fun e => ?_⟩
      · subst e
        simp only at h
        by_cases hl : i < ρ.length
        · rw [if_pos hl] at h
          have hl' : i < ρ'.length := by rw [← c.env.1]; exact hl
          refine ⟨x, θ, ρ.set i none, st, ⟨c.env.drop i _, c.mt, List.getElem?_set_self hl', rx⟩, ?_⟩
          have dr : ∀ {θ1 : Th} {ρ1 ρ1' : Rho} {st1 : St} {O1 : OH}, Ct (some (i, a, x', x)) θ1 ρ1 ρ1' st1 O1 → Ct none θ1 (ρ1.set i none) (ρ1'.set i none) st1 O1 := fun c1 => ⟨c1.env.drop i none, c1.mt, trivial⟩
          show AftS _ θ (f x (ρ.set i none) st) _
          cases z : f x (ρ.set i none) st with
          | nx ρ1 st1 => rw [z] at h; exact fun θ1 ρ1' O1 s1 c1 => h θ1 _ O1 s1 (dr c1)
          | rt d st1 => rw [z] at h; exact h
          | bk ρ1 st1 => rw [z] at h; exact fun θ1 ρ1' O1 s1 c1 => h θ1 _ O1 s1 (dr c1)
          | ct ρ1 st1 => rw [z] at h; exact fun θ1 ρ1' O1 s1 c1 => h θ1 _ O1 s1 (dr c1)
          | ex _ _ _ => rw [z] at h; exact h.elim
          | bad => rw [z] at h; exact h.elim
        · rw [if_neg hl] at h
          exact h.elim
      · subst e
        exact pick_run rx c h
inductive FCl (X : Cx) (Φ : OH → Hp → Hp → Prop) : List ExceptHandler → List ClF → Prop
  | nil : FCl X Φ [] []
  | cons {x n : Str} {c : Value} {i : Nat} {cl : Str → Option Bool} {f : Exn → fS} {b₀ : Stmt} {suite : List Stmt} {np pos' : Pos} {hds : List ExceptHandler} {cs : List ClF}
      (hi : X.N[i]? = some n) (hln : X.env.kindOf n = some .local) (hc : Names X x c)
      (hcl : ∀ (y : Str) (b : Bool) (cls : Value), X.mg y = some cls → cl y = some b → PySem.W.exmOne X.K cls c = some b)
      (hsu : ∀ (a : Addr) (oe : Obj) (cls : Value) (d : Option Addr) (pn : List (Addr × Obj)) (x' x : Exn), Zc cls d oe → (∃ vs, oe.data = .fields vs) → FSs (X.suite a ((a, oe) :: pn)) (ExF X.K X.mg Φ cls d x') W0 (some (i, a, x', x)) (b₀ :: suite) (f x))
      (r : FCl X Φ hds cs) : FCl X Φ (.ExceptHandler (some (.Name x np)) (some n) (b₀ :: suite) pos' :: hds) ((cl, i, f) :: cs)
theorem FCl.dcl {hds : List ExceptHandler} {cs : List ClF} (h : FCl X Φ hds cs) : ∃ l, DCl X Φ hds l (cs.map dCl) := by
  induction h with
  | nil => exact ⟨[], .nil⟩
  | @cons x n c i cl f b₀ suite np pos' hds cs hi hln hc hcl hsu r ih =>
    obtain ⟨l, ih⟩ := ih
    refine ⟨_, DCl.cons (cl := fun x => cl x.cls) (c := c) hi hln hc (fun x b cls h1 h2 => hcl x.cls b cls h1 h2) (fun a oe cls d pn x' hz hf => ?_) ih⟩
    refine ⟨cS X.K X.mg (ExF X.K X.mg Φ cls d x') W0 (fun M ρ' O => ∃ x, dS (some (i, a, x', x)) (f x) M ρ' O), ⟨fun pins s σ H D I ⟨ρ, O, G, M, r, f0, ⟨x, hm⟩, E⟩ => ?_⟩, fun σ ρ O G H D M r f0 hm E => ⟨ρ, O, G, M, r, f0, hm, E⟩⟩
    obtain ⟨ts, d⟩ := hsu a oe cls d pn x' x hz hf
    exact d.pss.run pins s σ H D I (d.sem σ ρ O G H D M r f0 hm E)
theorem fs_try {body : List Stmt} {h₀ : ExceptHandler} {hds : List ExceptHandler} {cs : List ClF} {pos : Pos} {b : fS} (hs : X.stack = X.env :: X.outer) (hf : X.env.frame = some X.env.locals) (hN : X.N.Nodup) (tk : Takes X W)
    (hb : ∀ (W' : WX) (pn : List (Addr × Obj)) (xe : Value → Shared → Prop), Takes (X.tr pn xe) W' → PassesOwn (model X.prog X.w) X.A X.env xe → FSs (X.tr pn xe) Φ W' none body b)
    (hh : FCl X Φ (h₀ :: hds) cs) : FS X Φ W none (.Try body (h₀ :: hds) [] [] pos) (fTry cs b) := by
  obtain ⟨l, hh⟩ := hh.dcl
  refine fs_of (ds_tryN hs hf hN tk hb hh) fun M ρ' O ⟨θ, ρ, st, c, h⟩ => ⟨θ, ρ, st, c, ?_⟩
  have h2 : AftS none θ (match b ρ st with | .ex x ρ1 st1 => fPick cs x ρ1 st1 | r => r) M := h
  cases q : b ρ st with
  | nx ρ1 st1 => rw [q] at h2; exact h2
  | rt d st1 => rw [q] at h2; exact h2
  | bk ρ1 st1 => rw [q] at h2; exact h2
  | ct ρ1 st1 => rw [q] at h2; exact h2
  | ex x ρ1 st1 =>
    rw [q] at h2
    exact fun θ1 x' ρ1' O1 s1 rx c1 => pick_run rx c1 (AftS.sub h2 s1)
  | bad => rw [q] at h2; exact h2
def fXf (C f : Str) (x : Exn) : fE := fun _ st => if x.cls = C then match x.fs with
    | some (ns, ds) => optR (lookD f ns ds) st
    | none => .bad
  else .bad
theorem fe_xfld {a C : Addr} {i : Nat} {oe : Obj} {cls : Value} {d : Option Addr} {pn : List (Addr × Obj)} {x' x : Exn} {Cn f : Str} {e : Expr} {te : TE} {pos : Pos} (T : XcT X.K C f) (hC : X.mg Cn = some (.ref C)) (hz : Zc cls d oe) (hf : ∃ vs, oe.data = .fields vs)
    (h : DE (X.suite a ((a, oe) :: pn)) (ExF X.K X.mg Φ cls d x') W e te (mVar i)) (hb : attributeBase e f X.env (eval e X.env) = eval e X.env := by rfl) :
    FE (X.suite a ((a, oe) :: pn)) (ExF X.K X.mg Φ cls d x') W (some (i, a, x', x)) (.Attribute e f pos) (fXf Cn f x) :=
  fe_of (de_xfld T hC hz hf h hb) fun ρ' O P R ⟨θ, ρ, st, c, h⟩ => by
    refine ⟨.loc a, c.j.1, rfl, ?_⟩
    obtain ⟨j1, j2⟩ := c.j.2
    unfold fXf at h
    by_cases q : x.cls = Cn
    · rw [if_pos q] at h
      refine ⟨by rw [← j1]; exact q, ?_⟩
      revert h j2
      cases x.fs with
      | none => intro h j2; exact h.elim
      | some u =>
        cases x'.fs with
        | none => intro h j2; exact j2.elim
        | some v =>
          obtain ⟨ns, ds⟩ := u
          obtain ⟨ms, es⟩ := v
          intro h ⟨e1, r⟩
          subst e1
          simp only at h
          cases z : lookD f ns ds with
          | none => rw [z] at h; exact h.elim
          | some y =>
            rw [z] at h
            obtain ⟨y', h3, h4⟩ := lookD_rn r z
            exact ⟨ns, es, y', rfl, h3, Aft.ok h h4 c.mt⟩
    · rw [if_neg q] at h
      exact h.elim
end
end FL

set_option Elab.async false
set_option linter.all false
set_option maxRecDepth 100000
set_option maxHeartbeats 1000000
namespace FL
open PySem PySem.Spec PyProof.Rows L2 DL

/-! ### operators -/
def oAdd : D → D → Option D
  | .int i, .int j => some (.int (i + j))
  | .str x, .str y => if x.length + y.length ≤ sizeLine then some (.str (x ++ y)) else none
  | .lst x, .lst y => if x.length + y.length ≤ sizeLine then some (.lst (x ++ y)) else none
  | .tup x, .tup y => if x.length + y.length ≤ sizeLine then some (.tup (x ++ y)) else none
  | _, _ => none
theorem some_if {c : Prop} [Decidable c] {x d : D} (h : (if c then some x else none) = some d) : c ∧ x = d := by
  by_cases q : c
  · rw [if_pos q] at h
    exact ⟨q, Option.some.inj h⟩
  · rw [if_neg q] at h
    cases h
theorem ow_add : OW oAdd wAdd := ⟨fun θ a b a' b' d P ra rb h k => by
  cases ra <;> cases rb <;> try (cases h; done)
  · cases h
    exact k _ (.int _)
  · obtain ⟨q, e⟩ := some_if h
    subst e
    exact ⟨q, k _ (.str _)⟩
  · rename_i x x' rx y y' ry
    obtain ⟨q, e⟩ := some_if h
    subst e
    exact ⟨by rw [← rx.len, ← ry.len]; exact q, k _ (.lst (rx.app ry))⟩
  · rename_i x x' rx y y' ry
    obtain ⟨q, e⟩ := some_if h
    subst e
    exact ⟨by rw [← rx.len, ← ry.len]; exact q, k _ (.tup (rx.app ry))⟩⟩
def oI (c : Int → Int → Bool) (g : Int → Int → D) : D → D → Option D
  | .int i, .int j => if c i j = true then some (g i j) else none
  | _, _ => none
theorem ow_i {c : Int → Int → Bool} {C : Int → Int → Prop} {g : Int → Int → D} (hc : ∀ i j, c i j = true → C i j) (hg : ∀ i j, noLoc (g i j) = true) : OW (oI c g) (wI C g) := ⟨fun θ a b a' b' d P ra rb h k => by
  cases ra <;> cases rb <;> try (cases h; done)
  obtain ⟨q, e⟩ := some_if h
  subst e
  exact ⟨hc _ _ q, k _ (rn_self (hg _ _))⟩⟩
def oI0 (g : Int → Int → D) : D → D → Option D
  | .int i, .int j => some (g i j)
  | _, _ => none
theorem ow_i0 {g : Int → Int → D} (hg : ∀ i j, noLoc (g i j) = true) : OW (oI0 g) (wI0 g) := ⟨fun θ a b a' b' d P ra rb h k => by
  cases ra <;> cases rb <;> try (cases h; done)
  cases h
  exact k _ (rn_self (hg _ _))⟩
def oSub := oI0 fun i j => .int (i - j)
theorem ow_sub : OW oSub wSub := ow_i0 fun _ _ => rfl
def oMod := oI (fun _ j => decide (0 < j)) fun i j => .int (i % j)
theorem ow_mod : OW oMod wMod := ow_i (fun _ _ h => of_decide_eq_true h) fun _ _ => rfl
def oDiv := oI (fun _ j => decide (0 < j) && decide (j.natAbs.log2 < 9000)) fun i j => .int (i / j)
theorem ow_div : OW oDiv wDiv := ow_i (fun _ _ h => by
  simp only [Bool.and_eq_true, decide_eq_true_eq] at h
  exact h) fun _ _ => rfl
def oPow := oI (fun i j => decide (0 ≤ j) && decide (j ≤ 1000000) && decide (i.natAbs < 2 ^ 64)) fun i j => .int (i ^ j.toNat)
theorem ow_pow : OW oPow wPow := ow_i (fun _ _ h => by
  simp only [Bool.and_eq_true, decide_eq_true_eq] at h
  exact ⟨h.1.1, h.1.2, h.2⟩) fun _ _ => rfl
def oLt := oI0 fun i j => .bl (decide (i < j))
def oLe := oI0 fun i j => .bl (decide (i ≤ j))
def oGt := oI0 fun i j => .bl (decide (j < i))
def oGe := oI0 fun i j => .bl (decide (j ≤ i))
theorem ow_lt : OW oLt wLt := ow_i0 fun _ _ => rfl
theorem ow_le : OW oLe wLe := ow_i0 fun _ _ => rfl
theorem ow_gt : OW oGt wGt := ow_i0 fun _ _ => rfl
theorem ow_ge : OW oGe wGe := ow_i0 fun _ _ => rfl
def mulOk (i j : Int) : Bool := (decide (-(2 ^ 64) < i) && decide (i < 2 ^ 64)) || (decide (-(2 ^ 64) < j) && decide (j < 2 ^ 64)) || decide (i.natAbs.log2 + j.natAbs.log2 < 1000000)
def oMul : D → D → Option D
  | .int i, .int j => if mulOk i j = true then some (.int (i * j)) else none
  | .lst x, .int k => if -(2 ^ 63) ≤ k ∧ k < 2 ^ 63 ∧ x.length * k.toNat ≤ sizeLine then some (.lst (List.replicate k.toNat x).flatten) else none
  | .tup x, .int k => if x.length ≠ 0 ∧ 2 ≤ k ∧ k ≤ 1000 ∧ x.length ≤ 1000 then some (.tup (List.replicate k.toNat x).flatten) else none
  | _, _ => none
theorem ow_mul : OW oMul wMul := ⟨fun θ a b a' b' d P ra rb h k => by
  cases ra <;> cases rb <;> try (cases h; done)
  · rename_i i j
    obtain ⟨q, e⟩ := some_if h
    subst e
    refine ⟨?_, k _ (.int _)⟩
    simp only [mulOk, Bool.or_eq_true, Bool.and_eq_true, decide_eq_true_eq] at q
    rcases q with (q | q) | q
    · exact .inl (.inl q)
    · exact .inl (.inr q)
    · exact .inr q
  · rename_i x x' rx j
    obtain ⟨q, e⟩ := some_if h
    subst e
    exact ⟨⟨q.1, q.2.1, by rw [← rx.len]; exact q.2.2⟩, k _ (.lst (rx.flat _))⟩
  · rename_i x x' rx j
    obtain ⟨q, e⟩ := some_if h
    subst e
    refine ⟨⟨fun e => q.1 ?_, q.2.1, q.2.2.1, by rw [← rx.len]; exact q.2.2.2⟩, k _ (.tup (rx.flat _))⟩
    rw [rx.len, e]
    rfl⟩
/-! == -/
mutual
theorem toPy_noLoc : ∀ {d : D} {p : PyData}, toPy d = some p → noLoc d = true
  | .non, _, _ => rfl
  | .bl _, _, _ => rfl
  | .int _, _, _ => rfl
  | .str _, _, _ => rfl
  | .lst ds, p, h => by
    simp only [toPy, Option.map_eq_some_iff] at h
    obtain ⟨ps, h, _⟩ := h
    simpa [noLoc] using toPyL_noLoc h
  | .tup ds, p, h => by
    simp only [toPy, Option.map_eq_some_iff] at h
    obtain ⟨ps, h, _⟩ := h
    simpa [noLoc] using toPyL_noLoc h
  | .dic _ _, _, h => by simp [toPy] at h
  | .ins _ _ _, _, h => by simp [toPy] at h
  | .frz _, _, h => by simp [toPy] at h
  | .loc _, _, h => by simp [toPy] at h
  | .cls _, _, h => by simp [toPy] at h
  | .ty _, _, h => by simp [toPy] at h
theorem toPyL_noLoc : ∀ {ds : List D} {ps : List PyData}, toPyL ds = some ps → noLocL ds = true
  | [], _, _ => rfl
  | d :: ds, ps, h => by
    simp only [toPyL] at h
    cases e1 : toPy d with
    | none => simp [e1] at h
    | some p =>
      cases e2 : toPyL ds with
      | none => simp [e1, e2] at h
      | some qs => simp [noLocL, toPy_noLoc e1, toPyL_noLoc e2]
end
mutual
theorem toPd_noLoc : ∀ {d : D} {p : PyData}, toPd d = some p → noLoc d = true
  | .non, _, _ => rfl
  | .bl _, _, _ => rfl
  | .int _, _, _ => rfl
  | .str _, _, _ => rfl
  | .lst ds, p, h => by
    simp only [toPd, Option.map_eq_some_iff] at h
    obtain ⟨ps, h, _⟩ := h
    simpa [noLoc] using toPdL_noLoc h
  | .tup ds, p, h => by
    simp only [toPd, Option.map_eq_some_iff] at h
    obtain ⟨ps, h, _⟩ := h
    simpa [noLoc] using toPdL_noLoc h
  | .dic [] [], _, _ => rfl
  | .dic (_ :: _) _, _, h => by simp [toPd] at h
  | .dic [] (_ :: _), _, h => by simp [toPd] at h
  | .ins _ _ _, _, h => by simp [toPd] at h
  | .frz _, _, h => by simp [toPd] at h
  | .loc _, _, h => by simp [toPd] at h
  | .cls _, _, h => by simp [toPd] at h
  | .ty _, _, h => by simp [toPd] at h
theorem toPdL_noLoc : ∀ {ds : List D} {ps : List PyData}, toPdL ds = some ps → noLocL ds = true
  | [], _, _ => rfl
  | d :: ds, ps, h => by
    simp only [toPdL] at h
    cases e1 : toPd d with
    | none => simp [e1] at h
    | some p =>
      cases e2 : toPdL ds with
      | none => simp [e1, e2] at h
      | some qs => simp [noLocL, toPd_noLoc e1, toPdL_noLoc e2]
end
/-- == of lists of unlike lengths, or empty ones, whatever they hold -/
def eqLen (neg : Bool) : D → D → Option D
  | .lst x, .lst y => if x.length ≠ y.length ∨ x.length = 0 then some (.bl (neg != decide (x.length = y.length))) else none
  | _, _ => none
def oEqB (neg : Bool) (a b : D) : Option D := match toPy a, toPy b with
  | some p, some q => if SeqAt.shaped p = true ∧ SeqAt.shaped q = true then some (.bl (neg != PyData.eqv p q)) else none
  | _, _ => eqLen neg a b
def oEq := oEqB false
def oNe := oEqB true
theorem eqLen_run {neg : Bool} {θ : Th} {a b a' b' d : D} (ra : Rn θ a a') (rb : Rn θ b b') (h : eqLen neg a b = some d) : ∃ x y, a' = .lst x ∧ b' = .lst y ∧ (x.length ≠ y.length ∨ x = []) ∧ d = .bl (neg != decide (x.length = y.length)) := by
  cases ra <;> cases rb <;> try (cases h; done)
  rename_i x x' rx y y' ry
  obtain ⟨q, e⟩ := some_if h
  subst e
  rw [rx.len, ry.len] at q
  refine ⟨x', y', rfl, rfl, ?_, by rw [rx.len, ry.len]⟩
  rcases q with q | q
  · exact .inl q
  · exact .inr (List.length_eq_zero_iff.mp q)
theorem oeqb_run {neg : Bool} {θ : Th} {a b a' b' d : D} (ra : Rn θ a a') (rb : Rn θ b b') (h : oEqB neg a b = some d) :
    (∃ p q, toPy a' = some p ∧ toPy b' = some q ∧ SeqAt.shaped p = true ∧ SeqAt.shaped q = true ∧ d = .bl (neg != PyData.eqv p q)) ∨ ∃ x y, a' = .lst x ∧ b' = .lst y ∧ (x.length ≠ y.length ∨ x = []) ∧ d = .bl (neg != decide (x.length = y.length)) := by
  unfold oEqB at h
  cases e1 : toPy a with
  | none => rw [e1] at h; exact .inr (eqLen_run ra rb h)
  | some p =>
    cases e2 : toPy b with
    | none => rw [e1, e2] at h; exact .inr (eqLen_run ra rb h)
    | some q =>
      rw [e1, e2] at h
      obtain ⟨q1, q2⟩ := some_if h
      rw [rn_eq ra (toPy_noLoc e1), rn_eq rb (toPy_noLoc e2)]
      exact .inl ⟨p, q, e1, e2, q1.1, q1.2, q2.symm⟩
theorem ow_eq : OW oEq wEq' := ⟨fun θ a b a' b' d P ra rb h k => by
  rcases oeqb_run ra rb h with ⟨p, q, h1, h2, h3, h4, e⟩ | ⟨x, y, h1, h2, h3, e⟩
  · subst e
    refine .inl ⟨p, q, h1, h2, h3, h4, ?_⟩
    have := k _ (.bl _)
    rwa [Bool.false_bne] at this
  · subst e
    refine .inr ⟨x, y, h1, h2, h3, ?_⟩
    have := k _ (.bl _)
    rwa [Bool.false_bne] at this⟩
theorem ow_ne : OW oNe wNe' := ⟨fun θ a b a' b' d P ra rb h k => by
  rcases oeqb_run ra rb h with ⟨p, q, h1, h2, h3, h4, e⟩ | ⟨x, y, h1, h2, h3, e⟩
  · subst e
    refine .inl ⟨p, q, h1, h2, h3, h4, ?_⟩
    have := k _ (.bl _)
    rwa [Bool.true_bne] at this
  · subst e
    refine .inr ⟨x, y, h1, h2, h3, ?_⟩
    have := k _ (.bl _)
    rwa [Bool.true_bne] at this⟩
theorem isNon_rn {θ : Th} {a b : D} (r : Rn θ a b) : isNon b = isNon a := by cases r <;> rfl
def oIsN : D → D → Option D
  | a, .non => some (.bl (isNon a))
  | _, _ => none
def oNotN : D → D → Option D
  | a, .non => some (.bl (!isNon a))
  | _, _ => none
theorem ow_isN : OW oIsN wIsN := ⟨fun θ a b a' b' d P ra rb h k => by
  cases rb <;> try (cases h; done)
  cases h
  exact ⟨rfl, by rw [isNon_rn ra]; exact k _ (.bl _)⟩⟩
theorem ow_notN : OW oNotN wNotN := ⟨fun θ a b a' b' d P ra rb h k => by
  cases rb <;> try (cases h; done)
  cases h
  exact ⟨rfl, by rw [isNon_rn ra]; exact k _ (.bl _)⟩⟩
theorem toV_rn {θ : Th} {a b : D} {v : V} (r : Rn θ a b) (h : toV a = some v) : toV b = some v := by
  cases r <;> first | exact h | cases h
theorem toVL_rn {θ : Th} : ∀ {a b : List D} {v : List V}, RnL θ a b → toVL a = some v → toVL b = some v
  | _, _, _, .nil, h => h
  | _, _, _, .cons (d := d) (ds := ds) r rl, h => by
    simp only [toVL] at h ⊢
    cases e1 : toV d with
    | none => rw [e1] at h; cases h
    | some v =>
      cases e2 : toVL ds with
      | none => rw [e1, e2] at h; cases h
      | some vs =>
        rw [e1, e2] at h
        rw [toV_rn r e1, toVL_rn rl e2]
        exact h
def seqOf : D → Option (List D)
  | .lst x => some x
  | .tup x => some x
  | .frz x => some x
  | _ => none
def oInN (neg : Bool) (a b : D) : Option D := match toV a, seqOf b with
  | some v, some xs => match toVL xs with
    | some vs => some (.bl (if neg then !inV v vs else inV v vs))
    | none => none
  | _, _ => none
def oIn := oInN false
def oNotIn := oInN true
theorem ow_inN {neg : Bool} : OW (oInN neg) (wInN neg) := ⟨fun θ a b a' b' d P ra rb h k => by
  unfold oInN at h
  cases e1 : toV a with
  | none => rw [e1] at h; cases h
  | some v =>
    cases e2 : seqOf b with
    | none => rw [e1, e2] at h; cases h
    | some xs =>
      rw [e1, e2] at h
      simp only at h
      cases e3 : toVL xs with
      | none => rw [e3] at h; cases h
      | some vs =>
        rw [e3] at h
        cases h
        have kk := k _ (.bl _)
        cases rb <;> try (cases e2; done)
        · rename_i r
          cases e2
          exact ⟨v, vs, _, toV_rn ra e1, .inl rfl, toVL_rn r e3, kk⟩
        · rename_i r
          cases e2
          exact ⟨v, vs, _, toV_rn ra e1, .inr (.inl rfl), toVL_rn r e3, kk⟩
        · rename_i r
          cases e2
          exact ⟨v, vs, _, toV_rn ra e1, .inr (.inr rfl), toVL_rn r e3, kk⟩⟩
theorem ow_in : OW oIn wIn := ow_inN
theorem ow_notIn : OW oNotIn wNotIn := ow_inN
/-! places -/
def oIx : D → D → Option D
  | .lst x, .int i => atI x i
  | .tup x, .int i => atI x i
  | .frz x, .int i => atI x i
  | _, _ => none
theorem at_rn {θ : Th} {a b : List D} {i : Int} {d : D} (r : RnL θ a b) (h : atI a i = some d) : ∃ e, atI b i = some e ∧ Rn θ d e := by
  unfold atI at h ⊢
  rw [← r.len]
  cases e : ixN a.length i with
  | none => rw [e] at h; cases h
  | some j =>
    rw [e] at h
    obtain ⟨v, p, q⟩ := r.at (i := j) h
    exact ⟨v, p, q⟩
theorem ow_ix : OW oIx wIx := ⟨fun θ a b a' b' d P ra rb h k => by
  cases ra <;> cases rb <;> try (cases h; done)
  all_goals
    rename_i r i
    obtain ⟨e, h1, h2⟩ := at_rn r h
    exact ⟨i, rfl, e, h1, k e h2⟩⟩
/-! ### built-ins -/
def lLen : List D → Option D
  | [.lst x] => some (.int x.length)
  | [.tup x] => some (.int x.length)
  | [.frz x] => some (.int x.length)
  | [.str x] => if x.length ≤ sizeLine then some (.int x.length) else none
  | _ => none
theorem rnl1 {θ : Th} {a : D} {b : List D} (r : RnL θ [a] b) : ∃ a', b = [a'] ∧ Rn θ a a' := by
  cases r with
  | cons h t =>
    cases t
    exact ⟨_, rfl, h⟩
theorem rnl2 {θ : Th} {a c : D} {b : List D} (r : RnL θ [a, c] b) : ∃ a' c', b = [a', c'] ∧ Rn θ a a' ∧ Rn θ c c' := by
  cases r with
  | cons h t =>
    obtain ⟨c', rfl, h2⟩ := rnl1 t
    exact ⟨_, _, rfl, h, h2⟩
theorem lw_len : LW lLen wLen := ⟨fun θ ds ds' d P r h k => by
  unfold lLen at h
  split at h
  · obtain ⟨a', rfl, q⟩ := rnl1 r
    cases q with | lst q => cases h; exact ⟨_, rfl, by simp only [← q.len]; exact k _ (.int _)⟩
  · obtain ⟨a', rfl, q⟩ := rnl1 r
    cases q with | tup q => cases h; exact ⟨_, rfl, by simp only [← q.len]; exact k _ (.int _)⟩
  · obtain ⟨a', rfl, q⟩ := rnl1 r
    cases q with | frz q => cases h; exact ⟨_, rfl, by simp only [← q.len]; exact k _ (.int _)⟩
  · obtain ⟨a', rfl, q⟩ := rnl1 r
    cases q
    obtain ⟨z, e⟩ := some_if h
    subst e
    exact ⟨_, rfl, z, k _ (.int _)⟩
  · cases h⟩
def lTuple : List D → Option D
  | [.lst x] => some (.tup x)
  | [.tup x] => some (.tup x)
  | _ => none
theorem lw_tuple : LW lTuple wTuple := ⟨fun θ ds ds' d P r h k => by
  unfold lTuple at h
  split at h
  · obtain ⟨a', rfl, q⟩ := rnl1 r
    cases q with | lst q => cases h; exact .inl ⟨_, rfl, k _ (.tup q)⟩
  · obtain ⟨a', rfl, q⟩ := rnl1 r
    cases q with | tup q => cases h; exact .inr ⟨_, rfl, k _ (.tup q)⟩
  · cases h⟩
def lList : List D → Option D
  | [.lst x] => some (.lst x)
  | [.tup x] => some (.lst x)
  | _ => none
theorem lw_list : LW lList wList := ⟨fun θ ds ds' d P r h k => by
  unfold lList at h
  split at h
  · obtain ⟨a', rfl, q⟩ := rnl1 r
    cases q with | lst q => cases h; exact .inl ⟨_, rfl, k _ (.lst q)⟩
  · obtain ⟨a', rfl, q⟩ := rnl1 r
    cases q with | tup q => cases h; exact .inr ⟨_, rfl, k _ (.lst q)⟩
  · cases h⟩
def lAbs : List D → Option D
  | [.int i] => some (.int (if i < 0 then -i else i))
  | _ => none
theorem lw_abs : LW lAbs wAbs := ⟨fun θ ds ds' d P r h k => by
  unfold lAbs at h
  split at h
  · obtain ⟨a', rfl, q⟩ := rnl1 r
    cases q
    cases h
    exact ⟨_, rfl, k _ (.int _)⟩
  · cases h⟩
def lInt : List D → Option D
  | [.int i] => some (.int i)
  | [.bl b] => some (.int (if b then 1 else 0))
  | _ => none
theorem lw_int : LW lInt wInt := ⟨fun θ ds ds' d P r h k => by
  unfold lInt at h
  split at h
  · obtain ⟨a', rfl, q⟩ := rnl1 r
    cases q
    cases h
    exact .inl ⟨_, rfl, k _ (.int _)⟩
  · obtain ⟨a', rfl, q⟩ := rnl1 r
    cases q
    cases h
    exact .inr ⟨_, rfl, k _ (.int _)⟩
  · cases h⟩
def lMax : List D → Option D
  | [.int i, .int j] => some (.int (if j > i then j else i))
  | _ => none
def lMin : List D → Option D
  | [.int i, .int j] => some (.int (if j < i then j else i))
  | _ => none
theorem lw_max : LW lMax wMax := ⟨fun θ ds ds' d P r h k => by
  unfold lMax at h
  split at h
  · obtain ⟨a', c', rfl, q1, q2⟩ := rnl2 r
    cases q1
    cases q2
    cases h
    exact ⟨_, _, rfl, k _ (.int _)⟩
  · cases h⟩
theorem lw_min : LW lMin wMin := ⟨fun θ ds ds' d P r h k => by
  unfold lMin at h
  split at h
  · obtain ⟨a', c', rfl, q1, q2⟩ := rnl2 r
    cases q1
    cases q2
    cases h
    exact ⟨_, _, rfl, k _ (.int _)⟩
  · cases h⟩
def blsOf : List D → Option (List Bool)
  | [] => some []
  | .bl b :: ds => (blsOf ds).map (b :: ·)
  | _ => none
theorem bls_eq : ∀ {ds : List D} {bs : List Bool}, blsOf ds = some bs → ds = bs.map D.bl
  | [], _, h => by cases h; rfl
  | d :: ds, bs, h => by
    cases d <;> simp only [blsOf] at h <;> try (cases h; done)
    simp only [Option.map_eq_some_iff] at h
    obtain ⟨cs, h1, h2⟩ := h
    subst h2
    rw [bls_eq h1]
    rfl
def intsOf : List D → Option (List Int)
  | [] => some []
  | .int b :: ds => (intsOf ds).map (b :: ·)
  | _ => none
theorem ints_eq : ∀ {ds : List D} {bs : List Int}, intsOf ds = some bs → ds = bs.map D.int
  | [], _, h => by cases h; rfl
  | d :: ds, bs, h => by
    cases d <;> simp only [intsOf] at h <;> try (cases h; done)
    simp only [Option.map_eq_some_iff] at h
    obtain ⟨cs, h1, h2⟩ := h
    subst h2
    rw [ints_eq h1]
    rfl
theorem noLoc_bls (bs : List Bool) : noLocL (bs.map D.bl) = true := by induction bs with | nil => rfl | cons b bs ih => simpa [noLocL, noLoc] using ih
theorem noLoc_ints (bs : List Int) : noLocL (bs.map D.int) = true := by induction bs with | nil => rfl | cons b bs ih => simpa [noLocL, noLoc] using ih
def lAll : List D → Option D
  | [.lst x] => (blsOf x).map fun bs => .bl (bs.all id)
  | _ => none
def lAny : List D → Option D
  | [.lst x] => (blsOf x).map fun bs => .bl (bs.any id)
  | _ => none
def lSum : List D → Option D
  | [.lst x] => (intsOf x).map fun bs => .int bs.sum
  | [.frz x] => (intsOf x).map fun bs => .int bs.sum
  | _ => none
theorem lw_all : LW lAll wAll := ⟨fun θ ds ds' d P r h k => by
  unfold lAll at h
  split at h
  · obtain ⟨a', rfl, q⟩ := rnl1 r
    cases q with
    | lst q =>
      simp only [Option.map_eq_some_iff] at h
      obtain ⟨bs, h1, h2⟩ := h
      subst h2
      have e := bls_eq h1
      subst e
      rw [rnl_eq q (noLoc_bls bs)]
      exact ⟨bs, rfl, k _ (.bl _)⟩
  · cases h⟩
theorem lw_any : LW lAny wAny := ⟨fun θ ds ds' d P r h k => by
  unfold lAny at h
  split at h
  · obtain ⟨a', rfl, q⟩ := rnl1 r
    cases q with
    | lst q =>
      simp only [Option.map_eq_some_iff] at h
      obtain ⟨bs, h1, h2⟩ := h
      subst h2
      have e := bls_eq h1
      subst e
      rw [rnl_eq q (noLoc_bls bs)]
      exact ⟨bs, rfl, k _ (.bl _)⟩
  · cases h⟩
theorem lw_sum : LW lSum wSum := ⟨fun θ ds ds' d P r h k => by
  unfold lSum at h
  split at h
  · obtain ⟨a', rfl, q⟩ := rnl1 r
    cases q with
    | lst q =>
      simp only [Option.map_eq_some_iff] at h
      obtain ⟨bs, h1, h2⟩ := h
      subst h2
      have e := ints_eq h1
      subst e
      rw [rnl_eq q (noLoc_ints bs)]
      exact ⟨bs, .inl rfl, k _ (.int _)⟩
  · obtain ⟨a', rfl, q⟩ := rnl1 r
    cases q with
    | frz q =>
      simp only [Option.map_eq_some_iff] at h
      obtain ⟨bs, h1, h2⟩ := h
      subst h2
      have e := ints_eq h1
      subst e
      rw [rnl_eq q (noLoc_ints bs)]
      exact ⟨bs, .inr rfl, k _ (.int _)⟩
  · cases h⟩
/-- a datum's repr, where it has one -/
def shown? (d : D) : Option Str := match toPd d with
  | some p => if p.showable = true ∧ p.depth ≤ 60 ∧ p.shown.length ≤ sizeLine then some p.shown else none
  | none => none
theorem shown_run {d : D} {y : Str} (h : shown? d = some y) : ∃ p, toPd d = some p ∧ p.showable = true ∧ p.depth ≤ 60 ∧ p.shown.length ≤ sizeLine ∧ y = p.shown := by
  unfold shown? at h
  cases e : toPd d with
  | none => rw [e] at h; cases h
  | some p =>
    rw [e] at h
    simp only at h
    split at h
    · rename_i q
      cases h
      exact ⟨p, rfl, q.1, q.2.1, q.2.2, rfl⟩
    · cases h
def lRepr : List D → Option D
  | [d] => (shown? d).map .str
  | _ => none
theorem lw_repr : LW lRepr wRepr := ⟨fun θ ds ds' d P r h k => by
  unfold lRepr at h
  split at h
  · obtain ⟨a', rfl, q⟩ := rnl1 r
    simp only [Option.map_eq_some_iff] at h
    obtain ⟨y, h1, h2⟩ := h
    subst h2
    obtain ⟨p, e, h3, h4, h5, h6⟩ := shown_run h1
    rw [rn_eq q (toPd_noLoc e)]
    subst h6
    exact ⟨_, p, rfl, e, h3, h4, h5, k _ (.str _)⟩
  · cases h⟩
inductive BT where
  | int | bool | list | tuple | str | dict
def BT.nm : BT → String
  | .int => "int"
  | .bool => "bool"
  | .list => "list"
  | .tuple => "tuple"
  | .str => "str"
  | .dict => "dict"
def isT : D → BT → Option Bool
  | .non, _ => some false
  | .bl _, .int => some true
  | .bl _, .bool => some true
  | .bl _, _ => some false
  | .int _, .int => some true
  | .int _, _ => some false
  | .str _, .str => some true
  | .str _, _ => some false
  | .lst _, .list => some true
  | .lst _, _ => some false
  | .frz _, .list => some true
  | .frz _, _ => some false
  | .tup _, .tuple => some true
  | .tup _, _ => some false
  | .dic _ _, .dict => some true
  | .dic _ _, _ => some false
  | _, _ => none
theorem isT_kit {d : D} {t : BT} {b : Bool} (h : isT d t = some b) : ∃ n, tyD d = some n ∧ kitB n t.nm = some b := by
  cases d <;> cases t <;> simp only [isT] at h <;> first | (cases h; exact ⟨_, rfl, by decide +kernel⟩) | cases h
def isTs (d : D) : List BT → Option Bool
  | [] => some false
  | t :: ts => match isT d t with
    | some true => some true
    | some false => isTs d ts
    | none => none
theorem isTs_kit {d : D} {n : String} (hn : tyD d = some n) : ∀ {ts : List BT} {b : Bool}, isTs d ts = some b → kitL n (ts.map BT.nm) = some b
  | [], b, h => by cases h; rfl
  | t :: ts, b, h => by
    unfold isTs at h
    cases e : isT d t with
    | none => rw [e] at h; cases h
    | some c =>
      rw [e] at h
      obtain ⟨m, h1, h2⟩ := isT_kit e
      rw [hn] at h1
      cases h1
      show kitL n (t.nm :: ts.map BT.nm) = some b
      unfold kitL
      rw [h2]
      cases c with
      | true => exact h
      | false => exact isTs_kit hn h
theorem tyD_rn {θ : Th} {a b : D} (r : Rn θ a b) : tyD b = tyD a := by cases r <;> rfl
theorem isT_ty {d : D} {t : BT} {b : Bool} (h : isT d t = some b) : ∃ n, tyD d = some n := by
  obtain ⟨n, h, _⟩ := isT_kit h
  exact ⟨n, h⟩
def fIsi (ts : List BT) (m : fE) : fE := fun ρ st => (m ρ st).bind fun d st1 => if (tyD d).isSome = true then optR ((isTs d ts).map .bl) st1 else .bad
theorem fisi_run {ts : List BT} {l : List String} (hl : l = ts.map BT.nm) {J : Jv} {f : fE} {ρ' : Rho} {O : OH} {P : D → OH → Prop} {R : Exn → OH → Prop} (h : dE J (fIsi ts f) ρ' O P R) : mIsi l (dE J f) ρ' O P R := by
  subst hl
  obtain ⟨θ, ρ, st, c, h⟩ := h
  refine ⟨θ, ρ, st, c, h.bind fun θ1 a a' st1 O1 s1 ra m1 h1 => ?_⟩
  by_cases q : (tyD a).isSome = true
  · rw [if_pos q] at h1
    cases e : tyD a with
    | none => rw [e] at q; cases q
    | some n =>
      cases e2 : isTs a ts with
      | none => rw [e2] at h1; exact h1.elim
      | some b =>
        rw [e2] at h1
        exact ⟨n, b, (tyD_rn ra).trans e, isTs_kit e e2, Aft.ok h1 (.bl b) m1⟩
  · rw [if_neg q] at h1
    exact h1.elim
section
variable {X : Cx} {Φ : OH → Hp → Hp → Prop} {W : WX} [FΦ : OFrm X.K X.mg Φ] {J : Jv}
theorem fe_isiT {ts : List BT} {es : List Expr} {tt : TA} {e : Expr} {f : fE} {p p2 pos : Pos} {k : Nat} (hg : Gl X "isinstance") (hm : X.mg "isinstance" = none) (h : FE X Φ W J e f) (ht : PA X es tt) (hl : ∀ (σ : Sig) (H : Hp) (Q : List V → Hp → Prop), Q ((ts.map BT.nm).map V.ty) H → tt σ H Q)
    (hz : (ts.map BT.nm).length ≤ sizeLine) (h1 : starEach [e, .Tuple es k p2] X.env = (false, eval e X.env) :: starEach [.Tuple es k p2] X.env := by rfl) (h2 : starEach [.Tuple es k p2] X.env = (false, eval (.Tuple es k p2) X.env) :: starEach [] X.env := by rfl) (hpl : (backTo pos (starEach [.Tuple es k p2] X.env)).any (·.1) = false := by rfl) :
    FE X Φ W J (.Call (.Name "isinstance" p) [e, .Tuple es k p2] [] pos) (fIsi ts f) := by
  obtain ⟨_, h⟩ := h
  exact fe_of (de_isiT hg hm h ht hl hz h1 h2 hpl) fun _ _ _ _ h => fisi_run rfl h
theorem fe_isi {t : BT} {T : String} {e : Expr} {f : fE} {p p2 pos : Pos} {x : Str} (hT' : T = t.nm) (hg : Gl X "isinstance") (hm : X.mg "isinstance" = none) (h : FE X Φ W J e f) (hT : PE X (.Name x p2) (tC (.ty T)))
    (h1 : starEach [e, .Name x p2] X.env = (false, eval e X.env) :: starEach [.Name x p2] X.env := by rfl) (h2 : starEach [.Name x p2] X.env = (false, eval (.Name x p2) X.env) :: starEach [] X.env := by rfl) (hpl : (backTo pos (starEach [.Name x p2] X.env)).any (·.1) = false := by rfl) :
    FE X Φ W J (.Call (.Name "isinstance" p) [e, .Name x p2] [] pos) (fIsi [t] f) := by
  obtain ⟨_, h⟩ := h
  exact fe_of (de_isi hg hm h hT h1 h2 hpl) fun _ _ _ _ h => fisi_run (by rw [hT']; rfl) h
/-- isinstance(x, C): C's own instances, the classes under it; a built-in type's value is none -/
def isC (C : List (Str × Bool)) : D → Option Bool
  | .ins n _ _ => C.lookup n
  | d => if (tyD d).isSome = true then some false else none
theorem isC_rn {C : List (Str × Bool)} {θ : Th} {a b : D} (r : Rn θ a b) : isC C b = isC C a := by cases r <;> rfl
def fIsC (C : List (Str × Bool)) (m : fE) : fE := fun ρ st => (m ρ st).bind fun d st1 => optR ((isC C d).map .bl) st1
theorem fe_isiC {c : Addr} {C : List (Str × Bool)} {e : Expr} {f : fE} {p p2 pos : Pos} {x : Str} (T : IsiC X.K X.mg c (isC C)) (hg : Gl X "isinstance") (hm : X.mg "isinstance" = none) (hgx : Gl X x) (hx : X.mg x = some (.ref c)) (h : FE X Φ W J e f) (hd : (x == ("__debug__" : Str)) = false := by decide)
    (h1 : starEach [e, .Name x p2] X.env = (false, eval e X.env) :: starEach [.Name x p2] X.env := by rfl) (h2 : starEach [.Name x p2] X.env = (false, eval (.Name x p2) X.env) :: starEach [] X.env := by rfl) (hpl : (backTo pos (starEach [.Name x p2] X.env)).any (·.1) = false := by rfl) :
    FE X Φ W J (.Call (.Name "isinstance" p) [e, .Name x p2] [] pos) (fIsC C f) := by
  obtain ⟨_, h⟩ := h
  refine fe_of (de_isiC T hg hm hgx hx h hd h1 h2 hpl) fun ρ' O P R ⟨θ, ρ, st, c, h⟩ => ⟨θ, ρ, st, c, h.bind fun θ1 a a' st1 O1 s1 ra m1 h1 => ?_⟩
  cases e : isC C a with
  | none => rw [e] at h1; exact h1.elim
  | some b =>
    rw [e] at h1
    exact ⟨b, (isC_rn ra).trans e, Aft.ok h1 (.bl b) m1⟩
/-! cuts -/
abbrev fO := Rho → St → Res (Option Int)
def relO : Th → Option Int → Option Int → Prop := fun _ a b => a = b
def dO (J : Jv) (f : fO) : MO OH := fun ρ' O P R => ∃ θ ρ st, Ct J θ ρ ρ' st O ∧ Aft relO θ (f ρ st) P R
def FO (X : Cx) (Φ : OH → Hp → Hp → Prop) (W : WX) (J : Jv) (e : Option Expr) (f : fO) : Prop := ∃ t, DO1 X Φ W e t (dO J f)
def fPn : fO := fun _ st => .ok none st
def fPs (m : fE) : fO := fun ρ st => (m ρ st).bind fun d st1 => match d with
  | .int i => .ok (some i) st1
  | _ => .bad
theorem fo_none : FO X Φ W J none fPn := ⟨tNoPart, po_none, fun σ ρ s G H Q P R hρ f0 hW ⟨θ, ρ0, st, c, h⟩ k => k none s G H (Aft.ok (a' := none) h rfl c.mt) (Same.refl _) f0⟩
theorem fo_some {e : Expr} {f : fE} (h : FE X Φ W J e f) : FO X Φ W J (some e) (fPs f) := by
  obtain ⟨_, h⟩ := h
  have d := do_some h
  refine ⟨_, d.po, fun σ ρ s G H Q P R hρ f0 hW ⟨θ, ρ0, st, c, h⟩ k => d.sem σ ρ s G H Q P R hρ f0 hW ⟨θ, ρ0, st, c, h.bind fun θ1 a a' st1 O1 s1 ra m1 h1 => ?_⟩ k⟩
  cases ra with
  | int i => exact ⟨i, rfl, Aft.ok h1 rfl m1⟩
  | _ => exact h1.elim
def oCut (a : D) (lo hi : Option Int) : Option D := match a with
  | .lst x => some (.lst (DL.cutD x lo hi))
  | .tup x => some (.tup (DL.cutD x lo hi))
  | .frz x => some (.lst (DL.cutD x lo hi))
  | _ => none
theorem cut_rn {θ : Th} {a b : List D} {lo hi : Option Int} (r : RnL θ a b) : RnL θ (DL.cutD a lo hi) (DL.cutD b lo hi) := by
  unfold DL.cutD
  rw [r.len]
  exact (r.dr _).tk _
def fSl (m : fE) (l h : fO) : fE := fun ρ st => (m ρ st).bind fun a st1 => (l ρ st1).bind fun i st2 => (h ρ st2).bind fun j st3 => optR (oCut a i j) st3
theorem fe_sl {e : Expr} {lo hi : Option Expr} {f : fE} {l h : fO} {pos p2 : Pos} (he : FE X Φ W J e f) (hl : FO X Φ W J lo l) (hh : FO X Φ W J hi h) : FE X Φ W J (.Subscript e (.Slice lo hi none p2) pos) (fSl f l h) := by
  obtain ⟨_, he⟩ := he
  obtain ⟨_, hl⟩ := hl
  obtain ⟨_, hh⟩ := hh
  refine fe_of (de_sl he hl hh) fun ρ' O P R ⟨θ, ρ, st, c, h⟩ => ⟨θ, ρ, st, c, h.bind fun θ1 a a' st1 O1 s1 ra m1 h1 => ?_⟩
  refine ⟨θ1, ρ, st1, c.step s1 m1, h1.bind fun θ2 i i' st2 O2 s2 ri m2 h2 => ?_⟩
  cases ri
  refine ⟨θ2, ρ, st2, c.step (s1.trans s2) m2, h2.bind fun θ3 j j' st3 O3 s3 rj m3 h3 => ?_⟩
  cases rj
  cases ra <;> try (exact h3.elim)
  · rename_i r
    exact Aft.ok h3 (.lst (cut_rn ((r.mono s2).mono s3))) m3
  · rename_i r
    exact Aft.ok h3 (.tup (cut_rn ((r.mono s2).mono s3))) m3
  · rename_i r
    exact Aft.ok h3 (.lst (cut_rn ((r.mono s2).mono s3))) m3
def fRev (m : fE) : fE := fun ρ st => (m ρ st).bind fun x st1 => match x with
  | .lst ds => .ok (.lst ds.reverse) st1
  | .frz ds => .ok (.lst ds.reverse) st1
  | _ => .bad
theorem fe_revL {e : Expr} {f : fE} {k : Nat} {p1 p2 p3 pos : Pos} (h : FE X Φ W J e f) : FE X Φ W J (.Subscript e (.Slice none none (some (.UnaryOp .USub (.Constant (.int 1) k p1) p2)) p3) pos) (fRev f) := by
  obtain ⟨_, h⟩ := h
  refine fe_of (de_revL h) fun ρ' O P R ⟨θ, ρ, st, c, h⟩ => ⟨θ, ρ, st, c, h.bind fun θ1 a a' st1 O1 s1 ra m1 h1 => ?_⟩
  cases ra <;> try (exact h1.elim)
  · rename_i r
    exact ⟨_, .inl rfl, Aft.ok h1 (.lst r.rev) m1⟩
  · rename_i r
    exact ⟨_, .inr rfl, Aft.ok h1 (.lst r.rev) m1⟩
def fNeg (m : fE) : fE := fun ρ st => (m ρ st).bind fun x st1 => match x with
  | .int i => .ok (.int (-i)) st1
  | _ => .bad
theorem fe_neg {e : Expr} {f : fE} {pos : Pos} (h : FE X Φ W J e f) : FE X Φ W J (.UnaryOp .USub e pos) (fNeg f) := by
  obtain ⟨_, h⟩ := h
  refine fe_of (de_neg h) fun ρ' O P R ⟨θ, ρ, st, c, h⟩ => ⟨θ, ρ, st, c, h.bind fun θ1 a a' st1 O1 s1 ra m1 h1 => ?_⟩
  cases ra with
  | int i => exact ⟨i, rfl, Aft.ok h1 (.int _) m1⟩
  | _ => exact h1.elim
theorem fe_dnew {pos : Pos} : FE X Φ W J (.Dict [] [] pos) (fC (.dic [] [])) := fe_of de_dnew fun _ _ _ _ h => fc_run rfl h
/-! texts -/
def fShow (m : fE) : fE := fun ρ st => (m ρ st).bind fun d st1 => optR ((shown? d).map .str) st1
theorem fe_show {e : Expr} {f : fE} {pos : Pos} (hk : ∃ mm, X.base.Ns sysModules mm) (hg : X.A.guards = some []) (hu : X.A.units + 64 < cLine) (h : FE X Φ W J e f) : FE X Φ W J (.FormattedValue e 114 none pos) (fShow f) := by
  obtain ⟨_, h⟩ := h
  refine fe_of (de_show hk hg hu h) fun ρ' O P R ⟨θ, ρ, st, c, h⟩ => ⟨θ, ρ, st, c, h.bind fun θ1 a a' st1 O1 s1 ra m1 h1 => ?_⟩
  cases e : shown? a with
  | none => rw [e] at h1; exact h1.elim
  | some y =>
    rw [e] at h1
    obtain ⟨p, e', h3, h4, h5, h6⟩ := shown_run e
    rw [rn_eq ra (toPd_noLoc e')]
    subst h6
    exact ⟨p, e', h3, h4, h5, Aft.ok h1 (.str _) m1⟩
def FJ (X : Cx) (Φ : OH → Hp → Hp → Prop) (W : WX) (J : Jv) (es : List Expr) (fs : List fE) : Prop := ∃ ts, DJ X Φ W es ts (fs.map (dE J))
theorem fj_nil : FJ X Φ W J [] [] := ⟨[], .nil⟩
theorem fj_cons {e : Expr} {es : List Expr} {f : fE} {fs : List fE} (h : FE X Φ W J e f) (h' : FJ X Φ W J es fs) : FJ X Φ W J (e :: es) (f :: fs) := by
  obtain ⟨_, h⟩ := h
  obtain ⟨_, h'⟩ := h'
  exact ⟨_, .cons h h'⟩
def fJs : List fE → Str → Rho → St → Res Str
  | [], acc, _, st => .ok acc st
  | m :: ms, acc, ρ, st => (m ρ st).bind fun d st1 => match d with
    | .str y => if (acc ++ y).length ≤ sizeLine then fJs ms (acc ++ y) ρ st1 else .bad
    | _ => .bad
def relS' : Th → Str → Str → Prop := fun _ a b => a = b
theorem js_run {P : D → OH → Prop} {R : Exn → OH → Prop} {ρ ρ' : Rho} : ∀ {ms : List fE} {acc : Str} {θ : Th} {st : St} {O : OH}, Ct J θ ρ ρ' st O → Aft Rn θ ((fJs ms acc ρ st).bind fun y st1 => .ok (.str y) st1) P R → mJs (ms.map (dE J)) acc ρ' O (fun y s1 => P (.str y) s1) R
  | [], acc, θ, st, O, c, h => Aft.ok h (.str _) c.mt
  | m :: ms, acc, θ, st, O, c, h => by
    refine ⟨θ, ρ, st, c, ?_⟩
    unfold fJs at h
    cases q : m ρ st with
    | bad => rw [q] at h; exact h.elim
    | ex x st1 => rw [q] at h; exact h
    | ok d st1 =>
      rw [q] at h
      intro θ1 d' O1 s1 rd m1
      cases rd with
      | str y =>
        have h2 : Aft Rn θ ((if (acc ++ y).length ≤ sizeLine then fJs ms (acc ++ y) ρ st1 else .bad).bind fun y st1 => .ok (.str y) st1) P R := h
        by_cases z : (acc ++ y).length ≤ sizeLine
        · rw [if_pos z] at h2
          exact ⟨y, rfl, z, js_run (c.step s1 m1) (h2.sub s1)⟩
        · rw [if_neg z] at h2
          exact h2.elim
      | _ => exact h.elim
def fJoin (ms : List fE) : fE := fun ρ st => (fJs ms Str.empty ρ st).bind fun y st1 => .ok (.str y) st1
theorem fe_join {v1 v2 : Expr} {rest : List Expr} {fs : List fE} {pos : Pos} (h : FJ X Φ W J (v1 :: v2 :: rest) fs) : FE X Φ W J (.JoinedStr (v1 :: v2 :: rest) pos) (fJoin fs) := by
  obtain ⟨_, h⟩ := h
  exact fe_of (de_join h) fun ρ' O P R ⟨θ, ρ, st, c, h⟩ => js_run c h
/-! one's own lists -/
def fFrz (m : fE) : fE := fun ρ st => (m ρ st).bind fun x st1 => match x with
  | .loc i => match st1[i]? with
    | some (some y) => .ok y.tree (st1.set i none)
    | _ => .bad
  | _ => .bad
theorem fe_frz {e : Expr} {f : fE} (h : FE X Φ W J e f) : FE X Φ W J e (fFrz f) := by
  obtain ⟨_, h⟩ := h
  refine fe_of (de_frz h) fun ρ' O P R ⟨θ, ρ, st, c, h⟩ => ⟨θ, ρ, st, c, h.bind fun θ1 a a' st1 O1 s1 ra m1 h1 => ?_⟩
  cases ra with
  | @loc i p hp =>
    simp only at h1
    cases w : st1[i]? with
    | none => rw [w] at h1; exact h1.elim
    | some u =>
      cases u with
      | none => rw [w] at h1; exact h1.elim
      | some y =>
        rw [w] at h1
        obtain ⟨y', h4, h5⟩ := m1.at w hp
        exact ⟨p, y', rfl, h4, Aft.ok h1 h5.tree (m1.del w hp)⟩
  | _ => exact h1.elim
def fApp (m n : fE) : fE := fun ρ st => (m ρ st).bind fun x st1 => match x with
  | .loc i => match st1[i]? with
    | some (some (.lst _)) => (n ρ st1).bind fun y st2 => match st2[i]? with
      | some (some (.lst ds)) => if ds.length < sizeLine then .ok .non (st2.set i (some (.lst (ds ++ [y])))) else .bad
      | _ => .bad
    | _ => .bad
  | _ => .bad
theorem fe_app {o e : Expr} {f g : fE} {apos pos : Pos} (h : FE X Φ W J o f) (h' : FE X Φ W J e g)
    (h1 : attributeBase o "append" X.env (eval o X.env) = eval o X.env := by rfl)
    (h2 : ((backTo pos (starEach [e] X.env)).all (fun x => !x.1) && (backToKw pos (keywordEach [] X.env)).all (fun x => x.1.isSome) && decide ([e].length + ([] : List Keyword).length + (if ([] : List Keyword).isEmpty then 0 else 1) < 30)) = true := by rfl)
    (h3 : (apos.endLine == pos.line) = true := by rfl) (h4 : starEach [e] X.env = (false, eval e X.env) :: starEach [] X.env := by rfl) (h5 : (backTo pos (starEach [] X.env)).any (·.1) = false := by rfl) :
    FE X Φ W J (.Call (.Attribute o "append" apos) [e] [] pos) (fApp f g) := by
  obtain ⟨_, h⟩ := h
  obtain ⟨_, h'⟩ := h'
  refine fe_of (de_appD h h' h1 h2 h3 h4 h5) fun ρ' O P R ⟨θ, ρ, st, c, h⟩ => ⟨θ, ρ, st, c, h.bind fun θ1 a a' st1 O1 s1 ra m1 h1 => ?_⟩
  cases ra with
  | @loc i p hp =>
    simp only at h1
    cases w : st1[i]? with
    | none => rw [w] at h1; exact h1.elim
    | some u =>
      cases u with
      | none => rw [w] at h1; exact h1.elim
      | some y =>
        rw [w] at h1
        obtain ⟨y', h4, h5⟩ := m1.at w hp
        cases h5 with
        | lst r0 =>
          refine ⟨p, rfl, ⟨_, h4⟩, θ1, ρ, st1, c.step s1 m1, h1.bind fun θ2 b b' st2 O2 s2 rb m2 h2 => ?_⟩
          have hp2 := sub_at s2 hp
          cases w2 : st2[i]? with
          | none => rw [w2] at h2; exact h2.elim
          | some u2 =>
            cases u2 with
            | none => rw [w2] at h2; exact h2.elim
            | some y2 =>
              rw [w2] at h2
              obtain ⟨y2', h6, h7⟩ := m2.at w2 hp2
              cases h7 with
              | lst r2 =>
                simp only at h2
                split at h2
                · rename_i q
                  exact ⟨_, h6, by rw [← r2.len]; exact q, Aft.ok h2 .non (m2.put w2 hp2 (.lst (r2.app (.cons rb .nil))))⟩
                · exact h2.elim
              | _ => exact h2.elim
        | _ => exact h1.elim
  | _ => exact h1.elim
def fIxO (m n : fE) : fE := fun ρ st => (m ρ st).bind fun x st1 => (n ρ st1).bind fun y st2 => match x, y with
  | .loc a, .int i => match st2[a]? with
    | some (some (.lst ds)) => optR (atI ds i) st2
    | _ => .bad
  | _, _ => .bad
theorem fe_ixO {a b : Expr} {f g : fE} {pos : Pos} (ha : FE X Φ W J a f) (hb : FE X Φ W J b g) (hs : PlainIx b := by exact fun _ _ => rfl) : FE X Φ W J (.Subscript a b pos) (fIxO f g) := by
  obtain ⟨_, ha⟩ := ha
  obtain ⟨_, hb⟩ := hb
  refine fe_of (de_ixO ha hb hs) fun ρ' O P R ⟨θ, ρ, st, c, h⟩ => ⟨θ, ρ, st, c, h.bind fun θ1 a a' st1 O1 s1 ra m1 h1 => ?_⟩
  refine ⟨θ1, ρ, st1, c.step s1 m1, h1.bind fun θ2 b b' st2 O2 s2 rb m2 h2 => ?_⟩
  cases ra with
  | @loc k p hp =>
    cases rb with
    | int i =>
      have hp2 := sub_at s2 hp
      simp only at h2
      cases w : st2[k]? with
      | none => rw [w] at h2; exact h2.elim
      | some u =>
        cases u with
        | none => rw [w] at h2; exact h2.elim
        | some y =>
          rw [w] at h2
          obtain ⟨y', h4, h5⟩ := m2.at w hp2
          cases h5 with
          | @lst ds ds' r =>
            simp only at h2
            cases z : atI ds i with
            | none => rw [z] at h2; exact h2.elim
            | some d =>
              rw [z] at h2
              obtain ⟨e, h6, h7⟩ := at_rn r z
              exact ⟨p, i, _, e, rfl, rfl, h4, h6, Aft.ok h2 h7 m2⟩
          | _ => exact h2.elim
    | _ => exact h2.elim
  | _ => cases rb <;> exact h2.elim
def fGsub (m n : fE) : fG := fun d ρ st => match m ρ st with
  | .ok (.loc a) st1 => match n ρ st1 with
    | .ok (.int i) st2 => match st2[a]? with
      | some (some (.lst ds)) => match ixN ds.length i with
        | some j => some (ρ, st2.set a (some (.lst (ds.set j d))))
        | none => none
      | _ => none
    | _ => none
  | _ => none
theorem fg_subO {o i : Expr} {m n : fE} {pos : Pos} (ho : FE X Φ W0 J o m) (hi : FE X Φ W0 J i n)
    (ha : ∀ v, assign (.Subscript o i pos) X.env v = (do
      let ov ← holding [v] (eval o X.env)
      let iv ← holding [v, ov] (eval i X.env)
      standAt pos
      holding [v, ov, iv] (setItem ov iv v)
      release [v, ov, iv] []) := by intro _; rfl) : ∃ g, DG X Φ (.Subscript o i pos) g (dG J (fGsub m n)) [] := by
  obtain ⟨_, ho⟩ := ho
  obtain ⟨_, hi⟩ := hi
  refine ⟨_, dg_imp (dg_subO ho hi ha) fun d' ρ' O P ⟨θ, d, ρ, st, rd, c, h⟩ => ⟨θ, ρ, st, c, ?_⟩⟩
  unfold fGsub at h
  cases q : m ρ st with
  | bad => rw [q] at h; exact h.elim
  | ex x st1 => rw [q] at h; exact h.elim
  | ok x st1 =>
    rw [q] at h
    intro θ1 x' O1 s1 rx m1
    cases rx with
    | @loc a p hp =>
      simp only at h
      refine ⟨θ1, ρ, st1, c.step s1 m1, ?_⟩
      cases q2 : n ρ st1 with
      | bad => rw [q2] at h; exact h.elim
      | ex x st1 => rw [q2] at h; exact h.elim
      | ok y st2 =>
        rw [q2] at h
        intro θ2 y' O2 s2 ry m2
        cases ry with
        | int k =>
          simp only at h
          have hp2 := sub_at s2 hp
          cases w : st2[a]? with
          | none => rw [w] at h; exact h.elim
          | some u =>
            cases u with
            | none => rw [w] at h; exact h.elim
            | some y =>
              rw [w] at h
              obtain ⟨y', h4, h5⟩ := m2.at w hp2
              cases h5 with
              | @lst ds ds' r =>
                simp only at h
                cases z : ixN ds.length k with
                | none => rw [z] at h; exact h.elim
                | some j =>
                  rw [z] at h
                  have s12 := s1.trans s2
                  exact ⟨p, k, ds', j, rfl, rfl, h4, by rw [← r.len]; exact z, h θ2 ρ' _ s12 ((c.step s12 m2).step (List.prefix_refl _) (m2.put w hp2 (.lst (RnL.set (rd.mono s12) j r))))⟩
              | _ => exact h.elim
        | _ => exact h.elim
    | _ => exact h.elim
end
end FL

set_option Elab.async false
set_option linter.all false
set_option maxRecDepth 100000
set_option maxHeartbeats 1000000
namespace FL
open PySem PySem.Spec PyProof.Rows L2 DL
section
variable {P : Program} {w : World} {K : PySem.W.Frag} {mg : Str → Option Value} {base : Heap}
theorem fnF_mk {x qual : Str} {st : Stmt} {f : Addr} {fd : FuncData} {N ps : List Str} {k : Nat} (F : Fun K x qual st f fd) (Sc : FnScope N ps (defScope st)) {fs : fS}
    (hb : ∀ (Φ : OH → Hp → Hp → Prop) (cdv : Value) (A : Around) (outer : List Env) (s : Shared) (H : Hp) (E : XK), OFrm (cxOf (L2.CX P w) P w K mg base N qual (defScope st) f cdv A outer s H E).K (cxOf (L2.CX P w) P w K mg base N qual (defScope st) f cdv A outer s H E).mg Φ → Rm k (cxOf (L2.CX P w) P w K mg base N qual (defScope st) f cdv A outer s H E) →
      FSs (cxOf (L2.CX P w) P w K mg base N qual (defScope st) f cdv A outer s H E) Φ (fun cls d _ H' => E cls d H') none (defBody st) fs) : FnG P w K mg base (k + 1) f fd ps (gF (fBody fs (N.length - ps.length))) :=
  by
  obtain ⟨oc, od, kV, doc, pm, an, cdv, ct, osl, rfl, lk, hcd⟩ := F.ex
  refine fnS_of lk hcd Sc (fun vs H Q E h => spO_len h) fun A outer s H vs Q E hr hgd hsp => ?_
  obtain ⟨Φ, iΦ, G, O, ds, Pd, R, f0, r, hl, hgs, hP, hR⟩ := hsp
  obtain ⟨ts, d⟩ := hb Φ cdv A outer s H E iΦ ⟨hr, hgd⟩
  refine ⟨ts, d.pss, ?_⟩
  have r0 := start_rel (N := N) r
  rw [hl] at r0
  refine d.sem _ _ O G H _ _ r0 f0 (body_run hgs) ⟨fun σ ρ s G' H' ⟨O2, le, p⟩ e _ q => hP .non O2 .non G' H' p e (iΦ.less q le) .non, fun d s v G' H' ⟨O2, le, p⟩ e q r => hP d O2 v G' H' p e (iΦ.less q le) r, fun _ _ _ _ _ p => p.elim, fun _ _ _ _ _ p => p.elim,
    fun x σ ρ s G' H' cls d ⟨O2, le, p⟩ e _ q z => hR x O2 G' H' cls d p e (iΦ.less q le) z⟩
theorem mt_nil : Mt [] [] (fun _ => none) := ⟨rfl, fun i x h => by simp at h, fun i j x y a h => by simp at h⟩
theorem lawF_mk {x qual : Str} {st : Stmt} {f : Addr} {fd : FuncData} {N : List Str} {p : Str} {k : Nat} (F : Fun K x qual st f fd) (Sc : FnScope N [p] (defScope st)) {fs : fS}
    (hb : ∀ (cdv : Value) (A : Around) (outer : List Env) (s : Shared) (H : Hp) (E : XK), OFrm (cxOf (L2.CX P w) P w K mg base N qual (defScope st) f cdv A outer s H E).K (cxOf (L2.CX P w) P w K mg base N qual (defScope st) f cdv A outer s H E).mg (Phi K mg) → Rm k (cxOf (L2.CX P w) P w K mg base N qual (defScope st) f cdv A outer s H E) →
      FSs (cxOf (L2.CX P w) P w K mg base N qual (defScope st) f cdv A outer s H E) (Phi K mg) (fun cls d _ H' => E cls d H') none (defBody st) fs)
    (hm : ∀ ns : List Int, ns.length ≤ 63 → ∃ s1, fBody fs (N.length - 1) [.frz (ns.map D.int)] [] = .ok (.bl true) s1) : FnS P w K mg base (k + 1) f fd [p] (spLawD K) := by
  refine law_mk (m := dS none fs) F Sc hb fun ns hl => ?_
  have z := body_run (f := fs) (k := N.length - 1) (ds' := [.frz (ns.map D.int)]) (O := fun _ => none) (P := fun d _ => d = .bl true) (R := R0) ⟨[], _, [], rnl_self (a := [.frz (ns.map D.int)]) ?_, mt_nil, ?_⟩
  · obtain ⟨θ, ρ, st, c, h⟩ := z
    refine ⟨θ, ρ, st, c, ?_⟩
    cases q : fs ρ st with
    | nx _ _ =>
      rw [q] at h
      intro a b c d e
      obtain ⟨_, _, h⟩ := h a b c d e
      exact h
    | rt _ _ =>
      rw [q] at h
      intro a b c d e f
      obtain ⟨_, _, h⟩ := h a b c d e f
      exact h
    | ex _ _ _ =>
      rw [q] at h
      intro a b c d e f g
      obtain ⟨_, _, h⟩ := h a b c d e f g
      exact h
    | bk _ _ => rw [q] at h; exact h
    | ct _ _ => rw [q] at h; exact h
    | bad => rw [q] at h; exact h
  · simp only [noLocL, noLoc, noLoc_ints, Bool.and_self]
  · obtain ⟨s1, h⟩ := hm ns hl
    rw [h]
    intro θ1 d' O1 _ r _
    cases r
    rfl
end
end FL

set_option Elab.async false
set_option linter.all false
set_option maxRecDepth 100000
set_option maxHeartbeats 1000000
namespace FL
open PySem PySem.Spec PyProof.Rows L2 DL
section
variable {X : Cx} {Φ : OH → Hp → Hp → Prop} {W : WX} [FΦ : OFrm X.K X.mg Φ] {J : Jv}
/-! what is never reached -/
def fDeadE : fE := fun _ _ => .bad
def fDeadS : fS := fun _ _ => .bad
theorem fe_dead {e : Expr} : FE X Φ W J e fDeadE := ⟨fun _ _ _ => False, ⟨fun _ _ _ _ _ _ h => h.elim⟩, fun σ ρ s G H Q P R _ _ _ ⟨_, _, _, _, h⟩ _ => h.elim⟩
theorem fs_dead {s : Stmt} : FS X Φ W J s fDeadS := ⟨fun _ _ _ => False, ⟨fun _ _ _ _ _ _ h => h.elim⟩, fun σ ρ s G H D M _ _ ⟨_, _, _, _, h⟩ _ => h.elim⟩
theorem fss_dead {s : List Stmt} : FSs X Φ W J s fDeadS := ⟨fun _ _ _ => False, ⟨fun _ _ _ _ _ _ h => h.elim⟩, fun σ ρ s G H D M _ _ ⟨_, _, _, _, h⟩ _ => h.elim⟩
/-! a * b of two instances of one class -/
def opIK (C : Str) (F : fF) (st : St) : D → D → Res D
  | .ins C1 ns ds, .ins C2 ms es => if C1 = C ∧ C2 = C then F [.ins C1 ns ds, .ins C2 ms es] st else .bad
  | _, _ => .bad
def fOpI (C : Str) (F : fF) (fa fb : fE) : fE := fun ρ st => (fa ρ st).bind fun a st1 => (fb ρ st1).bind fun b st2 => opIK C F st2 a b
theorem back_of {z : V} {u : Value} {Q : Value → Shared → Prop} {s : Shared} (r : RelV z u) (q : Q u s) : PySem.W.CmpBack Q u s := by
  cases u <;> first | exact q | (exfalso; revert r; cases z <;> simp [L2.RelV])
theorem fe_opI {op : Operator} {k : Nat} {C g : Addr} {Cn : Str} {fd : FuncData} {n1 n2 : Str} {F : fF} {a b : Expr} {fa fb : fE} {pos : Pos} (hC : X.mg Cn = some (.ref C)) (hsf : PySem.W.selfFirst X.K C = true) (hs : PySem.W.findIn X.K (.ref C) (PySem.dunder op.info.2) = some (some (.ref g))) (hf : PySem.W.isFn X.K (.ref g) = true)
    (Fg : FnG X.prog X.w X.K X.mg X.base k g fd [n1, n2] (gF F)) (hr : Rm k X) (hb : Binds X.K fd [n1, n2] []) (tk : Takes X W) (ha : FE X Φ W J a fa) (hb' : FE X Φ W J b fb) : FE X Φ W J (.BinOp a op b pos) (fOpI Cn F fa fb) := by
  obtain ⟨ta, ha⟩ := ha
  obtain ⟨tb, hb'⟩ := hb'
  let te : TE := fun σ H Q => ta σ H fun x H1 => tb σ H1 fun y H2 => ∃ p dx fs p' dx' fs', x = .ref p ∧ H2 p = some (.ins C dx fs) ∧ y = .ref p' ∧ H2 p' = some (.ins C dx' fs') ∧ spO X.K X.mg 2 (gF F) [x, y] H2 Q (WE W σ)
  refine ⟨te, ⟨fun pins s σ H Q I h => ?_⟩, fun σ ρ' O G H Q P R hρ f0 hW ⟨θ, ρ, st, c, h⟩ kk => ?_⟩
  · refine wpAny_BinOp (binT ha.pe hb'.pe I h fun u v s2 x y H2 I2 ru rv ⟨p, dx, fs, p', dx', fs', ex, hp, ey, hp', q⟩ => ?_)
    subst ex ey
    cases (show u = Value.ref p from ru)
    cases (show v = Value.ref p' from rv)
    obtain ⟨mA, J1, _⟩ := ins_get I2.hok hp
    obtain ⟨od, J1, _⟩ := J1.look
    obtain ⟨mB, J2, _⟩ := ins_get I2.hok hp'
    obtain ⟨od', J2, _⟩ := J2.look
    obtain ⟨m, hF⟩ := I2.fr
    refine PySem.W.binop_K hF I2.ok.mod.kin J1 J2.type hsf hs hf ?_
    have go := runS (us := [.ref p, .ref p']) (vs := [.ref p, .ref p']) (dvs := []) (dflt := []) Fg hr hb .nil (passAt tk σ) I2 (.cons rfl (.cons rfl .nil)) q
    exact thn go fun r s3 ⟨z, H3, I3, rz, q3⟩ => back_of rz ⟨z, H3, I3, rz, q3⟩
  · refine ha.sem σ ρ' O G H _ (fun x O1 => ∃ (θ1 : Th) (a1 : D) (st1 : St), θ <+: θ1 ∧ Rn θ1 a1 x ∧ Mt θ1 st1 O1 ∧ Aft Rn θ1 ((fb ρ st1).bind fun b st2 => opIK Cn F st2 a1 b) P R) R hρ f0 hW ⟨θ, ρ, st, c, h.bind fun θ1 a a' st1 O1 s1 ra m1 h1 => ⟨θ1, a, st1, s1, ra, m1, h1⟩⟩ fun x O1 u G1 H1 ⟨θ1, a1, st1, s1, ra, m1, h1⟩ e1 f1 r1 => ?_
    refine hb'.sem σ ρ' O1 G1 H1 _ (fun y O2 => ∃ (θ2 : Th) (b1 : D) (st2 : St), θ1 <+: θ2 ∧ Rn θ2 b1 y ∧ Mt θ2 st2 O2 ∧ Aft Rn θ2 (opIK Cn F st2 a1 b1) P R) R (hρ.mono e1) f1 (hW.mono e1) ⟨θ1, ρ, st1, c.step s1 m1, h1.bind fun θ2 b b' st2 O2 s2 rb m2 h2 => ⟨θ2, b, st2, s2, rb, m2, h2⟩⟩ fun y O2 v G2 H2 ⟨θ2, b1, st2, s2, rb, m2, h2⟩ e2 f2 r2 => ?_
    have ra2 := ra.mono s2
    have r12 := r1.mono e2
    have r12' := r12
    have r2' := r2
    cases ra2 with
    | @ins C1 ns ds ds' rds =>
      cases rb with
      | @ins C2 ms es es' res =>
        have h3 : Aft Rn θ2 (if C1 = Cn ∧ C2 = Cn then F [.ins C1 ns ds, .ins C2 ms es] st2 else .bad) P R := h2
        by_cases q : C1 = Cn ∧ C2 = Cn
        · rw [if_pos q] at h3
          obtain ⟨q1, q2⟩ := q
          subst q1 q2
          cases r12 with
          | ins mC hG hl rl =>
            rw [hC] at mC
            cases mC
            cases r2 with
            | ins mC2 hG2 hl2 rl2 =>
              rw [hC] at mC2
              cases mC2
              exact ⟨_, _, _, _, _, _, rfl, Frm.same f2 _ _ hG, rfl, Frm.same f2 _ _ hG2, spO_of f2 (.cons r12' (.cons r2' .nil)) rfl ⟨θ2, _, st2, .cons (.ins rds) (.cons (.ins res) .nil), m2, h3⟩ (fun d s' z G' H' p q f' rz => kk d s' z G' H' p ((e1.trans e2).trans q) f' rz) (hW.mono (e1.trans e2))⟩
        · rw [if_neg q] at h3
          exact h3.elim
      | _ => exact h2.elim
    | _ => exact h2.elim
/-! C() -/
def fMake0 (C : Str) (F : fF) (k : Nat) (dd : List D) : fE := fun _ st => if dd.length + 1 = k then mkEnd st.length (F (.loc st.length :: dd) (st ++ [some (.ins C [] [])])) else .bad
theorem mkEnd_run {F : fF} {C : Str} {θ1 : Th} {st1 : St} {O1 : OH} {P : D → OH → Prop} {R : Exn → OH → Prop} (m1 : Mt θ1 st1 O1) {a : List D} {a' : List D} (ra : RnL θ1 a a') (h1 : Aft Rn θ1 (mkEnd st1.length (F (.loc st1.length :: a) (st1 ++ [some (.ins C [] [])]))) P R) :
    ∀ p, O1 p = none → gF F (.loc p :: a') (O1.put p (.ins C [] [])) (kMake P p) R := fun p np => by
  have m2 := m1.new (x := .ins C [] []) (y := .ins C [] []) np (.ins .nil)
  refine ⟨θ1 ++ [p], _, _, .cons (.loc (mt_last m1)) (ra.mono ⟨[p], rfl⟩), m2, ?_⟩
  cases z : F (.loc st1.length :: a) (st1 ++ [some (.ins C [] [])]) with
  | bad => rw [z] at h1; exact h1.elim
  | ex w st3 => rw [z] at h1; exact fun θ3 x' O3 s3 => h1 θ3 x' O3 (List.IsPrefix.trans ⟨[p], rfl⟩ s3)
  | ok d st3 =>
    rw [z] at h1
    intro θ3 d' O3 s3 rd m3
    unfold mkEnd at h1
    cases rd with
    | non =>
      simp only at h1
      cases w : st3[st1.length]? with
      | none => rw [w] at h1; exact h1.elim
      | some u =>
        cases u with
        | none => rw [w] at h1; exact h1.elim
        | some y =>
          rw [w] at h1
          have at3 : θ3[st1.length]? = some p := sub_at s3 (mt_last m1)
          obtain ⟨y', h4, h5⟩ := m3.at w at3
          exact ⟨rfl, y', h4, gc_run m1.len (List.IsPrefix.trans ⟨[p], rfl⟩ s3) h5.tree (m3.del w at3) fun θ4 s4 r4 m4 => h1 θ4 _ _ s4 r4 m4⟩
    | _ => exact h1.elim
theorem fe_make0 {k : Nat} {f C : Addr} {fd : FuncData} {ps : List Str} {F : fF} {dvs : List V} {dd : List D} {dflt : List Value} {x : Str} {p pos : Pos} (M : Mk X.K C f) (hC : X.mg x = some (.ref C)) (Fg : FnG X.prog X.w X.K X.mg X.base k f fd ps (gF F)) (hr : Rm (k + 1) X) (hg : Gl X x) (hb : Binds X.K fd ps dflt) (hd : Vals dvs dflt) (hdd : ∀ G, RpL X.K X.mg G dvs dd) (tk : Takes X W)
    (hn : noLocL dd = true := by rfl) (hdb : (x == ("__debug__" : Str)) = false := by decide) : FE X Φ W J (.Call (.Name x p) [] [] pos) (fMake0 x F ps.length dd) :=
  ⟨_, pe_makeG0 M Fg hr hg hC hb hd tk hdb, fun σ ρ' O G H Q P R hρ f0 hW ⟨θ, ρ, st, c, h⟩ kk => by
    unfold fMake0 at h
    by_cases q : dd.length + 1 = ps.length
    · rw [if_pos q] at h
      exact make_sem hC f0 (hdd G) q (mkEnd_run c.mt (rnl_self hn) h) kk hW
    · rw [if_neg q] at h
      exact h.elim⟩
end
/-! defs with defaults -/
section
variable {P : Program} {w : World} {K : PySem.W.Frag} {mg : Str → Option Value} {base : Heap}
theorem fnF_mkD {x qual : Str} {st : Stmt} {f : Addr} {fd : FuncData} {N ps : List Str} {k : Nat} {dvs : List V} {kws : List (Str × V)} (F : FunD K x qual (defArgs st) (defBody st) (defScope st) dvs kws f fd) (Sc : FnScope N ps (defScope st)) {fs : fS}
    (hb : ∀ (Φ : OH → Hp → Hp → Prop) (cdv : Value) (A : Around) (outer : List Env) (s : Shared) (H : Hp) (E : XK), OFrm (cxOf (L2.CX P w) P w K mg base N qual (defScope st) f cdv A outer s H E).K (cxOf (L2.CX P w) P w K mg base N qual (defScope st) f cdv A outer s H E).mg Φ → Rm k (cxOf (L2.CX P w) P w K mg base N qual (defScope st) f cdv A outer s H E) →
      FSs (cxOf (L2.CX P w) P w K mg base N qual (defScope st) f cdv A outer s H E) Φ (fun cls d _ H' => E cls d H') none (defBody st) fs) : FnG P w K mg base (k + 1) f fd ps (gF (fBody fs (N.length - ps.length))) := by
  obtain ⟨oc, od, dV, kV, doc, pm, an, cdv, ct, osl, rfl, lk, hcd, _, _⟩ := F.ex
  refine fnS_of lk hcd Sc (fun vs H Q E h => spO_len h) fun A outer s H vs Q E hr hgd hsp => ?_
  obtain ⟨Φ, iΦ, G, O, ds, Pd, R, f0, r, hl, hgs, hP, hR⟩ := hsp
  obtain ⟨ts, d⟩ := hb Φ cdv A outer s H E iΦ ⟨hr, hgd⟩
  refine ⟨ts, d.pss, ?_⟩
  have r0 := start_rel (N := N) r
  rw [hl] at r0
  refine d.sem _ _ O G H _ _ r0 f0 (body_run hgs) ⟨fun σ ρ s G' H' ⟨O2, le, p⟩ e _ q => hP .non O2 .non G' H' p e (iΦ.less q le) .non, fun d s v G' H' ⟨O2, le, p⟩ e q r => hP d O2 v G' H' p e (iΦ.less q le) r, fun _ _ _ _ _ p => p.elim, fun _ _ _ _ _ p => p.elim,
    fun x σ ρ s G' H' cls d ⟨O2, le, p⟩ e _ q z => hR x O2 G' H' cls d p e (iΦ.less q le) z⟩
end
/-! more of built-ins -/
section
variable {X : Cx}
def wListF : WL := fun ds P => (∃ x, ds = [.lst x] ∧ P (.lst x)) ∨ (∃ x, ds = [.tup x] ∧ P (.lst x)) ∨ ∃ x, ds = [.frz x] ∧ P (.lst x)
theorem f_listF : Fn1 X (.type "list") (fun xs H Q => ∃ p ys, xs = [.ref p] ∧ (SqL X.K H p ys ∨ SqT X.K H p ys) ∧ ∀ l, H l = none → Q (.ref l) (upd H l (.lst ys))) wListF := by
  refine ⟨call_list_of, fun vs ds G H Q P r sm h k => ?_⟩
  have fin : ∀ {a : Addr} {ys : List V} {x : List D}, RpL X.K X.mg G ys x → P (.lst x) → ∀ l, H l = none → Q (.ref l) (upd H l (.lst ys)) := fun b h l nl => k _ _ _ _ h (.one nl) (.lst upd_same (b.mono (same_new (sm.free nl))))
  rcases h with ⟨x, ed, h⟩ | ⟨x, ed, h⟩ | ⟨x, ed, h⟩
  · subst ed
    obtain ⟨v, rfl, r1⟩ := rpl1 r
    cases r1 with
    | lst a b => exact ⟨_, _, rfl, .inl (SqL.of (sm _ _ a)), fin (a := 0) b h⟩
  · subst ed
    obtain ⟨v, rfl, r1⟩ := rpl1 r
    cases r1 with
    | tup a b => exact ⟨_, _, rfl, .inr (sqt_mono sm a), fin (a := 0) b h⟩
  · subst ed
    obtain ⟨v, rfl, r1⟩ := rpl1 r
    cases r1 with
    | frz a b => exact ⟨_, _, rfl, .inl (sql_mono sm a.sql), fin (a := 0) b h⟩
def lListF : List D → Option D
  | [.lst x] => some (.lst x)
  | [.tup x] => some (.lst x)
  | [.frz x] => some (.lst x)
  | _ => none
theorem lw_listF : LW lListF wListF := ⟨fun θ ds ds' d P r h k => by
  unfold lListF at h
  split at h
  · obtain ⟨a', rfl, q⟩ := rnl1 r
    cases q with | lst q => cases h; exact .inl ⟨_, rfl, k _ (.lst q)⟩
  · obtain ⟨a', rfl, q⟩ := rnl1 r
    cases q with | tup q => cases h; exact .inr (.inl ⟨_, rfl, k _ (.lst q)⟩)
  · obtain ⟨a', rfl, q⟩ := rnl1 r
    cases q with | frz q => cases h; exact .inr (.inr ⟨_, rfl, k _ (.lst q)⟩)
  · cases h⟩
end
section
variable {X : Cx} {Φ : OH → Hp → Hp → Prop} {W : WX} [FΦ : OFrm X.K X.mg Φ] {J : Jv}
/-! T.index(e), T a written tuple of texts -/
def idxS (ys : List Str) (z : Str) : Option Nat := match ys with
  | [] => none
  | y :: ys => if y = z then some 0 else (idxS ys z).map (· + 1)
theorem idxS_at : ∀ {ys : List Str} {z : Str} {j : Nat}, idxS ys z = some j → ys[j]? = some z ∧ ∀ m, m < j → ys[m]? ≠ some z
  | [], _, _, h => by cases h
  | y :: ys, z, j, h => by
    unfold idxS at h
    by_cases q : y = z
    · rw [if_pos q] at h
      cases h
      exact ⟨by rw [q]; rfl, fun m hm => absurd hm (Nat.not_lt_zero m)⟩
    · rw [if_neg q] at h
      simp only [Option.map_eq_some_iff] at h
      obtain ⟨i, h1, h2⟩ := h
      subst h2
      obtain ⟨a, b⟩ := idxS_at h1
      refine ⟨a, fun m hm => ?_⟩
      cases m with
      | zero => exact fun e => q (Option.some.inj e)
      | succ m => exact b m (by omega)
def fTidx (ys : List Str) (f : fE) : fE := fun ρ st => (f ρ st).bind fun y st1 => match y with
  | .str z => match idxS ys z with
    | some j => .ok (.int (j : Nat)) st1
    | none => .bad
  | _ => .bad
theorem fe_tidx {x : Str} {ys : List Str} {tp : Addr} {ot : Obj} {e : Expr} {f : fE} {np apos pos : Pos} (hg : Gl X x) (hm : X.mg x = some (.ref tp)) (lk : X.K.lookup tp = some ot) (hc : ot.cls = .type "tuple") (hd : ot.dict = none) (hq : ∀ H, SqT X.K H tp (ys.map V.str)) (h : FE X Φ W J e f) (hdb : (x == ("__debug__" : Str)) = false := by decide)
    (h1 : attributeBase (.Name x np) "index" X.env (eval (.Name x np) X.env) = eval (.Name x np) X.env := by rfl)
    (h2 : ((backTo pos (starEach [e] X.env)).all (fun x => !x.1) && (backToKw pos (keywordEach [] X.env)).all (fun x => x.1.isSome) && decide ([e].length + ([] : List Keyword).length + (if ([] : List Keyword).isEmpty then 0 else 1) < 30)) = true := by rfl)
    (h3 : (apos.endLine == pos.line) = true := by rfl) (h4 : starEach [e] X.env = (false, eval e X.env) :: starEach [] X.env := by rfl) (h5 : (backTo pos (starEach [] X.env)).any (·.1) = false := by rfl) :
    FE X Φ W J (.Call (.Attribute (.Name x np) "index" apos) [e] [] pos) (fTidx ys f) := by
  obtain ⟨te, h⟩ := h
  have g : PE X (.Name x np) (tC (.ref tp)) := pe_glob hg hm rfl hdb
  refine ⟨_, pe_bm PySem.F.plainAttrs_tuple PySem.F.slot_tuple_index PySem.F.type_tuple_index mt_tup_index g (pa_cons h.pe pa_nil h4) h1 h2 h3 h4 h5, fun σ ρ' O G H Q P R hρ f0 hW ⟨θ, ρ, st, c, hh⟩ kk => ?_⟩
  refine ⟨.inr (.inl ⟨rfl, ot, lk, hc, hd⟩), h.sem σ ρ' O G H _ (fun y O1 => ∃ z j, y = .str z ∧ idxS ys z = some j ∧ P (.int (j : Nat)) O1) R hρ f0 hW ⟨θ, ρ, st, c, hh.bind fun θ1 a a' st1 O1 s1 ra m1 h1 => ?_⟩ fun y O1 v G1 H1 ⟨z, j, ey, hj, hp⟩ e1 f1 r1 => ?_⟩
  · cases ra with
    | str z =>
      simp only at h1
      cases q : idxS ys z with
      | none => rw [q] at h1; exact h1.elim
      | some j => rw [q] at h1; exact ⟨z, j, rfl, q, Aft.ok h1 (.int _) m1⟩
    | _ => exact h1.elim
  · subst ey
    cases r1
    obtain ⟨a, b⟩ := idxS_at hj
    exact ⟨tp, ys, z, j, rfl, rfl, hq _, a, b, kk _ _ _ G1 H1 hp e1 f1 (.int _)⟩
/-! T[e], T a written dict by texts -/
def fKix (tab : List (Str × D)) (f : fE) : fE := fun ρ st => (f ρ st).bind fun y st1 => match y with
  | .str z => optR (tab.lookup z) st1
  | _ => .bad
theorem fe_kix {x : Str} {tab : List (Str × D)} {tp : Addr} {b : Expr} {f : fE} {np pos : Pos} (hg : Gl X x) (hm : X.mg x = some (.ref tp)) (ht : ∀ z d, tab.lookup z = some d → ∃ v, KDct X.K X.w tp z v ∧ ∀ G, Rp X.K X.mg G v d) (hn : ∀ z d, tab.lookup z = some d → noLoc d = true) (h : FE X Φ W J b f) (hs : PlainIx b := by exact fun _ _ => rfl) (hdb : (x == ("__debug__" : Str)) = false := by decide) :
    FE X Φ W J (.Subscript (.Name x np) b pos) (fKix tab f) := by
  obtain ⟨te, h⟩ := h
  have g : PE X (.Name x np) (tC (.ref tp)) := pe_glob hg hm rfl hdb
  refine ⟨_, pe_ix ix_kdict g h.pe hs, fun σ ρ' O G H Q P R hρ f0 hW ⟨θ, ρ, st, c, hh⟩ kk => ?_⟩
  refine h.sem σ ρ' O G H _ (fun y O1 => ∃ z d, y = .str z ∧ tab.lookup z = some d ∧ P d O1) R hρ f0 hW ⟨θ, ρ, st, c, hh.bind fun θ1 a a' st1 O1 s1 ra m1 h1 => ?_⟩ fun y O1 v G1 H1 ⟨z, d, ey, hj, hp⟩ e1 f1 r1 => ?_
  · cases ra with
    | str z =>
      simp only at h1
      cases q : tab.lookup z with
      | none => rw [q] at h1; exact h1.elim
      | some d => rw [q] at h1; exact ⟨z, d, rfl, q, Aft.ok h1 (rn_self (hn z d q)) m1⟩
    | _ => exact h1.elim
  · subst ey
    cases r1
    obtain ⟨v, kd, rv⟩ := ht z d hj
    exact ⟨tp, z, v, rfl, rfl, kd, kk _ _ _ G1 H1 hp e1 f1 (rv G1)⟩
/-! chains of two comparisons -/
def fChain (o o' : D → D → Option D) (fa fb fc : fE) : fE := fun ρ st => (fa ρ st).bind fun a st1 => (fb ρ st1).bind fun b st2 => match o a b with
  | some (.bl true) => (fc ρ st2).bind fun c st3 => optR (o' b c) st3
  | some (.bl false) => .ok (.bl false) st2
  | _ => .bad
theorem chain_sem {a b c : Expr} {fa fb fc : fE} {r r' : R2} {w w' : W2} {o o' : D → D → Option D} {op op' : CmpOp} (o2 : Op2 X (compareOp op) r w) (ow : OW o w) (o2' : Op2 X (compareOp op') r' w') (ow' : OW o' w') {ta tb tc : TE} (ha : DE X Φ W a ta (dE J fa)) (hb : DE X Φ W b tb (dE J fb)) (hc : DE X Φ W c tc (dE J fc))
    {σ : Sig} {ρ' : Rho} {O : OH} {G H : Hp} {Q : VK} {P : D → OH → Prop} {R : Exn → OH → Prop} (hρ : RelE X.K X.mg G σ ρ') (f0 : Φ O G H) (hW : Wsh X.K X.mg Φ W G σ R) (h : dE J (fChain o o' fa fb fc) ρ' O P R)
    (kk : ∀ (d : D) (s' : OH) (v : V) (G' H' : Hp), P d s' → Same G G' → Φ s' G' H' → Rp X.K X.mg G' v d → Q v H') : tChain r r' ta tb tc σ H Q := by
  obtain ⟨θ, ρ, st, ct, h⟩ := h
  refine ha.sem σ ρ' O G H _ (fun x O1 => ∃ θ1 a1 st1, θ <+: θ1 ∧ Rn θ1 a1 x ∧ Mt θ1 st1 O1 ∧ Aft Rn θ1 ((fb ρ st1).bind fun b st2 => match o a1 b with
    | some (.bl true) => (fc ρ st2).bind fun c st3 => optR (o' b c) st3
    | some (.bl false) => .ok (.bl false) st2
    | _ => .bad) P R) R hρ f0 hW ⟨θ, ρ, st, ct, h.bind fun θ1 a a' st1 O1 s1 ra m1 h1 => ⟨θ1, a, st1, s1, ra, m1, h1⟩⟩ fun x O1 u G1 H1 ⟨θ1, a1, st1, s1, ra, m1, h1⟩ e1 f1 r1 => ?_
  refine hb.sem σ ρ' O1 G1 H1 _ (fun y O2 => ∃ θ2 b1 st2, θ1 <+: θ2 ∧ Rn θ2 b1 y ∧ Mt θ2 st2 O2 ∧ Aft Rn θ2 (match o a1 b1 with
    | some (.bl true) => (fc ρ st2).bind fun c st3 => optR (o' b1 c) st3
    | some (.bl false) => .ok (.bl false) st2
    | _ => .bad) P R) R (hρ.mono e1) f1 (hW.mono e1) ⟨θ1, ρ, st1, ct.step s1 m1, h1.bind fun θ2 b b' st2 O2 s2 rb m2 h2 => ⟨θ2, b, st2, s2, rb, m2, h2⟩⟩ fun y O2 v G2 H2 ⟨θ2, b1, st2, s2, rb, m2, h2⟩ e2 f2 r2 => ?_
  have e12 := e1.trans e2
  cases q : o a1 b1 with
  | none => rw [q] at h2; exact h2.elim
  | some d =>
    rw [q] at h2
    cases d with
    | bl t =>
      refine o2.sem u v x y G2 H2 _ (fun d => d = .bl t) (r1.mono e2) r2 (Frm.same f2) (ow.run θ2 a1 b1 x y (.bl t) _ (ra.mono s2) rb q fun d' rd => by cases rd; rfl) fun d z G3 H3 ed x3 r3 => ?_
      subst ed
      cases r3
      have e3 := (x3.out (Frm.same f2)).1
      have f3 := Frm.exts x3 f2
      refine ⟨t, rfl, ?_⟩
      cases t with
      | false => exact kk _ O2 _ G3 H3 (Aft.ok h2 (.bl false) m2) (e12.trans e3) f3 (.bl false)
      | true =>
        simp only [if_true]
        have e13 := e12.trans e3
        refine hc.sem σ ρ' O2 G3 H3 _ (fun c O3 => ∃ θ3 c1 st3, θ2 <+: θ3 ∧ Rn θ3 c1 c ∧ Mt θ3 st3 O3 ∧ Aft Rn θ3 (optR (o' b1 c1) st3) P R) R (hρ.mono e13) f3 (hW.mono e13) ⟨θ2, ρ, st2, ct.step (s1.trans s2) m2, Aft.bind (r := fc ρ st2) h2 fun θ3 c c' st3 O3 s3 rc m3 h3 => ⟨θ3, c, st3, s3, rc, m3, h3⟩⟩ fun c' O3 w3 G4 H4 ⟨θ3, c1, st3, s3, rc, m3, h3⟩ e4 f4 r4 => ?_
        cases q' : o' b1 c1 with
        | none => rw [q'] at h3; exact h3.elim
        | some d =>
          rw [q'] at h3
          refine o2'.sem v w3 y c' G4 H4 _ (fun d => P d O3) (r2.mono (e3.trans e4)) r4 (Frm.same f4) (ow'.run θ3 b1 c1 y c' d _ (rb.mono s3) rc q' fun d' rd => Aft.ok h3 rd m3) fun d z G5 H5 p x5 r5 => ?_
          exact kk d O3 z G5 H5 p ((e13.trans e4).trans (x5.out (Frm.same f4)).1) (Frm.exts x5 f4) r5
    | _ => exact h2.elim
section
variable {a b c : Expr} {fa fb fc : fE} {r r' : R2} {w w' : W2} {o o' : D → D → Option D} {op op' : CmpOp} {pos : Pos}
theorem fe_chain (o2 : Op2 X (compareOp op) r w) (ow : OW o w) (o2' : Op2 X (compareOp op') r' w') (ow' : OW o' w') (ha : FE X Φ W J a fa) (hb : FE X Φ W J b fb) (hc : FE X Φ W J c fc)
    (hm : lastMarks [op, op'] [b, c] = false := by with_unfolding_all rfl) : FE X Φ W J (.Compare a [op, op'] [b, c] pos) (fChain o o' fa fb fc) := by
  obtain ⟨_, ha⟩ := ha
  obtain ⟨_, hb⟩ := hb
  obtain ⟨_, hc⟩ := hc
  exact ⟨_, pe_chain o2.op o2'.op ha.pe hb.pe hc.pe hm, fun σ ρ' O G H Q P R hρ f0 hW h kk => chain_sem o2 ow o2' ow' ha hb hc hρ f0 hW h kk⟩
theorem ft_chain (o2 : Op2 X (compareOp op) r w) (ow : OW o w) (o2' : Op2 X (compareOp op') r' w') (ow' : OW o' w') (ha : FE X Φ W J a fa) (hb : FE X Φ W J b fb) (hc : FE X Φ W J c fc)
    (hm : lastMarks [op, op'] [b, c] = false := by with_unfolding_all rfl) : FT X Φ W J (.Compare a [op, op'] [b, c] pos) (fTest (fChain o o' fa fb fc)) := by
  obtain ⟨_, ha⟩ := ha
  obtain ⟨_, hb⟩ := hb
  obtain ⟨_, hc⟩ := hc
  refine ⟨_, pt_chain o2.op o2'.op ha.pe hb.pe hc.pe hm, fun σ ρ' O G H Q P R hρ f0 hW h kk => ?_⟩
  refine chain_sem o2 ow o2' ow' ha hb hc (P := fun d O1 => ∃ t, d = .bl t ∧ P t O1) hρ f0 hW ?_ fun d O1 v G1 H1 ⟨t, ed, p⟩ e1 f1 r1 => ?_
  · exact ftest_run h
  · subst ed
    cases r1
    exact ⟨t, rfl, kk t O1 G1 H1 p e1 f1⟩
end
end
end FL

set_option Elab.async false
set_option linter.all false
set_option maxRecDepth 100000
set_option maxHeartbeats 2000000
namespace FL
open PySem PySem.Spec PyProof.Rows L2 DL
/-! t[::-1] of a tuple -/
section
variable {prog : Program} {w : World} {A : Around} {E : Value → Shared → Prop} {s : Shared}
theorem back_adjust (n : Nat) : Builtin.Slice.sliceAdjust none none (-1) (n : Int) = ((n : Int) - 1, -1) := by
  unfold Builtin.Slice.sliceAdjust
  simp
theorem back_places (n : Nat) : Builtin.Slice.slicePlaces ((n : Int) - 1) (-1) (-1) = n := by
  unfold Builtin.Slice.slicePlaces
  have h1 : ¬ ((-1 : Int) > 0) := by omega
  rw [if_neg h1]
  by_cases h : (n : Int) - 1 > -1
  · rw [if_pos h, show (- -1 : Int) = 1 from rfl, Int.ediv_one]
    omega
  · rw [if_neg h]
    omega
theorem back_applied {sl : Addr} {va vb vc : Value} {n : Nat} {Q : Int × Int × Nat → Shared → Prop} (hs : s.heap.IsSliceOf sl va vb vc) (pa : IsPart va none) (pb : IsPart vb none) (pc : IsPart vc (some (-1))) (h : Q ((n : Int) - 1, -1, n) s) : wpAny (model prog w) A (Builtin.Slice.sliceApplied (.ref sl) (pure (n : Int))) Q E s := by
  obtain ⟨os, ho, _, hd⟩ := id hs
  unfold Builtin.Slice.sliceApplied Builtin.Slice.sliceFields
  refine wpAny_bind (wpAny_bind (wpAny_field ho hd (x := va) rfl (wpAny_bind (wpAny_field ho hd (x := vb) rfl (wpAny_bind (wpAny_field ho hd (x := vc) rfl (wpAny_pure ?_)))))))
  refine wpAny_bind (HT.slicePart_ pc ?_)
  show wpAny _ _ (if ((-1 : Int) == 0) = true then _ else _) _ _ s
  rw [if_neg (by decide)]
  refine wpAny_bind (HT.slicePart_ pa (wpAny_bind (HT.slicePart_ pb (wpAny_bind (wpAny_pure ?_)))))
  show wpAny _ _ (match Builtin.Slice.sliceAdjust none none (-1) (n : Int) with | (a, b) => pure (a, (-1 : Int), Builtin.Slice.slicePlaces a b (-1))) _ _ s
  rw [back_adjust]
  show wpAny _ _ (pure ((n : Int) - 1, (-1 : Int), Builtin.Slice.slicePlaces ((n : Int) - 1) (-1) (-1))) _ _ s
  rw [back_places]
  exact wpAny_pure h
theorem fm_congr {α β : Type} {f g : α → Option β} : ∀ {l : List α}, (∀ k ∈ l, f k = g k) → l.filterMap f = l.filterMap g
  | [], _ => rfl
  | a :: l, h => by
    rw [List.filterMap_cons, List.filterMap_cons, h a List.mem_cons_self, fm_congr fun k hk => h k (List.mem_cons_of_mem _ hk)]
theorem back_pick (xs : Array Value) : ((List.range xs.size).filterMap fun (k : Nat) => xs[(((xs.size : Int) - 1) + (k : Int) * (-1)).toNat]?).toArray = xs.toList.reverse.toArray := by
  have e : ∀ k ∈ List.range xs.size, xs[(((xs.size : Int) - 1) + (k : Int) * (-1)).toNat]? = xs[xs.size - 1 - k]? := fun k hk => by
    have := List.mem_range.mp hk
    congr 1
    omega
  rw [fm_congr e]
  have e2 : ((List.range xs.size).filterMap fun k => xs[xs.size - 1 - k]?) = ((List.range xs.size).map fun k => xs.size - 1 - k).filterMap (xs[·]?) := by rw [List.filterMap_map]; rfl
  rw [e2, PySem.W.krv_range, List.filterMap_reverse, PySem.W.krv_all]
theorem getItem_back {t sl : Addr} {items : Array Value} {va vb vc : Value} {Q : Value → Shared → Prop} (ht : IsTup s.heap t items) (hs : s.heap.IsSliceOf sl va vb vc) (pa : IsPart va none) (pb : IsPart vb none) (pc : IsPart vc (some (-1)))
    (h : Q (.ref s.heap.objs.size) { s with heap := s.heap.push { cls := .type "tuple", data := .seq items.toList.reverse.toArray } }) (hz : items.size ≤ sizeLine) : wpAny (model prog w) A (getItem (.ref t) (.ref sl)) Q E s := by
  have hk : sizeOk (.seq items.toList.reverse.toArray) := by
    show items.toList.reverse.toArray.size ≤ sizeLine
    simpa using hz
  obtain ⟨o, ho, hc, _⟩ := id hs
  have ty : s.TypeIs (.ref sl) "slice" := ⟨o, ho, hc⟩
  unfold getItem
  try with_reducible refine wpAny_holding ?_
  refine wpAny_bind (wpAny_sequenceKey ht.typeIs (by decide) ?_)
  refine wpAny_bind (wpAny_callSpecial?_slot (name := Str.ofString "__getitem__") ht.typeIs PyProof.Rows.slot_tuple_getitem (wpAny_call_entry PyProof.Rows.slot_tuple_getitem ht.typeIs entry_tuple_getitem ?_ (args_tuple_getitem _ _)))
  show wpAny _ _ (Builtin.Tuple.tupleItemsOf (.ref t) >>= _) _ _ s
  refine wpAny_bind (tupleItemsOf_ ht (wpAny_bind (wpAny_typeOf ty ?_)))
  rw [if_pos (by decide)]
  refine wpAny_bind (back_applied hs pa pb pc ?_)
  show wpAny _ _ (if (((items.size : Int) - 1 == 0) && ((-1 : Int) == 1) && (items.size == items.size)) = true then _ else _) _ _ s
  rw [if_neg (by simp), back_pick]
  first
    | exact wpAny_bind (m := Builtin.Tuple.tupleExact _) (wpAny_newObj_type (wpAny_pure ⟨_, rfl, wpAny_pure h⟩) hk)
    | exact wpAny_bind (m := Builtin.Tuple.tupleExact _) (wpAny_newObj_type (wpAny_bind (wpAny_pure (wpAny_pure ⟨_, rfl, wpAny_pure h⟩))) hk)
    | exact wpAny_bind (wpAny_bind (m := Builtin.Tuple.tupleExact _) (wpAny_newObj_type (wpAny_pure (wpAny_pure ⟨_, rfl, wpAny_pure h⟩)) hk))
    | exact wpAny_bind (wpAny_bind (m := Builtin.Tuple.tupleExact _) (wpAny_newObj_type (wpAny_pure ⟨_, rfl, wpAny_pure h⟩) hk))
end
def tBack (K : PySem.W.Frag) (te : TE) : TE := fun σ H Q => te σ H fun x H1 => ∃ a xs, x = .ref a ∧ ((SqL K H1 a xs ∧ ∀ p, H1 p = none → Q (.ref p) (upd H1 p (.lst xs.reverse))) ∨ (SqT K H1 a xs ∧ ∀ p, H1 p = none → Q (.ref p) (upd H1 p (.tup xs.reverse))))
section
variable {X : Cx} {Φ : OH → Hp → Hp → Prop} {W : WX} [FΦ : OFrm X.K X.mg Φ] {J : Jv}
theorem pe_back {e : Expr} {te : TE} {k : Nat} {p1 p2 p3 pos : Pos} (he : PE X e te) : PE X (.Subscript e (.Slice none none (some (.UnaryOp .USub (.Constant (.int 1) k p1) p2)) p3) pos) (tBack X.K te) := by
  refine ⟨fun pins s σ H Q I h => ?_⟩
  refine Subscript_ (thn (he.run pins s σ H _ I h) fun v s1 ⟨x, H1, I1, r1, a, xs, ex, q⟩ => ?_)
  subst ex
  cases r1
  have step : PO X (some (.UnaryOp .USub (.Constant (.int 1) k p1) p2)) (tPart (tUn (rU fun i => .int (-i)) (tC (.int 1)))) := po_some (pe_un un_neg pe_int)
  refine wpAny_Slice (thn (po_none.run pins s1 σ H1 (fun o Hx => o = none ∧ Hx = H1) I1 ⟨rfl, rfl⟩) fun va s2 ⟨l, H2, I2, pa, el, e2⟩ => ?_)
  subst el e2
  refine thn (po_none.run pins s2 σ H2 (fun o Hx => o = none ∧ Hx = H2) I2 ⟨rfl, rfl⟩) fun vb s3 ⟨u, H3, I3, pb, eu, e3⟩ => ?_
  subst eu e3
  refine thn (step.run pins s3 σ H3 (fun o Hx => o = some (-1) ∧ Hx = H3) I3 ⟨1, rfl, -1, rfl, rfl, rfl⟩) fun vc s4 ⟨o, H4, I4, pc, eo, e4⟩ => ?_
  subst eo e4
  have I5 : Inv X pins σ H4 { s4 with heap := s4.heap.push { cls := .type "slice", data := .fields #[va, vb, vc] } } := I4.kept (t' := s4.toks) fun b ob z => Heap.get?_push_of_some _ z
  show wpAny (model X.prog X.w) X.A (subscriptTail e (.Slice none none (some (.UnaryOp .USub (.Constant (.int 1) k p1) p2)) p3) (.ref a) (.ref s4.heap.objs.size)) (EP X pins σ Q) X.xe { s4 with heap := s4.heap.push { cls := .type "slice", data := .fields #[va, vb, vc] } }
  rcases q with ⟨hx, q⟩ | ⟨hx, q⟩
  · obtain ⟨its, r, ht, hz⟩ := I5.list hx
    have hl := r.length
    refine tail_any (ops := [.ref a, .ref s4.heap.objs.size]) ht.isList.typeIs (PySem.slot_list_getitem.lookup) ?_ (by with_unfolding_all rfl)
    refine wpAny_getItem_list_slice ht.isList (Heap.IsSliceOf.new _ va vb vc) pa pb pc (by decide) ?_ (by rw [List.size_toArray]; omega)
    rw [PySem.W.krv_pick]
    refine ⟨.ref _, _, I5.laid (t' := s4.toks) (o := .lst xs.reverse) (fun b ob z => Heap.get?_push_of_some _ z) (Nat.le_refl _) ?_, rfl, q _ (I5.hok.fresh (Nat.le_refl _))⟩
    exact ⟨by rw [List.length_reverse]; exact hz, _, 0, r.reverse, Heap.get?_push_size _ rfl⟩
  · obtain ⟨its, r, ht, hz⟩ := I5.tuple hx
    have hl := r.length
    refine tail_any (ops := [.ref a, .ref s4.heap.objs.size]) ht.typeIs (PyProof.Rows.slot_tuple_getitem.lookup) ?_ (by with_unfolding_all rfl)
    refine getItem_back ht (Heap.IsSliceOf.new _ va vb vc) pa pb pc ?_ (by rw [List.size_toArray]; omega)
    refine ⟨.ref _, _, I5.laid (t' := s4.toks) (o := .tup xs.reverse) (fun b ob z => Heap.get?_push_of_some _ z) (Nat.le_refl _) ?_, rfl, q _ (I5.hok.fresh (Nat.le_refl _))⟩
    exact ⟨by rw [List.length_reverse]; exact hz, its.toArray.toList.reverse, by simpa using r.reverse, IsTup.new _ _⟩
def fBack (m : fE) : fE := fun ρ st => (m ρ st).bind fun x st1 => match x with
  | .lst ds => .ok (.lst ds.reverse) st1
  | .frz ds => .ok (.lst ds.reverse) st1
  | .tup ds => .ok (.tup ds.reverse) st1
  | _ => .bad
theorem fe_back {e : Expr} {f : fE} {k : Nat} {p1 p2 p3 pos : Pos} (h : FE X Φ W J e f) : FE X Φ W J (.Subscript e (.Slice none none (some (.UnaryOp .USub (.Constant (.int 1) k p1) p2)) p3) pos) (fBack f) := by
  obtain ⟨te, h⟩ := h
  refine ⟨_, pe_back h.pe, fun σ ρ' O G H Q P R hρ f0 hW ⟨θ, ρ, st, c, hh⟩ kk => ?_⟩
  refine h.sem σ ρ' O G H _ (fun x O1 => (∃ ds, (x = .lst ds ∨ x = .frz ds) ∧ P (.lst ds.reverse) O1) ∨ ∃ ds, x = .tup ds ∧ P (.tup ds.reverse) O1) R hρ f0 hW ⟨θ, ρ, st, c, hh.bind fun θ1 a a' st1 O1 s1 ra m1 h1 => ?_⟩ fun x O1 v G1 H1 hx e1 f1 r1 => ?_
  · cases ra <;> try (exact h1.elim)
    · rename_i r
      exact .inl ⟨_, .inl rfl, Aft.ok h1 (.lst r.rev) m1⟩
    · rename_i r
      exact .inr ⟨_, rfl, Aft.ok h1 (.tup r.rev) m1⟩
    · rename_i r
      exact .inl ⟨_, .inr rfl, Aft.ok h1 (.lst r.rev) m1⟩
  · have sm := Frm.same f1
    rcases hx with ⟨ds, ex | ex, p⟩ | ⟨ds, ex, p⟩ <;> subst ex
    · cases r1 with
      | lst h l => exact ⟨_, _, rfl, .inl ⟨SqL.of (sm _ _ h), fun z nz => kk _ O1 _ _ _ p (e1.trans (same_new (sm.free nz))) (Frm.ext f1 nz) (.lst upd_same (l.rev.mono (same_new (sm.free nz))))⟩⟩
    · cases r1 with
      | frz h l => exact ⟨_, _, rfl, .inl ⟨sql_mono sm h.sql, fun z nz => kk _ O1 _ _ _ p (e1.trans (same_new (sm.free nz))) (Frm.ext f1 nz) (.lst upd_same (l.rev.mono (same_new (sm.free nz))))⟩⟩
    · cases r1 with
      | tup h l => exact ⟨_, _, rfl, .inr ⟨sqt_mono sm h, fun z nz => kk _ O1 _ _ _ p (e1.trans (same_new (sm.free nz))) (Frm.ext f1 nz) (.tup (SqT.of upd_same) (l.rev.mono (same_new (sm.free nz))))⟩⟩
end
end FL

set_option Elab.async false
set_option linter.all false
set_option maxRecDepth 100000
set_option maxHeartbeats 4000000
namespace FL
open PySem PySem.Spec PyProof.Rows L2 DL
/-! enumerate(e), e a list or a tuple -/
theorem meets_enumB {v : Value} {o : Obj} {H : Heap → Prop} (B : Begins v o H) :
    Meets (Builtin.«enumerate.__new__» ⟨[.type "enumerate", v], []⟩) (fun _ R s => H s.heap ∧
      R (.ok (.ret (.ref (s.heap.push o).objs.size))) { s with heap := (s.heap.push o).push { cls := .type "enumerate", data := .fields #[.none, .bool false, .ref s.heap.objs.size, rawInt 0, .none, .none] } }) :=
  .of_wp fun prog w A R s h => by
    obtain ⟨hp, g, d, tk, os⟩ := s; obtain ⟨hv, h⟩ := h
    have hsub := sub_enumerate
    have it : ∀ {A' : Around} {E : Value → Shared → Prop} {Q : Value → Shared → Prop}, Q (.ref hp.objs.size) ⟨hp.push o, g, d, tk, os⟩ → wpAny (model prog w) A' (pyIter v) Q E ⟨hp, g, d, tk, os⟩ := fun q => B.iter prog w _ _ ⟨hp, g, d, tk, os⟩ _ hv q
    wp_walk using it
    refine wpAny_stack_any fun sk => wpAny_pure ?_
    split
    · rename_i c _ _ _ _ _
      cases (c == Value.type "enumerate") <;> (wp_walk using it; exact ⟨_, rfl, h⟩)
    · wp_walk using it
      exact ⟨_, rfl, h⟩
section
variable {prog : Program} {w : World} {A : Around} {E : Value → Shared → Prop} {s : Shared}
theorem enum_beginsB {v : Value} {o : Obj} {H : Heap → Prop} {Q : Value → Shared → Prop} (B : Begins v o H) (hv : H s.heap)
    (h : ∀ h', IsEnum h' (s.heap.objs.size + 1) s.heap.objs.size 0 .none → h'.get? s.heap.objs.size = some o → (∀ b o, s.heap.get? b = some o → h'.get? b = some o) → Q (.ref (s.heap.objs.size + 1)) { s with heap := h' }) :
    wpAny (model prog w) A (call (.type "enumerate") [v]) Q E s := by
  refine callType_new F.called_enumerate (by decide) (F.typeCall_enumerate_1 _) (F.newCall_enumerate_1 _) (fun obj => F.args_object_init_2 obj _) F.entry_enumerate_new (meets_enumB B) ⟨hv, ?_⟩
  have hz : (s.heap.push o).objs.size = s.heap.objs.size + 1 := Heap.size_push ..
  show _ ∧ _
  rw [hz]
  have he : IsEnum ((s.heap.push o).push { cls := .type "enumerate", data := .fields #[.none, .bool false, .ref s.heap.objs.size, rawInt 0, .none, .none] }) (s.heap.objs.size + 1) s.heap.objs.size 0 .none := by
    have q := Heap.get?_push_size (s.heap.push o) (o := { cls := .type "enumerate", data := .fields #[.none, .bool false, .ref s.heap.objs.size, rawInt 0, .none, .none] }) rfl
    rwa [hz] at q
  exact ⟨⟨_, he, rfl⟩, h _ he (Heap.get?_push_of_some _ (Heap.get?_push_size _ B.free)) fun b o x => Heap.get?_push_of_some _ (Heap.get?_push_of_some _ x)⟩
end
/-- the tuple at a, its items with their places in new pairs -/
def Itet (K : PySem.W.Frag) (a : Addr) : It :=
  ⟨fun i H => ∃ (xs : List V) (x : V), SqT K H a xs ∧ xs[i]? = some x, fun i H v H' => ∃ T x, v = .ref T ∧ H T = none ∧ H' = upd H T (.tup [.int (i : Nat), x]) ∧ ∀ xs, SqT K H a xs → xs[i]? = some x, fun i H => ∃ xs : List V, SqT K H a xs ∧ xs.length = i⟩
theorem turn_enumT {P : Program} {w : World} {K : PySem.W.Frag} {elts : List Expr} {kk : Nat} {tpos : Pos} (a e it : Addr) :
    Turn P w K (.Tuple elts kk tpos) (Itet K a) [e, it] e (fun i h => (∃ old, IsEnum h e it ((i : Nat) : Int) old) ∧ h.IsTupleIter it a i ∧ e ≠ it) where
  mem := List.mem_cons_self
  obj := fun i h ⟨⟨old, he⟩, ⟨o, ho, _, hd⟩, _⟩ b hb => by
    rcases List.mem_cons.mp hb with rfl | hb
    · exact ⟨_, he, fun v q => nomatch q⟩
    · rw [List.mem_singleton.mp hb]
      exact ⟨o, ho, fun v q => by rw [hd] at q; cases q⟩
  keep := fun i h h' ⟨⟨old, he⟩, hi, hne⟩ k => ⟨⟨old, k e List.mem_cons_self _ he⟩, hi.at fun o q => k it (List.mem_cons_of_mem _ List.mem_cons_self) o q, hne⟩
  item := by
    intro X hP hw hK hc i pins s σ H E I hf ⟨⟨old, he⟩, hit, hne⟩ ⟨xs, x, hq, hx⟩
    subst hP hw hK
    obtain ⟨its, rv, p, hz⟩ := I.tuple hq
    obtain ⟨u, hu, ru⟩ := rv.get hx
    have lte : e < s.heap.objs.size := Heap.lt_size he
    have lti : it < s.heap.objs.size := by obtain ⟨_, q, _⟩ := hit; exact Heap.lt_size q
    have nea : e ≠ a := fun z => by
      obtain ⟨o, ho, hcl, _⟩ := p
      rw [← z, he] at ho
      cases ho
      injection hcl with q
      exact absurd q (by decide)
    have nia : a ≠ it := fun z => by
      obtain ⟨o, ho, hcl, _⟩ := p
      obtain ⟨o2, ho2, hcl2, _⟩ := hit
      rw [z, ho2] at ho
      cases ho
      rw [hcl2] at hcl
      injection hcl with q
      exact absurd q (by decide)
    have D := Draws.tuple (prog := X.prog) (w := X.w) (A := X.A.in1) (I.ok.hd hc) it a nia its.toArray
    have hi : i < its.toArray.size := by
      have q := (List.getElem?_eq_some_iff.mp hu).1
      simpa using q
    refine wpAny_pyNext_enum_itemC (c := (i : Int)) D he ⟨hit, p⟩ hi hne (fun q => by simp at q; exact q.elim hne nea) fun y h' tk hy ho hs' hT hsz hk => ?_
    have ey : y = u := by
      have q : its[i]? = some y := by simpa using hy
      rw [hu] at q
      exact (Option.some.inj q).symm
    subst ey
    refine ⟨_, rfl, wpAny_letOwnedTupleGo_enum (s := { s with heap := h', toks := tk + 1 }) ho fun h2 he2 sb => ?_⟩
    have hT2 : h2.get? s.heap.objs.size = some { cls := .type "tuple", data := .seq #[.int i tk, y] } := (sb.2 _ (Nat.ne_of_gt lte)).trans hT
    have new : ObjOk X.prog X.w (upd H s.heap.objs.size (.tup [.int (i : Nat), x])) h2 s.heap.objs.size (.tup [.int (i : Nat), x]) :=
      ⟨by show 2 ≤ sizeLine; decide, [.int i tk, y], .cons ⟨_, rfl⟩ (.cons ru .nil), ⟨_, hT2, rfl, _, rfl⟩⟩
    have kp : ∀ b o, b ∉ [e, it] → s.heap.get? b = some o → h2.get? b = some o := fun b o hb q => by
      have n1 : b ≠ e := fun z => hb (by rw [z]; exact List.mem_cons_self)
      have n2 : b ≠ it := fun z => hb (by rw [z]; exact List.mem_cons_of_mem _ List.mem_cons_self)
      exact (sb.2 b n1).trans (hk b o n1 n2 q)
    have I1 : Inv X pins σ (upd H s.heap.objs.size (.tup [.int (i : Nat), x])) { s with heap := h2, toks := tk + 1 } := I.turnedNew (ch := [e, it]) kp hf (Nat.le_refl _) new
    refine ⟨.ref s.heap.objs.size, _, I1, rfl, ⟨_, x, rfl, I.hok.fresh (Nat.le_refl _), rfl, fun ys hy2 => by rw [I.tuple_inj hy2 hq]; exact hx⟩, ⟨⟨y, ?_⟩, hs'.1.at fun o q => (sb.2 it (Ne.symm hne)).trans q, hne⟩, fun b hb => ?_⟩
    · have e1 : ((i + 1 : Nat) : Int) = (i : Int) + 1 := by omega
      rw [e1]
      exact he2
    · have lb : b < s.heap.objs.size := by
        rcases List.mem_cons.mp hb with z | z
        · rw [z]; exact lte
        · rw [List.mem_singleton.mp z]; exact lti
      rw [upd_ne (Nat.ne_of_lt lb)]
      exact (hf b hb).1
  done := by
    intro X hP hw hK hc i pins s σ H E I hf ⟨⟨old, he⟩, hit, hne⟩ ⟨xs, hq, hx⟩
    subst hP hw hK hx
    obtain ⟨its, rv, p, hz⟩ := I.tuple hq
    obtain ⟨f0, f1, f2, f3, f4, f5⟩ := hf it (List.mem_cons_of_mem _ List.mem_cons_self)
    have nia : a ≠ it := fun z => by
      obtain ⟨o, ho, hcl, _⟩ := p
      obtain ⟨o2, ho2, hcl2, _⟩ := hit
      rw [z, ho2] at ho
      cases ho
      rw [hcl2] at hcl
      injection hcl with q
      exact absurd q (by decide)
    have D := Draws.tuple (prog := X.prog) (w := X.w) (A := X.A.in1) (I.ok.hd hc) it a nia its.toArray
    have hl : xs.length = its.toArray.size := by rw [List.size_toArray]; exact rv.length
    rw [hl] at hit he
    exact wpAny_pyNext_enum_endD D he ⟨hit, p⟩ fun h' eb => ⟨rfl, I.turned (t' := s.toks) (fun b o hb q => eb b o hb q) f0 f1 f3 f4 f5⟩
  self := fun A i s Q E ⟨⟨_, he⟩, _⟩ h => wpAny_pyIter_enum he h
def iEnA (K : PySem.W.Frag) (ta : TA) : TI := fun σ H R => ta σ H fun vs H1 => ∃ a, vs = [.ref a] ∧ ((∃ xs, SqL K H1 a xs ∧ R (Ite K a) H1) ∨ ∃ xs, SqT K H1 a xs ∧ R (Itet K a) H1)
theorem pi_enumA {X : Cx} {e : Expr} {ta : TA} {p pos tpos : Pos} {elts : List Expr} {kk : Nat} (hg : Gl X "enumerate") (hm : X.mg "enumerate" = none) (ha : PA X [e] ta) (hs : starEach [e] X.env = [(false, eval e X.env)] := by rfl) :
    PI X (.Tuple elts kk tpos) (.Call (.Name "enumerate" p) [e] [] pos) (iEnA X.K ta) := by
  refine ⟨fun pins s σ H R I h => ?_⟩
  refine Call_ (ld_blt I hg hm boot_enumerate (PyProof.Rows.callWith_type1 (thn (ha.run pos pins s σ H _ I h) fun us s1 ⟨vs, H1, I1, r1, a, ex, q⟩ => ?_) hs rfl))
  subst ex
  cases r1 with
  | cons r rr =>
    cases rr
    cases r
    have fp : ∀ b ∈ [s1.heap.objs.size + 1, s1.heap.objs.size], FpOk X pins H1 b := fun b hb => by
      have lb : s1.heap.objs.size ≤ b := by
        rcases List.mem_cons.mp hb with z | z
        · rw [z]; exact Nat.le_succ _
        · rw [List.mem_singleton.mp z]; exact Nat.le_refl _
      exact I1.fpOk lb (I1.hok.fresh lb)
    rcases q with ⟨xs, hq, q⟩ | ⟨xs, hq, q⟩
    · obtain ⟨its, rv, pl, hz⟩ := I1.list hq
      refine call_enumerate_list pl.isList fun h2 he hit _ kp => wpAny_pyIter_enum he ?_
      exact ⟨_, _, _, _, H1, rfl, I1.kept (t' := s1.toks) kp, turn_enum a (s1.heap.objs.size + 1) s1.heap.objs.size, ⟨⟨.none, he⟩, hit, Nat.succ_ne_self _⟩, fp, q⟩
    · obtain ⟨its, rv, pt, hz⟩ := I1.tuple hq
      refine enum_beginsB (begins_tuple a its.toArray) pt fun h2 he ho kp => wpAny_pyIter_enum he ?_
      exact ⟨_, _, _, _, H1, rfl, I1.kept (t' := s1.toks) kp, turn_enumT a (s1.heap.objs.size + 1) s1.heap.objs.size, ⟨⟨.none, he⟩, ⟨_, ho, rfl, rfl⟩, Nat.succ_ne_self _⟩, fp, q⟩
section
variable {K : PySem.W.Frag} {mg : Str → Option Value} {G : Hp}
/-- the trees with their places -/
def enumD (k : Nat) : List D → List D
  | [] => []
  | d :: ds => .tup [.int (k : Nat), d] :: enumD (k + 1) ds
theorem enumD_len : ∀ {ds : List D} {k : Nat}, (enumD k ds).length = ds.length
  | [], _ => rfl
  | d :: ds, k => by rw [enumD, List.length_cons, enumD_len, List.length_cons]
theorem enumD_at : ∀ {ds : List D} {k i : Nat} {d : D}, ds[i]? = some d → (enumD k ds)[i]? = some (.tup [.int ((k + i : Nat) : Nat), d])
  | [], _, _, _, h => by simp at h
  | e :: ds, k, 0, d, h => by
    simp at h
    subst h
    rfl
  | e :: ds, k, i + 1, d, h => by
    have q := enumD_at (k := k + 1) (i := i) (d := d) (by simpa using h)
    rw [enumD, List.getElem?_cons_succ, q]
    congr 5
    omega
theorem y_enumL {a : Addr} {vs : List V} {ds : List D} (h : SqL K G a vs) (r : RpL K mg G vs ds) : Yields K mg (Ite K a) G (enumD 0 ds) := fun G' H e e' => by
  have hq : SqL K H a vs := sql_mono (e.trans e') h
  have hl := r.len
  rw [enumD_len]
  refine ⟨fun i hi => ⟨vs, vs[i]'(by omega), hq, by simp [hl, hi]⟩, ⟨vs, hq, by omega⟩, fun i x H' hi ⟨T, y, ex, nT, eH, hy⟩ => ?_⟩
  subst ex eH
  obtain ⟨d, h1, h2⟩ := r.atV (hy vs hq)
  have sg := same_new (o := HO.tup [.int (i : Nat), y]) (e'.free nT)
  refine ⟨_, .one nT, _, enumD_at h1, .tup (SqT.of upd_same) ?_⟩
  rw [Nat.zero_add]
  exact .cons (.int _) (.cons ((h2.mono e).mono sg) .nil)
theorem y_enumT {a : Addr} {vs : List V} {ds : List D} (h : SqT K G a vs) (r : RpL K mg G vs ds) : Yields K mg (Itet K a) G (enumD 0 ds) := fun G' H e e' => by
  have hq : SqT K H a vs := sqt_mono (e.trans e') h
  have hl := r.len
  rw [enumD_len]
  refine ⟨fun i hi => ⟨vs, vs[i]'(by omega), hq, by simp [hl, hi]⟩, ⟨vs, hq, hl⟩, fun i x H' hi ⟨T, y, ex, nT, eH, hy⟩ => ?_⟩
  subst ex eH
  obtain ⟨d, h1, h2⟩ := r.atV (hy vs hq)
  have sg := same_new (o := HO.tup [.int (i : Nat), y]) (e'.free nT)
  refine ⟨_, .one nT, _, enumD_at h1, .tup (SqT.of upd_same) ?_⟩
  rw [Nat.zero_add]
  exact .cons (.int _) (.cons ((h2.mono e).mono sg) .nil)
end
theorem enumD_rn {θ : Th} : ∀ {a b : List D} {k : Nat}, RnL θ a b → RnL θ (enumD k a) (enumD k b)
  | _, _, _, .nil => .nil
  | _, _, _, .cons r rl => .cons (.tup (.cons (.int _) (.cons r .nil))) (enumD_rn rl)
def iEn (f : fE) : fA := fun ρ st => (f ρ st).bind fun d st1 => match seqOf d with
  | some ds => .ok (enumD 0 ds) st1
  | none => .bad
section
variable {X : Cx} {Φ : OH → Hp → Hp → Prop} {W : WX} [FΦ : OFrm X.K X.mg Φ] {J : Jv}
theorem fi_enum {e : Expr} {f : fE} {p pos tpos : Pos} {elts : List Expr} {kk : Nat} (hg : Gl X "enumerate") (hm : X.mg "enumerate" = none) (h : FE X Φ W J e f) (hs : starEach [e] X.env = [(false, eval e X.env)] := by rfl) :
    FI X Φ W J (.Tuple elts kk tpos) (.Call (.Name "enumerate" p) [e] [] pos) (iEn f) := by
  obtain ⟨te, h⟩ := h
  refine ⟨_, pi_enumA hg hm (pa_cons h.pe pa_nil (by exact hs)) hs, fun σ ρ' O G H Q P R hρ f0 hW ⟨θ, ρ, st, c, hh⟩ kk => ?_⟩
  refine h.sem σ ρ' O G H _ (fun x O1 => ∃ ds, seqOf x = some ds ∧ P (enumD 0 ds) O1) R hρ f0 hW ⟨θ, ρ, st, c, hh.bind fun θ1 a a' st1 O1 s1 ra m1 h1 => ?_⟩ fun x O1 v G1 H1 ⟨ds, hx, p⟩ e1 f1 r1 => ?_
  · cases ra <;> try (exact h1.elim)
    all_goals
      rename_i r
      exact ⟨_, rfl, Aft.ok h1 (enumD_rn r) m1⟩
  · have sm := Frm.same f1
    show ∃ a, _
    cases r1 with
    | lst h l =>
      cases hx
      exact ⟨_, rfl, .inl ⟨_, SqL.of (sm _ _ h), kk _ O1 _ G1 H1 p e1 f1 (y_enumL (SqL.of h) l)⟩⟩
    | tup h l =>
      cases hx
      exact ⟨_, rfl, .inr ⟨_, sqt_mono sm h, kk _ O1 _ G1 H1 p e1 f1 (y_enumT h l)⟩⟩
    | frz h l =>
      cases hx
      exact ⟨_, rfl, .inl ⟨_, sql_mono sm h.sql, kk _ O1 _ G1 H1 p e1 f1 (y_enumL h.sql l)⟩⟩
    | _ => cases hx
end
end FL

set_option Elab.async false
set_option linter.all false
set_option maxRecDepth 100000
set_option maxHeartbeats 4000000
namespace FL
open PySem PySem.Spec PyProof.Rows L2 DL
/-! t * 1 of a tuple: the tuple itself -/
theorem tuple_mul_one (l : Addr) (items : Array Value) (n : Nat) (dd : Option Addr) (sl : Array (Option Value)) (u : Tok) :
    Meets (Builtin.«tuple.__mul__» ⟨[.ref l, .int 1 u], []⟩) (fun _ R s => s.heap.get? l = some { cls := .type "tuple", dict := dd, data := .seq items n, slots := sl } ∧ R (.ok (.ret (Value.ref l))) s) :=
  .of_wp fun prog w A R s h => by
    obtain ⟨hp, g, d, tk, os⟩ := s
    obtain ⟨hl, h⟩ := h
    have f1 := AutoSeq1.idx_int
    wp_walk using wpAny_loadPart' hl
    exact ⟨_, rfl, h⟩
def rRep1 (K : PySem.W.Frag) : R2 := fun x y H Q => ∃ l xs, x = .ref l ∧ y = .int 1 ∧ SqT K H l xs ∧ Q (.ref l) H
section
variable {X : Cx}
theorem op_rep1 : OpR X (binaryOp .Mult) (rRep1 X.K) := by
  intro pins s σ H x y v u Q I rx ry ⟨l, xs, ex, ey, hT, q⟩
  subst ex ey
  cases rx
  obtain ⟨t, rfl⟩ := ry
  obtain ⟨its, r, ⟨⟨cl, dd, dt, sl⟩, ho, hc, n, hd⟩, _⟩ := I.tuple hT
  simp only at hc hd
  subst hc hd
  exact wpAny_binaryOp_repeat_ref (T := "tuple") (U := "int") (by decide) ⟨_, ho, rfl⟩ (fun s' => typeIs_int s' 1 t) noFill_tuple_mul F.fills_int_mul F.slot_int_rmul repeat_tuple F.slot_int_index.lookup
    (call_meets F.slot_int_rmul (typeIs_int s 1 t) F.entry_int_rmul (F.args_int_rmul_2 _ _) (int_rmul_tuple 1 t l its.toArray n dd sl)
      ⟨ho, rfl, ⟨_, ho, rfl⟩, call_meets F.slot_tuple_mul ⟨_, ho, rfl⟩ F.entry_tuple_mul (F.args_tuple_mul_2 _ _) (tuple_mul_one l its.toArray n dd sl t) ⟨ho, ⟨.ref l, H, I, rfl, q⟩⟩⟩)
def wMul1 : W2 := fun a b P => wMul a b P ∨ ∃ x, a = .tup x ∧ b = .int 1 ∧ P (.tup x)
def rMulX (K : PySem.W.Frag) : R2 := fun x y H Q => rI CMul (fun i j => .int (i * j)) x y H Q ∨ rI CMulW (fun i j => .int (i * j)) x y H Q ∨ rRep x y H Q ∨ rRepT K x y H Q
theorem o_mul1 : Op2 X (binaryOp .Mult) (fun x y H Q => rMulX X.K x y H Q ∨ rRep1 X.K x y H Q) wMul1 := by
  refine ⟨o_mul.op.or op_rep1, fun x y a b G H Q P ra rb sm h k => ?_⟩
  rcases h with h | ⟨z, ea, eb, h⟩
  · exact .inl (o_mul.sem x y a b G H Q P ra rb sm h k)
  · subst ea eb
    cases rb
    have ra' := ra
    cases ra with
    | tup p q => exact .inr ⟨_, _, rfl, rfl, sqt_mono sm p, k _ _ G H h .refl ra'⟩
def oMul1 : D → D → Option D
  | .tup x, .int k => if k = 1 then some (.tup x) else oMul (.tup x) (.int k)
  | a, b => oMul a b
theorem ow_mul1 : OW oMul1 wMul1 := ⟨fun θ a b a' b' d P ra rb h k => by
  by_cases q : ∃ x, a = .tup x ∧ b = .int 1
  · obtain ⟨x, ea, eb⟩ := q
    subst ea eb
    cases ra with
    | tup r =>
      cases rb
      simp only [oMul1, if_true] at h
      cases h
      exact .inr ⟨_, rfl, rfl, k _ (.tup r)⟩
  · refine .inl (ow_mul.run θ a b a' b' d P ra rb ?_ k)
    revert h q
    cases a <;> cases b <;> first | exact fun q h => h | exact fun h q => h | skip
    rename_i x i
    intro h q
    simp only [oMul1] at h
    split at h
    · rename_i e
      exact absurd ⟨x, rfl, by rw [e]⟩ q
    · exact h⟩
end
section
variable {X : Cx} {Φ : OH → Hp → Hp → Prop} {W : WX} [FΦ : OFrm X.K X.mg Φ] {J : Jv}
/-! xs[i] += e of one's own list, ints -/
theorem get_list : PGet X fun o i H Q => ∃ p xs k z, o = .ref p ∧ i = .int k ∧ H p = some (.lst xs) ∧ atI xs k = some z ∧ Q z H := by
  intro pins s σ H o i ov iv Q I ro ri ⟨p, xs, k, z, eo, ei, hp, hz, q⟩
  subst eo ei
  cases ro
  obtain ⟨t, rfl⟩ := ri
  obtain ⟨its, r, pl, hs⟩ := I.list (SqL.of hp)
  obtain ⟨j, h1, h2, h3, h4, h5⟩ := atI_get hz
  obtain ⟨w, ew, rw'⟩ := r.get h2
  have hl := r.length
  have hn := line63
  have fin : EP X pins σ Q w s := ⟨z, H, I, rw', q⟩
  by_cases h0 : 0 ≤ k
  · have hj : k.toNat = j := by
      rw [seqIndex_of h0 h5] at h1
      exact Option.some.inj h1
    exact wpAny_getItem_list pl.isList h0 (by omega) (by rw [hj]; simpa using ew) fin
  · have hj : (k + (its.toArray.size : Int)).toNat = j := by
      rw [seqIndex_neg (by omega) h4] at h1
      rw [List.size_toArray, ← hl]
      exact Option.some.inj h1
    exact wpAny_getItem_list_neg pl.isList (by omega) (by rw [List.size_toArray] <;> omega) (by omega) (by rw [hj]; simpa using ew) fin
structure IpOk (X : Cx) (op : Operator) (g : Int → Int → Int) : Prop where
  ip : PIp X op (ipI g)
theorem ip_addO : IpOk X .Add fun i j => i + j := ⟨ip_add⟩
theorem ip_subO : IpOk X .Sub fun i j => i - j := ⟨ip_sub⟩
def augK (g : Int → Int → Int) (ρ : Rho) (st : St) (a : Addr) (k i j : Int) : RS := match st[a]? with
  | some (some (.lst ds)) => match ixN ds.length k with
    | some n => .nx ρ (st.set a (some (.lst (ds.set n (.int (g i j))))))
    | none => .bad
  | _ => .bad
def augE (g : Int → Int → Int) (ρ : Rho) (st : St) (a : Addr) (k i : Int) (d : D) : RS := match d with
  | .int j => augK g ρ st a k i j
  | _ => .bad
def augI (ds : List D) (k : Int) : Option Int := match atI ds k with
  | some (.int i) => some i
  | _ => none
def augO (st : St) (x y : D) : Option (Addr × Int × Int) := match x, y with
  | .loc a, .int k => match st[a]? with
    | some (some (.lst ds)) => (augI ds k).map fun i => (a, k, i)
    | _ => none
  | _, _ => none
def fAugS (g : Int → Int → Int) (o i e : fE) : fS := fun ρ st => stB (o ρ st) ρ fun x st1 => stB (i ρ st1) ρ fun y st2 => match augO st2 x y with
  | some (a, k, i) => stB (e ρ st2) ρ fun d st3 => augE g ρ st3 a k i d
  | none => .bad
theorem augO_run {θ : Th} {st : St} {O : OH} {x y x' y' : D} {r : Addr × Int × Int} (m : Mt θ st O) (rx : Rn θ x x') (ry : Rn θ y y') (h : augO st x y = some r) : ∃ p ds', x' = .loc p ∧ θ[r.1]? = some p ∧ y' = .int r.2.1 ∧ O p = some (.lst ds') ∧ atI ds' r.2.1 = some (.int r.2.2) := by
  cases rx <;> cases ry <;> try (cases h; done)
  rename_i a p hp k
  unfold augO at h
  simp only at h
  cases w : st[a]? with
  | none => rw [w] at h; cases h
  | some u =>
    cases u with
    | none => rw [w] at h; cases h
    | some z =>
      rw [w] at h
      obtain ⟨z', h1, h2⟩ := m.at w hp
      cases h2 with
      | @lst ds ds' rl =>
        simp only [Option.map_eq_some_iff] at h
        obtain ⟨i, hi, e⟩ := h
        subst e
        unfold augI at hi
        cases q : atI ds k with
        | none => rw [q] at hi; cases hi
        | some d =>
          rw [q] at hi
          obtain ⟨d', h3, h4⟩ := at_rn rl q
          cases h4 <;> try (cases hi; done)
          cases hi
          exact ⟨p, ds', rfl, hp, rfl, h1, h3⟩
      | _ => cases h
theorem fs_augS {op : Operator} {gi : Int → Int → Int} {o i e : Expr} {fo fi f : fE} {tpos pos : Pos} (ip : IpOk X op gi) (ho : FE X Φ W J o fo) (hi : FE X Φ W J i fi) (he : FE X Φ W J e f)
    (ha : ∀ ov iv new, augStore i ov iv new = (do holding [new, ov, iv] (setItem ov iv new); release [new, ov, iv] []; pure .next) := by intros; rfl) : FS X Φ W J (.AugAssign (.Subscript o i tpos) op e pos) (fAugS gi fo fi f) := by
  obtain ⟨to, ho⟩ := ho
  obtain ⟨ti, hi⟩ := hi
  obtain ⟨te, he⟩ := he
  refine ⟨_, ps_augS ho.pe hi.pe get_list he.pe ip.ip set_list ha, fun σ ρ' O G H D M hρ f0 ⟨θ, ρ, st, c, h⟩ E => ?_⟩
  have hW := E.wsh hρ
  refine ho.sem σ ρ' O G H _ (fun x O1 => ∃ θ1 a1 st1, θ <+: θ1 ∧ Rn θ1 a1 x ∧ Mt θ1 st1 O1 ∧ AftS J θ1 (stB (fi ρ st1) ρ fun y st2 => match augO st2 a1 y with | some (a, k, i) => stB (f ρ st2) ρ fun d st3 => augE gi ρ st3 a k i d | none => .bad) M) _ hρ f0 hW
    ⟨θ, ρ, st, c, h.stB c fun θ1 a a' st1 O1 s1 ra m1 h1 => ⟨θ1, a, st1, s1, ra, m1, h1⟩⟩ fun x O1 u G1 H1 ⟨θ1, a1, st1, s1, ra, m1, h1⟩ e1 f1 r1 => ?_
  refine hi.sem σ ρ' O1 G1 H1 _ (fun y O2 => ∃ θ2 b1 st2, θ1 <+: θ2 ∧ Rn θ2 b1 y ∧ Mt θ2 st2 O2 ∧ AftS J θ2 (match augO st2 a1 b1 with | some (a, k, i) => stB (f ρ st2) ρ fun d st3 => augE gi ρ st3 a k i d | none => .bad) M) _ (hρ.mono e1) f1 (hW.mono e1)
    ⟨θ1, ρ, st1, c.step s1 m1, h1.stB (c.step s1 m1) fun θ2 b b' st2 O2 s2 rb m2 h2 => ⟨θ2, b, st2, s2, rb, m2, h2⟩⟩ fun y O2 v G2 H2 ⟨θ2, b1, st2, s2, rb, m2, h2⟩ e2 f2 r2 => ?_
  cases q : augO st2 a1 b1 with
  | none => rw [q] at h2; exact h2.elim
  | some r =>
    rw [q] at h2
    obtain ⟨p, ds', ex, hp, ey, hO, hz⟩ := augO_run m2 (ra.mono s2) rb q
    subst ex ey
    have r1' := r1
    cases r1
    cases r2
    obtain ⟨_, ob, hob, ro⟩ := FΦ.own f2 hO
    cases ro with
    | lst rl =>
      obtain ⟨z, hz2, rz⟩ := rp_at rl hz
      cases rz
      refine ⟨p, _, r.2.1, _, rfl, rfl, hob, hz2, ?_⟩
      have e12 := e1.trans e2
      refine he.sem σ ρ' O2 G2 H2 _ (fun d O3 => ∃ θ3 d1 st3, θ2 <+: θ3 ∧ Rn θ3 d1 d ∧ Mt θ3 st3 O3 ∧ AftS J θ3 (augE gi ρ st3 r.1 r.2.1 r.2.2 d1) M) _ (hρ.mono e12) f2 (hW.mono e12)
        ⟨θ2, ρ, st2, c.step (s1.trans s2) m2, AftS.stB h2 (c.step (s1.trans s2) m2) fun θ3 d d' st3 O3 s3 rd m3 h3 => ⟨θ3, d, st3, s3, rd, m3, h3⟩⟩ fun d O3 w3 G3 H3 ⟨θ3, d1, st3, s3, rd, m3, h3⟩ e3 f3 r3 => ?_
      cases rd with
      | int j =>
        cases r3
        refine ⟨_, _, rfl, rfl, ?_⟩
        have h4 : AftS J θ3 (augK gi ρ st3 r.1 r.2.1 r.2.2 j) M := h3
        unfold augK at h4
        have hp3 := sub_at s3 hp
        cases w : st3[r.1]? with
        | none => rw [w] at h4; exact h4.elim
        | some u =>
          cases u with
          | none => rw [w] at h4; exact h4.elim
          | some z =>
            rw [w] at h4
            obtain ⟨z', h5, h6⟩ := m3.at w hp3
            cases h6 with
            | @lst ds es rls =>
              simp only at h4
              cases qn : ixN ds.length r.2.1 with
              | none => rw [qn] at h4; exact h4.elim
              | some n =>
                rw [qn] at h4
                obtain ⟨_, ob3, hob3, ro3⟩ := FΦ.own f3 h5
                cases ro3 with
                | lst rl3 =>
                  have s13 := (s1.trans s2).trans s3
                  have e13 := e12.trans e3
                  refine ⟨p, _, r.2.1, n, rfl, rfl, hob3, by rw [rl3.len, ← rls.len]; exact qn, ?_⟩
                  exact E.nx σ ρ' _ G3 _ (h4 θ3 ρ' _ (List.prefix_refl _) ((c.step s13 m3).step (List.prefix_refl _) (m3.put w hp3 (.lst (RnL.set (.int _) n rls))))) e13 (hρ.mono e13) (FΦ.put f3 h5 (.lst (rpl_set (.int _) n rl3)))
            | _ => exact h4.elim
      | _ => exact h3.elim
end
end FL

set_option Elab.async false
set_option linter.all false
set_option maxRecDepth 100000
set_option maxHeartbeats 1000000
namespace FL
open PySem PySem.Spec PyProof.Rows L2 DL
/-- a module's constant is this tree -/
def GlE (K : PySem.W.Frag) (mg : Str → Option Value) (x : Str) (d : D) : Prop := ∃ u v, mg x = some u ∧ L2.RelV v u ∧ (∀ G, Rp K mg G v d) ∧ noLoc d = true
section
variable {X : Cx} {Φ : OH → Hp → Hp → Prop} {W : WX} [FΦ : OFrm X.K X.mg Φ] {J : Jv}
theorem fe_globE {x : Str} {d : D} {pos : Pos} (hg : Gl X x) (h : GlE X.K X.mg x d) (hd : (x == ("__debug__" : Str)) = false := by decide) : FE X Φ W J (.Name x pos) (fC d) := by
  obtain ⟨u, v, h1, h2, h3, h4⟩ := h
  exact fe_glob hg h1 h2 h3 h4 hd
theorem fs_asgSub {o i e : Expr} {f : fE} {fg : fG} {p2 pos : Pos} (h : FE X Φ W J e f) (hg : ∃ g, DG X Φ (.Subscript o i p2) g (dG J fg) []) (hs : swapsWithSole [.Subscript o i p2] e pos.line X.env = pure false := by rfl) (hw : swappedStores [.Subscript o i p2] e X.env = pure none := by rfl)
    (h1 : (assignEach [.Subscript o i p2] X.env).map (·.2) = [assign (.Subscript o i p2) X.env] := by rfl) : FS X Φ W J (.Assign [.Subscript o i p2] e pos) (fAsg f fg) := by
  obtain ⟨g, hg⟩ := hg
  exact fs_asg h hg hs hw h1
end
/-- what the other side of == may be: one of the class, or a built-in type's value -/
def eqok (C : Str) : D → Bool
  | .ins n _ _ => decide (n = C)
  | d => (tyD d).isSome
theorem eqok_rn {C : Str} (θ : Th) (a b : D) (r : Rn θ a b) : eqok C b = eqok C a := by cases r <;> rfl
end FL

set_option Elab.async false
set_option linter.all false
set_option maxRecDepth 100000
set_option maxHeartbeats 1000000
namespace FL
open PySem PySem.Spec PyProof.Rows L2 DL
/-! the facts of the written part, put together -/
section
variable {K : PySem.W.Frag} {mg : Str → Option Value}
theorem kit_two {t : Value} {S : Addr} {b : Bool} (h2 : PySem.W.isClsIn K S = true) (h3 : PySem.W.typeIn K (.ref S) = some (.type "type")) (h4 : PySem.W.subIn K t (.ref S) = some b) (hb : t = .ref S → b = true) : PySem.W.kitOne K t (.ref S) = some b := by
  have q : (PySem.W.clsIn K S).isSome = true := h2
  unfold PySem.W.kitOne PySem.W.kitCls
  by_cases e : t = .ref S
  · rw [if_pos (by rw [e]; exact beq_self_eq_true _), hb e]
  · rw [if_neg (by simpa using e)]
    simp [q, h3, h4]
theorem exm_two {t : Value} {S : Addr} {b : Bool} (h1 : PySem.W.subIn K (.ref S) (.type "BaseException") = some true) (h2 : PySem.W.isClsIn K S = true) (h3 : PySem.W.typeIn K (.ref S) = some (.type "type")) (h4 : PySem.W.subIn K t (.ref S) = some b) : PySem.W.exmOne K t (.ref S) = some b := by
  have q : (PySem.W.clsIn K S).isSome = true := h2
  unfold PySem.W.exmOne PySem.W.kitCls
  simp [h1, q, h3, h4]
/-- what a class of the text must tell -/
structure ClsF (K : PySem.W.Frag) (mg : Str → Option Value) (C : Addr) (Cn : Str) : Prop where
  m : mg Cn = some (.ref C)
  c : Cls K C
  g9 : PySem.W.findIn K (.ref C) "__class__" = some (some (.builtin "object.__class__"))
  ga : PySem.W.specialIn K (.builtin "object.__class__") "__get__" = some (some (.builtin "getset_descriptor.__get__"))
  gb : PySem.W.takesIn K (.builtin "object.__class__") = some true
  gd : PySem.W.mroIn K C (.type "object") = some true
theorem ClsF.ty {C : Addr} {Cn : Str} (F : ClsF K mg C Cn) {G H : Hp} {v : V} {ns : List Str} {ds : List D} (sm : Same G H) (r : Rp K mg G v (.ins Cn ns ds)) : TyX K H v (.ref C) := by
  cases r with
  | ins hm hg hl hr =>
    rw [F.m] at hm
    cases hm
    exact .base (.ins (sm _ _ hg) F.c F.g9 F.ga F.gb F.gd)
structure NotT (K : PySem.W.Frag) (C : Addr) : Prop where
  no : ∀ n ∈ ["NoneType", "bool", "int", "str", "list", "tuple", "dict"], PySem.W.subIn K (.type n) (.ref C) = some false
theorem tyD_in {d : D} {n : String} (h : tyD d = some n) : n ∈ ["NoneType", "bool", "int", "str", "list", "tuple", "dict"] := by
  cases d <;> simp [tyD] at h <;> simp [← h]
theorem isC_mk {C : Addr} {Cn : Str} {tb : List (Str × Bool)} (k1 : PySem.W.isClsIn K C = true) (k2 : PySem.W.typeIn K (.ref C) = some (.type "type")) (N : NotT K C)
    (hC : ∀ n b, tb.lookup n = some b → ∃ c, ClsF K mg c n ∧ PySem.W.subIn K (.ref c) (.ref C) = some b ∧ (c = C → b = true)) : IsiC K mg C (isC tb) := by
  refine ⟨fun G H v d b sm r h => ?_⟩
  have dat : ∀ n, tyD d = some n → b = false → ∃ t, TyX K H v t ∧ PySem.W.kitOne K t (.ref C) = some b := fun n hn hb => by
    subst hb
    exact ⟨_, rp_tyX sm r hn, kit_two k1 k2 (N.no n (tyD_in hn)) fun z => nomatch z⟩
  cases d with
  | ins n ns ds =>
    obtain ⟨c, F, h1, h2⟩ := hC n b h
    exact ⟨_, F.ty sm r, kit_two k1 k2 h1 fun z => h2 (by injection z)⟩
  | loc _ => simp [isC, tyD] at h
  | cls _ => simp [isC, tyD] at h
  | ty _ => simp [isC, tyD] at h
  | _ => cases h; exact dat _ rfl rfl
theorem eqT_mk {C : Addr} {Cn : Str} (F : ClsF K mg C Cn) (N : NotT K C) : EqT K mg C fun d => eqok Cn d = true := by
  refine ⟨fun G H v d sm r h => ?_⟩
  have dat : ∀ n, tyD d = some n → ∃ t, TyX K H v t ∧ PySem.W.notFirst K C t = true := fun n hn => by
    refine ⟨_, rp_tyX sm r hn, ?_⟩
    unfold PySem.W.notFirst
    rw [N.no n (tyD_in hn)]
    simp
  cases d with
  | ins n ns ds =>
    have e : n = Cn := by simpa [eqok] using h
    subst e
    refine ⟨_, F.ty sm r, ?_⟩
    unfold PySem.W.notFirst
    simp
  | loc _ => simp [eqok, tyD] at h
  | cls _ => simp [eqok, tyD] at h
  | ty _ => simp [eqok, tyD] at h
  | _ => exact dat _ rfl
theorem kTup {p : Addr} {o : Obj} {its : Array Value} {n : Nat} {xs : List V} (h : K.lookup p = some o) (hc : o.cls = .type "tuple") (hd : o.data = .seq its n) (hz : its.size ≤ sizeLine) (r : Vals xs its.toList) (H : Hp) : SqT K H p xs := .inr ⟨o, its, n, h, hc, hd, hz, r⟩
end
end FL

set_option Elab.async false
set_option linter.all false
set_option maxRecDepth 100000
set_option maxHeartbeats 1000000
/-! reckoning with the plain functions: rules of rewriting, one step each -/
namespace FL
open PySem PySem.Spec PyProof.Rows L2 DL
section
variable {α β : Type} {ρ ρ1 ρ2 : Rho} {st st1 st2 : St} {t u : fS} {tt uu : fT} {m n m2 : fE} {na nb : fA} {r r' : RS} {d e : D} {ds es : List D} {i j : Int} {x y : Str}
theorem bind_ok {a : α} {k : α → St → Res β} : (Res.ok a st).bind k = k a st := rfl
theorem stB_ok {a : α} {k : α → St → RS} : stB (.ok a st) ρ k = k a st := rfl
theorem bind_cg {k : α → St → Res β} {a b : Res α} (h : a = b) : a.bind k = b.bind k := by rw [h]
theorem stB_cg {k : α → St → RS} {a b : Res α} (h : a = b) : stB a ρ k = stB b ρ k := by rw [h]
def seqK (r : RS) (u : fS) : RS := match r with
  | .nx ρ st => u ρ st
  | r => r
theorem seqK_cg (h : r = r') : seqK r u = seqK r' u := by rw [h]
theorem seq_e : fSeq t u ρ st = seqK (t ρ st) u := rfl
theorem seqK_nx : seqK (.nx ρ st) u = u ρ st := rfl
theorem seqK_rt : seqK (.rt d st) u = .rt d st := rfl
def varK (o : Option (Option D)) (st : St) : Res D := match o with
  | some (some d) => .ok d st
  | _ => .bad
theorem varK_ok : varK (some (some d)) st = .ok d st := rfl
theorem var_e {i : Nat} : fVar i ρ st = varK ρ[i]? st := by
  unfold fVar varK
  cases ρ[i]? with
  | none => rfl
  | some o => cases o <;> rfl
theorem c_e : fC d ρ st = .ok d st := rfl
theorem optR_ok : optR (some d) st = .ok d st := rfl
theorem bin_e {o : D → D → Option D} : fBin o m n ρ st = (m ρ st).bind fun a st1 => (n ρ st1).bind fun b st2 => optR (o a b) st2 := rfl
theorem test_e : fTest m ρ st = (m ρ st).bind blR := rfl
theorem blR_ok {b : Bool} : blR (.bl b) st = .ok b st := rfl
theorem and_e : fAnd tt uu ρ st = (tt ρ st).bind fun c st1 => if c = true then uu ρ st1 else .ok false st1 := rfl
theorem or_e : fOr tt uu ρ st = (tt ρ st).bind fun c st1 => if c = true then .ok true st1 else uu ρ st1 := rfl
theorem not_e : fNot tt ρ st = (tt ρ st).bind fun c st1 => .ok (!c) st1 := rfl
def andK (n : fE) (ρ : Rho) (d : D) (st : St) : Res D := match d with
  | .bl true => n ρ st
  | .bl false => .ok (.bl false) st
  | _ => .bad
theorem andK_t : andK n ρ (.bl true) st = n ρ st := rfl
theorem andK_f : andK n ρ (.bl false) st = .ok (.bl false) st := rfl
theorem andV_e : fAndV m n ρ st = (m ρ st).bind (andK n ρ) := by
  unfold fAndV
  refine congrArg _ ?_
  funext d s
  cases d <;> try rfl
def notK (d : D) (st : St) : Res D := match d with
  | .bl b => .ok (.bl (!b)) st
  | _ => .bad
theorem notK_ok {b : Bool} : notK (.bl b) st = .ok (.bl (!b)) st := rfl
theorem notV_e : fNotV m ρ st = (m ρ st).bind notK := by
  unfold fNotV
  refine congrArg _ ?_
  funext d s
  cases d <;> rfl
theorem if_e : fIf tt m n ρ st = (tt ρ st).bind fun c st1 => if c = true then m ρ st1 else n ρ st1 := rfl
theorem nil_e : fNil ρ st = .ok [] st := rfl
theorem cons_e : fCons m na ρ st = (m ρ st).bind fun d st1 => (na ρ st1).bind fun ds st2 => .ok (d :: ds) st2 := rfl
theorem lst_e : fLst na ρ st = (na ρ st).bind fun ds st1 => if ds.length ≤ sizeLine then .ok (.lst ds) st1 else .bad := rfl
theorem tup_e : fTup na ρ st = (na ρ st).bind fun ds st1 => if ds.length ≤ sizeLine then .ok (.tup ds) st1 else .bad := rfl
theorem lstO_e : fLstO na ρ st = (na ρ st).bind fun ds st1 => if ds.length ≤ sizeLine then .ok (.loc st1.length) (st1 ++ [some (.lst ds)]) else .bad := rfl
theorem fn_e {o : List D → Option D} : fFn o na ρ st = (na ρ st).bind fun ds st1 => optR (o ds) st1 := rfl
theorem sz0 : (([] : List D).length ≤ sizeLine) = True := by simp
theorem szc {n : Nat} (h : decide (n ≤ 100) = true) : (n ≤ sizeLine) = True := by
  have := of_decide_eq_true h
  have : sizeLine = 16777216 := by decide +kernel
  simp
  omega
theorem sizeLine_e : sizeLine = 16777216 := by decide +kernel
theorem drop_e : fDrop m ρ st = stB (m ρ st) ρ fun _ st1 => .nx ρ st1 := rfl
theorem ret_e : fRet m ρ st = stB (m ρ st) ρ fun d st1 => .rt d st1 := rfl
theorem set_e {i : Nat} : fSet i m ρ st = stB (m ρ st) ρ fun d st1 => .nx (ρ.set i (some d)) st1 := rfl
theorem asg_e {g : fG} : fAsg m g ρ st = stB (m ρ st) ρ fun d st1 => optS (g d ρ st1) := rfl
theorem optS_ok : optS (some (ρ, st)) = .nx ρ st := rfl
theorem ifS_e {a b : fS} : fIfS tt a b ρ st = stB (tt ρ st) ρ fun c st1 => if c = true then a ρ st1 else b ρ st1 := rfl
theorem next_e : fNext ρ st = .nx ρ st := rfl
theorem for_e {it : fA} {g : fG} {b : fS} : fFor it g b ρ st = stB (it ρ st) ρ fun ds st1 => fForGo g b ds ρ st1 := rfl
theorem gn_e {i : Nat} : fGn i d ρ st = some (ρ.set i (some d), st) := rfl
theorem gt_e {n : Nat} {gs : fGs} : fGt n gs (.tup ds) ρ st = if ds.length = n then gs ds ρ st else none := rfl
def gcK (gs : fGs) (es : List D) (o : Option (Rho × St)) : Option (Rho × St) := match o with
  | some (ρ1, st1) => gs es ρ1 st1
  | none => none
theorem gc_e {g : fG} {gs : fGs} : fGc g gs (d :: es) ρ st = gcK gs es (g d ρ st) := by
  unfold fGc gcK
  dsimp only
  all_goals (cases g d ρ st <;> rfl)
theorem gcK_ok {gs : fGs} : gcK gs es (some (ρ, st)) = gs es ρ st := rfl
theorem gl_e : fGl [] ρ st = some (ρ, st) := rfl
theorem for_nil {g : fG} {b : fS} : fForGo g b [] ρ st = .nx ρ st := rfl
theorem for_cons {g : fG} {b : fS} (h1 : g d ρ st = some (ρ1, st1)) (h2 : b ρ1 st1 = .nx ρ2 st2) : fForGo g b (d :: ds) ρ st = fForGo g b ds ρ2 st2 := by
  rw [fForGo, h1]
  dsimp only
  rw [h2]
theorem iSq_l : iSq m ρ st = (m ρ st).bind fun d st1 => match seqOf d with
    | some ds => .ok ds st1
    | none => .bad := by
  unfold iSq
  refine congrArg _ ?_
  funext d s
  cases d <;> rfl
theorem iSq_e (h : m ρ st = .ok d st1) (q : seqOf d = some ds) : iSq m ρ st = .ok ds st1 := by
  rw [iSq_l, h]
  show (match seqOf d with | some ds => Res.ok ds st1 | none => .bad) = _
  rw [q]
theorem iEn_e (h : m ρ st = .ok d st1) (q : seqOf d = some ds) : iEn m ρ st = .ok (enumD 0 ds) st1 := by
  unfold iEn
  rw [h]
  show (match seqOf d with | some ds => Res.ok (enumD 0 ds) st1 | none => .bad) = _
  rw [q]
theorem iR1_e (h : na ρ st = .ok [.int j] st1) (q : -(2 ^ 62) ≤ j ∧ j < 2 ^ 62) : iR1 na ρ st = .ok (rngD 0 j.toNat) st1 := by
  unfold iR1
  rw [h]
  show (if -(2 ^ 62) ≤ j ∧ j < 2 ^ 62 then Res.ok (rngD 0 j.toNat) st1 else .bad) = _
  rw [if_pos q]
theorem call_e {F : fF} {k : Nat} {dd : List D} : fCall F k dd na ρ st = (na ρ st).bind fun ds st1 => if (ds ++ dd).length = k then F (ds ++ dd) st1 else .bad := rfl
def methK (C f : Str) (F : fF) (k : Nat) (dd : List D) (na : fA) (ρ : Rho) (x : D) (st1 : St) : Res D := match x with
  | .ins C' ns fs => if C' = C ∧ f ∉ ns then (na ρ st1).bind fun ds st2 => if (ds ++ dd).length + 1 = k then F (.ins C' ns fs :: (ds ++ dd)) st2 else .bad else .bad
  | _ => .bad
theorem meth_e {C f : Str} {F : fF} {k : Nat} {dd : List D} : fMeth C f F k dd m na ρ st = (m ρ st).bind (methK C f F k dd na ρ) := by
  unfold fMeth
  refine congrArg _ ?_
  funext d s
  cases d <;> rfl
theorem methK_ins {C f C' : Str} {F : fF} {k : Nat} {dd : List D} {ns : List Str} {fs : List D} : methK C f F k dd na ρ (.ins C' ns fs) st = if C' = C ∧ f ∉ ns then (na ρ st).bind fun ds st2 => if (ds ++ dd).length + 1 = k then F (.ins C' ns fs :: (ds ++ dd)) st2 else .bad else .bad := rfl
def meth0K (C f : Str) (F : fF) (k : Nat) (dd : List D) (x : D) (st1 : St) : Res D := match x with
  | .ins C' ns fs => if C' = C ∧ f ∉ ns ∧ dd.length + 1 = k then F (.ins C' ns fs :: dd) st1 else .bad
  | _ => .bad
theorem meth0_e {C f : Str} {F : fF} {k : Nat} {dd : List D} : fMeth0 C f F k dd m ρ st = (m ρ st).bind (meth0K C f F k dd) := by
  unfold fMeth0
  refine congrArg _ ?_
  funext d s
  cases d <;> rfl
theorem meth0K_ins {C f C' : Str} {F : fF} {k : Nat} {dd : List D} {ns : List Str} {fs : List D} : meth0K C f F k dd (.ins C' ns fs) st = if C' = C ∧ f ∉ ns ∧ dd.length + 1 = k then F (.ins C' ns fs :: dd) st else .bad := rfl
theorem make_e {C : Str} {F : fF} {k : Nat} {dd : List D} : fMake C F k dd na ρ st = (na ρ st).bind fun ds st1 =>
  if (ds ++ dd).length + 1 = k then mkEnd st1.length (F (.loc st1.length :: (ds ++ dd)) (st1 ++ [some (.ins C [] [])])) else .bad := rfl
theorem make0_e {C : Str} {F : fF} {k : Nat} {dd : List D} : fMake0 C F k dd ρ st = if dd.length + 1 = k then mkEnd st.length (F (.loc st.length :: dd) (st ++ [some (.ins C [] [])])) else .bad := rfl
def fldK (C f : Str) (x : D) (st1 : St) : Res D := match x with
  | .ins C' ns ds => if C' = C then optR (lookD f ns ds) st1 else .bad
  | _ => .bad
theorem fld_e {C f : Str} : fFld C f m ρ st = (m ρ st).bind (fldK C f) := by
  unfold fFld
  refine congrArg _ ?_
  funext d s
  cases d <;> rfl
theorem fldK_ins {C f C' : Str} {ns : List Str} : fldK C f (.ins C' ns ds) st = if C' = C then optR (lookD f ns ds) st else .bad := rfl
def negK (x : D) (st1 : St) : Res D := match x with
  | .int i => .ok (.int (-i)) st1
  | _ => .bad
theorem neg_e : fNeg m ρ st = (m ρ st).bind negK := by
  unfold fNeg
  refine congrArg _ ?_
  funext d s
  cases d <;> rfl
theorem negK_ok : negK (.int i) st = .ok (.int (-i)) st := rfl
theorem opI_e {C : Str} {F : fF} : fOpI C F m n ρ st = (m ρ st).bind fun a st1 => (n ρ st1).bind fun b st2 => opIK C F st2 a b := rfl
theorem opIK_ok {C C1 C2 : Str} {F : fF} {ns ms : List Str} : opIK C F st (.ins C1 ns ds) (.ins C2 ms es) = if C1 = C ∧ C2 = C then F [.ins C1 ns ds, .ins C2 ms es] st else .bad := rfl
theorem isC_e {C : List (Str × Bool)} : fIsC C m ρ st = (m ρ st).bind fun d st1 => optR ((isC C d).map .bl) st1 := rfl
theorem isi_e {ts : List BT} : fIsi ts m ρ st = (m ρ st).bind fun d st1 => if (tyD d).isSome = true then optR ((isTs d ts).map .bl) st1 else .bad := rfl
def ixOK (x y : D) (st2 : St) : Res D := match x, y with
  | .loc a, .int i => match st2[a]? with
    | some (some (.lst ds)) => optR (atI ds i) st2
    | _ => .bad
  | _, _ => .bad
theorem ixO_e : fIxO m n ρ st = (m ρ st).bind fun x st1 => (n ρ st1).bind fun y st2 => ixOK x y st2 := rfl
theorem ixOK_ok {a : Nat} (h : st[a]? = some (some (.lst ds))) : ixOK (.loc a) (.int i) st = optR (atI ds i) st := by
  unfold ixOK
  dsimp only
  rw [h]
def frzK (x : D) (st1 : St) : Res D := match x with
  | .loc i => match st1[i]? with
    | some (some y) => .ok y.tree (st1.set i none)
    | _ => .bad
  | _ => .bad
theorem frz_e : fFrz m ρ st = (m ρ st).bind frzK := rfl
theorem frzK_ok {a : Nat} {y : DO} (h : st[a]? = some (some y)) : frzK (.loc a) st = .ok y.tree (st.set a none) := by
  unfold frzK
  dsimp only
  rw [h]
theorem app_e {a : Nat} (h1 : m ρ st = .ok (.loc a) st1) (h2 : st1[a]? = some (some (.lst es))) (h3 : n ρ st1 = .ok d st2) (h4 : st2[a]? = some (some (.lst ds))) (h5 : ds.length < sizeLine) : fApp m n ρ st = .ok .non (st2.set a (some (.lst (ds ++ [d])))) := by
  unfold fApp
  rw [h1, bind_ok]
  dsimp only
  rw [h2]
  dsimp only
  rw [h3, bind_ok]
  rw [h4]
  dsimp only
  rw [if_pos h5]
theorem gsub_e {a : Nat} {k : Nat} (h1 : m ρ st = .ok (.loc a) st1) (h2 : n ρ st1 = .ok (.int i) st2) (h3 : st2[a]? = some (some (.lst ds))) (h4 : ixN ds.length i = some k) : fGsub m n d ρ st = some (ρ, st2.set a (some (.lst (ds.set k d)))) := by
  unfold fGsub
  rw [h1]
  dsimp only
  rw [h2]
  dsimp only
  rw [h3]
  dsimp only
  rw [h4]
/-! operators -/
theorem oEq_int : oEq (.int i) (.int j) = some (.bl (i == j)) := by
  show (if SeqAt.shaped (.int i) = true ∧ SeqAt.shaped (.int j) = true then some (D.bl (false != PyData.eqv (.int i) (.int j))) else none) = _
  rw [if_pos ⟨rfl, rfl⟩]
  simp [PyData.eqv, PyData.eqvAll]
theorem oNe_int : oNe (.int i) (.int j) = some (.bl (!(i == j))) := by
  show (if SeqAt.shaped (.int i) = true ∧ SeqAt.shaped (.int j) = true then some (D.bl (true != PyData.eqv (.int i) (.int j))) else none) = _
  rw [if_pos ⟨rfl, rfl⟩]
  simp [PyData.eqv, PyData.eqvAll]
theorem oEq_str (h1 : SeqAt.shaped (.str x) = true) (h2 : SeqAt.shaped (.str y) = true) : oEq (.str x) (.str y) = some (.bl (x == y)) := by
  show (if SeqAt.shaped (.str x) = true ∧ SeqAt.shaped (.str y) = true then some (D.bl (false != PyData.eqv (.str x) (.str y))) else none) = _
  rw [if_pos ⟨h1, h2⟩]
  simp [PyData.eqv]
theorem oEq_int2 {k l : Int} : oEq (.tup [.int i, .int j]) (.tup [.int k, .int l]) = some (.bl ((i == k) && (j == l))) := by
  show (if SeqAt.shaped (.tuple [.int i, .int j]) = true ∧ SeqAt.shaped (.tuple [.int k, .int l]) = true then some (D.bl (false != PyData.eqv (.tuple [.int i, .int j]) (.tuple [.int k, .int l]))) else none) = _
  rw [if_pos ⟨rfl, rfl⟩]
  simp [PyData.eqv, PyData.eqvAll]
theorem oNe_int2 {k l : Int} : oNe (.tup [.int i, .int j]) (.tup [.int k, .int l]) = some (.bl (!((i == k) && (j == l)))) := by
  show (if SeqAt.shaped (.tuple [.int i, .int j]) = true ∧ SeqAt.shaped (.tuple [.int k, .int l]) = true then some (D.bl (true != PyData.eqv (.tuple [.int i, .int j]) (.tuple [.int k, .int l]))) else none) = _
  rw [if_pos ⟨rfl, rfl⟩]
  simp [PyData.eqv, PyData.eqvAll]
theorem oAdd_int : oAdd (.int i) (.int j) = some (.int (i + j)) := rfl
theorem oSub_int : oSub (.int i) (.int j) = some (.int (i - j)) := rfl
theorem oLt_int : oLt (.int i) (.int j) = some (.bl (decide (i < j))) := rfl
theorem oLe_int : oLe (.int i) (.int j) = some (.bl (decide (i ≤ j))) := rfl
theorem oGt_int : oGt (.int i) (.int j) = some (.bl (decide (j < i))) := rfl
theorem oGe_int : oGe (.int i) (.int j) = some (.bl (decide (j ≤ i))) := rfl
theorem oI_ok {c : Int → Int → Bool} {g : Int → Int → D} (h : c i j = true) : oI c g (.int i) (.int j) = some (g i j) := by
  unfold oI
  simp [h]
theorem oMod_int (h : 0 < j) : oMod (.int i) (.int j) = some (.int (i % j)) := oI_ok (by simpa using h)
theorem oDiv_int (h : 0 < j) (h2 : j ≤ 2 ^ 64) : oDiv (.int i) (.int j) = some (.int (i / j)) := oI_ok (by
  simp only [Bool.and_eq_true, decide_eq_true_eq]
  refine ⟨h, ?_⟩
  have hz : j.natAbs ≠ 0 := by omega
  rw [Nat.log2_lt hz]
  have h3 : j.natAbs ≤ 2 ^ 64 := by omega
  exact Nat.lt_of_le_of_lt h3 (Nat.pow_lt_pow_right (a := 2) (Nat.lt_succ_self 1) (by omega)))
theorem oMul1_int (h : -(2 ^ 64) < i ∧ i < 2 ^ 64) : oMul1 (.int i) (.int j) = some (.int (i * j)) := by
  show oMul (.int i) (.int j) = _
  have q : mulOk i j = true := by
    simp only [mulOk, Bool.or_eq_true, Bool.and_eq_true, decide_eq_true_eq]
    exact .inl (.inl h)
  simp only [oMul, q, if_true]
theorem oNotN_e : oNotN d .non = some (.bl (!isNon d)) := rfl
theorem oIsN_e : oIsN d .non = some (.bl (isNon d)) := rfl
theorem oIx_lst : oIx (.lst ds) (.int i) = atI ds i := rfl
theorem oIx_tup : oIx (.tup ds) (.int i) = atI ds i := rfl
theorem oIx_frz : oIx (.frz ds) (.int i) = atI ds i := rfl
theorem ixN_nat {k n : Nat} (h : k < n) : ixN n (k : Int) = some k := by
  unfold ixN
  have h0 : (0 : Int) ≤ (k : Int) := by omega
  simp
  omega
theorem at_nat {k : Nat} (h : k < ds.length) : atI ds (k : Int) = some ds[k] := by
  unfold atI
  rw [ixN_nat h]
  simp [h]
theorem gcF_len {ok : Bool} {n : Nat} (h : st.length = n) : gcF n ok st = st := by
  subst h
  exact gcF_same
theorem gcF_cons {ok : Bool} {a b : Option DO} : gcF (a :: st).length ok (b :: st) = b :: st := gcF_len rfl
def Clean (st : St) : Prop := ∀ n, st.all (lowO n) = true
theorem gcF_clean {t : St} (h : Clean st) : gcF st.length true (st ++ t) = st := gcF_app (h _)
theorem gc_clean (hd : noLoc d = true) (h : Clean st) : gc st.length d (st ++ [none]) = st := gc_app hd rfl (h _)
mutual
theorem noLoc_low {n : Nat} : ∀ {d : D}, noLoc d = true → locB n d = true
  | .non, _ => rfl
  | .bl _, _ => rfl
  | .int _, _ => rfl
  | .str _, _ => rfl
  | .lst a, h => by simpa [locB] using noLocL_low (by simpa [noLoc] using h)
  | .tup a, h => by simpa [locB] using noLocL_low (by simpa [noLoc] using h)
  | .dic _ a, h => by simpa [locB] using noLocL_low (by simpa [noLoc] using h)
  | .ins _ _ a, h => by simpa [locB] using noLocL_low (by simpa [noLoc] using h)
  | .frz a, h => by simpa [locB] using noLocL_low (by simpa [noLoc] using h)
  | .loc _, h => by simp [noLoc] at h
  | .cls _, _ => rfl
  | .ty _, _ => rfl
theorem noLocL_low {n : Nat} : ∀ {ds : List D}, noLocL ds = true → locBL n ds = true
  | [], _ => rfl
  | d :: ds, h => by
    simp only [noLocL, Bool.and_eq_true] at h
    simp [locBL, noLoc_low h.1, noLocL_low h.2]
end
theorem noLocL_all : noLocL ds = true ↔ ∀ d ∈ ds, noLoc d = true := by
  induction ds with
  | nil => simp [noLocL]
  | cons d ds ih => simp [noLocL, ih]
theorem Clean.app {t : St} (h : Clean st) (k : Clean t) : Clean (st ++ t) := fun n => by rw [List.all_append, h n, k n]; rfl
theorem clean_lst (h : noLocL ds = true) : Clean [some (.lst ds)] := fun n => by
  simp [lowO, DO.tree, locB, noLocL_low h]
theorem body_nx {f : fS} {k : Nat} {st1 : St} (h : f (ds.map some ++ List.replicate k none) st = .nx ρ1 st1) : fBody f k ds st = .ok .non (gcF st.length true st1) := by
  unfold fBody
  rw [h]
theorem body_rt {f : fS} {k : Nat} {st1 : St} (h : f (ds.map some ++ List.replicate k none) st = .rt d st1) : fBody f k ds st = .ok d (gcF st.length (noLoc d) st1) := by
  unfold fBody
  rw [h]
theorem body_rt0 {f : fS} {k : Nat} (h : f (ds.map some ++ List.replicate k none) st = .rt d st) : fBody f k ds st = .ok d st := by
  rw [body_rt h, gcF_same]
/-! comprehensions -/
theorem lc_go {g : fG} {m : fE} {vs : List Nat} {Q : D → Prop} : ∀ {ds acc : List D}, (∀ d ∈ ds, ∃ ρ1 y, g d (wipeD ρ vs) st = some (ρ1, st) ∧ m ρ1 st = .ok y st ∧ Q y) → acc.length + ds.length ≤ 1000000 →
    ∃ ys, fLcGo g fYes m vs ρ ds acc st = .ok (acc ++ ys) st ∧ ys.length = ds.length ∧ ∀ y ∈ ys, Q y
  | [], acc, _, _ => ⟨[], by rw [fLcGo, List.append_nil], rfl, fun y h => by cases h⟩
  | d :: ds, acc, h, hl => by
    obtain ⟨ρ1, y, h1, h2, q⟩ := h d List.mem_cons_self
    have hl' : acc.length + (ds.length + 1) ≤ 1000000 := hl
    obtain ⟨ys, e, l, qs⟩ := lc_go (ds := ds) (acc := acc ++ [y]) (fun d hd => h d (List.mem_cons_of_mem _ hd)) (by rw [List.length_append]; simp; omega)
    refine ⟨y :: ys, ?_, by simp [l], fun z hz => ?_⟩
    · rw [fLcGo, h1]
      dsimp only
      simp only [fYes]
      rw [h2]
      dsimp only
      rw [if_pos (by rw [sizeLine_e]; omega), e]
      simp
    · cases hz with
      | head => exact q
      | tail _ hz => exact qs z hz
theorem lc_e {it : fA} {g : fG} {m : fE} {vs : List Nat} {Q : D → Prop} (hi : it ρ st = .ok ds st) (h : ∀ d ∈ ds, ∃ ρ1 y, g d (wipeD ρ vs) st = some (ρ1, st) ∧ m ρ1 st = .ok y st ∧ Q y) (hl : ds.length ≤ 1000000) :
    ∃ ys, fLc it g fYes m vs ρ st = .ok (.lst ys) st ∧ ys.length = ds.length ∧ ∀ y ∈ ys, Q y := by
  obtain ⟨ys, e, l, q⟩ := lc_go (g := g) (m := m) (vs := vs) (acc := []) h (by simpa using hl)
  refine ⟨ys, ?_, l, q⟩
  unfold fLc
  rw [hi, bind_ok, e, bind_ok, List.nil_append]
end
end FL

set_option Elab.async false
set_option linter.all false
set_option maxRecDepth 100000
set_option maxHeartbeats 1000000
namespace FZ
open PySem PySem.Spec
def itO (l : Addr) : Obj := { cls := .type "tuple_iterator", data := .fields #[.ref l, .int 0 0] }
def itsH : Heap → List Addr → Heap
  | h, [] => h
  | h, l :: ls => itsH (h.push (itO l)) ls
theorem iterAll_eq (xs : List Value) : Builtin.SmallTypes.iterAll xs = (forIn xs (#[] : Array Value) fun x its => do
    let v ← holding its.toList (pyIter x)
    pure (.yield (its.push v))) >>= fun its => pure its.toList := by
  unfold Builtin.SmallTypes.iterAll
  rfl
section
variable {prog : Program} {w : World} {A : Around} {E : Value → Shared → Prop}
theorem itsH_size : ∀ (ls : List Addr) (h : Heap), (itsH h ls).objs.size = h.objs.size + ls.length
  | [], h => rfl
  | l :: ls, h => by
    rw [itsH, itsH_size ls, Heap.size_push, List.length_cons]
    omega
theorem itsH_keep : ∀ (ls : List Addr) (h : Heap) {c : Addr} {o : Obj}, h.get? c = some o → (itsH h ls).get? c = some o
  | [], h, c, o, e => e
  | l :: ls, h, c, o, e => itsH_keep ls _ (Heap.get?_push_of_some _ e)
theorem itsH_at : ∀ (ls : List Addr) (h : Heap) {i : Nat} {l : Addr}, ls[i]? = some l → (itsH h ls).get? (h.objs.size + i) = some (itO l)
  | [], h, i, l, e => by simp at e
  | x :: ls, h, 0, l, e => by
    simp at e
    subst e
    exact itsH_keep ls _ (Heap.get?_push_size _ rfl)
  | x :: ls, h, i + 1, l, e => by
    have q := itsH_at ls (h.push (itO x)) (i := i) (l := l) (by simpa using e)
    rw [Heap.size_push] at q
    rw [itsH, show h.objs.size + (i + 1) = h.objs.size + 1 + i by omega]
    exact q
theorem iterGo_run {Q : Array Value → Shared → Prop} : ∀ (ls : List Addr) (acc : Array Value) (s : Shared), (∀ l ∈ ls, ∃ xs, s.heap.IsTuple l xs) →
    Q (acc ++ ((List.range' s.heap.objs.size ls.length).map Value.ref).toArray) { s with heap := itsH s.heap ls } →
    wpAny (model prog w) A (forIn (ls.map Value.ref) acc fun x its => do
      let v ← holding its.toList (pyIter x)
      pure (.yield (its.push v))) Q E s
  | [], acc, s, _, hQ => by
    simp only [List.map_nil, List.forIn_nil]
    refine wpAny_pure ?_
    simpa [itsH] using hQ
  | l :: ls, acc, s, hl, hQ => by
    obtain ⟨xs, hx⟩ := hl l List.mem_cons_self
    simp only [List.map_cons, List.forIn_cons]
    refine wpAny_bind (wpAny_bind (wpAny_holding (wpAny_pyIter_tuple hx (wpAny_pure ?_))))
    refine iterGo_run ls (acc.push (.ref s.heap.objs.size)) { s with heap := s.heap.push (itO l) } (fun z hz => by
      obtain ⟨ys, hy⟩ := hl z (List.mem_cons_of_mem _ hz)
      exact ⟨ys, Heap.IsTuple.push hy _⟩) ?_
    have e : (s.heap.push (itO l)).objs.size = s.heap.objs.size + 1 := Heap.size_push ..
    show Q (_ ++ ((List.range' (s.heap.push (itO l)).objs.size ls.length).map Value.ref).toArray) { s with heap := itsH (s.heap.push (itO l)) ls }
    rw [e]
    simpa [itsH, List.range'_succ] using hQ
theorem iterAll_run {Q : List Value → Shared → Prop} {s : Shared} (ls : List Addr) (hl : ∀ l ∈ ls, ∃ xs, s.heap.IsTuple l xs)
    (hQ : Q ((List.range' s.heap.objs.size ls.length).map Value.ref) { s with heap := itsH s.heap ls }) :
    wpAny (model prog w) A (Builtin.SmallTypes.iterAll (ls.map Value.ref)) Q E s := by
  rw [iterAll_eq]
  refine wpAny_bind (iterGo_run ls #[] s hl (wpAny_pure ?_))
  simpa using hQ
/-- the heap after zip(t, ..) of tuples -/
def zipH (h : Heap) (ls : List Addr) : Heap :=
  (((itsH h ls).push { cls := .type "tuple", data := .seq ((List.range' h.objs.size ls.length).map Value.ref).toArray }).push { cls := .type "tuple", data := .seq ((List.range' h.objs.size ls.length).map fun _ => Value.none).toArray }).push { cls := .type "zip", data := .fields #[.none, .bool false, .bool false, .ref (h.objs.size + ls.length), .ref (h.objs.size + ls.length + 1)] }
theorem meets_zip_new (ls : List Addr) (hz : ls.length ≤ 1000) :
    Meets (Builtin.«zip.__new__» ⟨.type "zip" :: ls.map Value.ref, []⟩) (fun _ R s => (∀ l ∈ ls, ∃ xs, s.heap.IsTuple l xs) ∧ R (.ok (.ret (.ref (s.heap.objs.size + ls.length + 2)))) { s with heap := zipH s.heap ls }) :=
  .of_wp fun prog w A R s h => by
    obtain ⟨hp, g, d, tk, os⟩ := s
    obtain ⟨hl, h⟩ := h
    have hsub := sub_zip
    wp_walk using iterAll_run ls hl
    have e1 : (itsH hp ls).objs.size = hp.objs.size + ls.length := itsH_size ..
    show wpAny _ _ (newTuple ((List.range' hp.objs.size ls.length).map Value.ref)) _ _ _
    refine wpAny_newTuple ?_ (by simp [sizeLine]; omega)
    show wpAny _ _ (newTuple _ >>= _) _ _ _
    refine wpAny_bind (wpAny_newTuple ?_ (by simp [sizeLine]; omega))
    refine wpAny_bind ?_
    unfold Builtin.SmallTypes.newRecord
    dsimp only
    refine wpAny_newObj_type ?_ (by simp [sizeOk, Builtin.SmallTypes.ownedTupleFields, sizeLine])
    refine wpAny_pure ⟨_, rfl, ?_⟩
    simpa [zipH, Heap.size_push, e1, Builtin.SmallTypes.ownedTupleFields, Function.comp_def] using h
theorem typeCall_zip (xs : List Value) : checkTypeCall "zip" ⟨xs, []⟩ = pure () := by kernel_rfl
theorem newCall_zip0 : checkBuiltinCall "zip.__new__" ⟨.type "zip" :: [], []⟩ = pure () := by kernel_rfl
theorem newCall_zip1 (a : Value) (xs : List Value) : checkBuiltinCall "zip.__new__" ⟨.type "zip" :: a :: xs, []⟩ = pure () := by kernel_rfl
theorem newCall_zip (xs : List Value) : checkBuiltinCall "zip.__new__" ⟨.type "zip" :: xs, []⟩ = pure () := by
  cases xs with
  | nil => exact newCall_zip0
  | cons a xs => exact newCall_zip1 a xs
theorem push_at {h : Heap} {o : Obj} {i : Nat} (e : i = h.objs.size) (hf : o.isFreed = false) : (h.push o).get? i = some o := by
  subst e
  exact Heap.get?_push_size _ hf
abbrev zO (f : Value) (TI TO : Addr) : Obj := { cls := .type "zip", data := .fields #[f, .bool false, .bool false, .ref TI, .ref TO] }
abbrev tO (xs : List Value) : Obj := { cls := .type "tuple", data := .seq xs.toArray }
theorem zipH_z {h : Heap} {ls : List Addr} : (zipH h ls).get? (h.objs.size + ls.length + 2) = some (zO .none (h.objs.size + ls.length) (h.objs.size + ls.length + 1)) :=
  push_at (by rw [Heap.size_push, Heap.size_push, itsH_size]) rfl
theorem zipH_TO {h : Heap} {ls : List Addr} : (zipH h ls).get? (h.objs.size + ls.length + 1) = some (tO ((List.range' h.objs.size ls.length).map fun _ => Value.none)) :=
  Heap.get?_push_of_some _ (push_at (by rw [Heap.size_push, itsH_size]) rfl)
theorem zipH_TI {h : Heap} {ls : List Addr} : (zipH h ls).get? (h.objs.size + ls.length) = some (tO ((List.range' h.objs.size ls.length).map Value.ref)) :=
  Heap.get?_push_of_some _ (Heap.get?_push_of_some _ (push_at (by rw [itsH_size]) rfl))
theorem zipH_at {h : Heap} {ls : List Addr} {i : Nat} {l : Addr} (e : ls[i]? = some l) : (zipH h ls).get? (h.objs.size + i) = some (itO l) :=
  Heap.get?_push_of_some _ (Heap.get?_push_of_some _ (Heap.get?_push_of_some _ (itsH_at ls h e)))
theorem zipH_keep {h : Heap} {ls : List Addr} {c : Addr} {o : Obj} (e : h.get? c = some o) : (zipH h ls).get? c = some o :=
  Heap.get?_push_of_some _ (Heap.get?_push_of_some _ (Heap.get?_push_of_some _ (itsH_keep ls h e)))
theorem zipH_size {h : Heap} {ls : List Addr} : (zipH h ls).objs.size = h.objs.size + ls.length + 3 := by
  rw [zipH, Heap.size_push, Heap.size_push, Heap.size_push, itsH_size]
theorem args_object_init (a : Value) (xs : List Value) : argsOk "object.__init__" ⟨a :: xs, []⟩ := by
  unfold argsOk; rw [signature?_of (id := "object.__init__") (n := ['_', '_', 't', 'i', 'n', 'i', '_', '_']) (o := ['t', 'c', 'e', 'j', 'b', 'o']) (by kernel_rfl) F.owner_object]; kernel_rfl
theorem call_zip {s : Shared} {Q : Value → Shared → Prop} {ls : List Addr} (hz : ls.length ≤ 1000) (hl : ∀ l ∈ ls, ∃ xs, s.heap.IsTuple l xs)
    (h : Q (.ref (s.heap.objs.size + ls.length + 2)) { s with heap := zipH s.heap ls }) : wpAny (model prog w) A (call (.type "zip") (ls.map Value.ref)) Q E s := by
  refine callType_new F.called_zip (by decide) (typeCall_zip _) (newCall_zip _) (fun obj => args_object_init obj _) F.entry_zip_new (meets_zip_new ls hz) ⟨hl, ?_⟩
  exact ⟨⟨_, zipH_z, rfl⟩, h⟩
end
end FZ

set_option Elab.async false
set_option linter.all false
set_option maxRecDepth 100000
set_option maxHeartbeats 1000000
namespace FZ
open PySem PySem.Spec
section
variable {prog : Program} {w : World} {A : Around} {E : Value → Shared → Prop} {s : Shared}
structure Tr where
  it : Addr
  l : Addr
  row : Array Value
def At (h : Heap) (t : Tr) (k : Nat) : Prop := h.IsTupleIter t.it t.l k ∧ h.IsTuple t.l t.row
theorem At.far {h h' : Heap} {t : Tr} {k : Nat} {c : Addr} (a : At h t k) (sb : ∀ b, b ≠ c → h'.get? b = h.get? b) (h1 : t.it ≠ c) (h2 : t.l ≠ c) : At h' t k :=
  ⟨a.1.at fun o e => (sb _ h1).trans e, by
    obtain ⟨o, e, q⟩ := a.2
    exact ⟨o, (sb _ h2).trans e, q⟩⟩
/-- the items are drawn, one from each walk -/
theorem loopB {D : Value → Sem (Option Value)} {Z : Option Fin × Array Value → Sem (ForInStep (Option Fin × Array Value))} (hD : ∀ v, D v = (Builtin.SmallTypes.nextOf v >>= fun x => pure (some x))) {k : Nat} {Q : Option Fin × Array Value → Shared → Prop} :
    ∀ (ts : List Tr) (acc : Array Value) (s : Shared), (∀ t ∈ ts, At s.heap t k ∧ k < t.row.size) → (ts.map Tr.it).Nodup → (∀ t ∈ ts, ∀ u ∈ ts, t.it ≠ u.l) →
    (∀ h', h'.objs.size = s.heap.objs.size → (∀ t ∈ ts, At h' t (k + 1)) → (∀ b, b ∉ ts.map Tr.it → h'.get? b = s.heap.get? b) → Q (none, acc ++ (ts.map fun t => t.row.getD k .none).toArray) { s with heap := h' }) →
    wpAny (model prog w) A (forIn (ts.map fun t => Value.ref t.it) ((none, acc) : Option Fin × Array Value) fun it r => do
      let x ← holding r.2.toList (D it)
      match x with
      | some x => pure (.yield (none, r.2.push x))
      | none => Z r) Q E s
  | [], acc, s, _, _, _, hQ => by
    simp only [List.map_nil, List.forIn_nil]
    refine wpAny_pure ?_
    have q := hQ s.heap rfl (fun t ht => by cases ht) (fun b _ => rfl)
    simpa using q
  | t :: ts, acc, s, ha, hn, hd, hQ => by
    have hn' := List.nodup_cons.mp (show (t.it :: ts.map Tr.it).Nodup from hn)
    obtain ⟨⟨a1, a2⟩, a3⟩ := ha t List.mem_cons_self
    have hx : t.row[k]? = some (t.row.getD k .none) := by
      rw [Array.getElem?_eq_getElem a3]
      simp [Array.getD, a3]
    simp only [List.map_cons, List.forIn_cons]
    refine wpAny_bind (wpAny_bind (wpAny_holding ?_))
    rw [hD]
    refine wpAny_bind (RZ.nextOf_tuple_item a1 a2 hx fun h1 b1 sb => wpAny_pure ?_)
    refine wpAny_pure ?_
    refine loopB (k := k) hD ts (acc.push (t.row.getD k .none)) { s with heap := h1 } (fun u hu => ?_) hn'.2 (fun u hu v hv => hd u (List.mem_cons_of_mem _ hu) v (List.mem_cons_of_mem _ hv)) fun h' e1 e2 e3 => ?_
    · obtain ⟨q1, q2⟩ := ha u (List.mem_cons_of_mem _ hu)
      refine ⟨q1.far sb.2 (fun e => hn'.1 (e ▸ List.mem_map_of_mem hu)) (fun e => hd t List.mem_cons_self u (List.mem_cons_of_mem _ hu) e.symm), q2⟩
    · have q := hQ h' (e1.trans sb.1) (fun u hu => ?_) (fun b hb => ?_)
      · simpa using q
      · cases hu with
        | head =>
          have far : ∀ c, c ∉ ts.map Tr.it → h'.get? c = h1.get? c := e3
          refine ⟨b1.at fun o e => (far _ hn'.1).trans e, ?_⟩
          obtain ⟨o, e, q⟩ := a2
          refine ⟨o, (far _ ?_).trans ((sb.2 _ fun e => hd t List.mem_cons_self t List.mem_cons_self e.symm).trans e), q⟩
          intro hm
          obtain ⟨u, hu, e⟩ := List.mem_map.mp hm
          exact hd u (List.mem_cons_of_mem _ hu) t List.mem_cons_self e
        | tail _ hu => exact e2 u hu
      · rw [e3 b fun hm => hb (List.mem_cons_of_mem _ hm)]
        exact sb.2 b fun e => hb (by rw [e]; exact List.mem_cons_self)
/-- the owned tuple still stands: the next items come in a new one -/
theorem next_B {z TI TO a : Addr} {b : Bool} {tk : Tok} {ts : List Tr} {k : Nat} {Q : Value → Shared → Prop} {oa : Obj} (hz : s.heap.get? z = some { cls := .type "zip", data := .fields #[.int (a : Nat) tk, .bool b, .bool false, .ref TI, .ref TO] })
    (hTI : s.heap.get? TI = some (tO (ts.map fun t => .ref t.it))) (hla : ∀ {Q : Option Obj → Shared → Prop} {s' : Shared}, s'.heap = s.heap → Q (some oa) s' → wpAny (model prog w) A (loadIfAlive a) Q E s') (hne : ts ≠ [])
    (hAt : ∀ t ∈ ts, At s.heap t k ∧ k < t.row.size) (hn : (ts.map Tr.it).Nodup) (hd : ∀ t ∈ ts, ∀ u ∈ ts, t.it ≠ u.l) (hzi : ∀ t ∈ ts, t.it ≠ z ∧ t.l ≠ z) (hlen : ts.length ≤ 1000)
    (hQ : ∀ h', h'.get? z = some { cls := .type "zip", data := .fields #[.int (a : Nat) tk, .bool true, .bool false, .ref TI, .ref TO] } → (∀ t ∈ ts, At h' t (k + 1)) → h'.objs.size = s.heap.objs.size →
      (∀ c, c ≠ z → c ∉ ts.map Tr.it → h'.get? c = s.heap.get? c) → Q (.ref s.heap.objs.size) { s with heap := h'.push (tO (ts.map fun t => t.row.getD k .none)) }) :
    wpAny (model prog w) A (Builtin.«zip.__next__» ⟨[.ref z], []⟩) (fun fin s' => ∃ v, fin = .done (.ret v) ∧ Q v s') E s := by
  have fin : ∀ h₀ : Heap, h₀.get? z = some { cls := .type "zip", data := .fields #[.int (a : Nat) tk, .bool true, .bool false, .ref TI, .ref TO] } → h₀.objs.size = s.heap.objs.size → (∀ c, c ≠ z → h₀.get? c = s.heap.get? c) →
      ∀ {D : Value → Sem (Option Value)} {Z : Option Fin × Array Value → Sem (ForInStep (Option Fin × Array Value))} {K : Option Fin × Array Value → Sem Fin}, (∀ v, D v = (Builtin.SmallTypes.nextOf v >>= fun x => pure (some x))) → (∀ items, K (none, items) = (newTuple items.toList >>= fun r => ret r)) →
      wpAny (model prog w) A ((forIn (ts.map fun t => Value.ref t.it).toArray ((none, #[]) : Option Fin × Array Value) fun it r => do
        let x ← holding r.2.toList (D it)
        match x with
        | some x => pure (.yield (none, r.2.push x))
        | none => Z r) >>= K) (fun fin s' => ∃ v, fin = .done (.ret v) ∧ Q v s') E { s with heap := h₀ } := fun h₀ z0 z1 z2 {D Z K} hD hK => by
    rw [List.forIn_toArray]
    refine wpAny_bind (loopB (k := k) hD ts #[] { s with heap := h₀ } (fun t ht => ⟨(hAt t ht).1.far z2 (hzi t ht).1 (hzi t ht).2, (hAt t ht).2⟩) hn hd fun h' e1 e2 e3 => ?_)
    rw [hK]
    refine wpAny_bind (wpAny_newTuple ?_ (by simp [sizeLine]; omega))
    refine wpAny_pure ⟨_, rfl, ?_⟩
    have hzm : z ∉ ts.map Tr.it := fun hm => by
      obtain ⟨t, ht, e⟩ := List.mem_map.mp hm
      exact (hzi t ht).1 e
    have q := hQ h' ((e3 z hzm).trans z0) e2 (e1.trans z1) fun c c1 c2 => (e3 c c2).trans (z2 c c1)
    have e4 : h'.objs.size = s.heap.objs.size := e1.trans z1
    show Q (.ref h'.objs.size) _
    rw [e4]
    simpa using q
  show wpAny _ _ (field (.ref z) 2 >>= _) _ _ _
  refine wpAny_bind (wpAny_field hz rfl (x := .bool false) rfl ?_)
  show wpAny _ _ (field (.ref z) 3 >>= _) _ _ _
  refine wpAny_bind (wpAny_field hz rfl (x := .ref TI) rfl ?_)
  refine wpAny_bind (wpAny_seqItems hTI rfl ?_)
  have he : (ts.map fun t => Value.ref t.it).toArray.isEmpty = false := by
    cases ts with
    | nil => exact absurd rfl hne
    | cons t ts => rfl
  simp only [he, Bool.false_eq_true, if_false]
  refine wpAny_bind ?_
  unfold Builtin.SmallTypes.ownedTupleIsFree
  refine wpAny_bind (wpAny_field hz rfl (x := .int (a : Nat) tk) rfl ?_)
  dsimp only
  rw [Int.toNat_natCast]
  refine wpAny_bind (hla rfl ?_)
  simp only [Option.isNone_some, Bool.false_eq_true, if_false]
  refine wpAny_bind (wpAny_field hz rfl (x := .bool b) rfl ?_)
  cases b with
  | true =>
    refine wpAny_pure ?_
    exact fin s.heap hz rfl (fun _ _ => rfl) (fun _ => rfl) (fun _ => rfl)
  | false =>
    show wpAny _ _ (setField (.ref z) 1 (.bool true) >>= _) _ _ _
    refine wpAny_bind (wpAny_setField_rec hz (by simp) fun h₁ hz₁ hs₁ => wpAny_pure ?_)
    exact fin h₁ hz₁ hs₁.1 (fun c hc => hs₁.2 c hc) (fun _ => rfl) (fun _ => rfl)
end
end FZ

set_option Elab.async false
set_option linter.all false
set_option maxRecDepth 100000
set_option maxHeartbeats 1000000
namespace FZ
open PySem PySem.Spec
section
variable {prog : Program} {w : World} {A : Around} {E : Value → Shared → Prop} {s : Shared}
theorem load_alive {M : Model} {a : Addr} {Q : Option Obj → Shared → Prop} (h : Q (s.heap.get? a) s) : wpAny M A (loadIfAlive a) Q E s := fun Γ p _ => by
  unfold loadIfAlive
  simp only [Sem.wp_loadIfAlive]
  exact h
abbrev seqO (xs : Array Value) : Obj := { cls := .type "tuple", data := .seq xs }
def setAll (k : Nat) : Array Value → Nat → List Tr → Array Value
  | arr, _, [] => arr
  | arr, j, t :: ts => setAll k (arr.setIfInBounds j (t.row.getD k .none)) (j + 1) ts
theorem setAll_list {k : Nat} : ∀ (ts : List Tr) (arr : Array Value) (j : Nat), arr.size = j + ts.length → (setAll k arr j ts).toList = arr.toList.take j ++ ts.map fun t => t.row.getD k .none
  | [], arr, j, h => by
    have e : arr.toList.length = j := by simpa using h
    rw [setAll, List.map_nil, List.append_nil, List.take_of_length_le (by omega)]
  | t :: ts, arr, j, h => by
    have h' : arr.size = j + (ts.length + 1) := h
    have q := setAll_list (k := k) ts (arr.setIfInBounds j (t.row.getD k .none)) (j + 1) (by rw [Array.size_setIfInBounds]; omega)
    rw [setAll, q]
    have hj : j < arr.toList.length := by rw [Array.length_toList]; omega
    rw [Array.toList_setIfInBounds, List.take_succ, List.getElem?_set_self hj, List.take_set_of_le (Nat.le_refl j)]
    simp
theorem loopA {D : Value → Sem (Option Value)} {Z : Value × Nat → Sem (ForInStep (Option Fin × Unit))} {U : Value × Nat → Sem (ForInStep (Option Fin × Unit))} {z TO : Addr} (hD : ∀ v, D v = (Builtin.SmallTypes.nextOf v >>= fun x => pure (some x))) {k : Nat} {Q : Option Fin × Unit → Shared → Prop} :
    ∀ (ts : List Tr) (j : Nat) (arr : Array Value) (s : Shared), (∀ t ∈ ts, At s.heap t k ∧ k < t.row.size) → (ts.map Tr.it).Nodup → (∀ t ∈ ts, ∀ u ∈ ts, t.it ≠ u.l) → (∀ t ∈ ts, t.it ≠ TO ∧ t.l ≠ TO) → s.heap.get? TO = some (seqO arr) → arr.size ≤ 1000 →
    (∀ h', h'.objs.size = s.heap.objs.size → (∀ t ∈ ts, At h' t (k + 1)) → h'.get? TO = some (seqO (setAll k arr j ts)) → (∀ b, b ≠ TO → b ∉ ts.map Tr.it → h'.get? b = s.heap.get? b) → Q (none, ()) { s with heap := h' }) →
    wpAny (model prog w) A (forIn ((ts.map fun t => Value.ref t.it).zipIdx j) ((none, ()) : Option Fin × Unit) fun x r => do
      let y ← (D x.1).onRaise fun _ => setField (.ref z) 0 .none
      match y with
      | some v => do
        let i ← seqItems? (.ref TO)
        match i with
        | some kept => do
          updateSeq TO fun q => q.setIfInBounds x.2 v
          letGo [kept.getD x.2 .none]
          pure (.yield (none, ()))
        | _ => U x
      | none => Z x) Q E s
  | [], j, arr, s, _, _, _, _, hT, _, hQ => by
    simp only [List.map_nil, List.zipIdx_nil, List.forIn_nil]
    refine wpAny_pure ?_
    exact hQ s.heap rfl (fun t ht => by cases ht) hT (fun b _ _ => rfl)
  | t :: ts, j, arr, s, ha, hn, hd, ho, hT, hz, hQ => by
    have hn' := List.nodup_cons.mp (show (t.it :: ts.map Tr.it).Nodup from hn)
    obtain ⟨⟨a1, a2⟩, a3⟩ := ha t List.mem_cons_self
    have o1 := ho t List.mem_cons_self
    have hx : t.row[k]? = some (t.row.getD k .none) := by
      rw [Array.getElem?_eq_getElem a3]
      simp [Array.getD, a3]
    simp only [List.map_cons, List.zipIdx_cons, List.forIn_cons]
    refine wpAny_bind (wpAny_bind (wpAny_onRaise ?_))
    rw [hD]
    refine wpAny_bind (RZ.nextOf_tuple_item a1 a2 hx fun h1 b1 sb => wpAny_pure ?_)
    have hT1 : h1.get? TO = some (seqO arr) := (sb.2 _ (Ne.symm o1.1)).trans hT
    dsimp only
    refine wpAny_bind (wpAny_seqItems hT1 rfl ?_)
    dsimp only
    refine wpAny_bind (wpAny_updateSeq hT1 rfl ?_ (by simp [sizeLine]; omega) (by rw [Array.size_setIfInBounds]; simp [sizeLine]; omega))
    refine wpAny_bind (wpAny_letGo (wpAny_pure ?_))
    have hT2 : (h1.update TO (Obj.mapSeq fun q => q.setIfInBounds j (t.row.getD k .none))).get? TO = some (seqO (arr.setIfInBounds j (t.row.getD k .none))) := by
      rw [Heap.get?_update_self _ hT1 rfl]
      simp [Obj.mapSeq]
    have oth : ∀ b, b ≠ TO → (h1.update TO (Obj.mapSeq fun q => q.setIfInBounds j (t.row.getD k .none))).get? b = h1.get? b := fun b hb => Heap.get?_update_other _ _ (Ne.symm hb)
    have sz : (h1.update TO (Obj.mapSeq fun q => q.setIfInBounds j (t.row.getD k .none))).objs.size = h1.objs.size := (Heap.SameBut.update ..).1
    refine loopA (k := k) hD ts (j + 1) (arr.setIfInBounds j (t.row.getD k .none)) _ (fun u hu => ?_) hn'.2 (fun u hu v hv => hd u (List.mem_cons_of_mem _ hu) v (List.mem_cons_of_mem _ hv)) (fun u hu => ho u (List.mem_cons_of_mem _ hu)) hT2 (by rw [Array.size_setIfInBounds]; exact hz) fun h' e1 e2 e3 e4 => ?_
    · obtain ⟨q1, q2⟩ := ha u (List.mem_cons_of_mem _ hu)
      have ou := ho u (List.mem_cons_of_mem _ hu)
      refine ⟨(q1.far sb.2 (fun e => hn'.1 (e ▸ List.mem_map_of_mem hu)) (fun e => hd t List.mem_cons_self u (List.mem_cons_of_mem _ hu) e.symm)).far oth ou.1 ou.2, q2⟩
    · refine hQ h' (e1.trans (sz.trans sb.1)) (fun u hu => ?_) e3 (fun b hb hm => ?_)
      · cases hu with
        | head =>
          have far : ∀ c, c ≠ TO → c ∉ ts.map Tr.it → h'.get? c = h1.get? c := fun c c1 c2 => (e4 c c1 c2).trans (oth c c1)
          refine ⟨b1.at fun o e => (far _ o1.1 hn'.1).trans e, ?_⟩
          obtain ⟨o, e, q⟩ := a2
          refine ⟨o, (far _ o1.2 ?_).trans ((sb.2 _ fun e => hd t List.mem_cons_self t List.mem_cons_self e.symm).trans e), q⟩
          intro hm
          obtain ⟨u, hu, e⟩ := List.mem_map.mp hm
          exact hd u (List.mem_cons_of_mem _ hu) t List.mem_cons_self e
        | tail _ hu => exact e2 u hu
      · rw [e4 b hb fun hq => hm (List.mem_cons_of_mem _ hq), oth b hb]
        exact sb.2 b fun e => hm (by rw [e]; exact List.mem_cons_self)
/-- the first items come in a new tuple, the owned one keeps them -/
theorem next_A {z TI TO : Addr} {ts : List Tr} {k : Nat} {arr : Array Value} {Q : Value → Shared → Prop} (hz : s.heap.get? z = some (zO .none TI TO))
    (hTI : s.heap.get? TI = some (tO (ts.map fun t => .ref t.it))) (hTO : s.heap.get? TO = some (seqO arr)) (hne : ts ≠ [])
    (hAt : ∀ t ∈ ts, At s.heap t k ∧ k < t.row.size) (hn : (ts.map Tr.it).Nodup) (hd : ∀ t ∈ ts, ∀ u ∈ ts, t.it ≠ u.l) (hzi : ∀ t ∈ ts, t.it ≠ z ∧ t.l ≠ z) (hti : ∀ t ∈ ts, t.it ≠ TO ∧ t.l ≠ TO) (hzT : z ≠ TO) (hsz : arr.size = ts.length) (hlen : ts.length ≤ 1000)
    (hQ : ∀ h', h'.get? z = some (zO (rawInt s.heap.objs.size) TI TO) → (∀ t ∈ ts, At h' t (k + 1)) → h'.objs.size = s.heap.objs.size + 1 → h'.get? s.heap.objs.size = some (tO (ts.map fun t => t.row.getD k .none)) →
      (∀ c o, c ≠ z → c ≠ TO → c ∉ ts.map Tr.it → s.heap.get? c = some o → h'.get? c = some o) → Q (.ref s.heap.objs.size) { s with heap := h' }) :
    wpAny (model prog w) A (Builtin.«zip.__next__» ⟨[.ref z], []⟩) (fun fin s' => ∃ v, fin = .done (.ret v) ∧ Q v s') E s := by
  have hzm : z ∉ ts.map Tr.it := fun hm => by
    obtain ⟨t, ht, e⟩ := List.mem_map.mp hm
    exact (hzi t ht).1 e
  have fin : ∀ h₀ : Heap, h₀.get? z = some (zO .ellipsis TI TO) → h₀.objs.size = s.heap.objs.size → (∀ c, c ≠ z → h₀.get? c = s.heap.get? c) →
      ∀ {D : Value → Sem (Option Value)} {Z U : Value × Nat → Sem (ForInStep (Option Fin × Unit))} {K : Option Fin × Unit → Sem Fin}, (∀ v, D v = (Builtin.SmallTypes.nextOf v >>= fun x => pure (some x))) →
      (∀ {s' : Shared} {xs : Array Value}, s'.heap.get? TO = some (seqO xs) → wpAny (model prog w) A (newTuple xs.toList >>= fun r => Builtin.SmallTypes.ownedTupleHandOut (.ref z) r >>= fun _ => ret r) (fun fin s' => ∃ v, fin = .done (.ret v) ∧ Q v s') E s' → wpAny (model prog w) A (K (none, ())) (fun fin s' => ∃ v, fin = .done (.ret v) ∧ Q v s') E s') →
      wpAny (model prog w) A ((forIn ((ts.map fun t => Value.ref t.it).zipIdx 0) ((none, ()) : Option Fin × Unit) fun x r => do
      let y ← (D x.1).onRaise fun _ => setField (.ref z) 0 .none
      match y with
      | some v => do
        let i ← seqItems? (.ref TO)
        match i with
        | some kept => do
          updateSeq TO fun q => q.setIfInBounds x.2 v
          letGo [kept.getD x.2 .none]
          pure (.yield (none, ()))
        | _ => U x
      | none => Z x) >>= K) (fun fin s' => ∃ v, fin = .done (.ret v) ∧ Q v s') E { s with heap := h₀ } := fun h₀ z0 z1 z2 {D Z U K} hD hK => by
    refine wpAny_bind (loopA (k := k) hD ts 0 arr { s with heap := h₀ } (fun t ht => ⟨(hAt t ht).1.far z2 (hzi t ht).1 (hzi t ht).2, (hAt t ht).2⟩) hn hd hti ((z2 _ hzT.symm).trans hTO) (by omega) fun h' e1 e2 e3 e4 => ?_)
    refine hK e3 ?_
    have hl := setAll_list (k := k) ts arr 0 (by omega)
    rw [List.take_zero, List.nil_append] at hl
    rw [hl]
    have e5 : h'.objs.size = s.heap.objs.size := e1.trans z1
    refine wpAny_bind (wpAny_newTuple ?_ (by simp [sizeLine]; omega))
    show wpAny _ _ (Builtin.SmallTypes.ownedTupleHandOut (.ref z) (.ref h'.objs.size) >>= _) _ _ _
    refine wpAny_bind ?_
    unfold Builtin.SmallTypes.ownedTupleHandOut
    have hz6 : (h'.push (tO (ts.map fun t => t.row.getD k .none))).get? z = some (zO .ellipsis TI TO) := Heap.get?_push_of_some _ ((e4 z hzT hzm).trans z0)
    refine wpAny_bind (wpAny_setField_rec hz6 (by simp) fun h7 hz7 hs7 => ?_)
    refine wpAny_setField_rec hz7 (by simp) fun h8 hz8 hs8 => ?_
    have up : ∀ c o, c ≠ z → h'.get? c = some o → h8.get? c = some o := fun c o c1 e => (hs8.2 c c1).trans ((hs7.2 c c1).trans (Heap.get?_push_of_some _ e))
    have hzl : z < h'.objs.size := Heap.lt_size ((e4 z hzT hzm).trans z0)
    refine wpAny_pure ⟨_, rfl, ?_⟩
    show Q (.ref h'.objs.size) _
    have q := hQ h8 (by rw [← e5]; exact hz8) (fun t ht => ?_) (by rw [hs8.1, hs7.1, Heap.size_push, e5]) ?_ fun c o c1 c2 c3 e => up c o c1 ((e4 c c2 c3).trans ((z2 c c1).trans e))
    · rw [e5]
      exact q
    · have a := e2 t ht
      refine ⟨a.1.at fun o e => up _ o (hzi t ht).1 e, ?_⟩
      obtain ⟨o, e, q⟩ := a.2
      exact ⟨o, up _ o (hzi t ht).2 e, q⟩
    · rw [← e5]
      exact (hs8.2 _ (Nat.ne_of_gt hzl)).trans ((hs7.2 _ (Nat.ne_of_gt hzl)).trans (push_at rfl rfl))
  show wpAny _ _ (field (.ref z) 2 >>= _) _ _ _
  refine wpAny_bind (wpAny_field hz rfl (x := .bool false) rfl ?_)
  show wpAny _ _ (field (.ref z) 3 >>= _) _ _ _
  refine wpAny_bind (wpAny_field hz rfl (x := .ref TI) rfl ?_)
  refine wpAny_bind (wpAny_seqItems hTI rfl ?_)
  have he : (ts.map fun t => Value.ref t.it).toArray.isEmpty = false := by
    cases ts with
    | nil => exact absurd rfl hne
    | cons t ts => rfl
  simp only [he, Bool.false_eq_true, if_false]
  refine wpAny_bind ?_
  unfold Builtin.SmallTypes.ownedTupleIsFree
  refine wpAny_bind (wpAny_field hz rfl (x := .none) rfl (wpAny_pure ?_))
  simp only [if_true]
  refine wpAny_bind (wpAny_rule ?_)
  refine wpAny_bind (wpAny_field hz rfl (x := .ref TO) rfl ?_)
  refine wpAny_bind (wpAny_setField_rec hz (by simp) fun h₁ hz₁ hs₁ => ?_)
  refine fin h₁ hz₁ hs₁.1 (fun c hc => hs₁.2 c hc) ?_ ?_
  · exact fun _ => rfl
  · intro s' xs e h
    exact wpAny_bind (wpAny_seqItems e rfl h)
end
end FZ

set_option Elab.async false
set_option linter.all false
set_option maxRecDepth 100000
set_option maxHeartbeats 1000000
namespace FZ
open PySem PySem.Spec
section
variable {prog : Program} {w : World} {A : Around} {E : Value → Shared → Prop} {s : Shared}
abbrev zI (f : Value) (b : Bool) (TI TO : Addr) : Obj := { cls := .type "zip", data := .fields #[f, .bool b, .bool false, .ref TI, .ref TO] }
theorem end_B {z TI TO a : Addr} {b : Bool} {tk : Tok} {t : Tr} {ts : List Tr} {k : Nat} {Q : Fin → Shared → Prop} {oa : Obj} (hh : A.handled = none) (hz : s.heap.get? z = some (zI (.int (a : Nat) tk) b TI TO))
    (hTI : s.heap.get? TI = some (tO ((t :: ts).map fun t => .ref t.it))) (ha : s.heap.get? a = some oa) (hAt : At s.heap t k) (hend : t.row[k]? = none) (hzi : t.it ≠ z ∧ t.l ≠ z)
    (hE : ∀ h' e, (∀ c o, c ≠ z → c ≠ t.it → s.heap.get? c = some o → h'.get? c = some o) → (∃ o, h'.get? e = some o ∧ o.cls = .type "StopIteration") → E (.ref e) { s with heap := h' }) :
    wpAny (model prog w) A (Builtin.«zip.__next__» ⟨[.ref z], []⟩) Q E s := by
  have fin : ∀ h₀ : Heap, (∀ c, c ≠ z → h₀.get? c = s.heap.get? c) → 
      ∀ {D : Value → Sem (Option Value)} {Z : Option Fin × Array Value → Sem (ForInStep (Option Fin × Array Value))} {K : Option Fin × Array Value → Sem Fin}, (∀ v, D v = (Builtin.SmallTypes.nextOf v >>= fun x => pure (some x))) →
      wpAny (model prog w) A ((forIn ((t :: ts).map fun t => Value.ref t.it).toArray ((none, #[]) : Option Fin × Array Value) fun it r => do
        let x ← holding r.2.toList (D it)
        match x with
        | some x => pure (.yield (none, r.2.push x))
        | none => Z r) >>= K) Q E { s with heap := h₀ } := fun h₀ z2 {D Z K} hD => by
    rw [List.forIn_toArray]
    simp only [List.map_cons, List.forIn_cons]
    refine wpAny_bind (wpAny_bind (wpAny_bind (wpAny_holding ?_)))
    rw [hD]
    have a := hAt.far z2 hzi.1 hzi.2
    refine wpAny_bind (RZ.nextOf_tuple_end hh a.1 a.2 hend fun h2 e hs2 he => hE h2 e (fun c o c1 c2 x => hs2 _ _ c2 ((z2 c c1).trans x)) he)
  show wpAny _ _ (field (.ref z) 2 >>= _) _ _ _
  refine wpAny_bind (wpAny_field hz rfl (x := .bool false) rfl ?_)
  show wpAny _ _ (field (.ref z) 3 >>= _) _ _ _
  refine wpAny_bind (wpAny_field hz rfl (x := .ref TI) rfl ?_)
  refine wpAny_bind (wpAny_seqItems hTI rfl ?_)
  have he : ((t :: ts).map fun t => Value.ref t.it).toArray.isEmpty = false := rfl
  simp only [he, Bool.false_eq_true, if_false]
  refine wpAny_bind ?_
  unfold Builtin.SmallTypes.ownedTupleIsFree
  refine wpAny_bind (wpAny_field hz rfl (x := .int (a : Nat) tk) rfl ?_)
  dsimp only
  rw [Int.toNat_natCast]
  refine wpAny_bind (load_alive ?_)
  rw [ha]
  simp only [Option.isNone_some, Bool.false_eq_true, if_false]
  refine wpAny_bind (wpAny_field hz rfl (x := .bool b) rfl ?_)
  cases b with
  | true =>
    refine wpAny_pure ?_
    exact fin s.heap (fun _ _ => rfl) (fun _ => rfl)
  | false =>
    show wpAny _ _ (setField (.ref z) 1 (.bool true) >>= _) _ _ _
    refine wpAny_bind (wpAny_setField_rec hz (by simp) fun h₁ hz₁ hs₁ => wpAny_pure ?_)
    exact fin h₁ (fun c hc => hs₁.2 c hc) (fun _ => rfl)
end
end FZ

set_option Elab.async false
set_option linter.all false
set_option maxRecDepth 100000
set_option maxHeartbeats 1000000
namespace FZ
open PySem PySem.Spec
section
variable {prog : Program} {w : World} {A : Around} {E : Value → Shared → Prop} {s : Shared}
/-- the walk after k turns: where everything stands -/
structure Wk (h : Heap) (z TI TO : Addr) (ts : List Tr) (b0 : Nat) (k : Nat) : Prop where
  zz : if k = 0 then h.get? z = some (zO .none TI TO) else ∃ b, h.get? z = some (zI (rawInt b0) b TI TO)
  ti : h.get? TI = some (tO (ts.map fun t => .ref t.it))
  tO : k = 0 → ∃ arr, arr.size = ts.length ∧ h.get? TO = some (seqO arr)
  at_ : ∀ t ∈ ts, At h t k
  cols : ∀ j, j < k → h.get? (b0 + j) = some (FZ.tO (ts.map fun t => t.row.getD j .none))
  size : h.objs.size = b0 + k
/-- what stays apart -/
structure Ap (z TI TO : Addr) (ts : List Tr) (b0 W : Nat) : Prop where
  ne : ts ≠ []
  len : ts.length ≤ 1000
  row : ∀ t ∈ ts, t.row.size = W
  nd : (ts.map Tr.it).Nodup
  il : ∀ t ∈ ts, ∀ u ∈ ts, t.it ≠ u.l
  az : ∀ t ∈ ts, t.it ≠ z ∧ t.l ≠ z
  aT : ∀ t ∈ ts, t.it ≠ TO ∧ t.l ≠ TO
  aI : ∀ t ∈ ts, t.it ≠ TI
  zT : z ≠ TO
  zI : z ≠ TI
  TT : TI ≠ TO
  old : z < b0 ∧ TI < b0 ∧ TO < b0 ∧ ∀ t ∈ ts, t.it < b0 ∧ t.l < b0
theorem not_mem_it {ts : List Tr} {c : Addr} (h : ∀ t ∈ ts, t.it ≠ c) : c ∉ ts.map Tr.it := fun hm => by
  obtain ⟨t, ht, e⟩ := List.mem_map.mp hm
  exact h t ht e
theorem next_ok {z TI TO : Addr} {ts : List Tr} {b0 W k : Nat} {Q : Option Value → Shared → Prop} (P : Ap z TI TO ts b0 W) (hk : k < W) (w0 : Wk s.heap z TI TO ts b0 k)
    (hQ : ∀ h', Wk h' z TI TO ts b0 (k + 1) → (∀ c o, c ≠ z → c ≠ TO → c ∉ ts.map Tr.it → s.heap.get? c = some o → h'.get? c = some o) → Q (some (.ref (b0 + k))) { s with heap := h' }) :
    wpAny (model prog w) A (pyNext (.ref z)) Q E s := by
  have hAt : ∀ t ∈ ts, At s.heap t k ∧ k < t.row.size := fun t ht => ⟨w0.at_ t ht, by rw [P.row t ht]; exact hk⟩
  have sz := w0.size
  by_cases k0 : k = 0
  · have hz := w0.zz
    rw [if_pos k0] at hz
    obtain ⟨arr, ea, hT⟩ := w0.tO k0
    have ty : s.TypeIs (.ref z) "zip" := ⟨_, hz, rfl⟩
    unfold pyNext
    refine wpAny_bind (wpAny_attempt (wpAny_callSpecial?_slot (name := Str.ofString "__next__") ty F.slot_zip_next (wpAny_call_entry F.slot_zip_next ty F.entry_zip_next
      (next_A hz w0.ti hT P.ne hAt P.nd P.il P.az P.aT P.zT ea P.len fun h' e1 e2 e3 e4 e5 => wpAny_pure ?_) (F.args_zip_next_1 _))))
    subst k0
    have s0 : s.heap.objs.size = b0 := by rw [sz]; rfl
    rw [s0] at e1 e3 e4 ⊢
    refine hQ h' ⟨?_, e5 TI _ P.zI.symm P.TT (not_mem_it P.aI) w0.ti, fun q => absurd q (by omega), e2, fun j hj => ?_, ?_⟩ e5
    · rw [if_neg (by omega)]
      exact ⟨false, e1⟩
    · have : j = 0 := by omega
      subst this
      exact e4
    · rw [e3]
  · have hz := w0.zz
    rw [if_neg k0] at hz
    obtain ⟨b, hz⟩ := hz
    have c0 := w0.cols 0 (by omega)
    have ty : s.TypeIs (.ref z) "zip" := ⟨_, hz, rfl⟩
    unfold pyNext
    refine wpAny_bind (wpAny_attempt (wpAny_callSpecial?_slot (name := Str.ofString "__next__") ty F.slot_zip_next (wpAny_call_entry F.slot_zip_next ty F.entry_zip_next
      (next_B (a := b0) (tk := 0) hz w0.ti (fun {Q s'} e h => load_alive (by rw [e, show b0 = b0 + 0 from rfl, c0]; exact h)) P.ne hAt P.nd P.il P.az P.len fun h' e1 e2 e3 e4 => wpAny_pure ?_) (F.args_zip_next_1 _))))
    have zm : z ∉ ts.map Tr.it := not_mem_it fun t ht => (P.az t ht).1
    have keep : ∀ c o, c ≠ z → c ∉ ts.map Tr.it → s.heap.get? c = some o → (h'.push (FZ.tO (ts.map fun t => t.row.getD k .none))).get? c = some o := fun c o c1 c2 e => Heap.get?_push_of_some _ ((e4 c c1 c2).trans e)
    have big : ∀ j, b0 + j ≠ z ∧ b0 + j ∉ ts.map Tr.it := fun j => by
      have h1 : z < b0 := P.old.1
      refine ⟨fun e => ?_, not_mem_it fun t ht e => ?_⟩
      · exact absurd (e ▸ h1 : b0 + j < b0) (Nat.not_lt.mpr (Nat.le_add_right _ _))
      · have h2 := (P.old.2.2.2 t ht).1
        exact absurd (e ▸ h2 : b0 + j < b0) (Nat.not_lt.mpr (Nat.le_add_right _ _))
    rw [sz]
    refine hQ _ ⟨?_, keep TI _ P.zI.symm (not_mem_it P.aI) w0.ti, fun q => absurd q (by omega), fun t ht => ?_, fun j hj => ?_, ?_⟩ fun c o c1 _ c3 e => keep c o c1 c3 e
    · rw [if_neg (by omega)]
      exact ⟨true, Heap.get?_push_of_some _ e1⟩
    · have a := e2 t ht
      refine ⟨a.1.at fun o e => Heap.get?_push_of_some _ e, ?_⟩
      obtain ⟨o, e, q⟩ := a.2
      exact ⟨o, Heap.get?_push_of_some _ e, q⟩
    · by_cases jk : j = k
      · subst jk
        exact push_at (by rw [e3, sz]) rfl
      · exact keep _ _ (big j).1 (big j).2 (w0.cols j (by omega))
    · rw [Heap.size_push, e3, sz]
      omega
theorem stop_ok {z TI TO : Addr} {ts : List Tr} {b0 W : Nat} {Q : Option Value → Shared → Prop} (hh : A.handled = none) (P : Ap z TI TO ts b0 W) (hW : 1 ≤ W) (w0 : Wk s.heap z TI TO ts b0 W)
    (hQ : ∀ h', (∀ c o, c ≠ z → c ≠ TO → c ∉ ts.map Tr.it → s.heap.get? c = some o → h'.get? c = some o) → Q none { s with heap := h' }) : wpAny (model prog w) A (pyNext (.ref z)) Q E s := by
  have hz := w0.zz
  rw [if_neg (by omega)] at hz
  obtain ⟨b, hz⟩ := hz
  have c0 := w0.cols 0 (by omega)
  have ty : s.TypeIs (.ref z) "zip" := ⟨_, hz, rfl⟩
  cases ts with
  | nil => exact absurd rfl P.ne
  | cons t ts =>
    have ht : t ∈ t :: ts := List.mem_cons_self
    unfold pyNext
    refine wpAny_bind (wpAny_attempt (wpAny_callSpecial?_slot (name := Str.ofString "__next__") ty F.slot_zip_next (wpAny_call_entry F.slot_zip_next ty F.entry_zip_next
      (end_B (a := b0) (tk := 0) hh hz w0.ti c0 (w0.at_ t ht) (by rw [Array.getElem?_eq_none]; rw [P.row t ht]; exact Nat.le_refl _) (P.az t ht) fun h' e hk he => ?_) (F.args_zip_next_1 _))))
    obtain ⟨o, ho, hc⟩ := he
    refine wpAny_bind (wpAny_isInstance (T := "StopIteration") (b := true) ⟨o, ho, hc⟩ isSubtype_stop ?_)
    exact wpAny_pure (hQ _ fun c o c1 _ c3 e => hk c o c1 (fun q => c3 (q ▸ List.mem_cons_self)) e)
end
end FZ

set_option Elab.async false
set_option linter.all false
set_option maxRecDepth 100000
set_option maxHeartbeats 1000000
namespace FZ
open PySem PySem.Spec
section
variable {prog : Program} {w : World} {A : Around} {E : Value → Shared → Prop} {s : Shared}
/-- the list that gathers stands apart from the walk -/
structure Sa (S : Addr) (z TI TO : Addr) (ts : List Tr) (b0 : Nat) : Prop where
  z : S ≠ z
  TI : S ≠ TI
  TO : S ≠ TO
  it : ∀ t ∈ ts, t.it ≠ S ∧ t.l ≠ S
  lt : S < b0
theorem Wk.far {h h' : Heap} {S z TI TO : Addr} {ts : List Tr} {b0 k : Nat} (w0 : Wk h z TI TO ts b0 k) (a : Sa S z TI TO ts b0) (sb : ∀ c, c ≠ S → h'.get? c = h.get? c) (sz : h'.objs.size = h.objs.size) : Wk h' z TI TO ts b0 k := by
  refine ⟨?_, (sb _ (Ne.symm a.TI)).trans w0.ti, fun q => ?_, fun t ht => (w0.at_ t ht).far sb (a.it t ht).1 (a.it t ht).2, fun j hj => (sb _ fun e => ?_).trans (w0.cols j hj), sz.trans w0.size⟩
  · have q := w0.zz
    have e := sb _ (Ne.symm a.z)
    split at q
    · rename_i k0
      rw [if_pos k0]
      exact e.trans q
    · rename_i k0
      rw [if_neg k0]
      obtain ⟨b, q⟩ := q
      exact ⟨b, e.trans q⟩
  · obtain ⟨arr, e1, e2⟩ := w0.tO q
    exact ⟨arr, e1, (sb _ (Ne.symm a.TO)).trans e2⟩
  · exact absurd (e ▸ a.lt : b0 + j < b0) (Nat.not_lt.mpr (Nat.le_add_right _ _))
abbrev lO (xs : Array Value) (c : Nat) : Obj := { cls := .type "list", dict := none, data := .seq xs c, slots := #[] }
theorem gather_ok {z TI TO S : Addr} {ts : List Tr} {b0 W : Nat} {R : Result → Shared → Prop} (hh : A.handled = none) (P : Ap z TI TO ts b0 W) (a : Sa S z TI TO ts b0) (hW : 1 ≤ W) (hW2 : W ≤ 1000000) (res : Value) :
    ∀ (m k : Nat) (s : Shared) (acc : Array Value) (c : Nat), k + m = W → Wk s.heap z TI TO ts b0 k → s.heap.get? S = some (lO acc c) → acc.toList = (List.range' b0 k).map Value.ref →
    (∀ h' acc' c', (∀ j, j < W → h'.get? (b0 + j) = some (tO (ts.map fun t => t.row.getD j .none))) → h'.get? S = some (lO acc' c') → acc'.toList = (List.range' b0 W).map Value.ref →
      (∀ c o, c ≠ S → c ≠ z → c ≠ TO → c ∉ ts.map Tr.it → s.heap.get? c = some o → h'.get? c = some o) → R (.ok (.ret res)) { s with heap := h' }) →
    codeAny (model prog w) A (.builtin "list.extend.loop" ⟨[.ref S, .ref z, res], []⟩) R s := by
  have Sm : S ∉ ts.map Tr.it := not_mem_it fun t ht => (a.it t ht).1
  have lz : sizeLine = 16777216 := by decide +kernel
  intro m
  induction m with
  | zero =>
    intro k s acc c hk w0 hS hacc hR
    have e : k = W := by omega
    subst e
    refine codeAny_builtin F.entry_extend_loop ?_
    rw [Around.under_plainId F.plain_extend_loop _]
    show wpAny _ A.in1 (pyNext (.ref z) >>= _) _ _ s
    refine wpAny_bind (stop_ok (A := A.in1) hh P hW w0 fun h' kp => ?_)
    refine wpAny_pure (hR h' acc c (fun j hj => kp _ _ ?_ ?_ ?_ (w0.cols j hj)) (kp S _ a.z a.TO Sm hS) hacc fun c o c1 c2 c3 c4 e => kp c o c2 c3 c4 e)
    · exact fun e => absurd (e ▸ P.old.1 : b0 + j < b0) (Nat.not_lt.mpr (Nat.le_add_right _ _))
    · exact fun e => absurd (e ▸ P.old.2.2.1 : b0 + j < b0) (Nat.not_lt.mpr (Nat.le_add_right _ _))
    · exact not_mem_it fun t ht e => absurd (e ▸ (P.old.2.2.2 t ht).1 : b0 + j < b0) (Nat.not_lt.mpr (Nat.le_add_right _ _))
  | succ m ih =>
    intro k s acc c hk w0 hS hacc hR
    refine codeAny_builtin F.entry_extend_loop ?_
    rw [Around.under_plainId F.plain_extend_loop _]
    show wpAny _ A.in1 (pyNext (.ref z) >>= _) _ _ s
    refine wpAny_bind (next_ok (A := A.in1) P (by omega) w0 fun h' w1 kp => ?_)
    have hS' := kp S _ a.z a.TO Sm hS
    have ln : acc.size = k := by
      have q := congrArg List.length hacc
      simpa using q
    show wpAny _ A.in1 (updateSeq S (·.push (.ref (b0 + k))) >>= _) _ _ _
    refine wpAny_bind ?_
    refine wpAny_updateSeq hS' rfl (wpAny_pure ⟨plainId_quiet F.plain_extend_loop _, ?_⟩) (by rw [ln]; omega) (by show (acc.push _).size ≤ sizeLine + 1; rw [Array.size_push, ln]; omega)
    have oth : ∀ b, b ≠ S → (h'.update S (Obj.mapSeq (·.push (.ref (b0 + k))))).get? b = h'.get? b := fun b hb => Heap.get?_update_other _ _ (Ne.symm hb)
    refine ih (k + 1) _ (acc.push (.ref (b0 + k))) _ (by omega) (w1.far a oth (Heap.SameBut.update ..).1) (Heap.get?_update_self _ hS' rfl) (by rw [Array.toList_push, hacc, List.range'_concat]; simp) fun h2 acc' c' e1 e2 e3 e4 => ?_
    exact hR h2 acc' c' e1 e2 e3 fun c o c1 c2 c3 c4 e => e4 c o c1 c2 c3 c4 ((oth c c1).trans (kp c o c2 c3 c4 e))
end
end FZ

set_option Elab.async false
set_option linter.all false
set_option maxRecDepth 100000
set_option maxHeartbeats 1000000
namespace FZ
open PySem PySem.Spec
section
variable {prog : Program} {w : World} {A : Around} {E : Value → Shared → Prop} {s : Shared}
theorem zip_no_len : typeLookup (.type "zip") "__len__" = pure none := by rw [typeLookup_type, builtinLookup_eq_fast]; kernel_rfl
theorem zip_no_hint : typeLookup (.type "zip") "__length_hint__" = pure none := by rw [typeLookup_type, builtinLookup_eq_fast]; kernel_rfl
theorem fst_wk {h : Heap} {z TI TO : Addr} {ts : List Tr} {arr : Array Value} (hz : h.get? z = some (zO .none TI TO)) (hI : h.get? TI = some (tO (ts.map fun t => .ref t.it))) (hO : h.get? TO = some (seqO arr)) (hs : arr.size = ts.length) (hA : ∀ t ∈ ts, At h t 0) : Wk h z TI TO ts h.objs.size 0 :=
  ⟨by rw [if_pos rfl]; exact hz, hI, fun _ => ⟨arr, hs, hO⟩, hA, fun j hj => absurd hj (Nat.not_lt_zero j), rfl⟩
theorem Wk.wide {h h' : Heap} {z TI TO : Addr} {ts : List Tr} {b0 : Nat} (w0 : Wk h z TI TO ts b0 0) (sb : ∀ c o, h.get? c = some o → h'.get? c = some o) : Wk h' z TI TO ts h'.objs.size 0 := by
  have q := w0.zz
  rw [if_pos rfl] at q
  obtain ⟨arr, e1, e2⟩ := w0.tO rfl
  refine fst_wk (sb _ _ q) (sb _ _ w0.ti) (sb _ _ e2) e1 fun t ht => ?_
  have a := w0.at_ t ht
  refine ⟨a.1.at fun o e => sb _ o e, ?_⟩
  obtain ⟨o, e, r⟩ := a.2
  exact ⟨o, sb _ o e, r⟩
theorem collect_zip {z TI TO : Addr} {ts : List Tr} {W : Nat} {Q : List Value → Shared → Prop} (hh : A.handled = none) (P : Ap z TI TO ts s.heap.objs.size W) (hW : 1 ≤ W) (hW2 : W ≤ 1000000) (w0 : Wk s.heap z TI TO ts s.heap.objs.size 0)
    (hQ : ∀ h', (∀ j, j < W → h'.get? (s.heap.objs.size + 1 + j) = some (tO (ts.map fun t => t.row.getD j .none))) → (∀ c o, c ≠ z → c ≠ TO → c ∉ ts.map Tr.it → s.heap.get? c = some o → h'.get? c = some o) → Q ((List.range' (s.heap.objs.size + 1) W).map Value.ref) { s with heap := h' }) :
    wpAny (model prog w) A (collect (.ref z)) Q E s := by
  have hz := w0.zz
  rw [if_pos rfl] at hz
  unfold collect
  refine wpAny_bind (wpAny_runValue (codeAny_builtin F.entry_proto_collect ?_))
  rw [Around.under_plainId F.plain_proto_collect _]
  show wpAny _ A.in1 (newList [] >>= fun l => again (.builtin "list.__iadd__" ⟨[l, .ref z], []⟩)) _ _ s
  refine wpAny_bind (wpAny_newObj_type ?_)
  refine wpAny_pure ⟨plainId_quiet F.plain_list_iadd _, codeAny_builtin F.entry_list_iadd ?_⟩
  rw [Around.under_plainId F.plain_list_iadd _]
  have w1 : Wk (s.heap.push { cls := .type "list", data := .seq ([] : List Value).toArray }) z TI TO ts (s.heap.push { cls := .type "list", data := .seq ([] : List Value).toArray }).objs.size 0 := w0.wide fun c o e => Heap.get?_push_of_some _ e
  have ne : s.heap.objs.size ≠ z := Nat.ne_of_gt P.old.1
  have ty : Shared.TypeIs { s with heap := s.heap.push { cls := .type "list", data := .seq ([] : List Value).toArray } } (.ref z) "zip" := ⟨_, Heap.get?_push_of_some _ hz, rfl⟩
  show wpAny _ A.in1 (Builtin.List.listExtendWith (.ref s.heap.objs.size) (.ref z) (.ref s.heap.objs.size)) _ _ _
  unfold Builtin.List.listExtendWith
  refine wpAny_bind (wpAny_typeOf ty ?_)
  have h1 : Builtin.List.listSameRef (.ref s.heap.objs.size) (.ref z) = false := by simp [Builtin.List.listSameRef, ne]
  have h2 : (Value.type "zip" == Value.type "list") = false := by decide
  have h3 : (Value.type "zip" == Value.type "tuple") = false := by decide
  simp only [h1, h2, h3, Bool.or_false, Bool.false_eq_true, if_false]
  refine wpAny_bind (wpAny_pyIter_zip (Heap.get?_push_of_some _ hz) ?_)
  refine wpAny_bind (wpAny_holding ?_)
  unfold Builtin.List.listLengthHint
  refine wpAny_bind (wpAny_specialOf ty zip_no_len ?_)
  show wpAny _ A.in1 (specialOf (Value.ref z) (Str.ofString "__length_hint__") >>= _) _ _ _
  refine wpAny_bind (wpAny_specialOf ty zip_no_hint ?_)
  refine wpAny_pure ?_
  show wpAny _ A.in1 (rule "list.extend.makes-room" >>= fun _ => Builtin.List.listTouch (.ref s.heap.objs.size) >>= fun _ =>
    again (.builtin "list.extend.loop" ⟨[.ref s.heap.objs.size, .ref z, .ref s.heap.objs.size], []⟩)) _ _ _
  refine wpAny_bind (wpAny_rule ?_)
  have p1 : (s.heap.push { cls := .type "list", data := .seq ([] : List Value).toArray }).get? s.heap.objs.size = some { cls := .type "list", data := .seq ([] : List Value).toArray } := push_at rfl rfl
  refine wpAny_bind ?_
  show wpAny _ A.in1 (updateSeq s.heap.objs.size (·.push .none) >>= fun _ => updateSeq s.heap.objs.size (·.pop)) _ _ _
  refine wpAny_bind (wpAny_updateSeq p1 rfl ?_)
  have p2 := Heap.get?_update_self (Obj.mapSeq (·.push Value.none)) p1 rfl
  refine wpAny_updateSeq p2 rfl ?_
  obtain ⟨cc, p3⟩ : ∃ cc, (((s.heap.push { cls := .type "list", data := .seq ([] : List Value).toArray }).update s.heap.objs.size (Obj.mapSeq (·.push Value.none))).update s.heap.objs.size (Obj.mapSeq (·.pop))).get? s.heap.objs.size = some (lO #[] cc) := ⟨_, Heap.get?_update_self (Obj.mapSeq (·.pop)) p2 rfl⟩
  refine wpAny_pure ⟨plainId_quiet F.plain_extend_loop _, ?_⟩
  have apart : Sa s.heap.objs.size z TI TO ts (s.heap.objs.size + 1) := ⟨ne, Nat.ne_of_gt P.old.2.1, Nat.ne_of_gt P.old.2.2.1, fun t ht => ⟨Nat.ne_of_lt (P.old.2.2.2 t ht).1, Nat.ne_of_lt (P.old.2.2.2 t ht).2⟩, Nat.lt_succ_self _⟩
  have P1 : Ap z TI TO ts (s.heap.objs.size + 1) W := { P with old := ⟨Nat.lt_succ_of_lt P.old.1, Nat.lt_succ_of_lt P.old.2.1, Nat.lt_succ_of_lt P.old.2.2.1, fun t ht => ⟨Nat.lt_succ_of_lt (P.old.2.2.2 t ht).1, Nat.lt_succ_of_lt (P.old.2.2.2 t ht).2⟩⟩ }
  rw [Heap.size_push] at w1
  have w2 := Wk.far (h' := (s.heap.push { cls := .type "list", data := .seq ([] : List Value).toArray }).update s.heap.objs.size (Obj.mapSeq (·.push Value.none))) w1 apart (fun c hc => Heap.get?_update_other _ _ (Ne.symm hc)) (Heap.SameBut.update ..).1
  have w3 := Wk.far (h' := ((s.heap.push { cls := .type "list", data := .seq ([] : List Value).toArray }).update s.heap.objs.size (Obj.mapSeq (·.push Value.none))).update s.heap.objs.size (Obj.mapSeq (·.pop))) w2 apart (fun c hc => Heap.get?_update_other _ _ (Ne.symm hc)) (Heap.SameBut.update ..).1
  refine gather_ok (A := A) hh P1 apart hW hW2 (.ref s.heap.objs.size) W 0 { s with heap := ((s.heap.push { cls := .type "list", data := .seq ([] : List Value).toArray }).update s.heap.objs.size (Obj.mapSeq (·.push Value.none))).update s.heap.objs.size (Obj.mapSeq (·.pop)) } #[] cc (Nat.zero_add _) w3 p3 rfl fun h' acc' c' e1 e2 e3 e4 => ?_
  show wpAny _ A (load s.heap.objs.size >>= _) _ _ _
  refine wpAny_bind (wpAny_load e2 ?_)
  refine wpAny_pure ?_
  rw [e3]
  refine hQ h' e1 fun c o c1 c2 c3 e => e4 c o (Nat.ne_of_lt (Heap.lt_size e)) c1 c2 c3 ?_
  have nc : s.heap.objs.size ≠ c := Nat.ne_of_gt (Heap.lt_size e)
  exact (Heap.get?_update_other _ _ nc).trans ((Heap.get?_update_other _ _ nc).trans (Heap.get?_push_of_some _ e))
end
end FZ

set_option Elab.async false
set_option linter.all false
set_option maxRecDepth 100000
set_option maxHeartbeats 1000000
namespace FZ
open PySem PySem.Spec
open AutoSeq1 (wpAny_loadPart')
section
variable {prog : Program} {w : World} {A : Around} {E : Value → Shared → Prop} {s : Shared}
theorem meets_tuple_zip {z TI TO : Addr} {ts : List Tr} {W : Nat} (hW : 1 ≤ W) (hW2 : W ≤ 1000000) :
    Meets (Builtin.«tuple.__new__» ⟨[.type "tuple", .ref z], []⟩) (fun A R s => A.handled = none ∧ Ap z TI TO ts s.heap.objs.size W ∧ Wk s.heap z TI TO ts s.heap.objs.size 0 ∧
      ∀ h' : Heap, (∀ j, j < W → h'.get? (s.heap.objs.size + 1 + j) = some (tO (ts.map fun t => t.row.getD j .none))) → (∀ c o, c ≠ z → c ≠ TO → c ∉ ts.map Tr.it → s.heap.get? c = some o → h'.get? c = some o) →
        R (.ok (.ret (.ref h'.objs.size))) { s with heap := h'.push (tO ((List.range' (s.heap.objs.size + 1) W).map Value.ref)) }) :=
  .of_wp fun prog w A R s h => by
    obtain ⟨hp, g, d, tk, os⟩ := s
    obtain ⟨hh, P, w0, h⟩ := h
    have hsub := sub_tuple_self
    have hinit := init_tuple_lookup
    have hmh := madeHere_tuple
    have hz := w0.zz
    rw [if_pos rfl] at hz
    have ty : Shared.TypeIs ⟨hp, g, d, tk, os⟩ (.ref z) "zip" := ⟨_, hz, rfl⟩
    wp_walk using wpAny_loadPart' hz, wpAny_typeOf ty, collect_zip (A := A.in1) hh P hW hW2 w0
    intro h' e1 e2
    show wpAny _ _ (Builtin.Tuple.tupleExact _ >>= fun v => ret v) _ _ _
    unfold Builtin.Tuple.tupleExact
    refine wpAny_bind (wpAny_newObj_type ?_ (by simp [sizeOk, sizeLine]; omega))
    exact wpAny_pure ⟨_, rfl, h h' e1 e2⟩
theorem call_tuple_zip {z TI TO : Addr} {ts : List Tr} {W : Nat} {Q : Value → Shared → Prop} (hh : A.handled = none) (P : Ap z TI TO ts s.heap.objs.size W) (hW : 1 ≤ W) (hW2 : W ≤ 1000000) (w0 : Wk s.heap z TI TO ts s.heap.objs.size 0)
    (hQ : ∀ h' : Heap, (∀ j, j < W → h'.get? (s.heap.objs.size + 1 + j) = some (tO (ts.map fun t => t.row.getD j .none))) → (∀ c o, c ≠ z → c ≠ TO → c ∉ ts.map Tr.it → s.heap.get? c = some o → h'.get? c = some o) →
      Q (.ref h'.objs.size) { s with heap := h'.push (tO ((List.range' (s.heap.objs.size + 1) W).map Value.ref)) }) : wpAny (model prog w) A (call (.type "tuple") [.ref z]) Q E s :=
  callType_new F.called_tuple (by decide) (F.typeCall_tuple_1 _) (F.newCall_tuple_1 _) (fun obj => F.args_object_init_2 obj _) F.entry_tuple_new
    (meets_tuple_zip (z := z) (TI := TI) (TO := TO) (ts := ts) hW hW2) ⟨hh, P, w0, fun h' e1 e2 => ⟨⟨_, push_at rfl rfl, rfl⟩, hQ h' e1 e2⟩⟩
theorem nn {a b : Nat} (h : a < b ∨ b < a) : a ≠ b := by omega
theorem ll {a b : Nat} (h : a < b) : a < b := h
/-- tuple(zip(t, ..)) of tuples: zip is made, walked through, thrown away -/
theorem tuple_zip {ls : List (Addr × Array Value)} {W : Nat} {Q : Value → Shared → Prop} (hh : A.handled = none) (hne : ls ≠ []) (hlen : ls.length ≤ 1000) (hW : 1 ≤ W) (hW2 : W ≤ 1000000) (hl : ∀ p ∈ ls, s.heap.IsTuple p.1 p.2 ∧ p.2.size = W)
    (hQ : ∀ (h' : Heap) (b0 : Nat), s.heap.objs.size ≤ b0 → (∀ j, j < W → h'.get? (b0 + j) = some (tO (ls.map fun p => p.2.getD j .none))) → (∀ c o, s.heap.get? c = some o → h'.get? c = some o) →
      Q (.ref h'.objs.size) { s with heap := h'.push (tO ((List.range' b0 W).map Value.ref)) }) :
    wpAny (model prog w) A (call (.type "zip") (ls.map fun p => .ref p.1)) (fun v s' => wpAny (model prog w) A (call (.type "tuple") [v]) Q E s') E s := by
  have e0 : (ls.map fun p => Value.ref p.1) = (ls.map Prod.fst).map Value.ref := by rw [List.map_map]; rfl
  rw [e0]
  have ml : (ls.map Prod.fst).length = ls.length := List.length_map ..
  refine call_zip (by rw [ml]; exact hlen) (fun l hm => ?_) ?_
  · obtain ⟨p, hp, e⟩ := List.mem_map.mp hm
    exact ⟨p.2, e ▸ (hl p hp).1⟩
  · obtain ⟨n, hn⟩ : ∃ n, n = s.heap.objs.size := ⟨_, rfl⟩
    have old : ∀ p ∈ ls, p.1 < n := fun p hp => by
      obtain ⟨⟨o, e, _⟩, _⟩ := hl p hp
      rw [hn]
      exact Heap.lt_size e
    obtain ⟨ts, hts⟩ : ∃ ts : List Tr, ts = ls.zipIdx.map fun q => ⟨n + q.2, q.1.1, q.1.2⟩ := ⟨_, rfl⟩
    have tl : ts.length = ls.length := by rw [hts]; simp
    have mem : ∀ t ∈ ts, ∃ i p, ls[i]? = some p ∧ t = ⟨n + i, p.1, p.2⟩ := fun t ht => by
      rw [hts] at ht
      obtain ⟨⟨p, i⟩, hq, e⟩ := List.mem_map.mp ht
      exact ⟨i, p, by rw [List.mem_zipIdx_iff_getElem?] at hq; exact hq, e.symm⟩
    have its : ts.map Tr.it = List.range' n ls.length := by
      rw [hts, List.map_map]
      apply List.ext_getElem?
      intro i
      rw [List.getElem?_map, List.getElem?_zipIdx]
      by_cases h : i < ls.length
      · rw [List.getElem?_eq_getElem h, List.getElem?_range' h]
        simp
      · rw [List.getElem?_eq_none (by omega), List.getElem?_eq_none (by simp; omega)]
        rfl
    have rows : ∀ j, (ts.map fun t => t.row.getD j .none) = ls.map fun p => p.2.getD j .none := fun j => by
      rw [hts, List.map_map]
      apply List.ext_getElem?
      intro i
      rw [List.getElem?_map, List.getElem?_map, List.getElem?_zipIdx]
      cases ls[i]? <;> rfl
    have itr : (ts.map fun t => Value.ref t.it) = (List.range' n ls.length).map Value.ref := by rw [← its, List.map_map]; rfl
    have hz := zipH_z (h := s.heap) (ls := ls.map Prod.fst)
    have hO := zipH_TO (h := s.heap) (ls := ls.map Prod.fst)
    have hI := zipH_TI (h := s.heap) (ls := ls.map Prod.fst)
    have hs := zipH_size (h := s.heap) (ls := ls.map Prod.fst)
    rw [ml, ← hn] at hz hO hI hs ⊢
    rw [← itr] at hI
    have ati : ∀ t ∈ ts, At (zipH s.heap (ls.map Prod.fst)) t 0 := fun t ht => by
      obtain ⟨i, p, e, rfl⟩ := mem t ht
      have hp : p ∈ ls := List.mem_of_getElem? e
      obtain ⟨o, q1, q2⟩ := (hl p hp).1
      refine ⟨⟨itO p.1, ?_, rfl, rfl⟩, ⟨o, zipH_keep q1, q2⟩⟩
      show (zipH s.heap (ls.map Prod.fst)).get? (n + i) = some (itO p.1)
      rw [hn]
      exact zipH_at (by rw [List.getElem?_map, e]; rfl)
    have w0 := fst_wk (ts := ts) hz hI hO (by simp [tl]) ati
    have P : Ap (n + ls.length + 2) (n + ls.length) (n + ls.length + 1) ts (zipH s.heap (ls.map Prod.fst)).objs.size W := by
      have lt : ∀ t ∈ ts, ∃ i l : Nat, t.it = n + i ∧ t.l = l ∧ i < ls.length ∧ l < n ∧ t.row.size = W := fun t ht => by
        obtain ⟨i, p, e, rfl⟩ := mem t ht
        have hp : p ∈ ls := List.mem_of_getElem? e
        have hi : i < ls.length := (List.getElem?_eq_some_iff.mp e).1
        exact ⟨i, p.1, rfl, rfl, hi, old p hp, (hl p hp).2⟩
      rw [hs]
      refine ⟨fun e => hne (List.eq_nil_of_length_eq_zero (by rw [← tl, e]; rfl)), by rw [tl]; exact hlen, fun t ht => ?_, by rw [its]; exact List.nodup_range', fun t ht u hu => ?_, fun t ht => ?_, fun t ht => ?_, fun t ht => ?_, nn (by omega), nn (by omega), nn (by omega), ⟨ll (by omega), ll (by omega), ll (by omega), fun t ht => ?_⟩⟩
      · obtain ⟨i, l, a1, a2, a3, a4, a5⟩ := lt t ht
        exact a5
      · obtain ⟨i, l, a1, a2, a3, a4, a5⟩ := lt t ht
        obtain ⟨i', l', b1, b2, b3, b4, b5⟩ := lt u hu
        rw [a1, b2]
        exact nn (by omega)
      · obtain ⟨i, l, a1, a2, a3, a4, a5⟩ := lt t ht
        rw [a1, a2]
        exact ⟨nn (by omega), nn (by omega)⟩
      · obtain ⟨i, l, a1, a2, a3, a4, a5⟩ := lt t ht
        rw [a1, a2]
        exact ⟨nn (by omega), nn (by omega)⟩
      · obtain ⟨i, l, a1, a2, a3, a4, a5⟩ := lt t ht
        rw [a1]
        exact nn (by omega)
      · obtain ⟨i, l, a1, a2, a3, a4, a5⟩ := lt t ht
        rw [a1, a2]
        exact ⟨ll (by omega), ll (by omega)⟩
    refine call_tuple_zip hh P hW hW2 w0 fun h' e1 e2 => ?_
    refine hQ h' _ ?_ (fun j hj => ?_) fun c o e => ?_
    · show s.heap.objs.size ≤ (zipH s.heap (ls.map Prod.fst)).objs.size + 1
      rw [hs]
      omega
    · rw [← rows j]
      exact e1 j hj
    · have hc : (c : Nat) < n := by rw [hn]; exact Heap.lt_size e
      refine e2 c o (nn (.inl (Nat.lt_add_right 2 (Nat.lt_add_right ls.length hc)))) (nn (.inl (Nat.lt_add_right 1 (Nat.lt_add_right ls.length hc)))) ?_ (zipH_keep e)
      rw [its]
      intro hm
      exact absurd hc (Nat.not_lt.mpr (List.mem_range'_1.mp hm).1)
end
end FZ

set_option Elab.async false
set_option linter.all false
set_option maxRecDepth 100000
set_option maxHeartbeats 1000000
namespace FZ
open PySem PySem.Spec PyProof.Rows L2 DL
section
variable {P : Program} {w : World} {X : Cx} {pins : List (Addr × Obj)} {σ : L2.St} {H : Hp} {s : Shared}
def layH (H : Hp) (b0 : Nat) (cols : Nat → List V) : Nat → Hp
  | 0 => H
  | j + 1 => upd (layH H b0 cols j) (b0 + j) (.tup (cols j))
theorem lay_far {b0 : Nat} {cols : Nat → List V} : ∀ {W : Nat} {c : Addr}, (c < b0 ∨ b0 + W ≤ c) → layH H b0 cols W c = H c
  | 0, c, _ => rfl
  | W + 1, c, h => by
    have ne : c ≠ b0 + W := by
      rcases h with h | h
      · exact nn (.inl (Nat.lt_of_lt_of_le h (Nat.le_add_right _ _)))
      · exact nn (.inr h)
    rw [layH, upd_ne ne]
    refine lay_far ?_
    rcases h with h | h
    · exact .inl h
    · exact .inr (Nat.le_of_succ_le h)
theorem lay_at {b0 : Nat} {cols : Nat → List V} : ∀ {W j : Nat}, j < W → layH H b0 cols W (b0 + j) = some (.tup (cols j))
  | 0, j, h => absurd h (Nat.not_lt_zero j)
  | W + 1, j, h => by
    by_cases e : j = W
    · subst e
      exact upd_same
    · rw [layH, upd_ne (nn (by omega))]
      exact lay_at (by omega)
/-- the columns are told of, one after the other -/
theorem lay_cols (I : Inv X pins σ H s) {h' : Heap} {b0 : Nat} {cols : Nat → List V} (keep : ∀ c o, s.heap.get? c = some o → h'.get? c = some o) (hb : s.heap.objs.size ≤ b0) :
    ∀ W, (∀ j, j < W → (cols j).length ≤ sizeLine ∧ ∃ its : List Value, Vals (cols j) its ∧ IsTup h' (b0 + j) its.toArray) →
    ∃ G : Heap, (∀ c, b0 + W ≤ c → G.get? c = none) ∧ Inv X pins σ (layH H b0 cols W) { s with heap := G } ∧ (∀ c o, G.get? c = some o → h'.get? c = some o) := by
  intro W
  induction W with
  | zero =>
    intro _
    exact ⟨s.heap, fun c hc => by
      cases e : s.heap.get? c with
      | none => rfl
      | some o => exact absurd (Heap.lt_size e) (Nat.not_lt.mpr (Nat.le_trans hb hc)), I, keep⟩
  | succ W ih =>
    intro hc
    obtain ⟨G, e3, I', e4⟩ := ih fun j hj => hc j (Nat.lt_succ_of_lt hj)
    obtain ⟨z, its, rv, tp⟩ := hc W (Nat.lt_succ_self W)
    obtain ⟨G2, g1, g2⟩ := L2.restrict h' fun c => (G.get? c).isSome || decide (c = b0 + W)
    have hn : layH H b0 cols W (b0 + W) = none := (lay_far (.inr (Nat.le_refl _))).trans (I.hok.fresh (Nat.le_trans hb (Nat.le_add_right _ _)))
    have gn := e3 (b0 + W) (Nat.le_refl _)
    have at2 : G2.get? (b0 + W) = h'.get? (b0 + W) := g1 _ (by simp)
    have kp : ∀ c o, G.get? c = some o → G2.get? c = some o := fun c o e => (g1 c (by simp [e])).trans (e4 c o e)
    have I2 := I'.laidN (t' := s.toks) (o := .tup (cols W)) kp gn hn ⟨z, its, rv, by
      obtain ⟨o, q1, q2⟩ := tp
      exact ⟨o, at2.trans q1, q2⟩⟩
    refine ⟨G2, fun c hc => ?_, I2, fun c o e => ?_⟩
    · refine g2 c ?_
      have ne : ¬ c = b0 + W := fun r => absurd (r ▸ hc : b0 + (W + 1) ≤ b0 + W) (by omega)
      rw [e3 c (Nat.le_of_succ_le hc)]
      simp [ne]
    · by_cases p : ((G.get? c).isSome || decide (c = b0 + W)) = true
      · rw [← g1 c p]
        exact e
      · rw [g2 c (by simpa using p)] at e
        cases e
open PySem.W in
theorem callWith_zip {M : Model} {A : Around} {E : Value → Shared → Prop} {s : Shared} {env : Env} {e : Expr} {p pos : Pos} {Q : Value → Shared → Prop} (h : wpAny M A (eval e env) (fun v s₁ => StarOf M A E v (fun vs s₂ => wpAny M A (call (.type "zip") vs) Q E s₂) s₁) E s)
    (he : starEach [.Starred e p] env = [(true, eval e env)] := by rfl) : wpAny M A (callWith pos (.type "zip") [] (backTo pos (starEach [.Starred e p] env)) []) Q E s := by
  rw [he]
  refine ks_call (P := fun _ => True) rfl (fun h _ => ⟨.machine, .inr (.inl rfl), ?_⟩) (ks_lone (thn h fun v s1 hs => ?_))
  · exact Looks.of_pure rfl
  · unfold StarOf at hs ⊢
    exact thn hs fun b s2 hb => ⟨hb.1, thn hb.2 fun vs s3 h3 => ⟨trivial, h3⟩⟩
theorem vals_refs : ∀ {rs : List (Addr × List V)} {us : List Value}, Vals (rs.map fun r => V.ref r.1) us → us = rs.map fun r => Value.ref r.1
  | [], _, .nil => rfl
  | r :: rs, _, .cons h t => by
    obtain rfl : _ = Value.ref r.1 := h
    rw [vals_refs t]
    rfl
theorem rows_at (I : Inv X pins σ H s) : ∀ {rs : List (Addr × List V)} {W : Nat}, (∀ r ∈ rs, SqT X.K H r.1 r.2 ∧ r.2.length = W) →
    ∃ ls : List (Addr × Array Value), (ls.map fun p => Value.ref p.1) = (rs.map fun r => Value.ref r.1) ∧ (∀ p ∈ ls, s.heap.IsTuple p.1 p.2 ∧ p.2.size = W) ∧ ls.length = rs.length ∧
      ∀ j, j < W → Vals (rs.map fun r => r.2.getD j .non) (ls.map fun p => p.2.getD j .none)
  | [], _, _ => ⟨[], rfl, (fun p h => nomatch h), rfl, (fun j _ => .nil)⟩
  | r :: rs, W, h => by
    obtain ⟨ls, e1, e2, e3, e4⟩ := rows_at I (rs := rs) (W := W) fun q hq => h q (List.mem_cons_of_mem _ hq)
    obtain ⟨h1, h2⟩ := h r List.mem_cons_self
    obtain ⟨its, rv, tp, _⟩ := I.tuple h1
    have hl := rv.length
    refine ⟨(r.1, its.toArray) :: ls, by simp only [List.map_cons, e1], fun p hp => ?_, by simp [e3], fun j hj => ?_⟩
    · cases hp with
      | head => exact ⟨tp, by rw [List.size_toArray, ← hl, h2]⟩
      | tail _ hp => exact e2 p hp
    · have hj1 : j < r.2.length := by omega
      have hj2 : j < its.length := by omega
      refine .cons ?_ (e4 j hj)
      obtain ⟨u, g1, g2⟩ := rv.get (List.getElem?_eq_getElem hj1)
      have q1 : r.2.getD j .non = r.2[j] := by simp [List.getD, hj1]
      have q2 : its.toArray.getD j .none = u := by
        rw [List.getElem?_eq_getElem hj2] at g1
        cases g1
        simp [Array.getD, hj2]
      show RelV (r.2.getD j .non) (its.toArray.getD j .none)
      rw [q1, q2]
      exact g2
/-- tuple(zip(*e)), e a list or a tuple of tuples of one length -/
def tZip (K : PySem.W.Frag) (te : TE) : TE := fun σ H Q => te σ H fun x H1 => ∃ (p : Addr) (rs : List (Addr × List V)) (W : Nat), x = .ref p ∧ (SqT K H1 p (rs.map fun r => V.ref r.1) ∨ SqL K H1 p (rs.map fun r => V.ref r.1)) ∧
  rs ≠ [] ∧ rs.length ≤ 1000 ∧ 1 ≤ W ∧ W ≤ 1000000 ∧ (∀ r ∈ rs, SqT K H1 r.1 r.2 ∧ r.2.length = W) ∧
  ∀ (t : Addr) (b0 : Nat), (∀ c, b0 ≤ c → H1 c = none) → b0 + W ≤ t → Q (.ref t) (upd (layH H1 b0 (fun j => rs.map fun r => r.2.getD j .non) W) t (.tup ((List.range' b0 W).map V.ref)))
theorem pe_zip {e : Expr} {te : TE} {p p2 p3 pos pos2 : Pos} (hc : X.calm = true) (hg : Gl X "tuple") (hm : X.mg "tuple" = none) (hg2 : Gl X "zip") (hm2 : X.mg "zip" = none) (he : PE X e te)
    (h1 : starEach [.Call (.Name "zip" p2) [.Starred e p3] [] pos2] X.env = [(false, eval (.Call (.Name "zip" p2) [.Starred e p3] [] pos2) X.env)] := by rfl) (h2 : starEach [.Starred e p3] X.env = [(true, eval e X.env)] := by rfl) :
    PE X (.Call (.Name "tuple" p) [.Call (.Name "zip" p2) [.Starred e p3] [] pos2] [] pos) (tZip X.K te) := by
  refine ⟨fun pins s σ H Q I h => ?_⟩
  refine wpAny_Call_Name_kw (ld_blt (u := .type "tuple") I hg hm rfl ?_)
  refine PyProof.Rows.callWith_type1 ?_ h1 rfl
  rw [h1]
  have hx : X.A.handled = none := I.ok.hd hc
  refine Calls.spliced_cons (wpAny_Call_Name_kw (ld_blt (u := .type "zip") I hg2 hm2 rfl (callWith_zip (thn (he.run pins s σ H _ I h) fun v s1 ⟨y, H1, I1, ry, a, rs, W, ey, hs, n1, n2, w1, w2, hr, hq⟩ => ?_) h2)))
  subst ey
  obtain rfl : v = Value.ref a := ry
  refine StX.star_any I1 hs fun us s2 I2 rv => ?_
  obtain rfl := vals_refs rv
  obtain ⟨ls, l1, l2, l3, l4⟩ := rows_at I2 hr
  rw [← l1]
  refine thn (tuple_zip (A := X.A) hx (fun e => n1 (List.eq_nil_of_length_eq_zero (by rw [← l3, e]; rfl))) (by rw [l3]; exact n2) w1 w2 l2 (Q := EP X pins σ Q) (E := X.xe) fun h' b0 g1 g2 g3 => ?_) fun z s3 q => Calls.spliced_nil q
  obtain ⟨G, e3, I3, e4⟩ := lay_cols (cols := fun j => rs.map fun r => r.2.getD j .non) I2 g3 g1 W fun j hj => ⟨by rw [List.length_map, FL.sizeLine_e]; omega, _, l4 j hj, ⟨_, g2 j hj, rfl, _, rfl⟩⟩
  have big : b0 + W ≤ h'.objs.size := by
    have q : @LT.lt Nat _ (b0 + (W - 1)) h'.objs.size := Heap.lt_size (g2 (W - 1) (by omega))
    omega
  have t2 := e3 h'.objs.size big
  have t1 : layH H1 b0 (fun j => rs.map fun r => r.2.getD j .non) W h'.objs.size = none := (lay_far (.inr big)).trans (I2.hok.fresh (Nat.le_trans g1 (Nat.le_trans (Nat.le_add_right _ _) big)))
  have refs : ∀ l : List Nat, Vals (l.map V.ref) (l.map Value.ref) := fun l => by
    induction l with
    | nil => exact .nil
    | cons x l ih => exact .cons rfl ih
  have I4 := I3.laidN (t' := s2.toks) (h' := h'.push (tO ((List.range' b0 W).map Value.ref))) (o := .tup ((List.range' b0 W).map V.ref)) (fun c o e => Heap.get?_push_of_some _ (e4 c o e)) t2 t1 ⟨by rw [List.length_map, List.length_range', FL.sizeLine_e]; omega, _, refs _, ⟨_, push_at rfl rfl, rfl, _, rfl⟩⟩
  exact ⟨.ref h'.objs.size, _, I4, rfl, hq h'.objs.size b0 (fun c hc => I2.hok.fresh (Nat.le_trans g1 hc)) big⟩
end
end FZ

set_option Elab.async false
set_option linter.all false
set_option maxRecDepth 100000
set_option maxHeartbeats 1000000
namespace FL
open PySem PySem.Spec PyProof.Rows L2 DL FZ
def tupsOf : List D → Option (List (List D))
  | [] => some []
  | .tup r :: ds => (tupsOf ds).map (r :: ·)
  | _ :: _ => none
def zipR (ds : List D) : Option D := match tupsOf ds with
  | some (r :: rs) => if (r :: rs).length ≤ 1000 ∧ 1 ≤ r.length ∧ r.length ≤ 1000000 ∧ ∀ q ∈ r :: rs, q.length = r.length then some (.tup ((List.range r.length).map fun j => .tup ((r :: rs).map fun q => q.getD j .non))) else none
  | _ => none
def fZip (m : fE) : fE := fun ρ st => (m ρ st).bind fun d st1 => match seqOf d with
  | some ds => optR (zipR ds) st1
  | none => .bad
def RnLL (θ : Th) : List (List D) → List (List D) → Prop
  | [], [] => True
  | a :: as, b :: bs => RnL θ a b ∧ RnLL θ as bs
  | _, _ => False
theorem tups_rn {θ : Th} : ∀ {a b : List D} {as : List (List D)}, RnL θ a b → tupsOf a = some as → ∃ bs, tupsOf b = some bs ∧ RnLL θ as bs
  | _, _, _, .nil, h => by
    cases h
    exact ⟨[], rfl, trivial⟩
  | _, _, _, .cons (d := d) (ds := ds) r rl, h => by
    cases r with
    | tup q =>
      simp only [tupsOf, Option.map_eq_some_iff] at h
      obtain ⟨as, h1, h2⟩ := h
      subst h2
      obtain ⟨bs, h3, h4⟩ := tups_rn rl h1
      exact ⟨_ :: bs, by simp only [tupsOf, h3, Option.map_some], q, h4⟩
    | _ => cases h
theorem getD_rn {θ : Th} : ∀ {a b : List D} {j : Nat}, RnL θ a b → Rn θ (a.getD j .non) (b.getD j .non)
  | _, _, _, .nil => by simpa using Rn.non
  | _, _, 0, .cons r rl => by simpa using r
  | _, _, j + 1, .cons r rl => by simpa using getD_rn (j := j) rl
theorem col_rn {θ : Th} {j : Nat} : ∀ {as bs : List (List D)}, RnLL θ as bs → RnL θ (as.map fun q => q.getD j .non) (bs.map fun q => q.getD j .non)
  | [], [], _ => .nil
  | _ :: _, _ :: _, h => .cons (getD_rn h.1) (col_rn h.2)
theorem len_rn {θ : Th} : ∀ {as bs : List (List D)}, RnLL θ as bs → as.map List.length = bs.map List.length
  | [], [], _ => rfl
  | _ :: _, _ :: _, h => by simp only [List.map_cons, h.1.len, len_rn h.2]
theorem all_len {as : List (List D)} {n : Nat} : (∀ q ∈ as, q.length = n) ↔ ∀ m ∈ as.map List.length, m = n := by
  simp
theorem map_rn {θ : Th} {f g : Nat → D} (h : ∀ j, Rn θ (f j) (g j)) : ∀ l : List Nat, RnL θ (l.map f) (l.map g)
  | [] => .nil
  | j :: l => .cons (h j) (map_rn h l)
theorem zipR_rn {θ : Th} {a b : List D} {d : D} (r : RnL θ a b) (h : zipR a = some d) : ∃ e, zipR b = some e ∧ Rn θ d e := by
  unfold zipR at h ⊢
  cases q : tupsOf a with
  | none => rw [q] at h; cases h
  | some as =>
    rw [q] at h
    obtain ⟨bs, h3, h4⟩ := tups_rn r q
    rw [h3]
    cases as with
    | nil => cases h
    | cons x xs =>
      cases bs with
      | nil => exact h4.elim
      | cons y ys =>
        dsimp only at h ⊢
        obtain ⟨c, e⟩ := some_if h
        subst e
        have ll := len_rn h4
        have l1 : x.length = y.length := h4.1.len
        have l2 : (x :: xs).length = (y :: ys).length := by
          have z := congrArg List.length ll
          simpa using z
        rw [if_pos ⟨l2 ▸ c.1, l1 ▸ c.2.1, l1 ▸ c.2.2.1, by
          rw [all_len, ← ll, ← l1, ← all_len]
          exact c.2.2.2⟩, ← l1]
        exact ⟨_, rfl, .tup (map_rn (fun j => .tup (col_rn h4)) _)⟩
section
variable {K : PySem.W.Frag} {mg : Str → Option Value}
def RRs (K : PySem.W.Frag) (mg : Str → Option Value) (G : Hp) : List (Addr × List V) → List (List D) → Prop
  | [], [] => True
  | r :: rs, q :: qs => RpL K mg G r.2 q ∧ RRs K mg G rs qs
  | _, _ => False
theorem rows_of {G : Hp} : ∀ {vs : List V} {ds : List D} {qs : List (List D)}, RpL K mg G vs ds → tupsOf ds = some qs → ∃ rs : List (Addr × List V), vs = rs.map (fun r => V.ref r.1) ∧ (∀ r ∈ rs, SqT K G r.1 r.2) ∧ RRs K mg G rs qs
  | _, _, _, .nil, h => by
    cases h
    exact ⟨[], rfl, fun r h => (nomatch h), trivial⟩
  | _, _, _, .cons r rl, h => by
    cases r with
    | @tup a vs ds h1 q =>
      simp only [tupsOf, Option.map_eq_some_iff] at h
      obtain ⟨qs, h2, h3⟩ := h
      subst h3
      obtain ⟨rs, e1, e2, e3⟩ := rows_of rl h2
      refine ⟨(a, vs) :: rs, by rw [e1]; rfl, fun r hr => ?_, q, e3⟩
      cases hr with
      | head => exact h1
      | tail _ hr => exact e2 r hr
    | _ => cases h
theorem rr_len {G : Hp} : ∀ {rs : List (Addr × List V)} {qs : List (List D)}, RRs K mg G rs qs → (rs.map fun r => r.2.length) = qs.map List.length
  | [], [], _ => rfl
  | _ :: _, _ :: _, h => by simp only [List.map_cons, h.1.len, rr_len h.2]
theorem getD_rp {G : Hp} : ∀ {vs : List V} {ds : List D} {j : Nat}, RpL K mg G vs ds → Rp K mg G (vs.getD j .non) (ds.getD j .non)
  | _, _, _, .nil => by simpa using Rp.non
  | _, _, 0, .cons r rl => by simpa using r
  | _, _, j + 1, .cons r rl => by simpa using getD_rp (j := j) rl
theorem col_rp {G : Hp} {j : Nat} : ∀ {rs : List (Addr × List V)} {qs : List (List D)}, RRs K mg G rs qs → RpL K mg G (rs.map fun r => r.2.getD j .non) (qs.map fun q => q.getD j .non)
  | [], [], _ => .nil
  | _ :: _, _ :: _, h => .cons (getD_rp h.1) (col_rp h.2)
theorem lay_frm {S : Type} {Φ : S → Hp → Hp → Prop} [Frm Φ] {s : S} {G H : Hp} {b0 : Nat} {cols : Nat → List V} (f : Φ s G H) (fr : ∀ c, b0 ≤ c → H c = none) : ∀ W, Φ s (layH G b0 cols W) (layH H b0 cols W)
  | 0 => f
  | W + 1 => Frm.ext (lay_frm f fr W) ((lay_far (.inr (Nat.le_refl _))).trans (fr _ (Nat.le_add_right _ _)))
theorem lay_same {G : Hp} {b0 : Nat} {cols : Nat → List V} (fr : ∀ c, b0 ≤ c → G c = none) (W : Nat) : Same G (layH G b0 cols W) := fun c u e => by
  have h : c < b0 := by
    rcases Nat.lt_or_ge c b0 with h | h
    · exact h
    · rw [fr c h] at e
      cases e
  rw [lay_far (.inl h)]
  exact e
theorem refs_rp {G : Hp} {b0 : Nat} {f : Nat → D} : ∀ (n k : Nat), (∀ j, j < n → Rp K mg G (.ref (b0 + (k + j))) (f (k + j))) → RpL K mg G ((List.range' (b0 + k) n).map V.ref) ((List.range' k n).map f)
  | 0, _, _ => .nil
  | n + 1, k, h => by
    rw [List.range'_succ, List.range'_succ, List.map_cons, List.map_cons]
    refine .cons (h 0 (Nat.zero_lt_succ n)) ?_
    have z := refs_rp (b0 := b0) (f := f) n (k + 1) fun j hj => by
      have q := h (j + 1) (by omega)
      rw [show k + 1 + j = k + (j + 1) by omega]
      exact q
    rw [show b0 + (k + 1) = b0 + k + 1 by omega] at z
    exact z
end
section
variable {X : Cx} {Φ : OH → Hp → Hp → Prop} {W : WX} [FΦ : OFrm X.K X.mg Φ] {J : Jv}
/-- tuple(zip(*e)) -/
theorem fe_zip {e : Expr} {f : fE} {p p2 p3 pos pos2 : Pos} (hc : X.calm = true) (hg : Gl X "tuple") (hm : X.mg "tuple" = none) (hg2 : Gl X "zip") (hm2 : X.mg "zip" = none) (h : FE X Φ W J e f)
    (h1 : starEach [.Call (.Name "zip" p2) [.Starred e p3] [] pos2] X.env = [(false, eval (.Call (.Name "zip" p2) [.Starred e p3] [] pos2) X.env)] := by rfl) (h2 : starEach [.Starred e p3] X.env = [(true, eval e X.env)] := by rfl) :
    FE X Φ W J (.Call (.Name "tuple" p) [.Call (.Name "zip" p2) [.Starred e p3] [] pos2] [] pos) (fZip f) := by
  obtain ⟨te, h⟩ := h
  refine ⟨_, pe_zip hc hg hm hg2 hm2 h.pe h1 h2, fun σ ρ' O G H Q P R hρ f0 hW ⟨θ, ρ, st, c, hh⟩ kk => ?_⟩
  refine h.sem σ ρ' O G H _ (fun x O1 => ∃ ds d, seqOf x = some ds ∧ zipR ds = some d ∧ P d O1) R hρ f0 hW ⟨θ, ρ, st, c, hh.bind fun θ1 a a' st1 O1 s1 ra m1 hk => ?_⟩ fun x O1 v G1 H1 ⟨ds, d, hx, hz, hp⟩ e1 f1 r1 => ?_
  · cases ra <;> try (exact hk.elim)
    all_goals
      rename_i xs ys r
      simp only [seqOf] at hk
      cases q : zipR xs with
      | none => rw [q] at hk; exact hk.elim
      | some d =>
        rw [q] at hk
        obtain ⟨d', q1, q2⟩ := zipR_rn r q
        exact ⟨ys, d', rfl, q1, Aft.ok hk q2 m1⟩
  · have sm := Frm.same f1
    have main : ∀ (a : Addr) (vs : List V), (SqT X.K G1 a vs ∨ SqL X.K G1 a vs) → RpL X.K X.mg G1 vs ds → v = .ref a → tZip X.K (fun _ H' Q' => Q' v H') σ H1 Q := fun a vs hs rl ev => by
      unfold zipR at hz
      cases q : tupsOf ds with
      | none => rw [q] at hz; cases hz
      | some qs =>
        rw [q] at hz
        cases qs with
        | nil => cases hz
        | cons y ys =>
          dsimp only at hz
          obtain ⟨cc, ed⟩ := some_if hz
          obtain ⟨rs, g1, g2, g3⟩ := rows_of rl q
          have ll := rr_len g3
          have n1 : rs.length = (y :: ys).length := by
            have z := congrArg List.length ll
            simpa using z
          have n2 : ∀ r ∈ rs, r.2.length = y.length := fun r hr => by
            have z : r.2.length ∈ rs.map fun r => r.2.length := List.mem_map_of_mem hr
            rw [ll] at z
            obtain ⟨q', hq', eq'⟩ := List.mem_map.mp z
            rw [← eq']
            exact cc.2.2.2 q' hq'
          have hs' : SqT X.K H1 a (rs.map fun r => V.ref r.1) ∨ SqL X.K H1 a (rs.map fun r => V.ref r.1) := by
            rw [← g1]
            exact hs.imp (sqt_mono sm) (sql_mono sm)
          exact ⟨a, rs, y.length, ev, hs', fun z => by rw [z] at n1; simp at n1, by rw [n1]; exact cc.1, cc.2.1, cc.2.2.1, fun r hr => ⟨sqt_mono sm (g2 r hr), n2 r hr⟩, fun t b0 fr big => by
            have frG : ∀ c, b0 ≤ c → G1 c = none := fun c hc => sm.free (fr c hc)
            have ft : layH H1 b0 (fun j => rs.map fun r => r.2.getD j .non) y.length t = none := (lay_far (.inr big)).trans (fr _ (Nat.le_trans (Nat.le_add_right _ _) big))
            have ftG : layH G1 b0 (fun j => rs.map fun r => r.2.getD j .non) y.length t = none := (lay_far (.inr big)).trans (frG _ (Nat.le_trans (Nat.le_add_right _ _) big))
            have s2 := lay_same (cols := fun j => rs.map fun r => r.2.getD j .non) frG y.length
            have s3 : Same (layH G1 b0 (fun j => rs.map fun r => r.2.getD j .non) y.length) (upd (layH G1 b0 (fun j => rs.map fun r => r.2.getD j .non) y.length) t (.tup ((List.range' b0 y.length).map V.ref))) := same_new ftG
            refine kk d O1 _ _ _ hp (e1.trans (s2.trans s3)) (Frm.ext (lay_frm f1 fr y.length) ft) ?_
            subst ed
            refine .tup (SqT.of upd_same) ?_
            have z := refs_rp (K := X.K) (mg := X.mg) (G := upd (layH G1 b0 (fun j => rs.map fun r => r.2.getD j .non) y.length) t (.tup ((List.range' b0 y.length).map V.ref))) (b0 := b0) (f := fun j => D.tup ((y :: ys).map fun q => q.getD j .non)) y.length 0 fun j hj => by
              rw [Nat.zero_add]
              refine .tup (SqT.of (s3 _ _ (lay_at hj))) ((col_rp g3).mono (s2.trans s3))
            rw [Nat.add_zero, ← List.range_eq_range'] at z
            exact z⟩
    cases r1 with
    | lst h l =>
      cases hx
      exact main _ _ (.inr (SqL.of h)) l rfl
    | tup h l =>
      cases hx
      exact main _ _ (.inl h) l rfl
    | frz h l =>
      cases hx
      exact main _ _ (.inr h.sql) l rfl
    | _ => cases hx
end
end FL

set_option Elab.async false
set_option linter.all false
set_option maxRecDepth 100000
set_option maxHeartbeats 1000000
/-! what is wanted of the plain functions: rules backwards, one construct each -/
namespace FL
open PySem PySem.Spec PyProof.Rows L2 DL
inductive Res.wp {α : Type} : Res α → (α → St → Prop) → (Exn → St → Prop) → Prop
  | ok {a : α} {st : St} {Q : α → St → Prop} {X : Exn → St → Prop} (h : Q a st) : Res.wp (.ok a st) Q X
  | ex {x : Exn} {st : St} {Q : α → St → Prop} {X : Exn → St → Prop} (h : X x st) : Res.wp (.ex x st) Q X
structure En where
  nx : Rho → St → Prop
  rt : D → St → Prop
  bk : Rho → St → Prop
  ct : Rho → St → Prop
  ex : Exn → Rho → St → Prop
inductive RS.wp : RS → En → Prop
  | nx {ρ : Rho} {st : St} {M : En} (h : M.nx ρ st) : RS.wp (.nx ρ st) M
  | rt {d : D} {st : St} {M : En} (h : M.rt d st) : RS.wp (.rt d st) M
  | bk {ρ : Rho} {st : St} {M : En} (h : M.bk ρ st) : RS.wp (.bk ρ st) M
  | ct {ρ : Rho} {st : St} {M : En} (h : M.ct ρ st) : RS.wp (.ct ρ st) M
  | ex {x : Exn} {ρ : Rho} {st : St} {M : En} (h : M.ex x ρ st) : RS.wp (.ex x ρ st) M
def noX : Exn → St → Prop := fun _ _ => False
theorem Res.wp_bind {α β : Type} {r : Res α} {k : α → St → Res β} {Q : β → St → Prop} {X : Exn → St → Prop} (h : r.wp (fun a s => (k a s).wp Q X) X) : (r.bind k).wp Q X := by
  cases h with
  | ok h => exact h
  | ex h => exact .ex h
theorem Res.wp_mono {α : Type} {r : Res α} {Q Q' : α → St → Prop} {X X' : Exn → St → Prop} (h : r.wp Q X) (i : ∀ a s, Q a s → Q' a s) (j : ∀ x s, X x s → X' x s) : r.wp Q' X' := by
  cases h with
  | ok h => exact .ok (i _ _ h)
  | ex h => exact .ex (j _ _ h)
theorem Res.bind2 {α β : Type} {r : Res α} {k : α → St → Res β} {Q0 : α → St → Prop} {Q : β → St → Prop} {X : Exn → St → Prop} (h : r.wp Q0 X) (i : ∀ a s, Q0 a s → (k a s).wp Q X) : (r.bind k).wp Q X := Res.wp_bind (Res.wp_mono h i fun _ _ h => h)
theorem Res.wp_eq {α : Type} {r : Res α} {a : α} {st : St} {Q : α → St → Prop} {X : Exn → St → Prop} (e : r = .ok a st) (h : Q a st) : r.wp Q X := by
  rw [e]
  exact .ok h
theorem Res.wp_ex {α : Type} {r : Res α} {x : Exn} {st : St} {Q : α → St → Prop} {X : Exn → St → Prop} (e : r = .ex x st) (h : X x st) : r.wp Q X := by
  rw [e]
  exact .ex h
theorem Res.eq_wp {α : Type} {r : Res α} {a : α} {st : St} (h : r.wp (fun b s => b = a ∧ s = st) noX) : r = .ok a st := by
  cases h with
  | ok h => obtain ⟨rfl, rfl⟩ := h; rfl
  | ex h => exact h.elim
theorem Res.eqx_wp {α : Type} {r : Res α} {x : Exn} {st : St} (h : r.wp (fun _ _ => False) (fun y s => y = x ∧ s = st)) : r = .ex x st := by
  cases h with
  | ok h => exact h.elim
  | ex h => obtain ⟨rfl, rfl⟩ := h; rfl
theorem Res.ok_wp {α : Type} {r : Res α} {Q : α → St → Prop} (h : r.wp Q noX) : ∃ a s, r = .ok a s ∧ Q a s := by
  cases h with
  | ok h => exact ⟨_, _, rfl, h⟩
  | ex h => exact h.elim
theorem stB_wp {α : Type} {r : Res α} {ρ : Rho} {k : α → St → RS} {M : En} (h : r.wp (fun a s => (k a s).wp M) fun x s => M.ex x ρ s) : (stB r ρ k).wp M := by
  cases h with
  | ok h => exact h
  | ex h => exact .ex h
theorem stB2 {α : Type} {r : Res α} {ρ : Rho} {k : α → St → RS} {M : En} {Q0 : α → St → Prop} (h : r.wp Q0 fun x s => M.ex x ρ s) (i : ∀ a s, Q0 a s → (k a s).wp M) : (stB r ρ k).wp M := stB_wp (Res.wp_mono h i fun _ _ h => h)
theorem RS.wp_mono {r : RS} {M M' : En} (h : r.wp M) (h1 : ∀ ρ s, M.nx ρ s → M'.nx ρ s) (h2 : ∀ d s, M.rt d s → M'.rt d s) (h3 : ∀ ρ s, M.bk ρ s → M'.bk ρ s) (h4 : ∀ ρ s, M.ct ρ s → M'.ct ρ s) (h5 : ∀ x ρ s, M.ex x ρ s → M'.ex x ρ s) : r.wp M' := by
  cases h with
  | nx h => exact .nx (h1 _ _ h)
  | rt h => exact .rt (h2 _ _ h)
  | bk h => exact .bk (h3 _ _ h)
  | ct h => exact .ct (h4 _ _ h)
  | ex h => exact .ex (h5 _ _ _ h)
section
variable {ρ ρ' : Rho} {st st' : St} {d e : D} {ds es : List D} {Q : D → St → Prop} {QA : List D → St → Prop} {QB : Bool → St → Prop} {X : Exn → St → Prop} {M : En} {N B C : Rho → St → Prop} {R : D → St → Prop} {E : Exn → Rho → St → Prop} {m n : fE} {na nb : fA} {t u : fT} {a b : fS} {i j : Nat} {o o2 : D → D → Option D} {oL : List D → Option D}
/-! expressions -/
theorem wp_var (h : ρ[i]? = some (some d)) (k : Q d st) : (fVar i ρ st).wp Q X := by
  unfold fVar
  rw [h]
  exact .ok k
theorem wp_c (k : Q d st) : (fC d ρ st).wp Q X := (.ok (k))
theorem wp_bin (k : (m ρ st).wp (fun a s => (n ρ s).wp (fun b s => ∃ d, o a b = some d ∧ Q d s) X) X) : (fBin o m n ρ st).wp Q X := by
  refine Res.bind2 k (fun a s k => Res.bind2 k (fun b s k => ?_))
  obtain ⟨d, e, q⟩ := k
  rw [e]
  exact .ok q
theorem wp_test (k : (m ρ st).wp (fun d s => ∃ b, d = .bl b ∧ QB b s) X) : (fTest m ρ st).wp QB X := by
  refine Res.bind2 k (fun a s k => ?_)
  obtain ⟨b, rfl, q⟩ := k
  exact .ok (q)
theorem wp_and (k : (t ρ st).wp (fun c s => (c = true → (u ρ s).wp QB X) ∧ (c = false → QB false s)) X) : (fAnd t u ρ st).wp QB X := by
  refine Res.bind2 k (fun c s k => ?_)
  cases c with
  | true => exact k.1 rfl
  | false => exact .ok (k.2 rfl)
theorem wp_or (k : (t ρ st).wp (fun c s => (c = true → QB true s) ∧ (c = false → (u ρ s).wp QB X)) X) : (fOr t u ρ st).wp QB X := by
  refine Res.bind2 k (fun c s k => ?_)
  cases c with
  | true => exact .ok (k.1 rfl)
  | false => exact k.2 rfl
theorem wp_not (k : (t ρ st).wp (fun c s => QB (!c) s) X) : (fNot t ρ st).wp QB X := Res.bind2 k fun _ _ k => .ok k
theorem wp_andV (k : (m ρ st).wp (fun d s => ∃ c, d = .bl c ∧ (c = true → (n ρ s).wp Q X) ∧ (c = false → Q (.bl false) s)) X) : (fAndV m n ρ st).wp Q X := by
  refine Res.bind2 k (fun c s k => ?_)
  obtain ⟨c, rfl, k1, k2⟩ := k
  cases c with
  | true => exact k1 rfl
  | false => exact .ok (k2 rfl)
theorem wp_orV (k : (m ρ st).wp (fun d s => ∃ c, d = .bl c ∧ (c = true → Q (.bl true) s) ∧ (c = false → (n ρ s).wp Q X)) X) : (fOrV m n ρ st).wp Q X := by
  refine Res.bind2 k (fun c s k => ?_)
  obtain ⟨c, rfl, k1, k2⟩ := k
  cases c with
  | true => exact .ok (k1 rfl)
  | false => exact k2 rfl
theorem wp_notV (k : (m ρ st).wp (fun d s => ∃ c, d = .bl c ∧ Q (.bl (!c)) s) X) : (fNotV m ρ st).wp Q X := by
  refine Res.bind2 k (fun c s k => ?_)
  obtain ⟨c, rfl, k⟩ := k
  exact .ok (k)
theorem wp_if (k : (t ρ st).wp (fun c s => (c = true → (m ρ s).wp Q X) ∧ (c = false → (n ρ s).wp Q X)) X) : (fIf t m n ρ st).wp Q X := by
  refine Res.bind2 k (fun c s k => ?_)
  cases c with
  | true => exact k.1 rfl
  | false => exact k.2 rfl
theorem wp_nil (k : QA [] st) : (fNil ρ st).wp QA X := (.ok (k))
theorem wp_cons (k : (m ρ st).wp (fun d s => (na ρ s).wp (fun ds s => QA (d :: ds) s) X) X) : (fCons m na ρ st).wp QA X :=
  Res.bind2 k (fun _ _ k => Res.bind2 k fun _ _ k => .ok k)
theorem wp_lst (k : (na ρ st).wp (fun ds s => ds.length ≤ sizeLine ∧ Q (.lst ds) s) X) : (fLst na ρ st).wp Q X := by
  refine Res.bind2 k (fun ds s k => ?_)
  rw [if_pos k.1]
  exact .ok (k).2
theorem wp_tup (k : (na ρ st).wp (fun ds s => ds.length ≤ sizeLine ∧ Q (.tup ds) s) X) : (fTup na ρ st).wp Q X := by
  refine Res.bind2 k (fun ds s k => ?_)
  rw [if_pos k.1]
  exact .ok (k).2
theorem wp_lstO (k : (na ρ st).wp (fun ds s => ds.length ≤ sizeLine ∧ Q (.loc s.length) (s ++ [some (.lst ds)])) X) : (fLstO na ρ st).wp Q X := by
  refine Res.bind2 k (fun ds s k => ?_)
  rw [if_pos k.1]
  exact .ok (k).2
theorem wp_fn (k : (na ρ st).wp (fun ds s => ∃ d, oL ds = some d ∧ Q d s) X) : (fFn oL na ρ st).wp Q X := by
  refine Res.bind2 k (fun ds s k => ?_)
  obtain ⟨d, e, q⟩ := k
  rw [e]
  exact .ok q
theorem wp_neg (k : (m ρ st).wp (fun d s => ∃ i, d = .int i ∧ Q (.int (-i)) s) X) : (fNeg m ρ st).wp Q X := by
  refine Res.bind2 k (fun c s k => ?_)
  obtain ⟨i, rfl, q⟩ := k
  exact .ok (q)
theorem wp_isi {ts : List BT} (k : (m ρ st).wp (fun d s => (tyD d).isSome = true ∧ ∃ b, isTs d ts = some b ∧ Q (.bl b) s) X) : (fIsi ts m ρ st).wp Q X := by
  refine Res.bind2 k (fun c s k => ?_)
  obtain ⟨h1, b, h2, q⟩ := k
  rw [if_pos h1, h2]
  exact .ok (q)
theorem wp_isC {C : List (Str × Bool)} (k : (m ρ st).wp (fun d s => ∃ b, isC C d = some b ∧ Q (.bl b) s) X) : (fIsC C m ρ st).wp Q X := by
  refine Res.bind2 k (fun c s k => ?_)
  obtain ⟨b, h2, q⟩ := k
  rw [h2]
  exact .ok (q)
theorem wp_sl {l h : fO} (k : (m ρ st).wp (fun a s => (l ρ s).wp (fun i s => (h ρ s).wp (fun j s => ∃ d, oCut a i j = some d ∧ Q d s) X) X) X) : (fSl m l h ρ st).wp Q X := by
  refine Res.bind2 k (fun a s k => Res.bind2 k (fun b s k => Res.bind2 k (fun c s k => ?_)))
  obtain ⟨d, e, q⟩ := k
  rw [e]
  exact .ok q
theorem wp_pn {Q : Option Int → St → Prop} (k : Q none st) : (fPn ρ st).wp Q X := (.ok (k))
theorem wp_ps {Q : Option Int → St → Prop} (k : (m ρ st).wp (fun d s => ∃ i, d = .int i ∧ Q (some i) s) X) : (fPs m ρ st).wp Q X := by
  refine Res.bind2 k (fun c s k => ?_)
  obtain ⟨i, rfl, q⟩ := k
  exact .ok (q)
theorem wp_back (k : (m ρ st).wp (fun d s => (∃ x, d = .lst x ∧ Q (.lst x.reverse) s) ∨ (∃ x, d = .frz x ∧ Q (.lst x.reverse) s) ∨ ∃ x, d = .tup x ∧ Q (.tup x.reverse) s) X) : (fBack m ρ st).wp Q X := by
  refine Res.bind2 k (fun c s k => ?_)
  rcases k with ⟨x, rfl, k⟩ | ⟨x, rfl, k⟩ | ⟨x, rfl, k⟩ <;> exact .ok (k)
theorem wp_show (k : (m ρ st).wp (fun d s => ∃ y, shown? d = some y ∧ Q (.str y) s) X) : (fShow m ρ st).wp Q X := by
  refine Res.bind2 k (fun c s k => ?_)
  obtain ⟨y, e, q⟩ := k
  rw [e]
  exact .ok q
theorem wp_js_nil {acc : Str} {Q : Str → St → Prop} (k : Q acc st) : (fJs [] acc ρ st).wp Q X := (.ok (k))
theorem wp_js_cons {acc : Str} {ms : List fE} {Q : Str → St → Prop} (k : (m ρ st).wp (fun d s => ∃ y, d = .str y ∧ (acc ++ y).length ≤ sizeLine ∧ (fJs ms (acc ++ y) ρ s).wp Q X) X) : (fJs (m :: ms) acc ρ st).wp Q X := by
  refine Res.bind2 k (fun c s k => ?_)
  obtain ⟨y, rfl, h, q⟩ := k
  dsimp only
  rw [if_pos h]
  exact q
theorem wp_join {ms : List fE} (k : (fJs ms Str.empty ρ st).wp (fun y s => Q (.str y) s) X) : (fJoin ms ρ st).wp Q X := Res.bind2 k fun _ _ k => .ok k
/-! own lists -/
theorem wp_ixO (k : (m ρ st).wp (fun x s => (n ρ s).wp (fun y s => ∃ a i ds d, x = .loc a ∧ y = .int i ∧ s[a]? = some (some (.lst ds)) ∧ atI ds i = some d ∧ Q d s) X) X) : (fIxO m n ρ st).wp Q X := by
  refine Res.bind2 k (fun a s k => Res.bind2 k (fun b s k => ?_))
  obtain ⟨a, i, ds, d, rfl, rfl, h1, h2, q⟩ := k
  dsimp only
  rw [h1]
  dsimp only
  rw [h2]
  exact .ok (q)
theorem wp_frz (k : (m ρ st).wp (fun x s => ∃ i y, x = .loc i ∧ s[i]? = some (some y) ∧ Q y.tree (s.set i none)) X) : (fFrz m ρ st).wp Q X := by
  refine Res.bind2 k (fun c s k => ?_)
  obtain ⟨i, y, rfl, h, q⟩ := k
  dsimp only
  rw [h]
  exact .ok (q)
theorem wp_app (k : (m ρ st).wp (fun x s => ∃ i zs, x = .loc i ∧ s[i]? = some (some (.lst zs)) ∧ (n ρ s).wp (fun y s => ∃ ds, s[i]? = some (some (.lst ds)) ∧ ds.length < sizeLine ∧ Q .non (s.set i (some (.lst (ds ++ [y]))))) X) X) : (fApp m n ρ st).wp Q X := by
  refine Res.bind2 k (fun c s k => ?_)
  obtain ⟨i, zs, rfl, h, q⟩ := k
  dsimp only
  rw [h]
  refine Res.bind2 q (fun y s k => ?_)
  obtain ⟨ds, h1, h2, q⟩ := k
  rw [h1]
  dsimp only
  rw [if_pos h2]
  exact .ok (q)
/-! calls -/
theorem wp_call {F : fF} {k : Nat} {dd : List D} (h : (na ρ st).wp (fun ds s => (ds ++ dd).length = k ∧ (F (ds ++ dd) s).wp Q X) X) : (fCall F k dd na ρ st).wp Q X := by
  refine Res.bind2 h (fun ds s h => ?_)
  rw [if_pos h.1]
  exact h.2
theorem wp_call0 {F : fF} {k : Nat} {dd : List D} (h1 : dd.length = k) (h : (F dd st).wp Q X) : (fCall0 F k dd ρ st).wp Q X := by
  unfold fCall0
  rw [if_pos h1]
  exact h
theorem wp_meth {C f : Str} {F : fF} {k : Nat} {dd : List D} (h : (m ρ st).wp (fun x s => ∃ ns fs, x = .ins C ns fs ∧ f ∉ ns ∧ (na ρ s).wp (fun ds s => (ds ++ dd).length + 1 = k ∧ (F (.ins C ns fs :: (ds ++ dd)) s).wp Q X) X) X) : (fMeth C f F k dd m na ρ st).wp Q X := by
  refine Res.bind2 h (fun x s h => ?_)
  obtain ⟨ns, fs, rfl, h1, h⟩ := h
  dsimp only
  rw [if_pos ⟨rfl, h1⟩]
  refine Res.bind2 h (fun ds s h => ?_)
  rw [if_pos h.1]
  exact h.2
theorem wp_meth0 {C f : Str} {F : fF} {k : Nat} {dd : List D} (h : (m ρ st).wp (fun x s => ∃ ns fs, x = .ins C ns fs ∧ f ∉ ns ∧ dd.length + 1 = k ∧ (F (.ins C ns fs :: dd) s).wp Q X) X) : (fMeth0 C f F k dd m ρ st).wp Q X := by
  refine Res.bind2 h (fun x s h => ?_)
  obtain ⟨ns, fs, rfl, h1, h2, h⟩ := h
  dsimp only
  rw [if_pos ⟨rfl, h1, h2⟩]
  exact h
theorem wp_make {C : Str} {F : fF} {k : Nat} {dd : List D} (h : (na ρ st).wp (fun ds s => (ds ++ dd).length + 1 = k ∧ (mkEnd s.length (F (.loc s.length :: (ds ++ dd)) (s ++ [some (.ins C [] [])]))).wp Q X) X) : (fMake C F k dd na ρ st).wp Q X := by
  refine Res.bind2 h (fun x s h => ?_)
  rw [if_pos h.1]
  exact h.2
theorem wp_make0 {C : Str} {F : fF} {k : Nat} {dd : List D} (h1 : dd.length + 1 = k) (h : (mkEnd st.length (F (.loc st.length :: dd) (st ++ [some (.ins C [] [])]))).wp Q X) : (fMake0 C F k dd ρ st).wp Q X := by
  unfold fMake0
  rw [if_pos h1]
  exact h
theorem wp_mkEnd {r : Res D} {i : Nat} (h : r.wp (fun d s => d = .non ∧ ∃ y, s[i]? = some (some y) ∧ Q y.tree (gc i y.tree (s.set i none))) X) : (mkEnd i r).wp Q X := by
  cases h with
  | @ok d s _ _ h =>
    obtain ⟨rfl, y, e, q⟩ := h
    show ((match s[i]? with | some (some y) => Res.ok y.tree (gc i y.tree (s.set i none)) | _ => .bad) : Res D).wp Q X
    rw [e]
    exact .ok (q)
  | ex h => exact .ex h
theorem wp_calm {r : Res D} (h : r.wp Q noX) : r.calm.wp Q X := by
  cases h with
  | ok h => exact .ok h
  | ex h => exact h.elim
theorem wp_prop {C : Str} {F : fF} (h : (m ρ st).wp (fun x s => ∃ ns fs, x = .ins C ns fs ∧ (F [.ins C ns fs] s).wp Q noX) X) : (fProp C F m ρ st).wp Q X := by
  refine Res.bind2 h (fun x s h => ?_)
  obtain ⟨ns, fs, rfl, h⟩ := h
  dsimp only
  rw [if_pos rfl]
  exact wp_calm h
theorem wp_fld {C f : Str} (h : (m ρ st).wp (fun x s => ∃ ns fs d, x = .ins C ns fs ∧ lookD f ns fs = some d ∧ Q d s) X) : (fFld C f m ρ st).wp Q X := by
  refine Res.bind2 h (fun x s h => ?_)
  obtain ⟨ns, fs, d, rfl, e, h⟩ := h
  dsimp only
  rw [if_pos rfl, e]
  exact .ok h
theorem wp_opI {C : Str} {F : fF} (h : (m ρ st).wp (fun a s => (n ρ s).wp (fun b s => ∃ ns ds ms es, a = .ins C ns ds ∧ b = .ins C ms es ∧ (F [.ins C ns ds, .ins C ms es] s).wp Q X) X) X) : (fOpI C F m n ρ st).wp Q X := by
  refine Res.bind2 h (fun a s k => Res.bind2 k (fun b s k => ?_))
  obtain ⟨ns, ds, ms, es, rfl, rfl, k⟩ := k
  show (opIK C F s (.ins C ns ds) (.ins C ms es)).wp Q X
  rw [opIK_ok, if_pos ⟨rfl, rfl⟩]
  exact k
theorem wp_eqI {C : Str} {F : fF} {ok : D → Bool} (h : (m ρ st).wp (fun a s => (n ρ s).wp (fun b s => ∃ ns ds, a = .ins C ns ds ∧ ok b = true ∧ (F [.ins C ns ds, b] s).wp (fun d s => ∃ k, d = .bl k ∧ Q (.bl k) s) X) X) X) : (fEqI C F ok m n ρ st).wp Q X := by
  refine Res.bind2 h (fun a s k => Res.bind2 k (fun b s k => ?_))
  obtain ⟨ns, ds, rfl, h1, k⟩ := k
  dsimp only
  rw [if_pos ⟨rfl, h1⟩]
  refine Res.bind2 k (fun a s k => ?_)
  obtain ⟨k, rfl, q⟩ := k
  exact .ok (q)
theorem wp_reprI {C : Str} {F : fF} (h : (m ρ st).wp (fun a s => ∃ ns ds, a = .ins C ns ds ∧ (F [.ins C ns ds] s).wp (fun d s => ∃ k, d = .str k ∧ Q (.str k) s) noX) X) : (fReprI C F m ρ st).wp Q X := by
  refine Res.bind2 h (fun a s k => ?_)
  obtain ⟨ns, ds, rfl, k⟩ := k
  dsimp only
  rw [if_pos rfl]
  refine Res.wp_bind (wp_calm (Res.wp_mono k (fun a s k => ?_) fun _ _ h => h))
  obtain ⟨k, rfl, q⟩ := k
  exact .ok (q)
theorem wp_xf {C f : Str} {x : Exn} {ns : List Str} (h1 : x.cls = C) (h2 : x.fs = some (ns, ds)) (h3 : lookD f ns ds = some d) (k : Q d st) : (fXf C f x ρ st).wp Q X := by
  unfold fXf
  rw [if_pos h1, h2]
  dsimp only
  rw [h3]
  exact .ok (k)
theorem wp_tidx {ys : List Str} (h : (m ρ st).wp (fun y s => ∃ z j, y = .str z ∧ idxS ys z = some j ∧ Q (.int (j : Nat)) s) X) : (fTidx ys m ρ st).wp Q X := by
  refine Res.bind2 h (fun a s k => ?_)
  obtain ⟨z, j, rfl, e, q⟩ := k
  dsimp only
  rw [e]
  exact .ok q
theorem wp_kix {tab : List (Str × D)} (h : (m ρ st).wp (fun y s => ∃ z d, y = .str z ∧ tab.lookup z = some d ∧ Q d s) X) : (fKix tab m ρ st).wp Q X := by
  refine Res.bind2 h (fun a s k => ?_)
  obtain ⟨z, j, rfl, e, q⟩ := k
  dsimp only
  rw [e]
  exact .ok q
theorem wp_chain {o' : D → D → Option D} {p : fE} (h : (m ρ st).wp (fun a s => (n ρ s).wp (fun b s => ∃ c, o a b = some (.bl c) ∧ (c = true → (p ρ s).wp (fun e s => ∃ d, o' b e = some d ∧ Q d s) X) ∧ (c = false → Q (.bl false) s)) X) X) : (fChain o o' m n p ρ st).wp Q X := by
  refine Res.bind2 h (fun a s k => Res.bind2 k (fun b s k => ?_))
  obtain ⟨c, e, k1, k2⟩ := k
  rw [e]
  cases c with
  | true =>
    refine Res.bind2 (k1 rfl) (fun a s k => ?_)
    obtain ⟨d, e, q⟩ := k
    rw [e]
    exact .ok (q)
  | false => exact .ok (k2 rfl)
/-! statements -/
theorem wp_next (k : N ρ st) : (fNext ρ st).wp ⟨N, R, B, C, E⟩ := (.nx (k))
theorem wp_brk (k : B ρ st) : (fBrk ρ st).wp ⟨N, R, B, C, E⟩ := .bk k
theorem wp_cont (k : C ρ st) : (fCt ρ st).wp ⟨N, R, B, C, E⟩ := .ct k
theorem wp_seq (k : (a ρ st).wp ⟨fun ρ s => (b ρ s).wp ⟨N, R, B, C, E⟩, R, B, C, E⟩) : (fSeq a b ρ st).wp ⟨N, R, B, C, E⟩ := by
  unfold fSeq
  generalize a ρ st = r at k ⊢
  cases k with
  | nx h => exact h
  | rt h => exact .rt h
  | bk h => exact .bk h
  | ct h => exact .ct h
  | ex h => exact .ex h
theorem wp_drop (k : (m ρ st).wp (fun _ s => N ρ s) fun x s => E x ρ s) : (fDrop m ρ st).wp ⟨N, R, B, C, E⟩ := stB2 k fun _ _ k => .nx k
theorem wp_ret (k : (m ρ st).wp (fun d s => R d s) fun x s => E x ρ s) : (fRet m ρ st).wp ⟨N, R, B, C, E⟩ := stB2 k fun _ _ k => .rt k
theorem wp_retN (k : R .non st) : (fRetN ρ st).wp ⟨N, R, B, C, E⟩ := .rt k
theorem wp_set (k : (m ρ st).wp (fun d s => N (ρ.set i (some d)) s) fun x s => E x ρ s) : (fSet i m ρ st).wp ⟨N, R, B, C, E⟩ := stB2 k fun _ _ k => .nx k
theorem wp_par (k : (na ρ st).wp (fun ds s => ∃ a b, ds = [a, b] ∧ N ((ρ.set i (some a)).set j (some b)) s) fun x s => E x ρ s) : (fPar i j na ρ st).wp ⟨N, R, B, C, E⟩ := by
  refine stB2 k (fun ds s k => ?_)
  obtain ⟨a, b, rfl, k⟩ := k
  exact .nx (k)
theorem wp_asg {g : fG} (k : (m ρ st).wp (fun d s => ∃ ρ1 s1, g d ρ s = some (ρ1, s1) ∧ N ρ1 s1) fun x s => E x ρ s) : (fAsg m g ρ st).wp ⟨N, R, B, C, E⟩ := by
  refine stB2 k (fun ds s k => ?_)
  obtain ⟨a, b, e, k⟩ := k
  rw [e]
  exact .nx (k)
theorem wp_ifS (k : (t ρ st).wp (fun c s => (c = true → (a ρ s).wp ⟨N, R, B, C, E⟩) ∧ (c = false → (b ρ s).wp ⟨N, R, B, C, E⟩)) fun x s => E x ρ s) : (fIfS t a b ρ st).wp ⟨N, R, B, C, E⟩ := by
  refine stB2 k (fun c s k => ?_)
  cases c with
  | true => exact k.1 rfl
  | false => exact k.2 rfl
theorem wp_raise {Cn fld : Str} (k : (na ρ st).wp (fun ds s => ∃ d, ds = [d] ∧ E ⟨Cn, some ([fld], [d])⟩ ρ s) fun x s => E x ρ s) : (fRaise Cn fld na ρ st).wp ⟨N, R, B, C, E⟩ := by
  refine stB2 k (fun c s k => ?_)
  obtain ⟨d, rfl, k⟩ := k
  exact .ex k
theorem wp_try {cs : List ClF} (k : (a ρ st).wp ⟨N, R, B, C, fun x ρ s => (fPick cs x ρ s).wp ⟨N, R, B, C, E⟩⟩) : (fTry cs a ρ st).wp ⟨N, R, B, C, E⟩ := by
  unfold fTry
  generalize a ρ st = r at k ⊢
  cases k with
  | nx h => exact .nx h
  | rt h => exact .rt h
  | bk h => exact .bk h
  | ct h => exact .ct h
  | ex h => exact h
theorem wp_pick0 {x : Exn} (k : E x ρ st) : (fPick [] x ρ st).wp ⟨N, R, B, C, E⟩ := .ex k
theorem wp_pickF {x : Exn} {cl : Str → Option Bool} {f : Exn → fS} {r : List ClF} (h : cl x.cls = some false) (k : (fPick r x ρ st).wp ⟨N, R, B, C, E⟩) : (fPick ((cl, i, f) :: r) x ρ st).wp ⟨N, R, B, C, E⟩ := by
  rw [fPick, h]
  exact k
theorem wp_pickT {x : Exn} {cl : Str → Option Bool} {f : Exn → fS} {r : List ClF} (h : cl x.cls = some true) (hi : i < ρ.length) (k : (f x (ρ.set i none) st).wp ⟨fun ρ s => N (ρ.set i none) s, R, fun ρ s => B (ρ.set i none) s, fun ρ s => C (ρ.set i none) s, fun _ _ _ => False⟩) : (fPick ((cl, i, f) :: r) x ρ st).wp ⟨N, R, B, C, E⟩ := by
  rw [fPick, h]
  dsimp only
  rw [if_pos hi]
  generalize f x (ρ.set i none) st = r at k ⊢
  cases k with
  | nx h => exact .nx h
  | rt h => exact .rt h
  | bk h => exact .bk h
  | ct h => exact .ct h
  | ex h => exact h.elim
theorem wp_fldS {Cn f : Str} (k : (n ρ st).wp (fun y s => (m ρ s).wp (fun x s => ∃ a ns ds, x = .loc a ∧ s[a]? = some (some (.ins Cn ns ds)) ∧ ns.length < 1000 ∧ N ρ (s.set a (some (.ins Cn (putN f ns) (putD f y ns ds))))) fun x s => E x ρ s) fun x s => E x ρ s) : (fFldS Cn f m n ρ st).wp ⟨N, R, B, C, E⟩ := by
  refine stB2 k (fun y s k => stB2 k (fun x s k => ?_))
  obtain ⟨a, ns, ds, rfl, h1, h2, k⟩ := k
  dsimp only
  rw [h1]
  dsimp only
  rw [if_pos ⟨rfl, h2⟩]
  exact .nx (k)
theorem wp_augS {g : Int → Int → Int} {p : fE} (k : (m ρ st).wp (fun x s => (n ρ s).wp (fun y s => ∃ a k0 i, augO s x y = some (a, k0, i) ∧ (p ρ s).wp (fun d s => (augE g ρ s a k0 i d).wp ⟨N, R, B, C, E⟩) fun x s => E x ρ s) fun x s => E x ρ s) fun x s => E x ρ s) : (fAugS g m n p ρ st).wp ⟨N, R, B, C, E⟩ := by
  refine stB2 k (fun y s k => stB2 k (fun x s k => ?_))
  obtain ⟨a, k0, i, e, k⟩ := k
  rw [e]
  exact stB_wp k
theorem wp_body {f : fS} {k : Nat} (h : (f (ds.map some ++ List.replicate k none) st).wp ⟨fun _ s => Q .non (gcF st.length true s), fun d s => Q d (gcF st.length (noLoc d) s), fun _ _ => False, fun _ _ => False, fun x _ s => X x (gcF st.length (noLocX x) s)⟩) : (fBody f k ds st).wp Q X := by
  unfold fBody
  generalize f (ds.map some ++ List.replicate k none) st = r at h ⊢
  cases h with
  | nx h => exact .ok h
  | rt h => exact .ok h
  | bk h => exact h.elim
  | ct h => exact h.elim
  | ex h => exact .ex h
/-- .. nothing of one's own is made or changed -/
theorem wp_body0 {f : fS} {k : Nat} (h : (f (ds.map some ++ List.replicate k none) st).wp ⟨fun _ s => s = st ∧ Q .non st, fun d s => s = st ∧ Q d st, fun _ _ => False, fun _ _ => False, fun x _ s => s = st ∧ X x st⟩) : (fBody f k ds st).wp Q X := by
  refine wp_body (RS.wp_mono h (fun _ s h => ?_) (fun _ s h => ?_) (fun _ _ h => h) (fun _ _ h => h) fun _ _ s h => ?_) <;> (obtain ⟨rfl, h⟩ := h; dsimp only; rw [gcF_same]; exact h)
/-! loops -/
theorem wp_for {it : fA} {g : fG} (k : (it ρ st).wp (fun ds s => (fForGo g b ds ρ s).wp ⟨N, R, B, C, E⟩) fun x s => E x ρ s) : (fFor it g b ρ st).wp ⟨N, R, B, C, E⟩ := stB_wp k
theorem wp_for_nil {g : fG} (k : N ρ st) : (fForGo g b [] ρ st).wp ⟨N, R, B, C, E⟩ := (.nx (k))
theorem wp_for_cons {g : fG} (h : g d ρ st = some (ρ', st')) (k : (b ρ' st').wp ⟨fun ρ s => (fForGo g b ds ρ s).wp ⟨N, R, B, C, E⟩, R, N, fun ρ s => (fForGo g b ds ρ s).wp ⟨N, R, B, C, E⟩, E⟩) : (fForGo g b (d :: ds) ρ st).wp ⟨N, R, B, C, E⟩ := by
  rw [fForGo, h]
  dsimp only
  generalize b ρ' st' = r at k ⊢
  cases k with
  | nx h => exact h
  | rt h => exact .rt h
  | bk h => exact .nx h
  | ct h => exact h
  | ex h => exact .ex h
/-- a loop, by what holds between two turns: the part taken, the part left -/
theorem wp_for_inv {α : Type} {enc : α → D} {g : fG} (I : List α → Rho → St → Prop) {xs : List α} (h0 : I [] ρ st)
    (turn : ∀ (pre : List α) (x : α) (post : List α) (ρ : Rho) (s : St), xs = pre ++ x :: post → I pre ρ s → ∃ ρ1 s1, g (enc x) ρ s = some (ρ1, s1) ∧ (b ρ1 s1).wp ⟨fun ρ s => I (pre ++ [x]) ρ s, R, N, fun ρ s => I (pre ++ [x]) ρ s, E⟩)
    (done : ∀ ρ s, I xs ρ s → N ρ s) : (fForGo g b (xs.map enc) ρ st).wp ⟨N, R, B, C, E⟩ := by
  have go : ∀ (post pre : List α) (ρ : Rho) (s : St), xs = pre ++ post → I pre ρ s → (fForGo g b (post.map enc) ρ s).wp ⟨N, R, B, C, E⟩ := by
    intro post
    induction post with
    | nil =>
      intro pre ρ s e h
      rw [List.append_nil] at e
      subst e
      exact .nx (done _ _ h)
    | cons x post ih =>
      intro pre ρ s e h
      obtain ⟨ρ1, s1, h1, h2⟩ := turn pre x post ρ s e h
      refine wp_for_cons h1 (RS.wp_mono h2 (fun ρ s h => ?_) (fun _ _ h => h) (fun _ _ h => h) (fun ρ s h => ?_) fun _ _ _ h => h)
      · exact ih (pre ++ [x]) ρ s (by rw [e]; simp) h
      · exact ih (pre ++ [x]) ρ s (by rw [e]; simp) h
  exact go xs [] ρ st rfl h0
theorem wp_iSq (k : (m ρ st).wp (fun d s => ∃ ds, seqOf d = some ds ∧ QA ds s) X) : (iSq m ρ st).wp QA X := by
  rw [iSq_l]
  refine Res.bind2 k (fun c s k => ?_)
  obtain ⟨ds, e, q⟩ := k
  rw [e]
  exact .ok q
theorem wp_iEn (k : (m ρ st).wp (fun d s => ∃ ds, seqOf d = some ds ∧ QA (enumD 0 ds) s) X) : (iEn m ρ st).wp QA X := by
  refine Res.bind2 k (fun c s k => ?_)
  obtain ⟨ds, e, q⟩ := k
  rw [e]
  exact .ok q
theorem wp_iR1 (k : (na ρ st).wp (fun ds s => ∃ j : Int, ds = [.int j] ∧ (-(2 ^ 62) ≤ j ∧ j < 2 ^ 62) ∧ QA (rngD 0 j.toNat) s) X) : (iR1 na ρ st).wp QA X := by
  refine Res.bind2 k (fun c s k => ?_)
  obtain ⟨j, rfl, h, q⟩ := k
  show ((if -(2 ^ 62) ≤ j ∧ j < 2 ^ 62 then Res.ok (rngD 0 j.toNat) s else .bad) : Res (List D)).wp QA X
  rw [if_pos h]
  exact .ok q
theorem wp_iR2 (k : (na ρ st).wp (fun ds s => ∃ i j : Int, ds = [.int i, .int j] ∧ (-(2 ^ 62) ≤ i ∧ i < 2 ^ 62 ∧ -(2 ^ 62) ≤ j ∧ j < 2 ^ 62) ∧ QA (rngD i (j - i).toNat) s) X) : (iR2 na ρ st).wp QA X := by
  refine Res.bind2 k (fun c s k => ?_)
  obtain ⟨i, j, rfl, h, q⟩ := k
  show ((if -(2 ^ 62) ≤ i ∧ i < 2 ^ 62 ∧ -(2 ^ 62) ≤ j ∧ j < 2 ^ 62 then Res.ok (rngD i (j - i).toNat) s else .bad) : Res (List D)).wp QA X
  rw [if_pos h]
  exact .ok (q)
/-! comprehensions -/
theorem wp_lc {it : fA} {g : fG} {vs : List Nat} (k : (it ρ st).wp (fun ds s => (fLcGo g t m vs ρ ds [] s).wp (fun acc s => Q (.lst acc) s) X) X) : (fLc it g t m vs ρ st).wp Q X :=
  Res.bind2 k (fun _ _ k => Res.bind2 k fun _ _ k => .ok k)
theorem wp_lcO {it : fA} {g : fG} {vs : List Nat} (k : (it ρ st).wp (fun ds s => (fLcGo g t m vs ρ ds [] s).wp (fun acc s => Q (.loc s.length) (s ++ [some (.lst acc)])) X) X) : (fLcO it g t m vs ρ st).wp Q X :=
  Res.bind2 k (fun _ _ k => Res.bind2 k fun _ _ k => .ok k)
/-- .. the state may change: by what holds between two turns -/
theorem wp_lc_inv {α : Type} {enc : α → D} {g : fG} {vs : List Nat} (I : List α → List D → St → Prop) {xs : List α} (hl : xs.length ≤ 1000000) (h0 : I [] [] st)
    (turn : ∀ (pre : List α) (x : α) (post : List α) (ys : List D) (s : St), xs = pre ++ x :: post → ys.length = pre.length → I pre ys s → ∃ ρ1 s1, g (enc x) (wipeD ρ vs) s = some (ρ1, s1) ∧ (m ρ1 s1).wp (fun y s => I (pre ++ [x]) (ys ++ [y]) s) noX)
    (done : ∀ ys s, ys.length = xs.length → I xs ys s → QA ys s) : (fLcGo g fYes m vs ρ (xs.map enc) [] st).wp QA X := by
  have go : ∀ (post pre : List α) (ys : List D) (s : St), xs = pre ++ post → ys.length = pre.length → I pre ys s → (fLcGo g fYes m vs ρ (post.map enc) ys s).wp QA X := by
    intro post
    induction post with
    | nil =>
      intro pre ys s e l h
      rw [List.append_nil] at e
      subst e
      exact .ok (done _ _ l h)
    | cons x post ih =>
      intro pre ys s e l h
      obtain ⟨ρ1, s1, h1, h2⟩ := turn pre x post ys s e l h
      obtain ⟨y, s2, e2, h2⟩ := Res.ok_wp h2
      rw [List.map_cons, fLcGo, h1]
      dsimp only
      simp only [fYes]
      rw [e2]
      dsimp only
      have hz : ys.length < sizeLine := by
        have z : xs.length = pre.length + (post.length + 1) := by rw [e]; simp
        rw [sizeLine_e]
        omega
      rw [if_pos hz]
      exact ih (pre ++ [x]) (ys ++ [y]) s2 (by rw [e]; simp) (by simp [l]) h2
  exact go xs [] [] st rfl rfl h0
/-- .. the state stays: what is made of each item -/
theorem wp_lc_map {α : Type} {enc : α → D} {g : fG} {vs : List Nat} (F : α → D) {xs : List α} (hl : xs.length ≤ 1000000)
    (turn : ∀ x ∈ xs, ∃ ρ1, g (enc x) (wipeD ρ vs) st = some (ρ1, st) ∧ (m ρ1 st).wp (fun y s => y = F x ∧ s = st) noX) (done : QA (xs.map F) st) : (fLcGo g fYes m vs ρ (xs.map enc) [] st).wp QA X := by
  refine wp_lc_inv (fun pre ys s => s = st ∧ ys = pre.map F) hl ⟨rfl, rfl⟩ (fun pre x post ys s e _ h => ?_) fun ys s _ h => ?_
  · obtain ⟨rfl, rfl⟩ := h
    obtain ⟨ρ1, h1, h2⟩ := turn x (by rw [e]; simp)
    refine ⟨ρ1, s, h1, Res.wp_mono h2 (fun y s' h => ?_) fun _ _ h => h⟩
    obtain ⟨rfl, rfl⟩ := h
    exact ⟨rfl, by simp⟩
  · obtain ⟨rfl, rfl⟩ := h
    exact done
/-- .. with a test -/
theorem wp_lc_filter {α : Type} {enc : α → D} {g : fG} {vs : List Nat} (p : α → Bool) (F : α → D) {xs : List α} (hl : xs.length ≤ 1000000)
    (turn : ∀ x ∈ xs, ∃ ρ1, g (enc x) (wipeD ρ vs) st = some (ρ1, st) ∧ (t ρ1 st).wp (fun c s => c = p x ∧ s = st) noX ∧ (p x = true → (m ρ1 st).wp (fun y s => y = F x ∧ s = st) noX)) (done : QA ((xs.filter p).map F) st) : (fLcGo g t m vs ρ (xs.map enc) [] st).wp QA X := by
  have go : ∀ (post : List α) (ys : List D), (∀ x ∈ post, x ∈ xs) → ys.length + post.length ≤ 1000000 → (fLcGo g t m vs ρ (post.map enc) ys st).wp (fun zs s => zs = ys ++ (post.filter p).map F ∧ s = st) noX := by
    intro post
    induction post with
    | nil =>
      intro ys _ _
      exact .ok ⟨by simp, rfl⟩
    | cons x post ih =>
      intro ys hm hl
      obtain ⟨ρ1, h1, h2, h3⟩ := turn x (hm x List.mem_cons_self)
      have e2 := Res.eq_wp h2
      rw [List.map_cons, fLcGo, h1]
      dsimp only
      rw [e2]
      have hl' : ys.length + (post.length + 1) ≤ 1000000 := hl
      cases q : p x with
      | true =>
        have e3 := Res.eq_wp (h3 q)
        dsimp only
        rw [e3]
        dsimp only
        rw [if_pos (by rw [sizeLine_e]; omega)]
        refine Res.wp_mono (ih (ys ++ [F x]) (fun y hy => hm y (List.mem_cons_of_mem _ hy)) (by simp; omega)) (fun zs s h => ?_) fun _ _ h => h
        exact ⟨by rw [h.1]; simp [q], h.2⟩
      | false =>
        dsimp only
        refine Res.wp_mono (ih ys (fun y hy => hm y (List.mem_cons_of_mem _ hy)) (by omega)) (fun zs s h => ?_) fun _ _ h => h
        exact ⟨by rw [h.1]; simp [q], h.2⟩
  refine Res.wp_mono (go xs [] (fun _ h => h) (by simpa using hl)) (fun zs s h => ?_) fun _ _ h => h.elim
  obtain ⟨rfl, rfl⟩ := h
  exact done
end
end FL

set_option Elab.async false
set_option linter.all false
set_option maxRecDepth 100000
set_option maxHeartbeats 1000000
/-! small rules for what the backward rules ask -/
namespace FL
open PySem PySem.Spec PyProof.Rows L2 DL
section
variable {d e a b : D} {ds es : List D} {Q : D → St → Prop} {X : Exn → St → Prop} {s st : St} {C P : Prop} {c : Bool}
theorem at_c0 : atI (d :: ds) 0 = some d := at_nat (ds := d :: ds) (k := 0) (Nat.succ_pos _)
theorem oIx_t0 : oIx (.tup (d :: ds)) (.int 0) = some d := at_c0
theorem oIx_l0 : oIx (.lst (d :: ds)) (.int 0) = some d := at_c0
theorem set_at {n : Nat} {y x : Option DO} (h : st[n]? = some y) : (st.set n x)[n]? = some x := by
  have hl : n < st.length := (List.getElem?_eq_some_iff.mp h).1
  exact List.getElem?_set_self hl
theorem pow9 : oPow (.int 10) (.int 9) = some (.int 1000000000) := rfl
theorem pow18 : oPow (.int 10) (.int 18) = some (.int 1000000000000000000) := rfl
theorem pow20 : oPow (.int 10) (.int 20) = some (.int 100000000000000000000) := rfl
theorem pow25 : oPow (.int 10) (.int 25) = some (.int 10000000000000000000000000) := rfl
theorem pow30 : oPow (.int 10) (.int 30) = some (.int 1000000000000000000000000000000) := rfl
theorem oDiv_big {i j : Int} (h : 0 < j) (h2 : j ≤ 10000000000000000000000000000000000000000) : oDiv (.int i) (.int j) = some (.int (i / j)) := oI_ok (by
  simp only [Bool.and_eq_true, decide_eq_true_eq]
  refine ⟨h, ?_⟩
  have hz : j.natAbs ≠ 0 := by omega
  rw [Nat.log2_lt hz]
  have h3 : j.natAbs < 2 ^ 200 := by omega
  exact Nat.lt_trans h3 (Nat.pow_lt_pow_right (a := 2) (Nat.lt_succ_self 1) (by omega)))
theorem oMul1_intR {i j : Int} (h : -(2 ^ 64) < j ∧ j < 2 ^ 64) : oMul1 (.int i) (.int j) = some (.int (i * j)) := by
  show oMul (.int i) (.int j) = _
  have q : mulOk i j = true := by
    simp only [mulOk, Bool.or_eq_true, Bool.and_eq_true, decide_eq_true_eq]
    exact .inl (.inr h)
  simp only [oMul, q, if_true]
theorem oMul1_b {i : Int} {c : Bool} : oMul1 (.int i) (.int (if c = true then 1 else 0)) = some (.int (i * (if c = true then 1 else 0))) := by
  cases c
  · exact oMul1_intR (by decide)
  · exact oMul1_intR (by decide)
theorem intsOf_map {xs : List Int} : intsOf (xs.map D.int) = some xs := by
  induction xs with
  | nil => rfl
  | cons x xs ih =>
    show (intsOf (xs.map D.int)).map (x :: ·) = _
    rw [ih]
    rfl
theorem cutD_map {α : Type} {enc : α → D} {xs : List α} {lo hi : Option Int} : ∃ ys : List α, DL.cutD (xs.map enc) lo hi = ys.map enc := ⟨(xs.drop (HT.sIx xs.length 0 lo)).take (HT.sIx xs.length xs.length hi - HT.sIx xs.length 0 lo), by
  unfold DL.cutD
  rw [List.length_map, List.map_take, List.map_drop]⟩
theorem lSum_cut {xs : List Int} {lo hi : Option Int} : ∃ z, lSum [.lst (DL.cutD (xs.map D.int) lo hi)] = some (.int z) := by
  obtain ⟨ys, e⟩ := cutD_map (enc := D.int) (xs := xs) (lo := lo) (hi := hi)
  rw [e]
  show ∃ z, (intsOf (ys.map D.int)).map _ = _
  rw [intsOf_map]
  exact ⟨_, rfl⟩
theorem gw_op {o : Option D} {R : D → Prop} (h : o = some d) (k : R d) : ∃ d, o = some d ∧ R d := ⟨d, h, k⟩
theorem gw_t (h : c = true) (k : C) : (c = true → C) ∧ (c = false → P) := ⟨fun _ => k, fun q => (nomatch h.symm.trans q)⟩
theorem gw_f (h : c = false) (k : P) : (c = true → C) ∧ (c = false → P) := ⟨fun q => (nomatch h.symm.trans q), fun _ => k⟩
theorem gw_p {p : Prop} [Decidable p] (h : p) (k : C) : (decide p = true → C) ∧ (decide p = false → P) := gw_t (decide_eq_true h) k
theorem gw_np {p : Prop} [Decidable p] (h : ¬p) (k : P) : (decide p = true → C) ∧ (decide p = false → P) := gw_f (decide_eq_false h) k
theorem gw_two {p : Prop} [Decidable p] (k1 : p → C) (k2 : ¬p → P) : (decide p = true → C) ∧ (decide p = false → P) := ⟨fun h => k1 (of_decide_eq_true h), fun h => k2 (of_decide_eq_false h)⟩
theorem gw_bl {R : Bool → Prop} (k : R c) : ∃ b, D.bl c = .bl b ∧ R b := ⟨c, rfl, k⟩
theorem gw_int {i : Int} {QI : Int → Prop} (k : QI i) : ∃ j, D.int i = .int j ∧ QI j := ⟨i, rfl, k⟩
theorem gw_sz (h : Nat.ble ds.length 1000 = true) (k : C) : ds.length ≤ sizeLine ∧ C := by
  have := Nat.le_of_ble_eq_true h
  refine ⟨?_, k⟩
  rw [sizeLine_e]
  omega
theorem gw_len {m n : Nat} (h : m = n) (k : C) : m = n ∧ C := ⟨h, k⟩
theorem gw_ins {K f : Str} {x : D} {ns : List Str} {fs : List D} {R : List Str → List D → Prop} (h : x = .ins K ns fs) (h2 : f ∉ ns) (k : R ns fs) : ∃ ns fs, x = .ins K ns fs ∧ f ∉ ns ∧ R ns fs := ⟨ns, fs, h, h2, k⟩
theorem gw_ins1 {K : Str} {x : D} {ns : List Str} {fs : List D} {R : List Str → List D → Prop} (h : x = .ins K ns fs) (k : R ns fs) : ∃ ns fs, x = .ins K ns fs ∧ R ns fs := ⟨ns, fs, h, k⟩
theorem gw_fld {K f : Str} {x : D} {ns : List Str} {fs : List D} {R : D → Prop} (h : x = .ins K ns fs) (h2 : lookD f ns fs = some d) (k : R d) : ∃ ns fs d, x = .ins K ns fs ∧ lookD f ns fs = some d ∧ R d := ⟨ns, fs, d, h, h2, k⟩
theorem gw_two_ins {K : Str} {ns ms : List Str} {R : List Str → List D → List Str → List D → Prop} (h1 : a = .ins K ns ds) (h2 : b = .ins K ms es) (k : R ns ds ms es) : ∃ ns ds ms es, a = .ins K ns ds ∧ b = .ins K ms es ∧ R ns ds ms es := ⟨ns, ds, ms, es, h1, h2, k⟩
theorem gw_seq {R : List D → Prop} (h : seqOf d = some ds) (k : R ds) : ∃ ds, seqOf d = some ds ∧ R ds := ⟨ds, h, k⟩
theorem gw_ix {p : Nat} {i : Int} {R : D → Prop} (h1 : a = .loc p) (h2 : b = .int i) (h3 : s[p]? = some (some (.lst ds))) (h4 : atI ds i = some d) (k : R d) : ∃ a' i ds d, a = .loc a' ∧ b = .int i ∧ s[a']? = some (some (.lst ds)) ∧ atI ds i = some d ∧ R d := ⟨p, i, ds, d, h1, h2, h3, h4, k⟩
theorem gw_asg {g : Option (Rho × St)} {ρ : Rho} {N : Rho → St → Prop} (h : g = some (ρ, s)) (k : N ρ s) : ∃ ρ s, g = some (ρ, s) ∧ N ρ s := ⟨ρ, s, h, k⟩
theorem gw_isi {ts : List BT} {R : Bool → Prop} (h1 : (tyD d).isSome = true) (h2 : isTs d ts = some c) (k : R c) : (tyD d).isSome = true ∧ ∃ b, isTs d ts = some b ∧ R b := ⟨h1, c, h2, k⟩
theorem gw_isC {t : List (Str × Bool)} {R : Bool → Prop} (h2 : isC t d = some c) (k : R c) : ∃ b, isC t d = some b ∧ R b := ⟨c, h2, k⟩
theorem gw_one {R : D → Prop} (k : R d) : ∃ e, [d] = [e] ∧ R e := ⟨d, rfl, k⟩
theorem gw_r1 {j : Int} {R : Int → Prop} (h : -(2 ^ 62) ≤ j ∧ j < 2 ^ 62) (k : R j) : ∃ i : Int, [D.int j] = [.int i] ∧ (-(2 ^ 62) ≤ i ∧ i < 2 ^ 62) ∧ R i := ⟨j, rfl, h, k⟩
theorem gw_str {x : Str} {R : Str → Prop} (k : R x) : ∃ y, D.str x = .str y ∧ R y := ⟨x, rfl, k⟩
theorem gw_backT {x : List D} {l r : Prop} {R : List D → Prop} (k : R x) : l ∨ r ∨ ∃ y, D.tup x = .tup y ∧ R y := .inr (.inr ⟨x, rfl, k⟩)
theorem gw_backL {x : List D} {r : Prop} {R : List D → Prop} (k : R x) : (∃ y, D.lst x = .lst y ∧ R y) ∨ r := .inl ⟨x, rfl, k⟩
theorem gw_tix {y : D} {z : Str} {j : Nat} {ys : List Str} {R : Nat → Prop} (h1 : y = .str z) (h2 : idxS ys z = some j) (k : R j) : ∃ z j, y = .str z ∧ idxS ys z = some j ∧ R j := ⟨z, j, h1, h2, k⟩
theorem gw_kix {y : D} {z : Str} {tab : List (Str × D)} {R : D → Prop} (h1 : y = .str z) (h2 : tab.lookup z = some d) (k : R d) : ∃ z d, y = .str z ∧ tab.lookup z = some d ∧ R d := ⟨z, d, h1, h2, k⟩
theorem gw_two_e {R : D → D → Prop} (k : R a b) : ∃ x y, [a, b] = [x, y] ∧ R x y := ⟨a, b, rfl, k⟩
theorem wp_pickT1 {c' : Str} {fs : Option (List Str × List D)} {cl : Str → Option Bool} {i : Nat} {f : Exn → fS} {r : List ClF} {ρ : Rho} {N B K : Rho → St → Prop} {R : D → St → Prop} {E : Exn → Rho → St → Prop} (h : cl c' = some true) (hi : i < ρ.length) (k : (f ⟨c', fs⟩ (ρ.set i none) st).wp ⟨fun ρ s => N (ρ.set i none) s, R, fun ρ s => B (ρ.set i none) s, fun ρ s => K (ρ.set i none) s, fun _ _ _ => False⟩) : (fPick ((cl, i, f) :: r) ⟨c', fs⟩ ρ st).wp ⟨N, R, B, K, E⟩ := wp_pickT h hi k
theorem wp_pickF1 {c' : Str} {fs : Option (List Str × List D)} {cl : Str → Option Bool} {i : Nat} {f : Exn → fS} {r : List ClF} {ρ : Rho} {N B K : Rho → St → Prop} {R : D → St → Prop} {E : Exn → Rho → St → Prop} (h : cl c' = some false) (k : (fPick r ⟨c', fs⟩ ρ st).wp ⟨N, R, B, K, E⟩) : (fPick ((cl, i, f) :: r) ⟨c', fs⟩ ρ st).wp ⟨N, R, B, K, E⟩ := wp_pickF h k
end
end FL

set_option Elab.async false
set_option linter.all false
set_option maxRecDepth 100000
set_option maxHeartbeats 1000000
/-! == and repr of trees that are plain data -/
namespace FL
open PySem PySem.Spec PyProof.Rows L2 DL
mutual
/-- plain data, so deep at most -/
def plD : Nat → D → Bool
  | _, .non => true
  | _, .bl _ => true
  | _, .int _ => true
  | _, .str x => PyData.strOk x
  | n + 1, .lst ds => plL n ds
  | n + 1, .tup ds => plL n ds
  | _, _ => false
def plL : Nat → List D → Bool
  | _, [] => true
  | n, d :: ds => plD n d && plL n ds
end
mutual
theorem pl_py : ∀ {n : Nat} {d : D}, plD n d = true → ∃ p, toPy d = some p ∧ p.canLay0 = true ∧ p.depth ≤ n
  | n, .non, _ => ⟨_, rfl, rfl, Nat.zero_le _⟩
  | n, .bl _, _ => ⟨_, rfl, rfl, Nat.zero_le _⟩
  | n, .int _, _ => ⟨_, rfl, rfl, Nat.zero_le _⟩
  | n, .str x, h => ⟨_, rfl, by simpa [plD, PyData.canLay0] using h, Nat.zero_le _⟩
  | n + 1, .lst ds, h => by
    obtain ⟨ps, e, c, l⟩ := pl_pyL (n := n) (ds := ds) (by simpa [plD] using h)
    exact ⟨.list ps, by simp [toPy, e], by simpa [PyData.canLay0] using c, by simp only [PyData.depth]; omega⟩
  | n + 1, .tup ds, h => by
    obtain ⟨ps, e, c, l⟩ := pl_pyL (n := n) (ds := ds) (by simpa [plD] using h)
    exact ⟨.tuple ps, by simp [toPy, e], by simpa [PyData.canLay0] using c, by simp only [PyData.depth]; omega⟩
  | 0, .lst _, h => by simp [plD] at h
  | 0, .tup _, h => by simp [plD] at h
  | n, .dic _ _, h => by simp [plD] at h
  | n, .ins _ _ _, h => by simp [plD] at h
  | n, .frz _, h => by simp [plD] at h
  | n, .loc _, h => by simp [plD] at h
  | n, .cls _, h => by simp [plD] at h
  | n, .ty _, h => by simp [plD] at h
theorem pl_pyL : ∀ {n : Nat} {ds : List D}, plL n ds = true → ∃ ps, toPyL ds = some ps ∧ PyData.canLayAll0 ps = true ∧ PyData.depthAll ps ≤ n
  | n, [], _ => ⟨[], rfl, rfl, Nat.zero_le _⟩
  | n, d :: ds, h => by
    simp only [plL, Bool.and_eq_true] at h
    obtain ⟨p, e1, c1, l1⟩ := pl_py h.1
    obtain ⟨ps, e2, c2, l2⟩ := pl_pyL h.2
    exact ⟨p :: ps, by simp [toPyL, e1, e2], by simp [PyData.canLayAll0, c1, c2], by simp only [PyData.depthAll]; omega⟩
end
mutual
def deq : D → D → Bool
  | .non, .non => true
  | .bl a, .bl b => a == b
  | .int i, .int j => i == j
  | .bl a, .int j => (if a then 1 else 0) == j
  | .int i, .bl b => i == (if b then 1 else 0)
  | .str x, .str y => x == y
  | .lst xs, .lst ys => deqL xs ys
  | .tup xs, .tup ys => deqL xs ys
  | _, _ => false
def deqL : List D → List D → Bool
  | [], [] => true
  | x :: xs, y :: ys => deq x y && deqL xs ys
  | _, _ => false
end
mutual
theorem deq_py : ∀ {a b : D} {p q : PyData}, toPy a = some p → toPy b = some q → PyData.eqv p q = deq a b
  | .non, b, p, q, h1, h2 => by
    cases h1
    cases b <;> simp [toPy] at h2 <;> first | (subst h2; simp [PyData.eqv, deq]; done) | (obtain ⟨_, _, rfl⟩ := h2; simp [PyData.eqv, deq])
  | .bl _, b, p, q, h1, h2 => by
    cases h1
    cases b <;> simp [toPy] at h2 <;> first | (subst h2; simp [PyData.eqv, deq]; done) | (obtain ⟨_, _, rfl⟩ := h2; simp [PyData.eqv, deq])
  | .int _, b, p, q, h1, h2 => by
    cases h1
    cases b <;> simp [toPy] at h2 <;> first | (subst h2; simp [PyData.eqv, deq]; done) | (obtain ⟨_, _, rfl⟩ := h2; simp [PyData.eqv, deq])
  | .str _, b, p, q, h1, h2 => by
    cases h1
    cases b <;> simp [toPy] at h2 <;> first | (subst h2; simp [PyData.eqv, deq]; done) | (obtain ⟨_, _, rfl⟩ := h2; simp [PyData.eqv, deq])
  | .lst xs, b, p, q, h1, h2 => by
    simp only [toPy, Option.map_eq_some_iff] at h1
    obtain ⟨ps, e1, rfl⟩ := h1
    cases b with
    | lst ys =>
      simp only [toPy, Option.map_eq_some_iff] at h2
      obtain ⟨qs, e2, rfl⟩ := h2
      simp only [PyData.eqv, deq]
      exact deqL_py e1 e2
    | tup ys =>
      simp only [toPy, Option.map_eq_some_iff] at h2
      obtain ⟨qs, e2, rfl⟩ := h2
      simp [PyData.eqv, deq]
    | _ => simp [toPy] at h2 <;> (subst h2; simp [PyData.eqv, deq])
  | .tup xs, b, p, q, h1, h2 => by
    simp only [toPy, Option.map_eq_some_iff] at h1
    obtain ⟨ps, e1, rfl⟩ := h1
    cases b with
    | tup ys =>
      simp only [toPy, Option.map_eq_some_iff] at h2
      obtain ⟨qs, e2, rfl⟩ := h2
      simp only [PyData.eqv, deq]
      exact deqL_py e1 e2
    | lst ys =>
      simp only [toPy, Option.map_eq_some_iff] at h2
      obtain ⟨qs, e2, rfl⟩ := h2
      simp [PyData.eqv, deq]
    | _ => simp [toPy] at h2 <;> (subst h2; simp [PyData.eqv, deq])
  | .dic _ _, _, _, _, h, _ => by simp [toPy] at h
  | .ins _ _ _, _, _, _, h, _ => by simp [toPy] at h
  | .frz _, _, _, _, h, _ => by simp [toPy] at h
  | .loc _, _, _, _, h, _ => by simp [toPy] at h
  | .cls _, _, _, _, h, _ => by simp [toPy] at h
  | .ty _, _, _, _, h, _ => by simp [toPy] at h
theorem deqL_py : ∀ {a b : List D} {p q : List PyData}, toPyL a = some p → toPyL b = some q → PyData.eqvAll p q = deqL a b
  | [], b, p, q, h1, h2 => by
    cases h1
    cases b with
    | nil => cases h2; simp [PyData.eqvAll, deqL]
    | cons y ys =>
      simp only [toPyL] at h2
      split at h2
      · cases h2; simp [PyData.eqvAll, deqL]
      · cases h2
  | x :: xs, b, p, q, h1, h2 => by
    simp only [toPyL] at h1
    split at h1
    · rename_i p1 ps e1 e2
      cases h1
      cases b with
      | nil => cases h2; simp [PyData.eqvAll, deqL]
      | cons y ys =>
        simp only [toPyL] at h2
        split at h2
        · rename_i q1 qs f1 f2
          cases h2
          simp only [PyData.eqvAll, deqL]
          rw [deq_py e1 f1, deqL_py e2 f2]
        · cases h2
    · cases h1
end
theorem shaped_of {p : PyData} {n : Nat} (h : n ≤ 60) (c : p.canLay0 = true) (l : p.depth ≤ n) : SeqAt.shaped p = true := by
  unfold SeqAt.shaped
  rw [c]
  simp
  omega
theorem oEqB_pl {neg : Bool} {m n : Nat} {a b : D} (ha : plD m a = true) (hb : plD n b = true) (hm : m ≤ 60) (hn : n ≤ 60) : oEqB neg a b = some (.bl (neg != deq a b)) := by
  obtain ⟨p, e1, c1, l1⟩ := pl_py ha
  obtain ⟨q, e2, c2, l2⟩ := pl_py hb
  unfold oEqB
  rw [e1, e2]
  dsimp only
  rw [if_pos ⟨shaped_of hm c1 l1, shaped_of hn c2 l2⟩, deq_py e1 e2]
theorem oEq_pl {a b : D} (ha : plD 20 a = true) (hb : plD 20 b = true) : oEq a b = some (.bl (deq a b)) := by
  have := oEqB_pl (neg := false) ha hb (by decide) (by decide)
  simpa [oEq] using this
theorem oNe_pl {a b : D} (ha : plD 20 a = true) (hb : plD 20 b = true) : oNe a b = some (.bl (!deq a b)) := by
  have := oEqB_pl (neg := true) ha hb (by decide) (by decide)
  simpa [oNe] using this
mutual
theorem deq_self : ∀ {n : Nat} {d : D}, plD n d = true → deq d d = true
  | _, .non, _ => rfl
  | _, .bl _, _ => by simp [deq]
  | _, .int _, _ => by simp [deq]
  | _, .str _, _ => by simp [deq]
  | n + 1, .lst ds, h => by simpa [deq] using deqL_self (n := n) (by simpa [plD] using h)
  | n + 1, .tup ds, h => by simpa [deq] using deqL_self (n := n) (by simpa [plD] using h)
  | 0, .lst _, h => by simp [plD] at h
  | 0, .tup _, h => by simp [plD] at h
  | n, .dic _ _, h => by simp [plD] at h
  | n, .ins _ _ _, h => by simp [plD] at h
  | n, .frz _, h => by simp [plD] at h
  | n, .loc _, h => by simp [plD] at h
  | n, .cls _, h => by simp [plD] at h
  | n, .ty _, h => by simp [plD] at h
theorem deqL_self : ∀ {n : Nat} {ds : List D}, plL n ds = true → deqL ds ds = true
  | _, [], _ => by simp [deqL]
  | n, d :: ds, h => by
    simp only [plL, Bool.and_eq_true] at h
    simp [deqL, deq_self h.1, deqL_self h.2]
end
theorem oNe_self {d : D} (h : plD 20 d = true) : oNe d d = some (.bl false) := by
  rw [oNe_pl h h, deq_self h]
  rfl
theorem oEq_self {d : D} (h : plD 20 d = true) : oEq d d = some (.bl true) := by
  rw [oEq_pl h h, deq_self h]
theorem plL_map {α : Type} {n : Nat} {f : α → D} {xs : List α} (h : ∀ x ∈ xs, plD n (f x) = true) : plL n (xs.map f) = true := by
  induction xs with
  | nil => rfl
  | cons x xs ih => simp [plL, h x List.mem_cons_self, ih fun y hy => h y (List.mem_cons_of_mem _ hy)]
theorem plL_int {n : Nat} {r : List Int} : plL n (r.map D.int) = true := plL_map fun _ _ => by simp [plD]
theorem plL_all {n : Nat} {ds : List D} : plL n ds = true ↔ ∀ d ∈ ds, plD n d = true := by
  induction ds with
  | nil => simp [plL]
  | cons d ds ih => simp [plL, ih]
theorem plL_app {n : Nat} {ds es : List D} (h1 : plL n ds = true) (h2 : plL n es = true) : plL n (ds ++ es) = true := by
  rw [plL_all] at *
  intro d hd
  rcases List.mem_append.mp hd with hd | hd
  · exact h1 d hd
  · exact h2 d hd
mutual
theorem pl_nl : ∀ {n : Nat} {d : D}, plD n d = true → noLoc d = true
  | _, .non, _ => rfl
  | _, .bl _, _ => rfl
  | _, .int _, _ => rfl
  | _, .str _, _ => rfl
  | n + 1, .lst ds, h => by simpa [noLoc] using plL_nl (n := n) (by simpa [plD] using h)
  | n + 1, .tup ds, h => by simpa [noLoc] using plL_nl (n := n) (by simpa [plD] using h)
  | 0, .lst _, h => by simp [plD] at h
  | 0, .tup _, h => by simp [plD] at h
  | n, .dic _ _, h => by simp [plD] at h
  | n, .ins _ _ _, h => by simp [plD] at h
  | n, .frz _, h => by simp [plD] at h
  | n, .loc _, h => by simp [plD] at h
  | n, .cls _, h => by simp [plD] at h
  | n, .ty _, h => by simp [plD] at h
theorem plL_nl : ∀ {n : Nat} {ds : List D}, plL n ds = true → noLocL ds = true
  | _, [], _ => rfl
  | n, d :: ds, h => by
    simp only [plL, Bool.and_eq_true] at h
    simp [noLocL, pl_nl h.1, plL_nl h.2]
end
end FL

set_option Elab.async false
set_option linter.all false
set_option maxRecDepth 100000
set_option maxHeartbeats 1000000
namespace FL
open PySem PySem.Spec PyProof.Rows L2 DL
section
variable {K : PySem.W.Frag} {mg : Str → Option Value}
/-- the table may name classes that the text doesn't have -/
theorem isC_mk2 {C : Addr} {Cn : Str} {tb : List (Str × Bool)} (k1 : PySem.W.isClsIn K C = true) (k2 : PySem.W.typeIn K (.ref C) = some (.type "type")) (N : NotT K C)
    (hC : ∀ n b, tb.lookup n = some b → (∃ c, ClsF K mg c n ∧ PySem.W.subIn K (.ref c) (.ref C) = some b ∧ (c = C → b = true)) ∨ mg n = none) : IsiC K mg C (isC tb) := by
  refine ⟨fun G H v d b sm r h => ?_⟩
  have dat : ∀ n, tyD d = some n → b = false → ∃ t, TyX K H v t ∧ PySem.W.kitOne K t (.ref C) = some b := fun n hn hb => by
    subst hb
    exact ⟨_, rp_tyX sm r hn, kit_two k1 k2 (N.no n (tyD_in hn)) fun z => nomatch z⟩
  cases d with
  | ins n ns ds =>
    rcases hC n b h with ⟨c, F, h1, h2⟩ | no
    · exact ⟨_, F.ty sm r, kit_two k1 k2 h1 fun z => h2 (by injection z)⟩
    · cases r with
      | ins hm hg hl hr =>
        rw [no] at hm
        cases hm
  | loc _ => simp [isC, tyD] at h
  | cls _ => simp [isC, tyD] at h
  | ty _ => simp [isC, tyD] at h
  | _ => cases h; exact dat _ rfl rfl
end
end FL

set_option Elab.async false
set_option linter.all false
set_option maxRecDepth 100000
set_option maxHeartbeats 4000000
namespace PD
open PySem PySem.Spec PyProof.Rows L2 DL FL 
def ys_SIDES : List Str := ["top", "right", "bottom", "left"]
def tab_DIRECTIONS : List (Str × D) := [("top", .int 0), ("bottom", .int 0), ("right", .int 1), ("left", .int 1)]
def isc_Picture : List (Str × Bool) := [("Picture", true), ("Symmetry", false)]
def isc_Symmetry : List (Str × Bool) := [("Picture", false), ("Symmetry", true)]
def p_is_whole : fS := (fRet (fAndV (fIsi [.int] (fVar 0)) (fNotV (fIsi [.bool] (fVar 0)))))
def e_is_whole : fF := fBody p_is_whole 0
def p_is_count : fS := (fRet (fAndV (fCall e_is_whole 1 [] (fCons (fVar 0) fNil)) (fBin oGe (fVar 0) (fC (.int 0)))))
def e_is_count : fF := fBody p_is_count 0
def p_is_colour : fS := (fRet (fCall e_is_count 1 [] (fCons (fVar 0) fNil)))
def e_is_colour : fF := fBody p_is_colour 0
def p_is_side : fS := (fRet (fAndV (fIsi [.str] (fVar 0)) (fBin oIn (fVar 0) (fC (.tup [.str "top", .str "right", .str "bottom", .str "left"])))))
def e_is_side : fF := fBody p_is_side 0
def p_check_colour : fS := (fIfS (fNot (fTest (fCall e_is_colour 1 [] (fCons (fVar 0) fNil)))) (fRaise "InvalidColour" "value" (fCons (fVar 0) fNil)) fNext)
def e_check_colour : fF := fBody p_check_colour 0
def p_check_side : fS := (fIfS (fNot (fTest (fCall e_is_side 1 [] (fCons (fVar 0) fNil)))) (fRaise "InvalidSide" "value" (fCons (fVar 0) fNil)) fNext)
def e_check_side : fF := fBody p_check_side 0
def p_check_count : fS := (fIfS (fNot (fTest (fCall e_is_count 1 [] (fCons (fVar 0) fNil)))) (fRaise "InvalidCount" "value" (fCons (fVar 0) fNil)) fNext)
def e_check_count : fF := fBody p_check_count 0
def p_check_length : fS := (fIfS (fOr (fNot (fTest (fCall e_is_count 1 [] (fCons (fVar 0) fNil)))) (fTest (fBin oEq (fVar 0) (fC (.int 0))))) (fRaise "InvalidCount" "value" (fCons (fVar 0) fNil)) fNext)
def e_check_length : fF := fBody p_check_length 0
def p_turned_rows : fS := (fSeq (fSet 1 (fBack (fVar 0))) (fRet (fZip (fVar 1))))
def e_turned_rows : fF := fBody p_turned_rows 1
def p_mirrored_rows : fS := (fRet (fFn lTuple (fCons (fLc (iSq (fVar 0)) (fGn 1) fYes (fBack (fVar 1)) [1]) fNil)))
def e_mirrored_rows : fF := fBody p_mirrored_rows 1
def p_is_last_line : fS := (fSeq (fIfS (fTest (fBin oIn (fVar 1) (fTup (fCons (fC (.str "top")) (fCons (fC (.str "bottom")) fNil))))) (fRet (fBin oEq (fFn lLen (fCons (fVar 0) fNil)) (fC (.int 1)))) fNext) (fRet (fBin oEq (fFn lLen (fCons (fBin oIx (fVar 0) (fC (.int 0))) fNil)) (fC (.int 1)))))
def e_is_last_line : fF := fBody p_is_last_line 0
def p_cut_rows : fS := (fSeq (fIfS (fTest (fBin oEq (fVar 1) (fC (.str "top")))) (fRet (fSl (fVar 0) (fPs (fC (.int 1))) fPn)) fNext) (fSeq (fIfS (fTest (fBin oEq (fVar 1) (fC (.str "bottom")))) (fRet (fSl (fVar 0) fPn (fPs (fNeg (fC (.int 1)))))) fNext) (fSeq (fIfS (fTest (fBin oEq (fVar 1) (fC (.str "left")))) (fRet (fFn lTuple (fCons (fLc (iSq (fVar 0)) (fGn 2) fYes (fSl (fVar 2) (fPs (fC (.int 1))) fPn) [2]) fNil))) fNext) (fRet (fFn lTuple (fCons (fLc (iSq (fVar 0)) (fGn 2) fYes (fSl (fVar 2) fPn (fPs (fNeg (fC (.int 1))))) [2]) fNil))))))
def e_cut_rows : fF := fBody p_cut_rows 1
def p_added_rows : fS := (fSeq (fIfS (fTest (fBin oEq (fVar 1) (fC (.str "left")))) (fRet (fFn lTuple (fCons (fLc (iSq (fVar 0)) (fGn 4) fYes (fBin oAdd (fTup (fCons (fVar 2) fNil)) (fVar 4)) [4]) fNil))) fNext) (fSeq (fIfS (fTest (fBin oEq (fVar 1) (fC (.str "right")))) (fRet (fFn lTuple (fCons (fLc (iSq (fVar 0)) (fGn 4) fYes (fBin oAdd (fVar 4) (fTup (fCons (fVar 2) fNil))) [4]) fNil))) fNext) (fSeq (fSet 3 (fBin oMul1 (fTup (fCons (fVar 2) fNil)) (fFn lLen (fCons (fBin oIx (fVar 0) (fC (.int 0))) fNil)))) (fSeq (fIfS (fTest (fBin oEq (fVar 1) (fC (.str "top")))) (fRet (fBin oAdd (fTup (fCons (fVar 3) fNil)) (fVar 0))) fNext) (fRet (fBin oAdd (fVar 0) (fTup (fCons (fVar 3) fNil))))))))
def e_added_rows : fF := fBody p_added_rows 2
def p_is_row : fS := (fSeq (fIfS (fOr (fNot (fTest (fIsi [.list, .tuple] (fVar 0)))) (fTest (fBin oEq (fFn lLen (fCons (fVar 0) fNil)) (fC (.int 0))))) (fRet (fC (.bl false))) fNext) (fRet (fFn lAll (fCons (fLc (iSq (fVar 0)) (fGn 1) fYes (fCall e_is_colour 1 [] (fCons (fVar 1) fNil)) [1]) fNil))))
def e_is_row : fF := fBody p_is_row 1
def p_is_grid : fS := (fSeq (fIfS (fOr (fNot (fTest (fIsi [.list, .tuple] (fVar 0)))) (fTest (fBin oEq (fFn lLen (fCons (fVar 0) fNil)) (fC (.int 0))))) (fRet (fC (.bl false))) fNext) (fSeq (fIfS (fNot (fTest (fFn lAll (fCons (fLc (iSq (fVar 0)) (fGn 1) fYes (fCall e_is_row 1 [] (fCons (fVar 1) fNil)) [1]) fNil)))) (fRet (fC (.bl false))) fNext) (fRet (fFn lAll (fCons (fLc (iSq (fVar 0)) (fGn 1) fYes (fBin oEq (fFn lLen (fCons (fVar 1) fNil)) (fFn lLen (fCons (fBin oIx (fVar 0) (fC (.int 0))) fNil))) [1]) fNil)))))
def e_is_grid : fF := fBody p_is_grid 1
def p_Picture_init_ : fS := (fSeq (fIfS (fNot (fTest (fCall e_is_grid 1 [] (fCons (fVar 1) fNil)))) (fRaise "InvalidPicture" "value" (fCons (fVar 1) fNil)) fNext) (fFldS "Picture" "_rows" (fVar 0) (fFn lTuple (fCons (fLc (iSq (fVar 1)) (fGn 2) fYes (fFn lTuple (fCons (fVar 2) fNil)) [2]) fNil))))
def e_Picture_init_ : fF := fBody p_Picture_init_ 1
def p_Picture_rows : fS := (fRet (fFld "Picture" "_rows" (fVar 0)))
def e_Picture_rows : fF := fBody p_Picture_rows 0
def p_Picture_height : fS := (fRet (fFn lLen (fCons (fFld "Picture" "_rows" (fVar 0)) fNil)))
def e_Picture_height : fF := fBody p_Picture_height 0
def p_Picture_width : fS := (fRet (fFn lLen (fCons (fBin oIx (fFld "Picture" "_rows" (fVar 0)) (fC (.int 0))) fNil)))
def e_Picture_width : fF := fBody p_Picture_width 0
def p_Picture_turned : fS := (fRet (fMake "Picture" e_Picture_init_ 2 [] (fCons (fCall e_turned_rows 1 [] (fCons (fFld "Picture" "_rows" (fVar 0)) fNil)) fNil)))
def e_Picture_turned : fF := fBody p_Picture_turned 0
def p_Picture_mirrored : fS := (fRet (fMake "Picture" e_Picture_init_ 2 [] (fCons (fCall e_mirrored_rows 1 [] (fCons (fFld "Picture" "_rows" (fVar 0)) fNil)) fNil)))
def e_Picture_mirrored : fF := fBody p_Picture_mirrored 0
def p_Picture_cut : fS := (fSeq (fDrop (fCall e_check_side 1 [] (fCons (fVar 1) fNil))) (fSeq (fIfS (fTest (fCall e_is_last_line 2 [] (fCons (fFld "Picture" "_rows" (fVar 0)) (fCons (fVar 1) fNil)))) (fRaise "LastLine" "index" (fCons (fC (.int 0)) fNil)) fNext) (fRet (fMake "Picture" e_Picture_init_ 2 [] (fCons (fCall e_cut_rows 2 [] (fCons (fFld "Picture" "_rows" (fVar 0)) (fCons (fVar 1) fNil))) fNil)))))
def e_Picture_cut : fF := fBody p_Picture_cut 0
def p_Picture_added : fS := (fSeq (fDrop (fCall e_check_side 1 [] (fCons (fVar 1) fNil))) (fSeq (fDrop (fCall e_check_colour 1 [] (fCons (fVar 2) fNil))) (fRet (fMake "Picture" e_Picture_init_ 2 [] (fCons (fCall e_added_rows 3 [] (fCons (fFld "Picture" "_rows" (fVar 0)) (fCons (fVar 1) (fCons (fVar 2) fNil)))) fNil)))))
def e_Picture_added : fF := fBody p_Picture_added 0
def p_Picture_line : fS := (fSeq (fDrop (fCall e_check_side 1 [] (fCons (fVar 1) fNil))) (fSeq (fIfS (fTest (fBin oEq (fVar 1) (fC (.str "top")))) (fRet (fBin oIx (fFld "Picture" "_rows" (fVar 0)) (fC (.int 0)))) fNext) (fSeq (fIfS (fTest (fBin oEq (fVar 1) (fC (.str "bottom")))) (fRet (fBin oIx (fFld "Picture" "_rows" (fVar 0)) (fNeg (fC (.int 1))))) fNext) (fSeq (fIfS (fTest (fBin oEq (fVar 1) (fC (.str "left")))) (fRet (fFn lTuple (fCons (fLc (iSq (fFld "Picture" "_rows" (fVar 0))) (fGn 2) fYes (fBin oIx (fVar 2) (fC (.int 0))) [2]) fNil))) fNext) (fRet (fFn lTuple (fCons (fLc (iSq (fFld "Picture" "_rows" (fVar 0))) (fGn 2) fYes (fBin oIx (fVar 2) (fNeg (fC (.int 1)))) [2]) fNil)))))))
def e_Picture_line : fF := fBody p_Picture_line 1
def p_check_picture : fS := (fIfS (fNot (fTest (fIsC isc_Picture (fVar 0)))) (fRaise "InvalidPicture" "value" (fCons (fVar 0) fNil)) fNext)
def e_check_picture : fF := fBody p_check_picture 0
def p_Symmetry_init_ : fS := (fSeq (fIfS (fOr (fNot (fTest (fCall e_is_count 1 [] (fCons (fVar 1) fNil)))) (fTest (fBin oGt (fVar 1) (fC (.int 3))))) (fRaise "InvalidSymmetry" "value" (fCons (fVar 1) fNil)) fNext) (fSeq (fIfS (fNot (fTest (fIsi [.bool] (fVar 2)))) (fRaise "InvalidSymmetry" "value" (fCons (fVar 2) fNil)) fNext) (fSeq (fFldS "Symmetry" "_turns" (fVar 0) (fVar 1)) (fFldS "Symmetry" "_mirrors" (fVar 0) (fVar 2)))))
def e_Symmetry_init_ : fF := fBody p_Symmetry_init_ 0
def p_Symmetry_turns : fS := (fRet (fFld "Symmetry" "_turns" (fVar 0)))
def e_Symmetry_turns : fF := fBody p_Symmetry_turns 0
def p_Symmetry_mirrors : fS := (fRet (fFld "Symmetry" "_mirrors" (fVar 0)))
def e_Symmetry_mirrors : fF := fBody p_Symmetry_mirrors 0
def p_Symmetry_mul_ : fS := (fSeq (fIfS (fNot (fTest (fIsC isc_Symmetry (fVar 1)))) fDeadS fNext) (fSeq (fSet 2 (fIf (fTest (fFld "Symmetry" "_mirrors" (fVar 1))) (fNeg (fFld "Symmetry" "_turns" (fVar 0))) (fFld "Symmetry" "_turns" (fVar 0)))) (fRet (fMake "Symmetry" e_Symmetry_init_ 3 [] (fCons (fBin oMod (fBin oAdd (fFld "Symmetry" "_turns" (fVar 1)) (fVar 2)) (fC (.int 4))) (fCons (fBin oNe (fFld "Symmetry" "_mirrors" (fVar 0)) (fFld "Symmetry" "_mirrors" (fVar 1))) fNil))))))
def e_Symmetry_mul_ : fF := fBody p_Symmetry_mul_ 1
def p_Symmetry_inverse : fS := (fSeq (fIfS (fTest (fFld "Symmetry" "_mirrors" (fVar 0))) (fRet (fMake "Symmetry" e_Symmetry_init_ 3 [] (fCons (fFld "Symmetry" "_turns" (fVar 0)) (fCons (fC (.bl true)) fNil)))) fNext) (fRet (fMake "Symmetry" e_Symmetry_init_ 3 [] (fCons (fBin oMod (fNeg (fFld "Symmetry" "_turns" (fVar 0))) (fC (.int 4))) (fCons (fC (.bl false)) fNil)))))
def e_Symmetry_inverse : fF := fBody p_Symmetry_inverse 0
def p_Symmetry_side : fS := (fSeq (fDrop (fCall e_check_side 1 [] (fCons (fVar 1) fNil))) (fSeq (fSet 2 (fTidx ys_SIDES (fVar 1))) (fSeq (fIfS (fTest (fFld "Symmetry" "_mirrors" (fVar 0))) (fSet 2 (fNeg (fVar 2))) fNext) (fRet (fBin oIx (fC (.tup [.str "top", .str "right", .str "bottom", .str "left"])) (fBin oMod (fBin oAdd (fVar 2) (fFld "Symmetry" "_turns" (fVar 0))) (fC (.int 4))))))))
def e_Symmetry_side : fF := fBody p_Symmetry_side 1
def p_moved_rows : fS := (fSeq (fIfS (fTest (fProp "Symmetry" e_Symmetry_mirrors (fVar 1))) (fSet 0 (fCall e_mirrored_rows 1 [] (fCons (fVar 0) fNil))) fNext) (fSeq (fFor (iR1 (fCons (fProp "Symmetry" e_Symmetry_turns (fVar 1)) fNil)) (fGn 2) (fSet 0 (fCall e_turned_rows 1 [] (fCons (fVar 0) fNil)))) (fRet (fVar 0))))
def e_moved_rows : fF := fBody p_moved_rows 1
def p_Symmetry_apply : fS := (fSeq (fDrop (fCall e_check_picture 1 [] (fCons (fVar 1) fNil))) (fRet (fMake "Picture" e_Picture_init_ 2 [] (fCons (fCall e_moved_rows 2 [] (fCons (fProp "Picture" e_Picture_rows (fVar 1)) (fCons (fVar 0) fNil))) fNil))))
def e_Symmetry_apply : fF := fBody p_Symmetry_apply 0
def p_is_step : fS := (fSeq (fIfS (fOr (fNot (fTest (fIsi [.tuple] (fVar 0)))) (fTest (fBin oEq (fFn lLen (fCons (fVar 0) fNil)) (fC (.int 0))))) (fRet (fC (.bl false))) fNext) (fSeq (fSet 1 (fBin oIx (fVar 0) (fC (.int 0)))) (fSeq (fIfS (fTest (fBin oIn (fVar 1) (fTup (fCons (fC (.str "turn")) (fCons (fC (.str "mirror")) fNil))))) (fRet (fBin oEq (fFn lLen (fCons (fVar 0) fNil)) (fC (.int 1)))) fNext) (fSeq (fIfS (fTest (fBin oEq (fVar 1) (fC (.str "cut")))) (fRet (fAndV (fBin oEq (fFn lLen (fCons (fVar 0) fNil)) (fC (.int 2))) (fCall e_is_side 1 [] (fCons (fBin oIx (fVar 0) (fC (.int 1))) fNil)))) fNext) (fSeq (fIfS (fTest (fBin oEq (fVar 1) (fC (.str "add")))) (fRet (fAndV (fBin oEq (fFn lLen (fCons (fVar 0) fNil)) (fC (.int 3))) (fAndV (fCall e_is_side 1 [] (fCons (fBin oIx (fVar 0) (fC (.int 1))) fNil)) (fCall e_is_colour 1 [] (fCons (fBin oIx (fVar 0) (fC (.int 2))) fNil))))) fNext) (fRet (fC (.bl false))))))))
def e_is_step : fF := fBody p_is_step 1
def p_check_steps : fS := (fSeq (fIfS (fOr (fNot (fTest (fIsi [.list, .tuple] (fVar 0)))) (fTest (fBin oGt (fFn lLen (fCons (fVar 0) fNil)) (fC (.int 200))))) (fRaise "InvalidSequence" "index" (fCons (fC .non) fNil)) fNext) (fFor (iEn (fVar 0)) (fGt 2 (fGc (fGn 1) (fGc (fGn 2) fGl))) (fIfS (fNot (fTest (fCall e_is_step 1 [] (fCons (fVar 2) fNil)))) (fRaise "InvalidSequence" "index" (fCons (fVar 1) fNil)) fNext)))
def e_check_steps : fF := fBody p_check_steps 2
def p_rows_after : fS := (fSeq (fSet 3 (fBin oIx (fVar 1) (fC (.int 0)))) (fSeq (fIfS (fTest (fBin oEq (fVar 3) (fC (.str "turn")))) (fRet (fCall e_turned_rows 1 [] (fCons (fVar 0) fNil))) fNext) (fSeq (fIfS (fTest (fBin oEq (fVar 3) (fC (.str "mirror")))) (fRet (fCall e_mirrored_rows 1 [] (fCons (fVar 0) fNil))) fNext) (fSeq (fSet 4 (fBin oIx (fVar 1) (fC (.int 1)))) (fSeq (fIfS (fTest (fBin oEq (fVar 3) (fC (.str "add")))) (fRet (fCall e_added_rows 3 [] (fCons (fVar 0) (fCons (fVar 4) (fCons (fBin oIx (fVar 1) (fC (.int 2))) fNil))))) fNext) (fSeq (fIfS (fTest (fCall e_is_last_line 2 [] (fCons (fVar 0) (fCons (fVar 4) fNil)))) (fRaise "LastLine" "index" (fCons (fVar 2) fNil)) fNext) (fRet (fCall e_cut_rows 2 [] (fCons (fVar 0) (fCons (fVar 4) fNil))))))))))
def e_rows_after : fF := fBody p_rows_after 2
def p_run : fS := (fSeq (fDrop (fCall e_check_picture 1 [] (fCons (fVar 0) fNil))) (fSeq (fDrop (fCall e_check_steps 1 [] (fCons (fVar 1) fNil))) (fSeq (fSet 2 (fProp "Picture" e_Picture_rows (fVar 0))) (fSeq (fFor (iEn (fVar 1)) (fGt 2 (fGc (fGn 3) (fGc (fGn 4) fGl))) (fSet 2 (fCall e_rows_after 3 [] (fCons (fVar 2) (fCons (fVar 4) (fCons (fVar 3) fNil)))))) (fRet (fMake "Picture" e_Picture_init_ 2 [] (fCons (fVar 2) fNil)))))))
def e_run : fF := fBody p_run 3
def p_upright_moves : fS := (fSeq (fSet 1 (fMake0 "Symmetry" e_Symmetry_init_ 3 [.int 0, .bl false])) (fSeq (fSet 2 (fLstO fNil)) (fSeq (fFor (iEn (fVar 0)) (fGt 2 (fGc (fGn 3) (fGc (fGn 4) fGl))) (fIfS (fTest (fBin oEq (fBin oIx (fVar 4) (fC (.int 0))) (fC (.str "turn")))) (fSet 1 (fOpI "Symmetry" e_Symmetry_mul_ (fVar 1) (fMake "Symmetry" e_Symmetry_init_ 3 [.bl false] (fCons (fC (.int 1)) fNil)))) (fIfS (fTest (fBin oEq (fBin oIx (fVar 4) (fC (.int 0))) (fC (.str "mirror")))) (fSet 1 (fOpI "Symmetry" e_Symmetry_mul_ (fVar 1) (fMake "Symmetry" e_Symmetry_init_ 3 [] (fCons (fC (.int 0)) (fCons (fC (.bl true)) fNil))))) (fSeq (fSet 5 (fMeth "Symmetry" "side" e_Symmetry_side 2 [] (fMeth0 "Symmetry" "inverse" e_Symmetry_inverse 1 [] (fVar 1)) (fCons (fBin oIx (fVar 4) (fC (.int 1))) fNil))) (fDrop (fApp (fVar 2) (fTup (fCons (fVar 3) (fCons (fVar 5) (fCons (fIf (fTest (fBin oEq (fBin oIx (fVar 4) (fC (.int 0))) (fC (.str "add")))) (fBin oIx (fVar 4) (fC (.int 2))) (fC .non)) fNil)))))))))) (fRet (fTup (fCons (fVar 1) (fCons (fFrz (fVar 2)) fNil)))))))
def e_upright_moves : fF := fBody p_upright_moves 5
def p_running_size : fS := (fSeq (fDrop (fCall e_check_steps 1 [] (fCons (fVar 0) fNil))) (fSeq (fAsg (fCall e_upright_moves 1 [] (fCons (fVar 0) fNil)) (fGt 2 (fGc (fGn 1) (fGc (fGn 2) fGl)))) (fSeq (fSet 3 (fLstO (fCons (fC (.int 1)) (fCons (fC (.int 1)) fNil)))) (fSeq (fSet 4 (fLstO (fCons (fC (.int 0)) (fCons (fC (.int 0)) fNil)))) (fSeq (fFor (iSq (fVar 2)) (fGt 3 (fGc (fGn 1) (fGc (fGn 5) (fGc (fGn 6) fGl)))) (fSeq (fSet 7 (fKix tab_DIRECTIONS (fVar 5))) (fIfS (fTest (fBin oNotN (fVar 6) (fC .non))) (fAugS (fun i j => i + j) (fVar 4) (fVar 7) (fC (.int 1))) (fSeq (fAsg (fFn lMax (fCons (fIxO (fVar 3) (fVar 7)) (fCons (fBin oSub (fC (.int 2)) (fIxO (fVar 4) (fVar 7))) fNil))) (fGsub (fVar 3) (fVar 7))) (fAugS (fun i j => i - j) (fVar 4) (fVar 7) (fC (.int 1))))))) (fRet (fFn lTuple (fCons (fFrz (fVar 3)) fNil))))))))
def e_running_size : fF := fBody p_running_size 7
end PD

set_option Elab.async false
set_option linter.all false
set_option maxRecDepth 100000
set_option maxHeartbeats 4000000
/-! grids, steps: what the program makes of them, in plain words -/
namespace TP
open PySem PySem.Spec PyProof.Rows L2 DL FL PD
abbrev Grid := List (List Int)
abbrev tR (r : List Int) : D := .tup (r.map .int)
abbrev lR (r : List Int) : D := .lst (r.map .int)
abbrev tG (g : Grid) : D := .tup (g.map tR)
abbrev lG (g : Grid) : D := .lst (g.map lR)
/-- so many rows, so many columns -/
structure Rect (h w : Nat) (g : Grid) : Prop where
  h : g.length = h
  w : ∀ r ∈ g, r.length = w
inductive Sd | top | right | bottom | left
deriving DecidableEq
@[reducible] def Sd.s : Sd → Str
  | .top => "top"
  | .right => "right"
  | .bottom => "bottom"
  | .left => "left"
@[reducible] def Sd.d (s : Sd) : D := .str s.s
inductive Sp | turn | mir | cut (s : Sd) | add (s : Sd) (c : Int)
@[reducible] def Sp.d : Sp → D
  | .turn => .tup [.str "turn"]
  | .mir => .tup [.str "mirror"]
  | .cut s => .tup [.str "cut", s.d]
  | .add s c => .tup [.str "add", s.d, .int c]
/-! what a step makes of a grid -/
def turnG (w : Nat) (g : Grid) : Grid := (List.range w).map fun j => g.reverse.map fun r => r.getD j 0
def mirG (g : Grid) : Grid := g.map List.reverse
def cutG : Sd → Grid → Grid
  | .top, g => g.drop 1
  | .bottom, g => g.take (g.length - 1)
  | .left, g => g.map fun r => r.drop 1
  | .right, g => g.map fun r => r.take (r.length - 1)
def addG (w : Nat) (c : Int) : Sd → Grid → Grid
  | .top, g => List.replicate w c :: g
  | .bottom, g => g ++ [List.replicate w c]
  | .left, g => g.map fun r => c :: r
  | .right, g => g.map fun r => r ++ [c]
/-! .. and of its size -/
theorem Rect.turn {h w : Nat} {g : Grid} (k : Rect h w g) : Rect w h (turnG w g) := by
  refine ⟨by simp [turnG], fun r hr => ?_⟩
  simp only [turnG, List.mem_map] at hr
  obtain ⟨j, _, rfl⟩ := hr
  simp [k.h]
theorem Rect.mir {h w : Nat} {g : Grid} (k : Rect h w g) : Rect h w (mirG g) := by
  refine ⟨by simp [mirG, k.h], fun r hr => ?_⟩
  simp only [mirG, List.mem_map] at hr
  obtain ⟨q, hq, rfl⟩ := hr
  simp [k.w q hq]
theorem Rect.head {h w : Nat} {g : Grid} (k : Rect h w g) (hh : 1 ≤ h) : ∃ r rs, g = r :: rs ∧ r.length = w := by
  cases g with
  | nil =>
    have := k.h
    simp at this
    omega
  | cons r rs => exact ⟨r, rs, rfl, k.w r List.mem_cons_self⟩
theorem tupsOf_tR (g : Grid) : tupsOf (g.map tR) = some (g.map fun r => r.map D.int) := by
  induction g with
  | nil => rfl
  | cons r g ih =>
    show (tupsOf (g.map tR)).map (r.map D.int :: ·) = _
    rw [ih]
    rfl
theorem getD_int {r : List Int} {j : Nat} (h : j < r.length) : (r.map D.int).getD j .non = .int (r.getD j 0) := by
  simp [List.getD, h]
/-- tuple(zip(*rows)) of upside-down rows -/
theorem zipR_tG {h w : Nat} {g : Grid} (k : Rect h w g) (hh : 1 ≤ h) (h1 : h ≤ 1000) (hw : 1 ≤ w) (w1 : w ≤ 1000000) : zipR ((g.map tR).reverse) = some (tG (turnG w g)) := by
  rw [← List.map_reverse]
  unfold zipR
  rw [tupsOf_tR]
  have kr : Rect h w g.reverse := ⟨by simp [k.h], fun r hr => k.w r (List.mem_reverse.mp hr)⟩
  obtain ⟨r, rs, e, l⟩ := kr.head hh
  have kl : (r :: rs).length = h := by rw [← e]; exact kr.h
  rw [e]
  simp only [List.map_cons]
  rw [if_pos]
  · congr 2
    simp only [tG, turnG, e, List.length_map, l, List.map_map]
    first | apply List.map_congr_left | (refine congrArg D.tup ?_; apply List.map_congr_left)
    intro j hj
    have hj' : j < w := List.mem_range.mp hj
    simp only [Function.comp, tR, List.map_cons, List.map_map, D.tup.injEq, List.cons.injEq]
    refine ⟨getD_int (by omega), ?_⟩
    apply List.map_congr_left
    intro q hq
    exact getD_int (by rw [kr.w q (by rw [e]; exact List.mem_cons_of_mem _ hq)]; exact hj')
  · refine ⟨by simpa [kl] using (by simp at kl; omega : rs.length + 1 ≤ 1000), by rw [List.length_map]; omega, by rw [List.length_map]; omega, fun q hq => ?_⟩
    simp only [List.mem_cons, List.mem_map] at hq
    rcases hq with rfl | ⟨q', hq', rfl⟩
    · rfl
    · rw [List.length_map, List.length_map, l, kr.w q' (by rw [e]; exact List.mem_cons_of_mem _ hq')]
end TP
namespace FL
open PySem PySem.Spec PyProof.Rows L2 DL
theorem wp_zip {m : fE} {ρ : Rho} {st : St} {Q : D → St → Prop} {X : Exn → St → Prop} (k : (m ρ st).wp (fun d s => ∃ ds y, seqOf d = some ds ∧ zipR ds = some y ∧ Q y s) X) : (fZip m ρ st).wp Q X := by
  refine Res.bind2 k fun d s k => ?_
  obtain ⟨ds, y, h1, h2, q⟩ := k
  rw [h1]
  dsimp only
  rw [h2]
  exact .ok q
theorem cut_first {r : List D} : DL.cutD r (some 1) none = r.drop 1 := by
  unfold DL.cutD
  rw [HT.sIx_none]
  have h : HT.sIx r.length 0 (some 1) = min 1 r.length := HT.sIx_nat r.length 0 1
  rw [h]
  cases r with
  | nil => rfl
  | cons a r =>
    have z : min 1 (a :: r).length = 1 := by simp
    rw [z, List.take_of_length_le]
    simp
theorem cut_last {r : List D} : DL.cutD r none (some (-1)) = r.take (r.length - 1) := by
  unfold DL.cutD
  rw [HT.sIx_none]
  have e : HT.sIx r.length r.length (some (-1)) = r.length - 1 := by
    show (if (-1 : Int) < 0 then (-1 + (r.length : Int)).toNat else min (-1 : Int).toNat r.length) = _
    rw [if_pos (by decide)]
    omega
  rw [e, Nat.sub_zero, List.drop_zero]
theorem oCut_t1 {r : List D} : oCut (.tup r) (some 1) none = some (.tup (r.drop 1)) := congrArg (fun x => some (D.tup x)) cut_first
theorem oCut_t9 {r : List D} : oCut (.tup r) none (some (-1)) = some (.tup (r.take (r.length - 1))) := congrArg (fun x => some (D.tup x)) cut_last
theorem oCut_l1 {r : List D} : oCut (.lst r) (some 1) none = some (.lst (r.drop 1)) := congrArg (fun x => some (D.lst x)) cut_first
theorem oCut_l9 {r : List D} : oCut (.lst r) none (some (-1)) = some (.lst (r.take (r.length - 1))) := congrArg (fun x => some (D.lst x)) cut_last
theorem oAdd_tt {x y : List D} (h : x.length + y.length ≤ 1000000) : oAdd (.tup x) (.tup y) = some (.tup (x ++ y)) := by
  show (if x.length + y.length ≤ sizeLine then _ else _) = _
  rw [if_pos (by rw [sizeLine_e]; omega)]
theorem oAdd_ll {x y : List D} (h : x.length + y.length ≤ 1000000) : oAdd (.lst x) (.lst y) = some (.lst (x ++ y)) := by
  show (if x.length + y.length ≤ sizeLine then _ else _) = _
  rw [if_pos (by rw [sizeLine_e]; omega)]
theorem flat_one {c : D} {n : Nat} : (List.replicate n [c]).flatten = List.replicate n c := by simp
theorem oMul1_t {c : D} {w : Nat} (h1 : 1 ≤ w) (h2 : w ≤ 1000) : oMul1 (.tup [c]) (.int (w : Int)) = some (.tup (List.replicate w c)) := by
  by_cases q : (w : Int) = 1
  · have e : w = 1 := by omega
    subst e
    rfl
  · show (if (w : Int) = 1 then some (D.tup [c]) else oMul (.tup [c]) (.int (w : Int))) = _
    rw [if_neg q]
    show (if _ then _ else _) = _
    rw [if_pos ⟨by simp, by omega, by omega, by simp⟩, Int.toNat_natCast, flat_one]
theorem oMul1_l {c : D} {w : Nat} (h2 : w ≤ 1000000) : oMul1 (.lst [c]) (.int (w : Int)) = some (.lst (List.replicate w c)) := by
  have e : oMul1 (.lst [c]) (.int (w : Int)) = oMul (.lst [c]) (.int (w : Int)) := rfl
  have q : -(2 ^ 63) ≤ (w : Int) ∧ (w : Int) < 2 ^ 63 ∧ [c].length * (w : Int).toNat ≤ sizeLine := ⟨by omega, by omega, by rw [sizeLine_e]; simp; omega⟩
  rw [e]
  simp only [oMul, if_pos q]
  rw [Int.toNat_natCast, flat_one]
theorem lLen_t {x : List D} : lLen [.tup x] = some (.int (x.length : Nat)) := rfl
theorem lLen_l {x : List D} : lLen [.lst x] = some (.int (x.length : Nat)) := rfl
theorem blsOf_map {α : Type} {p : α → Bool} {xs : List α} : blsOf (xs.map fun x => D.bl (p x)) = some (xs.map p) := by
  induction xs with
  | nil => rfl
  | cons x xs ih =>
    show (blsOf (xs.map fun x => D.bl (p x))).map (p x :: ·) = _
    rw [ih]
    rfl
theorem lAll_map {α : Type} {p : α → Bool} {xs : List α} : lAll [.lst (xs.map fun x => D.bl (p x))] = some (.bl (xs.all p)) := by
  show (blsOf _).map _ = _
  rw [blsOf_map]
  simp
theorem lAny_map {α : Type} {p : α → Bool} {xs : List α} : lAny [.lst (xs.map fun x => D.bl (p x))] = some (.bl (xs.any p)) := by
  show (blsOf _).map _ = _
  rw [blsOf_map]
  simp
end FL

set_option Elab.async false
set_option linter.all false
set_option maxRecDepth 100000
set_option maxHeartbeats 4000000
namespace TP
open PySem PySem.Spec PyProof.Rows L2 DL FL PD
local macro_rules | `(tactic| walk_at "op") => `(tactic| first
  | with_reducible assumption
  | with_reducible exact oEq_int | with_reducible exact oNe_int | with_reducible exact oAdd_int | with_reducible exact oSub_int | with_reducible exact oLt_int | with_reducible exact oLe_int | with_reducible exact oGt_int | with_reducible exact oGe_int
  | with_reducible exact oEq_str (by decide +kernel) (by decide +kernel)
  | with_reducible exact oNotN_e | with_reducible exact oIsN_e
  | with_reducible exact pow9 | with_reducible exact pow18 | with_reducible exact pow20 | with_reducible exact pow25 | with_reducible exact pow30
  | with_reducible exact oMod_int (by omega) | with_reducible exact oDiv_int (by omega) (by omega) | with_reducible exact oDiv_big (by omega) (by omega) | with_reducible exact oMul1_b | with_reducible exact oMul1_int (by omega) | with_reducible exact oMul1_intR (by omega)
  | ((with_reducible show oIx _ _ = _); first | exact oIx_t0 | exact oIx_l0 | (refine Eq.trans oIx_tup ?_; exact rfl) | (refine Eq.trans oIx_lst ?_; exact rfl))
  | ((with_reducible show oIn _ _ = _); exact rfl) | ((with_reducible show oNotIn _ _ = _); exact rfl)
  | with_reducible exact oCut_t1 | with_reducible exact oCut_t9 | with_reducible exact oCut_l1 | with_reducible exact oCut_l9)
local macro_rules | `(tactic| walk_at "fn") => `(tactic| first
  | ((with_reducible show lLen _ = _); exact rfl) | ((with_reducible show lTuple _ = _); exact rfl) | ((with_reducible show lListF _ = _); exact rfl) | ((with_reducible show lInt _ = _); exact rfl) | ((with_reducible show lAbs _ = _); exact rfl) | ((with_reducible show lMax _ = _); exact rfl) | ((with_reducible show lMin _ = _); exact rfl) | ((with_reducible show oCut _ _ _ = _); exact rfl))
local macro_rules | `(tactic| walk_at "br") => `(tactic| first | decide +kernel | with_reducible assumption | decide | exact rfl)
local macro_rules | `(tactic| walk_at "g1") => `(tactic| first
  | with_reducible refine wp_seq ?_
  | ((with_reducible apply wp_var); (exact rfl))
  | with_reducible refine wp_c ?_
  | with_reducible refine wp_bin ?_
  | ((with_reducible apply gw_op); (first | walk_at "op" | walk_at "fn"))
  | with_reducible refine wp_test ?_
  | with_reducible refine gw_bl ?_
  | with_reducible refine wp_ifS ?_
  | ((with_reducible apply gw_t); (walk_at "br"))
  | ((with_reducible apply gw_f); (walk_at "br"))
  | with_reducible refine wp_set ?_
  | with_reducible refine wp_cons ?_
  | with_reducible refine wp_nil ?_
  | with_reducible refine wp_ret ?_
  | with_reducible refine wp_next ?_
  | with_reducible refine wp_call ?_
  | ((with_reducible apply gw_len); (exact rfl))
  | with_reducible refine wp_drop ?_
  | with_reducible refine wp_fn ?_
  | with_reducible refine wp_tup ?_
  | with_reducible refine wp_lst ?_
  | ((with_reducible apply gw_sz); (exact rfl))
  | with_reducible refine wp_and ?_
  | with_reducible refine wp_or ?_
  | with_reducible refine wp_not ?_
  | with_reducible refine wp_andV ?_
  | with_reducible refine wp_orV ?_
  | with_reducible refine wp_notV ?_
  | with_reducible refine wp_if ?_
  | with_reducible refine wp_fld ?_
  | ((with_reducible apply gw_fld); (exact rfl); (exact rfl))
  | with_reducible refine wp_prop ?_
  | with_reducible refine wp_meth0 ?_
  | with_reducible refine wp_meth ?_
  | ((with_reducible apply gw_ins); (exact rfl); (decide))
  | ((with_reducible apply gw_ins1); (exact rfl))
  | with_reducible refine wp_isi ?_
  | ((with_reducible apply gw_isi); (exact rfl); (exact rfl))
  | with_reducible refine wp_isC ?_
  | ((with_reducible apply gw_isC); (first | with_reducible assumption | exact rfl))
  | with_reducible refine wp_sl ?_
  | with_reducible refine wp_pn ?_
  | with_reducible refine wp_ps ?_
  | with_reducible refine gw_int ?_
  | with_reducible refine wp_neg ?_
  | with_reducible refine wp_back ?_
  | with_reducible refine gw_backT ?_
  | with_reducible refine gw_backL ?_
  | with_reducible refine wp_asg ?_
  | ((with_reducible apply gw_asg); (first | exact rfl | exact gsub_e rfl rfl (by first | with_reducible assumption | exact set_at (by with_reducible assumption)) rfl))
  | with_reducible refine wp_ixO ?_
  | ((with_reducible apply gw_ix); (exact rfl); (exact rfl); (first | exact rfl | with_reducible assumption | exact set_at (by with_reducible assumption)); (exact rfl))
  | with_reducible refine wp_lc ?_
  | with_reducible refine wp_for ?_
  | with_reducible refine wp_iSq ?_
  | ((with_reducible apply gw_seq); (exact rfl))
  | with_reducible refine wp_iEn ?_
  | with_reducible refine wp_iR1 ?_
  | ((with_reducible apply gw_r1); (omega))
  | with_reducible refine wp_make ?_
  | with_reducible refine wp_opI ?_
  | ((with_reducible apply gw_two_ins); (exact rfl); (exact rfl))
  | with_reducible refine wp_raise ?_
  | with_reducible refine gw_one ?_
  | with_reducible refine wp_try ?_
  | ((with_reducible apply wp_pickT1); (focus decide +kernel); (focus (simp; done)))
  | ((with_reducible apply wp_pickF1); (focus decide +kernel))
  | ((with_reducible apply wp_xf); (exact rfl); (exact rfl); (exact rfl))
  | with_reducible refine wp_tidx ?_
  | ((with_reducible apply gw_tix); (exact rfl); (exact rfl))
  | with_reducible refine wp_kix ?_
  | ((with_reducible apply gw_kix); (exact rfl); (exact rfl))
  | with_reducible refine wp_lstO ?_
  | with_reducible refine wp_retN ?_
  | with_reducible refine wp_brk ?_
  | with_reducible refine wp_cont ?_
  | with_reducible refine wp_par ?_
  | with_reducible refine wp_chain ?_
  | with_reducible refine wp_join ?_
  | with_reducible refine wp_reprI ?_
  | with_reducible refine wp_eqI ?_
  | ((with_reducible apply gw_t); (focus (simp; done)))
  | ((with_reducible apply gw_f); (focus (simp; done))))
local macro_rules | `(tactic| walk_at "g") => `(tactic| repeat walk_at "g1")
variable {st : FL.St} {h w : Nat} {g : Grid}
theorem turned_e (k : Rect h w g) (hh : 1 ≤ h) (h1 : h ≤ 1000) (hw : 1 ≤ w) (w1 : w ≤ 1000000) : e_turned_rows [tG g] st = .ok (tG (turnG w g)) st := by
  refine Res.eq_wp (wp_body0 ?_)
  unfold p_turned_rows
  walk_at "g"
  refine wp_zip ?_
  walk_at "g"
  exact ⟨_, _, rfl, zipR_tG k hh h1 hw w1, rfl, rfl, rfl⟩
theorem tR_rev {r : List Int} : D.tup (r.map D.int).reverse = tR r.reverse := by simp [tR]
theorem mirrored_e (hl : g.length ≤ 1000000) : e_mirrored_rows [tG g] st = .ok (tG (mirG g)) st := by
  refine Res.eq_wp (wp_body0 ?_)
  unfold p_mirrored_rows
  walk_at "g"
  refine wp_lc_map (enc := tR) (fun r => tR r.reverse) hl ?_ ?_
  · intro r hr
    refine ⟨_, rfl, ?_⟩
    walk_at "g"
    exact ⟨tR_rev, rfl⟩
  · walk_at "g"
    exact ⟨rfl, by simp [mirG, List.map_map, Function.comp], rfl⟩
def lastG (s : Sd) (h w : Nat) : Bool := match s with
  | .top => decide (h = 1)
  | .bottom => decide (h = 1)
  | _ => decide (w = 1)
theorem int_one {n : Nat} : ((n : Int) == 1) = decide (n = 1) := by
  rw [Bool.eq_iff_iff]
  simp
  omega
theorem is_last_e {s : Sd} (k : Rect h w g) (hh : 1 ≤ h) : e_is_last_line [tG g, s.d] st = .ok (.bl (lastG s h w)) st := by
  obtain ⟨r, rs, e, l⟩ := k.head hh
  have kl := k.h
  subst e
  refine Res.eq_wp (wp_body0 ?_)
  unfold p_is_last_line
  cases s
  all_goals walk_at "g"
  all_goals exact ⟨rfl, by simp only [int_one, lastG, List.length_map, kl, l], rfl⟩
theorem map_take_tR {n : Nat} : (g.map tR).take n = (g.take n).map tR := by rw [List.map_take]
theorem cut_e {s : Sd} (hl : g.length ≤ 1000000) : e_cut_rows [tG g, s.d] st = .ok (tG (cutG s g)) st := by
  have c1 := oCut_t1 (r := g.map tR)
  have c9 := oCut_t9 (r := g.map tR)
  refine Res.eq_wp (wp_body0 ?_)
  unfold p_cut_rows
  cases s
  all_goals walk_at "g"
  · refine ⟨rfl, ?_, rfl⟩
    rw [← List.map_drop]
    rfl
  · refine wp_lc_map (enc := tR) (fun r => tR (r.take (r.length - 1))) hl ?_ ?_
    · intro r hr
      refine ⟨_, rfl, ?_⟩
      walk_at "g"
      exact ⟨by simp [tR], rfl⟩
    · walk_at "g"
      exact ⟨rfl, by simp [cutG, List.map_map, Function.comp], rfl⟩
  · refine ⟨rfl, ?_, rfl⟩
    rw [List.length_map, ← List.map_take]
    rfl
  · refine wp_lc_map (enc := tR) (fun r => tR (r.drop 1)) hl ?_ ?_
    · intro r hr
      refine ⟨_, rfl, ?_⟩
      walk_at "g"
      exact ⟨by simp [tR], rfl⟩
    · walk_at "g"
      exact ⟨rfl, by simp [cutG, List.map_map, Function.comp], rfl⟩
theorem added_e {s : Sd} {c : Int} (k : Rect h w g) (hh : 1 ≤ h) (h1 : h ≤ 1000) (hw : 1 ≤ w) (w1 : w ≤ 1000) : e_added_rows [tG g, s.d, .int c] st = .ok (tG (addG w c s g)) st := by
  obtain ⟨r, rs, e, l⟩ := k.head hh
  have kl := k.h
  have hl : g.length ≤ 1000000 := by omega
  have m : oMul1 (.tup [.int c]) (.int (((r.map D.int).length : Nat) : Int)) = some (tR (List.replicate w c)) := by
    rw [List.length_map, l, oMul1_t hw w1]
    simp [tR]
  have ix : oIx (tG g) (.int 0) = some (tR r) := by rw [e]; exact oIx_t0
  refine Res.eq_wp (wp_body0 ?_)
  unfold p_added_rows
  cases s
  all_goals walk_at "g"
  · exact ⟨_, oAdd_tt (by simp; omega), rfl, rfl, rfl⟩
  · refine wp_lc_map (enc := tR) (fun r => tR (r ++ [c])) hl ?_ ?_
    · intro r hr
      refine ⟨_, rfl, ?_⟩
      walk_at "g"
      exact ⟨_, oAdd_tt (by have := k.w r hr; simp; omega), by simp [tR], rfl⟩
    · walk_at "g"
      exact ⟨rfl, by simp [addG, List.map_map, Function.comp], rfl⟩
  · exact ⟨_, oAdd_tt (by simp; omega), rfl, by simp [addG, tR], rfl⟩
  · refine wp_lc_map (enc := tR) (fun r => tR (c :: r)) hl ?_ ?_
    · intro r hr
      refine ⟨_, rfl, ?_⟩
      walk_at "g"
      exact ⟨_, oAdd_tt (by have := k.w r hr; simp; omega), by simp [tR], rfl⟩
    · walk_at "g"
      exact ⟨rfl, by simp [addG, List.map_map, Function.comp], rfl⟩
/-! sides and colours -/
def isSide : D → Bool
  | .str x => inV (V.str x) [V.str "top", V.str "right", V.str "bottom", V.str "left"]
  | _ => false
theorem isSide_d {s : Sd} : isSide s.d = true := by cases s <;> decide +kernel
def isWhole : D → Bool
  | .int _ => true
  | _ => false
def isColour : D → Bool
  | .int i => decide (0 ≤ i)
  | _ => false
theorem is_whole_e {d : D} (hd : (tyD d).isSome = true) : e_is_whole [d] st = .ok (.bl (isWhole d)) st := by
  refine Res.eq_wp (wp_body0 ?_)
  unfold p_is_whole
  cases d <;> try (cases hd; done)
  all_goals walk_at "g"
  all_goals exact ⟨rfl, rfl, rfl⟩
theorem is_count_e {d : D} (hd : (tyD d).isSome = true) : e_is_count [d] st = .ok (.bl (isColour d)) st := by
  refine Res.eq_wp (wp_body0 ?_)
  unfold p_is_count
  walk_at "g"
  refine Res.wp_eq (is_whole_e hd) ?_
  cases d <;> try (cases hd; done)
  all_goals walk_at "g"
  all_goals exact ⟨rfl, rfl, rfl⟩
theorem is_colour_e {d : D} (hd : (tyD d).isSome = true) : e_is_colour [d] st = .ok (.bl (isColour d)) st := by
  refine Res.eq_wp (wp_body0 ?_)
  unfold p_is_colour
  walk_at "g"
  refine Res.wp_eq (is_count_e hd) ?_
  exact ⟨rfl, rfl, rfl⟩
theorem is_side_e {d : D} (hd : (tyD d).isSome = true) : e_is_side [d] st = .ok (.bl (isSide d)) st := by
  refine Res.eq_wp (wp_body0 ?_)
  unfold p_is_side
  cases d <;> try (cases hd; done)
  all_goals walk_at "g"
  all_goals exact ⟨rfl, rfl, rfl⟩
theorem check_side_e {d : D} (hd : (tyD d).isSome = true) (h : isSide d = true) : e_check_side [d] st = .ok .non st := by
  refine Res.eq_wp (wp_body0 ?_)
  unfold p_check_side
  walk_at "g"
  refine Res.wp_eq (is_side_e hd) ?_
  rw [h]
  walk_at "g"
  exact ⟨rfl, rfl, rfl⟩
theorem check_side_x {d : D} (hd : (tyD d).isSome = true) (h : isSide d = false) : e_check_side [d] st = .ex ⟨"InvalidSide", some (["value"], [d])⟩ st := by
  refine Res.eqx_wp (wp_body0 ?_)
  unfold p_check_side
  walk_at "g"
  refine Res.wp_eq (is_side_e hd) ?_
  rw [h]
  walk_at "g"
  exact ⟨rfl, rfl, rfl⟩
theorem check_colour_e {d : D} (hd : (tyD d).isSome = true) (h : isColour d = true) : e_check_colour [d] st = .ok .non st := by
  refine Res.eq_wp (wp_body0 ?_)
  unfold p_check_colour
  walk_at "g"
  refine Res.wp_eq (is_colour_e hd) ?_
  rw [h]
  walk_at "g"
  exact ⟨rfl, rfl, rfl⟩
theorem check_colour_x {d : D} (hd : (tyD d).isSome = true) (h : isColour d = false) : e_check_colour [d] st = .ex ⟨"InvalidColour", some (["value"], [d])⟩ st := by
  refine Res.eqx_wp (wp_body0 ?_)
  unfold p_check_colour
  walk_at "g"
  refine Res.wp_eq (is_colour_e hd) ?_
  rw [h]
  walk_at "g"
  exact ⟨rfl, rfl, rfl⟩
end TP

set_option Elab.async false
set_option linter.all false
set_option maxRecDepth 100000
set_option maxHeartbeats 4000000
namespace TP
open PySem PySem.Spec PyProof.Rows L2 DL FL PD
local macro_rules | `(tactic| walk_at "op") => `(tactic| first
  | with_reducible assumption
  | with_reducible exact oEq_int | with_reducible exact oNe_int | with_reducible exact oAdd_int | with_reducible exact oSub_int | with_reducible exact oLt_int | with_reducible exact oLe_int | with_reducible exact oGt_int | with_reducible exact oGe_int
  | with_reducible exact oEq_str (by decide +kernel) (by decide +kernel)
  | with_reducible exact oNotN_e | with_reducible exact oIsN_e
  | with_reducible exact pow9 | with_reducible exact pow18 | with_reducible exact pow20 | with_reducible exact pow25 | with_reducible exact pow30
  | with_reducible exact oMod_int (by omega) | with_reducible exact oDiv_int (by omega) (by omega) | with_reducible exact oDiv_big (by omega) (by omega) | with_reducible exact oMul1_b | with_reducible exact oMul1_int (by omega) | with_reducible exact oMul1_intR (by omega)
  | ((with_reducible show oIx _ _ = _); first | exact oIx_t0 | exact oIx_l0 | (refine Eq.trans oIx_tup ?_; exact rfl) | (refine Eq.trans oIx_lst ?_; exact rfl))
  | ((with_reducible show oIn _ _ = _); exact rfl) | ((with_reducible show oNotIn _ _ = _); exact rfl)
  | with_reducible exact oCut_t1 | with_reducible exact oCut_t9 | with_reducible exact oCut_l1 | with_reducible exact oCut_l9)
local macro_rules | `(tactic| walk_at "fn") => `(tactic| first
  | ((with_reducible show lLen _ = _); exact rfl) | ((with_reducible show lTuple _ = _); exact rfl) | ((with_reducible show lListF _ = _); exact rfl) | ((with_reducible show lInt _ = _); exact rfl) | ((with_reducible show lAbs _ = _); exact rfl) | ((with_reducible show lMax _ = _); exact rfl) | ((with_reducible show lMin _ = _); exact rfl) | ((with_reducible show oCut _ _ _ = _); exact rfl))
local macro_rules | `(tactic| walk_at "br") => `(tactic| first | decide +kernel | with_reducible assumption | decide | exact rfl)
local macro_rules | `(tactic| walk_at "g1") => `(tactic| first
  | with_reducible refine wp_seq ?_
  | ((with_reducible apply wp_var); (exact rfl))
  | with_reducible refine wp_c ?_
  | with_reducible refine wp_bin ?_
  | ((with_reducible apply gw_op); (first | walk_at "op" | walk_at "fn"))
  | with_reducible refine wp_test ?_
  | with_reducible refine gw_bl ?_
  | with_reducible refine wp_ifS ?_
  | ((with_reducible apply gw_t); (walk_at "br"))
  | ((with_reducible apply gw_f); (walk_at "br"))
  | with_reducible refine wp_set ?_
  | with_reducible refine wp_cons ?_
  | with_reducible refine wp_nil ?_
  | with_reducible refine wp_ret ?_
  | with_reducible refine wp_next ?_
  | with_reducible refine wp_call ?_
  | ((with_reducible apply gw_len); (exact rfl))
  | with_reducible refine wp_drop ?_
  | with_reducible refine wp_fn ?_
  | with_reducible refine wp_tup ?_
  | with_reducible refine wp_lst ?_
  | ((with_reducible apply gw_sz); (exact rfl))
  | with_reducible refine wp_and ?_
  | with_reducible refine wp_or ?_
  | with_reducible refine wp_not ?_
  | with_reducible refine wp_andV ?_
  | with_reducible refine wp_orV ?_
  | with_reducible refine wp_notV ?_
  | with_reducible refine wp_if ?_
  | with_reducible refine wp_fld ?_
  | ((with_reducible apply gw_fld); (exact rfl); (exact rfl))
  | with_reducible refine wp_prop ?_
  | with_reducible refine wp_meth0 ?_
  | with_reducible refine wp_meth ?_
  | ((with_reducible apply gw_ins); (exact rfl); (decide))
  | ((with_reducible apply gw_ins1); (exact rfl))
  | with_reducible refine wp_isi ?_
  | ((with_reducible apply gw_isi); (exact rfl); (exact rfl))
  | with_reducible refine wp_isC ?_
  | ((with_reducible apply gw_isC); (first | with_reducible assumption | exact rfl))
  | with_reducible refine wp_sl ?_
  | with_reducible refine wp_pn ?_
  | with_reducible refine wp_ps ?_
  | with_reducible refine gw_int ?_
  | with_reducible refine wp_neg ?_
  | with_reducible refine wp_back ?_
  | with_reducible refine gw_backT ?_
  | with_reducible refine gw_backL ?_
  | with_reducible refine wp_asg ?_
  | ((with_reducible apply gw_asg); (first | exact rfl | exact gsub_e rfl rfl (by first | with_reducible assumption | exact set_at (by with_reducible assumption)) rfl))
  | with_reducible refine wp_ixO ?_
  | ((with_reducible apply gw_ix); (exact rfl); (exact rfl); (first | exact rfl | with_reducible assumption | exact set_at (by with_reducible assumption)); (exact rfl))
  | with_reducible refine wp_lc ?_
  | with_reducible refine wp_for ?_
  | with_reducible refine wp_iSq ?_
  | ((with_reducible apply gw_seq); (exact rfl))
  | with_reducible refine wp_iEn ?_
  | with_reducible refine wp_iR1 ?_
  | ((with_reducible apply gw_r1); (omega))
  | with_reducible refine wp_make ?_
  | with_reducible refine wp_opI ?_
  | ((with_reducible apply gw_two_ins); (exact rfl); (exact rfl))
  | with_reducible refine wp_raise ?_
  | with_reducible refine gw_one ?_
  | with_reducible refine wp_try ?_
  | ((with_reducible apply wp_pickT1); (focus decide +kernel); (focus (simp; done)))
  | ((with_reducible apply wp_pickF1); (focus decide +kernel))
  | ((with_reducible apply wp_xf); (exact rfl); (exact rfl); (exact rfl))
  | with_reducible refine wp_tidx ?_
  | ((with_reducible apply gw_tix); (exact rfl); (exact rfl))
  | with_reducible refine wp_kix ?_
  | ((with_reducible apply gw_kix); (exact rfl); (exact rfl))
  | with_reducible refine wp_lstO ?_
  | with_reducible refine wp_retN ?_
  | with_reducible refine wp_brk ?_
  | with_reducible refine wp_cont ?_
  | with_reducible refine wp_par ?_
  | with_reducible refine wp_chain ?_
  | with_reducible refine wp_join ?_
  | with_reducible refine wp_reprI ?_
  | with_reducible refine wp_eqI ?_
  | ((with_reducible apply gw_t); (focus (simp; done)))
  | ((with_reducible apply gw_f); (focus (simp; done))))
local macro_rules | `(tactic| walk_at "g") => `(tactic| repeat walk_at "g1")
variable {st : FL.St} {h w : Nat} {g : Grid}
/-! pictures -/
/-- a grid of colours -/
structure Grd (h w : Nat) (g : Grid) : Prop where
  r : Rect h w g
  hh : 1 ≤ h
  hw : 1 ≤ w
  h1 : h ≤ 1000
  w1 : w ≤ 1000
  pos : ∀ r ∈ g, ∀ c ∈ r, 0 ≤ c
def picD (g : Grid) : D := .ins "Picture" ["_rows"] [tG g]
/-- rows or a row, as a list or as a tuple -/
abbrev sq (t : Bool) (ds : List D) : D := match t with
  | true => .tup ds
  | false => .lst ds
abbrev sR (t : Bool) (r : List Int) : D := sq t (r.map D.int)
abbrev sG (t u : Bool) (g : Grid) : D := sq t (g.map (sR u))
theorem len_ne0 {n : Nat} (h : 1 ≤ n) : (((n : Nat) : Int) == 0) = false := by
  simp
  omega
theorem all_true {α : Type} {p : α → Bool} {xs : List α} (h : ∀ x ∈ xs, p x = true) : xs.all p = true := by
  rw [List.all_eq_true]
  exact h
theorem is_row_e {t : Bool} {r : List Int} (h : 1 ≤ r.length) (hl : r.length ≤ 1000000) (p : ∀ c ∈ r, 0 ≤ c) : e_is_row [sR t r] st = .ok (.bl true) st := by
  have e0 := len_ne0 (n := (r.map D.int).length) (by simpa using h)
  refine Res.eq_wp (wp_body0 ?_)
  unfold p_is_row
  cases t
  all_goals walk_at "g"
  all_goals refine wp_lc_map (enc := D.int) (fun c => .bl (isColour (.int c))) hl ?_ ?_
  any_goals
    intro c hc
    refine ⟨_, rfl, ?_⟩
    walk_at "g"
    exact Res.wp_eq (is_colour_e rfl) ⟨rfl, rfl⟩
  all_goals
    walk_at "g"
    exact ⟨_, lAll_map, rfl, by rw [all_true]; intro c hc; exact decide_eq_true (p c hc), rfl⟩
theorem is_grid_e {t u : Bool} (k : Grd h w g) : e_is_grid [sG t u g] st = .ok (.bl true) st := by
  have hl : g.length ≤ 1000000 := by have := k.r.h; have := k.h1; omega
  have e0 := len_ne0 (n := (g.map (sR u)).length) (by have := k.r.h; have := k.hh; simp; omega)
  obtain ⟨r, rs, e, l⟩ := k.r.head k.hh
  have kr := k.r
  have ix : ∀ t, oIx (sG t u g) (.int 0) = some (sR u r) := by
    intro t
    rw [e]
    cases t
    · exact oIx_l0
    · exact oIx_t0
  have ix1 := ix false
  have ix2 := ix true
  refine Res.eq_wp (wp_body0 ?_)
  unfold p_is_grid
  cases t
  all_goals walk_at "g"
  all_goals refine wp_lc_map (enc := sR u) (fun r => .bl true) hl ?_ ?_
  any_goals
    intro q hq
    refine ⟨_, rfl, ?_⟩
    walk_at "g"
    exact Res.wp_eq (is_row_e (by have := kr.w q hq; have := k.hw; omega) (by have := kr.w q hq; have := k.w1; omega) (k.pos q hq)) ⟨rfl, rfl⟩
  all_goals
    walk_at "g"
    refine gw_op lAll_map ?_
    walk_at "g"
  all_goals refine wp_lc_map (enc := sR u) (fun r => .bl true) hl ?_ ?_
  any_goals
    intro q hq
    refine ⟨_, rfl, ?_⟩
    have z1 : ∀ t, lLen [sR t q] = some (.int ((w : Nat) : Int)) := by
      intro t
      cases t <;> (show some (D.int (((q.map D.int).length : Nat) : Int)) = _; rw [List.length_map, kr.w q hq])
    have z2 : ∀ t, lLen [sR t r] = some (.int ((w : Nat) : Int)) := by
      intro t
      cases t <;> (show some (D.int (((r.map D.int).length : Nat) : Int)) = _; rw [List.length_map, l])
    have y1 := z1 u
    have y2 := z2 u
    walk_at "g"
    exact ⟨by simp, rfl⟩
  all_goals
    walk_at "g"
    exact ⟨_, lAll_map, rfl, by simp, rfl⟩
theorem app_at {st : FL.St} {x : Option DO} : (st ++ [x])[st.length]? = some x := by simp
theorem app_set {st : FL.St} {x y : Option DO} : (st ++ [x]).set st.length y = st ++ [y] := by simp
theorem gcF_app1 {st : FL.St} {x y : Option DO} {ok : Bool} : gcF (st ++ [x]).length ok (st ++ [y]) = st ++ [y] := gcF_len (by simp)
/-- a new picture is made -/
theorem init_e {t u : Bool} {st : FL.St} (k : Grd h w g) : e_Picture_init_ [.loc st.length, sG t u g] (st ++ [some (.ins "Picture" [] [])]) = .ok .non (st ++ [some (.ins "Picture" ["_rows"] [tG g])]) := by
  have hl : g.length ≤ 1000000 := by have := k.r.h; have := k.h1; omega
  refine Res.eq_wp (wp_body ?_)
  unfold p_Picture_init_
  walk_at "g"
  refine Res.wp_eq (is_grid_e k) ?_
  walk_at "g"
  refine wp_fldS ?_
  walk_at "g"
  refine gw_seq (ds := g.map (sR u)) (by cases t <;> rfl) ?_
  refine wp_lc_map (enc := sR u) tR hl ?_ ?_
  · intro r hr
    refine ⟨_, rfl, ?_⟩
    cases u
    all_goals
      walk_at "g"
      exact ⟨rfl, rfl⟩
  · walk_at "g"
    refine ⟨_, _, _, rfl, app_at, by decide, rfl, ?_⟩
    rw [app_set]
    exact gcF_app1
theorem pic_nl : noLoc (picD g) = true := by
  have hr : ∀ r : List Int, noLoc (tR r) = true := fun r => by
    simp only [noLoc, noLocL_all, List.mem_map]
    rintro d ⟨i, _, rfl⟩
    rfl
  have hg : noLoc (tG g) = true := by
    simp only [noLoc, noLocL_all, List.mem_map]
    rintro d ⟨i, _, rfl⟩
    exact hr i
  show (noLoc (tG g) && true) = true
  rw [hg]
  rfl
theorem mk_pic {t u : Bool} (k : Grd h w g) (hc : Clean st) : mkEnd st.length (e_Picture_init_ [.loc st.length, sG t u g] (st ++ [some (.ins "Picture" [] [])])) = .ok (picD g) st := by
  rw [init_e k]
  show (match (st ++ [some (DO.ins "Picture" ["_rows"] [tG g])])[st.length]? with
    | some (some y) => Res.ok y.tree (gc st.length y.tree ((st ++ [some (DO.ins "Picture" ["_rows"] [tG g])]).set st.length none))
    | _ => .bad) = _
  rw [app_at]
  dsimp only
  rw [app_set]
  show Res.ok (picD g) (gc st.length (picD g) (st ++ [none])) = _
  rw [gc_clean pic_nl hc]
/-! its methods -/
theorem rows_e : e_Picture_rows [picD g] st = .ok (tG g) st := by
  refine Res.eq_wp (wp_body0 ?_)
  unfold p_Picture_rows
  walk_at "g"
  exact ⟨rfl, rfl, rfl⟩
theorem Grd.turn (k : Grd h w g) : Grd w h (turnG w g) := ⟨k.r.turn, k.hw, k.hh, k.w1, k.h1, fun r hr c hc => by
  simp only [turnG, List.mem_map, List.mem_range] at hr
  obtain ⟨j, hj, rfl⟩ := hr
  simp only [List.mem_map, List.mem_reverse] at hc
  obtain ⟨q, hq, rfl⟩ := hc
  have hw := k.r.w q hq
  have : j < q.length := by omega
  simp only [List.getD, List.getElem?_eq_getElem this, Option.getD_some]
  exact k.pos q hq _ (List.getElem_mem _)⟩
theorem Grd.mir (k : Grd h w g) : Grd h w (mirG g) := ⟨k.r.mir, k.hh, k.hw, k.h1, k.w1, fun r hr c hc => by
  simp only [mirG, List.mem_map] at hr
  obtain ⟨q, hq, rfl⟩ := hr
  exact k.pos q hq c (List.mem_reverse.mp hc)⟩
theorem pturned_e (k : Grd h w g) (hc : Clean st) : e_Picture_turned [picD g] st = .ok (picD (turnG w g)) st := by
  refine Res.eq_wp (wp_body0 ?_)
  unfold p_Picture_turned
  walk_at "g"
  refine Res.wp_eq (turned_e k.r k.hh k.h1 k.hw (by have := k.w1; omega)) ?_
  walk_at "g"
  exact Res.wp_eq (mk_pic (t := true) (u := true) k.turn hc) ⟨rfl, rfl, rfl⟩
theorem pmirrored_e (k : Grd h w g) (hc : Clean st) : e_Picture_mirrored [picD g] st = .ok (picD (mirG g)) st := by
  refine Res.eq_wp (wp_body0 ?_)
  unfold p_Picture_mirrored
  walk_at "g"
  refine Res.wp_eq (mirrored_e (by have := k.r.h; have := k.h1; omega)) ?_
  walk_at "g"
  exact Res.wp_eq (mk_pic (t := true) (u := true) k.mir hc) ⟨rfl, rfl, rfl⟩
def cutH (s : Sd) (h : Nat) : Nat := match s with
  | .top => h - 1
  | .bottom => h - 1
  | _ => h
def cutW (s : Sd) (w : Nat) : Nat := match s with
  | .left => w - 1
  | .right => w - 1
  | _ => w
theorem Grd.cut {s : Sd} (k : Grd h w g) (n : lastG s h w = false) : Grd (cutH s h) (cutW s w) (cutG s g) := by
  have hh := k.hh
  have hw := k.hw
  have h1 := k.h1
  have w1 := k.w1
  have rh := k.r.h
  cases s
  case top =>
    have n := of_decide_eq_false n
    exact ⟨⟨by simp [cutG, cutH, rh], fun r hr => k.r.w r (List.mem_of_mem_drop hr)⟩, by simp only [cutH]; omega, hw, by simp only [cutH]; omega, w1, fun r hr => k.pos r (List.mem_of_mem_drop hr)⟩
  case bottom =>
    have n := of_decide_eq_false n
    exact ⟨⟨by simp only [cutG, cutH, List.length_take]; omega, fun r hr => k.r.w r (List.mem_of_mem_take hr)⟩, by simp only [cutH]; omega, hw, by simp only [cutH]; omega, w1, fun r hr => k.pos r (List.mem_of_mem_take hr)⟩
  case left =>
    have n := of_decide_eq_false n
    refine ⟨⟨by simp [cutG, cutH, rh], fun r hr => ?_⟩, hh, by simp only [cutW]; omega, h1, by simp only [cutW]; omega, fun r hr c hc => ?_⟩
    · simp only [cutG, List.mem_map] at hr
      obtain ⟨q, hq, rfl⟩ := hr
      simp [cutW, k.r.w q hq]
    · simp only [cutG, List.mem_map] at hr
      obtain ⟨q, hq, rfl⟩ := hr
      exact k.pos q hq c (List.mem_of_mem_drop hc)
  case right =>
    have n := of_decide_eq_false n
    refine ⟨⟨by simp [cutG, cutH, rh], fun r hr => ?_⟩, hh, by simp only [cutW]; omega, h1, by simp only [cutW]; omega, fun r hr c hc => ?_⟩
    · simp only [cutG, List.mem_map] at hr
      obtain ⟨q, hq, rfl⟩ := hr
      simp only [cutW, List.length_take, k.r.w q hq]
      omega
    · simp only [cutG, List.mem_map] at hr
      obtain ⟨q, hq, rfl⟩ := hr
      exact k.pos q hq c (List.mem_of_mem_take hc)
def addH (s : Sd) (h : Nat) : Nat := match s with
  | .top => h + 1
  | .bottom => h + 1
  | _ => h
def addW (s : Sd) (w : Nat) : Nat := match s with
  | .left => w + 1
  | .right => w + 1
  | _ => w
theorem Grd.add {s : Sd} {c : Int} (k : Grd h w g) (hc : 0 ≤ c) (h2 : h < 1000) (w2 : w < 1000) : Grd (addH s h) (addW s w) (addG w c s g) := by
  have hh := k.hh
  have hw := k.hw
  have h1 := k.h1
  have w1 := k.w1
  have rh := k.r.h
  have rep : ∀ x ∈ List.replicate w c, 0 ≤ x := fun x hx => by rw [List.eq_of_mem_replicate hx]; exact hc
  cases s
  case top =>
    refine ⟨⟨by simp [addG, addH, rh], fun r hr => ?_⟩, by simp only [addH]; omega, hw, by simp only [addH]; omega, w1, fun r hr => ?_⟩
    · rcases List.mem_cons.mp hr with rfl | hr
      · simp [addW]
      · exact k.r.w r hr
    · rcases List.mem_cons.mp hr with rfl | hr
      · exact rep
      · exact k.pos r hr
  case bottom =>
    refine ⟨⟨by simp [addG, addH, rh], fun r hr => ?_⟩, by simp only [addH]; omega, hw, by simp only [addH]; omega, w1, fun r hr => ?_⟩
    · rcases List.mem_append.mp hr with hr | hr
      · exact k.r.w r hr
      · rw [List.mem_singleton.mp hr]
        simp [addW]
    · rcases List.mem_append.mp hr with hr | hr
      · exact k.pos r hr
      · rw [List.mem_singleton.mp hr]
        exact rep
  case left =>
    refine ⟨⟨by simp [addG, addH, rh], fun r hr => ?_⟩, hh, by simp only [addW]; omega, h1, by simp only [addW]; omega, fun r hr x hx => ?_⟩
    · simp only [addG, List.mem_map] at hr
      obtain ⟨q, hq, rfl⟩ := hr
      simp [addW, k.r.w q hq]
    · simp only [addG, List.mem_map] at hr
      obtain ⟨q, hq, rfl⟩ := hr
      rcases List.mem_cons.mp hx with rfl | hx
      · exact hc
      · exact k.pos q hq x hx
  case right =>
    refine ⟨⟨by simp [addG, addH, rh], fun r hr => ?_⟩, hh, by simp only [addW]; omega, h1, by simp only [addW]; omega, fun r hr x hx => ?_⟩
    · simp only [addG, List.mem_map] at hr
      obtain ⟨q, hq, rfl⟩ := hr
      simp [addW, k.r.w q hq]
    · simp only [addG, List.mem_map] at hr
      obtain ⟨q, hq, rfl⟩ := hr
      rcases List.mem_append.mp hx with hx | hx
      · exact k.pos q hq x hx
      · rw [List.mem_singleton.mp hx]
        exact hc
theorem sd_ty {s : Sd} : (tyD s.d).isSome = true := rfl
theorem pcut_e {s : Sd} (k : Grd h w g) (n : lastG s h w = false) (hc : Clean st) : e_Picture_cut [picD g, s.d] st = .ok (picD (cutG s g)) st := by
  refine Res.eq_wp (wp_body0 ?_)
  unfold p_Picture_cut
  walk_at "g"
  refine Res.wp_eq (check_side_e sd_ty isSide_d) ?_
  walk_at "g"
  refine Res.wp_eq (is_last_e k.r k.hh) ?_
  walk_at "g"
  refine Res.wp_eq (cut_e (by have := k.r.h; have := k.h1; omega)) ?_
  walk_at "g"
  exact Res.wp_eq (mk_pic (t := true) (u := true) (k.cut n) hc) ⟨rfl, rfl, rfl⟩
theorem pcut_x {s : Sd} (k : Grd h w g) (n : lastG s h w = true) : e_Picture_cut [picD g, s.d] st = .ex ⟨"LastLine", some (["index"], [.int 0])⟩ st := by
  refine Res.eqx_wp (wp_body0 ?_)
  unfold p_Picture_cut
  walk_at "g"
  refine Res.wp_eq (check_side_e sd_ty isSide_d) ?_
  walk_at "g"
  refine Res.wp_eq (is_last_e k.r k.hh) ?_
  walk_at "g"
  exact ⟨rfl, rfl, rfl⟩
theorem pcut_bad {d : D} (hd : (tyD d).isSome = true) (n : isSide d = false) : e_Picture_cut [picD g, d] st = .ex ⟨"InvalidSide", some (["value"], [d])⟩ st := by
  refine Res.eqx_wp (wp_body0 ?_)
  unfold p_Picture_cut
  walk_at "g"
  exact Res.wp_ex (check_side_x hd n) ⟨rfl, rfl, rfl⟩
theorem padded_e {s : Sd} {c : Int} (k : Grd h w g) (h2 : h < 1000) (w2 : w < 1000) (h0 : 0 ≤ c) (hc : Clean st) : e_Picture_added [picD g, s.d, .int c] st = .ok (picD (addG w c s g)) st := by
  refine Res.eq_wp (wp_body0 ?_)
  unfold p_Picture_added
  walk_at "g"
  refine Res.wp_eq (check_side_e sd_ty isSide_d) ?_
  walk_at "g"
  refine Res.wp_eq (check_colour_e rfl (decide_eq_true h0)) ?_
  walk_at "g"
  refine Res.wp_eq (added_e k.r k.hh k.h1 k.hw k.w1) ?_
  walk_at "g"
  exact Res.wp_eq (mk_pic (t := true) (u := true) (k.add h0 h2 w2) hc) ⟨rfl, rfl, rfl⟩
theorem padded_side {d e : D} (hd : (tyD d).isSome = true) (n : isSide d = false) : e_Picture_added [picD g, d, e] st = .ex ⟨"InvalidSide", some (["value"], [d])⟩ st := by
  refine Res.eqx_wp (wp_body0 ?_)
  unfold p_Picture_added
  walk_at "g"
  exact Res.wp_ex (check_side_x hd n) ⟨rfl, rfl, rfl⟩
theorem padded_col {s : Sd} {d : D} (hd : (tyD d).isSome = true) (n : isColour d = false) : e_Picture_added [picD g, s.d, d] st = .ex ⟨"InvalidColour", some (["value"], [d])⟩ st := by
  refine Res.eqx_wp (wp_body0 ?_)
  unfold p_Picture_added
  walk_at "g"
  refine Res.wp_eq (check_side_e sd_ty isSide_d) ?_
  walk_at "g"
  exact Res.wp_ex (check_colour_x hd n) ⟨rfl, rfl, rfl⟩
end TP

set_option Elab.async false
set_option linter.all false
set_option maxRecDepth 100000
set_option maxHeartbeats 4000000
namespace PA
open PySem PySem.Spec PyProof.Rows L2 DL FL PD
def p_l_pool : fS := (fSeq (fSet 2 (fBin oAdd (fBin oMul1 (fC (.int 11)) (fFn lSum (fCons (fSl (fVar 0) fPn (fPs (fC (.int 63)))) fNil))) (fVar 1))) (fSeq (fIfS (fTest (fBin oLt (fVar 1) (fFn lLen (fCons (fVar 0) fNil)))) (fSet 2 (fBin oIx (fVar 0) (fVar 1))) fNext) (fSeq (fSet 3 (fFn lAbs (fCons (fVar 2) fNil))) (fSeq (fSet 4 (fBin oMod (fBin oMul1 (fBin oAdd (fBin oAdd (fBin oAdd (fBin oMod (fVar 3) (fC (.int 2147483629))) (fBin oMul1 (fBin oMul1 (fC (.int 7919)) (fVar 1)) (fVar 1))) (fBin oMul1 (fC (.int 31)) (fVar 1))) (fC (.int 17))) (fC (.int 48271))) (fC (.int 2147483647)))) (fRet (fLstO (fCons (fBin oMul1 (fVar 3) (fFn lInt (fCons (fBin oGe (fVar 3) (fBin oPow (fC (.int 10)) (fC (.int 18)))) fNil))) (fCons (fBin oMod (fBin oMul1 (fVar 4) (fVar 4)) (fC (.int 2147483629))) fNil))))))))
def e_l_pool : fF := fBody p_l_pool 3
def p_l_draw : fS := (fSeq (fIfS (fTest (fBin oGt (fIxO (fVar 0) (fC (.int 0))) (fC (.int 0)))) (fSeq (fSet 2 (fBin oMod (fIxO (fVar 0) (fC (.int 0))) (fVar 1))) (fSeq (fAsg (fBin oDiv (fIxO (fVar 0) (fC (.int 0))) (fVar 1)) (fGsub (fVar 0) (fC (.int 0)))) (fRet (fVar 2)))) fNext) (fSeq (fAsg (fBin oMod (fBin oAdd (fBin oMul1 (fIxO (fVar 0) (fC (.int 1))) (fC (.int 48271))) (fC (.int 11))) (fC (.int 2147483647))) (fGsub (fVar 0) (fC (.int 1)))) (fRet (fBin oMod (fBin oDiv (fBin oMod (fBin oMul1 (fIxO (fVar 0) (fC (.int 1))) (fIxO (fVar 0) (fC (.int 1)))) (fC (.int 2147483629))) (fC (.int 16))) (fVar 1)))))
def e_l_draw : fF := fBody p_l_draw 1
def p_l_random_picture : fS := (fSeq (fAsg (fTup (fCons (fBin oAdd (fC (.int 1)) (fCall e_l_draw 2 [] (fCons (fVar 0) (fCons (fVar 1) fNil)))) (fCons (fBin oAdd (fC (.int 1)) (fCall e_l_draw 2 [] (fCons (fVar 0) (fCons (fVar 1) fNil)))) fNil))) (fGt 2 (fGc (fGn 3) (fGc (fGn 4) fGl)))) (fRet (fLc (iR1 (fCons (fVar 3) fNil)) (fGn 5) fYes (fLc (iR1 (fCons (fVar 4) fNil)) (fGn 6) fYes (fCall e_l_draw 2 [] (fCons (fVar 0) (fCons (fVar 2) fNil))) [6]) [5])))
def e_l_random_picture : fF := fBody p_l_random_picture 4
def p_l_random_steps : fS := (fSeq (fSet 3 (fLstO fNil)) (fSeq (fFor (iR1 (fCons (fVar 1) fNil)) (fGn 4) (fSeq (fPar 5 6 (fCons (fCall e_l_draw 2 [] (fCons (fVar 0) (fCons (fC (.int 8)) fNil))) (fCons (fBin oIx (fLst (fCons (fC (.str "top")) (fCons (fC (.str "right")) (fCons (fC (.str "bottom")) (fCons (fC (.str "left")) fNil))))) (fCall e_l_draw 2 [] (fCons (fVar 0) (fCons (fC (.int 4)) fNil)))) fNil))) (fIfS (fTest (fBin oEq (fVar 5) (fC (.int 0)))) (fDrop (fApp (fVar 3) (fTup (fCons (fC (.str "turn")) fNil)))) (fIfS (fTest (fBin oEq (fVar 5) (fC (.int 1)))) (fDrop (fApp (fVar 3) (fTup (fCons (fC (.str "mirror")) fNil)))) (fIfS (fTest (fBin oLt (fVar 5) (fC (.int 4)))) (fDrop (fApp (fVar 3) (fTup (fCons (fC (.str "cut")) (fCons (fVar 6) fNil))))) (fDrop (fApp (fVar 3) (fTup (fCons (fC (.str "add")) (fCons (fVar 6) (fCons (fCall e_l_draw 2 [] (fCons (fVar 0) (fCons (fVar 2) fNil))) fNil))))))))))) (fRet (fFrz (fVar 3)))))
def e_l_random_steps : fF := fBody p_l_random_steps 4
def p_l_random_lines : fS := (fSeq (fSet 3 (fLstO fNil)) (fSeq (fFor (iR1 (fCons (fVar 1) fNil)) (fGn 4) (fSeq (fSet 5 (fBin oIx (fLst (fCons (fC (.str "top")) (fCons (fC (.str "right")) (fCons (fC (.str "bottom")) (fCons (fC (.str "left")) fNil))))) (fCall e_l_draw 2 [] (fCons (fVar 0) (fCons (fC (.int 4)) fNil))))) (fDrop (fApp (fVar 3) (fTup (fCons (fVar 5) (fCons (fCall e_l_draw 2 [] (fCons (fVar 0) (fCons (fVar 2) fNil))) fNil))))))) (fRet (fFrz (fVar 3)))))
def e_l_random_lines : fF := fBody p_l_random_lines 3
def p_l_numbered : fS := (fRet (fLc (iR1 (fCons (fVar 0) fNil)) (fGn 3) fYes (fLc (iR1 (fCons (fVar 1) fNil)) (fGn 4) fYes (fBin oAdd (fBin oAdd (fVar 2) (fBin oMul1 (fVar 3) (fVar 1))) (fVar 4)) [4]) [3]))
def e_l_numbered : fF := fBody p_l_numbered 2
def p_l_after : fS := (fSeq (fSet 2 (fFn lLen (fCons (fBin oIx (fVar 0) (fC (.int 0))) fNil))) (fSeq (fIfS (fTest (fBin oEq (fBin oIx (fVar 1) (fC (.int 0))) (fC (.str "turn")))) (fRet (fLc (iR1 (fCons (fVar 2) fNil)) (fGn 6) fYes (fLc (iSq (fBack (fVar 0))) (fGn 5) fYes (fBin oIx (fVar 5) (fVar 6)) [5]) [6])) fNext) (fSeq (fIfS (fTest (fBin oEq (fBin oIx (fVar 1) (fC (.int 0))) (fC (.str "mirror")))) (fRet (fLc (iSq (fVar 0)) (fGn 5) fYes (fBack (fVar 5)) [5])) fNext) (fSeq (fIfS (fTest (fBin oIn (fBin oIx (fVar 1) (fC (.int 1))) (fTup (fCons (fC (.str "top")) (fCons (fC (.str "bottom")) fNil))))) (fSeq (fSet 3 (fBin oEq (fBin oIx (fVar 1) (fC (.int 1))) (fC (.str "top")))) (fSeq (fIfS (fTest (fBin oEq (fBin oIx (fVar 1) (fC (.int 0))) (fC (.str "cut")))) (fRet (fIf (fTest (fBin oGt (fFn lLen (fCons (fVar 0) fNil)) (fC (.int 1)))) (fIf (fTest (fVar 3)) (fSl (fVar 0) (fPs (fC (.int 1))) fPn) (fSl (fVar 0) fPn (fPs (fNeg (fC (.int 1)))))) (fC .non))) fNext) (fRet (fIf (fTest (fVar 3)) (fBin oAdd (fLst (fCons (fBin oMul1 (fLst (fCons (fBin oIx (fVar 1) (fC (.int 2))) fNil)) (fVar 2)) fNil)) (fVar 0)) (fBin oAdd (fVar 0) (fLst (fCons (fBin oMul1 (fLst (fCons (fBin oIx (fVar 1) (fC (.int 2))) fNil)) (fVar 2)) fNil))))))) fNext) (fSeq (fSet 4 (fBin oEq (fBin oIx (fVar 1) (fC (.int 1))) (fC (.str "left")))) (fSeq (fIfS (fTest (fBin oEq (fBin oIx (fVar 1) (fC (.int 0))) (fC (.str "cut")))) (fRet (fIf (fTest (fBin oGt (fVar 2) (fC (.int 1)))) (fLc (iSq (fVar 0)) (fGn 5) fYes (fIf (fTest (fVar 4)) (fSl (fVar 5) (fPs (fC (.int 1))) fPn) (fSl (fVar 5) fPn (fPs (fNeg (fC (.int 1)))))) [5]) (fC .non))) fNext) (fRet (fLc (iSq (fVar 0)) (fGn 5) fYes (fIf (fTest (fVar 4)) (fBin oAdd (fLst (fCons (fBin oIx (fVar 1) (fC (.int 2))) fNil)) (fVar 5)) (fBin oAdd (fVar 5) (fLst (fCons (fBin oIx (fVar 1) (fC (.int 2))) fNil)))) [5]))))))))
def e_l_after : fF := fBody p_l_after 5
def p_l_run : fS := (fSeq (fFor (iEn (fVar 1)) (fGt 2 (fGc (fGn 2) (fGc (fGn 3) fGl))) (fSeq (fSet 0 (fCall e_l_after 2 [] (fCons (fVar 0) (fCons (fVar 3) fNil)))) (fIfS (fTest (fBin oIsN (fVar 0) (fC .non))) (fRet (fLst (fCons (fC .non) (fCons (fVar 2) fNil)))) fNext))) (fRet (fLst (fCons (fVar 0) (fCons (fC .non) fNil)))))
def e_l_run : fF := fBody p_l_run 2
def p_l_tuples : fS := (fRet (fFn lTuple (fCons (fLc (iSq (fVar 0)) (fGn 1) fYes (fFn lTuple (fCons (fVar 1) fNil)) [1]) fNil)))
def e_l_tuples : fF := fBody p_l_tuples 1
def p_l_random_symmetry : fS := (fRet (fMake "Symmetry" e_Symmetry_init_ 3 [] (fCons (fCall e_l_draw 2 [] (fCons (fVar 0) (fCons (fC (.int 4)) fNil))) (fCons (fBin oEq (fCall e_l_draw 2 [] (fCons (fVar 0) (fCons (fC (.int 2)) fNil))) (fC (.int 1))) fNil))))
def e_l_random_symmetry : fF := fBody p_l_random_symmetry 0
end PA

set_option Elab.async false
set_option linter.all false
set_option maxRecDepth 100000
set_option maxHeartbeats 4000000
/-! the laws' own small functions: draws, random pictures, steps on lists of lists -/
namespace TQ
open PySem PySem.Spec PyProof.Rows L2 DL FL PD TP
local macro_rules | `(tactic| walk_at "op") => `(tactic| first
  | with_reducible assumption
  | with_reducible exact oEq_int | with_reducible exact oNe_int | with_reducible exact oAdd_int | with_reducible exact oSub_int | with_reducible exact oLt_int | with_reducible exact oLe_int | with_reducible exact oGt_int | with_reducible exact oGe_int
  | with_reducible exact oEq_str (by decide +kernel) (by decide +kernel)
  | with_reducible exact oNotN_e | with_reducible exact oIsN_e
  | with_reducible exact pow9 | with_reducible exact pow18 | with_reducible exact pow20 | with_reducible exact pow25 | with_reducible exact pow30
  | with_reducible exact oMod_int (by omega) | with_reducible exact oDiv_int (by omega) (by omega) | with_reducible exact oDiv_big (by omega) (by omega) | with_reducible exact oMul1_b | with_reducible exact oMul1_int (by omega) | with_reducible exact oMul1_intR (by omega)
  | ((with_reducible show oIx _ _ = _); first | exact oIx_t0 | exact oIx_l0 | (refine Eq.trans oIx_tup ?_; exact rfl) | (refine Eq.trans oIx_lst ?_; exact rfl))
  | ((with_reducible show oIn _ _ = _); exact rfl) | ((with_reducible show oNotIn _ _ = _); exact rfl)
  | with_reducible exact oCut_t1 | with_reducible exact oCut_t9 | with_reducible exact oCut_l1 | with_reducible exact oCut_l9)
local macro_rules | `(tactic| walk_at "fn") => `(tactic| first
  | ((with_reducible show lLen _ = _); exact rfl) | ((with_reducible show lTuple _ = _); exact rfl) | ((with_reducible show lListF _ = _); exact rfl) | ((with_reducible show lInt _ = _); exact rfl) | ((with_reducible show lAbs _ = _); exact rfl) | ((with_reducible show lMax _ = _); exact rfl) | ((with_reducible show lMin _ = _); exact rfl) | ((with_reducible show oCut _ _ _ = _); exact rfl))
local macro_rules | `(tactic| walk_at "br") => `(tactic| first | decide +kernel | with_reducible assumption | decide | exact rfl)
local macro_rules | `(tactic| walk_at "g1") => `(tactic| first
  | with_reducible refine wp_seq ?_
  | ((with_reducible apply wp_var); (exact rfl))
  | with_reducible refine wp_c ?_
  | with_reducible refine wp_bin ?_
  | ((with_reducible apply gw_op); (first | walk_at "op" | walk_at "fn"))
  | with_reducible refine wp_test ?_
  | with_reducible refine gw_bl ?_
  | with_reducible refine wp_ifS ?_
  | ((with_reducible apply gw_t); (walk_at "br"))
  | ((with_reducible apply gw_f); (walk_at "br"))
  | with_reducible refine wp_set ?_
  | with_reducible refine wp_cons ?_
  | with_reducible refine wp_nil ?_
  | with_reducible refine wp_ret ?_
  | with_reducible refine wp_next ?_
  | with_reducible refine wp_call ?_
  | ((with_reducible apply gw_len); (exact rfl))
  | with_reducible refine wp_drop ?_
  | with_reducible refine wp_fn ?_
  | with_reducible refine wp_tup ?_
  | with_reducible refine wp_lst ?_
  | ((with_reducible apply gw_sz); (exact rfl))
  | with_reducible refine wp_and ?_
  | with_reducible refine wp_or ?_
  | with_reducible refine wp_not ?_
  | with_reducible refine wp_andV ?_
  | with_reducible refine wp_orV ?_
  | with_reducible refine wp_notV ?_
  | with_reducible refine wp_if ?_
  | with_reducible refine wp_fld ?_
  | ((with_reducible apply gw_fld); (exact rfl); (exact rfl))
  | with_reducible refine wp_prop ?_
  | with_reducible refine wp_meth0 ?_
  | with_reducible refine wp_meth ?_
  | ((with_reducible apply gw_ins); (exact rfl); (decide))
  | ((with_reducible apply gw_ins1); (exact rfl))
  | with_reducible refine wp_isi ?_
  | ((with_reducible apply gw_isi); (exact rfl); (exact rfl))
  | with_reducible refine wp_isC ?_
  | ((with_reducible apply gw_isC); (first | with_reducible assumption | exact rfl))
  | with_reducible refine wp_sl ?_
  | with_reducible refine wp_pn ?_
  | with_reducible refine wp_ps ?_
  | with_reducible refine gw_int ?_
  | with_reducible refine wp_neg ?_
  | with_reducible refine wp_back ?_
  | with_reducible refine gw_backT ?_
  | with_reducible refine gw_backL ?_
  | with_reducible refine wp_asg ?_
  | ((with_reducible apply gw_asg); (first | exact rfl | exact gsub_e rfl rfl (by first | with_reducible assumption | exact set_at (by with_reducible assumption)) rfl))
  | with_reducible refine wp_ixO ?_
  | ((with_reducible apply gw_ix); (exact rfl); (exact rfl); (first | exact rfl | with_reducible assumption | exact set_at (by with_reducible assumption)); (exact rfl))
  | with_reducible refine wp_lc ?_
  | with_reducible refine wp_for ?_
  | with_reducible refine wp_iSq ?_
  | ((with_reducible apply gw_seq); (exact rfl))
  | with_reducible refine wp_iEn ?_
  | with_reducible refine wp_iR1 ?_
  | ((with_reducible apply gw_r1); (omega))
  | with_reducible refine wp_make ?_
  | with_reducible refine wp_opI ?_
  | ((with_reducible apply gw_two_ins); (exact rfl); (exact rfl))
  | with_reducible refine wp_raise ?_
  | with_reducible refine gw_one ?_
  | with_reducible refine wp_try ?_
  | ((with_reducible apply wp_pickT1); (focus decide +kernel); (focus (simp; done)))
  | ((with_reducible apply wp_pickF1); (focus decide +kernel))
  | ((with_reducible apply wp_xf); (exact rfl); (exact rfl); (exact rfl))
  | with_reducible refine wp_tidx ?_
  | ((with_reducible apply gw_tix); (exact rfl); (exact rfl))
  | with_reducible refine wp_kix ?_
  | ((with_reducible apply gw_kix); (exact rfl); (exact rfl))
  | with_reducible refine wp_lstO ?_
  | with_reducible refine wp_retN ?_
  | with_reducible refine wp_brk ?_
  | with_reducible refine wp_cont ?_
  | with_reducible refine wp_par ?_
  | with_reducible refine wp_chain ?_
  | with_reducible refine wp_join ?_
  | with_reducible refine wp_reprI ?_
  | with_reducible refine wp_eqI ?_
  | ((with_reducible apply gw_t); (focus (simp; done)))
  | ((with_reducible apply gw_f); (focus (simp; done))))
local macro_rules | `(tactic| walk_at "g") => `(tactic| repeat walk_at "g1")
variable {st : FL.St} {h w : Nat} {g : Grid} {Q : D → FL.St → Prop} {X : Exn → FL.St → Prop}
abbrev po (a b : Int) : Option DO := some (.lst [.int a, .int b])
theorem draw_wp {n : Nat} {a b c : Int} (hs : st[n]? = some (po a b)) (hc : 0 < c) (h2 : c ≤ 10000000000000000000000000000000000000000) (k : ∀ r a' b', 0 ≤ r → r < c → Q (.int r) (st.set n (po a' b'))) : (PA.e_l_draw [.loc n, .int c] st).wp Q X := by
  refine wp_body ?_
  unfold PA.p_l_draw
  walk_at "g"
  refine gw_two (fun ha => ?_) (fun ha => ?_)
  · walk_at "g"
    rw [gcF_len (by simp)]
    exact k _ _ _ (Int.emod_nonneg _ (by omega)) (Int.emod_lt_of_pos _ hc)
  · walk_at "g"
    rw [gcF_len (by simp)]
    exact k _ _ _ (Int.emod_nonneg _ (by omega)) (Int.emod_lt_of_pos _ hc)
theorem pool_wp {ns : List Int} {j : Int} (hj : 0 ≤ j) (hj2 : j ≤ 1000) (k : ∀ a b, Q (.loc st.length) (st ++ [po a b])) : (PA.e_l_pool [.frz (ns.map D.int), .int j] st).wp Q X := by
  refine wp_body ?_
  unfold PA.p_l_pool
  obtain ⟨z, hz⟩ := lSum_cut (xs := ns) (lo := none) (hi := some 63)
  have hl : lLen [.frz (ns.map D.int)] = some (.int ((ns.length : Nat) : Int)) := by
    show some (D.int (((ns.map D.int).length : Nat) : Int)) = _
    rw [List.length_map]
  walk_at "g"
  refine gw_two (fun hb => ?_) (fun hb => ?_)
  · have a := at_nat (ds := ns.map D.int) (k := j.toNat) (by rw [List.length_map]; omega)
    rw [List.getElem_map, Int.toNat_of_nonneg hj] at a
    have a : oIx (.frz (ns.map D.int)) (.int j) = _ := a
    walk_at "g"
    exact k _ _
  · walk_at "g"
    exact k _ _
theorem set_set' {n : Nat} {x y : Option DO} : (st.set n x).set n y = st.set n y := List.set_set ..
theorem rpic_wp {n : Nat} {a b m c : Int} (hs : st[n]? = some (po a b)) (hm : 0 < m) (hm2 : m ≤ 900) (hc : 0 < c) (hc2 : c ≤ 1000000)
    (k : ∀ g h w a' b', Grd h w g → (h : Int) ≤ m → (w : Int) ≤ m → Q (lG g) (st.set n (po a' b'))) : (PA.e_l_random_picture [.loc n, .int m, .int c] st).wp Q X := by
  refine wp_body ?_
  unfold PA.p_l_random_picture
  walk_at "g"
  refine draw_wp hs hm (by omega) fun h0 a1 b1 p0 p1 => ?_
  walk_at "g"
  refine draw_wp (set_at hs) hm (by omega) fun w0 a2 b2 q0 q1 => ?_
  walk_at "g"
  rw [set_set']
  refine wp_lc_inv (enc := fun i : Nat => D.int (0 + i)) (xs := List.range (1 + h0).toNat) (fun pre ys s => ∃ g : Grid, ys = g.map lR ∧ (∀ r ∈ g, r.length = (1 + w0).toNat ∧ ∀ x ∈ r, 0 ≤ x) ∧ ∃ a' b', s = st.set n (po a' b')) (by simp; omega) ⟨[], rfl, by simp, _, _, rfl⟩ ?_ ?_
  · rintro pre x post ys s e le ⟨g, rfl, hg, a', b', rfl⟩
    refine ⟨_, _, rfl, ?_⟩
    walk_at "g"
    refine wp_lc_inv (enc := fun i : Nat => D.int (0 + i)) (xs := List.range (1 + w0).toNat) (fun pre ys s => ∃ r : List Int, ys = r.map D.int ∧ (∀ x ∈ r, 0 ≤ x) ∧ ∃ a' b', s = st.set n (po a' b')) (by simp; omega) ⟨[], rfl, by simp, _, _, rfl⟩ ?_ ?_
    · rintro pre x post ys s e le ⟨r, rfl, hr, a', b', rfl⟩
      refine ⟨_, _, rfl, ?_⟩
      walk_at "g"
      refine draw_wp (set_at hs) hc (by omega) fun v a3 b3 v0 v1 => ?_
      refine ⟨r ++ [v], by simp, ?_, a3, b3, by rw [set_set']⟩
      intro x hx
      rcases List.mem_append.mp hx with hx | hx
      · exact hr x hx
      · rw [List.mem_singleton.mp hx]
        exact v0
    · rintro ys s le ⟨r, rfl, hr, a', b', rfl⟩
      walk_at "g"
      refine ⟨g ++ [r], by simp, ?_, a', b', rfl⟩
      intro q hq
      rcases List.mem_append.mp hq with hq | hq
      · exact hg q hq
      · rw [List.mem_singleton.mp hq]
        exact ⟨by simpa using le, hr⟩
  · rintro ys s le ⟨g, rfl, hg, a', b', rfl⟩
    walk_at "g"
    rw [gcF_len (by simp)]
    refine k g (1 + h0).toNat (1 + w0).toNat a' b' ⟨⟨by simpa using le, fun r hr => (hg r hr).1⟩, by omega, by omega, by omega, by omega, fun r hr => (hg r hr).2⟩ (by omega) (by omega)
end TQ

set_option Elab.async false
set_option linter.all false
set_option maxRecDepth 100000
set_option maxHeartbeats 4000000
namespace TQ
open PySem PySem.Spec PyProof.Rows L2 DL FL PD TP
local macro_rules | `(tactic| walk_at "op") => `(tactic| first
  | with_reducible assumption
  | with_reducible exact oEq_int | with_reducible exact oNe_int | with_reducible exact oAdd_int | with_reducible exact oSub_int | with_reducible exact oLt_int | with_reducible exact oLe_int | with_reducible exact oGt_int | with_reducible exact oGe_int
  | with_reducible exact oEq_str (by decide +kernel) (by decide +kernel)
  | with_reducible exact oNotN_e | with_reducible exact oIsN_e
  | with_reducible exact pow9 | with_reducible exact pow18 | with_reducible exact pow20 | with_reducible exact pow25 | with_reducible exact pow30
  | with_reducible exact oMod_int (by omega) | with_reducible exact oDiv_int (by omega) (by omega) | with_reducible exact oDiv_big (by omega) (by omega) | with_reducible exact oMul1_b | with_reducible exact oMul1_int (by omega) | with_reducible exact oMul1_intR (by omega)
  | ((with_reducible show oIx _ _ = _); first | exact oIx_t0 | exact oIx_l0 | (refine Eq.trans oIx_tup ?_; exact rfl) | (refine Eq.trans oIx_lst ?_; exact rfl))
  | ((with_reducible show oIn _ _ = _); exact rfl) | ((with_reducible show oNotIn _ _ = _); exact rfl)
  | with_reducible exact oCut_t1 | with_reducible exact oCut_t9 | with_reducible exact oCut_l1 | with_reducible exact oCut_l9)
local macro_rules | `(tactic| walk_at "fn") => `(tactic| first
  | ((with_reducible show lLen _ = _); exact rfl) | ((with_reducible show lTuple _ = _); exact rfl) | ((with_reducible show lListF _ = _); exact rfl) | ((with_reducible show lInt _ = _); exact rfl) | ((with_reducible show lAbs _ = _); exact rfl) | ((with_reducible show lMax _ = _); exact rfl) | ((with_reducible show lMin _ = _); exact rfl) | ((with_reducible show oCut _ _ _ = _); exact rfl))
local macro_rules | `(tactic| walk_at "br") => `(tactic| first | decide +kernel | with_reducible assumption | decide | exact rfl)
local macro_rules | `(tactic| walk_at "g1") => `(tactic| first
  | with_reducible refine wp_seq ?_
  | ((with_reducible apply wp_var); (exact rfl))
  | with_reducible refine wp_c ?_
  | with_reducible refine wp_bin ?_
  | ((with_reducible apply gw_op); (first | walk_at "op" | walk_at "fn"))
  | with_reducible refine wp_test ?_
  | with_reducible refine gw_bl ?_
  | with_reducible refine wp_ifS ?_
  | ((with_reducible apply gw_t); (walk_at "br"))
  | ((with_reducible apply gw_f); (walk_at "br"))
  | with_reducible refine wp_set ?_
  | with_reducible refine wp_cons ?_
  | with_reducible refine wp_nil ?_
  | with_reducible refine wp_ret ?_
  | with_reducible refine wp_next ?_
  | with_reducible refine wp_call ?_
  | ((with_reducible apply gw_len); (exact rfl))
  | with_reducible refine wp_drop ?_
  | with_reducible refine wp_fn ?_
  | with_reducible refine wp_tup ?_
  | with_reducible refine wp_lst ?_
  | ((with_reducible apply gw_sz); (exact rfl))
  | with_reducible refine wp_and ?_
  | with_reducible refine wp_or ?_
  | with_reducible refine wp_not ?_
  | with_reducible refine wp_andV ?_
  | with_reducible refine wp_orV ?_
  | with_reducible refine wp_notV ?_
  | with_reducible refine wp_if ?_
  | with_reducible refine wp_fld ?_
  | ((with_reducible apply gw_fld); (exact rfl); (exact rfl))
  | with_reducible refine wp_prop ?_
  | with_reducible refine wp_meth0 ?_
  | with_reducible refine wp_meth ?_
  | ((with_reducible apply gw_ins); (exact rfl); (decide))
  | ((with_reducible apply gw_ins1); (exact rfl))
  | with_reducible refine wp_isi ?_
  | ((with_reducible apply gw_isi); (exact rfl); (exact rfl))
  | with_reducible refine wp_isC ?_
  | ((with_reducible apply gw_isC); (first | with_reducible assumption | exact rfl))
  | with_reducible refine wp_sl ?_
  | with_reducible refine wp_pn ?_
  | with_reducible refine wp_ps ?_
  | with_reducible refine gw_int ?_
  | with_reducible refine wp_neg ?_
  | with_reducible refine wp_back ?_
  | with_reducible refine gw_backT ?_
  | with_reducible refine gw_backL ?_
  | with_reducible refine wp_asg ?_
  | ((with_reducible apply gw_asg); (first | exact rfl | exact gsub_e rfl rfl (by first | with_reducible assumption | exact set_at (by with_reducible assumption)) rfl))
  | with_reducible refine wp_ixO ?_
  | ((with_reducible apply gw_ix); (exact rfl); (exact rfl); (first | exact rfl | with_reducible assumption | exact set_at (by with_reducible assumption)); (exact rfl))
  | with_reducible refine wp_lc ?_
  | with_reducible refine wp_for ?_
  | with_reducible refine wp_iSq ?_
  | ((with_reducible apply gw_seq); (exact rfl))
  | with_reducible refine wp_iEn ?_
  | with_reducible refine wp_iR1 ?_
  | ((with_reducible apply gw_r1); (omega))
  | with_reducible refine wp_make ?_
  | with_reducible refine wp_opI ?_
  | ((with_reducible apply gw_two_ins); (exact rfl); (exact rfl))
  | with_reducible refine wp_raise ?_
  | with_reducible refine gw_one ?_
  | with_reducible refine wp_try ?_
  | ((with_reducible apply wp_pickT1); (focus decide +kernel); (focus (simp; done)))
  | ((with_reducible apply wp_pickF1); (focus decide +kernel))
  | ((with_reducible apply wp_xf); (exact rfl); (exact rfl); (exact rfl))
  | with_reducible refine wp_tidx ?_
  | ((with_reducible apply gw_tix); (exact rfl); (exact rfl))
  | with_reducible refine wp_kix ?_
  | ((with_reducible apply gw_kix); (exact rfl); (exact rfl))
  | with_reducible refine wp_lstO ?_
  | with_reducible refine wp_retN ?_
  | with_reducible refine wp_brk ?_
  | with_reducible refine wp_cont ?_
  | with_reducible refine wp_par ?_
  | with_reducible refine wp_chain ?_
  | with_reducible refine wp_join ?_
  | with_reducible refine wp_reprI ?_
  | with_reducible refine wp_eqI ?_
  | ((with_reducible apply gw_t); (focus (simp; done)))
  | ((with_reducible apply gw_f); (focus (simp; done))))
local macro_rules | `(tactic| walk_at "g") => `(tactic| repeat walk_at "g1")
variable {st : FL.St} {h w : Nat} {g : Grid} {Q : D → FL.St → Prop} {X : Exn → FL.St → Prop}
def aft (h w : Nat) : TP.Sp → Grid → Option Grid
  | .turn, g => some (turnG w g)
  | .mir, g => some (mirG g)
  | .cut s, g => if lastG s h w = true then none else some (cutG s g)
  | .add s c, g => some (addG w c s g)
def optD : Option Grid → D
  | none => .non
  | some g => lG g
theorem tuples_e (hl : g.length ≤ 1000000) : PA.e_l_tuples [lG g] st = .ok (tG g) st := by
  refine Res.eq_wp (wp_body0 ?_)
  unfold PA.p_l_tuples
  walk_at "g"
  refine wp_lc_map (enc := lR) tR hl ?_ ?_
  · intro r hr
    refine ⟨_, rfl, ?_⟩
    walk_at "g"
    exact ⟨rfl, rfl⟩
  · walk_at "g"
    exact ⟨rfl, rfl, rfl⟩
theorem getD_int' {r : List Int} {j : Nat} (h : j < r.length) : atI (r.map D.int) (0 + (j : Int)) = some (.int (r.getD j 0)) := by
  have a := at_nat (ds := r.map D.int) (k := j) (by rw [List.length_map]; exact h)
  rw [Int.zero_add, a, List.getElem_map]
  simp [List.getD, h]
theorem after_turn (k : Grd h w g) : PA.e_l_after [lG g, (TP.Sp.turn).d] st = .ok (lG (turnG w g)) st := by
  obtain ⟨r, rs, e, l⟩ := k.r.head k.hh
  have kr := k.r
  have hh := k.h1
  have hw := k.w1
  have rh := kr.h
  have ix : oIx (lG g) (.int 0) = some (lR r) := by rw [e]; exact oIx_l0
  have hl : lLen [lR r] = some (.int ((w : Nat) : Int)) := by
    show some (D.int (((r.map D.int).length : Nat) : Int)) = _
    rw [List.length_map, l]
  refine Res.eq_wp (wp_body0 ?_)
  unfold PA.p_l_after
  walk_at "g"
  refine wp_lc_map (enc := fun i : Nat => D.int (0 + i)) (xs := List.range w) (fun j => lR (g.reverse.map fun r => r.getD j 0)) (by simp; omega) ?_ ?_
  · intro j hj
    have hj := List.mem_range.mp hj
    refine ⟨_, rfl, ?_⟩
    walk_at "g"
    rw [← List.map_reverse]
    refine wp_lc_map (enc := lR) (xs := g.reverse) (fun r => .int (r.getD j 0)) (by simp; omega) ?_ ?_
    · intro q hq
      refine ⟨_, rfl, ?_⟩
      walk_at "g"
      exact ⟨_, getD_int' (by rw [kr.w q (List.mem_reverse.mp hq)]; exact hj), rfl, rfl⟩
    · exact ⟨by simp [lR, List.map_map, Function.comp], rfl⟩
  · exact ⟨rfl, by simp [TP.turnG, lG, List.map_map, Function.comp], rfl⟩
theorem after_mir (k : Grd h w g) : PA.e_l_after [lG g, (TP.Sp.mir).d] st = .ok (lG (mirG g)) st := by
  obtain ⟨r, rs, e, l⟩ := k.r.head k.hh
  have rh := k.r.h
  have hh := k.h1
  have ix : oIx (lG g) (.int 0) = some (lR r) := by rw [e]; exact oIx_l0
  refine Res.eq_wp (wp_body0 ?_)
  unfold PA.p_l_after
  walk_at "g"
  refine wp_lc_map (enc := lR) (fun r => lR r.reverse) (by omega) ?_ ?_
  · intro q hq
    refine ⟨_, rfl, ?_⟩
    walk_at "g"
    exact ⟨by simp [lR], rfl⟩
  · exact ⟨rfl, by simp [mirG, lG, List.map_map, Function.comp], rfl⟩
theorem gt_one {n : Nat} (h : 1 ≤ n) : decide ((1 : Int) < (n : Int)) = !decide (n = 1) := by
  by_cases q : n = 1
  · subst q; decide
  · have : (1 : Int) < (n : Int) := by omega
    simp [q, this]
theorem after_cut {s : Sd} (k : Grd h w g) : PA.e_l_after [lG g, (TP.Sp.cut s).d] st = .ok (optD (aft h w (.cut s) g)) st := by
  obtain ⟨r, rs, e, l⟩ := k.r.head k.hh
  have rh := k.r.h
  have hh := k.h1
  have hh0 := k.hh
  have hw0 := k.hw
  have ix : oIx (lG g) (.int 0) = some (lR r) := by rw [e]; exact oIx_l0
  have hl : lLen [lR r] = some (.int ((w : Nat) : Int)) := by
    show some (D.int (((r.map D.int).length : Nat) : Int)) = _
    rw [List.length_map, l]
  have hg : lLen [lG g] = some (.int ((h : Nat) : Int)) := by
    show some (D.int (((g.map lR).length : Nat) : Int)) = _
    rw [List.length_map, rh]
  refine Res.eq_wp (wp_body0 ?_)
  unfold PA.p_l_after
  cases s
  case top =>
    walk_at "g"
    refine gw_two (fun hb => ?_) (fun hb => ?_)
    · walk_at "g"
      have : lastG .top h w = false := by simp [lastG]; omega
      exact ⟨rfl, by rw [aft, this]; simp [optD, cutG, lG], rfl⟩
    · walk_at "g"
      have : lastG .top h w = true := by simp [lastG]; omega
      exact ⟨rfl, by rw [aft, this]; rfl, rfl⟩
  case bottom =>
    walk_at "g"
    refine gw_two (fun hb => ?_) (fun hb => ?_)
    · walk_at "g"
      have : lastG .bottom h w = false := by simp [lastG]; omega
      exact ⟨rfl, by rw [aft, this]; simp [optD, cutG, lG], rfl⟩
    · walk_at "g"
      have : lastG .bottom h w = true := by simp [lastG]; omega
      exact ⟨rfl, by rw [aft, this]; rfl, rfl⟩
  case left =>
    walk_at "g"
    refine gw_two (fun hb => ?_) (fun hb => ?_)
    · walk_at "g"
      have : lastG .left h w = false := by simp [lastG]; omega
      refine wp_lc_map (enc := lR) (fun r => lR (r.drop 1)) (by omega) ?_ ?_
      · intro q hq
        refine ⟨_, rfl, ?_⟩
        walk_at "g"
        exact ⟨by simp [lR], rfl⟩
      · exact ⟨rfl, by rw [aft, this]; simp [optD, cutG, lG, List.map_map, Function.comp], rfl⟩
    · walk_at "g"
      have : lastG .left h w = true := by simp [lastG]; omega
      exact ⟨rfl, by rw [aft, this]; rfl, rfl⟩
  case right =>
    walk_at "g"
    refine gw_two (fun hb => ?_) (fun hb => ?_)
    · walk_at "g"
      have : lastG .right h w = false := by simp [lastG]; omega
      refine wp_lc_map (enc := lR) (fun r => lR (r.take (r.length - 1))) (by omega) ?_ ?_
      · intro q hq
        refine ⟨_, rfl, ?_⟩
        walk_at "g"
        exact ⟨by simp [lR], rfl⟩
      · exact ⟨rfl, by rw [aft, this]; simp [optD, cutG, lG, List.map_map, Function.comp], rfl⟩
    · walk_at "g"
      have : lastG .right h w = true := by simp [lastG]; omega
      exact ⟨rfl, by rw [aft, this]; rfl, rfl⟩
theorem after_add {s : Sd} {c : Int} (k : Grd h w g) : PA.e_l_after [lG g, (TP.Sp.add s c).d] st = .ok (lG (addG w c s g)) st := by
  obtain ⟨r, rs, e, l⟩ := k.r.head k.hh
  have rh := k.r.h
  have hh := k.h1
  have hw1 := k.w1
  have ix : oIx (lG g) (.int 0) = some (lR r) := by rw [e]; exact oIx_l0
  have hl : lLen [lR r] = some (.int ((w : Nat) : Int)) := by
    show some (D.int (((r.map D.int).length : Nat) : Int)) = _
    rw [List.length_map, l]
  have m : oMul1 (.lst [.int c]) (.int ((w : Nat) : Int)) = some (lR (List.replicate w c)) := by
    rw [oMul1_l (by omega)]
    simp [lR]
  refine Res.eq_wp (wp_body0 ?_)
  unfold PA.p_l_after
  cases s
  case top =>
    walk_at "g"
    exact ⟨_, oAdd_ll (by simp; omega), rfl, rfl, rfl⟩
  case bottom =>
    walk_at "g"
    exact ⟨_, oAdd_ll (by simp; omega), rfl, by simp [addG, lG], rfl⟩
  case left =>
    walk_at "g"
    refine wp_lc_map (enc := lR) (fun r => lR (c :: r)) (by omega) ?_ ?_
    · intro q hq
      refine ⟨_, rfl, ?_⟩
      walk_at "g"
      exact ⟨_, oAdd_ll (by have := k.r.w q hq; simp; omega), by simp [lR], rfl⟩
    · exact ⟨rfl, by simp [addG, lG, List.map_map, Function.comp], rfl⟩
  case right =>
    walk_at "g"
    refine wp_lc_map (enc := lR) (fun r => lR (r ++ [c])) (by omega) ?_ ?_
    · intro q hq
      refine ⟨_, rfl, ?_⟩
      walk_at "g"
      exact ⟨_, oAdd_ll (by have := k.r.w q hq; simp; omega), by simp [lR], rfl⟩
    · exact ⟨rfl, by simp [addG, lG, List.map_map, Function.comp], rfl⟩
theorem after_e {p : TP.Sp} (k : Grd h w g) : PA.e_l_after [lG g, p.d] st = .ok (optD (aft h w p g)) st := by
  cases p with
  | turn => exact after_turn k
  | mir => exact after_mir k
  | cut s => exact after_cut k
  | add s c => exact after_add k
end TQ

set_option Elab.async false
set_option linter.all false
set_option maxRecDepth 100000
set_option maxHeartbeats 4000000
namespace K03
open PySem PySem.Spec PyProof.Rows L2 DL FL PD PA
def top (i : Nat) : Stmt := PySem.Challenge.pw_pictureframes_k03_single_steps.main.body.getD i (.Pass ⟨0, 0, 0, 0⟩)
abbrev s_is_whole : Stmt := top 10
theorem sc_is_whole : FnScope ["value"] ["value"] (defScope s_is_whole) := ⟨rfl, rfl, rfl, by decide +kernel, rfl, by decide +kernel, by decide +kernel⟩
abbrev s_is_count : Stmt := top 11
theorem sc_is_count : FnScope ["value"] ["value"] (defScope s_is_count) := ⟨rfl, rfl, rfl, by decide +kernel, rfl, by decide +kernel, by decide +kernel⟩
abbrev s_is_colour : Stmt := top 12
theorem sc_is_colour : FnScope ["value"] ["value"] (defScope s_is_colour) := ⟨rfl, rfl, rfl, by decide +kernel, rfl, by decide +kernel, by decide +kernel⟩
abbrev s_is_side : Stmt := top 13
theorem sc_is_side : FnScope ["value"] ["value"] (defScope s_is_side) := ⟨rfl, rfl, rfl, by decide +kernel, rfl, by decide +kernel, by decide +kernel⟩
abbrev s_InvalidColour_init_ : Stmt := inClass (top 3) 0
theorem sc_InvalidColour_init_ : FnScope ["self", "value"] ["self", "value"] (defScope s_InvalidColour_init_) := ⟨rfl, rfl, rfl, by decide +kernel, rfl, by decide +kernel, by decide +kernel⟩
abbrev s_InvalidSide_init_ : Stmt := inClass (top 4) 0
theorem sc_InvalidSide_init_ : FnScope ["self", "value"] ["self", "value"] (defScope s_InvalidSide_init_) := ⟨rfl, rfl, rfl, by decide +kernel, rfl, by decide +kernel, by decide +kernel⟩
abbrev s_InvalidPicture_init_ : Stmt := inClass (top 5) 0
theorem sc_InvalidPicture_init_ : FnScope ["self", "value"] ["self", "value"] (defScope s_InvalidPicture_init_) := ⟨rfl, rfl, rfl, by decide +kernel, rfl, by decide +kernel, by decide +kernel⟩
abbrev s_LastLine_init_ : Stmt := inClass (top 6) 0
theorem sc_LastLine_init_ : FnScope ["self", "index"] ["self", "index"] (defScope s_LastLine_init_) := ⟨rfl, rfl, rfl, by decide +kernel, rfl, by decide +kernel, by decide +kernel⟩
abbrev s_check_colour : Stmt := top 14
theorem sc_check_colour : FnScope ["colour"] ["colour"] (defScope s_check_colour) := ⟨rfl, rfl, rfl, by decide +kernel, rfl, by decide +kernel, by decide +kernel⟩
abbrev s_check_side : Stmt := top 15
theorem sc_check_side : FnScope ["side"] ["side"] (defScope s_check_side) := ⟨rfl, rfl, rfl, by decide +kernel, rfl, by decide +kernel, by decide +kernel⟩
abbrev s_turned_rows : Stmt := top 17
theorem sc_turned_rows : FnScope ["rows", "upwards"] ["rows"] (defScope s_turned_rows) := ⟨rfl, rfl, rfl, by decide +kernel, rfl, by decide +kernel, by decide +kernel⟩
abbrev s_mirrored_rows : Stmt := top 18
theorem sc_mirrored_rows : FnScope ["rows", "row"] ["rows"] (defScope s_mirrored_rows) := ⟨rfl, rfl, rfl, by decide +kernel, rfl, by decide +kernel, by decide +kernel⟩
abbrev s_is_last_line : Stmt := top 19
theorem sc_is_last_line : FnScope ["rows", "side"] ["rows", "side"] (defScope s_is_last_line) := ⟨rfl, rfl, rfl, by decide +kernel, rfl, by decide +kernel, by decide +kernel⟩
abbrev s_cut_rows : Stmt := top 20
theorem sc_cut_rows : FnScope ["rows", "side", "row"] ["rows", "side"] (defScope s_cut_rows) := ⟨rfl, rfl, rfl, by decide +kernel, rfl, by decide +kernel, by decide +kernel⟩
abbrev s_added_rows : Stmt := top 21
theorem sc_added_rows : FnScope ["rows", "side", "colour", "line", "row"] ["rows", "side", "colour"] (defScope s_added_rows) := ⟨rfl, rfl, rfl, by decide +kernel, rfl, by decide +kernel, by decide +kernel⟩
abbrev s_is_row : Stmt := top 22
theorem sc_is_row : FnScope ["value", "cell"] ["value"] (defScope s_is_row) := ⟨rfl, rfl, rfl, by decide +kernel, rfl, by decide +kernel, by decide +kernel⟩
abbrev s_is_grid : Stmt := top 23
theorem sc_is_grid : FnScope ["value", "row"] ["value"] (defScope s_is_grid) := ⟨rfl, rfl, rfl, by decide +kernel, rfl, by decide +kernel, by decide +kernel⟩
abbrev s_Picture_init_ : Stmt := inClass (top 24) 0
theorem sc_Picture_init_ : FnScope ["self", "rows", "row"] ["self", "rows"] (defScope s_Picture_init_) := ⟨rfl, rfl, rfl, by decide +kernel, rfl, by decide +kernel, by decide +kernel⟩
abbrev s_Picture_rows : Stmt := inClass (top 24) 3
theorem sc_Picture_rows : FnScope ["self"] ["self"] (defScope s_Picture_rows) := ⟨rfl, rfl, rfl, by decide +kernel, rfl, by decide +kernel, by decide +kernel⟩
abbrev s_Picture_turned : Stmt := inClass (top 24) 10
theorem sc_Picture_turned : FnScope ["self"] ["self"] (defScope s_Picture_turned) := ⟨rfl, rfl, rfl, by decide +kernel, rfl, by decide +kernel, by decide +kernel⟩
abbrev s_Picture_mirrored : Stmt := inClass (top 24) 11
theorem sc_Picture_mirrored : FnScope ["self"] ["self"] (defScope s_Picture_mirrored) := ⟨rfl, rfl, rfl, by decide +kernel, rfl, by decide +kernel, by decide +kernel⟩
abbrev s_Picture_cut : Stmt := inClass (top 24) 12
theorem sc_Picture_cut : FnScope ["self", "side"] ["self", "side"] (defScope s_Picture_cut) := ⟨rfl, rfl, rfl, by decide +kernel, rfl, by decide +kernel, by decide +kernel⟩
abbrev s_Picture_added : Stmt := inClass (top 24) 13
theorem sc_Picture_added : FnScope ["self", "side", "colour"] ["self", "side", "colour"] (defScope s_Picture_added) := ⟨rfl, rfl, rfl, by decide +kernel, rfl, by decide +kernel, by decide +kernel⟩
abbrev s_l_pool : Stmt := top 26
theorem sc_l_pool : FnScope ["script", "k", "cell", "great", "mixed"] ["script", "k"] (defScope s_l_pool) := ⟨rfl, rfl, rfl, by decide +kernel, rfl, by decide +kernel, by decide +kernel⟩
abbrev s_l_draw : Stmt := top 27
theorem sc_l_draw : FnScope ["pool", "many", "found"] ["pool", "many"] (defScope s_l_draw) := ⟨rfl, rfl, rfl, by decide +kernel, rfl, by decide +kernel, by decide +kernel⟩
abbrev s_l_random_picture : Stmt := top 28
theorem sc_l_random_picture : FnScope ["pool", "most", "colours", "height", "width", "row", "column"] ["pool", "most", "colours"] (defScope s_l_random_picture) := ⟨rfl, rfl, rfl, by decide +kernel, rfl, by decide +kernel, by decide +kernel⟩
abbrev s_l_after : Stmt := top 29
theorem sc_l_after : FnScope ["rows", "step", "width", "top", "left", "row", "column"] ["rows", "step"] (defScope s_l_after) := ⟨rfl, rfl, rfl, by decide +kernel, rfl, by decide +kernel, by decide +kernel⟩
abbrev s_l_tuples : Stmt := top 30
theorem sc_l_tuples : FnScope ["rows", "row"] ["rows"] (defScope s_l_tuples) := ⟨rfl, rfl, rfl, by decide +kernel, rfl, by decide +kernel, by decide +kernel⟩
abbrev s_l_done : Stmt := top 31
theorem sc_l_done : FnScope ["picture", "step", "e"] ["picture", "step"] (defScope s_l_done) := ⟨rfl, rfl, rfl, by decide +kernel, rfl, by decide +kernel, by decide +kernel⟩
abbrev s_law : Stmt := top 32
theorem sc_law : FnScope ["script", "k", "pool", "rows", "picture", "steps", "side", "step", "thing", "expected"] ["script"] (defScope s_law) := ⟨rfl, rfl, rfl, by decide +kernel, rfl, by decide +kernel, by decide +kernel⟩
structure Ad where
  a_is_whole : Addr
  fd_is_whole : FuncData
  a_is_count : Addr
  fd_is_count : FuncData
  a_is_colour : Addr
  fd_is_colour : FuncData
  a_is_side : Addr
  fd_is_side : FuncData
  a_InvalidColour_init_ : Addr
  fd_InvalidColour_init_ : FuncData
  a_InvalidSide_init_ : Addr
  fd_InvalidSide_init_ : FuncData
  a_InvalidPicture_init_ : Addr
  fd_InvalidPicture_init_ : FuncData
  a_LastLine_init_ : Addr
  fd_LastLine_init_ : FuncData
  a_check_colour : Addr
  fd_check_colour : FuncData
  a_check_side : Addr
  fd_check_side : FuncData
  a_turned_rows : Addr
  fd_turned_rows : FuncData
  a_mirrored_rows : Addr
  fd_mirrored_rows : FuncData
  a_is_last_line : Addr
  fd_is_last_line : FuncData
  a_cut_rows : Addr
  fd_cut_rows : FuncData
  a_added_rows : Addr
  fd_added_rows : FuncData
  a_is_row : Addr
  fd_is_row : FuncData
  a_is_grid : Addr
  fd_is_grid : FuncData
  a_Picture_init_ : Addr
  fd_Picture_init_ : FuncData
  a_Picture_rows : Addr
  fd_Picture_rows : FuncData
  a_Picture_turned : Addr
  fd_Picture_turned : FuncData
  a_Picture_mirrored : Addr
  fd_Picture_mirrored : FuncData
  a_Picture_cut : Addr
  fd_Picture_cut : FuncData
  a_Picture_added : Addr
  fd_Picture_added : FuncData
  a_l_pool : Addr
  fd_l_pool : FuncData
  a_l_draw : Addr
  fd_l_draw : FuncData
  a_l_random_picture : Addr
  fd_l_random_picture : FuncData
  a_l_after : Addr
  fd_l_after : FuncData
  a_l_tuples : Addr
  fd_l_tuples : FuncData
  a_l_done : Addr
  fd_l_done : FuncData
  a_law : Addr
  fd_law : FuncData
  c_InvalidColour : Addr
  c_InvalidSide : Addr
  c_InvalidPicture : Addr
  c_LastLine : Addr
  c_Picture : Addr
  p_Picture_rows : Addr
  k_SIDES : Addr
  o_SIDES : Obj

def clt (c y : Str) : Option Bool := if y ∈ (["InvalidColour", "InvalidSide", "InvalidPicture", "LastLine"] : List Str) then some (decide (y = c)) else none
structure Tx (w : World) (K : PySem.W.Frag) (mg : Str → Option Value) (base : Heap) (A : Ad) : Prop where
  mods : ∃ mm, base.Ns sysModules mm
  F_is_whole : Fun K "is_whole" "is_whole" s_is_whole A.a_is_whole A.fd_is_whole
  b_is_whole : Binds K A.fd_is_whole ["value"] []
  g_is_whole : mg "is_whole" = some (.ref A.a_is_whole)
  F_is_count : Fun K "is_count" "is_count" s_is_count A.a_is_count A.fd_is_count
  b_is_count : Binds K A.fd_is_count ["value"] []
  g_is_count : mg "is_count" = some (.ref A.a_is_count)
  F_is_colour : Fun K "is_colour" "is_colour" s_is_colour A.a_is_colour A.fd_is_colour
  b_is_colour : Binds K A.fd_is_colour ["value"] []
  g_is_colour : mg "is_colour" = some (.ref A.a_is_colour)
  F_is_side : Fun K "is_side" "is_side" s_is_side A.a_is_side A.fd_is_side
  b_is_side : Binds K A.fd_is_side ["value"] []
  g_is_side : mg "is_side" = some (.ref A.a_is_side)
  F_InvalidColour_init_ : Fun K "__init__" "InvalidColour.__init__" s_InvalidColour_init_ A.a_InvalidColour_init_ A.fd_InvalidColour_init_
  b_InvalidColour_init_ : Binds K A.fd_InvalidColour_init_ ["self", "value"] []
  F_InvalidSide_init_ : Fun K "__init__" "InvalidSide.__init__" s_InvalidSide_init_ A.a_InvalidSide_init_ A.fd_InvalidSide_init_
  b_InvalidSide_init_ : Binds K A.fd_InvalidSide_init_ ["self", "value"] []
  F_InvalidPicture_init_ : Fun K "__init__" "InvalidPicture.__init__" s_InvalidPicture_init_ A.a_InvalidPicture_init_ A.fd_InvalidPicture_init_
  b_InvalidPicture_init_ : Binds K A.fd_InvalidPicture_init_ ["self", "value"] []
  F_LastLine_init_ : Fun K "__init__" "LastLine.__init__" s_LastLine_init_ A.a_LastLine_init_ A.fd_LastLine_init_
  b_LastLine_init_ : Binds K A.fd_LastLine_init_ ["self", "index"] []
  F_check_colour : Fun K "check_colour" "check_colour" s_check_colour A.a_check_colour A.fd_check_colour
  b_check_colour : Binds K A.fd_check_colour ["colour"] []
  g_check_colour : mg "check_colour" = some (.ref A.a_check_colour)
  F_check_side : Fun K "check_side" "check_side" s_check_side A.a_check_side A.fd_check_side
  b_check_side : Binds K A.fd_check_side ["side"] []
  g_check_side : mg "check_side" = some (.ref A.a_check_side)
  F_turned_rows : Fun K "turned_rows" "turned_rows" s_turned_rows A.a_turned_rows A.fd_turned_rows
  b_turned_rows : Binds K A.fd_turned_rows ["rows"] []
  g_turned_rows : mg "turned_rows" = some (.ref A.a_turned_rows)
  F_mirrored_rows : Fun K "mirrored_rows" "mirrored_rows" s_mirrored_rows A.a_mirrored_rows A.fd_mirrored_rows
  b_mirrored_rows : Binds K A.fd_mirrored_rows ["rows"] []
  g_mirrored_rows : mg "mirrored_rows" = some (.ref A.a_mirrored_rows)
  F_is_last_line : Fun K "is_last_line" "is_last_line" s_is_last_line A.a_is_last_line A.fd_is_last_line
  b_is_last_line : Binds K A.fd_is_last_line ["rows", "side"] []
  g_is_last_line : mg "is_last_line" = some (.ref A.a_is_last_line)
  F_cut_rows : Fun K "cut_rows" "cut_rows" s_cut_rows A.a_cut_rows A.fd_cut_rows
  b_cut_rows : Binds K A.fd_cut_rows ["rows", "side"] []
  g_cut_rows : mg "cut_rows" = some (.ref A.a_cut_rows)
  F_added_rows : Fun K "added_rows" "added_rows" s_added_rows A.a_added_rows A.fd_added_rows
  b_added_rows : Binds K A.fd_added_rows ["rows", "side", "colour"] []
  g_added_rows : mg "added_rows" = some (.ref A.a_added_rows)
  F_is_row : Fun K "_is_row" "_is_row" s_is_row A.a_is_row A.fd_is_row
  b_is_row : Binds K A.fd_is_row ["value"] []
  g_is_row : mg "_is_row" = some (.ref A.a_is_row)
  F_is_grid : Fun K "_is_grid" "_is_grid" s_is_grid A.a_is_grid A.fd_is_grid
  b_is_grid : Binds K A.fd_is_grid ["value"] []
  g_is_grid : mg "_is_grid" = some (.ref A.a_is_grid)
  F_Picture_init_ : Fun K "__init__" "Picture.__init__" s_Picture_init_ A.a_Picture_init_ A.fd_Picture_init_
  b_Picture_init_ : Binds K A.fd_Picture_init_ ["self", "rows"] []
  F_Picture_rows : Fun K "rows" "Picture.rows" s_Picture_rows A.a_Picture_rows A.fd_Picture_rows
  b_Picture_rows : Binds K A.fd_Picture_rows ["self"] []
  F_Picture_turned : Fun K "turned" "Picture.turned" s_Picture_turned A.a_Picture_turned A.fd_Picture_turned
  b_Picture_turned : Binds K A.fd_Picture_turned ["self"] []
  F_Picture_mirrored : Fun K "mirrored" "Picture.mirrored" s_Picture_mirrored A.a_Picture_mirrored A.fd_Picture_mirrored
  b_Picture_mirrored : Binds K A.fd_Picture_mirrored ["self"] []
  F_Picture_cut : Fun K "cut" "Picture.cut" s_Picture_cut A.a_Picture_cut A.fd_Picture_cut
  b_Picture_cut : Binds K A.fd_Picture_cut ["self", "side"] []
  F_Picture_added : Fun K "added" "Picture.added" s_Picture_added A.a_Picture_added A.fd_Picture_added
  b_Picture_added : Binds K A.fd_Picture_added ["self", "side", "colour"] []
  F_l_pool : Fun K "_law_pool" "_law_pool" s_l_pool A.a_l_pool A.fd_l_pool
  b_l_pool : Binds K A.fd_l_pool ["script", "k"] []
  g_l_pool : mg "_law_pool" = some (.ref A.a_l_pool)
  F_l_draw : Fun K "_law_draw" "_law_draw" s_l_draw A.a_l_draw A.fd_l_draw
  b_l_draw : Binds K A.fd_l_draw ["pool", "many"] []
  g_l_draw : mg "_law_draw" = some (.ref A.a_l_draw)
  F_l_random_picture : Fun K "_law_random_picture" "_law_random_picture" s_l_random_picture A.a_l_random_picture A.fd_l_random_picture
  b_l_random_picture : Binds K A.fd_l_random_picture ["pool", "most", "colours"] []
  g_l_random_picture : mg "_law_random_picture" = some (.ref A.a_l_random_picture)
  F_l_after : Fun K "_law_after" "_law_after" s_l_after A.a_l_after A.fd_l_after
  b_l_after : Binds K A.fd_l_after ["rows", "step"] []
  g_l_after : mg "_law_after" = some (.ref A.a_l_after)
  F_l_tuples : Fun K "_law_tuples" "_law_tuples" s_l_tuples A.a_l_tuples A.fd_l_tuples
  b_l_tuples : Binds K A.fd_l_tuples ["rows"] []
  g_l_tuples : mg "_law_tuples" = some (.ref A.a_l_tuples)
  F_l_done : Fun K "_law_done" "_law_done" s_l_done A.a_l_done A.fd_l_done
  b_l_done : Binds K A.fd_l_done ["picture", "step"] []
  g_l_done : mg "_law_done" = some (.ref A.a_l_done)
  F_law : Fun K "law" "law" s_law A.a_law A.fd_law
  b_law : Binds K A.fd_law ["script"] []
  g_law : mg "law" = some (.ref A.a_law)
  g_SIDES : GlE K mg "SIDES" (.tup [.str "top", .str "right", .str "bottom", .str "left"])
  h_SIDES : mg "SIDES" = some (.ref A.k_SIDES)
  l_SIDES : K.lookup A.k_SIDES = some A.o_SIDES
  lc_SIDES : A.o_SIDES.cls = .type "tuple"
  ld_SIDES : A.o_SIDES.dict = none
  q_SIDES : ∀ H, SqT K H A.k_SIDES (ys_SIDES.map V.str)
  mg_InvalidColour : mg "InvalidColour" = some (.ref A.c_InvalidColour)
  ox_InvalidColour : OexG K A.c_InvalidColour
  oi_InvalidColour : PySem.W.findIn K (.ref A.c_InvalidColour) "__init__" = some (some (.ref A.a_InvalidColour_init_))
  ot_InvalidColour : PySem.W.typeIn K (.ref A.a_InvalidColour_init_) = some (.type "function")
  no_InvalidColour : PySem.W.findIn K (.ref A.c_InvalidColour) "value" = some none
  xc_InvalidColour : XcT K A.c_InvalidColour "value"
  cl_InvalidColour : ∀ (y : Str) (b : Bool) (cls : Value), mg y = some cls → clt "InvalidColour" y = some b → PySem.W.exmOne K cls (.ref A.c_InvalidColour) = some b
  mg_InvalidSide : mg "InvalidSide" = some (.ref A.c_InvalidSide)
  ox_InvalidSide : OexG K A.c_InvalidSide
  oi_InvalidSide : PySem.W.findIn K (.ref A.c_InvalidSide) "__init__" = some (some (.ref A.a_InvalidSide_init_))
  ot_InvalidSide : PySem.W.typeIn K (.ref A.a_InvalidSide_init_) = some (.type "function")
  no_InvalidSide : PySem.W.findIn K (.ref A.c_InvalidSide) "value" = some none
  xc_InvalidSide : XcT K A.c_InvalidSide "value"
  cl_InvalidSide : ∀ (y : Str) (b : Bool) (cls : Value), mg y = some cls → clt "InvalidSide" y = some b → PySem.W.exmOne K cls (.ref A.c_InvalidSide) = some b
  mg_InvalidPicture : mg "InvalidPicture" = some (.ref A.c_InvalidPicture)
  ox_InvalidPicture : OexG K A.c_InvalidPicture
  oi_InvalidPicture : PySem.W.findIn K (.ref A.c_InvalidPicture) "__init__" = some (some (.ref A.a_InvalidPicture_init_))
  ot_InvalidPicture : PySem.W.typeIn K (.ref A.a_InvalidPicture_init_) = some (.type "function")
  no_InvalidPicture : PySem.W.findIn K (.ref A.c_InvalidPicture) "value" = some none
  xc_InvalidPicture : XcT K A.c_InvalidPicture "value"
  mg_LastLine : mg "LastLine" = some (.ref A.c_LastLine)
  ox_LastLine : OexG K A.c_LastLine
  oi_LastLine : PySem.W.findIn K (.ref A.c_LastLine) "__init__" = some (some (.ref A.a_LastLine_init_))
  ot_LastLine : PySem.W.typeIn K (.ref A.a_LastLine_init_) = some (.type "function")
  no_LastLine : PySem.W.findIn K (.ref A.c_LastLine) "index" = some none
  xc_LastLine : XcT K A.c_LastLine "index"
  cl_LastLine : ∀ (y : Str) (b : Bool) (cls : Value), mg y = some cls → clt "LastLine" y = some b → PySem.W.exmOne K cls (.ref A.c_LastLine) = some b
  mg_Picture : mg "Picture" = some (.ref A.c_Picture)
  cl_Picture : Cls K A.c_Picture
  mk_Picture : Mk K A.c_Picture A.a_Picture_init_
  sf_Picture : PySem.W.selfFirst K A.c_Picture = true
  is_Picture : IsiC K mg A.c_Picture (isC isc_Picture)
  na_Picture_rows : NoAttr K A.c_Picture "_rows"
  pr_Picture_rows : PropOf K A.c_Picture "rows" A.p_Picture_rows A.a_Picture_rows
  mt_Picture_turned : Meth K A.c_Picture "turned" A.a_Picture_turned
  mt_Picture_mirrored : Meth K A.c_Picture "mirrored" A.a_Picture_mirrored
  mt_Picture_cut : Meth K A.c_Picture "cut" A.a_Picture_cut
  mt_Picture_added : Meth K A.c_Picture "added" A.a_Picture_added
  n_abs : mg "abs" = none
  n_all : mg "all" = none
  n_bool : mg "bool" = none
  n_enumerate : mg "enumerate" = none
  n_int : mg "int" = none
  n_isinstance : mg "isinstance" = none
  n_len : mg "len" = none
  n_list : mg "list" = none
  n_max : mg "max" = none
  n_min : mg "min" = none
  n_range : mg "range" = none
  n_repr : mg "repr" = none
  n_str : mg "str" = none
  n_sum : mg "sum" = none
  n_tuple : mg "tuple" = none
  n_zip : mg "zip" = none
section
variable {P : Program} {w : World} {K : PySem.W.Frag} {mg : Str → Option Value} {base : Heap} {A : Ad}
theorem ok_is_whole (T : Tx w K mg base A) : FnG P w K mg base 2 A.a_is_whole A.fd_is_whole ["value"] (gF e_is_whole) := by
  refine fnF_mk (fs := p_is_whole) T.F_is_whole sc_is_whole fun Φ cdv A' outer s H E iΦ hr => ?_
  exact (fss_one (fs_ret (fe_and (fe_isi (t := .int) rfl (by rfl) T.n_isinstance (fe_var 0) (pe_tyn (T := "int") (by rfl) T.n_int (by decide +kernel))) (fe_one (fe_not (fe_isi (t := .bool) rfl (by rfl) T.n_isinstance (fe_var 0) (pe_tyn (T := "bool") (by rfl) T.n_bool (by decide +kernel))))))))
theorem ok_is_count (T : Tx w K mg base A) : FnG P w K mg base 4 A.a_is_count A.fd_is_count ["value"] (gF e_is_count) := by
  refine fnF_mk (fs := p_is_count) T.F_is_count sc_is_count fun Φ cdv A' outer s H E iΦ hr => ?_
  exact (fss_one (fs_ret (fe_and (fe_call (ok_is_whole T) (hr.mono (by decide)) (by rfl) T.g_is_whole T.F_is_whole.kp T.b_is_whole .nil (fun _ => .nil) (takes_of rfl rfl rfl rfl) (fa_cons (fe_var 0) fa_nil)) (fe_one (fe_cmp o_ge ow_ge (fe_var 0) fe_int)))))
theorem ok_is_colour (T : Tx w K mg base A) : FnG P w K mg base 6 A.a_is_colour A.fd_is_colour ["value"] (gF e_is_colour) := by
  refine fnF_mk (fs := p_is_colour) T.F_is_colour sc_is_colour fun Φ cdv A' outer s H E iΦ hr => ?_
  exact (fss_one (fs_ret (fe_call (ok_is_count T) (hr.mono (by decide)) (by rfl) T.g_is_count T.F_is_count.kp T.b_is_count .nil (fun _ => .nil) (takes_of rfl rfl rfl rfl) (fa_cons (fe_var 0) fa_nil))))
theorem ok_is_side (T : Tx w K mg base A) : FnG P w K mg base 2 A.a_is_side A.fd_is_side ["value"] (gF e_is_side) := by
  refine fnF_mk (fs := p_is_side) T.F_is_side sc_is_side fun Φ cdv A' outer s H E iΦ hr => ?_
  exact (fss_one (fs_ret (fe_and (fe_isi (t := .str) rfl (by rfl) T.n_isinstance (fe_var 0) (pe_tyn (T := "str") (by rfl) T.n_str (by decide +kernel))) (fe_one (fe_cmp o_in ow_in (fe_var 0) (fe_globE (by rfl) T.g_SIDES))))))
theorem ok_InvalidColour_init_ (T : Tx w K mg base A) : FnOk P w K mg base CX0 1 A.a_InvalidColour_init_ A.fd_InvalidColour_init_ ["self", "value"] (spXI A.c_InvalidColour "value") := by
  refine ok_xinitG T.F_InvalidColour_init_ sc_InvalidColour_init_ T.ox_InvalidColour T.no_InvalidColour fun X eK eN eS => ⟨tVar 0, tVar 1, pss_one ?_, fun u y H Q h => ⟨y, rfl, h⟩, fun u y H Q h => ⟨u, rfl, h⟩⟩
  subst eK
  exact ps_ostG (pe_var (by rw [eN]; rfl) (by rw [eS]; exact Or.inl rfl)) (pe_var (by rw [eN]; rfl) (by rw [eS]; exact Or.inl rfl)) (by first | rfl | (simp [swapsWith]))
theorem ok_InvalidSide_init_ (T : Tx w K mg base A) : FnOk P w K mg base CX0 1 A.a_InvalidSide_init_ A.fd_InvalidSide_init_ ["self", "value"] (spXI A.c_InvalidSide "value") := by
  refine ok_xinitG T.F_InvalidSide_init_ sc_InvalidSide_init_ T.ox_InvalidSide T.no_InvalidSide fun X eK eN eS => ⟨tVar 0, tVar 1, pss_one ?_, fun u y H Q h => ⟨y, rfl, h⟩, fun u y H Q h => ⟨u, rfl, h⟩⟩
  subst eK
  exact ps_ostG (pe_var (by rw [eN]; rfl) (by rw [eS]; exact Or.inl rfl)) (pe_var (by rw [eN]; rfl) (by rw [eS]; exact Or.inl rfl)) (by first | rfl | (simp [swapsWith]))
theorem ok_InvalidPicture_init_ (T : Tx w K mg base A) : FnOk P w K mg base CX0 1 A.a_InvalidPicture_init_ A.fd_InvalidPicture_init_ ["self", "value"] (spXI A.c_InvalidPicture "value") := by
  refine ok_xinitG T.F_InvalidPicture_init_ sc_InvalidPicture_init_ T.ox_InvalidPicture T.no_InvalidPicture fun X eK eN eS => ⟨tVar 0, tVar 1, pss_one ?_, fun u y H Q h => ⟨y, rfl, h⟩, fun u y H Q h => ⟨u, rfl, h⟩⟩
  subst eK
  exact ps_ostG (pe_var (by rw [eN]; rfl) (by rw [eS]; exact Or.inl rfl)) (pe_var (by rw [eN]; rfl) (by rw [eS]; exact Or.inl rfl)) (by first | rfl | (simp [swapsWith]))
theorem ok_LastLine_init_ (T : Tx w K mg base A) : FnOk P w K mg base CX0 1 A.a_LastLine_init_ A.fd_LastLine_init_ ["self", "index"] (spXI A.c_LastLine "index") := by
  refine ok_xinitG T.F_LastLine_init_ sc_LastLine_init_ T.ox_LastLine T.no_LastLine fun X eK eN eS => ⟨tVar 0, tVar 1, pss_one ?_, fun u y H Q h => ⟨y, rfl, h⟩, fun u y H Q h => ⟨u, rfl, h⟩⟩
  subst eK
  exact ps_ostG (pe_var (by rw [eN]; rfl) (by rw [eS]; exact Or.inl rfl)) (pe_var (by rw [eN]; rfl) (by rw [eS]; exact Or.inl rfl)) (by first | rfl | (simp [swapsWith]))
theorem ok_check_colour (T : Tx w K mg base A) : FnG P w K mg base 8 A.a_check_colour A.fd_check_colour ["colour"] (gF e_check_colour) := by
  refine fnF_mk (fs := p_check_colour) T.F_check_colour sc_check_colour fun Φ cdv A' outer s H E iΦ hr => ?_
  exact (fss_one (fs_if (ft_not (ft_val (fe_call (ok_is_colour T) (hr.mono (by decide)) (by rfl) T.g_is_colour T.F_is_colour.kp T.b_is_colour .nil (fun _ => .nil) (takes_of rfl rfl rfl rfl) (fa_cons (fe_var 0) fa_nil)))) (fss_one (fs_raise T.ox_InvalidColour T.oi_InvalidColour T.ot_InvalidColour (ok_InvalidColour_init_ T) (hr.mono (by decide : 2 ≤ _)) T.b_InvalidColour_init_ (by rfl) T.mg_InvalidColour rfl (takes_of rfl rfl rfl rfl) (fa_cons (fe_var 0) fa_nil))) fss_nil))
theorem ok_check_side (T : Tx w K mg base A) : FnG P w K mg base 4 A.a_check_side A.fd_check_side ["side"] (gF e_check_side) := by
  refine fnF_mk (fs := p_check_side) T.F_check_side sc_check_side fun Φ cdv A' outer s H E iΦ hr => ?_
  exact (fss_one (fs_if (ft_not (ft_val (fe_call (ok_is_side T) (hr.mono (by decide)) (by rfl) T.g_is_side T.F_is_side.kp T.b_is_side .nil (fun _ => .nil) (takes_of rfl rfl rfl rfl) (fa_cons (fe_var 0) fa_nil)))) (fss_one (fs_raise T.ox_InvalidSide T.oi_InvalidSide T.ot_InvalidSide (ok_InvalidSide_init_ T) (hr.mono (by decide : 2 ≤ _)) T.b_InvalidSide_init_ (by rfl) T.mg_InvalidSide rfl (takes_of rfl rfl rfl rfl) (fa_cons (fe_var 0) fa_nil))) fss_nil))
theorem ok_turned_rows (T : Tx w K mg base A) : FnG P w K mg base 2 A.a_turned_rows A.fd_turned_rows ["rows"] (gF e_turned_rows) := by
  refine fnF_mk (fs := p_turned_rows) T.F_turned_rows sc_turned_rows fun Φ cdv A' outer s H E iΦ hr => ?_
  exact (fss_cons (fs_set (i := 1) sc_turned_rows.nd rfl (by first | exact Or.inl rfl | exact Or.inr rfl) (fe_back (fe_var 0))) (fss_one (fs_ret (fe_zip rfl (by rfl) T.n_tuple (by rfl) T.n_zip (fe_var 1)))))
theorem ok_mirrored_rows (T : Tx w K mg base A) : FnG P w K mg base 2 A.a_mirrored_rows A.fd_mirrored_rows ["rows"] (gF e_mirrored_rows) := by
  refine fnF_mk (fs := p_mirrored_rows) T.F_mirrored_rows sc_mirrored_rows fun Φ cdv A' outer s H E iΦ hr => ?_
  exact (fss_one (fs_ret (fe_callTy f_tuple lw_tuple (by rfl) T.n_tuple (by decide +kernel) (fa_cons (fe_lc rfl sc_mirrored_rows.nd (own := [("row", 1)]) (fi_seq (fe_var 0)) (blkOk_by (N := ["rows", "row"]) (sc := defScope s_mirrored_rows) (by decide +kernel)) (fun _ _ _ _ _ _ _ => (fg_name (i := 1) sc_mirrored_rows.nd rfl (by first | exact Or.inl rfl | exact Or.inr rfl))) (fun _ _ _ _ _ _ _ => fts_nil) (fun _ _ _ _ _ _ _ => (fe_back (fe_var 1)))) fa_nil))))
theorem ok_is_last_line (T : Tx w K mg base A) : FnG P w K mg base 2 A.a_is_last_line A.fd_is_last_line ["rows", "side"] (gF e_is_last_line) := by
  refine fnF_mk (fs := p_is_last_line) T.F_is_last_line sc_is_last_line fun Φ cdv A' outer s H E iΦ hr => ?_
  exact (fss_cons (fs_if (ft_cmp o_in ow_in (fe_var 1) (fe_tup (fa_cons fe_str (fa_cons fe_str fa_nil)))) (fss_one (fs_ret (fe_cmp (o_eq' hr.units) ow_eq (fe_callB (f_len) lw_len (by rfl) T.n_len (by decide +kernel) (fa_cons (fe_var 0) fa_nil)) fe_int))) fss_nil) (fss_one (fs_ret (fe_cmp (o_eq' hr.units) ow_eq (fe_callB (f_len) lw_len (by rfl) T.n_len (by decide +kernel) (fa_cons (fe_ix x_seq ow_ix (fe_var 0) fe_int) fa_nil)) fe_int))))
theorem ok_cut_rows (T : Tx w K mg base A) : FnG P w K mg base 2 A.a_cut_rows A.fd_cut_rows ["rows", "side"] (gF e_cut_rows) := by
  refine fnF_mk (fs := p_cut_rows) T.F_cut_rows sc_cut_rows fun Φ cdv A' outer s H E iΦ hr => ?_
  exact (fss_cons (fs_if (ft_cmp (o_eq' hr.units) ow_eq (fe_var 1) fe_str) (fss_one (fs_ret (fe_sl (fe_var 0) (fo_some fe_int) fo_none))) fss_nil) (fss_cons (fs_if (ft_cmp (o_eq' hr.units) ow_eq (fe_var 1) fe_str) (fss_one (fs_ret (fe_sl (fe_var 0) fo_none (fo_some (fe_neg fe_int))))) fss_nil) (fss_cons (fs_if (ft_cmp (o_eq' hr.units) ow_eq (fe_var 1) fe_str) (fss_one (fs_ret (fe_callTy f_tuple lw_tuple (by rfl) T.n_tuple (by decide +kernel) (fa_cons (fe_lc rfl sc_cut_rows.nd (own := [("row", 2)]) (fi_seq (fe_var 0)) (blkOk_by (N := ["rows", "side", "row"]) (sc := defScope s_cut_rows) (by decide +kernel)) (fun _ _ _ _ _ _ _ => (fg_name (i := 2) sc_cut_rows.nd rfl (by first | exact Or.inl rfl | exact Or.inr rfl))) (fun _ _ _ _ _ _ _ => fts_nil) (fun _ _ _ _ _ _ _ => (fe_sl (fe_var 2) (fo_some fe_int) fo_none))) fa_nil)))) fss_nil) (fss_one (fs_ret (fe_callTy f_tuple lw_tuple (by rfl) T.n_tuple (by decide +kernel) (fa_cons (fe_lc rfl sc_cut_rows.nd (own := [("row", 2)]) (fi_seq (fe_var 0)) (blkOk_by (N := ["rows", "side", "row"]) (sc := defScope s_cut_rows) (by decide +kernel)) (fun _ _ _ _ _ _ _ => (fg_name (i := 2) sc_cut_rows.nd rfl (by first | exact Or.inl rfl | exact Or.inr rfl))) (fun _ _ _ _ _ _ _ => fts_nil) (fun _ _ _ _ _ _ _ => (fe_sl (fe_var 2) fo_none (fo_some (fe_neg fe_int))))) fa_nil)))))))
theorem ok_added_rows (T : Tx w K mg base A) : FnG P w K mg base 2 A.a_added_rows A.fd_added_rows ["rows", "side", "colour"] (gF e_added_rows) := by
  refine fnF_mk (fs := p_added_rows) T.F_added_rows sc_added_rows fun Φ cdv A' outer s H E iΦ hr => ?_
  exact (fss_cons (fs_if (ft_cmp (o_eq' hr.units) ow_eq (fe_var 1) fe_str) (fss_one (fs_ret (fe_callTy f_tuple lw_tuple (by rfl) T.n_tuple (by decide +kernel) (fa_cons (fe_lc rfl sc_added_rows.nd (own := [("row", 4)]) (fi_seq (fe_var 0)) (blkOk_by (N := ["rows", "side", "colour", "line", "row"]) (sc := defScope s_added_rows) (by decide +kernel)) (fun _ _ _ _ _ _ _ => (fg_name (i := 4) sc_added_rows.nd rfl (by first | exact Or.inl rfl | exact Or.inr rfl))) (fun _ _ _ _ _ _ _ => fts_nil) (fun _ _ _ _ _ _ _ => (fe_bin o_add ow_add (fe_tup (fa_cons (fe_var 2) fa_nil)) (fe_var 4)))) fa_nil)))) fss_nil) (fss_cons (fs_if (ft_cmp (o_eq' hr.units) ow_eq (fe_var 1) fe_str) (fss_one (fs_ret (fe_callTy f_tuple lw_tuple (by rfl) T.n_tuple (by decide +kernel) (fa_cons (fe_lc rfl sc_added_rows.nd (own := [("row", 4)]) (fi_seq (fe_var 0)) (blkOk_by (N := ["rows", "side", "colour", "line", "row"]) (sc := defScope s_added_rows) (by decide +kernel)) (fun _ _ _ _ _ _ _ => (fg_name (i := 4) sc_added_rows.nd rfl (by first | exact Or.inl rfl | exact Or.inr rfl))) (fun _ _ _ _ _ _ _ => fts_nil) (fun _ _ _ _ _ _ _ => (fe_bin o_add ow_add (fe_var 4) (fe_tup (fa_cons (fe_var 2) fa_nil))))) fa_nil)))) fss_nil) (fss_cons (fs_set (i := 3) sc_added_rows.nd rfl (by first | exact Or.inl rfl | exact Or.inr rfl) (fe_bin o_mul1 ow_mul1 (fe_tup (fa_cons (fe_var 2) fa_nil)) (fe_callB (f_len) lw_len (by rfl) T.n_len (by decide +kernel) (fa_cons (fe_ix x_seq ow_ix (fe_var 0) fe_int) fa_nil)))) (fss_cons (fs_if (ft_cmp (o_eq' hr.units) ow_eq (fe_var 1) fe_str) (fss_one (fs_ret (fe_bin o_add ow_add (fe_tup (fa_cons (fe_var 3) fa_nil)) (fe_var 0)))) fss_nil) (fss_one (fs_ret (fe_bin o_add ow_add (fe_var 0) (fe_tup (fa_cons (fe_var 3) fa_nil)))))))))
theorem ok_is_row (T : Tx w K mg base A) : FnG P w K mg base 8 A.a_is_row A.fd_is_row ["value"] (gF e_is_row) := by
  refine fnF_mk (fs := p_is_row) T.F_is_row sc_is_row fun Φ cdv A' outer s H E iΦ hr => ?_
  exact (fss_cons (fs_if (FW.ft (fw_or (ft_not (ft_val (fe_isiT (ts := [.list, .tuple]) (by rfl) T.n_isinstance (fe_var 0) (pa_cons (pe_tyn (by rfl) T.n_list (by decide +kernel)) (pa_cons (pe_tyn (by rfl) T.n_tuple (by decide +kernel)) pa_nil)) (fun _ _ _ h => h) (by decide)))) (fw_or1 (ft_cmp (o_eq' hr.units) ow_eq (fe_callB (f_len) lw_len (by rfl) T.n_len (by decide +kernel) (fa_cons (fe_var 0) fa_nil)) fe_int)))) (fss_one (fs_ret fe_bl)) fss_nil) (fss_one (fs_ret (fe_callB (f_all rfl) lw_all (by rfl) T.n_all (by decide +kernel) (fa_cons (fe_lc rfl sc_is_row.nd (own := [("cell", 1)]) (fi_seq (fe_var 0)) (blkOk_by (N := ["value", "cell"]) (sc := defScope s_is_row) (by decide +kernel)) (fun _ _ _ _ _ _ _ => (fg_name (i := 1) sc_is_row.nd rfl (by first | exact Or.inl rfl | exact Or.inr rfl))) (fun _ _ _ _ _ _ _ => fts_nil) (fun _ _ _ _ _ _ _ => (fe_call (ok_is_colour T) ((rmB hr).mono (by decide)) (by rfl) T.g_is_colour T.F_is_colour.kp T.b_is_colour .nil (fun _ => .nil) takes0 (fa_cons (fe_var 1) fa_nil)))) fa_nil)))))
theorem ok_is_grid (T : Tx w K mg base A) : FnG P w K mg base 10 A.a_is_grid A.fd_is_grid ["value"] (gF e_is_grid) := by
  refine fnF_mk (fs := p_is_grid) T.F_is_grid sc_is_grid fun Φ cdv A' outer s H E iΦ hr => ?_
  exact (fss_cons (fs_if (FW.ft (fw_or (ft_not (ft_val (fe_isiT (ts := [.list, .tuple]) (by rfl) T.n_isinstance (fe_var 0) (pa_cons (pe_tyn (by rfl) T.n_list (by decide +kernel)) (pa_cons (pe_tyn (by rfl) T.n_tuple (by decide +kernel)) pa_nil)) (fun _ _ _ h => h) (by decide)))) (fw_or1 (ft_cmp (o_eq' hr.units) ow_eq (fe_callB (f_len) lw_len (by rfl) T.n_len (by decide +kernel) (fa_cons (fe_var 0) fa_nil)) fe_int)))) (fss_one (fs_ret fe_bl)) fss_nil) (fss_cons (fs_if (ft_not (ft_val (fe_callB (f_all rfl) lw_all (by rfl) T.n_all (by decide +kernel) (fa_cons (fe_lc rfl sc_is_grid.nd (own := [("row", 1)]) (fi_seq (fe_var 0)) (blkOk_by (N := ["value", "row"]) (sc := defScope s_is_grid) (by decide +kernel)) (fun _ _ _ _ _ _ _ => (fg_name (i := 1) sc_is_grid.nd rfl (by first | exact Or.inl rfl | exact Or.inr rfl))) (fun _ _ _ _ _ _ _ => fts_nil) (fun _ _ _ _ _ _ _ => (fe_call (ok_is_row T) ((rmB hr).mono (by decide)) (by rfl) T.g_is_row T.F_is_row.kp T.b_is_row .nil (fun _ => .nil) takes0 (fa_cons (fe_var 1) fa_nil)))) fa_nil)))) (fss_one (fs_ret fe_bl)) fss_nil) (fss_one (fs_ret (fe_callB (f_all rfl) lw_all (by rfl) T.n_all (by decide +kernel) (fa_cons (fe_lc rfl sc_is_grid.nd (own := [("row", 1)]) (fi_seq (fe_var 0)) (blkOk_by (N := ["value", "row"]) (sc := defScope s_is_grid) (by decide +kernel)) (fun _ _ _ _ _ _ _ => (fg_name (i := 1) sc_is_grid.nd rfl (by first | exact Or.inl rfl | exact Or.inr rfl))) (fun _ _ _ _ _ _ _ => fts_nil) (fun _ _ _ _ _ _ _ => (fe_cmp (o_eq' (rmB hr).units) ow_eq (fe_callB (f_len) lw_len (by rfl) T.n_len (by decide +kernel) (fa_cons (fe_var 1) fa_nil)) (fe_callB (f_len) lw_len (by rfl) T.n_len (by decide +kernel) (fa_cons (fe_ix x_seq ow_ix (fe_var 0) fe_int) fa_nil))))) fa_nil))))))
theorem ok_Picture_init_ (T : Tx w K mg base A) : FnG P w K mg base 12 A.a_Picture_init_ A.fd_Picture_init_ ["self", "rows"] (gF e_Picture_init_) := by
  refine fnF_mk (fs := p_Picture_init_) T.F_Picture_init_ sc_Picture_init_ fun Φ cdv A' outer s H E iΦ hr => ?_
  exact (fss_cons (fs_if (ft_not (ft_val (fe_call (ok_is_grid T) (hr.mono (by decide)) (by rfl) T.g_is_grid T.F_is_grid.kp T.b_is_grid .nil (fun _ => .nil) (takes_of rfl rfl rfl rfl) (fa_cons (fe_var 1) fa_nil)))) (fss_one (fs_raise T.ox_InvalidPicture T.oi_InvalidPicture T.ot_InvalidPicture (ok_InvalidPicture_init_ T) (hr.mono (by decide : 2 ≤ _)) T.b_InvalidPicture_init_ (by rfl) T.mg_InvalidPicture rfl (takes_of rfl rfl rfl rfl) (fa_cons (fe_var 1) fa_nil))) fss_nil) (fss_one (fs_fld T.cl_Picture T.mg_Picture T.na_Picture_rows (fe_var 0) (fe_callTy f_tuple lw_tuple (by rfl) T.n_tuple (by decide +kernel) (fa_cons (fe_lc rfl sc_Picture_init_.nd (own := [("row", 2)]) (fi_seq (fe_var 1)) (blkOk_by (N := ["self", "rows", "row"]) (sc := defScope s_Picture_init_) (by decide +kernel)) (fun _ _ _ _ _ _ _ => (fg_name (i := 2) sc_Picture_init_.nd rfl (by first | exact Or.inl rfl | exact Or.inr rfl))) (fun _ _ _ _ _ _ _ => fts_nil) (fun _ _ _ _ _ _ _ => (fe_callTy f_tuple lw_tuple (by rfl) T.n_tuple (by decide +kernel) (fa_cons (fe_var 2) fa_nil)))) fa_nil)))))
theorem ok_Picture_rows (T : Tx w K mg base A) : FnG P w K mg base 2 A.a_Picture_rows A.fd_Picture_rows ["self"] (gF e_Picture_rows) := by
  refine fnF_mk (fs := p_Picture_rows) T.F_Picture_rows sc_Picture_rows fun Φ cdv A' outer s H E iΦ hr => ?_
  exact (fss_one (fs_ret (fe_fld T.cl_Picture T.mg_Picture T.na_Picture_rows (fe_var 0))))
theorem ok_Picture_turned (T : Tx w K mg base A) : FnG P w K mg base 14 A.a_Picture_turned A.fd_Picture_turned ["self"] (gF e_Picture_turned) := by
  refine fnF_mk (fs := p_Picture_turned) T.F_Picture_turned sc_Picture_turned fun Φ cdv A' outer s H E iΦ hr => ?_
  exact (fss_one (fs_ret (fe_make T.mk_Picture T.mg_Picture (ok_Picture_init_ T) (hr.mono (by decide)) (by rfl) T.b_Picture_init_ .nil (fun _ => .nil) (takes_of rfl rfl rfl rfl) (fa_cons (fe_call (ok_turned_rows T) (hr.mono (by decide)) (by rfl) T.g_turned_rows T.F_turned_rows.kp T.b_turned_rows .nil (fun _ => .nil) (takes_of rfl rfl rfl rfl) (fa_cons (fe_fld T.cl_Picture T.mg_Picture T.na_Picture_rows (fe_var 0)) fa_nil)) fa_nil))))
theorem ok_Picture_mirrored (T : Tx w K mg base A) : FnG P w K mg base 14 A.a_Picture_mirrored A.fd_Picture_mirrored ["self"] (gF e_Picture_mirrored) := by
  refine fnF_mk (fs := p_Picture_mirrored) T.F_Picture_mirrored sc_Picture_mirrored fun Φ cdv A' outer s H E iΦ hr => ?_
  exact (fss_one (fs_ret (fe_make T.mk_Picture T.mg_Picture (ok_Picture_init_ T) (hr.mono (by decide)) (by rfl) T.b_Picture_init_ .nil (fun _ => .nil) (takes_of rfl rfl rfl rfl) (fa_cons (fe_call (ok_mirrored_rows T) (hr.mono (by decide)) (by rfl) T.g_mirrored_rows T.F_mirrored_rows.kp T.b_mirrored_rows .nil (fun _ => .nil) (takes_of rfl rfl rfl rfl) (fa_cons (fe_fld T.cl_Picture T.mg_Picture T.na_Picture_rows (fe_var 0)) fa_nil)) fa_nil))))
theorem ok_Picture_cut (T : Tx w K mg base A) : FnG P w K mg base 14 A.a_Picture_cut A.fd_Picture_cut ["self", "side"] (gF e_Picture_cut) := by
  refine fnF_mk (fs := p_Picture_cut) T.F_Picture_cut sc_Picture_cut fun Φ cdv A' outer s H E iΦ hr => ?_
  exact (fss_cons (fs_expr (fe_call (ok_check_side T) (hr.mono (by decide)) (by rfl) T.g_check_side T.F_check_side.kp T.b_check_side .nil (fun _ => .nil) (takes_of rfl rfl rfl rfl) (fa_cons (fe_var 1) fa_nil))) (fss_cons (fs_if (ft_val (fe_call (ok_is_last_line T) (hr.mono (by decide)) (by rfl) T.g_is_last_line T.F_is_last_line.kp T.b_is_last_line .nil (fun _ => .nil) (takes_of rfl rfl rfl rfl) (fa_cons (fe_fld T.cl_Picture T.mg_Picture T.na_Picture_rows (fe_var 0)) (fa_cons (fe_var 1) fa_nil)))) (fss_one (fs_raise T.ox_LastLine T.oi_LastLine T.ot_LastLine (ok_LastLine_init_ T) (hr.mono (by decide : 2 ≤ _)) T.b_LastLine_init_ (by rfl) T.mg_LastLine rfl (takes_of rfl rfl rfl rfl) (fa_cons fe_int fa_nil))) fss_nil) (fss_one (fs_ret (fe_make T.mk_Picture T.mg_Picture (ok_Picture_init_ T) (hr.mono (by decide)) (by rfl) T.b_Picture_init_ .nil (fun _ => .nil) (takes_of rfl rfl rfl rfl) (fa_cons (fe_call (ok_cut_rows T) (hr.mono (by decide)) (by rfl) T.g_cut_rows T.F_cut_rows.kp T.b_cut_rows .nil (fun _ => .nil) (takes_of rfl rfl rfl rfl) (fa_cons (fe_fld T.cl_Picture T.mg_Picture T.na_Picture_rows (fe_var 0)) (fa_cons (fe_var 1) fa_nil))) fa_nil))))))
theorem ok_Picture_added (T : Tx w K mg base A) : FnG P w K mg base 14 A.a_Picture_added A.fd_Picture_added ["self", "side", "colour"] (gF e_Picture_added) := by
  refine fnF_mk (fs := p_Picture_added) T.F_Picture_added sc_Picture_added fun Φ cdv A' outer s H E iΦ hr => ?_
  exact (fss_cons (fs_expr (fe_call (ok_check_side T) (hr.mono (by decide)) (by rfl) T.g_check_side T.F_check_side.kp T.b_check_side .nil (fun _ => .nil) (takes_of rfl rfl rfl rfl) (fa_cons (fe_var 1) fa_nil))) (fss_cons (fs_expr (fe_call (ok_check_colour T) (hr.mono (by decide)) (by rfl) T.g_check_colour T.F_check_colour.kp T.b_check_colour .nil (fun _ => .nil) (takes_of rfl rfl rfl rfl) (fa_cons (fe_var 2) fa_nil))) (fss_one (fs_ret (fe_make T.mk_Picture T.mg_Picture (ok_Picture_init_ T) (hr.mono (by decide)) (by rfl) T.b_Picture_init_ .nil (fun _ => .nil) (takes_of rfl rfl rfl rfl) (fa_cons (fe_call (ok_added_rows T) (hr.mono (by decide)) (by rfl) T.g_added_rows T.F_added_rows.kp T.b_added_rows .nil (fun _ => .nil) (takes_of rfl rfl rfl rfl) (fa_cons (fe_fld T.cl_Picture T.mg_Picture T.na_Picture_rows (fe_var 0)) (fa_cons (fe_var 1) (fa_cons (fe_var 2) fa_nil)))) fa_nil))))))
theorem ok_l_pool (T : Tx w K mg base A) : FnG P w K mg base 2 A.a_l_pool A.fd_l_pool ["script", "k"] (gF e_l_pool) := by
  refine fnF_mk (fs := p_l_pool) T.F_l_pool sc_l_pool fun Φ cdv A' outer s H E iΦ hr => ?_
  exact (fss_cons (fs_set (i := 2) sc_l_pool.nd rfl (by first | exact Or.inl rfl | exact Or.inr rfl) (fe_bin o_add ow_add (fe_bin o_mul1 ow_mul1 fe_int (fe_callB (f_sum rfl) lw_sum (by rfl) T.n_sum (by decide +kernel) (fa_cons (fe_sl (fe_var 0) fo_none (fo_some fe_int)) fa_nil))) (fe_var 1))) (fss_cons (fs_if (ft_cmp o_lt ow_lt (fe_var 1) (fe_callB (f_len) lw_len (by rfl) T.n_len (by decide +kernel) (fa_cons (fe_var 0) fa_nil))) (fss_one (fs_set (i := 2) sc_l_pool.nd rfl (by first | exact Or.inl rfl | exact Or.inr rfl) (fe_ix x_seq ow_ix (fe_var 0) (fe_var 1)))) fss_nil) (fss_cons (fs_set (i := 3) sc_l_pool.nd rfl (by first | exact Or.inl rfl | exact Or.inr rfl) (fe_callB (f_abs) lw_abs (by rfl) T.n_abs (by decide +kernel) (fa_cons (fe_var 2) fa_nil))) (fss_cons (fs_set (i := 4) sc_l_pool.nd rfl (by first | exact Or.inl rfl | exact Or.inr rfl) (fe_bin o_mod ow_mod (fe_bin o_mul1 ow_mul1 (fe_bin o_add ow_add (fe_bin o_add ow_add (fe_bin o_add ow_add (fe_bin o_mod ow_mod (fe_var 3) fe_int) (fe_bin o_mul1 ow_mul1 (fe_bin o_mul1 ow_mul1 fe_int (fe_var 1)) (fe_var 1))) (fe_bin o_mul1 ow_mul1 fe_int (fe_var 1))) fe_int) fe_int) fe_int)) (fss_one (fs_ret (fe_lstO (fa_cons (fe_bin o_mul1 ow_mul1 (fe_var 3) (fe_callTy f_int lw_int (by rfl) T.n_int (by decide +kernel) (fa_cons (fe_cmp o_ge ow_ge (fe_var 3) (fe_bin o_pow ow_pow fe_int fe_int)) fa_nil))) (fa_cons (fe_bin o_mod ow_mod (fe_bin o_mul1 ow_mul1 (fe_var 4) (fe_var 4)) fe_int) fa_nil)))))))))
theorem ok_l_draw (T : Tx w K mg base A) : FnG P w K mg base 2 A.a_l_draw A.fd_l_draw ["pool", "many"] (gF e_l_draw) := by
  refine fnF_mk (fs := p_l_draw) T.F_l_draw sc_l_draw fun Φ cdv A' outer s H E iΦ hr => ?_
  exact (fss_cons (fs_if (ft_cmp o_gt ow_gt (fe_ixO (fe_var 0) fe_int) fe_int) (fss_cons (fs_set (i := 2) sc_l_draw.nd rfl (by first | exact Or.inl rfl | exact Or.inr rfl) (fe_bin o_mod ow_mod (fe_ixO (fe_var 0) fe_int) (fe_var 1))) (fss_cons (fs_asgSub (fe_bin o_div ow_div (fe_ixO (fe_var 0) fe_int) (fe_var 1)) (fg_subO (fe_var 0) fe_int)) (fss_one (fs_ret (fe_var 2))))) fss_nil) (fss_cons (fs_asgSub (fe_bin o_mod ow_mod (fe_bin o_add ow_add (fe_bin o_mul1 ow_mul1 (fe_ixO (fe_var 0) fe_int) fe_int) fe_int) fe_int) (fg_subO (fe_var 0) fe_int)) (fss_one (fs_ret (fe_bin o_mod ow_mod (fe_bin o_div ow_div (fe_bin o_mod ow_mod (fe_bin o_mul1 ow_mul1 (fe_ixO (fe_var 0) fe_int) (fe_ixO (fe_var 0) fe_int)) fe_int) fe_int) (fe_var 1))))))
theorem ok_l_random_picture (T : Tx w K mg base A) : FnG P w K mg base 4 A.a_l_random_picture A.fd_l_random_picture ["pool", "most", "colours"] (gF e_l_random_picture) := by
  refine fnF_mk (fs := p_l_random_picture) T.F_l_random_picture sc_l_random_picture fun Φ cdv A' outer s H E iΦ hr => ?_
  exact (fss_cons (fs_asg (fe_tup (fa_cons (fe_bin o_add ow_add fe_int (fe_call (ok_l_draw T) (hr.mono (by decide)) (by rfl) T.g_l_draw T.F_l_draw.kp T.b_l_draw .nil (fun _ => .nil) (takes_of rfl rfl rfl rfl) (fa_cons (fe_var 0) (fa_cons (fe_var 1) fa_nil)))) (fa_cons (fe_bin o_add ow_add fe_int (fe_call (ok_l_draw T) (hr.mono (by decide)) (by rfl) T.g_l_draw T.F_l_draw.kp T.b_l_draw .nil (fun _ => .nil) (takes_of rfl rfl rfl rfl) (fa_cons (fe_var 0) (fa_cons (fe_var 1) fa_nil)))) fa_nil))) (fg_tup rfl (fgs_cons (fg_name (i := 3) sc_l_random_picture.nd rfl (by first | exact Or.inl rfl | exact Or.inr rfl)) (fgs_cons (fg_name (i := 4) sc_l_random_picture.nd rfl (by first | exact Or.inl rfl | exact Or.inr rfl)) fgs_nil)))) (fss_one (fs_ret (fe_lc rfl sc_l_random_picture.nd (own := [("row", 5)]) (fi_range1 (by rfl) T.n_range (fa_cons (fe_var 3) fa_nil)) (blkOk_by (N := ["pool", "most", "colours", "height", "width", "row", "column"]) (sc := defScope s_l_random_picture) (by decide +kernel)) (fun _ _ _ _ _ _ _ => (fg_name (i := 5) sc_l_random_picture.nd rfl (by first | exact Or.inl rfl | exact Or.inr rfl))) (fun _ _ _ _ _ _ _ => fts_nil) (fun _ _ _ _ _ _ _ => (fe_lc rfl sc_l_random_picture.nd (own := [("column", 6)]) (fi_range1 (by rfl) T.n_range (fa_cons (fe_var 4) fa_nil)) (blkOk_in (N := ["pool", "most", "colours", "height", "width", "row", "column"]) (sc0 := defScope s_l_random_picture) (by decide +kernel)) (fun _ _ _ _ _ _ _ => (fg_name (i := 6) sc_l_random_picture.nd rfl (by first | exact Or.inl rfl | exact Or.inr rfl))) (fun _ _ _ _ _ _ _ => fts_nil) (fun _ _ _ _ _ _ _ => (fe_call (ok_l_draw T) ((rmB (rmB hr)).mono (by decide)) (by rfl) T.g_l_draw T.F_l_draw.kp T.b_l_draw .nil (fun _ => .nil) takes0 (fa_cons (fe_var 0) (fa_cons (fe_var 2) fa_nil))))))))))
theorem ok_l_after (T : Tx w K mg base A) : FnG P w K mg base 2 A.a_l_after A.fd_l_after ["rows", "step"] (gF e_l_after) := by
  refine fnF_mk (fs := p_l_after) T.F_l_after sc_l_after fun Φ cdv A' outer s H E iΦ hr => ?_
  exact (fss_cons (fs_set (i := 2) sc_l_after.nd rfl (by first | exact Or.inl rfl | exact Or.inr rfl) (fe_callB (f_len) lw_len (by rfl) T.n_len (by decide +kernel) (fa_cons (fe_ix x_seq ow_ix (fe_var 0) fe_int) fa_nil))) (fss_cons (fs_if (ft_cmp (o_eq' hr.units) ow_eq (fe_ix x_seq ow_ix (fe_var 1) fe_int) fe_str) (fss_one (fs_ret (fe_lc rfl sc_l_after.nd (own := [("column", 6)]) (fi_range1 (by rfl) T.n_range (fa_cons (fe_var 2) fa_nil)) (blkOk_by (N := ["rows", "step", "width", "top", "left", "row", "column"]) (sc := defScope s_l_after) (by decide +kernel)) (fun _ _ _ _ _ _ _ => (fg_name (i := 6) sc_l_after.nd rfl (by first | exact Or.inl rfl | exact Or.inr rfl))) (fun _ _ _ _ _ _ _ => fts_nil) (fun _ _ _ _ _ _ _ => (fe_lc rfl sc_l_after.nd (own := [("row", 5)]) (fi_seq (fe_back (fe_var 0))) (blkOk_in (N := ["rows", "step", "width", "top", "left", "row", "column"]) (sc0 := defScope s_l_after) (by decide +kernel)) (fun _ _ _ _ _ _ _ => (fg_name (i := 5) sc_l_after.nd rfl (by first | exact Or.inl rfl | exact Or.inr rfl))) (fun _ _ _ _ _ _ _ => fts_nil) (fun _ _ _ _ _ _ _ => (fe_ix x_seq ow_ix (fe_var 5) (fe_var 6)))))))) fss_nil) (fss_cons (fs_if (ft_cmp (o_eq' hr.units) ow_eq (fe_ix x_seq ow_ix (fe_var 1) fe_int) fe_str) (fss_one (fs_ret (fe_lc rfl sc_l_after.nd (own := [("row", 5)]) (fi_seq (fe_var 0)) (blkOk_by (N := ["rows", "step", "width", "top", "left", "row", "column"]) (sc := defScope s_l_after) (by decide +kernel)) (fun _ _ _ _ _ _ _ => (fg_name (i := 5) sc_l_after.nd rfl (by first | exact Or.inl rfl | exact Or.inr rfl))) (fun _ _ _ _ _ _ _ => fts_nil) (fun _ _ _ _ _ _ _ => (fe_back (fe_var 5)))))) fss_nil) (fss_cons (fs_if (ft_cmp o_in ow_in (fe_ix x_seq ow_ix (fe_var 1) fe_int) (fe_tup (fa_cons fe_str (fa_cons fe_str fa_nil)))) (fss_cons (fs_set (i := 3) sc_l_after.nd rfl (by first | exact Or.inl rfl | exact Or.inr rfl) (fe_cmp (o_eq' hr.units) ow_eq (fe_ix x_seq ow_ix (fe_var 1) fe_int) fe_str)) (fss_cons (fs_if (ft_cmp (o_eq' hr.units) ow_eq (fe_ix x_seq ow_ix (fe_var 1) fe_int) fe_str) (fss_one (fs_ret (fe_if (ft_cmp o_gt ow_gt (fe_callB (f_len) lw_len (by rfl) T.n_len (by decide +kernel) (fa_cons (fe_var 0) fa_nil)) fe_int) (fe_if (ft_val (fe_var 3)) (fe_sl (fe_var 0) (fo_some fe_int) fo_none) (fe_sl (fe_var 0) fo_none (fo_some (fe_neg fe_int)))) fe_non))) fss_nil) (fss_one (fs_ret (fe_if (ft_val (fe_var 3)) (fe_bin o_add ow_add (fe_lst (fa_cons (fe_bin o_mul1 ow_mul1 (fe_lst (fa_cons (fe_ix x_seq ow_ix (fe_var 1) fe_int) fa_nil)) (fe_var 2)) fa_nil)) (fe_var 0)) (fe_bin o_add ow_add (fe_var 0) (fe_lst (fa_cons (fe_bin o_mul1 ow_mul1 (fe_lst (fa_cons (fe_ix x_seq ow_ix (fe_var 1) fe_int) fa_nil)) (fe_var 2)) fa_nil)))))))) fss_nil) (fss_cons (fs_set (i := 4) sc_l_after.nd rfl (by first | exact Or.inl rfl | exact Or.inr rfl) (fe_cmp (o_eq' hr.units) ow_eq (fe_ix x_seq ow_ix (fe_var 1) fe_int) fe_str)) (fss_cons (fs_if (ft_cmp (o_eq' hr.units) ow_eq (fe_ix x_seq ow_ix (fe_var 1) fe_int) fe_str) (fss_one (fs_ret (fe_if (ft_cmp o_gt ow_gt (fe_var 2) fe_int) (fe_lc rfl sc_l_after.nd (own := [("row", 5)]) (fi_seq (fe_var 0)) (blkOk_by (N := ["rows", "step", "width", "top", "left", "row", "column"]) (sc := defScope s_l_after) (by decide +kernel)) (fun _ _ _ _ _ _ _ => (fg_name (i := 5) sc_l_after.nd rfl (by first | exact Or.inl rfl | exact Or.inr rfl))) (fun _ _ _ _ _ _ _ => fts_nil) (fun _ _ _ _ _ _ _ => (fe_if (ft_val (fe_var 4)) (fe_sl (fe_var 5) (fo_some fe_int) fo_none) (fe_sl (fe_var 5) fo_none (fo_some (fe_neg fe_int)))))) fe_non))) fss_nil) (fss_one (fs_ret (fe_lc rfl sc_l_after.nd (own := [("row", 5)]) (fi_seq (fe_var 0)) (blkOk_by (N := ["rows", "step", "width", "top", "left", "row", "column"]) (sc := defScope s_l_after) (by decide +kernel)) (fun _ _ _ _ _ _ _ => (fg_name (i := 5) sc_l_after.nd rfl (by first | exact Or.inl rfl | exact Or.inr rfl))) (fun _ _ _ _ _ _ _ => fts_nil) (fun _ _ _ _ _ _ _ => (fe_if (ft_val (fe_var 4)) (fe_bin o_add ow_add (fe_lst (fa_cons (fe_ix x_seq ow_ix (fe_var 1) fe_int) fa_nil)) (fe_var 5)) (fe_bin o_add ow_add (fe_var 5) (fe_lst (fa_cons (fe_ix x_seq ow_ix (fe_var 1) fe_int) fa_nil))))))))))))))
theorem ok_l_tuples (T : Tx w K mg base A) : FnG P w K mg base 2 A.a_l_tuples A.fd_l_tuples ["rows"] (gF e_l_tuples) := by
  refine fnF_mk (fs := p_l_tuples) T.F_l_tuples sc_l_tuples fun Φ cdv A' outer s H E iΦ hr => ?_
  exact (fss_one (fs_ret (fe_callTy f_tuple lw_tuple (by rfl) T.n_tuple (by decide +kernel) (fa_cons (fe_lc rfl sc_l_tuples.nd (own := [("row", 1)]) (fi_seq (fe_var 0)) (blkOk_by (N := ["rows", "row"]) (sc := defScope s_l_tuples) (by decide +kernel)) (fun _ _ _ _ _ _ _ => (fg_name (i := 1) sc_l_tuples.nd rfl (by first | exact Or.inl rfl | exact Or.inr rfl))) (fun _ _ _ _ _ _ _ => fts_nil) (fun _ _ _ _ _ _ _ => (fe_callTy f_tuple lw_tuple (by rfl) T.n_tuple (by decide +kernel) (fa_cons (fe_var 1) fa_nil)))) fa_nil))))
def p_l_done : fS := (fTry ((clt "LastLine", 2, fun x => (fRet (fLst (fCons (fC (.str "last")) (fCons (fXf "LastLine" "index" x) fNil))))) :: ((clt "InvalidSide", 2, fun x => (fRet (fLst (fCons (fC (.str "side")) (fCons (fFn lRepr (fCons (fXf "InvalidSide" "value" x) fNil)) fNil))))) :: ((clt "InvalidColour", 2, fun x => (fRet (fLst (fCons (fC (.str "colour")) (fCons (fFn lRepr (fCons (fXf "InvalidColour" "value" x) fNil)) fNil))))) :: []))) (fSeq (fIfS (fTest (fBin oEq (fBin oIx (fVar 1) (fC (.int 0))) (fC (.str "turn")))) (fRet (fProp "Picture" e_Picture_rows (fMeth0 "Picture" "turned" e_Picture_turned 1 [] (fVar 0)))) fNext) (fSeq (fIfS (fTest (fBin oEq (fBin oIx (fVar 1) (fC (.int 0))) (fC (.str "mirror")))) (fRet (fProp "Picture" e_Picture_rows (fMeth0 "Picture" "mirrored" e_Picture_mirrored 1 [] (fVar 0)))) fNext) (fSeq (fIfS (fTest (fBin oEq (fBin oIx (fVar 1) (fC (.int 0))) (fC (.str "cut")))) (fRet (fProp "Picture" e_Picture_rows (fMeth "Picture" "cut" e_Picture_cut 2 [] (fVar 0) (fCons (fBin oIx (fVar 1) (fC (.int 1))) fNil)))) fNext) (fRet (fProp "Picture" e_Picture_rows (fMeth "Picture" "added" e_Picture_added 3 [] (fVar 0) (fCons (fBin oIx (fVar 1) (fC (.int 1))) (fCons (fBin oIx (fVar 1) (fC (.int 2))) fNil)))))))))
def e_l_done : fF := fBody p_l_done 1
theorem ok_l_done (T : Tx w K mg base A) : FnG P w K mg base 16 A.a_l_done A.fd_l_done ["picture", "step"] (gF e_l_done) := by
  refine fnF_mk (fs := p_l_done) T.F_l_done sc_l_done fun Φ cdv A' outer s H E iΦ hr => ?_
  exact (fss_one (fs_try rfl rfl sc_l_done.nd (takes_of rfl rfl rfl rfl) (fun W' pn xe tk' pw' => (fss_cons (fs_if (ft_cmp (o_eq' (rmT hr).units) ow_eq (fe_ix x_seq ow_ix (fe_var 1) fe_int) fe_str) (fss_one (fs_ret (fe_prop (fe_meth0 (fe_var 0) T.cl_Picture T.mg_Picture T.mt_Picture_turned (ok_Picture_turned T) ((rmT hr).mono (by decide)) T.b_Picture_turned .nil (fun _ => .nil) tk') T.cl_Picture T.mg_Picture T.pr_Picture_rows (ok_Picture_rows T) ((rmT hr).mono (by decide)) T.b_Picture_rows))) fss_nil) (fss_cons (fs_if (ft_cmp (o_eq' (rmT hr).units) ow_eq (fe_ix x_seq ow_ix (fe_var 1) fe_int) fe_str) (fss_one (fs_ret (fe_prop (fe_meth0 (fe_var 0) T.cl_Picture T.mg_Picture T.mt_Picture_mirrored (ok_Picture_mirrored T) ((rmT hr).mono (by decide)) T.b_Picture_mirrored .nil (fun _ => .nil) tk') T.cl_Picture T.mg_Picture T.pr_Picture_rows (ok_Picture_rows T) ((rmT hr).mono (by decide)) T.b_Picture_rows))) fss_nil) (fss_cons (fs_if (ft_cmp (o_eq' (rmT hr).units) ow_eq (fe_ix x_seq ow_ix (fe_var 1) fe_int) fe_str) (fss_one (fs_ret (fe_prop (fe_meth (fe_var 0) T.cl_Picture T.mg_Picture T.mt_Picture_cut (ok_Picture_cut T) ((rmT hr).mono (by decide)) T.b_Picture_cut .nil (fun _ => .nil) tk' (fa_cons (fe_ix x_seq ow_ix (fe_var 1) fe_int) fa_nil)) T.cl_Picture T.mg_Picture T.pr_Picture_rows (ok_Picture_rows T) ((rmT hr).mono (by decide)) T.b_Picture_rows))) fss_nil) (fss_one (fs_ret (fe_prop (fe_meth (fe_var 0) T.cl_Picture T.mg_Picture T.mt_Picture_added (ok_Picture_added T) ((rmT hr).mono (by decide)) T.b_Picture_added .nil (fun _ => .nil) tk' (fa_cons (fe_ix x_seq ow_ix (fe_var 1) fe_int) (fa_cons (fe_ix x_seq ow_ix (fe_var 1) fe_int) fa_nil))) T.cl_Picture T.mg_Picture T.pr_Picture_rows (ok_Picture_rows T) ((rmT hr).mono (by decide)) T.b_Picture_rows))))))) (FCl.cons (i := 2) (cl := clt "LastLine") rfl rfl ⟨by rfl, by decide, Or.inl T.mg_LastLine⟩ T.cl_LastLine (fun a oe cls d pn x' x hz hf => (fss_one (fs_ret (fe_lst (fa_cons fe_str (fa_cons (fe_xfld T.xc_LastLine T.mg_LastLine hz hf (de_var 2)) fa_nil)))))) (FCl.cons (i := 2) (cl := clt "InvalidSide") rfl rfl ⟨by rfl, by decide, Or.inl T.mg_InvalidSide⟩ T.cl_InvalidSide (fun a oe cls d pn x' x hz hf => (fss_one (fs_ret (fe_lst (fa_cons fe_str (fa_cons (fe_callB (f_repr T.mods (sgd hr) (sun hr)) lw_repr (by rfl) T.n_repr (by decide +kernel) (fa_cons (fe_xfld T.xc_InvalidSide T.mg_InvalidSide hz hf (de_var 2)) fa_nil)) fa_nil)))))) (FCl.cons (i := 2) (cl := clt "InvalidColour") rfl rfl ⟨by rfl, by decide, Or.inl T.mg_InvalidColour⟩ T.cl_InvalidColour (fun a oe cls d pn x' x hz hf => (fss_one (fs_ret (fe_lst (fa_cons fe_str (fa_cons (fe_callB (f_repr T.mods (sgd hr) (sun hr)) lw_repr (by rfl) T.n_repr (by decide +kernel) (fa_cons (fe_xfld T.xc_InvalidColour T.mg_InvalidColour hz hf (de_var 2)) fa_nil)) fa_nil)))))) FCl.nil)))))
def p_law : fS := (fSeq (fFor (iR1 (fCons (fFn lMax (fCons (fC (.int 1)) (fCons (fFn lMin (fCons (fFn lLen (fCons (fVar 0) fNil)) (fCons (fC (.int 8)) fNil))) fNil))) fNil)) (fGn 1) (fSeq (fSet 2 (fCall e_l_pool 2 [] (fCons (fVar 0) (fCons (fVar 1) fNil)))) (fSeq (fSet 3 (fCall e_l_random_picture 3 [] (fCons (fVar 2) (fCons (fC (.int 5)) (fCons (fC (.int 9)) fNil))))) (fSeq (fSet 4 (fMake "Picture" e_Picture_init_ 2 [] (fCons (fVar 3) fNil))) (fSeq (fSet 5 (fLst (fCons (fTup (fCons (fC (.str "turn")) fNil)) (fCons (fTup (fCons (fC (.str "mirror")) fNil)) fNil)))) (fSeq (fFor (iSq (fLst (fCons (fC (.str "top")) (fCons (fC (.str "right")) (fCons (fC (.str "bottom")) (fCons (fC (.str "left")) fNil)))))) (fGn 6) (fSet 5 (fBin oAdd (fVar 5) (fLst (fCons (fTup (fCons (fC (.str "cut")) (fCons (fVar 6) fNil))) (fCons (fTup (fCons (fC (.str "add")) (fCons (fVar 6) (fCons (fCall e_l_draw 2 [] (fCons (fVar 2) (fCons (fBin oPow (fC (.int 10)) (fC (.int 9))) fNil))) fNil)))) fNil)))))) (fSeq (fFor (iSq (fVar 5)) (fGn 7) (fSeq (fSet 9 (fCall e_l_after 2 [] (fCons (fVar 3) (fCons (fVar 7) fNil)))) (fSeq (fSet 9 (fIf (fTest (fBin oIsN (fVar 9) (fC .non))) (fLst (fCons (fC (.str "last")) (fCons (fC (.int 0)) fNil))) (fCall e_l_tuples 1 [] (fCons (fVar 9) fNil)))) (fIfS (fOr (fTest (fBin oNe (fCall e_l_done 2 [] (fCons (fVar 4) (fCons (fVar 7) fNil))) (fVar 9))) (fTest (fBin oNe (fProp "Picture" e_Picture_rows (fVar 4)) (fCall e_l_tuples 1 [] (fCons (fVar 3) fNil))))) (fRet (fC (.bl false))) fNext)))) (fSeq (fFor (iSq (fLst (fCons (fC .non) (fCons (fC (.str "up")) (fCons (fC (.str "Top")) (fCons (fC (.int 0)) (fCons (fLst fNil) (fCons (fTup (fCons (fC (.str "top")) fNil)) (fCons (fC (.bl true)) fNil))))))))) (fGn 8) (fSeq (fIfS (fTest (fBin oNe (fCall e_l_done 2 [] (fCons (fVar 4) (fCons (fTup (fCons (fC (.str "cut")) (fCons (fVar 8) fNil))) fNil))) (fLst (fCons (fC (.str "side")) (fCons (fFn lRepr (fCons (fVar 8) fNil)) fNil))))) (fRet (fC (.bl false))) fNext) (fIfS (fTest (fBin oNe (fCall e_l_done 2 [] (fCons (fVar 4) (fCons (fTup (fCons (fC (.str "add")) (fCons (fVar 8) (fCons (fC .non) fNil)))) fNil))) (fLst (fCons (fC (.str "side")) (fCons (fFn lRepr (fCons (fVar 8) fNil)) fNil))))) (fRet (fC (.bl false))) fNext))) (fFor (iSq (fLst (fCons (fC .non) (fCons (fNeg (fC (.int 1))) (fCons (fC (.bl true)) (fCons (fC (.str "1")) (fCons (fTup (fCons (fC (.int 1)) fNil)) fNil))))))) (fGn 8) (fIfS (fTest (fBin oNe (fCall e_l_done 2 [] (fCons (fVar 4) (fCons (fTup (fCons (fC (.str "add")) (fCons (fC (.str "left")) (fCons (fVar 8) fNil)))) fNil))) (fLst (fCons (fC (.str "colour")) (fCons (fFn lRepr (fCons (fVar 8) fNil)) fNil))))) (fRet (fC (.bl false))) fNext)))))))))) (fRet (fC (.bl true))))
def e_law : fF := fBody p_law 9
theorem ok_law (T : Tx w K mg base A) (hm : ∀ ns : List Int, ns.length ≤ 63 → ∃ s1, e_law [.frz (ns.map D.int)] [] = .ok (.bl true) s1) : FnS P w K mg base 18 A.a_law A.fd_law ["script"] (spLawD K) := by
  refine lawF_mk (fs := p_law) T.F_law sc_law (fun cdv A' outer s H E iΦ hr => ?_) hm
  exact (fss_cons (fs_for (passes_of rfl) rfl (fi_range1 (by rfl) T.n_range (fa_cons (fe_callB (f_max rfl) lw_max (by rfl) T.n_max (by decide +kernel) (fa_cons fe_int (fa_cons (fe_callB (f_min rfl) lw_min (by rfl) T.n_min (by decide +kernel) (fa_cons (fe_callB (f_len) lw_len (by rfl) T.n_len (by decide +kernel) (fa_cons (fe_var 0) fa_nil)) (fa_cons fe_int fa_nil))) fa_nil))) fa_nil)) (fg_name (i := 1) sc_law.nd rfl (by first | exact Or.inl rfl | exact Or.inr rfl)) (fss_cons (fs_set (i := 2) sc_law.nd rfl (by first | exact Or.inl rfl | exact Or.inr rfl) (fe_call (ok_l_pool T) (hr.mono (by decide)) (by rfl) T.g_l_pool T.F_l_pool.kp T.b_l_pool .nil (fun _ => .nil) (takes_of rfl rfl rfl rfl) (fa_cons (fe_var 0) (fa_cons (fe_var 1) fa_nil)))) (fss_cons (fs_set (i := 3) sc_law.nd rfl (by first | exact Or.inl rfl | exact Or.inr rfl) (fe_call (ok_l_random_picture T) (hr.mono (by decide)) (by rfl) T.g_l_random_picture T.F_l_random_picture.kp T.b_l_random_picture .nil (fun _ => .nil) (takes_of rfl rfl rfl rfl) (fa_cons (fe_var 2) (fa_cons fe_int (fa_cons fe_int fa_nil))))) (fss_cons (fs_set (i := 4) sc_law.nd rfl (by first | exact Or.inl rfl | exact Or.inr rfl) (fe_make T.mk_Picture T.mg_Picture (ok_Picture_init_ T) (hr.mono (by decide)) (by rfl) T.b_Picture_init_ .nil (fun _ => .nil) (takes_of rfl rfl rfl rfl) (fa_cons (fe_var 3) fa_nil))) (fss_cons (fs_set (i := 5) sc_law.nd rfl (by first | exact Or.inl rfl | exact Or.inr rfl) (fe_lst (fa_cons (fe_tup (fa_cons fe_str fa_nil)) (fa_cons (fe_tup (fa_cons fe_str fa_nil)) fa_nil)))) (fss_cons (fs_for (passes_of rfl) rfl (fi_seq (fe_lst (fa_cons fe_str (fa_cons fe_str (fa_cons fe_str (fa_cons fe_str fa_nil)))))) (fg_name (i := 6) sc_law.nd rfl (by first | exact Or.inl rfl | exact Or.inr rfl)) (fss_one (fs_set (i := 5) sc_law.nd rfl (by first | exact Or.inl rfl | exact Or.inr rfl) (fe_bin o_add ow_add (fe_var 5) (fe_lst (fa_cons (fe_tup (fa_cons fe_str (fa_cons (fe_var 6) fa_nil))) (fa_cons (fe_tup (fa_cons fe_str (fa_cons (fe_var 6) (fa_cons (fe_call (ok_l_draw T) (hr.mono (by decide)) (by rfl) T.g_l_draw T.F_l_draw.kp T.b_l_draw .nil (fun _ => .nil) (takes_of rfl rfl rfl rfl) (fa_cons (fe_var 2) (fa_cons (fe_bin o_pow ow_pow fe_int fe_int) fa_nil))) fa_nil)))) fa_nil))))))) (fss_cons (fs_for (passes_of rfl) rfl (fi_seq (fe_var 5)) (fg_name (i := 7) sc_law.nd rfl (by first | exact Or.inl rfl | exact Or.inr rfl)) (fss_cons (fs_set (i := 9) sc_law.nd rfl (by first | exact Or.inl rfl | exact Or.inr rfl) (fe_call (ok_l_after T) (hr.mono (by decide)) (by rfl) T.g_l_after T.F_l_after.kp T.b_l_after .nil (fun _ => .nil) (takes_of rfl rfl rfl rfl) (fa_cons (fe_var 3) (fa_cons (fe_var 7) fa_nil)))) (fss_cons (fs_set (i := 9) sc_law.nd rfl (by first | exact Or.inl rfl | exact Or.inr rfl) (fe_if (ft_cmp o_isN ow_isN (fe_var 9) fe_non) (fe_lst (fa_cons fe_str (fa_cons fe_int fa_nil))) (fe_call (ok_l_tuples T) (hr.mono (by decide)) (by rfl) T.g_l_tuples T.F_l_tuples.kp T.b_l_tuples .nil (fun _ => .nil) (takes_of rfl rfl rfl rfl) (fa_cons (fe_var 9) fa_nil)))) (fss_one (fs_if (FW.ft (fw_or (ft_cmp (o_ne' hr.units) ow_ne (fe_call (ok_l_done T) (hr.mono (by decide)) (by rfl) T.g_l_done T.F_l_done.kp T.b_l_done .nil (fun _ => .nil) (takes_of rfl rfl rfl rfl) (fa_cons (fe_var 4) (fa_cons (fe_var 7) fa_nil))) (fe_var 9)) (fw_or1 (ft_cmp (o_ne' hr.units) ow_ne (fe_prop (fe_var 4) T.cl_Picture T.mg_Picture T.pr_Picture_rows (ok_Picture_rows T) (hr.mono (by decide)) T.b_Picture_rows) (fe_call (ok_l_tuples T) (hr.mono (by decide)) (by rfl) T.g_l_tuples T.F_l_tuples.kp T.b_l_tuples .nil (fun _ => .nil) (takes_of rfl rfl rfl rfl) (fa_cons (fe_var 3) fa_nil)))))) (fss_one (fs_ret fe_bl)) fss_nil))))) (fss_cons (fs_for (passes_of rfl) rfl (fi_seq (fe_lst (fa_cons fe_non (fa_cons fe_str (fa_cons fe_str (fa_cons fe_int (fa_cons (fe_lst fa_nil) (fa_cons (fe_tup (fa_cons fe_str fa_nil)) (fa_cons fe_bl fa_nil))))))))) (fg_name (i := 8) sc_law.nd rfl (by first | exact Or.inl rfl | exact Or.inr rfl)) (fss_cons (fs_if (ft_cmp (o_ne' hr.units) ow_ne (fe_call (ok_l_done T) (hr.mono (by decide)) (by rfl) T.g_l_done T.F_l_done.kp T.b_l_done .nil (fun _ => .nil) (takes_of rfl rfl rfl rfl) (fa_cons (fe_var 4) (fa_cons (fe_tup (fa_cons fe_str (fa_cons (fe_var 8) fa_nil))) fa_nil))) (fe_lst (fa_cons fe_str (fa_cons (fe_callB (f_repr T.mods hr.gd hr.units) lw_repr (by rfl) T.n_repr (by decide +kernel) (fa_cons (fe_var 8) fa_nil)) fa_nil)))) (fss_one (fs_ret fe_bl)) fss_nil) (fss_one (fs_if (ft_cmp (o_ne' hr.units) ow_ne (fe_call (ok_l_done T) (hr.mono (by decide)) (by rfl) T.g_l_done T.F_l_done.kp T.b_l_done .nil (fun _ => .nil) (takes_of rfl rfl rfl rfl) (fa_cons (fe_var 4) (fa_cons (fe_tup (fa_cons fe_str (fa_cons (fe_var 8) (fa_cons fe_non fa_nil)))) fa_nil))) (fe_lst (fa_cons fe_str (fa_cons (fe_callB (f_repr T.mods hr.gd hr.units) lw_repr (by rfl) T.n_repr (by decide +kernel) (fa_cons (fe_var 8) fa_nil)) fa_nil)))) (fss_one (fs_ret fe_bl)) fss_nil)))) (fss_one (fs_for (passes_of rfl) rfl (fi_seq (fe_lst (fa_cons fe_non (fa_cons (fe_neg fe_int) (fa_cons fe_bl (fa_cons fe_str (fa_cons (fe_tup (fa_cons fe_int fa_nil)) fa_nil))))))) (fg_name (i := 8) sc_law.nd rfl (by first | exact Or.inl rfl | exact Or.inr rfl)) (fss_one (fs_if (ft_cmp (o_ne' hr.units) ow_ne (fe_call (ok_l_done T) (hr.mono (by decide)) (by rfl) T.g_l_done T.F_l_done.kp T.b_l_done .nil (fun _ => .nil) (takes_of rfl rfl rfl rfl) (fa_cons (fe_var 4) (fa_cons (fe_tup (fa_cons fe_str (fa_cons fe_str (fa_cons (fe_var 8) fa_nil)))) fa_nil))) (fe_lst (fa_cons fe_str (fa_cons (fe_callB (f_repr T.mods hr.gd hr.units) lw_repr (by rfl) T.n_repr (by decide +kernel) (fa_cons (fe_var 8) fa_nil)) fa_nil)))) (fss_one (fs_ret fe_bl)) fss_nil)))))))))))) (fss_one (fs_ret fe_bl)))
end
-- level of the law: 18
end K03

set_option Elab.async false
set_option linter.all false
set_option maxRecDepth 100000
set_option maxHeartbeats 4000000
namespace K03
open PySem PySem.Spec PyProof.Rows L2 DL FL PD PA TP TQ
local macro_rules | `(tactic| walk_at "op") => `(tactic| first
  | with_reducible assumption
  | with_reducible exact oEq_int | with_reducible exact oNe_int | with_reducible exact oAdd_int | with_reducible exact oSub_int | with_reducible exact oLt_int | with_reducible exact oLe_int | with_reducible exact oGt_int | with_reducible exact oGe_int
  | with_reducible exact oEq_str (by decide +kernel) (by decide +kernel)
  | with_reducible exact oNotN_e | with_reducible exact oIsN_e
  | with_reducible exact pow9 | with_reducible exact pow18 | with_reducible exact pow20 | with_reducible exact pow25 | with_reducible exact pow30
  | with_reducible exact oMod_int (by omega) | with_reducible exact oDiv_int (by omega) (by omega) | with_reducible exact oDiv_big (by omega) (by omega) | with_reducible exact oMul1_b | with_reducible exact oMul1_int (by omega) | with_reducible exact oMul1_intR (by omega)
  | ((with_reducible show oIx _ _ = _); first | exact oIx_t0 | exact oIx_l0 | (refine Eq.trans oIx_tup ?_; exact rfl) | (refine Eq.trans oIx_lst ?_; exact rfl))
  | ((with_reducible show oIn _ _ = _); exact rfl) | ((with_reducible show oNotIn _ _ = _); exact rfl)
  | with_reducible exact oCut_t1 | with_reducible exact oCut_t9 | with_reducible exact oCut_l1 | with_reducible exact oCut_l9)
local macro_rules | `(tactic| walk_at "fn") => `(tactic| first
  | ((with_reducible show lLen _ = _); exact rfl) | ((with_reducible show lTuple _ = _); exact rfl) | ((with_reducible show lListF _ = _); exact rfl) | ((with_reducible show lInt _ = _); exact rfl) | ((with_reducible show lAbs _ = _); exact rfl) | ((with_reducible show lMax _ = _); exact rfl) | ((with_reducible show lMin _ = _); exact rfl) | ((with_reducible show oCut _ _ _ = _); exact rfl))
local macro_rules | `(tactic| walk_at "br") => `(tactic| first | decide +kernel | with_reducible assumption | decide | exact rfl)
local macro_rules | `(tactic| walk_at "g1") => `(tactic| first
  | with_reducible refine wp_seq ?_
  | ((with_reducible apply wp_var); (exact rfl))
  | with_reducible refine wp_c ?_
  | with_reducible refine wp_bin ?_
  | ((with_reducible apply gw_op); (first | walk_at "op" | walk_at "fn"))
  | with_reducible refine wp_test ?_
  | with_reducible refine gw_bl ?_
  | with_reducible refine wp_ifS ?_
  | ((with_reducible apply gw_t); (walk_at "br"))
  | ((with_reducible apply gw_f); (walk_at "br"))
  | with_reducible refine wp_set ?_
  | with_reducible refine wp_cons ?_
  | with_reducible refine wp_nil ?_
  | with_reducible refine wp_ret ?_
  | with_reducible refine wp_next ?_
  | with_reducible refine wp_call ?_
  | ((with_reducible apply gw_len); (exact rfl))
  | with_reducible refine wp_drop ?_
  | with_reducible refine wp_fn ?_
  | with_reducible refine wp_tup ?_
  | with_reducible refine wp_lst ?_
  | ((with_reducible apply gw_sz); (exact rfl))
  | with_reducible refine wp_and ?_
  | with_reducible refine wp_or ?_
  | with_reducible refine wp_not ?_
  | with_reducible refine wp_andV ?_
  | with_reducible refine wp_orV ?_
  | with_reducible refine wp_notV ?_
  | with_reducible refine wp_if ?_
  | with_reducible refine wp_fld ?_
  | ((with_reducible apply gw_fld); (exact rfl); (exact rfl))
  | with_reducible refine wp_prop ?_
  | with_reducible refine wp_meth0 ?_
  | with_reducible refine wp_meth ?_
  | ((with_reducible apply gw_ins); (exact rfl); (decide))
  | ((with_reducible apply gw_ins1); (exact rfl))
  | with_reducible refine wp_isi ?_
  | ((with_reducible apply gw_isi); (exact rfl); (exact rfl))
  | with_reducible refine wp_isC ?_
  | ((with_reducible apply gw_isC); (first | with_reducible assumption | exact rfl))
  | with_reducible refine wp_sl ?_
  | with_reducible refine wp_pn ?_
  | with_reducible refine wp_ps ?_
  | with_reducible refine gw_int ?_
  | with_reducible refine wp_neg ?_
  | with_reducible refine wp_back ?_
  | with_reducible refine gw_backT ?_
  | with_reducible refine gw_backL ?_
  | with_reducible refine wp_asg ?_
  | ((with_reducible apply gw_asg); (first | exact rfl | exact gsub_e rfl rfl (by first | with_reducible assumption | exact set_at (by with_reducible assumption)) rfl))
  | with_reducible refine wp_ixO ?_
  | ((with_reducible apply gw_ix); (exact rfl); (exact rfl); (first | exact rfl | with_reducible assumption | exact set_at (by with_reducible assumption)); (exact rfl))
  | with_reducible refine wp_lc ?_
  | with_reducible refine wp_for ?_
  | with_reducible refine wp_iSq ?_
  | ((with_reducible apply gw_seq); (exact rfl))
  | with_reducible refine wp_iEn ?_
  | with_reducible refine wp_iR1 ?_
  | ((with_reducible apply gw_r1); (omega))
  | with_reducible refine wp_make ?_
  | with_reducible refine wp_opI ?_
  | ((with_reducible apply gw_two_ins); (exact rfl); (exact rfl))
  | with_reducible refine wp_raise ?_
  | with_reducible refine gw_one ?_
  | with_reducible refine wp_try ?_
  | ((with_reducible apply wp_pickT1); (focus decide +kernel); (focus (simp; done)))
  | ((with_reducible apply wp_pickF1); (focus decide +kernel))
  | ((with_reducible apply wp_xf); (exact rfl); (exact rfl); (exact rfl))
  | with_reducible refine wp_tidx ?_
  | ((with_reducible apply gw_tix); (exact rfl); (exact rfl))
  | with_reducible refine wp_kix ?_
  | ((with_reducible apply gw_kix); (exact rfl); (exact rfl))
  | with_reducible refine wp_lstO ?_
  | with_reducible refine wp_retN ?_
  | with_reducible refine wp_brk ?_
  | with_reducible refine wp_cont ?_
  | with_reducible refine wp_par ?_
  | with_reducible refine wp_chain ?_
  | with_reducible refine wp_join ?_
  | with_reducible refine wp_reprI ?_
  | with_reducible refine wp_eqI ?_
  | ((with_reducible apply gw_t); (focus (simp; done)))
  | ((with_reducible apply gw_f); (focus (simp; done))))
local macro_rules | `(tactic| walk_at "g") => `(tactic| repeat walk_at "g1")
variable {st : FL.St} {h w : Nat} {g : Grid} {Q : D → FL.St → Prop} {X : Exn → FL.St → Prop}
def lastD : D := .lst [.str "last", .int 0]
def doneD : Option Grid → D
  | none => lastD
  | some g => tG g
theorem done_turn (k : Grd h w g) (hc : Clean st) : e_l_done [picD g, (TP.Sp.turn).d] st = .ok (tG (TP.turnG w g)) st := by
  refine Res.eq_wp (wp_body0 ?_)
  unfold p_l_done
  walk_at "g"
  refine Res.wp_eq (pturned_e k hc) ?_
  walk_at "g"
  refine Res.wp_eq rows_e ?_
  exact ⟨rfl, rfl, rfl⟩
theorem done_mir (k : Grd h w g) (hc : Clean st) : e_l_done [picD g, (TP.Sp.mir).d] st = .ok (tG (mirG g)) st := by
  refine Res.eq_wp (wp_body0 ?_)
  unfold p_l_done
  walk_at "g"
  refine Res.wp_eq (pmirrored_e k hc) ?_
  walk_at "g"
  refine Res.wp_eq rows_e ?_
  exact ⟨rfl, rfl, rfl⟩
theorem done_cut {s : Sd} (k : Grd h w g) (hc : Clean st) : e_l_done [picD g, (TP.Sp.cut s).d] st = .ok (doneD (aft h w (.cut s) g)) st := by
  refine Res.eq_wp (wp_body0 ?_)
  unfold p_l_done
  walk_at "g"
  cases hl : lastG s h w with
  | false =>
    refine Res.wp_eq (pcut_e k hl hc) ?_
    walk_at "g"
    refine Res.wp_eq rows_e ?_
    exact ⟨rfl, by rw [aft, hl]; rfl, rfl⟩
  | true =>
    refine Res.wp_ex (pcut_x k hl) ?_
    walk_at "g"
    exact ⟨rfl, by rw [aft, hl]; rfl, rfl⟩
theorem done_add {s : Sd} {c : Int} (k : Grd h w g) (h2 : h < 1000) (w2 : w < 1000) (h0 : 0 ≤ c) (hc : Clean st) : e_l_done [picD g, (TP.Sp.add s c).d] st = .ok (tG (addG w c s g)) st := by
  refine Res.eq_wp (wp_body0 ?_)
  unfold p_l_done
  walk_at "g"
  refine Res.wp_eq (padded_e k h2 w2 h0 hc) ?_
  walk_at "g"
  refine Res.wp_eq rows_e ?_
  exact ⟨rfl, rfl, rfl⟩
def okP : TP.Sp → Prop
  | .add _ c => 0 ≤ c
  | _ => True
theorem done_e {p : TP.Sp} (k : Grd h w g) (h2 : h < 1000) (w2 : w < 1000) (h0 : okP p) (hc : Clean st) : e_l_done [picD g, p.d] st = .ok (doneD (aft h w p g)) st := by
  cases p with
  | turn => exact done_turn k hc
  | mir => exact done_mir k hc
  | cut s => exact done_cut k hc
  | add s c => exact done_add k h2 w2 h0 hc
theorem done_bad_cut {d : D} {y : Str} (hd : (tyD d).isSome = true) (n : isSide d = false) (hy : lRepr [d] = some (.str y)) : e_l_done [picD g, .tup [.str "cut", d]] st = .ok (.lst [.str "side", .str y]) st := by
  refine Res.eq_wp (wp_body0 ?_)
  unfold p_l_done
  walk_at "g"
  refine Res.wp_ex (pcut_bad hd n) ?_
  walk_at "g"
  exact ⟨rfl, rfl, rfl⟩
theorem done_bad_add {d e : D} {y : Str} (hd : (tyD d).isSome = true) (n : isSide d = false) (hy : lRepr [d] = some (.str y)) : e_l_done [picD g, .tup [.str "add", d, e]] st = .ok (.lst [.str "side", .str y]) st := by
  refine Res.eq_wp (wp_body0 ?_)
  unfold p_l_done
  walk_at "g"
  refine Res.wp_ex (padded_side hd n) ?_
  walk_at "g"
  exact ⟨rfl, rfl, rfl⟩
theorem done_bad_col {d : D} {y : Str} (hd : (tyD d).isSome = true) (n : isColour d = false) (hy : lRepr [d] = some (.str y)) : e_l_done [picD g, .tup [.str "add", .str "left", d]] st = .ok (.lst [.str "colour", .str y]) st := by
  refine Res.eq_wp (wp_body0 ?_)
  unfold p_l_done
  walk_at "g"
  refine Res.wp_ex (padded_col (s := .left) hd n) ?_
  walk_at "g"
  exact ⟨rfl, rfl, rfl⟩
theorem tG_pl : plD 20 (tG g) = true := by
  show plL 19 (g.map tR) = true
  refine plL_map fun r _ => ?_
  show plL 18 (r.map D.int) = true
  exact plL_int
theorem doneD_pl {o : Option Grid} : plD 20 (doneD o) = true := by
  cases o with
  | none => decide +kernel
  | some g => exact tG_pl
end K03

set_option Elab.async false
set_option linter.all false
set_option maxRecDepth 100000
set_option maxHeartbeats 4000000
namespace K03
open PySem PySem.Spec PyProof.Rows L2 DL FL PD PA TP TQ
local macro_rules | `(tactic| walk_at "op") => `(tactic| first
  | with_reducible assumption
  | with_reducible exact oEq_int | with_reducible exact oNe_int | with_reducible exact oAdd_int | with_reducible exact oSub_int | with_reducible exact oLt_int | with_reducible exact oLe_int | with_reducible exact oGt_int | with_reducible exact oGe_int
  | with_reducible exact oEq_str (by decide +kernel) (by decide +kernel)
  | with_reducible exact oNotN_e | with_reducible exact oIsN_e
  | with_reducible exact pow9 | with_reducible exact pow18 | with_reducible exact pow20 | with_reducible exact pow25 | with_reducible exact pow30
  | with_reducible exact oMod_int (by omega) | with_reducible exact oDiv_int (by omega) (by omega) | with_reducible exact oDiv_big (by omega) (by omega) | with_reducible exact oMul1_b | with_reducible exact oMul1_int (by omega) | with_reducible exact oMul1_intR (by omega)
  | ((with_reducible show oIx _ _ = _); first | exact oIx_t0 | exact oIx_l0 | (refine Eq.trans oIx_tup ?_; exact rfl) | (refine Eq.trans oIx_lst ?_; exact rfl))
  | ((with_reducible show oIn _ _ = _); exact rfl) | ((with_reducible show oNotIn _ _ = _); exact rfl)
  | with_reducible exact oCut_t1 | with_reducible exact oCut_t9 | with_reducible exact oCut_l1 | with_reducible exact oCut_l9)
local macro_rules | `(tactic| walk_at "fn") => `(tactic| first
  | ((with_reducible show lLen _ = _); exact rfl) | ((with_reducible show lTuple _ = _); exact rfl) | ((with_reducible show lListF _ = _); exact rfl) | ((with_reducible show lInt _ = _); exact rfl) | ((with_reducible show lAbs _ = _); exact rfl) | ((with_reducible show lMax _ = _); exact rfl) | ((with_reducible show lMin _ = _); exact rfl) | ((with_reducible show oCut _ _ _ = _); exact rfl))
local macro_rules | `(tactic| walk_at "br") => `(tactic| first | decide +kernel | with_reducible assumption | decide | exact rfl)
local macro_rules | `(tactic| walk_at "g1") => `(tactic| first
  | with_reducible refine wp_seq ?_
  | ((with_reducible apply wp_var); (exact rfl))
  | with_reducible refine wp_c ?_
  | with_reducible refine wp_bin ?_
  | ((with_reducible apply gw_op); (first | walk_at "op" | walk_at "fn"))
  | with_reducible refine wp_test ?_
  | with_reducible refine gw_bl ?_
  | with_reducible refine wp_ifS ?_
  | ((with_reducible apply gw_t); (walk_at "br"))
  | ((with_reducible apply gw_f); (walk_at "br"))
  | with_reducible refine wp_set ?_
  | with_reducible refine wp_cons ?_
  | with_reducible refine wp_nil ?_
  | with_reducible refine wp_ret ?_
  | with_reducible refine wp_next ?_
  | with_reducible refine wp_call ?_
  | ((with_reducible apply gw_len); (exact rfl))
  | with_reducible refine wp_drop ?_
  | with_reducible refine wp_fn ?_
  | with_reducible refine wp_tup ?_
  | with_reducible refine wp_lst ?_
  | ((with_reducible apply gw_sz); (exact rfl))
  | with_reducible refine wp_and ?_
  | with_reducible refine wp_or ?_
  | with_reducible refine wp_not ?_
  | with_reducible refine wp_andV ?_
  | with_reducible refine wp_orV ?_
  | with_reducible refine wp_notV ?_
  | with_reducible refine wp_if ?_
  | with_reducible refine wp_fld ?_
  | ((with_reducible apply gw_fld); (exact rfl); (exact rfl))
  | with_reducible refine wp_prop ?_
  | with_reducible refine wp_meth0 ?_
  | with_reducible refine wp_meth ?_
  | ((with_reducible apply gw_ins); (exact rfl); (decide))
  | ((with_reducible apply gw_ins1); (exact rfl))
  | with_reducible refine wp_isi ?_
  | ((with_reducible apply gw_isi); (exact rfl); (exact rfl))
  | with_reducible refine wp_isC ?_
  | ((with_reducible apply gw_isC); (first | with_reducible assumption | exact rfl))
  | with_reducible refine wp_sl ?_
  | with_reducible refine wp_pn ?_
  | with_reducible refine wp_ps ?_
  | with_reducible refine gw_int ?_
  | with_reducible refine wp_neg ?_
  | with_reducible refine wp_back ?_
  | with_reducible refine gw_backT ?_
  | with_reducible refine gw_backL ?_
  | with_reducible refine wp_asg ?_
  | ((with_reducible apply gw_asg); (first | exact rfl | exact gsub_e rfl rfl (by first | with_reducible assumption | exact set_at (by with_reducible assumption)) rfl))
  | with_reducible refine wp_ixO ?_
  | ((with_reducible apply gw_ix); (exact rfl); (exact rfl); (first | exact rfl | with_reducible assumption | exact set_at (by with_reducible assumption)); (exact rfl))
  | with_reducible refine wp_lc ?_
  | with_reducible refine wp_for ?_
  | with_reducible refine wp_iSq ?_
  | ((with_reducible apply gw_seq); (exact rfl))
  | with_reducible refine wp_iEn ?_
  | with_reducible refine wp_iR1 ?_
  | ((with_reducible apply gw_r1); (omega))
  | with_reducible refine wp_make ?_
  | with_reducible refine wp_opI ?_
  | ((with_reducible apply gw_two_ins); (exact rfl); (exact rfl))
  | with_reducible refine wp_raise ?_
  | with_reducible refine gw_one ?_
  | with_reducible refine wp_try ?_
  | ((with_reducible apply wp_pickT1); (focus decide +kernel); (focus (simp; done)))
  | ((with_reducible apply wp_pickF1); (focus decide +kernel))
  | ((with_reducible apply wp_xf); (exact rfl); (exact rfl); (exact rfl))
  | with_reducible refine wp_tidx ?_
  | ((with_reducible apply gw_tix); (exact rfl); (exact rfl))
  | with_reducible refine wp_kix ?_
  | ((with_reducible apply gw_kix); (exact rfl); (exact rfl))
  | with_reducible refine wp_lstO ?_
  | with_reducible refine wp_retN ?_
  | with_reducible refine wp_brk ?_
  | with_reducible refine wp_cont ?_
  | with_reducible refine wp_par ?_
  | with_reducible refine wp_chain ?_
  | with_reducible refine wp_join ?_
  | with_reducible refine wp_reprI ?_
  | with_reducible refine wp_eqI ?_
  | ((with_reducible apply gw_t); (focus (simp; done)))
  | ((with_reducible apply gw_f); (focus (simp; done))))
local macro_rules | `(tactic| walk_at "g") => `(tactic| repeat walk_at "g1")
variable {st : FL.St} {h w : Nat} {g : Grid} {Q : D → FL.St → Prop} {X : Exn → FL.St → Prop}
def rok (d : D) : Bool := match shown? d with
  | some y => PyData.strOk y
  | none => false
theorem repr_ok {d : D} (h : rok d = true) : ∃ y, lRepr [d] = some (.str y) ∧ PyData.strOk y = true := by
  unfold rok at h
  cases e : shown? d with
  | none => rw [e] at h; cases h
  | some y =>
    rw [e] at h
    exact ⟨y, by show (shown? d).map D.str = _; rw [e]; rfl, h⟩
theorem pl_two {x y : Str} (hx : PyData.strOk x = true) (hy : PyData.strOk y = true) : plD 20 (.lst [.str x, .str y]) = true := by
  simp [plD, plL, hx, hy]
abbrev Rest := Option D
/-- the loop over things that are no sides -/
theorem sides_loop {N B C : Rho → FL.St → Prop} {R : D → FL.St → Prop} {E : Exn → Rho → FL.St → Prop} {s p q r u a6 a7 a8 a9 : Option D} (ds : List D) (hd : ∀ d ∈ ds, (tyD d).isSome = true ∧ isSide d = false ∧ rok d = true)
    (k : ∀ a8, N [s, p, q, r, some (picD g), u, a6, a7, a8, a9] st) :
    (fForGo (fGn 8) (fSeq (fIfS (fTest (fBin oNe (fCall e_l_done 2 [] (fCons (fVar 4) (fCons (fTup (fCons (fC (.str "cut")) (fCons (fVar 8) fNil))) fNil))) (fLst (fCons (fC (.str "side")) (fCons (fFn lRepr (fCons (fVar 8) fNil)) fNil))))) (fRet (fC (.bl false))) fNext) (fIfS (fTest (fBin oNe (fCall e_l_done 2 [] (fCons (fVar 4) (fCons (fTup (fCons (fC (.str "add")) (fCons (fVar 8) (fCons (fC .non) fNil)))) fNil))) (fLst (fCons (fC (.str "side")) (fCons (fFn lRepr (fCons (fVar 8) fNil)) fNil))))) (fRet (fC (.bl false))) fNext)) ds [s, p, q, r, some (picD g), u, a6, a7, a8, a9] st).wp ⟨N, R, B, C, E⟩ := by
  have hm : ds = ds.map (fun d => d) := by simp
  rw [hm]
  refine wp_for_inv (enc := fun d => d) (fun pre ρ s1 => s1 = st ∧ ∃ a8, ρ = [s, p, q, r, some (picD g), u, a6, a7, a8, a9]) ⟨rfl, _, rfl⟩ ?_ ?_
  · rintro pre d post ρ s1 e ⟨rfl, a8, rfl⟩
    obtain ⟨h1, h2, h3⟩ := hd d (by rw [e]; simp)
    obtain ⟨y, hy, oy⟩ := repr_ok h3
    have ne := oNe_self (pl_two (x := "side") (by decide +kernel) oy)
    refine ⟨_, _, rfl, ?_⟩
    walk_at "g"
    refine Res.wp_eq (done_bad_cut h1 h2 hy) ?_
    walk_at "g"
    refine Res.wp_eq (done_bad_add h1 h2 hy) ?_
    walk_at "g"
    exact ⟨rfl, _, rfl⟩
  · rintro ρ s1 ⟨rfl, a8, rfl⟩
    exact k a8
theorem cols_loop {N B C : Rho → FL.St → Prop} {R : D → FL.St → Prop} {E : Exn → Rho → FL.St → Prop} {s p q r u a6 a7 a8 a9 : Option D} (ds : List D) (hd : ∀ d ∈ ds, (tyD d).isSome = true ∧ isColour d = false ∧ rok d = true)
    (k : ∀ a8, N [s, p, q, r, some (picD g), u, a6, a7, a8, a9] st) :
    (fForGo (fGn 8) (fIfS (fTest (fBin oNe (fCall e_l_done 2 [] (fCons (fVar 4) (fCons (fTup (fCons (fC (.str "add")) (fCons (fC (.str "left")) (fCons (fVar 8) fNil)))) fNil))) (fLst (fCons (fC (.str "colour")) (fCons (fFn lRepr (fCons (fVar 8) fNil)) fNil))))) (fRet (fC (.bl false))) fNext) ds [s, p, q, r, some (picD g), u, a6, a7, a8, a9] st).wp ⟨N, R, B, C, E⟩ := by
  have hm : ds = ds.map (fun d => d) := by simp
  rw [hm]
  refine wp_for_inv (enc := fun d => d) (fun pre ρ s1 => s1 = st ∧ ∃ a8, ρ = [s, p, q, r, some (picD g), u, a6, a7, a8, a9]) ⟨rfl, _, rfl⟩ ?_ ?_
  · rintro pre d post ρ s1 e ⟨rfl, a8, rfl⟩
    obtain ⟨h1, h2, h3⟩ := hd d (by rw [e]; simp)
    obtain ⟨y, hy, oy⟩ := repr_ok h3
    have ne := oNe_self (pl_two (x := "colour") (by decide +kernel) oy)
    refine ⟨_, _, rfl, ?_⟩
    walk_at "g"
    refine Res.wp_eq (done_bad_col h1 h2 hy) ?_
    walk_at "g"
    exact ⟨rfl, _, rfl⟩
  · rintro ρ s1 ⟨rfl, a8, rfl⟩
    exact k a8
theorem law_m : ∀ ns : List Int, ns.length ≤ 63 → ∃ s1, e_law [.frz (ns.map D.int)] [] = .ok (.bl true) s1 := by
  intro ns _
  have fin : (e_law [.frz (ns.map D.int)] []).wp (fun d s => d = .bl true) noX → ∃ s1, e_law [.frz (ns.map D.int)] [] = .ok (.bl true) s1 := fun h => by
    obtain ⟨a, s, e, rfl⟩ := Res.ok_wp h
    exact ⟨s, e⟩
  refine fin (wp_body ?_)
  unfold p_law
  have hl : lLen [.frz (ns.map D.int)] = some (.int ((ns.length : Nat) : Int)) := by
    show some (D.int (((ns.map D.int).length : Nat) : Int)) = _
    rw [List.length_map]
  obtain ⟨m, hm, m8⟩ : ∃ m : Int, lMin [.int ((ns.length : Nat) : Int), .int 8] = some (.int m) ∧ m ≤ 8 := by
    refine ⟨_, rfl, ?_⟩
    split <;> omega
  obtain ⟨j, hj, j1, j8⟩ : ∃ j : Int, lMax [.int 1, .int m] = some (.int j) ∧ 1 ≤ j ∧ j ≤ 8 := by
    refine ⟨_, rfl, ?_⟩
    split <;> omega
  walk_at "g"
  refine wp_for_inv (enc := fun i : Nat => D.int (0 + i)) (xs := List.range j.toNat) (fun pre ρ s => Clean s ∧ ∃ a1 a2 a3 a4 a5 a6 a7 a8 a9, ρ = [some (.frz (ns.map D.int)), a1, a2, a3, a4, a5, a6, a7, a8, a9]) ⟨fun _ => rfl, _, _, _, _, _, _, _, _, _, rfl⟩ ?_ ?_
  · rintro pre i post ρ s0 e ⟨hc0, a1, a2, a3, a4, a5, a6, a7, a8, a9, rfl⟩
    have hi : i < j.toNat := List.mem_range.mp (by rw [e]; simp)
    refine ⟨_, _, rfl, ?_⟩
    walk_at "g"
    refine pool_wp (by omega) (by omega) fun a b => ?_
    walk_at "g"
    refine rpic_wp app_at (by decide) (by decide) (by decide) (by decide) fun g h w a' b' kg h5 w5 => ?_
    rw [app_set]
    have hc : ∀ a b, Clean (s0 ++ [po a b]) := fun a b => hc0.app (clean_lst rfl)
    walk_at "g"
    refine Res.wp_eq (mk_pic (t := false) (u := false) kg (hc _ _)) ?_
    walk_at "g"
    refine wp_for_inv (enc := Sd.d) (xs := [.top, .right, .bottom, .left]) (fun pre ρ s => ∃ (ps : List TP.Sp) (a b : Int), s = s0 ++ [po a b] ∧ (∀ p ∈ ps, okP p) ∧ ps.length = 2 + 2 * pre.length ∧ ∃ a6 a7 a8 a9, ρ = [some (.frz (ns.map D.int)), some (.int (0 + (i : Int))), some (.loc s0.length), some (lG g), some (picD g), some (.lst (ps.map TP.Sp.d)), a6, a7, a8, a9]) ⟨[.turn, .mir], a', b', rfl, by simp [okP], rfl, _, _, _, _, rfl⟩ ?_ ?_
    · rintro pre s post ρ s1 e ⟨ps, a, b, rfl, hp, hpl, a6, a7, a8, a9, rfl⟩
      have hpre : pre.length < 4 := by
        have := congrArg List.length e
        simp at this
        omega
      refine ⟨_, _, rfl, ?_⟩
      walk_at "g"
      refine draw_wp app_at (by decide) (by decide) fun r a1 b1 r0 r1 => ?_
      rw [app_set]
      walk_at "g"
      refine gw_op (oAdd_ll (by simp; omega)) ?_
      have key : ps.map TP.Sp.d ++ [.tup [.str "cut", s.d], .tup [.str "add", s.d, .int r]] = (ps ++ [TP.Sp.cut s, TP.Sp.add s r]).map TP.Sp.d := by
        rw [List.map_append]
        rfl
      rw [key]
      refine ⟨ps ++ [.cut s, .add s r], a1, b1, rfl, ?_, by simp; omega, _, _, _, _, rfl⟩
      · intro p hp'
        rcases List.mem_append.mp hp' with hp' | hp'
        · exact hp p hp'
        · simp only [List.mem_cons, List.not_mem_nil, or_false] at hp'
          rcases hp' with rfl | rfl
          · trivial
          · exact r0
    · rintro ρ s1 ⟨ps, a, b, rfl, hp, hpl, a6, a7, a8, a9, rfl⟩
      walk_at "g"
      refine wp_for_inv (enc := TP.Sp.d) (fun pre ρ s => s = s0 ++ [po a b] ∧ ∃ a6 a7 a8 a9, ρ = [some (.frz (ns.map D.int)), some (.int (0 + (i : Int))), some (.loc s0.length), some (lG g), some (picD g), some (.lst (ps.map TP.Sp.d)), a6, a7, a8, a9]) ⟨rfl, _, _, _, _, rfl⟩ ?_ ?_
      · rintro pre p post ρ s1 e ⟨rfl, a6, a7, a8, a9, rfl⟩
        have okp := hp p (by rw [e]; simp)
        have ne2 := oNe_self (tG_pl (g := g))
        refine ⟨_, _, rfl, ?_⟩
        walk_at "g"
        refine Res.wp_eq (after_e kg) ?_
        have rl := kg.r.h
        cases ha : aft h w p g with
        | none =>
          have ne1 : oNe (doneD none) (.lst [.str "last", .int 0]) = some (.bl false) := oNe_self doneD_pl
          walk_at "g"
          refine Res.wp_eq (done_e kg (by omega) (by omega) okp (hc _ _)) ?_
          rw [ha]
          walk_at "g"
          refine Res.wp_eq rows_e ?_
          walk_at "g"
          refine Res.wp_eq (tuples_e (by omega)) ?_
          walk_at "g"
          exact ⟨rfl, _, _, _, _, rfl⟩
        | some g' =>
          have ne1 : oNe (doneD (some g')) (tG g') = some (.bl false) := oNe_self doneD_pl
          have nn : oIsN (optD (some g')) .non = some (.bl false) := rfl
          have gl : g'.length ≤ 1000 := by
            cases p with
            | turn =>
              cases ha
              rw [kg.turn.r.h]
              exact kg.w1
            | mir =>
              cases ha
              rw [kg.mir.r.h]
              exact kg.h1
            | cut s =>
              simp only [aft] at ha
              split at ha
              · cases ha
              · rename_i q
                cases ha
                have z := (kg.cut (s := s) (by simpa using q))
                rw [z.r.h]
                exact z.h1
            | add s c =>
              cases ha
              have z := kg.add (s := s) okp (by omega) (by omega)
              rw [z.r.h]
              exact z.h1
          walk_at "g"
          refine Res.wp_eq (tuples_e (g := g') (by omega)) ?_
          walk_at "g"
          refine Res.wp_eq (done_e kg (by omega) (by omega) okp (hc _ _)) ?_
          rw [ha]
          walk_at "g"
          refine Res.wp_eq rows_e ?_
          walk_at "g"
          refine Res.wp_eq (tuples_e (by omega)) ?_
          walk_at "g"
          exact ⟨rfl, _, _, _, _, rfl⟩
      · rintro ρ s1 ⟨rfl, a6, a7, a8, a9, rfl⟩
        walk_at "g"
        refine sides_loop [.non, .str "up", .str "Top", .int 0, .lst [], .tup [.str "top"], .bl true] (by decide +kernel) fun a8 => ?_
        walk_at "g"
        refine cols_loop [.non, .int (-1), .bl true, .str "1", .tup [.int 1]] (by decide +kernel) fun a8 => ?_
        walk_at "g"
        exact ⟨hc _ _, _, _, _, _, _, _, _, _, _, rfl⟩
  · rintro ρ s0 ⟨_, a1, a2, a3, a4, a5, a6, a7, a8, a9, rfl⟩
    walk_at "g"
    rfl
end K03

set_option Elab.async false
set_option linter.all false
set_option maxRecDepth 100000
set_option maxHeartbeats 4000000
namespace K03
open PySem PySem.Spec PyProof.Rows L2 DL FL PD PA
set_option maxHeartbeats 8000000 in
theorem all_mk {l : PySem.W.OpenLaw} {w : World} {K : PySem.W.Frag} {h : Heap} {mg : Str → Option Value} {fa c_InvalidColour c_InvalidSide c_InvalidPicture c_LastLine c_Picture f_is_whole f_is_count f_is_colour f_is_side f_InvalidColour_init_ f_InvalidSide_init_ f_InvalidPicture_init_ f_LastLine_init_ f_check_colour f_check_side f_turned_rows f_mirrored_rows f_is_last_line f_cut_rows f_added_rows f_is_row f_is_grid f_Picture_init_ f_Picture_rows p_Picture_rows f_Picture_turned f_Picture_mirrored f_Picture_cut f_Picture_added f_l_pool f_l_draw f_l_random_picture f_l_after f_l_tuples f_l_done f_law k_SIDES : Addr} (X : K.In h) (G : h.Ns mainGlobals mg) (hfa : mg "law" = some (.ref fa))
    {oc_is_whole kV_is_whole dc_is_whole pm_is_whole cd_is_whole ct_is_whole oc_is_count kV_is_count dc_is_count pm_is_count cd_is_count ct_is_count oc_is_colour kV_is_colour dc_is_colour pm_is_colour cd_is_colour ct_is_colour oc_is_side kV_is_side dc_is_side pm_is_side cd_is_side ct_is_side oc_InvalidColour_init_ kV_InvalidColour_init_ dc_InvalidColour_init_ pm_InvalidColour_init_ cd_InvalidColour_init_ ct_InvalidColour_init_ oc_InvalidSide_init_ kV_InvalidSide_init_ dc_InvalidSide_init_ pm_InvalidSide_init_ cd_InvalidSide_init_ ct_InvalidSide_init_ oc_InvalidPicture_init_ kV_InvalidPicture_init_ dc_InvalidPicture_init_ pm_InvalidPicture_init_ cd_InvalidPicture_init_ ct_InvalidPicture_init_ oc_LastLine_init_ kV_LastLine_init_ dc_LastLine_init_ pm_LastLine_init_ cd_LastLine_init_ ct_LastLine_init_ oc_check_colour kV_check_colour dc_check_colour pm_check_colour cd_check_colour ct_check_colour oc_check_side kV_check_side dc_check_side pm_check_side cd_check_side ct_check_side oc_turned_rows kV_turned_rows dc_turned_rows pm_turned_rows cd_turned_rows ct_turned_rows oc_mirrored_rows kV_mirrored_rows dc_mirrored_rows pm_mirrored_rows cd_mirrored_rows ct_mirrored_rows oc_is_last_line kV_is_last_line dc_is_last_line pm_is_last_line cd_is_last_line ct_is_last_line oc_cut_rows kV_cut_rows dc_cut_rows pm_cut_rows cd_cut_rows ct_cut_rows oc_added_rows kV_added_rows dc_added_rows pm_added_rows cd_added_rows ct_added_rows oc_is_row kV_is_row dc_is_row pm_is_row cd_is_row ct_is_row oc_is_grid kV_is_grid dc_is_grid pm_is_grid cd_is_grid ct_is_grid oc_Picture_init_ kV_Picture_init_ dc_Picture_init_ pm_Picture_init_ cd_Picture_init_ ct_Picture_init_ oc_Picture_rows kV_Picture_rows dc_Picture_rows pm_Picture_rows cd_Picture_rows ct_Picture_rows oc_Picture_turned kV_Picture_turned dc_Picture_turned pm_Picture_turned cd_Picture_turned ct_Picture_turned oc_Picture_mirrored kV_Picture_mirrored dc_Picture_mirrored pm_Picture_mirrored cd_Picture_mirrored ct_Picture_mirrored oc_Picture_cut kV_Picture_cut dc_Picture_cut pm_Picture_cut cd_Picture_cut ct_Picture_cut oc_Picture_added kV_Picture_added dc_Picture_added pm_Picture_added cd_Picture_added ct_Picture_added oc_l_pool kV_l_pool dc_l_pool pm_l_pool cd_l_pool ct_l_pool oc_l_draw kV_l_draw dc_l_draw pm_l_draw cd_l_draw ct_l_draw oc_l_random_picture kV_l_random_picture dc_l_random_picture pm_l_random_picture cd_l_random_picture ct_l_random_picture oc_l_after kV_l_after dc_l_after pm_l_after cd_l_after ct_l_after oc_l_tuples kV_l_tuples dc_l_tuples pm_l_tuples cd_l_tuples ct_l_tuples oc_l_done kV_l_done dc_l_done pm_l_done cd_l_done ct_l_done oc_law kV_law dc_law pm_law cd_law ct_law : Value} {od_is_whole an_is_whole od_is_count an_is_count od_is_colour an_is_colour od_is_side an_is_side od_InvalidColour_init_ an_InvalidColour_init_ od_InvalidSide_init_ an_InvalidSide_init_ od_InvalidPicture_init_ an_InvalidPicture_init_ od_LastLine_init_ an_LastLine_init_ od_check_colour an_check_colour od_check_side an_check_side od_turned_rows an_turned_rows od_mirrored_rows an_mirrored_rows od_is_last_line an_is_last_line od_cut_rows an_cut_rows od_added_rows an_added_rows od_is_row an_is_row od_is_grid an_is_grid od_Picture_init_ an_Picture_init_ od_Picture_rows an_Picture_rows od_Picture_turned an_Picture_turned od_Picture_mirrored an_Picture_mirrored od_Picture_cut an_Picture_cut od_Picture_added an_Picture_added od_l_pool an_l_pool od_l_draw an_l_draw od_l_random_picture an_l_random_picture od_l_after an_l_after od_l_tuples an_l_tuples od_l_done an_l_done od_law an_law : Option Addr} {sl_is_whole sl_is_count sl_is_colour sl_is_side sl_InvalidColour_init_ sl_InvalidSide_init_ sl_InvalidPicture_init_ sl_LastLine_init_ sl_check_colour sl_check_side sl_turned_rows sl_mirrored_rows sl_is_last_line sl_cut_rows sl_added_rows sl_is_row sl_is_grid sl_Picture_init_ sl_Picture_rows sl_Picture_turned sl_Picture_mirrored sl_Picture_cut sl_Picture_added sl_l_pool sl_l_draw sl_l_random_picture sl_l_after sl_l_tuples sl_l_done sl_law ts_SIDES : Array (Option Value)} {r_Picture_rows : List Value} {tk0_SIDES tk1_SIDES tk2_SIDES tk3_SIDES : Tok} {tn_SIDES : Nat}
    (a_InvalidColour : PySem.W.nsIn K mainGlobals "InvalidColour" = some (some (.ref c_InvalidColour)))
    (x1_InvalidColour : PySem.W.excInitIn K c_InvalidColour [.type "ValueError", .type "Exception", .type "BaseException", .type "object"] "ValueError.__new__" = true)
    (x0_InvalidColour : PySem.W.excOver K c_InvalidColour [.type "ValueError", .type "Exception", .type "BaseException", .type "object"] = true)
    (x2_InvalidColour : PySem.W.findIn K (.ref c_InvalidColour) "__setattr__" = some (some (.builtin "object.__setattr__")))
    (x3_InvalidColour : PySem.W.findIn K (.ref c_InvalidColour) "__getattribute__" = some (some (.builtin "BaseException.__getattribute__")))
    (x4_InvalidColour : PySem.W.findIn K (.ref c_InvalidColour) "__getattr__" = some none)
    (x5_InvalidColour : PySem.W.findIn K (.ref c_InvalidColour) "value" = some none)
    (x6_InvalidColour : PySem.W.keepIn K (.ref c_InvalidColour) = true)
    (x7_InvalidColour : PySem.W.subIn K (.ref c_InvalidColour) (.type "BaseException") = some true)
    (x8_InvalidColour : PySem.W.typeIn K (.ref c_InvalidColour) = some (.type "type"))
    (x9_InvalidColour : PySem.W.hasDictIn K c_InvalidColour = true)
    (xa_InvalidColour : PySem.W.isClsIn K c_InvalidColour = true)
    (a_InvalidSide : PySem.W.nsIn K mainGlobals "InvalidSide" = some (some (.ref c_InvalidSide)))
    (x1_InvalidSide : PySem.W.excInitIn K c_InvalidSide [.type "ValueError", .type "Exception", .type "BaseException", .type "object"] "ValueError.__new__" = true)
    (x0_InvalidSide : PySem.W.excOver K c_InvalidSide [.type "ValueError", .type "Exception", .type "BaseException", .type "object"] = true)
    (x2_InvalidSide : PySem.W.findIn K (.ref c_InvalidSide) "__setattr__" = some (some (.builtin "object.__setattr__")))
    (x3_InvalidSide : PySem.W.findIn K (.ref c_InvalidSide) "__getattribute__" = some (some (.builtin "BaseException.__getattribute__")))
    (x4_InvalidSide : PySem.W.findIn K (.ref c_InvalidSide) "__getattr__" = some none)
    (x5_InvalidSide : PySem.W.findIn K (.ref c_InvalidSide) "value" = some none)
    (x6_InvalidSide : PySem.W.keepIn K (.ref c_InvalidSide) = true)
    (x7_InvalidSide : PySem.W.subIn K (.ref c_InvalidSide) (.type "BaseException") = some true)
    (x8_InvalidSide : PySem.W.typeIn K (.ref c_InvalidSide) = some (.type "type"))
    (x9_InvalidSide : PySem.W.hasDictIn K c_InvalidSide = true)
    (xa_InvalidSide : PySem.W.isClsIn K c_InvalidSide = true)
    (a_InvalidPicture : PySem.W.nsIn K mainGlobals "InvalidPicture" = some (some (.ref c_InvalidPicture)))
    (x1_InvalidPicture : PySem.W.excInitIn K c_InvalidPicture [.type "ValueError", .type "Exception", .type "BaseException", .type "object"] "ValueError.__new__" = true)
    (x0_InvalidPicture : PySem.W.excOver K c_InvalidPicture [.type "ValueError", .type "Exception", .type "BaseException", .type "object"] = true)
    (x2_InvalidPicture : PySem.W.findIn K (.ref c_InvalidPicture) "__setattr__" = some (some (.builtin "object.__setattr__")))
    (x3_InvalidPicture : PySem.W.findIn K (.ref c_InvalidPicture) "__getattribute__" = some (some (.builtin "BaseException.__getattribute__")))
    (x4_InvalidPicture : PySem.W.findIn K (.ref c_InvalidPicture) "__getattr__" = some none)
    (x5_InvalidPicture : PySem.W.findIn K (.ref c_InvalidPicture) "value" = some none)
    (x6_InvalidPicture : PySem.W.keepIn K (.ref c_InvalidPicture) = true)
    (x7_InvalidPicture : PySem.W.subIn K (.ref c_InvalidPicture) (.type "BaseException") = some true)
    (x8_InvalidPicture : PySem.W.typeIn K (.ref c_InvalidPicture) = some (.type "type"))
    (x9_InvalidPicture : PySem.W.hasDictIn K c_InvalidPicture = true)
    (xa_InvalidPicture : PySem.W.isClsIn K c_InvalidPicture = true)
    (a_LastLine : PySem.W.nsIn K mainGlobals "LastLine" = some (some (.ref c_LastLine)))
    (x1_LastLine : PySem.W.excInitIn K c_LastLine [.type "RuntimeError", .type "Exception", .type "BaseException", .type "object"] "RuntimeError.__new__" = true)
    (x0_LastLine : PySem.W.excOver K c_LastLine [.type "RuntimeError", .type "Exception", .type "BaseException", .type "object"] = true)
    (x2_LastLine : PySem.W.findIn K (.ref c_LastLine) "__setattr__" = some (some (.builtin "object.__setattr__")))
    (x3_LastLine : PySem.W.findIn K (.ref c_LastLine) "__getattribute__" = some (some (.builtin "BaseException.__getattribute__")))
    (x4_LastLine : PySem.W.findIn K (.ref c_LastLine) "__getattr__" = some none)
    (x5_LastLine : PySem.W.findIn K (.ref c_LastLine) "index" = some none)
    (x6_LastLine : PySem.W.keepIn K (.ref c_LastLine) = true)
    (x7_LastLine : PySem.W.subIn K (.ref c_LastLine) (.type "BaseException") = some true)
    (x8_LastLine : PySem.W.typeIn K (.ref c_LastLine) = some (.type "type"))
    (x9_LastLine : PySem.W.hasDictIn K c_LastLine = true)
    (xa_LastLine : PySem.W.isClsIn K c_LastLine = true)
    (a_Picture : PySem.W.nsIn K mainGlobals "Picture" = some (some (.ref c_Picture)))
    (g1_Picture : PySem.W.plainGet K c_Picture Str.empty = true)
    (g2_Picture : PySem.W.hasDictIn K c_Picture = true)
    (g3_Picture : PySem.W.plainOver K c_Picture = true)
    (g4_Picture : PySem.W.findIn K (.ref c_Picture) "__setattr__" = some (some (.builtin "object.__setattr__")))
    (g5_Picture : PySem.W.makesIn K c_Picture = true)
    (g6_Picture : PySem.W.keepIn K (.ref c_Picture) = true)
    (sf_Picture : PySem.W.selfFirst K c_Picture = true)
    (n_Picture_rows : PySem.W.findIn K (.ref c_Picture) "_rows" = some none)
    (g9_Picture : PySem.W.findIn K (.ref c_Picture) "__class__" = some (some (.builtin "object.__class__")))
    (ga_Picture : PySem.W.specialIn K (.builtin "object.__class__") "__get__" = some (some (.builtin "getset_descriptor.__get__")))
    (gb_Picture : PySem.W.takesIn K (.builtin "object.__class__") = some true)
    (gd_Picture : PySem.W.mroIn K c_Picture (.type "object") = some true)
    (g7_Picture : PySem.W.isClsIn K c_Picture = true)
    (g8_Picture : PySem.W.typeIn K (.ref c_Picture) = some (.type "type"))
    (u_Picture_NoneType : PySem.W.subIn K (.type "NoneType") (.ref c_Picture) = some false)
    (u_Picture_bool : PySem.W.subIn K (.type "bool") (.ref c_Picture) = some false)
    (u_Picture_int : PySem.W.subIn K (.type "int") (.ref c_Picture) = some false)
    (u_Picture_str : PySem.W.subIn K (.type "str") (.ref c_Picture) = some false)
    (u_Picture_list : PySem.W.subIn K (.type "list") (.ref c_Picture) = some false)
    (u_Picture_tuple : PySem.W.subIn K (.type "tuple") (.ref c_Picture) = some false)
    (u_Picture_dict : PySem.W.subIn K (.type "dict") (.ref c_Picture) = some false)
    (xs_InvalidColour_InvalidColour : PySem.W.subIn K (.ref c_InvalidColour) (.ref c_InvalidColour) = some true)
    (xs_InvalidColour_InvalidSide : PySem.W.subIn K (.ref c_InvalidSide) (.ref c_InvalidColour) = some false)
    (xs_InvalidColour_InvalidPicture : PySem.W.subIn K (.ref c_InvalidPicture) (.ref c_InvalidColour) = some false)
    (xs_InvalidColour_LastLine : PySem.W.subIn K (.ref c_LastLine) (.ref c_InvalidColour) = some false)
    (xs_InvalidSide_InvalidColour : PySem.W.subIn K (.ref c_InvalidColour) (.ref c_InvalidSide) = some false)
    (xs_InvalidSide_InvalidSide : PySem.W.subIn K (.ref c_InvalidSide) (.ref c_InvalidSide) = some true)
    (xs_InvalidSide_InvalidPicture : PySem.W.subIn K (.ref c_InvalidPicture) (.ref c_InvalidSide) = some false)
    (xs_InvalidSide_LastLine : PySem.W.subIn K (.ref c_LastLine) (.ref c_InvalidSide) = some false)
    (xs_LastLine_InvalidColour : PySem.W.subIn K (.ref c_InvalidColour) (.ref c_LastLine) = some false)
    (xs_LastLine_InvalidSide : PySem.W.subIn K (.ref c_InvalidSide) (.ref c_LastLine) = some false)
    (xs_LastLine_InvalidPicture : PySem.W.subIn K (.ref c_InvalidPicture) (.ref c_LastLine) = some false)
    (xs_LastLine_LastLine : PySem.W.subIn K (.ref c_LastLine) (.ref c_LastLine) = some true)
    (us_Picture_Picture : PySem.W.subIn K (.ref c_Picture) (.ref c_Picture) = some true)
    (b_is_whole : PySem.W.nsIn K mainGlobals "is_whole" = some (some (.ref f_is_whole)))
    (l_is_whole : K.lookup f_is_whole = some ⟨oc_is_whole, od_is_whole, .func (PySem.W.fnOf "is_whole" "is_whole" (defArgs s_is_whole) (defBody s_is_whole) (defScope s_is_whole) .none kV_is_whole dc_is_whole pm_is_whole an_is_whole cd_is_whole ct_is_whole), sl_is_whole⟩)
    (d_is_whole : PySem.W.codeIn K cd_is_whole "is_whole" = true)
    (k_is_whole : PySem.W.keepIn K (.ref f_is_whole) = true)
    (b_is_count : PySem.W.nsIn K mainGlobals "is_count" = some (some (.ref f_is_count)))
    (l_is_count : K.lookup f_is_count = some ⟨oc_is_count, od_is_count, .func (PySem.W.fnOf "is_count" "is_count" (defArgs s_is_count) (defBody s_is_count) (defScope s_is_count) .none kV_is_count dc_is_count pm_is_count an_is_count cd_is_count ct_is_count), sl_is_count⟩)
    (d_is_count : PySem.W.codeIn K cd_is_count "is_count" = true)
    (k_is_count : PySem.W.keepIn K (.ref f_is_count) = true)
    (b_is_colour : PySem.W.nsIn K mainGlobals "is_colour" = some (some (.ref f_is_colour)))
    (l_is_colour : K.lookup f_is_colour = some ⟨oc_is_colour, od_is_colour, .func (PySem.W.fnOf "is_colour" "is_colour" (defArgs s_is_colour) (defBody s_is_colour) (defScope s_is_colour) .none kV_is_colour dc_is_colour pm_is_colour an_is_colour cd_is_colour ct_is_colour), sl_is_colour⟩)
    (d_is_colour : PySem.W.codeIn K cd_is_colour "is_colour" = true)
    (k_is_colour : PySem.W.keepIn K (.ref f_is_colour) = true)
    (b_is_side : PySem.W.nsIn K mainGlobals "is_side" = some (some (.ref f_is_side)))
    (l_is_side : K.lookup f_is_side = some ⟨oc_is_side, od_is_side, .func (PySem.W.fnOf "is_side" "is_side" (defArgs s_is_side) (defBody s_is_side) (defScope s_is_side) .none kV_is_side dc_is_side pm_is_side an_is_side cd_is_side ct_is_side), sl_is_side⟩)
    (d_is_side : PySem.W.codeIn K cd_is_side "is_side" = true)
    (k_is_side : PySem.W.keepIn K (.ref f_is_side) = true)
    (b_InvalidColour_init_ : PySem.W.findIn K (.ref c_InvalidColour) "__init__" = some (some (.ref f_InvalidColour_init_)))
    (t_InvalidColour_init_' : PySem.W.typeIn K (.ref f_InvalidColour_init_) = some (.type "function"))
    (l_InvalidColour_init_ : K.lookup f_InvalidColour_init_ = some ⟨oc_InvalidColour_init_, od_InvalidColour_init_, .func (PySem.W.fnOf "__init__" "InvalidColour.__init__" (defArgs s_InvalidColour_init_) (defBody s_InvalidColour_init_) (defScope s_InvalidColour_init_) .none kV_InvalidColour_init_ dc_InvalidColour_init_ pm_InvalidColour_init_ an_InvalidColour_init_ cd_InvalidColour_init_ ct_InvalidColour_init_), sl_InvalidColour_init_⟩)
    (d_InvalidColour_init_ : PySem.W.codeIn K cd_InvalidColour_init_ "InvalidColour.__init__" = true)
    (k_InvalidColour_init_ : PySem.W.keepIn K (.ref f_InvalidColour_init_) = true)
    (b_InvalidSide_init_ : PySem.W.findIn K (.ref c_InvalidSide) "__init__" = some (some (.ref f_InvalidSide_init_)))
    (t_InvalidSide_init_' : PySem.W.typeIn K (.ref f_InvalidSide_init_) = some (.type "function"))
    (l_InvalidSide_init_ : K.lookup f_InvalidSide_init_ = some ⟨oc_InvalidSide_init_, od_InvalidSide_init_, .func (PySem.W.fnOf "__init__" "InvalidSide.__init__" (defArgs s_InvalidSide_init_) (defBody s_InvalidSide_init_) (defScope s_InvalidSide_init_) .none kV_InvalidSide_init_ dc_InvalidSide_init_ pm_InvalidSide_init_ an_InvalidSide_init_ cd_InvalidSide_init_ ct_InvalidSide_init_), sl_InvalidSide_init_⟩)
    (d_InvalidSide_init_ : PySem.W.codeIn K cd_InvalidSide_init_ "InvalidSide.__init__" = true)
    (k_InvalidSide_init_ : PySem.W.keepIn K (.ref f_InvalidSide_init_) = true)
    (b_InvalidPicture_init_ : PySem.W.findIn K (.ref c_InvalidPicture) "__init__" = some (some (.ref f_InvalidPicture_init_)))
    (t_InvalidPicture_init_' : PySem.W.typeIn K (.ref f_InvalidPicture_init_) = some (.type "function"))
    (l_InvalidPicture_init_ : K.lookup f_InvalidPicture_init_ = some ⟨oc_InvalidPicture_init_, od_InvalidPicture_init_, .func (PySem.W.fnOf "__init__" "InvalidPicture.__init__" (defArgs s_InvalidPicture_init_) (defBody s_InvalidPicture_init_) (defScope s_InvalidPicture_init_) .none kV_InvalidPicture_init_ dc_InvalidPicture_init_ pm_InvalidPicture_init_ an_InvalidPicture_init_ cd_InvalidPicture_init_ ct_InvalidPicture_init_), sl_InvalidPicture_init_⟩)
    (d_InvalidPicture_init_ : PySem.W.codeIn K cd_InvalidPicture_init_ "InvalidPicture.__init__" = true)
    (k_InvalidPicture_init_ : PySem.W.keepIn K (.ref f_InvalidPicture_init_) = true)
    (b_LastLine_init_ : PySem.W.findIn K (.ref c_LastLine) "__init__" = some (some (.ref f_LastLine_init_)))
    (t_LastLine_init_' : PySem.W.typeIn K (.ref f_LastLine_init_) = some (.type "function"))
    (l_LastLine_init_ : K.lookup f_LastLine_init_ = some ⟨oc_LastLine_init_, od_LastLine_init_, .func (PySem.W.fnOf "__init__" "LastLine.__init__" (defArgs s_LastLine_init_) (defBody s_LastLine_init_) (defScope s_LastLine_init_) .none kV_LastLine_init_ dc_LastLine_init_ pm_LastLine_init_ an_LastLine_init_ cd_LastLine_init_ ct_LastLine_init_), sl_LastLine_init_⟩)
    (d_LastLine_init_ : PySem.W.codeIn K cd_LastLine_init_ "LastLine.__init__" = true)
    (k_LastLine_init_ : PySem.W.keepIn K (.ref f_LastLine_init_) = true)
    (b_check_colour : PySem.W.nsIn K mainGlobals "check_colour" = some (some (.ref f_check_colour)))
    (l_check_colour : K.lookup f_check_colour = some ⟨oc_check_colour, od_check_colour, .func (PySem.W.fnOf "check_colour" "check_colour" (defArgs s_check_colour) (defBody s_check_colour) (defScope s_check_colour) .none kV_check_colour dc_check_colour pm_check_colour an_check_colour cd_check_colour ct_check_colour), sl_check_colour⟩)
    (d_check_colour : PySem.W.codeIn K cd_check_colour "check_colour" = true)
    (k_check_colour : PySem.W.keepIn K (.ref f_check_colour) = true)
    (b_check_side : PySem.W.nsIn K mainGlobals "check_side" = some (some (.ref f_check_side)))
    (l_check_side : K.lookup f_check_side = some ⟨oc_check_side, od_check_side, .func (PySem.W.fnOf "check_side" "check_side" (defArgs s_check_side) (defBody s_check_side) (defScope s_check_side) .none kV_check_side dc_check_side pm_check_side an_check_side cd_check_side ct_check_side), sl_check_side⟩)
    (d_check_side : PySem.W.codeIn K cd_check_side "check_side" = true)
    (k_check_side : PySem.W.keepIn K (.ref f_check_side) = true)
    (b_turned_rows : PySem.W.nsIn K mainGlobals "turned_rows" = some (some (.ref f_turned_rows)))
    (l_turned_rows : K.lookup f_turned_rows = some ⟨oc_turned_rows, od_turned_rows, .func (PySem.W.fnOf "turned_rows" "turned_rows" (defArgs s_turned_rows) (defBody s_turned_rows) (defScope s_turned_rows) .none kV_turned_rows dc_turned_rows pm_turned_rows an_turned_rows cd_turned_rows ct_turned_rows), sl_turned_rows⟩)
    (d_turned_rows : PySem.W.codeIn K cd_turned_rows "turned_rows" = true)
    (k_turned_rows : PySem.W.keepIn K (.ref f_turned_rows) = true)
    (b_mirrored_rows : PySem.W.nsIn K mainGlobals "mirrored_rows" = some (some (.ref f_mirrored_rows)))
    (l_mirrored_rows : K.lookup f_mirrored_rows = some ⟨oc_mirrored_rows, od_mirrored_rows, .func (PySem.W.fnOf "mirrored_rows" "mirrored_rows" (defArgs s_mirrored_rows) (defBody s_mirrored_rows) (defScope s_mirrored_rows) .none kV_mirrored_rows dc_mirrored_rows pm_mirrored_rows an_mirrored_rows cd_mirrored_rows ct_mirrored_rows), sl_mirrored_rows⟩)
    (d_mirrored_rows : PySem.W.codeIn K cd_mirrored_rows "mirrored_rows" = true)
    (k_mirrored_rows : PySem.W.keepIn K (.ref f_mirrored_rows) = true)
    (b_is_last_line : PySem.W.nsIn K mainGlobals "is_last_line" = some (some (.ref f_is_last_line)))
    (l_is_last_line : K.lookup f_is_last_line = some ⟨oc_is_last_line, od_is_last_line, .func (PySem.W.fnOf "is_last_line" "is_last_line" (defArgs s_is_last_line) (defBody s_is_last_line) (defScope s_is_last_line) .none kV_is_last_line dc_is_last_line pm_is_last_line an_is_last_line cd_is_last_line ct_is_last_line), sl_is_last_line⟩)
    (d_is_last_line : PySem.W.codeIn K cd_is_last_line "is_last_line" = true)
    (k_is_last_line : PySem.W.keepIn K (.ref f_is_last_line) = true)
    (b_cut_rows : PySem.W.nsIn K mainGlobals "cut_rows" = some (some (.ref f_cut_rows)))
    (l_cut_rows : K.lookup f_cut_rows = some ⟨oc_cut_rows, od_cut_rows, .func (PySem.W.fnOf "cut_rows" "cut_rows" (defArgs s_cut_rows) (defBody s_cut_rows) (defScope s_cut_rows) .none kV_cut_rows dc_cut_rows pm_cut_rows an_cut_rows cd_cut_rows ct_cut_rows), sl_cut_rows⟩)
    (d_cut_rows : PySem.W.codeIn K cd_cut_rows "cut_rows" = true)
    (k_cut_rows : PySem.W.keepIn K (.ref f_cut_rows) = true)
    (b_added_rows : PySem.W.nsIn K mainGlobals "added_rows" = some (some (.ref f_added_rows)))
    (l_added_rows : K.lookup f_added_rows = some ⟨oc_added_rows, od_added_rows, .func (PySem.W.fnOf "added_rows" "added_rows" (defArgs s_added_rows) (defBody s_added_rows) (defScope s_added_rows) .none kV_added_rows dc_added_rows pm_added_rows an_added_rows cd_added_rows ct_added_rows), sl_added_rows⟩)
    (d_added_rows : PySem.W.codeIn K cd_added_rows "added_rows" = true)
    (k_added_rows : PySem.W.keepIn K (.ref f_added_rows) = true)
    (b_is_row : PySem.W.nsIn K mainGlobals "_is_row" = some (some (.ref f_is_row)))
    (l_is_row : K.lookup f_is_row = some ⟨oc_is_row, od_is_row, .func (PySem.W.fnOf "_is_row" "_is_row" (defArgs s_is_row) (defBody s_is_row) (defScope s_is_row) .none kV_is_row dc_is_row pm_is_row an_is_row cd_is_row ct_is_row), sl_is_row⟩)
    (d_is_row : PySem.W.codeIn K cd_is_row "_is_row" = true)
    (k_is_row : PySem.W.keepIn K (.ref f_is_row) = true)
    (b_is_grid : PySem.W.nsIn K mainGlobals "_is_grid" = some (some (.ref f_is_grid)))
    (l_is_grid : K.lookup f_is_grid = some ⟨oc_is_grid, od_is_grid, .func (PySem.W.fnOf "_is_grid" "_is_grid" (defArgs s_is_grid) (defBody s_is_grid) (defScope s_is_grid) .none kV_is_grid dc_is_grid pm_is_grid an_is_grid cd_is_grid ct_is_grid), sl_is_grid⟩)
    (d_is_grid : PySem.W.codeIn K cd_is_grid "_is_grid" = true)
    (k_is_grid : PySem.W.keepIn K (.ref f_is_grid) = true)
    (b_Picture_init_ : PySem.W.findIn K (.ref c_Picture) "__init__" = some (some (.ref f_Picture_init_)))
    (t_Picture_init_' : PySem.W.typeIn K (.ref f_Picture_init_) = some (.type "function"))
    (l_Picture_init_ : K.lookup f_Picture_init_ = some ⟨oc_Picture_init_, od_Picture_init_, .func (PySem.W.fnOf "__init__" "Picture.__init__" (defArgs s_Picture_init_) (defBody s_Picture_init_) (defScope s_Picture_init_) .none kV_Picture_init_ dc_Picture_init_ pm_Picture_init_ an_Picture_init_ cd_Picture_init_ ct_Picture_init_), sl_Picture_init_⟩)
    (d_Picture_init_ : PySem.W.codeIn K cd_Picture_init_ "Picture.__init__" = true)
    (k_Picture_init_ : PySem.W.keepIn K (.ref f_Picture_init_) = true)
    (b_Picture_rows : PySem.W.findIn K (.ref c_Picture) "rows" = some (some (.ref p_Picture_rows)))
    (p1_Picture_rows : PySem.W.specialIn K (.ref p_Picture_rows) "__get__" = some (some (.builtin "property.__get__")))
    (p2_Picture_rows : PySem.W.takesIn K (.ref p_Picture_rows) = some true)
    (p3_Picture_rows : PySem.W.recIn K p_Picture_rows "property" = some (.ref f_Picture_rows :: r_Picture_rows))
    (l_Picture_rows : K.lookup f_Picture_rows = some ⟨oc_Picture_rows, od_Picture_rows, .func (PySem.W.fnOf "rows" "Picture.rows" (defArgs s_Picture_rows) (defBody s_Picture_rows) (defScope s_Picture_rows) .none kV_Picture_rows dc_Picture_rows pm_Picture_rows an_Picture_rows cd_Picture_rows ct_Picture_rows), sl_Picture_rows⟩)
    (d_Picture_rows : PySem.W.codeIn K cd_Picture_rows "Picture.rows" = true)
    (k_Picture_rows : PySem.W.keepIn K (.ref f_Picture_rows) = true)
    (b_Picture_turned : PySem.W.findIn K (.ref c_Picture) "turned" = some (some (.ref f_Picture_turned)))
    (t_Picture_turned' : PySem.W.typeIn K (.ref f_Picture_turned) = some (.type "function"))
    (l_Picture_turned : K.lookup f_Picture_turned = some ⟨oc_Picture_turned, od_Picture_turned, .func (PySem.W.fnOf "turned" "Picture.turned" (defArgs s_Picture_turned) (defBody s_Picture_turned) (defScope s_Picture_turned) .none kV_Picture_turned dc_Picture_turned pm_Picture_turned an_Picture_turned cd_Picture_turned ct_Picture_turned), sl_Picture_turned⟩)
    (d_Picture_turned : PySem.W.codeIn K cd_Picture_turned "Picture.turned" = true)
    (k_Picture_turned : PySem.W.keepIn K (.ref f_Picture_turned) = true)
    (b_Picture_mirrored : PySem.W.findIn K (.ref c_Picture) "mirrored" = some (some (.ref f_Picture_mirrored)))
    (t_Picture_mirrored' : PySem.W.typeIn K (.ref f_Picture_mirrored) = some (.type "function"))
    (l_Picture_mirrored : K.lookup f_Picture_mirrored = some ⟨oc_Picture_mirrored, od_Picture_mirrored, .func (PySem.W.fnOf "mirrored" "Picture.mirrored" (defArgs s_Picture_mirrored) (defBody s_Picture_mirrored) (defScope s_Picture_mirrored) .none kV_Picture_mirrored dc_Picture_mirrored pm_Picture_mirrored an_Picture_mirrored cd_Picture_mirrored ct_Picture_mirrored), sl_Picture_mirrored⟩)
    (d_Picture_mirrored : PySem.W.codeIn K cd_Picture_mirrored "Picture.mirrored" = true)
    (k_Picture_mirrored : PySem.W.keepIn K (.ref f_Picture_mirrored) = true)
    (b_Picture_cut : PySem.W.findIn K (.ref c_Picture) "cut" = some (some (.ref f_Picture_cut)))
    (t_Picture_cut' : PySem.W.typeIn K (.ref f_Picture_cut) = some (.type "function"))
    (l_Picture_cut : K.lookup f_Picture_cut = some ⟨oc_Picture_cut, od_Picture_cut, .func (PySem.W.fnOf "cut" "Picture.cut" (defArgs s_Picture_cut) (defBody s_Picture_cut) (defScope s_Picture_cut) .none kV_Picture_cut dc_Picture_cut pm_Picture_cut an_Picture_cut cd_Picture_cut ct_Picture_cut), sl_Picture_cut⟩)
    (d_Picture_cut : PySem.W.codeIn K cd_Picture_cut "Picture.cut" = true)
    (k_Picture_cut : PySem.W.keepIn K (.ref f_Picture_cut) = true)
    (b_Picture_added : PySem.W.findIn K (.ref c_Picture) "added" = some (some (.ref f_Picture_added)))
    (t_Picture_added' : PySem.W.typeIn K (.ref f_Picture_added) = some (.type "function"))
    (l_Picture_added : K.lookup f_Picture_added = some ⟨oc_Picture_added, od_Picture_added, .func (PySem.W.fnOf "added" "Picture.added" (defArgs s_Picture_added) (defBody s_Picture_added) (defScope s_Picture_added) .none kV_Picture_added dc_Picture_added pm_Picture_added an_Picture_added cd_Picture_added ct_Picture_added), sl_Picture_added⟩)
    (d_Picture_added : PySem.W.codeIn K cd_Picture_added "Picture.added" = true)
    (k_Picture_added : PySem.W.keepIn K (.ref f_Picture_added) = true)
    (b_l_pool : PySem.W.nsIn K mainGlobals "_law_pool" = some (some (.ref f_l_pool)))
    (l_l_pool : K.lookup f_l_pool = some ⟨oc_l_pool, od_l_pool, .func (PySem.W.fnOf "_law_pool" "_law_pool" (defArgs s_l_pool) (defBody s_l_pool) (defScope s_l_pool) .none kV_l_pool dc_l_pool pm_l_pool an_l_pool cd_l_pool ct_l_pool), sl_l_pool⟩)
    (d_l_pool : PySem.W.codeIn K cd_l_pool "_law_pool" = true)
    (k_l_pool : PySem.W.keepIn K (.ref f_l_pool) = true)
    (b_l_draw : PySem.W.nsIn K mainGlobals "_law_draw" = some (some (.ref f_l_draw)))
    (l_l_draw : K.lookup f_l_draw = some ⟨oc_l_draw, od_l_draw, .func (PySem.W.fnOf "_law_draw" "_law_draw" (defArgs s_l_draw) (defBody s_l_draw) (defScope s_l_draw) .none kV_l_draw dc_l_draw pm_l_draw an_l_draw cd_l_draw ct_l_draw), sl_l_draw⟩)
    (d_l_draw : PySem.W.codeIn K cd_l_draw "_law_draw" = true)
    (k_l_draw : PySem.W.keepIn K (.ref f_l_draw) = true)
    (b_l_random_picture : PySem.W.nsIn K mainGlobals "_law_random_picture" = some (some (.ref f_l_random_picture)))
    (l_l_random_picture : K.lookup f_l_random_picture = some ⟨oc_l_random_picture, od_l_random_picture, .func (PySem.W.fnOf "_law_random_picture" "_law_random_picture" (defArgs s_l_random_picture) (defBody s_l_random_picture) (defScope s_l_random_picture) .none kV_l_random_picture dc_l_random_picture pm_l_random_picture an_l_random_picture cd_l_random_picture ct_l_random_picture), sl_l_random_picture⟩)
    (d_l_random_picture : PySem.W.codeIn K cd_l_random_picture "_law_random_picture" = true)
    (k_l_random_picture : PySem.W.keepIn K (.ref f_l_random_picture) = true)
    (b_l_after : PySem.W.nsIn K mainGlobals "_law_after" = some (some (.ref f_l_after)))
    (l_l_after : K.lookup f_l_after = some ⟨oc_l_after, od_l_after, .func (PySem.W.fnOf "_law_after" "_law_after" (defArgs s_l_after) (defBody s_l_after) (defScope s_l_after) .none kV_l_after dc_l_after pm_l_after an_l_after cd_l_after ct_l_after), sl_l_after⟩)
    (d_l_after : PySem.W.codeIn K cd_l_after "_law_after" = true)
    (k_l_after : PySem.W.keepIn K (.ref f_l_after) = true)
    (b_l_tuples : PySem.W.nsIn K mainGlobals "_law_tuples" = some (some (.ref f_l_tuples)))
    (l_l_tuples : K.lookup f_l_tuples = some ⟨oc_l_tuples, od_l_tuples, .func (PySem.W.fnOf "_law_tuples" "_law_tuples" (defArgs s_l_tuples) (defBody s_l_tuples) (defScope s_l_tuples) .none kV_l_tuples dc_l_tuples pm_l_tuples an_l_tuples cd_l_tuples ct_l_tuples), sl_l_tuples⟩)
    (d_l_tuples : PySem.W.codeIn K cd_l_tuples "_law_tuples" = true)
    (k_l_tuples : PySem.W.keepIn K (.ref f_l_tuples) = true)
    (b_l_done : PySem.W.nsIn K mainGlobals "_law_done" = some (some (.ref f_l_done)))
    (l_l_done : K.lookup f_l_done = some ⟨oc_l_done, od_l_done, .func (PySem.W.fnOf "_law_done" "_law_done" (defArgs s_l_done) (defBody s_l_done) (defScope s_l_done) .none kV_l_done dc_l_done pm_l_done an_l_done cd_l_done ct_l_done), sl_l_done⟩)
    (d_l_done : PySem.W.codeIn K cd_l_done "_law_done" = true)
    (k_l_done : PySem.W.keepIn K (.ref f_l_done) = true)
    (b_law : PySem.W.nsIn K mainGlobals "law" = some (some (.ref f_law)))
    (l_law : K.lookup f_law = some ⟨oc_law, od_law, .func (PySem.W.fnOf "law" "law" (defArgs s_law) (defBody s_law) (defScope s_law) .none kV_law dc_law pm_law an_law cd_law ct_law), sl_law⟩)
    (d_law : PySem.W.codeIn K cd_law "law" = true)
    (k_law : PySem.W.keepIn K (.ref f_law) = true)
    (z_SIDES : PySem.W.nsIn K mainGlobals "SIDES" = some (some (.ref k_SIDES)))
    (l_SIDES : K.lookup k_SIDES = some ⟨.type "tuple", none, .seq #[.str "top" tk0_SIDES, .str "right" tk1_SIDES, .str "bottom" tk2_SIDES, .str "left" tk3_SIDES] tn_SIDES, ts_SIDES⟩)
    (zz_Symmetry : PySem.W.nsIn K mainGlobals "Symmetry" = some none)
    (z_abs : PySem.W.nsIn K mainGlobals "abs" = some none)
    (z_all : PySem.W.nsIn K mainGlobals "all" = some none)
    (z_bool : PySem.W.nsIn K mainGlobals "bool" = some none)
    (z_enumerate : PySem.W.nsIn K mainGlobals "enumerate" = some none)
    (z_int : PySem.W.nsIn K mainGlobals "int" = some none)
    (z_isinstance : PySem.W.nsIn K mainGlobals "isinstance" = some none)
    (z_len : PySem.W.nsIn K mainGlobals "len" = some none)
    (z_list : PySem.W.nsIn K mainGlobals "list" = some none)
    (z_max : PySem.W.nsIn K mainGlobals "max" = some none)
    (z_min : PySem.W.nsIn K mainGlobals "min" = some none)
    (z_range : PySem.W.nsIn K mainGlobals "range" = some none)
    (z_repr : PySem.W.nsIn K mainGlobals "repr" = some none)
    (z_str : PySem.W.nsIn K mainGlobals "str" = some none)
    (z_sum : PySem.W.nsIn K mainGlobals "sum" = some none)
    (z_tuple : PySem.W.nsIn K mainGlobals "tuple" = some none)
    (z_zip : PySem.W.nsIn K mainGlobals "zip" = some none)
    : ∃ fd : FuncData, (∀ (s : Shared) (v : Value), BindsTo s fd ⟨[v], []⟩ [("script", v)]) ∧ ∀ base : Heap, K.In base → base.Ns mainGlobals mg → (∃ mm, base.Ns sysModules mm) → FnS l.prog w K mg base 18 fa fd ["script"] (spLawD K) := by
  have e := hfa.symm.trans (PySem.W.mg_of X G b_law)
  cases e
  let A : Ad := { a_is_whole := f_is_whole, fd_is_whole := PySem.W.fnOf "is_whole" "is_whole" (defArgs s_is_whole) (defBody s_is_whole) (defScope s_is_whole) .none kV_is_whole dc_is_whole pm_is_whole an_is_whole cd_is_whole ct_is_whole, a_is_count := f_is_count, fd_is_count := PySem.W.fnOf "is_count" "is_count" (defArgs s_is_count) (defBody s_is_count) (defScope s_is_count) .none kV_is_count dc_is_count pm_is_count an_is_count cd_is_count ct_is_count, a_is_colour := f_is_colour, fd_is_colour := PySem.W.fnOf "is_colour" "is_colour" (defArgs s_is_colour) (defBody s_is_colour) (defScope s_is_colour) .none kV_is_colour dc_is_colour pm_is_colour an_is_colour cd_is_colour ct_is_colour, a_is_side := f_is_side, fd_is_side := PySem.W.fnOf "is_side" "is_side" (defArgs s_is_side) (defBody s_is_side) (defScope s_is_side) .none kV_is_side dc_is_side pm_is_side an_is_side cd_is_side ct_is_side, a_InvalidColour_init_ := f_InvalidColour_init_, fd_InvalidColour_init_ := PySem.W.fnOf "__init__" "InvalidColour.__init__" (defArgs s_InvalidColour_init_) (defBody s_InvalidColour_init_) (defScope s_InvalidColour_init_) .none kV_InvalidColour_init_ dc_InvalidColour_init_ pm_InvalidColour_init_ an_InvalidColour_init_ cd_InvalidColour_init_ ct_InvalidColour_init_, a_InvalidSide_init_ := f_InvalidSide_init_, fd_InvalidSide_init_ := PySem.W.fnOf "__init__" "InvalidSide.__init__" (defArgs s_InvalidSide_init_) (defBody s_InvalidSide_init_) (defScope s_InvalidSide_init_) .none kV_InvalidSide_init_ dc_InvalidSide_init_ pm_InvalidSide_init_ an_InvalidSide_init_ cd_InvalidSide_init_ ct_InvalidSide_init_, a_InvalidPicture_init_ := f_InvalidPicture_init_, fd_InvalidPicture_init_ := PySem.W.fnOf "__init__" "InvalidPicture.__init__" (defArgs s_InvalidPicture_init_) (defBody s_InvalidPicture_init_) (defScope s_InvalidPicture_init_) .none kV_InvalidPicture_init_ dc_InvalidPicture_init_ pm_InvalidPicture_init_ an_InvalidPicture_init_ cd_InvalidPicture_init_ ct_InvalidPicture_init_, a_LastLine_init_ := f_LastLine_init_, fd_LastLine_init_ := PySem.W.fnOf "__init__" "LastLine.__init__" (defArgs s_LastLine_init_) (defBody s_LastLine_init_) (defScope s_LastLine_init_) .none kV_LastLine_init_ dc_LastLine_init_ pm_LastLine_init_ an_LastLine_init_ cd_LastLine_init_ ct_LastLine_init_, a_check_colour := f_check_colour, fd_check_colour := PySem.W.fnOf "check_colour" "check_colour" (defArgs s_check_colour) (defBody s_check_colour) (defScope s_check_colour) .none kV_check_colour dc_check_colour pm_check_colour an_check_colour cd_check_colour ct_check_colour, a_check_side := f_check_side, fd_check_side := PySem.W.fnOf "check_side" "check_side" (defArgs s_check_side) (defBody s_check_side) (defScope s_check_side) .none kV_check_side dc_check_side pm_check_side an_check_side cd_check_side ct_check_side, a_turned_rows := f_turned_rows, fd_turned_rows := PySem.W.fnOf "turned_rows" "turned_rows" (defArgs s_turned_rows) (defBody s_turned_rows) (defScope s_turned_rows) .none kV_turned_rows dc_turned_rows pm_turned_rows an_turned_rows cd_turned_rows ct_turned_rows, a_mirrored_rows := f_mirrored_rows, fd_mirrored_rows := PySem.W.fnOf "mirrored_rows" "mirrored_rows" (defArgs s_mirrored_rows) (defBody s_mirrored_rows) (defScope s_mirrored_rows) .none kV_mirrored_rows dc_mirrored_rows pm_mirrored_rows an_mirrored_rows cd_mirrored_rows ct_mirrored_rows, a_is_last_line := f_is_last_line, fd_is_last_line := PySem.W.fnOf "is_last_line" "is_last_line" (defArgs s_is_last_line) (defBody s_is_last_line) (defScope s_is_last_line) .none kV_is_last_line dc_is_last_line pm_is_last_line an_is_last_line cd_is_last_line ct_is_last_line, a_cut_rows := f_cut_rows, fd_cut_rows := PySem.W.fnOf "cut_rows" "cut_rows" (defArgs s_cut_rows) (defBody s_cut_rows) (defScope s_cut_rows) .none kV_cut_rows dc_cut_rows pm_cut_rows an_cut_rows cd_cut_rows ct_cut_rows, a_added_rows := f_added_rows, fd_added_rows := PySem.W.fnOf "added_rows" "added_rows" (defArgs s_added_rows) (defBody s_added_rows) (defScope s_added_rows) .none kV_added_rows dc_added_rows pm_added_rows an_added_rows cd_added_rows ct_added_rows, a_is_row := f_is_row, fd_is_row := PySem.W.fnOf "_is_row" "_is_row" (defArgs s_is_row) (defBody s_is_row) (defScope s_is_row) .none kV_is_row dc_is_row pm_is_row an_is_row cd_is_row ct_is_row, a_is_grid := f_is_grid, fd_is_grid := PySem.W.fnOf "_is_grid" "_is_grid" (defArgs s_is_grid) (defBody s_is_grid) (defScope s_is_grid) .none kV_is_grid dc_is_grid pm_is_grid an_is_grid cd_is_grid ct_is_grid, a_Picture_init_ := f_Picture_init_, fd_Picture_init_ := PySem.W.fnOf "__init__" "Picture.__init__" (defArgs s_Picture_init_) (defBody s_Picture_init_) (defScope s_Picture_init_) .none kV_Picture_init_ dc_Picture_init_ pm_Picture_init_ an_Picture_init_ cd_Picture_init_ ct_Picture_init_, a_Picture_rows := f_Picture_rows, fd_Picture_rows := PySem.W.fnOf "rows" "Picture.rows" (defArgs s_Picture_rows) (defBody s_Picture_rows) (defScope s_Picture_rows) .none kV_Picture_rows dc_Picture_rows pm_Picture_rows an_Picture_rows cd_Picture_rows ct_Picture_rows, a_Picture_turned := f_Picture_turned, fd_Picture_turned := PySem.W.fnOf "turned" "Picture.turned" (defArgs s_Picture_turned) (defBody s_Picture_turned) (defScope s_Picture_turned) .none kV_Picture_turned dc_Picture_turned pm_Picture_turned an_Picture_turned cd_Picture_turned ct_Picture_turned, a_Picture_mirrored := f_Picture_mirrored, fd_Picture_mirrored := PySem.W.fnOf "mirrored" "Picture.mirrored" (defArgs s_Picture_mirrored) (defBody s_Picture_mirrored) (defScope s_Picture_mirrored) .none kV_Picture_mirrored dc_Picture_mirrored pm_Picture_mirrored an_Picture_mirrored cd_Picture_mirrored ct_Picture_mirrored, a_Picture_cut := f_Picture_cut, fd_Picture_cut := PySem.W.fnOf "cut" "Picture.cut" (defArgs s_Picture_cut) (defBody s_Picture_cut) (defScope s_Picture_cut) .none kV_Picture_cut dc_Picture_cut pm_Picture_cut an_Picture_cut cd_Picture_cut ct_Picture_cut, a_Picture_added := f_Picture_added, fd_Picture_added := PySem.W.fnOf "added" "Picture.added" (defArgs s_Picture_added) (defBody s_Picture_added) (defScope s_Picture_added) .none kV_Picture_added dc_Picture_added pm_Picture_added an_Picture_added cd_Picture_added ct_Picture_added, a_l_pool := f_l_pool, fd_l_pool := PySem.W.fnOf "_law_pool" "_law_pool" (defArgs s_l_pool) (defBody s_l_pool) (defScope s_l_pool) .none kV_l_pool dc_l_pool pm_l_pool an_l_pool cd_l_pool ct_l_pool, a_l_draw := f_l_draw, fd_l_draw := PySem.W.fnOf "_law_draw" "_law_draw" (defArgs s_l_draw) (defBody s_l_draw) (defScope s_l_draw) .none kV_l_draw dc_l_draw pm_l_draw an_l_draw cd_l_draw ct_l_draw, a_l_random_picture := f_l_random_picture, fd_l_random_picture := PySem.W.fnOf "_law_random_picture" "_law_random_picture" (defArgs s_l_random_picture) (defBody s_l_random_picture) (defScope s_l_random_picture) .none kV_l_random_picture dc_l_random_picture pm_l_random_picture an_l_random_picture cd_l_random_picture ct_l_random_picture, a_l_after := f_l_after, fd_l_after := PySem.W.fnOf "_law_after" "_law_after" (defArgs s_l_after) (defBody s_l_after) (defScope s_l_after) .none kV_l_after dc_l_after pm_l_after an_l_after cd_l_after ct_l_after, a_l_tuples := f_l_tuples, fd_l_tuples := PySem.W.fnOf "_law_tuples" "_law_tuples" (defArgs s_l_tuples) (defBody s_l_tuples) (defScope s_l_tuples) .none kV_l_tuples dc_l_tuples pm_l_tuples an_l_tuples cd_l_tuples ct_l_tuples, a_l_done := f_l_done, fd_l_done := PySem.W.fnOf "_law_done" "_law_done" (defArgs s_l_done) (defBody s_l_done) (defScope s_l_done) .none kV_l_done dc_l_done pm_l_done an_l_done cd_l_done ct_l_done, a_law := fa, fd_law := PySem.W.fnOf "law" "law" (defArgs s_law) (defBody s_law) (defScope s_law) .none kV_law dc_law pm_law an_law cd_law ct_law, c_InvalidColour := c_InvalidColour, c_InvalidSide := c_InvalidSide, c_InvalidPicture := c_InvalidPicture, c_LastLine := c_LastLine, c_Picture := c_Picture, p_Picture_rows := p_Picture_rows, k_SIDES := k_SIDES, o_SIDES := ⟨.type "tuple", none, .seq #[.str "top" tk0_SIDES, .str "right" tk1_SIDES, .str "bottom" tk2_SIDES, .str "left" tk3_SIDES] tn_SIDES, ts_SIDES⟩ }
  have m_InvalidColour := PySem.W.mg_of X G a_InvalidColour
  have m_InvalidSide := PySem.W.mg_of X G a_InvalidSide
  have m_InvalidPicture := PySem.W.mg_of X G a_InvalidPicture
  have m_LastLine := PySem.W.mg_of X G a_LastLine
  have m_Picture := PySem.W.mg_of X G a_Picture
  have cl_Picture : Cls K c_Picture := ⟨g1_Picture, g2_Picture, g3_Picture, g4_Picture⟩
  have cf_Picture : ClsF K mg c_Picture "Picture" := ⟨m_Picture, cl_Picture, g9_Picture, ga_Picture, gb_Picture, gd_Picture⟩
  have nt_Picture : NotT K c_Picture := ⟨by simp only [List.forall_mem_cons, List.not_mem_nil, false_imp_iff, implies_true, and_true]; exact ⟨u_Picture_NoneType, u_Picture_bool, u_Picture_int, u_Picture_str, u_Picture_list, u_Picture_tuple, u_Picture_dict⟩⟩
  have is_Picture : IsiC K mg c_Picture (isC isc_Picture) := by
    refine isC_mk2 (Cn := "Picture") g7_Picture g8_Picture nt_Picture fun n b hn => ?_
    simp only [isc_Picture, List.lookup] at hn
    split at hn
    · rename_i e
      cases hn
      have e := beq_iff_eq.mp e
      subst e
      exact .inl ⟨c_Picture, cf_Picture, us_Picture_Picture, fun _ => rfl⟩
    split at hn
    · rename_i e
      cases hn
      have e := beq_iff_eq.mp e
      subst e
      exact .inr (PySem.W.mg_none_of X G zz_Symmetry)
    · cases hn
  have F_is_whole := fun_mk (st := s_is_whole) l_is_whole d_is_whole k_is_whole
  have B_is_whole := F_is_whole.binds (ps := ["value"]) fun _ _ _ _ _ _ us hl => match us, hl with | [_], _ => rfl
  have F_is_count := fun_mk (st := s_is_count) l_is_count d_is_count k_is_count
  have B_is_count := F_is_count.binds (ps := ["value"]) fun _ _ _ _ _ _ us hl => match us, hl with | [_], _ => rfl
  have F_is_colour := fun_mk (st := s_is_colour) l_is_colour d_is_colour k_is_colour
  have B_is_colour := F_is_colour.binds (ps := ["value"]) fun _ _ _ _ _ _ us hl => match us, hl with | [_], _ => rfl
  have F_is_side := fun_mk (st := s_is_side) l_is_side d_is_side k_is_side
  have B_is_side := F_is_side.binds (ps := ["value"]) fun _ _ _ _ _ _ us hl => match us, hl with | [_], _ => rfl
  have F_InvalidColour_init_ := fun_mk (st := s_InvalidColour_init_) l_InvalidColour_init_ d_InvalidColour_init_ k_InvalidColour_init_
  have B_InvalidColour_init_ := F_InvalidColour_init_.binds (ps := ["self", "value"]) fun _ _ _ _ _ _ us hl => match us, hl with | [_, _], _ => rfl
  have F_InvalidSide_init_ := fun_mk (st := s_InvalidSide_init_) l_InvalidSide_init_ d_InvalidSide_init_ k_InvalidSide_init_
  have B_InvalidSide_init_ := F_InvalidSide_init_.binds (ps := ["self", "value"]) fun _ _ _ _ _ _ us hl => match us, hl with | [_, _], _ => rfl
  have F_InvalidPicture_init_ := fun_mk (st := s_InvalidPicture_init_) l_InvalidPicture_init_ d_InvalidPicture_init_ k_InvalidPicture_init_
  have B_InvalidPicture_init_ := F_InvalidPicture_init_.binds (ps := ["self", "value"]) fun _ _ _ _ _ _ us hl => match us, hl with | [_, _], _ => rfl
  have F_LastLine_init_ := fun_mk (st := s_LastLine_init_) l_LastLine_init_ d_LastLine_init_ k_LastLine_init_
  have B_LastLine_init_ := F_LastLine_init_.binds (ps := ["self", "index"]) fun _ _ _ _ _ _ us hl => match us, hl with | [_, _], _ => rfl
  have F_check_colour := fun_mk (st := s_check_colour) l_check_colour d_check_colour k_check_colour
  have B_check_colour := F_check_colour.binds (ps := ["colour"]) fun _ _ _ _ _ _ us hl => match us, hl with | [_], _ => rfl
  have F_check_side := fun_mk (st := s_check_side) l_check_side d_check_side k_check_side
  have B_check_side := F_check_side.binds (ps := ["side"]) fun _ _ _ _ _ _ us hl => match us, hl with | [_], _ => rfl
  have F_turned_rows := fun_mk (st := s_turned_rows) l_turned_rows d_turned_rows k_turned_rows
  have B_turned_rows := F_turned_rows.binds (ps := ["rows"]) fun _ _ _ _ _ _ us hl => match us, hl with | [_], _ => rfl
  have F_mirrored_rows := fun_mk (st := s_mirrored_rows) l_mirrored_rows d_mirrored_rows k_mirrored_rows
  have B_mirrored_rows := F_mirrored_rows.binds (ps := ["rows"]) fun _ _ _ _ _ _ us hl => match us, hl with | [_], _ => rfl
  have F_is_last_line := fun_mk (st := s_is_last_line) l_is_last_line d_is_last_line k_is_last_line
  have B_is_last_line := F_is_last_line.binds (ps := ["rows", "side"]) fun _ _ _ _ _ _ us hl => match us, hl with | [_, _], _ => rfl
  have F_cut_rows := fun_mk (st := s_cut_rows) l_cut_rows d_cut_rows k_cut_rows
  have B_cut_rows := F_cut_rows.binds (ps := ["rows", "side"]) fun _ _ _ _ _ _ us hl => match us, hl with | [_, _], _ => rfl
  have F_added_rows := fun_mk (st := s_added_rows) l_added_rows d_added_rows k_added_rows
  have B_added_rows := F_added_rows.binds (ps := ["rows", "side", "colour"]) fun _ _ _ _ _ _ us hl => match us, hl with | [_, _, _], _ => rfl
  have F_is_row := fun_mk (st := s_is_row) l_is_row d_is_row k_is_row
  have B_is_row := F_is_row.binds (ps := ["value"]) fun _ _ _ _ _ _ us hl => match us, hl with | [_], _ => rfl
  have F_is_grid := fun_mk (st := s_is_grid) l_is_grid d_is_grid k_is_grid
  have B_is_grid := F_is_grid.binds (ps := ["value"]) fun _ _ _ _ _ _ us hl => match us, hl with | [_], _ => rfl
  have F_Picture_init_ := fun_mk (st := s_Picture_init_) l_Picture_init_ d_Picture_init_ k_Picture_init_
  have B_Picture_init_ := F_Picture_init_.binds (ps := ["self", "rows"]) fun _ _ _ _ _ _ us hl => match us, hl with | [_, _], _ => rfl
  have F_Picture_rows := fun_mk (st := s_Picture_rows) l_Picture_rows d_Picture_rows k_Picture_rows
  have B_Picture_rows := F_Picture_rows.binds (ps := ["self"]) fun _ _ _ _ _ _ us hl => match us, hl with | [_], _ => rfl
  have F_Picture_turned := fun_mk (st := s_Picture_turned) l_Picture_turned d_Picture_turned k_Picture_turned
  have B_Picture_turned := F_Picture_turned.binds (ps := ["self"]) fun _ _ _ _ _ _ us hl => match us, hl with | [_], _ => rfl
  have F_Picture_mirrored := fun_mk (st := s_Picture_mirrored) l_Picture_mirrored d_Picture_mirrored k_Picture_mirrored
  have B_Picture_mirrored := F_Picture_mirrored.binds (ps := ["self"]) fun _ _ _ _ _ _ us hl => match us, hl with | [_], _ => rfl
  have F_Picture_cut := fun_mk (st := s_Picture_cut) l_Picture_cut d_Picture_cut k_Picture_cut
  have B_Picture_cut := F_Picture_cut.binds (ps := ["self", "side"]) fun _ _ _ _ _ _ us hl => match us, hl with | [_, _], _ => rfl
  have F_Picture_added := fun_mk (st := s_Picture_added) l_Picture_added d_Picture_added k_Picture_added
  have B_Picture_added := F_Picture_added.binds (ps := ["self", "side", "colour"]) fun _ _ _ _ _ _ us hl => match us, hl with | [_, _, _], _ => rfl
  have F_l_pool := fun_mk (st := s_l_pool) l_l_pool d_l_pool k_l_pool
  have B_l_pool := F_l_pool.binds (ps := ["script", "k"]) fun _ _ _ _ _ _ us hl => match us, hl with | [_, _], _ => rfl
  have F_l_draw := fun_mk (st := s_l_draw) l_l_draw d_l_draw k_l_draw
  have B_l_draw := F_l_draw.binds (ps := ["pool", "many"]) fun _ _ _ _ _ _ us hl => match us, hl with | [_, _], _ => rfl
  have F_l_random_picture := fun_mk (st := s_l_random_picture) l_l_random_picture d_l_random_picture k_l_random_picture
  have B_l_random_picture := F_l_random_picture.binds (ps := ["pool", "most", "colours"]) fun _ _ _ _ _ _ us hl => match us, hl with | [_, _, _], _ => rfl
  have F_l_after := fun_mk (st := s_l_after) l_l_after d_l_after k_l_after
  have B_l_after := F_l_after.binds (ps := ["rows", "step"]) fun _ _ _ _ _ _ us hl => match us, hl with | [_, _], _ => rfl
  have F_l_tuples := fun_mk (st := s_l_tuples) l_l_tuples d_l_tuples k_l_tuples
  have B_l_tuples := F_l_tuples.binds (ps := ["rows"]) fun _ _ _ _ _ _ us hl => match us, hl with | [_], _ => rfl
  have F_l_done := fun_mk (st := s_l_done) l_l_done d_l_done k_l_done
  have B_l_done := F_l_done.binds (ps := ["picture", "step"]) fun _ _ _ _ _ _ us hl => match us, hl with | [_, _], _ => rfl
  have F_law := fun_mk (st := s_law) l_law d_law k_law
  have B_law := F_law.binds (ps := ["script"]) fun _ _ _ _ _ _ us hl => match us, hl with | [_], _ => rfl
  have q_SIDES : ∀ H, SqT K H k_SIDES (ys_SIDES.map V.str) := kTup l_SIDES rfl rfl (by show 4 ≤ sizeLine; decide) (.cons ⟨_, rfl⟩ (.cons ⟨_, rfl⟩ (.cons ⟨_, rfl⟩ (.cons ⟨_, rfl⟩ .nil))))
  have clx_InvalidColour : ∀ (y : Str) (b : Bool) (cls : Value), mg y = some cls → clt "InvalidColour" y = some b → PySem.W.exmOne K cls (.ref c_InvalidColour) = some b := by
    intro y b cls hm h
    unfold clt at h
    split at h
    · rename_i e
      cases h
      simp only [List.mem_cons, List.not_mem_nil, or_false] at e
      rcases e with e | e | e | e <;> subst e
      · cases hm.symm.trans m_InvalidColour
        exact exm_two x7_InvalidColour xa_InvalidColour x8_InvalidColour xs_InvalidColour_InvalidColour
      · cases hm.symm.trans m_InvalidSide
        exact exm_two x7_InvalidColour xa_InvalidColour x8_InvalidColour xs_InvalidColour_InvalidSide
      · cases hm.symm.trans m_InvalidPicture
        exact exm_two x7_InvalidColour xa_InvalidColour x8_InvalidColour xs_InvalidColour_InvalidPicture
      · cases hm.symm.trans m_LastLine
        exact exm_two x7_InvalidColour xa_InvalidColour x8_InvalidColour xs_InvalidColour_LastLine
    · cases h
  have clx_InvalidSide : ∀ (y : Str) (b : Bool) (cls : Value), mg y = some cls → clt "InvalidSide" y = some b → PySem.W.exmOne K cls (.ref c_InvalidSide) = some b := by
    intro y b cls hm h
    unfold clt at h
    split at h
    · rename_i e
      cases h
      simp only [List.mem_cons, List.not_mem_nil, or_false] at e
      rcases e with e | e | e | e <;> subst e
      · cases hm.symm.trans m_InvalidColour
        exact exm_two x7_InvalidSide xa_InvalidSide x8_InvalidSide xs_InvalidSide_InvalidColour
      · cases hm.symm.trans m_InvalidSide
        exact exm_two x7_InvalidSide xa_InvalidSide x8_InvalidSide xs_InvalidSide_InvalidSide
      · cases hm.symm.trans m_InvalidPicture
        exact exm_two x7_InvalidSide xa_InvalidSide x8_InvalidSide xs_InvalidSide_InvalidPicture
      · cases hm.symm.trans m_LastLine
        exact exm_two x7_InvalidSide xa_InvalidSide x8_InvalidSide xs_InvalidSide_LastLine
    · cases h
  have clx_LastLine : ∀ (y : Str) (b : Bool) (cls : Value), mg y = some cls → clt "LastLine" y = some b → PySem.W.exmOne K cls (.ref c_LastLine) = some b := by
    intro y b cls hm h
    unfold clt at h
    split at h
    · rename_i e
      cases h
      simp only [List.mem_cons, List.not_mem_nil, or_false] at e
      rcases e with e | e | e | e <;> subst e
      · cases hm.symm.trans m_InvalidColour
        exact exm_two x7_LastLine xa_LastLine x8_LastLine xs_LastLine_InvalidColour
      · cases hm.symm.trans m_InvalidSide
        exact exm_two x7_LastLine xa_LastLine x8_LastLine xs_LastLine_InvalidSide
      · cases hm.symm.trans m_InvalidPicture
        exact exm_two x7_LastLine xa_LastLine x8_LastLine xs_LastLine_InvalidPicture
      · cases hm.symm.trans m_LastLine
        exact exm_two x7_LastLine xa_LastLine x8_LastLine xs_LastLine_LastLine
    · cases h
  have Tt : ∀ base : Heap, (∃ mm, base.Ns sysModules mm) → Tx w K mg base A := fun base sm => { mods := sm, F_is_whole := F_is_whole, b_is_whole := B_is_whole, g_is_whole := PySem.W.mg_of X G b_is_whole, F_is_count := F_is_count, b_is_count := B_is_count, g_is_count := PySem.W.mg_of X G b_is_count, F_is_colour := F_is_colour, b_is_colour := B_is_colour, g_is_colour := PySem.W.mg_of X G b_is_colour, F_is_side := F_is_side, b_is_side := B_is_side, g_is_side := PySem.W.mg_of X G b_is_side, F_InvalidColour_init_ := F_InvalidColour_init_, b_InvalidColour_init_ := B_InvalidColour_init_, F_InvalidSide_init_ := F_InvalidSide_init_, b_InvalidSide_init_ := B_InvalidSide_init_, F_InvalidPicture_init_ := F_InvalidPicture_init_, b_InvalidPicture_init_ := B_InvalidPicture_init_, F_LastLine_init_ := F_LastLine_init_, b_LastLine_init_ := B_LastLine_init_, F_check_colour := F_check_colour, b_check_colour := B_check_colour, g_check_colour := PySem.W.mg_of X G b_check_colour, F_check_side := F_check_side, b_check_side := B_check_side, g_check_side := PySem.W.mg_of X G b_check_side, F_turned_rows := F_turned_rows, b_turned_rows := B_turned_rows, g_turned_rows := PySem.W.mg_of X G b_turned_rows, F_mirrored_rows := F_mirrored_rows, b_mirrored_rows := B_mirrored_rows, g_mirrored_rows := PySem.W.mg_of X G b_mirrored_rows, F_is_last_line := F_is_last_line, b_is_last_line := B_is_last_line, g_is_last_line := PySem.W.mg_of X G b_is_last_line, F_cut_rows := F_cut_rows, b_cut_rows := B_cut_rows, g_cut_rows := PySem.W.mg_of X G b_cut_rows, F_added_rows := F_added_rows, b_added_rows := B_added_rows, g_added_rows := PySem.W.mg_of X G b_added_rows, F_is_row := F_is_row, b_is_row := B_is_row, g_is_row := PySem.W.mg_of X G b_is_row, F_is_grid := F_is_grid, b_is_grid := B_is_grid, g_is_grid := PySem.W.mg_of X G b_is_grid, F_Picture_init_ := F_Picture_init_, b_Picture_init_ := B_Picture_init_, F_Picture_rows := F_Picture_rows, b_Picture_rows := B_Picture_rows, F_Picture_turned := F_Picture_turned, b_Picture_turned := B_Picture_turned, F_Picture_mirrored := F_Picture_mirrored, b_Picture_mirrored := B_Picture_mirrored, F_Picture_cut := F_Picture_cut, b_Picture_cut := B_Picture_cut, F_Picture_added := F_Picture_added, b_Picture_added := B_Picture_added, F_l_pool := F_l_pool, b_l_pool := B_l_pool, g_l_pool := PySem.W.mg_of X G b_l_pool, F_l_draw := F_l_draw, b_l_draw := B_l_draw, g_l_draw := PySem.W.mg_of X G b_l_draw, F_l_random_picture := F_l_random_picture, b_l_random_picture := B_l_random_picture, g_l_random_picture := PySem.W.mg_of X G b_l_random_picture, F_l_after := F_l_after, b_l_after := B_l_after, g_l_after := PySem.W.mg_of X G b_l_after, F_l_tuples := F_l_tuples, b_l_tuples := B_l_tuples, g_l_tuples := PySem.W.mg_of X G b_l_tuples, F_l_done := F_l_done, b_l_done := B_l_done, g_l_done := PySem.W.mg_of X G b_l_done, F_law := F_law, b_law := B_law, g_law := PySem.W.mg_of X G b_law, q_SIDES := q_SIDES, g_SIDES := ⟨_, .ref k_SIDES, PySem.W.mg_of X G z_SIDES, rfl, fun G => .tup (q_SIDES G) (.cons (.str "top") (.cons (.str "right") (.cons (.str "bottom") (.cons (.str "left") .nil)))), rfl⟩, h_SIDES := PySem.W.mg_of X G z_SIDES, l_SIDES := l_SIDES, lc_SIDES := rfl, ld_SIDES := rfl, mg_InvalidColour := m_InvalidColour, ox_InvalidColour := ⟨⟨_, _, _, base_ValueError, x1_InvalidColour, x0_InvalidColour⟩, x9_InvalidColour, x2_InvalidColour, x7_InvalidColour, x8_InvalidColour, x6_InvalidColour⟩, oi_InvalidColour := b_InvalidColour_init_, ot_InvalidColour := t_InvalidColour_init_', no_InvalidColour := x5_InvalidColour, xc_InvalidColour := ⟨x3_InvalidColour, x4_InvalidColour, x5_InvalidColour, x7_InvalidColour, x9_InvalidColour⟩, cl_InvalidColour := clx_InvalidColour, mg_InvalidSide := m_InvalidSide, ox_InvalidSide := ⟨⟨_, _, _, base_ValueError, x1_InvalidSide, x0_InvalidSide⟩, x9_InvalidSide, x2_InvalidSide, x7_InvalidSide, x8_InvalidSide, x6_InvalidSide⟩, oi_InvalidSide := b_InvalidSide_init_, ot_InvalidSide := t_InvalidSide_init_', no_InvalidSide := x5_InvalidSide, xc_InvalidSide := ⟨x3_InvalidSide, x4_InvalidSide, x5_InvalidSide, x7_InvalidSide, x9_InvalidSide⟩, cl_InvalidSide := clx_InvalidSide, mg_InvalidPicture := m_InvalidPicture, ox_InvalidPicture := ⟨⟨_, _, _, base_ValueError, x1_InvalidPicture, x0_InvalidPicture⟩, x9_InvalidPicture, x2_InvalidPicture, x7_InvalidPicture, x8_InvalidPicture, x6_InvalidPicture⟩, oi_InvalidPicture := b_InvalidPicture_init_, ot_InvalidPicture := t_InvalidPicture_init_', no_InvalidPicture := x5_InvalidPicture, xc_InvalidPicture := ⟨x3_InvalidPicture, x4_InvalidPicture, x5_InvalidPicture, x7_InvalidPicture, x9_InvalidPicture⟩, mg_LastLine := m_LastLine, ox_LastLine := ⟨⟨_, _, _, base_RuntimeError, x1_LastLine, x0_LastLine⟩, x9_LastLine, x2_LastLine, x7_LastLine, x8_LastLine, x6_LastLine⟩, oi_LastLine := b_LastLine_init_, ot_LastLine := t_LastLine_init_', no_LastLine := x5_LastLine, xc_LastLine := ⟨x3_LastLine, x4_LastLine, x5_LastLine, x7_LastLine, x9_LastLine⟩, cl_LastLine := clx_LastLine, mg_Picture := m_Picture, cl_Picture := cl_Picture, mk_Picture := ⟨g5_Picture, b_Picture_init_, (by unfold PySem.W.isFn; rw [t_Picture_init_']; rfl), g6_Picture⟩, sf_Picture := sf_Picture, is_Picture := is_Picture, na_Picture_rows := n_Picture_rows, pr_Picture_rows := ⟨b_Picture_rows, p1_Picture_rows, p2_Picture_rows, ⟨_, p3_Picture_rows⟩⟩, mt_Picture_turned := ⟨b_Picture_turned, (by unfold PySem.W.isFn; rw [t_Picture_turned']; rfl), k_Picture_turned⟩, mt_Picture_mirrored := ⟨b_Picture_mirrored, (by unfold PySem.W.isFn; rw [t_Picture_mirrored']; rfl), k_Picture_mirrored⟩, mt_Picture_cut := ⟨b_Picture_cut, (by unfold PySem.W.isFn; rw [t_Picture_cut']; rfl), k_Picture_cut⟩, mt_Picture_added := ⟨b_Picture_added, (by unfold PySem.W.isFn; rw [t_Picture_added']; rfl), k_Picture_added⟩, n_abs := PySem.W.mg_none_of X G z_abs, n_all := PySem.W.mg_none_of X G z_all, n_bool := PySem.W.mg_none_of X G z_bool, n_enumerate := PySem.W.mg_none_of X G z_enumerate, n_int := PySem.W.mg_none_of X G z_int, n_isinstance := PySem.W.mg_none_of X G z_isinstance, n_len := PySem.W.mg_none_of X G z_len, n_list := PySem.W.mg_none_of X G z_list, n_max := PySem.W.mg_none_of X G z_max, n_min := PySem.W.mg_none_of X G z_min, n_range := PySem.W.mg_none_of X G z_range, n_repr := PySem.W.mg_none_of X G z_repr, n_str := PySem.W.mg_none_of X G z_str, n_sum := PySem.W.mg_none_of X G z_sum, n_tuple := PySem.W.mg_none_of X G z_tuple, n_zip := PySem.W.mg_none_of X G z_zip }
  exact ⟨_, fun s v => .of_eq rfl, fun base _ _ sm => ok_law (P := l.prog) (w := w) (base := base) (Tt base sm) law_m⟩
end K03

open PySem PySem.W PyProof.Rows in
set_option maxRecDepth 100000 in
set_option maxHeartbeats 0 in
theorem PySem.Challenge.cw_pictureframes_k03_single_steps_holds : PySem.Challenge.rw_pictureframes_k03_single_steps.Holds := by
  w_on; o_law; k_head; (case hw => w_witness2)
  k_fill
  refine DL.walk_D (l := PySem.Challenge.rw_pictureframes_k03_single_steps) (k := 18) (x := "script") rfl (by decide +kernel) rfl ⟨rfl, by decide, by decide⟩ (fun w h Y => PySem.W.kIn_of Y) ?F
  case F =>
    intro w mg fa h KX G hmg
    refine' K03.all_mk KX G hmg ?a_InvalidColour ?x1_InvalidColour ?x0_InvalidColour ?x2_InvalidColour ?x3_InvalidColour ?x4_InvalidColour ?x5_InvalidColour ?x6_InvalidColour ?x7_InvalidColour ?x8_InvalidColour ?x9_InvalidColour ?xa_InvalidColour ?a_InvalidSide ?x1_InvalidSide ?x0_InvalidSide ?x2_InvalidSide ?x3_InvalidSide ?x4_InvalidSide ?x5_InvalidSide ?x6_InvalidSide ?x7_InvalidSide ?x8_InvalidSide ?x9_InvalidSide ?xa_InvalidSide ?a_InvalidPicture ?x1_InvalidPicture ?x0_InvalidPicture ?x2_InvalidPicture ?x3_InvalidPicture ?x4_InvalidPicture ?x5_InvalidPicture ?x6_InvalidPicture ?x7_InvalidPicture ?x8_InvalidPicture ?x9_InvalidPicture ?xa_InvalidPicture ?a_LastLine ?x1_LastLine ?x0_LastLine ?x2_LastLine ?x3_LastLine ?x4_LastLine ?x5_LastLine ?x6_LastLine ?x7_LastLine ?x8_LastLine ?x9_LastLine ?xa_LastLine ?a_Picture ?g1_Picture ?g2_Picture ?g3_Picture ?g4_Picture ?g5_Picture ?g6_Picture ?sf_Picture ?n_Picture_rows ?g9_Picture ?ga_Picture ?gb_Picture ?gd_Picture ?g7_Picture ?g8_Picture ?u_Picture_NoneType ?u_Picture_bool ?u_Picture_int ?u_Picture_str ?u_Picture_list ?u_Picture_tuple ?u_Picture_dict ?xs_InvalidColour_InvalidColour ?xs_InvalidColour_InvalidSide ?xs_InvalidColour_InvalidPicture ?xs_InvalidColour_LastLine ?xs_InvalidSide_InvalidColour ?xs_InvalidSide_InvalidSide ?xs_InvalidSide_InvalidPicture ?xs_InvalidSide_LastLine ?xs_LastLine_InvalidColour ?xs_LastLine_InvalidSide ?xs_LastLine_InvalidPicture ?xs_LastLine_LastLine ?us_Picture_Picture ?b_is_whole ?l_is_whole ?d_is_whole ?k_is_whole ?b_is_count ?l_is_count ?d_is_count ?k_is_count ?b_is_colour ?l_is_colour ?d_is_colour ?k_is_colour ?b_is_side ?l_is_side ?d_is_side ?k_is_side ?b_InvalidColour_init_ ?t_InvalidColour_init_' ?l_InvalidColour_init_ ?d_InvalidColour_init_ ?k_InvalidColour_init_ ?b_InvalidSide_init_ ?t_InvalidSide_init_' ?l_InvalidSide_init_ ?d_InvalidSide_init_ ?k_InvalidSide_init_ ?b_InvalidPicture_init_ ?t_InvalidPicture_init_' ?l_InvalidPicture_init_ ?d_InvalidPicture_init_ ?k_InvalidPicture_init_ ?b_LastLine_init_ ?t_LastLine_init_' ?l_LastLine_init_ ?d_LastLine_init_ ?k_LastLine_init_ ?b_check_colour ?l_check_colour ?d_check_colour ?k_check_colour ?b_check_side ?l_check_side ?d_check_side ?k_check_side ?b_turned_rows ?l_turned_rows ?d_turned_rows ?k_turned_rows ?b_mirrored_rows ?l_mirrored_rows ?d_mirrored_rows ?k_mirrored_rows ?b_is_last_line ?l_is_last_line ?d_is_last_line ?k_is_last_line ?b_cut_rows ?l_cut_rows ?d_cut_rows ?k_cut_rows ?b_added_rows ?l_added_rows ?d_added_rows ?k_added_rows ?b_is_row ?l_is_row ?d_is_row ?k_is_row ?b_is_grid ?l_is_grid ?d_is_grid ?k_is_grid ?b_Picture_init_ ?t_Picture_init_' ?l_Picture_init_ ?d_Picture_init_ ?k_Picture_init_ ?b_Picture_rows ?p1_Picture_rows ?p2_Picture_rows ?p3_Picture_rows ?l_Picture_rows ?d_Picture_rows ?k_Picture_rows ?b_Picture_turned ?t_Picture_turned' ?l_Picture_turned ?d_Picture_turned ?k_Picture_turned ?b_Picture_mirrored ?t_Picture_mirrored' ?l_Picture_mirrored ?d_Picture_mirrored ?k_Picture_mirrored ?b_Picture_cut ?t_Picture_cut' ?l_Picture_cut ?d_Picture_cut ?k_Picture_cut ?b_Picture_added ?t_Picture_added' ?l_Picture_added ?d_Picture_added ?k_Picture_added ?b_l_pool ?l_l_pool ?d_l_pool ?k_l_pool ?b_l_draw ?l_l_draw ?d_l_draw ?k_l_draw ?b_l_random_picture ?l_l_random_picture ?d_l_random_picture ?k_l_random_picture ?b_l_after ?l_l_after ?d_l_after ?k_l_after ?b_l_tuples ?l_l_tuples ?d_l_tuples ?k_l_tuples ?b_l_done ?l_l_done ?d_l_done ?k_l_done ?b_law ?l_law ?d_law ?k_law ?z_SIDES ?l_SIDES ?zz_Symmetry ?z_abs ?z_all ?z_bool ?z_enumerate ?z_int ?z_isinstance ?z_len ?z_list ?z_max ?z_min ?z_range ?z_repr ?z_str ?z_sum ?z_tuple ?z_zip
    (case a_InvalidColour => k_is)
    (case x1_InvalidColour => kx_is)
    (case x0_InvalidColour => kx_is)
    (case x2_InvalidColour => k_is)
    (case x3_InvalidColour => k_is)
    (case x4_InvalidColour => k_is)
    (case x5_InvalidColour => k_is)
    (case x6_InvalidColour => k_is)
    (case x7_InvalidColour => k_is)
    (case x8_InvalidColour => k_is)
    (case x9_InvalidColour => k_is)
    (case xa_InvalidColour => k_is)
    (case a_InvalidSide => k_is)
    (case x1_InvalidSide => kx_is)
    (case x0_InvalidSide => kx_is)
    (case x2_InvalidSide => k_is)
    (case x3_InvalidSide => k_is)
    (case x4_InvalidSide => k_is)
    (case x5_InvalidSide => k_is)
    (case x6_InvalidSide => k_is)
    (case x7_InvalidSide => k_is)
    (case x8_InvalidSide => k_is)
    (case x9_InvalidSide => k_is)
    (case xa_InvalidSide => k_is)
    (case a_InvalidPicture => k_is)
    (case x1_InvalidPicture => kx_is)
    (case x0_InvalidPicture => kx_is)
    (case x2_InvalidPicture => k_is)
    (case x3_InvalidPicture => k_is)
    (case x4_InvalidPicture => k_is)
    (case x5_InvalidPicture => k_is)
    (case x6_InvalidPicture => k_is)
    (case x7_InvalidPicture => k_is)
    (case x8_InvalidPicture => k_is)
    (case x9_InvalidPicture => k_is)
    (case xa_InvalidPicture => k_is)
    (case a_LastLine => k_is)
    (case x1_LastLine => kx_is)
    (case x0_LastLine => kx_is)
    (case x2_LastLine => k_is)
    (case x3_LastLine => k_is)
    (case x4_LastLine => k_is)
    (case x5_LastLine => k_is)
    (case x6_LastLine => k_is)
    (case x7_LastLine => k_is)
    (case x8_LastLine => k_is)
    (case x9_LastLine => k_is)
    (case xa_LastLine => k_is)
    (case a_Picture => k_is)
    (case g1_Picture => k_is)
    (case g2_Picture => k_is)
    (case g3_Picture => k_is)
    (case g4_Picture => k_is)
    (case g5_Picture => k_is)
    (case g6_Picture => k_is)
    (case sf_Picture => k_is)
    (case n_Picture_rows => k_is)
    (case g9_Picture => k_is)
    (case ga_Picture => k_is)
    (case gb_Picture => k_is)
    (case gd_Picture => k_is)
    (case g7_Picture => k_is)
    (case g8_Picture => k_is)
    (case u_Picture_NoneType => k_is)
    (case u_Picture_bool => k_is)
    (case u_Picture_int => k_is)
    (case u_Picture_str => k_is)
    (case u_Picture_list => k_is)
    (case u_Picture_tuple => k_is)
    (case u_Picture_dict => k_is)
    (case xs_InvalidColour_InvalidColour => k_is)
    (case xs_InvalidColour_InvalidSide => k_is)
    (case xs_InvalidColour_InvalidPicture => k_is)
    (case xs_InvalidColour_LastLine => k_is)
    (case xs_InvalidSide_InvalidColour => k_is)
    (case xs_InvalidSide_InvalidSide => k_is)
    (case xs_InvalidSide_InvalidPicture => k_is)
    (case xs_InvalidSide_LastLine => k_is)
    (case xs_LastLine_InvalidColour => k_is)
    (case xs_LastLine_InvalidSide => k_is)
    (case xs_LastLine_InvalidPicture => k_is)
    (case xs_LastLine_LastLine => k_is)
    (case us_Picture_Picture => k_is)
    (case b_is_whole => k_is)
    (case l_is_whole => k_is)
    (case d_is_whole => k_is)
    (case k_is_whole => k_is)
    (case b_is_count => k_is)
    (case l_is_count => k_is)
    (case d_is_count => k_is)
    (case k_is_count => k_is)
    (case b_is_colour => k_is)
    (case l_is_colour => k_is)
    (case d_is_colour => k_is)
    (case k_is_colour => k_is)
    (case b_is_side => k_is)
    (case l_is_side => k_is)
    (case d_is_side => k_is)
    (case k_is_side => k_is)
    (case b_InvalidColour_init_ => k_is)
    (case t_InvalidColour_init_' => k_is)
    (case l_InvalidColour_init_ => k_is)
    (case d_InvalidColour_init_ => k_is)
    (case k_InvalidColour_init_ => k_is)
    (case b_InvalidSide_init_ => k_is)
    (case t_InvalidSide_init_' => k_is)
    (case l_InvalidSide_init_ => k_is)
    (case d_InvalidSide_init_ => k_is)
    (case k_InvalidSide_init_ => k_is)
    (case b_InvalidPicture_init_ => k_is)
    (case t_InvalidPicture_init_' => k_is)
    (case l_InvalidPicture_init_ => k_is)
    (case d_InvalidPicture_init_ => k_is)
    (case k_InvalidPicture_init_ => k_is)
    (case b_LastLine_init_ => k_is)
    (case t_LastLine_init_' => k_is)
    (case l_LastLine_init_ => k_is)
    (case d_LastLine_init_ => k_is)
    (case k_LastLine_init_ => k_is)
    (case b_check_colour => k_is)
    (case l_check_colour => k_is)
    (case d_check_colour => k_is)
    (case k_check_colour => k_is)
    (case b_check_side => k_is)
    (case l_check_side => k_is)
    (case d_check_side => k_is)
    (case k_check_side => k_is)
    (case b_turned_rows => k_is)
    (case l_turned_rows => k_is)
    (case d_turned_rows => k_is)
    (case k_turned_rows => k_is)
    (case b_mirrored_rows => k_is)
    (case l_mirrored_rows => k_is)
    (case d_mirrored_rows => k_is)
    (case k_mirrored_rows => k_is)
    (case b_is_last_line => k_is)
    (case l_is_last_line => k_is)
    (case d_is_last_line => k_is)
    (case k_is_last_line => k_is)
    (case b_cut_rows => k_is)
    (case l_cut_rows => k_is)
    (case d_cut_rows => k_is)
    (case k_cut_rows => k_is)
    (case b_added_rows => k_is)
    (case l_added_rows => k_is)
    (case d_added_rows => k_is)
    (case k_added_rows => k_is)
    (case b_is_row => k_is)
    (case l_is_row => k_is)
    (case d_is_row => k_is)
    (case k_is_row => k_is)
    (case b_is_grid => k_is)
    (case l_is_grid => k_is)
    (case d_is_grid => k_is)
    (case k_is_grid => k_is)
    (case b_Picture_init_ => k_is)
    (case t_Picture_init_' => k_is)
    (case l_Picture_init_ => k_is)
    (case d_Picture_init_ => k_is)
    (case k_Picture_init_ => k_is)
    (case b_Picture_rows => k_is)
    (case p1_Picture_rows => k_is)
    (case p2_Picture_rows => k_is)
    (case p3_Picture_rows => k_is)
    (case l_Picture_rows => k_is)
    (case d_Picture_rows => k_is)
    (case k_Picture_rows => k_is)
    (case b_Picture_turned => k_is)
    (case t_Picture_turned' => k_is)
    (case l_Picture_turned => k_is)
    (case d_Picture_turned => k_is)
    (case k_Picture_turned => k_is)
    (case b_Picture_mirrored => k_is)
    (case t_Picture_mirrored' => k_is)
    (case l_Picture_mirrored => k_is)
    (case d_Picture_mirrored => k_is)
    (case k_Picture_mirrored => k_is)
    (case b_Picture_cut => k_is)
    (case t_Picture_cut' => k_is)
    (case l_Picture_cut => k_is)
    (case d_Picture_cut => k_is)
    (case k_Picture_cut => k_is)
    (case b_Picture_added => k_is)
    (case t_Picture_added' => k_is)
    (case l_Picture_added => k_is)
    (case d_Picture_added => k_is)
    (case k_Picture_added => k_is)
    (case b_l_pool => k_is)
    (case l_l_pool => k_is)
    (case d_l_pool => k_is)
    (case k_l_pool => k_is)
    (case b_l_draw => k_is)
    (case l_l_draw => k_is)
    (case d_l_draw => k_is)
    (case k_l_draw => k_is)
    (case b_l_random_picture => k_is)
    (case l_l_random_picture => k_is)
    (case d_l_random_picture => k_is)
    (case k_l_random_picture => k_is)
    (case b_l_after => k_is)
    (case l_l_after => k_is)
    (case d_l_after => k_is)
    (case k_l_after => k_is)
    (case b_l_tuples => k_is)
    (case l_l_tuples => k_is)
    (case d_l_tuples => k_is)
    (case k_l_tuples => k_is)
    (case b_l_done => k_is)
    (case l_l_done => k_is)
    (case d_l_done => k_is)
    (case k_l_done => k_is)
    (case b_law => k_is)
    (case l_law => k_is)
    (case d_law => k_is)
    (case k_law => k_is)
    (case z_SIDES => k_is)
    (case l_SIDES => k_is)
    (case zz_Symmetry => k_is)
    (case z_abs => k_is)
    (case z_all => k_is)
    (case z_bool => k_is)
    (case z_enumerate => k_is)
    (case z_int => k_is)
    (case z_isinstance => k_is)
    (case z_len => k_is)
    (case z_list => k_is)
    (case z_max => k_is)
    (case z_min => k_is)
    (case z_range => k_is)
    (case z_repr => k_is)
    (case z_str => k_is)
    (case z_sum => k_is)
    (case z_tuple => k_is)
    (case z_zip => k_is)
-- level of the law: 18

