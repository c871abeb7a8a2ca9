import PyProof.Rows.All
import Wide.All
import OpenK.AllK
import Wide.FinOn
import HandS.ForMost
import HandS.Exc
import HandS.TryOnly
import HandS.ExcOwn
import HandS.WordsExc
import HandS.Property
import HandS.TupMul
import HandS.TupAny
import HandS.Style
import HandS.Wide
import HandS.IsInst
import HandS.FStr
import HandS.ExcInit
import HandS.ExcIs
import HandS.OwnEq
import PyProof.NeKinds
import KE.KExcInit
import PyProof.ExcBaseAll.RuntimeError
import PyProof.ExcBaseAll.IndexError
import PyProof.ExcBaseAll.LookupError
import PyProof.ExcBaseAll.OverflowError
import PyProof.ExcBaseAll.ValueError
import HandS.Defaults
import HandS.More
import HandS.Strs
import KE.GoesEnum
import KE.KRevSl
import PyProof.EnumMake
import KE.KExcLine
import PySem.Challenge.RW_pictureframes_k51_running_sizes
set_option Elab.async false
set_option linter.all false
set_option maxRecDepth 100000
set_option maxHeartbeats 1000000
/-! data trees over the abstract heap, and what code yields of them -/
namespace DL
open PySem PySem.Spec PyProof.Rows L2

abbrev Sig := L2.St
inductive D where
  | non | bl (b : Bool) | int (i : Int) | str (x : Str)
  | lst (xs : List D) | tup (xs : List D)
  | dic (ks : List Key) (xs : List D)
  | ins (C : Str) (ns : List Str) (xs : List D)
  /-- a list that is only read; an object of one's own (see OH) -/
  | frz (xs : List D) | loc (a : Addr)
  /-- a class or a def of the module, a built-in type -/
  | cls (C : Str) | ty (n : String)

/-- a list that nobody changes: a locked one, or one of the written part -/
def SqF (K : PySem.W.Frag) (G : Hp) (a : Addr) (xs : List V) : Prop :=
  (∃ o, G a = some (.frz o (.lst xs))) ∨
    ∃ (o : Obj) (its : Array Value) (n : Nat), K.lookup a = some o ∧ o.cls = .type "list" ∧ o.dict = none ∧ o.data = .seq its n ∧ its.size ≤ sizeLine ∧ Vals xs its.toList
theorem SqF.sql {K : PySem.W.Frag} {G : Hp} {a : Addr} {xs : List V} (h : SqF K G a xs) : SqL K G a xs := h.elim (fun q => .inl (.inr q)) .inr
section
variable (K : PySem.W.Frag) (mg : Str → Option Value)
mutual
/-- v stands for the tree d in G -/
inductive Rp (G : Hp) : V → D → Prop
  | non : Rp G .non .non
  | bl (b : Bool) : Rp G (.bl b) (.bl b)
  | int (i : Int) : Rp G (.int i) (.int i)
  | str (x : Str) : Rp G (.str x) (.str x)
  | lst {a : Addr} {vs : List V} {ds : List D} : G a = some (.lst vs) → RpL G vs ds → Rp G (.ref a) (.lst ds)
  | tup {a : Addr} {vs : List V} {ds : List D} : SqT K G a vs → RpL G vs ds → Rp G (.ref a) (.tup ds)
  | dic {a : Addr} {ks : List Key} {vs : List V} {ds : List D} : G a = some (.dK (ks.zip vs)) → ks.length = vs.length → RpL G vs ds → Rp G (.ref a) (.dic ks ds)
  | ins {a c dx : Addr} {C : Str} {ns : List Str} {vs : List V} {ds : List D} : mg C = some (.ref c) → G a = some (.ins c dx (ns.zip vs)) → ns.length = vs.length → RpL G vs ds → Rp G (.ref a) (.ins C ns ds)
  | frz {a : Addr} {vs : List V} {ds : List D} : SqF K G a vs → RpL G vs ds → Rp G (.ref a) (.frz ds)
  | loc (a : Addr) : Rp G (.ref a) (.loc a)
  | cls {C : Str} {c : Addr} : mg C = some (.ref c) → Rp G (.ref c) (.cls C)
  | ty (n : String) : Rp G (.ty n) (.ty n)
inductive RpL (G : Hp) : List V → List D → Prop
  | nil : RpL G [] []
  | cons {v : V} {vs : List V} {d : D} {ds : List D} : Rp G v d → RpL G vs ds → RpL G (v :: vs) (d :: ds)
end
end

section
variable {K : PySem.W.Frag} {mg : Str → Option Value} {G G' : Hp}
theorem sql_mono {a : Addr} {xs : List V} (e : Same G G') (h : SqL K G a xs) : SqL K G' a xs := Same.seq e h
theorem sqf_mono {a : Addr} {xs : List V} (e : Same G G') (h : SqF K G a xs) : SqF K G' a xs := h.elim (fun ⟨o, q⟩ => .inl ⟨o, e _ _ q⟩) .inr
theorem sqt_mono {a : Addr} {xs : List V} (e : Same G G') (h : SqT K G a xs) : SqT K G' a xs := by
  rcases h with (h | ⟨o, h⟩) | h
  · exact Or.inl (Or.inl (e _ _ h))
  · exact Or.inl (Or.inr ⟨o, e _ _ h⟩)
  · exact Or.inr h
mutual
theorem Rp.mono (e : Same G G') : ∀ {v : V} {d : D}, Rp K mg G v d → Rp K mg G' v d
  | _, _, .non => .non
  | _, _, .bl b => .bl b
  | _, _, .int i => .int i
  | _, _, .str x => .str x
  | _, _, .lst h r => .lst (e _ _ h) (RpL.mono e r)
  | _, _, .tup h r => .tup (sqt_mono e h) (RpL.mono e r)
  | _, _, .dic h l r => .dic (e _ _ h) l (RpL.mono e r)
  | _, _, .ins m h l r => .ins m (e _ _ h) l (RpL.mono e r)
  | _, _, .frz h r => .frz (sqf_mono e h) (RpL.mono e r)
  | _, _, .loc a => .loc a
  | _, _, .cls h => .cls h
  | _, _, .ty n => .ty n
theorem RpL.mono (e : Same G G') : ∀ {vs : List V} {ds : List D}, RpL K mg G vs ds → RpL K mg G' vs ds
  | _, _, .nil => .nil
  | _, _, .cons a b => .cons (Rp.mono e a) (RpL.mono e b)
end
theorem RpL.len : ∀ {vs : List V} {ds : List D}, RpL K mg G vs ds → vs.length = ds.length
  | _, _, .nil => rfl
  | _, _, .cons _ r => by rw [List.length_cons, List.length_cons, RpL.len r]
theorem RpL.at : ∀ {vs : List V} {ds : List D} {i : Nat} {d : D}, RpL K mg G vs ds → ds[i]? = some d → ∃ v, vs[i]? = some v ∧ Rp K mg G v d
  | _, _, _, _, .nil, h => by simp at h
  | _, _, 0, _, .cons a _, h => by
    simp at h
    subst h
    exact ⟨_, rfl, a⟩
  | _, _, i + 1, _, .cons _ r, h => by
    obtain ⟨v, e, q⟩ := RpL.at (i := i) r (by simpa using h)
    exact ⟨v, by simpa using e, q⟩
theorem RpL.atV : ∀ {vs : List V} {ds : List D} {i : Nat} {v : V}, RpL K mg G vs ds → vs[i]? = some v → ∃ d, ds[i]? = some d ∧ Rp K mg G v d
  | _, _, _, _, .nil, h => by simp at h
  | _, _, 0, _, .cons a _, h => by
    simp at h
    subst h
    exact ⟨_, rfl, a⟩
  | _, _, i + 1, _, .cons _ r, h => by
    obtain ⟨v, e, q⟩ := RpL.atV (i := i) r (by simpa using h)
    exact ⟨v, by simpa using e, q⟩
theorem RpL.app : ∀ {vs ws : List V} {ds es : List D}, RpL K mg G vs ds → RpL K mg G ws es → RpL K mg G (vs ++ ws) (ds ++ es)
  | _, _, _, _, .nil, s => s
  | _, _, _, _, .cons a r, s => .cons a (RpL.app r s)
theorem RpL.tk : ∀ {vs : List V} {ds : List D} (n : Nat), RpL K mg G vs ds → RpL K mg G (vs.take n) (ds.take n)
  | _, _, 0, _ => .nil
  | _, _, _ + 1, .nil => .nil
  | _, _, n + 1, .cons a r => .cons a (RpL.tk n r)
theorem RpL.dr : ∀ {vs : List V} {ds : List D} (n : Nat), RpL K mg G vs ds → RpL K mg G (vs.drop n) (ds.drop n)
  | _, _, 0, r => r
  | _, _, _ + 1, .nil => .nil
  | _, _, n + 1, .cons _ r => RpL.dr n r
theorem RpL.rev : ∀ {vs : List V} {ds : List D}, RpL K mg G vs ds → RpL K mg G vs.reverse ds.reverse
  | _, _, .nil => .nil
  | _, _, .cons a r => by
    rw [List.reverse_cons, List.reverse_cons]
    exact (RpL.rev r).app (.cons a .nil)
theorem RpL.flat (n : Nat) {vs : List V} {ds : List D} (r : RpL K mg G vs ds) : RpL K mg G (List.replicate n vs).flatten (List.replicate n ds).flatten := by
  induction n with
  | zero => exact .nil
  | succ n ih =>
    rw [List.replicate_succ, List.replicate_succ, List.flatten_cons, List.flatten_cons]
    exact r.app ih
end

/-- fresh objects are laid in both -/
inductive Ext : Hp → Hp → Hp → Hp → Prop
  | refl {G H : Hp} : Ext G H G H
  | step {G H G' H' : Hp} {a : Addr} {o : HO} : Ext G H G' H' → H' a = none → Ext G H (upd G' a o) (upd H' a o)
theorem Ext.trans {G H G1 H1 G2 H2 : Hp} (a : Ext G H G1 H1) (b : Ext G1 H1 G2 H2) : Ext G H G2 H2 := by
  induction b with
  | refl => exact a
  | step _ n ih => exact .step ih n
theorem Ext.one {G H : Hp} {a : Addr} {o : HO} (n : H a = none) : Ext G H (upd G a o) (upd H a o) := .step .refl n
theorem same_new {H : Hp} {a : Addr} {o : HO} (n : H a = none) : Same H (upd H a o) := fun b u e => by
  rw [upd_ne (ne_of_none e n)]
  exact e
theorem same_both {G H : Hp} {a : Addr} {o : HO} (s : Same G H) (n : H a = none) : Same (upd G a o) (upd H a o) := fun b u e => by
  by_cases hb : b = a
  · subst hb
    rw [upd_same] at e ⊢
    exact e
  · rw [upd_ne hb] at e ⊢
    exact s _ _ e
theorem Ext.out {G H G' H' : Hp} (x : Ext G H G' H') (s : Same G H) : Same G G' ∧ Same H H' ∧ Same G' H' := by
  induction x with
  | refl => exact ⟨Same.refl _, Same.refl _, s⟩
  | step x n ih =>
    obtain ⟨a, b, c⟩ := ih
    exact ⟨a.trans (same_new (c.free n)), b.trans (same_new n), same_both c n⟩

/-- what stands around the trees: it is kept where fresh objects are laid -/
class Frm {S : Type} (Φ : S → Hp → Hp → Prop) : Prop where
  same : ∀ {s G H}, Φ s G H → Same G H
  ext : ∀ {s G H a o}, Φ s G H → H a = none → Φ s (upd G a o) (upd H a o)
theorem Frm.exts {S : Type} {Φ : S → Hp → Hp → Prop} [Frm Φ] {s : S} {G H G' H' : Hp} (x : Ext G H G' H') (h : Φ s G H) : Φ s G' H' := by
  induction x with
  | refl => exact h
  | step _ n ih => exact Frm.ext ih n

abbrev Rho := List (Option D)
def RelE (K : PySem.W.Frag) (mg : Str → Option Value) (G : Hp) (σ : Sig) (ρ : Rho) : Prop :=
  σ.length = ρ.length ∧ ∀ (i : Nat) (d : D), ρ[i]? = some (some d) → ∃ v, σ[i]? = some (some v) ∧ Rp K mg G v d
section
variable {K : PySem.W.Frag} {mg : Str → Option Value} {G G' : Hp} {σ : Sig} {ρ : Rho}
theorem RelE.mono (h : RelE K mg G σ ρ) (e : Same G G') : RelE K mg G' σ ρ := ⟨h.1, fun i d q => by
  obtain ⟨v, a, b⟩ := h.2 i d q
  exact ⟨v, a, b.mono e⟩⟩
theorem RelE.set (h : RelE K mg G σ ρ) (i : Nat) {v : V} {d : D} (r : Rp K mg G v d) : RelE K mg G (σ.set i (some v)) (ρ.set i (some d)) := by
  refine ⟨by rw [List.length_set, List.length_set]; exact h.1, fun j e q => ?_⟩
  by_cases hj : i = j
  · subst hj
    have hl : i < ρ.length := by
      have q' := (List.getElem?_eq_some_iff.mp q).1
      rwa [List.length_set] at q'
    rw [List.getElem?_set_self hl] at q
    cases q
    exact ⟨v, List.getElem?_set_self (by rw [h.1]; exact hl), r⟩
  · rw [List.getElem?_set_ne hj] at q ⊢
    exact h.2 j e q
theorem RelE.drop (h : RelE K mg G σ ρ) (i : Nat) (u : Option V) : RelE K mg G (σ.set i u) (ρ.set i none) := by
  refine ⟨by rw [List.length_set, List.length_set]; exact h.1, fun j e q => ?_⟩
  by_cases hj : i = j
  · subst hj
    have hl : i < ρ.length := by
      have q' := (List.getElem?_eq_some_iff.mp q).1
      rwa [List.length_set] at q'
    rw [List.getElem?_set_self hl] at q
    cases q
  · rw [List.getElem?_set_ne hj] at q ⊢
    exact h.2 j e q
end

structure Exn where
  cls : Str
  fs : Option (List Str × List D)
def ExR (K : PySem.W.Frag) (mg : Str → Option Value) (G : Hp) (cls : Value) (d : Option Addr) (x : Exn) : Prop :=
  mg x.cls = some cls ∧ match x.fs with
    | none => d = none
    | some (ns, ds) => ∃ (a : Addr) (vs : List V), d = some a ∧ G a = some (.xd (ns.zip vs)) ∧ ns.length = vs.length ∧ RpL K mg G vs ds
theorem ExR.mono {K : PySem.W.Frag} {mg : Str → Option Value} {G G' : Hp} {cls : Value} {d : Option Addr} {x : Exn} (h : ExR K mg G cls d x) (e : Same G G') : ExR K mg G' cls d x := by
  obtain ⟨c, h⟩ := h
  refine ⟨c, ?_⟩
  cases q : x.fs with
  | none => rw [q] at h; exact h
  | some p =>
    rw [q] at h
    obtain ⟨a, vs, h1, h2, h3, h4⟩ := h
    exact ⟨a, vs, h1, e _ _ h2, h3, h4.mono e⟩

/-! ### readings over trees -/
abbrev ME (S : Type) := Rho → S → (D → S → Prop) → (Exn → S → Prop) → Prop
abbrev MT (S : Type) := Rho → S → (Bool → S → Prop) → (Exn → S → Prop) → Prop
abbrev MA (S : Type) := Rho → S → (List D → S → Prop) → (Exn → S → Prop) → Prop
structure MEnds (S : Type) where
  nx : Rho → S → Prop
  rt : D → S → Prop
  bk : Rho → S → Prop
  ct : Rho → S → Prop
  ex : Exn → Rho → S → Prop
abbrev MS (S : Type) := MEnds S → Rho → S → Prop
/-- what is wished of errors at the slots σ -/
def Wsh {S : Type} (K : PySem.W.Frag) (mg : Str → Option Value) (Φ : S → Hp → Hp → Prop) (W : WX) (G : Hp) (σ : Sig) (R : Exn → S → Prop) : Prop :=
  ∀ (x : Exn) (s : S) (G' H' : Hp) (cls : Value) (d : Option Addr), Same G G' → Φ s G' H' → ExR K mg G' cls d x → R x s → W cls d σ H'
theorem Wsh.mono {S : Type} {K : PySem.W.Frag} {mg : Str → Option Value} {Φ : S → Hp → Hp → Prop} {W : WX} {G G1 : Hp} {σ : Sig} {R : Exn → S → Prop} (h : Wsh K mg Φ W G σ R) (e : Same G G1) : Wsh K mg Φ W G1 σ R :=
  fun x s G' H' cls d q => h x s G' H' cls d (e.trans q)

section
variable {S : Type} (X : Cx) (Φ : S → Hp → Hp → Prop) (W : WX)
structure DE (e : Expr) (te : TE) (m : ME S) : Prop where
  pe : PE X e te
  sem : ∀ (σ : Sig) (ρ : Rho) (s : S) (G H : Hp) (Q : VK) (P : D → S → Prop) (R : Exn → S → Prop), RelE X.K X.mg G σ ρ → Φ s G H → Wsh X.K X.mg Φ W G σ R → m ρ s P R →
    (∀ (d : D) (s' : S) (v : V) (G' H' : Hp), P d s' → Same G G' → Φ s' G' H' → Rp X.K X.mg G' v d → Q v H') → te σ H Q
structure DT (e : Expr) (tt : TT) (m : MT S) : Prop where
  pt : PT X e tt
  sem : ∀ (σ : Sig) (ρ : Rho) (s : S) (G H : Hp) (Q : Bool → Hp → Prop) (P : Bool → S → Prop) (R : Exn → S → Prop), RelE X.K X.mg G σ ρ → Φ s G H → Wsh X.K X.mg Φ W G σ R → m ρ s P R →
    (∀ (b : Bool) (s' : S) (G' H' : Hp), P b s' → Same G G' → Φ s' G' H' → Q b H') → tt σ H Q
structure DW (e : Expr) (tt : TT) (m : MT S) : Prop where
  pw : PW X e tt
  sem : ∀ (σ : Sig) (ρ : Rho) (s : S) (G H : Hp) (Q : Bool → Hp → Prop) (P : Bool → S → Prop) (R : Exn → S → Prop), RelE X.K X.mg G σ ρ → Φ s G H → Wsh X.K X.mg Φ W G σ R → m ρ s P R →
    (∀ (b : Bool) (s' : S) (G' H' : Hp), P b s' → Same G G' → Φ s' G' H' → Q b H') → tt σ H Q
structure DA (es : List Expr) (ta : TA) (m : MA S) : Prop where
  pa : PA X es ta
  sem : ∀ (σ : Sig) (ρ : Rho) (s : S) (G H : Hp) (Q : List V → Hp → Prop) (P : List D → S → Prop) (R : Exn → S → Prop), RelE X.K X.mg G σ ρ → Φ s G H → Wsh X.K X.mg Φ W G σ R → m ρ s P R →
    (∀ (ds : List D) (s' : S) (vs : List V) (G' H' : Hp), P ds s' → Same G G' → Φ s' G' H' → RpL X.K X.mg G' vs ds → Q vs H') → ta σ H Q
/-- the ends of a statement, met -/
structure EndsOk (K : PySem.W.Frag) (mg : Str → Option Value) (G : Hp) (M : MEnds S) (D : Ends) : Prop where
  nx : ∀ (σ : Sig) (ρ : Rho) (s : S) (G' H' : Hp), M.nx ρ s → Same G G' → RelE K mg G' σ ρ → Φ s G' H' → D.nx σ H'
  rt : ∀ (d : DL.D) (s : S) (v : V) (G' H' : Hp), M.rt d s → Same G G' → Φ s G' H' → Rp K mg G' v d → D.rt v H'
  bk : ∀ (σ : Sig) (ρ : Rho) (s : S) (G' H' : Hp), M.bk ρ s → Same G G' → RelE K mg G' σ ρ → Φ s G' H' → D.bk σ H'
  ct : ∀ (σ : Sig) (ρ : Rho) (s : S) (G' H' : Hp), M.ct ρ s → Same G G' → RelE K mg G' σ ρ → Φ s G' H' → D.ct σ H'
  ex : ∀ (x : Exn) (σ : Sig) (ρ : Rho) (s : S) (G' H' : Hp) (cls : Value) (d : Option Addr), M.ex x ρ s → Same G G' → RelE K mg G' σ ρ → Φ s G' H' → ExR K mg G' cls d x → W cls d σ H'
structure DS (st : Stmt) (ts : TS) (m : MS S) : Prop where
  ps : PS X st ts
  sem : ∀ (σ : Sig) (ρ : Rho) (s : S) (G H : Hp) (D : Ends) (M : MEnds S), RelE X.K X.mg G σ ρ → Φ s G H → m M ρ s → EndsOk Φ W X.K X.mg G M D → ts D σ H
structure DSs (st : List Stmt) (ts : TS) (m : MS S) : Prop where
  pss : PSs X st ts
  sem : ∀ (σ : Sig) (ρ : Rho) (s : S) (G H : Hp) (D : Ends) (M : MEnds S), RelE X.K X.mg G σ ρ → Φ s G H → m M ρ s → EndsOk Φ W X.K X.mg G M D → ts D σ H
end
section
variable {S : Type} {Φ : S → Hp → Hp → Prop} {W : WX} {K : PySem.W.Frag} {mg : Str → Option Value} {G G1 : Hp} {M : MEnds S} {D : Ends}
theorem EndsOk.mono (h : EndsOk Φ W K mg G M D) (e : Same G G1) : EndsOk Φ W K mg G1 M D :=
  ⟨fun σ ρ s G' H' a b => h.nx σ ρ s G' H' a (e.trans b), fun d s v G' H' a b => h.rt d s v G' H' a (e.trans b), fun σ ρ s G' H' a b => h.bk σ ρ s G' H' a (e.trans b),
    fun σ ρ s G' H' a b => h.ct σ ρ s G' H' a (e.trans b), fun x σ ρ s G' H' c d a b => h.ex x σ ρ s G' H' c d a (e.trans b)⟩
/-- an expression's wish within a statement -/
theorem EndsOk.wsh {σ : Sig} {ρ : Rho} (h : EndsOk Φ W K mg G M D) (r : RelE K mg G σ ρ) : Wsh K mg Φ W G σ (fun x s => M.ex x ρ s) :=
  fun x s G' H' cls d e f q z => h.ex x σ ρ s G' H' cls d z e (r.mono e) f q
end
end DL

set_option Elab.async false
set_option linter.all false
set_option maxRecDepth 100000
set_option maxHeartbeats 1000000
namespace DL
open PySem PySem.Spec PyProof.Rows L2

section
variable {S : Type} {X : Cx} {Φ : S → Hp → Hp → Prop} {W : WX} [Frm Φ]

/-! names and constants -/
def mVar (i : Nat) : ME S := fun ρ s P _ => ∃ d, ρ[i]? = some (some d) ∧ P d s
def mC (d : D) : ME S := fun _ s P _ => P d s
theorem de_var (i : Nat) {x : Str} {pos : Pos} (hN : X.N[i]? = some x := by rfl) (hv : Vis X.env.scope x := by first | exact Or.inl rfl | exact Or.inr (Or.inl rfl) | exact Or.inr (Or.inr rfl)) (hd : (x == ("__debug__" : Str)) = false := by decide)
    (hcd : (x == ("__classdict__" : Str)) = false := by decide) : DE X Φ W (.Name x pos) (tVar i) (mVar i) :=
  ⟨pe_var hN hv hd hcd, fun σ ρ s G H Q P R hρ hΦ hW ⟨d, e, p⟩ k => by
    obtain ⟨v, hv, r⟩ := hρ.2 i d e
    exact ⟨v, hv, k d s v G H p (Same.refl _) hΦ r⟩⟩
theorem de_int {i j pos} : DE X Φ W (.Constant (.int i) j pos) (tC (.int i)) (mC (.int i)) := ⟨pe_int, fun _ _ s G H _ _ _ _ f _ p k => k _ s _ G H p (Same.refl _) f (.int i)⟩
theorem de_bl {b j pos} : DE X Φ W (.Constant (.bool b) j pos) (tC (.bl b)) (mC (.bl b)) := ⟨pe_bl, fun _ _ s G H _ _ _ _ f _ p k => k _ s _ G H p (Same.refl _) f (.bl b)⟩
theorem de_non {j pos} : DE X Φ W (.Constant .none j pos) (tC .non) (mC .non) := ⟨pe_non, fun _ _ s G H _ _ _ _ f _ p k => k _ s _ G H p (Same.refl _) f .non⟩
theorem de_str {x j pos} : DE X Φ W (.Constant (.str x) j pos) (tC (.str x)) (mC (.str x)) := ⟨pe_str, fun _ _ s G H _ _ _ _ f _ p k => k _ s _ G H p (Same.refl _) f (.str x)⟩
/-- a module's constant: a tree that stands in the written part -/
theorem de_glob {x : Str} {v : V} {u : Value} {d : D} {pos : Pos} (hg : Gl X x) (hm : X.mg x = some u) (r : RelV v u) (hc : ∀ G, Rp X.K X.mg G v d) (hd : (x == ("__debug__" : Str)) = false := by decide) : DE X Φ W (.Name x pos) (tC v) (mC d) :=
  ⟨pe_glob hg hm r hd, fun _ _ s G H _ _ _ _ f _ p k => k _ s _ G H p (Same.refl _) f (hc G)⟩

/-! operators by values -/
abbrev W2 := D → D → (D → Prop) → Prop
/-- r of the layer serves w over trees -/
structure Op2 (X : Cx) (f : Value → Value → Sem Value) (r : R2) (w : W2) : Prop where
  op : OpR X f r
  sem : ∀ (x y : V) (a b : D) (G H : Hp) (Q : VK) (P : D → Prop), Rp X.K X.mg G x a → Rp X.K X.mg G y b → Same G H → w a b P → (∀ (d : D) (v : V) (G' H' : Hp), P d → Ext G H G' H' → Rp X.K X.mg G' v d → Q v H') → r x y H Q
def mBin (w : W2) (ma mb : ME S) : ME S := fun ρ s P R => ma ρ s (fun a s1 => mb ρ s1 (fun b s2 => w a b fun d => P d s2) R) R
theorem bin_sem {te tb : TE} {r : R2} {f : Value → Value → Sem Value} {w : W2} {a b : Expr} {ma mb : ME S} (o : Op2 X f r w) (ha : DE X Φ W a te ma) (hb : DE X Φ W b tb mb) {σ : Sig} {ρ : Rho} {s : S} {G H : Hp} {Q : VK} {P : D → S → Prop} {R : Exn → S → Prop}
    (hρ : RelE X.K X.mg G σ ρ) (f0 : Φ s G H) (hW : Wsh X.K X.mg Φ W G σ R) (h : mBin w ma mb ρ s P R) (k : ∀ (d : D) (s' : S) (v : V) (G' H' : Hp), P d s' → Same G G' → Φ s' G' H' → Rp X.K X.mg G' v d → Q v H') : tOp r te tb σ H Q := by
  refine ha.sem σ ρ s G H _ _ R hρ f0 hW h fun x s1 u G1 H1 h1 e1 f1 r1 => ?_
  refine hb.sem σ ρ s1 G1 H1 _ _ R (hρ.mono e1) f1 (hW.mono e1) h1 fun y s2 v G2 H2 h2 e2 f2 r2 => ?_
  refine o.sem u v x y G2 H2 _ _ (r1.mono e2) r2 (Frm.same f2) h2 fun d z G3 H3 p x3 r3 => ?_
  exact k d s2 z G3 H3 p ((e1.trans e2).trans (x3.out (Frm.same f2)).1) (Frm.exts x3 f2) r3
theorem de_bin {op : Operator} {te tb : TE} {r : R2} {w : W2} {a b : Expr} {ma mb : ME S} {pos : Pos} (o : Op2 X (binaryOp op) r w) (ha : DE X Φ W a te ma) (hb : DE X Φ W b tb mb) : DE X Φ W (.BinOp a op b pos) (tOp r te tb) (mBin w ma mb) :=
  ⟨pe_op o.op ha.pe hb.pe, fun _ _ _ _ _ _ _ _ hρ f hW h k => bin_sem o ha hb hρ f hW h k⟩
theorem de_cmp {op : CmpOp} {te tb : TE} {r : R2} {w : W2} {a b : Expr} {ma mb : ME S} {pos : Pos} (o : Op2 X (compareOp op) r w) (ha : DE X Φ W a te ma) (hb : DE X Φ W b tb mb) (hm : behindInMarks op b = false := by first | exact nomark _ | rfl) : DE X Φ W (.Compare a [op] [b] pos) (tOp r te tb) (mBin w ma mb) :=
  ⟨pe_cmpR o.op ha.pe hb.pe hm, fun _ _ _ _ _ _ _ _ hρ f hW h k => bin_sem o ha hb hρ f hW h k⟩
/-- a value that is a bool, as a test -/
def mTest (m : ME S) : MT S := fun ρ s P R => m ρ s (fun d s' => ∃ b, d = .bl b ∧ P b s') R
theorem rp_bl {K : PySem.W.Frag} {mg : Str → Option Value} {G : Hp} {v : V} {b : Bool} (r : Rp K mg G v (.bl b)) : v = .bl b := by cases r; rfl
theorem rp_int {K : PySem.W.Frag} {mg : Str → Option Value} {G : Hp} {v : V} {b : Int} (r : Rp K mg G v (.int b)) : v = .int b := by cases r; rfl
theorem rp_str {K : PySem.W.Frag} {mg : Str → Option Value} {G : Hp} {v : V} {b : Str} (r : Rp K mg G v (.str b)) : v = .str b := by cases r; rfl
theorem dt_cmp {op : CmpOp} {te tb : TE} {r : R2} {w : W2} {a b : Expr} {ma mb : ME S} {pos : Pos} (o : Op2 X (compareOp op) r w) (ha : DE X Φ W a te ma) (hb : DE X Φ W b tb mb) (hm : behindInMarks op b = false := by first | exact nomark _ | rfl) : DT X Φ W (.Compare a [op] [b] pos) (tTest (tOp r te tb)) (mTest (mBin w ma mb)) :=
  ⟨pt_cmpR o.op ha.pe hb.pe hm, fun _ _ _ _ _ _ _ _ hρ f hW h k => bin_sem o ha hb hρ f hW h fun d s' v G' H' ⟨c, e, p⟩ q1 q2 q3 => by
    subst e
    exact ⟨c, rp_bl q3, k c s' G' H' p q1 q2⟩⟩
theorem dt_val {e : Expr} {te : TE} {m : ME S} (h : DE X Φ W e te m) (he : ∀ whole, isTrue e X.env whole = (do let v ← whole; standAt e.pos; holding [v] (truthy v)) := by intro _; rfl) : DT X Φ W e (tB te) (mTest m) :=
  ⟨pt_val h.pe he, fun σ ρ s G H _ _ R hρ f hW hm k => h.sem σ ρ s G H _ _ R hρ f hW hm fun d s' v G' H' ⟨c, e, p⟩ q1 q2 q3 => by
    subst e
    exact ⟨c, rp_bl q3, k c s' G' H' p q1 q2⟩⟩
/-! and, or, not as tests -/
def mAnd (t u : MT S) : MT S := fun ρ s P R => t ρ s (fun c s1 => if c = true then u ρ s1 P R else P false s1) R
def mOr (t u : MT S) : MT S := fun ρ s P R => t ρ s (fun c s1 => if c = true then P true s1 else u ρ s1 P R) R
def mNot (t : MT S) : MT S := fun ρ s P R => t ρ s (fun c s1 => P (!c) s1) R
section
variable {a b : Expr} {rest : List Expr} {ta tb : TT} {ma mb : MT S} {pos : Pos}
theorem dw_and1 (h : DT X Φ W a ta ma) : DW X Φ W (.BoolOp .And [a] pos) ta ma := ⟨pw_and1 h.pt, h.sem⟩
theorem dw_or1 (h : DT X Φ W a ta ma) : DW X Φ W (.BoolOp .Or [a] pos) ta ma := ⟨pw_or1 h.pt, h.sem⟩
theorem dw_and (h : DT X Φ W a ta ma) (h' : DW X Φ W (.BoolOp .And (b :: rest) pos) tb mb) : DW X Φ W (.BoolOp .And (a :: b :: rest) pos) (tAnd ta tb) (mAnd ma mb) :=
  ⟨pw_and h.pt h'.pw, fun σ ρ s G H Q P R hρ f hW hm k => h.sem σ ρ s G H _ _ R hρ f hW hm fun c s1 G1 H1 h1 e1 f1 => by
    cases c with
    | true =>
      simp only [if_true] at h1 ⊢
      exact h'.sem σ ρ s1 G1 H1 Q P R (hρ.mono e1) f1 (hW.mono e1) h1 fun b s' G' H' p q => k b s' G' H' p (e1.trans q)
    | false =>
      simp only [Bool.false_eq_true, if_false] at h1 ⊢
      exact k _ s1 G1 H1 h1 e1 f1⟩
theorem dw_or (h : DT X Φ W a ta ma) (h' : DW X Φ W (.BoolOp .Or (b :: rest) pos) tb mb) : DW X Φ W (.BoolOp .Or (a :: b :: rest) pos) (tOr ta tb) (mOr ma mb) :=
  ⟨pw_or h.pt h'.pw, fun σ ρ s G H Q P R hρ f hW hm k => h.sem σ ρ s G H _ _ R hρ f hW hm fun c s1 G1 H1 h1 e1 f1 => by
    cases c with
    | true =>
      simp only [if_true] at h1 ⊢
      exact k _ s1 G1 H1 h1 e1 f1
    | false =>
      simp only [Bool.false_eq_true, if_false] at h1 ⊢
      exact h'.sem σ ρ s1 G1 H1 Q P R (hρ.mono e1) f1 (hW.mono e1) h1 fun b s' G' H' p q => k b s' G' H' p (e1.trans q)⟩
theorem DW.dt {e : Expr} (h : DW X Φ W e ta ma) : DT X Φ W e ta ma := ⟨h.pw.pt, h.sem⟩
theorem dt_not (h : DT X Φ W a ta ma) : DT X Φ W (.UnaryOp .Not a pos) (tNot ta) (mNot ma) :=
  ⟨pt_not h.pt, fun σ ρ s G H _ _ R hρ f hW hm k => h.sem σ ρ s G H _ _ R hρ f hW hm fun c s1 G1 H1 h1 e1 f1 => k _ s1 G1 H1 h1 e1 f1⟩
end
/-! .. as values -/
def mAndV (m n : ME S) : ME S := fun ρ s P R => m ρ s (fun d s1 => ∃ c, d = .bl c ∧ if c = true then n ρ s1 P R else P (.bl false) s1) R
def mOrV (m n : ME S) : ME S := fun ρ s P R => m ρ s (fun d s1 => ∃ c, d = .bl c ∧ if c = true then P (.bl true) s1 else n ρ s1 P R) R
def mNotV (m : ME S) : ME S := fun ρ s P R => m ρ s (fun d s1 => ∃ c, d = .bl c ∧ P (.bl (!c)) s1) R
section
variable {a b : Expr} {rest : List Expr} {ta tb : TE} {ma mb : ME S} {pos : Pos}
theorem de_one {op} (h : DE X Φ W a ta ma) : DE X Φ W (.BoolOp op [a] pos) ta ma := ⟨pe_one h.pe, h.sem⟩
theorem de_and (h : DE X Φ W a ta ma) (h' : DE X Φ W (.BoolOp .And (b :: rest) pos) tb mb) : DE X Φ W (.BoolOp .And (a :: b :: rest) pos) (tAndV ta tb) (mAndV ma mb) :=
  ⟨pe_and h.pe h'.pe, fun σ ρ s G H Q P R hρ f hW hm k => h.sem σ ρ s G H _ _ R hρ f hW hm fun d s1 v G1 H1 ⟨c, ed, h1⟩ e1 f1 r1 => by
    subst ed
    refine ⟨c, rp_bl r1, ?_⟩
    cases c with
    | true =>
      simp only [if_true] at h1 ⊢
      exact h'.sem σ ρ s1 G1 H1 Q P R (hρ.mono e1) f1 (hW.mono e1) h1 fun b s' v G' H' p q => k b s' v G' H' p (e1.trans q)
    | false =>
      simp only [Bool.false_eq_true, if_false] at h1 ⊢
      exact k _ s1 _ G1 H1 h1 e1 f1 (.bl false)⟩
theorem de_or (h : DE X Φ W a ta ma) (h' : DE X Φ W (.BoolOp .Or (b :: rest) pos) tb mb) : DE X Φ W (.BoolOp .Or (a :: b :: rest) pos) (tOrV ta tb) (mOrV ma mb) :=
  ⟨pe_or h.pe h'.pe, fun σ ρ s G H Q P R hρ f hW hm k => h.sem σ ρ s G H _ _ R hρ f hW hm fun d s1 v G1 H1 ⟨c, ed, h1⟩ e1 f1 r1 => by
    subst ed
    refine ⟨c, rp_bl r1, ?_⟩
    cases c with
    | true =>
      simp only [if_true] at h1 ⊢
      exact k _ s1 _ G1 H1 h1 e1 f1 (.bl true)
    | false =>
      simp only [Bool.false_eq_true, if_false] at h1 ⊢
      exact h'.sem σ ρ s1 G1 H1 Q P R (hρ.mono e1) f1 (hW.mono e1) h1 fun b s' v G' H' p q => k b s' v G' H' p (e1.trans q)⟩
theorem de_not (h : DE X Φ W a ta ma) : DE X Φ W (.UnaryOp .Not a pos) (tNotV ta) (mNotV ma) :=
  ⟨pe_not h.pe, fun σ ρ s G H Q P R hρ f hW hm k => h.sem σ ρ s G H _ _ R hρ f hW hm fun d s1 v G1 H1 ⟨c, ed, h1⟩ e1 f1 r1 => by
    subst ed
    exact ⟨c, rp_bl r1, k _ s1 _ G1 H1 h1 e1 f1 (.bl _)⟩⟩
def mIf (t : MT S) (m n : ME S) : ME S := fun ρ s P R => t ρ s (fun c s1 => if c = true then m ρ s1 P R else n ρ s1 P R) R
theorem de_if {c : Expr} {tc : TT} {mc : MT S} (hc : DT X Φ W c tc mc) (h : DE X Φ W a ta ma) (h' : DE X Φ W b tb mb) : DE X Φ W (.IfExp c a b pos) (tIf tc ta tb) (mIf mc ma mb) :=
  ⟨pe_ifExp hc.pt h.pe h'.pe, fun σ ρ s G H Q P R hρ f hW hm k => hc.sem σ ρ s G H _ _ R hρ f hW hm fun c s1 G1 H1 h1 e1 f1 => by
    cases c with
    | true =>
      simp only [if_true] at h1 ⊢
      exact h.sem σ ρ s1 G1 H1 Q P R (hρ.mono e1) f1 (hW.mono e1) h1 fun b s' v G' H' p q => k b s' v G' H' p (e1.trans q)
    | false =>
      simp only [Bool.false_eq_true, if_false] at h1 ⊢
      exact h'.sem σ ρ s1 G1 H1 Q P R (hρ.mono e1) f1 (hW.mono e1) h1 fun b s' v G' H' p q => k b s' v G' H' p (e1.trans q)⟩
end
/-! lists of arguments, displays -/
def mNil : MA S := fun _ s P _ => P [] s
def mCons (m : ME S) (n : MA S) : MA S := fun ρ s P R => m ρ s (fun d s1 => n ρ s1 (fun ds s2 => P (d :: ds) s2) R) R
section
variable {e : Expr} {es : List Expr} {te : TE} {ta : TA} {m : ME S} {n : MA S} {pos : Pos}
theorem da_nil : DA X Φ W [] tNil (mNil : MA S) := ⟨pa_nil, fun _ _ s G H _ _ _ _ f _ p k => k _ s _ G H p (Same.refl _) f .nil⟩
theorem da_cons (h : DE X Φ W e te m) (h' : DA X Φ W es ta n) (hs : starEach (e :: es) X.env = (false, eval e X.env) :: starEach es X.env := by rfl) : DA X Φ W (e :: es) (tCons te ta) (mCons m n) :=
  ⟨pa_cons h.pe h'.pa hs, fun σ ρ s G H Q P R hρ f hW hm k => h.sem σ ρ s G H _ _ R hρ f hW hm fun d s1 v G1 H1 h1 e1 f1 r1 =>
    h'.sem σ ρ s1 G1 H1 _ _ R (hρ.mono e1) f1 (hW.mono e1) h1 fun ds s2 vs G2 H2 h2 e2 f2 r2 => k _ s2 _ G2 H2 h2 (e1.trans e2) f2 (.cons (r1.mono e2) r2)⟩
def mLst (n : MA S) : ME S := fun ρ s P R => n ρ s (fun ds s1 => ds.length ≤ sizeLine ∧ P (.lst ds) s1) R
def mTup (n : MA S) : ME S := fun ρ s P R => n ρ s (fun ds s1 => ds.length ≤ sizeLine ∧ P (.tup ds) s1) R
theorem de_lst (h : DA X Φ W es ta n) : DE X Φ W (.List es pos) (tLst ta) (mLst n) :=
  ⟨pe_lst h.pa, fun σ ρ s G H Q P R hρ f hW hm k => h.sem σ ρ s G H _ _ R hρ f hW hm fun ds s1 vs G1 H1 ⟨hl, h1⟩ e1 f1 r1 =>
    ⟨by rw [r1.len]; exact hl, fun p np => k _ s1 _ _ _ h1 (e1.trans (same_new ((Frm.same f1).free np))) (Frm.ext f1 np) (.lst upd_same (r1.mono (same_new ((Frm.same f1).free np))))⟩⟩
theorem de_tup {x1} (h : DA X Φ W es ta n) : DE X Φ W (.Tuple es x1 pos) (tTup ta) (mTup n) :=
  ⟨pe_tup h.pa, fun σ ρ s G H Q P R hρ f hW hm k => h.sem σ ρ s G H _ _ R hρ f hW hm fun ds s1 vs G1 H1 ⟨hl, h1⟩ e1 f1 r1 =>
    ⟨by rw [r1.len]; exact hl, fun p np => k _ s1 _ _ _ h1 (e1.trans (same_new ((Frm.same f1).free np))) (Frm.ext f1 np) (.tup (SqT.of upd_same) (r1.mono (same_new ((Frm.same f1).free np))))⟩⟩
end
/-! built-ins called -/
abbrev WL := List D → (D → Prop) → Prop
structure Fn1 (X : Cx) (f : Value) (r : List V → Hp → VK → Prop) (w : WL) : Prop where
  cr : CallR X f r
  sem : ∀ (vs : List V) (ds : List D) (G H : Hp) (Q : VK) (P : D → Prop), RpL X.K X.mg G vs ds → Same G H → w ds P → (∀ (d : D) (v : V) (G' H' : Hp), P d → Ext G H G' H' → Rp X.K X.mg G' v d → Q v H') → r vs H Q
def mFn (w : WL) (n : MA S) : ME S := fun ρ s P R => n ρ s (fun ds s1 => w ds fun d => P d s1) R
section
variable {x : Str} {p pos : Pos} {e : Expr} {es : List Expr} {ta : TA} {n : MA S} {id T : String} {r : List V → Hp → VK → Prop} {w : WL}
theorem de_callB (c : Fn1 X (.builtin id) r w) (hg : Gl X x) (hm : X.mg x = none) (hv : bootBuiltins x = some (.builtin id)) (ha : DA X Φ W (e :: es) ta n) (hn : x ≠ "__name__" := by decide) (hdb : (x == ("__debug__" : Str)) = false := by decide)
    (he : starEach (e :: es) X.env = (false, eval e X.env) :: starEach es X.env := by rfl) (hpl : (backTo pos (starEach es X.env)).any (·.1) = false := by rfl) : DE X Φ W (.Call (.Name x p) (e :: es) [] pos) (tCB r ta) (mFn w n) :=
  ⟨pe_callB c.cr hg hm hv ha.pa hn hdb he hpl, fun σ ρ s G H Q P R hρ f hW h k => ha.sem σ ρ s G H _ _ R hρ f hW h fun ds s1 vs G1 H1 h1 e1 f1 r1 =>
    c.sem vs ds G1 H1 _ _ r1 (Frm.same f1) h1 fun d v G2 H2 p x2 r2 => k d s1 v G2 H2 p (e1.trans (x2.out (Frm.same f1)).1) (Frm.exts x2 f1) r2⟩
theorem de_callTy (c : Fn1 X (.type T) r w) (hg : Gl X x) (hm : X.mg x = none) (hv : bootBuiltins x = some (.type T)) (ha : DA X Φ W (e :: es) ta n) (hn : x ≠ "__name__" := by decide) (hdb : (x == ("__debug__" : Str)) = false := by decide)
    (he : starEach (e :: es) X.env = (false, eval e X.env) :: starEach es X.env := by rfl) (hpl : (backTo pos (starEach es X.env)).any (·.1) = false := by rfl) : DE X Φ W (.Call (.Name x p) (e :: es) [] pos) (tCB r ta) (mFn w n) :=
  ⟨pe_callTy c.cr hg hm hv ha.pa hn hdb he hpl, fun σ ρ s G H Q P R hρ f hW h k => ha.sem σ ρ s G H _ _ R hρ f hW h fun ds s1 vs G1 H1 h1 e1 f1 r1 =>
    c.sem vs ds G1 H1 _ _ r1 (Frm.same f1) h1 fun d v G2 H2 p x2 r2 => k d s1 v G2 H2 p (e1.trans (x2.out (Frm.same f1)).1) (Frm.exts x2 f1) r2⟩
end
end
end DL

set_option Elab.async false
set_option linter.all false
set_option maxRecDepth 100000
set_option maxHeartbeats 1000000
namespace DL
open PySem PySem.Spec PyProof.Rows L2

section
variable {S : Type} {X : Cx} {Φ : S → Hp → Hp → Prop} {W : WX} [Frm Φ]
/-! ### statements -/
def sNil : MS S := fun M ρ s => M.nx ρ s
def sSeq (t u : MS S) : MS S := fun M ρ s => t { M with nx := u M } ρ s
section
variable {st : Stmt} {rest : List Stmt} {ts us : TS} {m n : MS S} {pos : Pos}
theorem dss_nil : DSs X Φ W [] tNext (sNil : MS S) := ⟨pss_nil, fun σ ρ s G H D M hρ f h E => E.nx σ ρ s G H h (Same.refl _) hρ f⟩
theorem dss_one (h : DS X Φ W st ts m) : DSs X Φ W [st] ts m := ⟨pss_one h.ps, h.sem⟩
theorem dss_cons (h : DS X Φ W st ts m) (h' : DSs X Φ W rest us n) : DSs X Φ W (st :: rest) (tSeq ts us) (sSeq m n) :=
  ⟨pss_cons h.ps h'.pss, fun σ ρ s G H D M hρ f hm E => h.sem σ ρ s G H { D with nx := us D } { M with nx := n M } hρ f hm
    ⟨fun σ' ρ' s' G' H' p e r f' => h'.sem σ' ρ' s' G' H' D M r f' p (E.mono e), E.rt, E.bk, E.ct, E.ex⟩⟩
theorem ds_pass : DS X Φ W (.Pass pos) tNext (sNil : MS S) := ⟨ps_pass, fun σ ρ s G H D M hρ f h E => E.nx σ ρ s G H h (Same.refl _) hρ f⟩
def sBrk : MS S := fun M ρ s => M.bk ρ s
def sCt : MS S := fun M ρ s => M.ct ρ s
theorem ds_break : DS X Φ W (.Break pos) tBreak (sBrk : MS S) := ⟨ps_break, fun σ ρ s G H D M hρ f h E => E.bk σ ρ s G H h (Same.refl _) hρ f⟩
theorem ds_continue : DS X Φ W (.Continue pos) tCont (sCt : MS S) := ⟨ps_continue, fun σ ρ s G H D M hρ f h E => E.ct σ ρ s G H h (Same.refl _) hρ f⟩
theorem ds_doc {x j pos pos'} : DS X Φ W (.Expr (.Constant (.str x) j pos) pos') tNext (sNil : MS S) := ⟨ps_doc, fun σ ρ s G H D M hρ f h E => E.nx σ ρ s G H h (Same.refl _) hρ f⟩
end
section
variable {e : Expr} {te : TE} {m : ME S} {pos : Pos}
def sDrop (m : ME S) : MS S := fun M ρ s => m ρ s (fun _ s1 => M.nx ρ s1) (fun x s1 => M.ex x ρ s1)
theorem ds_expr (h : DE X Φ W e te m) (hs : swapsWith e none pos.line X.env = pure false := by rfl) : DS X Φ W (.Expr e pos) (tDrop te) (sDrop m) :=
  ⟨ps_expr h.pe hs, fun σ ρ s G H D M hρ f hm E => h.sem σ ρ s G H _ _ _ hρ f (E.wsh hρ) hm fun d s1 v G1 H1 p e1 f1 _ => E.nx σ ρ s1 G1 H1 p e1 (hρ.mono e1) f1⟩
def sRet (m : ME S) : MS S := fun M ρ s => m ρ s M.rt (fun x s1 => M.ex x ρ s1)
theorem ds_ret (h : DE X Φ W e te m) : DS X Φ W (.Return (some e) pos) (tRet te) (sRet m) :=
  ⟨ps_ret h.pe, fun σ ρ s G H D M hρ f hm E => h.sem σ ρ s G H _ _ _ hρ f (E.wsh hρ) hm fun d s1 v G1 H1 p e1 f1 r1 => E.rt d s1 v G1 H1 p e1 f1 r1⟩
def sRetN : MS S := fun M _ s => M.rt .non s
theorem ds_retN : DS X Φ W (.Return none pos) tRetN (sRetN : MS S) := ⟨ps_retN, fun σ ρ s G H D M hρ f h E => E.rt .non s .non G H h (Same.refl _) f .non⟩
def sSet (i : Nat) (m : ME S) : MS S := fun M ρ s => m ρ s (fun d s1 => M.nx (ρ.set i (some d)) s1) (fun x s1 => M.ex x ρ s1)
theorem ds_set {i : Nat} {x : Str} {pos' : Pos} (hN : X.N.Nodup) (hi : X.N[i]? = some x) (hx : Loc X.env.scope x) (h : DE X Φ W e te m) (hs : swapsWith e (some (.Name x pos')) pos.line X.env = pure false := by rfl) (hf : X.fn x = true ∨ X.env.scope.names.lookup x = some .local := by first | exact .inl rfl | exact .inr rfl | assumption) :
    DS X Φ W (.Assign [.Name x pos'] e pos) (tAsg te (gName i)) (sSet i m) :=
  ⟨ps_set hN hi hx h.pe hs hf, fun σ ρ s G H D M hρ f hm E => h.sem σ ρ s G H _ _ _ hρ f (E.wsh hρ) hm fun d s1 v G1 H1 p e1 f1 r1 => E.nx _ _ s1 G1 H1 p e1 ((hρ.mono e1).set i r1) f1⟩
end
def sIf (t : MT S) (m n : MS S) : MS S := fun M ρ s => t ρ s (fun c s1 => if c = true then m M ρ s1 else n M ρ s1) (fun x s1 => M.ex x ρ s1)
theorem ds_if {c : Expr} {a b : List Stmt} {tc : TT} {ts us : TS} {mc : MT S} {m n : MS S} {pos : Pos} (hc : DT X Φ W c tc mc) (ha : DSs X Φ W a ts m) (hb : DSs X Φ W b us n) : DS X Φ W (.If c a b pos) (tIfS tc ts us) (sIf mc m n) :=
  ⟨ps_if hc.pt ha.pss hb.pss, fun σ ρ s G H D M hρ f hm E => hc.sem σ ρ s G H _ _ _ hρ f (E.wsh hρ) hm fun c s1 G1 H1 h1 e1 f1 => by
    cases c with
    | true =>
      simp only [if_true] at h1 ⊢
      exact ha.sem σ ρ s1 G1 H1 D M (hρ.mono e1) f1 h1 (E.mono e1)
    | false =>
      simp only [Bool.false_eq_true, if_false] at h1 ⊢
      exact hb.sem σ ρ s1 G1 H1 D M (hρ.mono e1) f1 h1 (E.mono e1)⟩
/-! two names at once, x, y = a, b -/
def sPar (i j : Nat) (n : MA S) : MS S := fun M ρ s => n ρ s (fun ds s1 => ∃ a b, ds = [a, b] ∧ M.nx ((ρ.set i (some a)).set j (some b)) s1) (fun x s1 => M.ex x ρ s1)
theorem ds_par {i j : Nat} {x y : Str} {a b : Expr} {ta : TA} {n : MA S} {px py pt pos : Pos} {kt k2 pt2} (hc : X.calm = true) (hN : X.N.Nodup) (hi : X.N[i]? = some x) (hj : X.N[j]? = some y) (hij : i ≠ j)
    (hx : X.env.scope.names.lookup x = some .local) (hy : X.env.scope.names.lookup y = some .local) (ha : DA X Φ W [a, b] ta n)
    (hw : swappedStores [.Tuple [.Name x px, .Name y py] kt pt] (.Tuple [a, b] k2 pt2) X.env = pure (some [x, y]) := by rfl)
    (hs : swapsWithSole [.Tuple [.Name x px, .Name y py] kt pt] (.Tuple [a, b] k2 pt2) pos.line X.env = pure false := by rfl) :
    DS X Φ W (.Assign [.Tuple [.Name x px, .Name y py] kt pt] (.Tuple [a, b] k2 pt2) pos) (tPar i j ta) (sPar i j n) :=
  ⟨ps_par hc hN hi hj hij hx hy ha.pa hw hs, fun σ ρ s G H D M hρ f hm E => ha.sem σ ρ s G H _ _ _ hρ f (E.wsh hρ) hm fun ds s1 vs G1 H1 ⟨a, b, ed, p⟩ e1 f1 r1 => by
    subst ed
    cases r1 with
    | cons ra r1 =>
      cases r1 with
      | cons rb r1 =>
        cases r1
        exact ⟨_, _, rfl, E.nx _ _ s1 G1 H1 p e1 (((hρ.mono e1).set i ra).set j rb) f1⟩⟩

/-! ### targets -/
abbrev MG (S : Type) := D → Rho → S → (Rho → S → Prop) → Prop
abbrev MGs (S : Type) := List D → Rho → S → (Rho → S → Prop) → Prop
structure DG (X : Cx) (Φ : S → Hp → Hp → Prop) (tg : Expr) (g : TG) (m : MG S) (il : List Nat) : Prop where
  pg : PG X tg g
  sem : ∀ (σ : Sig) (ρ : Rho) (s : S) (G H : Hp) (v : V) (d : D) (Q : Sig → Hp → Prop) (P : Rho → S → Prop), RelE X.K X.mg G σ ρ → Φ s G H → Rp X.K X.mg G v d → m d ρ s P →
    (∀ (σ' : Sig) (ρ' : Rho) (s' : S) (G' H' : Hp), P ρ' s' → Same G G' → RelE X.K X.mg G' σ' ρ' → Φ s' G' H' → (∀ vs : List Nat, (∀ i ∈ il, i ∈ vs) → wipe σ' vs = wipe σ vs) → Q σ' H') → g v σ H Q
structure DGs (X : Cx) (Φ : S → Hp → Hp → Prop) (tg : List Expr) (g : TGs) (m : MGs S) (il : List Nat) : Prop where
  pg : PGs X tg g
  sem : ∀ (σ : Sig) (ρ : Rho) (s : S) (G H : Hp) (vs : List V) (ds : List D) (Q : Sig → Hp → Prop) (P : Rho → S → Prop), RelE X.K X.mg G σ ρ → Φ s G H → RpL X.K X.mg G vs ds → m ds ρ s P →
    (∀ (σ' : Sig) (ρ' : Rho) (s' : S) (G' H' : Hp), P ρ' s' → Same G G' → RelE X.K X.mg G' σ' ρ' → Φ s' G' H' → (∀ vs : List Nat, (∀ i ∈ il, i ∈ vs) → wipe σ' vs = wipe σ vs) → Q σ' H') → g vs σ H Q
def gNm (i : Nat) : MG S := fun d ρ s P => P (ρ.set i (some d)) s
theorem wipe_out' {σ : Sig} {u : Option V} {i : Nat} : ∀ {vs : List Nat}, i ∉ vs → wipe (σ.set i u) vs = (wipe σ vs).set i u
  | [], _ => rfl
  | v :: vs, h => by
    unfold wipe
    rw [wipe_out' fun q => h (List.mem_cons_of_mem _ q), List.set_comm _ _ fun q => h (by rw [q]; exact List.mem_cons_self)]
theorem wipe_set {σ : Sig} {u : Option V} {i : Nat} : ∀ {vs : List Nat}, i ∈ vs → wipe (σ.set i u) vs = wipe σ vs
  | v :: vs, h => by
    unfold wipe
    by_cases q : i ∈ vs
    · rw [wipe_set q]
    · have e : i = v := by
        rcases List.mem_cons.mp h with e | e
        · exact e
        · exact absurd e q
      subst e
      rw [wipe_out' q, List.set_set]
theorem dg_name {i : Nat} {x : Str} {pos : Pos} (hN : X.N.Nodup) (hi : X.N[i]? = some x) (hx : Loc X.env.scope x) (hf : X.fn x = true ∨ X.env.scope.names.lookup x = some .local := by first | exact .inl rfl | exact .inr rfl | assumption) : DG X Φ (.Name x pos) (gName i) (gNm i : MG S) [i] :=
  ⟨pg_name hN hi hx hf, fun σ ρ s G H v d Q P hρ f r h k => k _ _ s G H h (Same.refl _) (hρ.set i r) f fun vs hv => wipe_set (hv i (List.mem_singleton.mpr rfl))⟩
def gNl : MGs S := fun ds ρ s P => ds = [] ∧ P ρ s
def gCn (m : MG S) (n : MGs S) : MGs S := fun ds ρ s P => ∃ d es, ds = d :: es ∧ m d ρ s fun ρ' s' => n es ρ' s' P
theorem dgs_nil : DGs X Φ [] gNil (gNl : MGs S) [] := ⟨pgs_nil, fun σ ρ s G H vs ds Q P hρ f r ⟨e, h⟩ k => by
  subst e
  cases r
  exact ⟨rfl, k _ _ s G H h (Same.refl _) hρ f fun _ _ => rfl⟩⟩
theorem dgs_cons {e : Expr} {es : List Expr} {g : TG} {gs : TGs} {m : MG S} {n : MGs S} {il jl : List Nat} (h : DG X Φ e g m il) (h' : DGs X Φ es gs n jl)
    (hs : (assignEach (e :: es) X.env).map (·.2) = assign e X.env :: (assignEach es X.env).map (·.2) := by rfl) : DGs X Φ (e :: es) (gCons g gs) (gCn m n) (il ++ jl) :=
  ⟨pgs_cons h.pg h'.pg hs, fun σ ρ s G H vs ds Q P hρ f r ⟨d, es, e, hm⟩ k => by
    subst e
    cases r with
    | cons r1 r2 => exact ⟨_, _, rfl, h.sem σ ρ s G H _ _ _ _ hρ f r1 hm fun σ1 ρ1 s1 G1 H1 p e1 h1 f1 z1 => h'.sem σ1 ρ1 s1 G1 H1 _ _ _ _ h1 f1 (r2.mono e1) p fun σ2 ρ2 s2 G2 H2 p2 e2 h2 f2 z2 => k σ2 ρ2 s2 G2 H2 p2 (e1.trans e2) h2 f2 fun vs hv => (z2 vs fun i hi => hv i (List.mem_append_right _ hi)).trans (z1 vs fun i hi => hv i (List.mem_append_left _ hi))⟩⟩
def gTp (n : Nat) (m : MGs S) : MG S := fun d ρ s P => ∃ ds, d = .tup ds ∧ ds.length = n ∧ m ds ρ s P
theorem dg_tup {es : List Expr} {k n : Nat} {pos : Pos} {g : TGs} {m : MGs S} {il : List Nat} (hc : X.calm = true) (h : DGs X Φ es g m il)
    (hn : (assignEach es X.env).length = n := by rfl) (hst : (assignEach es X.env).findIdx? (·.1) = none := by rfl) : DG X Φ (.Tuple es k pos) (gTup X.K n g) (gTp n m) il :=
  ⟨pg_tup hc h.pg hn hst, fun σ ρ s G H v d Q P hρ f r ⟨ds, e, hl, hm⟩ k => by
    subst e
    cases r with
    | tup q rl => exact ⟨_, _, rfl, sqt_mono (Frm.same f) q, by rw [rl.len]; exact hl, h.sem σ ρ s G H _ _ _ _ hρ f rl hm k⟩⟩
def sAsg (m : ME S) (g : MG S) : MS S := fun M ρ s => m ρ s (fun d s1 => g d ρ s1 M.nx) (fun x s1 => M.ex x ρ s1)
theorem ds_asg {tg e : Expr} {te : TE} {g : TG} {m : ME S} {mg : MG S} {pos : Pos} {il : List Nat} (h : DE X Φ W e te m) (hg : DG X Φ tg g mg il) (hs : swapsWithSole [tg] e pos.line X.env = pure false := by rfl) (hw : swappedStores [tg] e X.env = pure none := by rfl)
    (h1 : (assignEach [tg] X.env).map (·.2) = [assign tg X.env] := by rfl) : DS X Φ W (.Assign [tg] e pos) (tAsg te g) (sAsg m mg) :=
  ⟨ps_asg h.pe hg.pg hs hw h1, fun σ ρ s G H D M hρ f hm E => h.sem σ ρ s G H _ _ _ hρ f (E.wsh hρ) hm fun d s1 v G1 H1 p e1 f1 r1 =>
    hg.sem σ ρ s1 G1 H1 v d _ _ (hρ.mono e1) f1 r1 p fun σ2 ρ2 s2 G2 H2 p2 e2 r2 f2 _ => E.nx σ2 ρ2 s2 G2 H2 p2 (e1.trans e2) r2 f2⟩

/-! ### what is walked: a list of trees -/
abbrev MI (S : Type) := Rho → S → (List D → S → Prop) → (Exn → S → Prop) → Prop
/-- the turns of J yield the trees ds -/
def Yields (K : PySem.W.Frag) (mg : Str → Option Value) (J : It) (G : Hp) (ds : List D) : Prop :=
  ∀ G' H, Same G G' → Same G' H → (∀ i, i < ds.length → J.go i H) ∧ J.stop ds.length H ∧ ∀ i x H', i < ds.length → J.yld i H x H' → ∃ G2, Ext G' H G2 H' ∧ ∃ d, ds[i]? = some d ∧ Rp K mg G2 x d
structure DI (X : Cx) (Φ : S → Hp → Hp → Prop) (W : WX) (tg iter : Expr) (wi : TI) (m : MI S) : Prop where
  pi : PI X tg iter wi
  sem : ∀ (σ : Sig) (ρ : Rho) (s : S) (G H : Hp) (Q : It → Hp → Prop) (P : List D → S → Prop) (R : Exn → S → Prop), RelE X.K X.mg G σ ρ → Φ s G H → Wsh X.K X.mg Φ W G σ R → m ρ s P R →
    (∀ (ds : List D) (s' : S) (J : It) (G' H' : Hp), P ds s' → Same G G' → Φ s' G' H' → Yields X.K X.mg J G' ds → Q J H') → wi σ H Q
section
variable {K : PySem.W.Frag} {mg : Str → Option Value} {G : Hp}
theorem y_list {a : Addr} {vs : List V} {ds : List D} (h : G a = some (.lst vs)) (r : RpL K mg G vs ds) : Yields K mg (Itl K a) G ds := fun G' H e e' => by
  have hq : SqL K H a vs := SqL.of (e' _ _ (e _ _ h))
  have hl := r.len
  refine ⟨fun i hi => ⟨vs, vs[i]'(by omega), hq, by simp [hl, hi]⟩, ⟨vs, hq, by omega⟩, fun i x H' hi ⟨e1, y⟩ => ?_⟩
  subst e1
  obtain ⟨d, h1, h2⟩ := r.atV (y vs hq)
  exact ⟨G', .refl, d, h1, h2.mono e⟩
theorem y_tup {a : Addr} {vs : List V} {ds : List D} (h : SqT K G a vs) (r : RpL K mg G vs ds) : Yields K mg (Itt K a) G ds := fun G' H e e' => by
  have hq : SqT K H a vs := sqt_mono (e.trans e') h
  have hl := r.len
  refine ⟨fun i hi => ⟨vs, vs[i]'(by omega), hq, by simp [hl, hi]⟩, ⟨vs, hq, by omega⟩, fun i x H' hi ⟨e1, y⟩ => ?_⟩
  subst e1
  obtain ⟨d, h1, h2⟩ := r.atV (y vs hq)
  exact ⟨G', .refl, d, h1, h2.mono e⟩
def rngD (lo : Int) (n : Nat) : List D := (List.range n).map fun (i : Nat) => D.int (lo + i)
theorem y_rng (lo : Int) (n : Nat) : Yields K mg (Itr lo n) G (rngD lo n) := fun G' H e e' => by
  have hl : (rngD lo n).length = n := by simp [rngD]
  rw [hl]
  refine ⟨fun i hi => hi, Nat.le_refl _, fun i x H' hi ⟨e1, y⟩ => ?_⟩
  subst e1 y
  refine ⟨G', .refl, .int (lo + i), ?_, .int _⟩
  unfold rngD
  rw [List.getElem?_map, List.getElem?_range hi]
  rfl
end
end
end DL

set_option Elab.async false
set_option linter.all false
set_option maxRecDepth 100000
set_option maxHeartbeats 1000000
namespace DL
open PySem PySem.Spec PyProof.Rows L2

section
variable {S : Type} {X : Cx} {Φ : S → Hp → Hp → Prop} {W : WX} [Frm Φ]
/-! ### for -/
def wFor (g : MG S) (b : MS S) : List D → MS S
  | [] => fun M ρ s => M.nx ρ s
  | d :: ds => fun M ρ s => g d ρ s fun ρ1 s1 => b { M with nx := wFor g b ds M, ct := wFor g b ds M, bk := M.nx } ρ1 s1
def sFor (mi : MI S) (g : MG S) (b : MS S) : MS S := fun M ρ s => mi ρ s (fun ds s1 => wFor g b ds M ρ s1) (fun x s1 => M.ex x ρ s1)
theorem ds_for {tg iter : Expr} {body : List Stmt} {wi : TI} {gt : TG} {tb : TS} {pos : Pos} {mi : MI S} {g : MG S} {b : MS S} {il : List Nat} (hp : PassesOwn (model X.prog X.w) X.A X.env X.xe) (hc : X.calm = true) (hi : DI X Φ W tg iter wi mi) (hg : DG X Φ tg gt g il) (hb : DSs X Φ W body tb b)
    (hs : ∀ x, foldedSetIterable iter X.env x = pure x := by intro _; rfl) : DS X Φ W (.For tg iter body [] pos) (tFor wi gt tb) (sFor mi g b) := by
  refine ⟨ps_for hp hc hi.pi hg.pg hb.pss hs, fun σ ρ s G H D M hρ f hm E => ?_⟩
  refine hi.sem σ ρ s G H _ _ _ hρ f (E.wsh hρ) hm fun ds s1 J G1 H1 p e1 f1 y => ?_
  refine ⟨fun i m σ H => m = ds.length - i ∧ i ≤ ds.length ∧ ∃ ρ s G', Same G1 G' ∧ RelE X.K X.mg G' σ ρ ∧ Φ s G' H ∧ wFor g b (ds.drop i) M ρ s, ⟨_, rfl, Nat.zero_le _, ρ, s1, G1, Same.refl _, hρ.mono e1, f1, p⟩, ?_⟩
  rintro i m σ2 H2 ⟨rfl, hi', ρ2, s2, G2, e2, r2, f2, q⟩
  obtain ⟨go, st, yl⟩ := y G2 H2 e2 (Frm.same f2)
  by_cases hlt : i < ds.length
  · refine .inr ⟨go i hlt, fun σ' H' => ∃ ρ s G', Same G1 G' ∧ RelE X.K X.mg G' σ' ρ ∧ Φ s G' H' ∧ wFor g b (ds.drop (i + 1)) M ρ s, fun σ' H' h => ⟨ds.length - (i + 1), by omega, rfl, hlt, h⟩, fun x H' hx => ?_⟩
    obtain ⟨G3, x3, d, hd, rd⟩ := yl i x H' hlt hx
    have ed : ds.drop i = d :: ds.drop (i + 1) := by
      rw [List.drop_eq_getElem_cons hlt]
      congr 1
      have := List.getElem?_eq_getElem hlt
      rw [hd] at this
      exact (Option.some.inj this).symm
    rw [ed] at q
    have s23 := (x3.out (Frm.same f2)).1
    have f3 := Frm.exts x3 f2
    refine hg.sem σ2 ρ2 s2 G3 H' x d _ _ (r2.mono s23) f3 rd q fun σ4 ρ4 s4 G4 H4 h4 e4 r4 f4 _ => ?_
    have e14 : Same G1 G4 := (e2.trans s23).trans e4
    refine hb.sem σ4 ρ4 s4 G4 H4 _ _ r4 f4 h4 ⟨fun σ5 ρ5 s5 G5 H5 h5 e5 r5 f5 => ⟨ρ5, s5, G5, e14.trans e5, r5, f5, h5⟩, fun d s5 v G5 H5 h5 e5 f5 r5 => E.rt d s5 v G5 H5 h5 ((e1.trans e14).trans e5) f5 r5,
      fun σ5 ρ5 s5 G5 H5 h5 e5 r5 f5 => E.nx σ5 ρ5 s5 G5 H5 h5 ((e1.trans e14).trans e5) r5 f5, fun σ5 ρ5 s5 G5 H5 h5 e5 r5 f5 => ⟨ρ5, s5, G5, e14.trans e5, r5, f5, h5⟩,
      fun x σ5 ρ5 s5 G5 H5 cls d h5 e5 r5 f5 z => E.ex x σ5 ρ5 s5 G5 H5 cls d h5 ((e1.trans e14).trans e5) r5 f5 z⟩
  · have ei : i = ds.length := by omega
    subst ei
    rw [List.drop_length] at q
    exact .inl ⟨st, E.nx σ2 ρ2 s2 G2 H2 q (e1.trans e2) r2 f2⟩
/-! sources -/
def iLst (m : ME S) : MI S := fun ρ s P R => m ρ s (fun d s1 => ∃ ds, d = .lst ds ∧ P ds s1) R
def iTpl (m : ME S) : MI S := fun ρ s P R => m ρ s (fun d s1 => ∃ ds, d = .tup ds ∧ P ds s1) R
theorem di_list {tg l : Expr} {tl : TE} {m : ME S} (h : DE X Φ W l tl m) : DI X Φ W tg l (iList X.K tl) (iLst m) :=
  ⟨pi_list h.pe, fun σ ρ s G H Q P R hρ f hW hm k => h.sem σ ρ s G H _ _ R hρ f hW hm fun d s1 v G1 H1 ⟨ds, ed, p⟩ e1 f1 r1 => by
    subst ed
    cases r1 with
    | lst q rl => exact ⟨_, rfl, ⟨_, SqL.of (Frm.same f1 _ _ q)⟩, k ds s1 _ G1 H1 p e1 f1 (y_list q rl)⟩⟩
theorem di_tup {tg l : Expr} {tl : TE} {m : ME S} (h : DE X Φ W l tl m) : DI X Φ W tg l (iTup X.K tl) (iTpl m) :=
  ⟨pi_tup h.pe, fun σ ρ s G H Q P R hρ f hW hm k => h.sem σ ρ s G H _ _ R hρ f hW hm fun d s1 v G1 H1 ⟨ds, ed, p⟩ e1 f1 r1 => by
    subst ed
    cases r1 with
    | tup q rl => exact ⟨_, rfl, ⟨_, sqt_mono (Frm.same f1) q⟩, k ds s1 _ G1 H1 p e1 f1 (y_tup q rl)⟩⟩
def iRg1 (n : MA S) : MI S := fun ρ s P R => n ρ s (fun ds s1 => ∃ j : Int, ds = [.int j] ∧ (-(2 ^ 62) ≤ j ∧ j < 2 ^ 62) ∧ P (rngD 0 j.toNat) s1) R
def iRg2 (n : MA S) : MI S := fun ρ s P R => n ρ s (fun ds s1 => ∃ i j : Int, ds = [.int i, .int j] ∧ (-(2 ^ 62) ≤ i ∧ i < 2 ^ 62 ∧ -(2 ^ 62) ≤ j ∧ j < 2 ^ 62) ∧ P (rngD i (j - i).toNat) s1) R
theorem rpl1 {K : PySem.W.Frag} {mg : Str → Option Value} {G : Hp} {vs : List V} {a : D} (r : RpL K mg G vs [a]) : ∃ v, vs = [v] ∧ Rp K mg G v a := by
  cases r with
  | cons ra r =>
    cases r
    exact ⟨_, rfl, ra⟩
theorem rpl2 {K : PySem.W.Frag} {mg : Str → Option Value} {G : Hp} {vs : List V} {a b : D} (r : RpL K mg G vs [a, b]) : ∃ v u, vs = [v, u] ∧ Rp K mg G v a ∧ Rp K mg G u b := by
  cases r with
  | cons ra r =>
    obtain ⟨u, rfl, rb⟩ := rpl1 r
    exact ⟨_, _, rfl, ra, rb⟩
theorem di_range1 {tg a : Expr} {ta : TA} {n : MA S} {p pos : Pos} (hg : Gl X "range") (hm : X.mg "range" = none) (ha : DA X Φ W [a] ta n) (hs : starEach [a] X.env = [(false, eval a X.env)] := by rfl) : DI X Φ W tg (.Call (.Name "range" p) [a] [] pos) (iRng1 ta) (iRg1 n) :=
  ⟨pi_range1 hg hm ha.pa hs, fun σ ρ s G H Q P R hρ f hW h k => ha.sem σ ρ s G H _ _ R hρ f hW h fun ds s1 vs G1 H1 ⟨j, ed, hb, p⟩ e1 f1 r1 => by
    subst ed
    obtain ⟨v, rfl, r⟩ := rpl1 r1
    cases rp_int r
    exact ⟨j, rfl, hb.1, hb.2, k _ s1 _ G1 H1 p e1 f1 (y_rng 0 _)⟩⟩
theorem di_range2 {tg a b : Expr} {ta : TA} {n : MA S} {p pos : Pos} (hg : Gl X "range") (hm : X.mg "range" = none) (ha : DA X Φ W [a, b] ta n) (hs : starEach [a, b] X.env = [(false, eval a X.env), (false, eval b X.env)] := by rfl) (hs2 : starEach [b] X.env = [(false, eval b X.env)] := by rfl) : DI X Φ W tg (.Call (.Name "range" p) [a, b] [] pos) (iRng2 ta) (iRg2 n) :=
  ⟨pi_range2 hg hm ha.pa hs hs2, fun σ ρ s G H Q P R hρ f hW h k => ha.sem σ ρ s G H _ _ R hρ f hW h fun ds s1 vs G1 H1 ⟨i, j, ed, hb, p⟩ e1 f1 r1 => by
    subst ed
    obtain ⟨v, u, rfl, r, q⟩ := rpl2 r1
    cases rp_int r
    cases rp_int q
    exact ⟨i, j, rfl, hb, k _ s1 _ G1 H1 p e1 f1 (y_rng i _)⟩⟩
end

/-! ### objects of one's own: what one name holds, and what is changed -/
inductive DO where
  | lst (ds : List D)
  | dic (ks : List Key) (ds : List D)
  | ins (C : Str) (ns : List Str) (ds : List D)
def DO.tree : DO → D
  | .lst ds => .lst ds
  | .dic ks ds => .dic ks ds
  | .ins C ns ds => .ins C ns ds
inductive RpO (K : PySem.W.Frag) (mg : Str → Option Value) (G : Hp) : HO → DO → Prop
  | lst {vs : List V} {ds : List D} : RpL K mg G vs ds → RpO K mg G (.lst vs) (.lst ds)
  | dic {ks : List Key} {vs : List V} {ds : List D} : ks.length = vs.length → RpL K mg G vs ds → RpO K mg G (.dK (ks.zip vs)) (.dic ks ds)
  | ins {C : Str} {c dx : Addr} {ns : List Str} {vs : List V} {ds : List D} : mg C = some (.ref c) → ns.length = vs.length → RpL K mg G vs ds → RpO K mg G (.ins c dx (ns.zip vs)) (.ins C ns ds)
theorem RpO.mono {K : PySem.W.Frag} {mg : Str → Option Value} {G G' : Hp} {o : HO} {d : DO} (h : RpO K mg G o d) (e : Same G G') : RpO K mg G' o d := by
  cases h with
  | lst r => exact .lst (r.mono e)
  | dic l r => exact .dic l (r.mono e)
  | ins c l r => exact .ins c l (r.mono e)
theorem RpO.rp {K : PySem.W.Frag} {mg : Str → Option Value} {G : Hp} {o : HO} {d : DO} {a : Addr} (h : RpO K mg G o d) (g : G a = some o) : Rp K mg G (.ref a) d.tree := by
  cases h with
  | lst r => exact .lst g r
  | dic l r => exact .dic g l r
  | ins c l r => exact .ins c g l r
abbrev OH := Addr → Option DO
def OH.put (O : OH) (a : Addr) (x : DO) : OH := fun b => if b = a then some x else O b
def OH.del (O : OH) (a : Addr) : OH := fun b => if b = a then none else O b
theorem OH.put_same {O : OH} {a : Addr} {x : DO} : O.put a x a = some x := by unfold OH.put; rw [if_pos rfl]
theorem OH.put_ne {O : OH} {a b : Addr} {x : DO} (h : b ≠ a) : O.put a x b = O b := by unfold OH.put; rw [if_neg h]
theorem OH.del_same {O : OH} {a : Addr} : O.del a a = none := by unfold OH.del; rw [if_pos rfl]
theorem OH.del_ne {O : OH} {a b : Addr} (h : b ≠ a) : O.del a b = O b := by unfold OH.del; rw [if_neg h]
theorem OH.del_put {O : OH} {a : Addr} {x : DO} (h : O a = none) : (O.put a x).del a = O := by
  funext b
  by_cases e : b = a
  · subst e
    rw [OH.del_same, h]
  · rw [OH.del_ne e, OH.put_ne e]
theorem OH.put_put {O : OH} {a : Addr} {x y : DO} : (O.put a x).put a y = O.put a y := by
  funext b
  by_cases e : b = a
  · subst e
    rw [OH.put_same, OH.put_same]
  · rw [OH.put_ne e, OH.put_ne e, OH.put_ne e]
structure Phi (K : PySem.W.Frag) (mg : Str → Option Value) (O : OH) (G H : Hp) : Prop where
  same : Same G H
  own : ∀ a x, O a = some x → G a = none ∧ ∃ o, H a = some o ∧ RpO K mg G o x
instance {K : PySem.W.Frag} {mg : Str → Option Value} : Frm (Phi K mg) where
  same := fun h => h.same
  ext := fun {O G H a o} h n => ⟨same_both h.same n, fun b x e => by
    obtain ⟨h1, u, h2, h3⟩ := h.own b x e
    have nb := ne_of_none h2 n
    exact ⟨by rw [upd_ne nb]; exact h1, u, by rw [upd_ne nb]; exact h2, h3.mono (same_new (h.same.free n))⟩⟩
section
variable {K : PySem.W.Frag} {mg : Str → Option Value} {O : OH} {G H : Hp} {a : Addr} {o : HO} {x y : DO}
/-- a new one -/
theorem Phi.new (h : Phi K mg O G H) (n : H a = none) (r : RpO K mg G o x) : Phi K mg (O.put a x) G (upd H a o) := by
  refine ⟨h.same.trans (same_new n), fun b y e => ?_⟩
  by_cases q : b = a
  · subst q
    rw [OH.put_same] at e
    cases e
    exact ⟨h.same.free n, o, upd_same, r⟩
  · rw [OH.put_ne q] at e
    obtain ⟨h1, u, h2, h3⟩ := h.own b y e
    exact ⟨h1, u, by rw [upd_ne q]; exact h2, h3⟩
/-- .. changed -/
theorem Phi.put (h : Phi K mg O G H) (e : O a = some y) (r : RpO K mg G o x) : Phi K mg (O.put a x) G (upd H a o) := by
  obtain ⟨g0, u, h2, _⟩ := h.own a y e
  refine ⟨fun b u e => ?_, fun b y e => ?_⟩
  · have nb : b ≠ a := fun q => by
      rw [q, g0] at e
      cases e
    rw [upd_ne nb]
    exact h.same _ _ e
  · by_cases q : b = a
    · subst q
      rw [OH.put_same] at e
      cases e
      exact ⟨g0, o, upd_same, r⟩
    · rw [OH.put_ne q] at e
      obtain ⟨h1, u, h2, h3⟩ := h.own b y e
      exact ⟨h1, u, by rw [upd_ne q]; exact h2, h3⟩
/-- .. handed on as a tree: it changes no more -/
theorem Phi.frz (h : Phi K mg O G H) (e : O a = some x) : ∃ G', Same G G' ∧ Phi K mg (O.del a) G' H ∧ Rp K mg G' (.ref a) x.tree := by
  obtain ⟨g0, u, h2, h3⟩ := h.own a x e
  have sg := same_new (o := u) g0
  refine ⟨upd G a u, sg, ⟨fun b v e => ?_, fun b y e => ?_⟩, (h3.mono sg).rp upd_same⟩
  · by_cases q : b = a
    · subst q
      rw [upd_same] at e
      cases e
      exact h2
    · rw [upd_ne q] at e
      exact h.same _ _ e
  · by_cases q : b = a
    · subst q
      rw [OH.del_same] at e
      cases e
    · rw [OH.del_ne q] at e
      obtain ⟨h1, v, h4, h5⟩ := h.own b y e
      exact ⟨by rw [upd_ne q]; exact h1, v, h4, h5.mono sg⟩
/-- .. forgotten -/
theorem Phi.less {O' : OH} (h : Phi K mg O G H) (l : ∀ b x, O' b = some x → O b = some x) : Phi K mg O' G H := ⟨h.same, fun b x e => h.own b x (l b x e)⟩
end
/-- what stands around, one's own objects among it -/
class OFrm (K : PySem.W.Frag) (mg : Str → Option Value) (Φ : OH → Hp → Hp → Prop) : Prop extends Frm Φ where
  own : ∀ {O G H a x}, Φ O G H → O a = some x → G a = none ∧ ∃ o, H a = some o ∧ RpO K mg G o x
  new : ∀ {O G H a o x}, Φ O G H → H a = none → RpO K mg G o x → Φ (O.put a x) G (upd H a o)
  put : ∀ {O G H a o x y}, Φ O G H → O a = some y → RpO K mg G o x → Φ (O.put a x) G (upd H a o)
  frz : ∀ {O G H a x}, Φ O G H → O a = some x → ∃ G', Same G G' ∧ Φ (O.del a) G' H ∧ Rp K mg G' (.ref a) x.tree
  less : ∀ {O O' G H}, Φ O G H → (∀ b x, O' b = some x → O b = some x) → Φ O' G H
instance {K : PySem.W.Frag} {mg : Str → Option Value} : OFrm K mg (Phi K mg) where
  own := fun h o => h.own _ _ o
  new := fun h n r => h.new n r
  put := fun h o r => h.put o r
  frz := fun h o => h.frz o
  less := fun h l => h.less l
def delH (H : Hp) (a : Addr) : Hp := fun b => if b = a then none else H b
theorem delH_same {H : Hp} {a : Addr} : delH H a a = none := by unfold delH; rw [if_pos rfl]
theorem delH_ne {H : Hp} {a b : Addr} (h : b ≠ a) : delH H a b = H b := by unfold delH; rw [if_neg h]
theorem delH_upd {H : Hp} {a b : Addr} {o : HO} (h : b ≠ a) : delH (upd H b o) a = upd (delH H a) b o := by
  funext c
  by_cases e : c = a
  · subst e
    rw [delH_same, upd_ne h.symm, delH_same]
  · rw [delH_ne e]
    by_cases e2 : c = b
    · subst e2
      rw [upd_same, upd_same]
    · rw [upd_ne e2, upd_ne e2, delH_ne e]
theorem delH_self {H : Hp} {a : Addr} {o : HO} : delH (upd H a o) a = delH H a := by
  funext c
  by_cases e : c = a
  · subst e
    rw [delH_same, delH_same]
  · rw [delH_ne e, delH_ne e, upd_ne e]
theorem delH_new {H : Hp} {a : Addr} {o : HO} (n : H a = none) : delH (upd H a o) a = H := by
  rw [delH_self]
  funext c
  by_cases e : c = a
  · subst e
    rw [delH_same, n]
  · rw [delH_ne e]
theorem delH_some {H : Hp} {a b : Addr} {o : HO} (h : delH H a b = some o) : b ≠ a ∧ H b = some o := by
  by_cases e : b = a
  · subst e
    rw [delH_same] at h
    cases h
  · rw [delH_ne e] at h
    exact ⟨e, h⟩
theorem delH_none {H : Hp} {a b : Addr} (h : H b = none) : delH H a b = none := by
  by_cases e : b = a
  · subst e
    exact delH_same
  · rw [delH_ne e]
    exact h
/-- besides, at a stands the list vs: nobody's -/
def Own (Φ : OH → Hp → Hp → Prop) (a : Addr) (vs : List V) : OH → Hp → Hp → Prop := fun O G H => H a = some (.lst vs) ∧ Φ O G (delH H a)
instance {K : PySem.W.Frag} {mg : Str → Option Value} {Φ : OH → Hp → Hp → Prop} [F : OFrm K mg Φ] {a : Addr} {vs : List V} : OFrm K mg (Own Φ a vs) where
  same := fun h b o e => (delH_some (F.same h.2 b o e)).2
  ext := fun {O G H b o} h n => by
    have nb : a ≠ b := ne_of_none h.1 n
    refine ⟨by rw [upd_ne nb]; exact h.1, ?_⟩
    rw [delH_upd nb.symm]
    exact F.ext h.2 (delH_none n)
  own := fun h o => by
    obtain ⟨h1, ws, h2, h3⟩ := F.own h.2 o
    exact ⟨h1, ws, (delH_some h2).2, h3⟩
  new := fun {O G H b o x} h n r => by
    have nb : a ≠ b := ne_of_none h.1 n
    refine ⟨by rw [upd_ne nb]; exact h.1, ?_⟩
    rw [delH_upd nb.symm]
    exact F.new h.2 (delH_none n) r
  put := fun {O G H b u x y} h o r => by
    obtain ⟨h1, us, h2, h3⟩ := F.own h.2 o
    have nb := (delH_some h2).1
    refine ⟨by rw [upd_ne nb.symm]; exact h.1, ?_⟩
    rw [delH_upd nb]
    exact F.put h.2 o r
  frz := fun h o => by
    obtain ⟨G', s, p, r⟩ := F.frz h.2 o
    exact ⟨G', s, ⟨h.1, p⟩, r⟩
  less := fun h l => ⟨h.1, F.less h.2 l⟩
end DL

set_option Elab.async false
set_option linter.all false
set_option maxRecDepth 100000
set_option maxHeartbeats 1000000
namespace DL
open PySem PySem.Spec PyProof.Rows L2

/-! ### comprehensions -/
def wipeD (ρ : Rho) : List Nat → Rho
  | [] => ρ
  | v :: vs => (wipeD ρ vs).set v none
theorem RelE.wipe {K : PySem.W.Frag} {mg : Str → Option Value} {G : Hp} {σ : Sig} {ρ : Rho} (h : RelE K mg G σ ρ) : ∀ vs : List Nat, RelE K mg G (L2.wipe σ vs) (wipeD ρ vs)
  | [] => h
  | v :: vs => (h.wipe vs).drop v none
section
variable {X : Cx} {Φ : OH → Hp → Hp → Prop} {W : WX} [F : OFrm X.K X.mg Φ]
def W0 : WX := fun _ _ _ _ => False
def R0 {S : Type} : Exn → S → Prop := fun _ _ => False
/-- a reading taken as a rule's need: it speaks of no block -/
def cE (K : PySem.W.Frag) (mg : Str → Option Value) (F : Addr → List V → OH → Hp → Hp → Prop) (m : ME OH) : TE := fun σ H Q =>
  ∃ (D : Addr) (vs : List V) (ρ : Rho) (O : OH) (G : Hp) (P : DL.D → OH → Prop) (R : Exn → OH → Prop), RelE K mg G σ ρ ∧ F D vs O G H ∧ Wsh K mg (F D vs) W0 G σ R ∧ m ρ O P R ∧
    ∀ (d : DL.D) (O' : OH) (v : V) (G' H' : Hp), P d O' → Same G G' → F D vs O' G' H' → Rp K mg G' v d → Q v H'
def cT (K : PySem.W.Frag) (mg : Str → Option Value) (F : Addr → List V → OH → Hp → Hp → Prop) (m : MT OH) : TT := fun σ H Q =>
  ∃ (D : Addr) (vs : List V) (ρ : Rho) (O : OH) (G : Hp) (P : Bool → OH → Prop) (R : Exn → OH → Prop), RelE K mg G σ ρ ∧ F D vs O G H ∧ Wsh K mg (F D vs) W0 G σ R ∧ m ρ O P R ∧
    ∀ (b : Bool) (O' : OH) (G' H' : Hp), P b O' → Same G G' → F D vs O' G' H' → Q b H'
structure DTs {S : Type} (X : Cx) (Φ : S → Hp → Hp → Prop) (W : WX) (ifs : List Expr) (tt : TT) (m : MT S) : Prop where
  pts : PTs X ifs tt
  sem : ∀ (σ : Sig) (ρ : Rho) (s : S) (G H : Hp) (Q : Bool → Hp → Prop) (P : Bool → S → Prop) (R : Exn → S → Prop), RelE X.K X.mg G σ ρ → Φ s G H → Wsh X.K X.mg Φ W G σ R → m ρ s P R →
    (∀ (b : Bool) (s' : S) (G' H' : Hp), P b s' → Same G G' → Φ s' G' H' → Q b H') → tt σ H Q
def mYes {S : Type} : MT S := fun _ s P _ => P true s
theorem dts_nil {S : Type} {X : Cx} {Φ : S → Hp → Hp → Prop} {W : WX} : DTs X Φ W [] tYes (mYes : MT S) := ⟨pts_nil, fun σ ρ s G H Q P R hρ f hW h k => k true s G H h (Same.refl _) f⟩
theorem dts_one {S : Type} {X : Cx} {Φ : S → Hp → Hp → Prop} {W : WX} {c : Expr} {t : TT} {m : MT S} (h : DT X Φ W c t m) : DTs X Φ W [c] t m := ⟨pts_one h.pt, h.sem⟩
/-- the list that the turns make -/
def wLc (g : MG OH) (t : MT OH) (m : ME OH) (vs : List Nat) (ρ : Rho) (P : List D → OH → Prop) : List D → List D → OH → Prop
  | [], acc, O => P acc O
  | d :: ds, acc, O => g d (wipeD ρ vs) O fun ρ1 O1 => t ρ1 O1 (fun b O2 => if b = true then m ρ1 O2 (fun y O3 => acc.length < sizeLine ∧ wLc g t m vs ρ P ds (acc ++ [y]) O3) R0 else wLc g t m vs ρ P ds acc O2) R0
def mLc (mi : MI OH) (g : MG OH) (t : MT OH) (m : ME OH) (vs : List Nat) : ME OH := fun ρ O P R => mi ρ O (fun ds O1 => wLc g t m vs ρ (fun acc O2 => P (.lst acc) O2) ds [] O1) R
section
variable {elt tg iter : Expr} {ifs : List Expr} {scope : Scope} {own : List (Str × Nat)} {pos : Pos} {wi : TI} {g : TG} {tt : TT} {te : TE} {mi : MI OH} {mg : MG OH} {mt : MT OH} {me : ME OH} {il : List Nat}
theorem lc_sem (hi : DI X Φ W tg iter wi mi)
    (hg : ∀ (D : Addr) (vs : List V) (s : Shared) (H : Hp) (C : Addr) (cl : List (Str × Addr)) (fp : List Addr), DG (X.blk s H scope (compEnvC scope cl C X.env) fp) (Own Φ D vs) tg g mg il) (hil : ∀ i ∈ il, i ∈ own.map (·.2))
    (ht : ∀ (D : Addr) (vs : List V) (s : Shared) (H : Hp) (C : Addr) (cl : List (Str × Addr)) (fp : List Addr), DTs (X.blk s H scope (compEnvC scope cl C X.env) fp) (Own Φ D vs) W0 ifs tt mt)
    (he : ∀ (D : Addr) (vs : List V) (s : Shared) (H : Hp) (C : Addr) (cl : List (Str × Addr)) (fp : List Addr), DE (X.blk s H scope (compEnvC scope cl C X.env) fp) (Own Φ D vs) W0 elt te me)
    {σ : Sig} {ρ : Rho} {O : OH} {G H : Hp} {Q : VK} {R : Exn → OH → Prop} (hρ : RelE X.K X.mg G σ ρ) (f : Φ O G H) (hW : Wsh X.K X.mg Φ W G σ R) {PP : List D → OH → Prop} (h : mi ρ O (fun ds O1 => wLc mg mt me (own.map (·.2)) ρ PP ds [] O1) R)
    (k : ∀ (acc : List D) (vs : List V) (D : Addr) (s' : OH) (G' H' : Hp), PP acc s' → Same G G' → Own Φ D vs s' G' H' → RpL X.K X.mg G' vs acc → Q (.ref D) H') : tLc wi g tt te (own.map (·.2)) σ H Q := by
  refine hi.sem σ ρ O G H _ _ R hρ f hW h fun ds O1 J G1 H1 p e1 f1 y => ?_
  intro D nD
  refine ⟨fun i m H => m = ds.length - i ∧ i ≤ ds.length ∧ ∃ acc vs O G', Same G1 G' ∧ Own Φ D vs O G' H ∧ RpL X.K X.mg G' vs acc ∧ wLc mg mt me (own.map (·.2)) ρ PP (ds.drop i) acc O,
    ⟨_, rfl, Nat.zero_le _, [], [], O1, G1, Same.refl _, ⟨upd_same, by rw [delH_new nD]; exact f1⟩, .nil, p⟩, ?_⟩
  rintro i m H2 ⟨rfl, hi', acc, vs, O2, G2, e2, f2, racc, q⟩
  obtain ⟨go, st, yl⟩ := y G2 H2 e2 (Frm.same f2)
  by_cases hlt : i < ds.length
  · refine .inr ⟨go i hlt, fun H => ∃ acc vs O G', Same G1 G' ∧ Own Φ D vs O G' H ∧ RpL X.K X.mg G' vs acc ∧ wLc mg mt me (own.map (·.2)) ρ PP (ds.drop (i + 1)) acc O,
      fun H' h => ⟨ds.length - (i + 1), by omega, rfl, hlt, h⟩, fun x H' hx => ?_⟩
    obtain ⟨G3, x3, d, hd, rd⟩ := yl i x H' hlt hx
    have ed : ds.drop i = d :: ds.drop (i + 1) := by
      rw [List.drop_eq_getElem_cons hlt]
      congr 1
      have := List.getElem?_eq_getElem hlt
      rw [hd] at this
      exact (Option.some.inj this).symm
    rw [ed] at q
    have s23 := (x3.out (Frm.same f2)).1
    have f3 : Own Φ D vs O2 G3 H' := Frm.exts x3 f2
    refine (hg D vs X.s_0 H 0 [] []).sem _ _ O2 G3 H' x d _ _ (((hρ.mono e1).mono (e2.trans s23)).wipe (own.map fun p => p.2)) f3 rd q fun σ4 ρ4 O4 G4 H4 h4 e4 r4 f4 z4 => ?_
    refine ⟨?_, ?_⟩
    · have z := z4 (own.map (·.2)) hil
      rw [z]
      exact wipe_wipe
    refine (ht D vs X.s_0 H 0 [] []).sem σ4 ρ4 O4 G4 H4 _ _ R0 r4 f4 (fun _ _ _ _ _ _ _ _ _ z => z.elim) h4 fun b O5 G5 H5 h5 e5 f5 => ?_
    have e15 : Same G1 G5 := ((e2.trans s23).trans e4).trans e5
    cases b with
    | false =>
      simp only [Bool.false_eq_true, if_false] at h5 ⊢
      exact ⟨acc, vs, O5, G5, e15, f5, racc.mono ((s23.trans e4).trans e5), h5⟩
    | true =>
      simp only [if_true] at h5 ⊢
      refine (he D vs X.s_0 H 0 [] []).sem σ4 ρ4 O5 G5 H5 _ _ R0 (r4.mono e5) f5 (fun _ _ _ _ _ _ _ _ _ z => z.elim) h5 fun y O6 v6 G6 H6 ⟨hl, h6⟩ e6 f6 r6 => ?_
      have ra := racc.mono (((s23.trans e4).trans e5).trans e6)
      refine ⟨vs, f6.1, by rw [ra.len]; exact hl, acc ++ [y], vs ++ [v6], O6, G6, e15.trans e6, ⟨upd_same, ?_⟩, ra.app (.cons r6 .nil), h6⟩
      rw [delH_self]
      exact f6.2
  · have ei : i = ds.length := by omega
    subst ei
    rw [List.drop_length] at q
    exact .inl ⟨st, k acc vs D O2 G2 H2 q (e1.trans e2) f2 racc⟩
where
  wipe_wipe {σ : Sig} {vs : List Nat} : L2.wipe (L2.wipe σ vs) vs = L2.wipe σ vs := by
    have key : ∀ (us ws : List Nat) (τ : Sig), (∀ i ∈ us, i ∈ ws) → L2.wipe (L2.wipe τ us) ws = L2.wipe τ ws := by
      intro us
      induction us with
      | nil => intro ws τ _; rfl
      | cons u us ih =>
        intro ws τ h
        show L2.wipe ((L2.wipe τ us).set u none) ws = _
        rw [wipe_set (h u List.mem_cons_self)]
        exact ih ws τ fun i hi => h i (List.mem_cons_of_mem _ hi)
    exact key vs vs σ fun _ h => h
def relS (sc sc0 : Scope) : Scope := relabel sc ⟨sc0, 0, 0, [], .empty, none, .none, none, 0⟩
theorem blkOk_in {N : List Str} {sc0 sc scope : Scope} {own : List (Str × Nat)} {cl : List (Str × Addr)} {C : Addr} {env : Env} (h : blkC N (relS sc sc0) scope own = true) (he : env.scope = sc0 := by rfl) : BlkOk N (compEnvC sc cl C env).scope scope own := by
  subst he
  exact blkOk_by h
theorem cE_de {X : Cx} {F : Addr → List V → OH → Hp → Hp → Prop} {e : Expr} {m : ME OH} (h : ∀ D vs, ∃ te, DE X (F D vs) W0 e te m) (D : Addr) (vs : List V) : DE X (F D vs) W0 e (cE X.K X.mg F m) m := by
  refine ⟨⟨fun pins s σ H Q I ⟨D, vs, ρ, O, G, P, R, hρ, f, hW, hm, k⟩ => ?_⟩, fun σ ρ O G H Q P R hρ f hW hm k => ⟨D, vs, ρ, O, G, P, R, hρ, f, hW, hm, k⟩⟩
  obtain ⟨te, d⟩ := h D vs
  exact d.pe.run pins s σ H Q I (d.sem σ ρ O G H Q P R hρ f hW hm k)
theorem cT_dt {X : Cx} {F : Addr → List V → OH → Hp → Hp → Prop} {ifs : List Expr} {m : MT OH} (h : ∀ D vs, ∃ tt, DTs X (F D vs) W0 ifs tt m) (D : Addr) (vs : List V) : DTs X (F D vs) W0 ifs (cT X.K X.mg F m) m := by
  refine ⟨⟨fun pins s σ H Q I ⟨D, vs, ρ, O, G, P, R, hρ, f, hW, hm, k⟩ => ?_⟩, fun σ ρ O G H Q P R hρ f hW hm k => ⟨D, vs, ρ, O, G, P, R, hρ, f, hW, hm, k⟩⟩
  obtain ⟨tt, d⟩ := h D vs
  exact d.pts.run pins s σ H Q I (d.sem σ ρ O G H Q P R hρ f hW hm k)
theorem own_up {D : Addr} {vs : List V} {acc : List DL.D} {O : OH} {G H : Hp} (f2 : Own Φ D vs O G H) (racc : RpL X.K X.mg G vs acc) : ∃ G', Same G G' ∧ Φ O G' H ∧ Rp X.K X.mg G' (.ref D) (.lst acc) := by
  have g0 : G D = none := by
    cases z : G D with
    | none => rfl
    | some o => exact absurd rfl (delH_some (F.same f2.2 D o z)).1
  have sg := same_new (o := .lst vs) g0
  have eqH : upd (delH H D) D (.lst vs) = H := by
    funext c
    by_cases e : c = D
    · subst e
      rw [upd_same, f2.1]
    · rw [upd_ne e, delH_ne e]
  have z := F.ext (o := .lst vs) f2.2 (delH_same (H := H) (a := D))
  rw [eqH] at z
  exact ⟨_, sg, z, .lst upd_same (racc.mono sg)⟩
theorem own_own {D : Addr} {vs : List V} {acc : List DL.D} {O : OH} {G H : Hp} (f2 : Own Φ D vs O G H) (racc : RpL X.K X.mg G vs acc) : O D = none ∧ Φ (O.put D (.lst acc)) G H := by
  have eqH : upd (delH H D) D (.lst vs) = H := by
    funext c
    by_cases e : c = D
    · subst e
      rw [upd_same, f2.1]
    · rw [upd_ne e, delH_ne e]
  have z := F.new f2.2 (delH_same (H := H) (a := D)) (.lst racc)
  rw [eqH] at z
  refine ⟨?_, z⟩
  cases q : O D with
  | none => rfl
  | some y =>
    obtain ⟨_, o, h1, _⟩ := F.own f2.2 q
    rw [delH_same] at h1
    cases h1
/-- .. the list one's own -/
def mLcO (mi : MI OH) (g : MG OH) (t : MT OH) (m : ME OH) (vs : List Nat) : ME OH := fun ρ O P R => mi ρ O (fun ds O1 => wLc g t m vs ρ (fun acc O2 => ∀ p, O2 p = none → P (.loc p) (O2.put p (.lst acc))) ds [] O1) R
theorem de_lc (hc : X.calm = true) (hN : X.N.Nodup) (hi : DI X Φ W tg iter wi mi) (ok : BlkOk X.N X.env.scope scope own)
    (hg : ∀ (D : Addr) (vs : List V) (s : Shared) (H : Hp) (C : Addr) (cl : List (Str × Addr)) (fp : List Addr), DG (X.blk s H scope (compEnvC scope cl C X.env) fp) (Own Φ D vs) tg g mg il)
    (ht : ∀ (D : Addr) (vs : List V) (s : Shared) (H : Hp) (C : Addr) (cl : List (Str × Addr)) (fp : List Addr), DTs (X.blk s H scope (compEnvC scope cl C X.env) fp) (Own Φ D vs) W0 ifs tt mt)
    (he : ∀ (D : Addr) (vs : List V) (s : Shared) (H : Hp) (C : Addr) (cl : List (Str × Addr)) (fp : List Addr), DE (X.blk s H scope (compEnvC scope cl C X.env) fp) (Own Φ D vs) W0 elt te me)
    (hil : ∀ i ∈ il, i ∈ own.map (·.2) := by decide) (hs : ∀ x, foldedSetIterable iter X.env x = pure x := by intro _; rfl) :
    DE X Φ W (.ListComp elt [⟨tg, iter, ifs, 0⟩] scope pos) (tLc wi g tt te (own.map (·.2))) (mLc mi mg mt me (own.map (·.2))) :=
  ⟨pe_lc hc hN hi.pi ok (fun s H C cl fp => (hg 0 [] s H C cl fp).pg) (fun s H C cl fp => (ht 0 [] s H C cl fp).pts) (fun s H C cl fp => (he 0 [] s H C cl fp).pe) hs,
    fun σ ρ O G H Q P R hρ f hW h k => lc_sem hi hg hil ht he hρ f hW h fun acc vs D O2 G2 H2 p e f2 r => by
      obtain ⟨G3, s3, f3, r3⟩ := own_up f2 r
      exact k _ O2 _ G3 H2 p (e.trans s3) f3 r3⟩
theorem de_lcO (hc : X.calm = true) (hN : X.N.Nodup) (hi : DI X Φ W tg iter wi mi) (ok : BlkOk X.N X.env.scope scope own)
    (hg : ∀ (D : Addr) (vs : List V) (s : Shared) (H : Hp) (C : Addr) (cl : List (Str × Addr)) (fp : List Addr), DG (X.blk s H scope (compEnvC scope cl C X.env) fp) (Own Φ D vs) tg g mg il)
    (ht : ∀ (D : Addr) (vs : List V) (s : Shared) (H : Hp) (C : Addr) (cl : List (Str × Addr)) (fp : List Addr), DTs (X.blk s H scope (compEnvC scope cl C X.env) fp) (Own Φ D vs) W0 ifs tt mt)
    (he : ∀ (D : Addr) (vs : List V) (s : Shared) (H : Hp) (C : Addr) (cl : List (Str × Addr)) (fp : List Addr), DE (X.blk s H scope (compEnvC scope cl C X.env) fp) (Own Φ D vs) W0 elt te me)
    (hil : ∀ i ∈ il, i ∈ own.map (·.2) := by decide) (hs : ∀ x, foldedSetIterable iter X.env x = pure x := by intro _; rfl) :
    DE X Φ W (.ListComp elt [⟨tg, iter, ifs, 0⟩] scope pos) (tLc wi g tt te (own.map (·.2))) (mLcO mi mg mt me (own.map (·.2))) :=
  ⟨pe_lc hc hN hi.pi ok (fun s H C cl fp => (hg 0 [] s H C cl fp).pg) (fun s H C cl fp => (ht 0 [] s H C cl fp).pts) (fun s H C cl fp => (he 0 [] s H C cl fp).pe) hs,
    fun σ ρ O G H Q P R hρ f hW h k => lc_sem hi hg hil ht he hρ f hW h fun acc vs D O2 G2 H2 p e f2 r => by
      obtain ⟨o3, f3⟩ := own_own f2 r
      exact k _ _ _ G2 H2 (p D o3) e f3 (.loc D)⟩
/-- name = [..] -/
theorem ds_setLc {i : Nat} {y : Str} {py spos : Pos} (hc : X.calm = true) (hN : X.N.Nodup) (hy : X.N[i]? = some y) (hyl : X.env.scope.names.lookup y = some .local)
    (hsw : swapsWith (.ListComp elt [⟨tg, iter, ifs, 0⟩] scope pos) (some (.Name y py)) spos.line X.env = pure true) (hi : DI X Φ W tg iter wi mi) (ok : BlkOk X.N X.env.scope scope own)
    (hg : ∀ (D : Addr) (vs : List V) (s : Shared) (H : Hp) (C : Addr) (cl : List (Str × Addr)) (fp : List Addr), DG (X.blk s H scope (compEnvC scope cl C X.env) fp) (Own Φ D vs) tg g mg il)
    (ht : ∀ (D : Addr) (vs : List V) (s : Shared) (H : Hp) (C : Addr) (cl : List (Str × Addr)) (fp : List Addr), DTs (X.blk s H scope (compEnvC scope cl C X.env) fp) (Own Φ D vs) W0 ifs tt mt)
    (he : ∀ (D : Addr) (vs : List V) (s : Shared) (H : Hp) (C : Addr) (cl : List (Str × Addr)) (fp : List Addr), DE (X.blk s H scope (compEnvC scope cl C X.env) fp) (Own Φ D vs) W0 elt te me)
    (hil : ∀ i ∈ il, i ∈ own.map (·.2) := by decide) (hs : ∀ x, foldedSetIterable iter X.env x = pure x := by intro _; rfl) :
    DS X Φ W (.Assign [.Name y py] (.ListComp elt [⟨tg, iter, ifs, 0⟩] scope pos) spos) (tAsg (tLc wi g tt te (own.map (·.2))) (gName i)) (sSet i (mLc mi mg mt me (own.map (·.2)))) :=
  ⟨ps_setLc hc hN hy hyl hsw hi.pi ok (fun s H C cl fp => (hg 0 [] s H C cl fp).pg) (fun s H C cl fp => (ht 0 [] s H C cl fp).pts) (fun s H C cl fp => (he 0 [] s H C cl fp).pe) hs,
    fun σ ρ O G H D M hρ f hm E => lc_sem hi hg hil ht he hρ f (E.wsh hρ) hm fun acc vs D O2 G2 H2 p e f2 r => by
      obtain ⟨G3, s3, f3, r3⟩ := own_up f2 r
      exact E.nx _ _ O2 G3 H2 p (e.trans s3) ((hρ.mono (e.trans s3)).set i r3) f3⟩
/-! the same, where the rules of the element and the test may speak of the block -/
theorem de_lcE (hc : X.calm = true) (hN : X.N.Nodup) (hi : DI X Φ W tg iter wi mi) (ok : BlkOk X.N X.env.scope scope own)
    (hg : ∀ (D : Addr) (vs : List V) (s : Shared) (H : Hp) (C : Addr) (cl : List (Str × Addr)) (fp : List Addr), DG (X.blk s H scope (compEnvC scope cl C X.env) fp) (Own Φ D vs) tg g mg il)
    (ht : ∀ (D : Addr) (vs : List V) (s : Shared) (H : Hp) (C : Addr) (cl : List (Str × Addr)) (fp : List Addr), ∃ tt, DTs (X.blk s H scope (compEnvC scope cl C X.env) fp) (Own Φ D vs) W0 ifs tt mt)
    (he : ∀ (D : Addr) (vs : List V) (s : Shared) (H : Hp) (C : Addr) (cl : List (Str × Addr)) (fp : List Addr), ∃ te, DE (X.blk s H scope (compEnvC scope cl C X.env) fp) (Own Φ D vs) W0 elt te me)
    (hil : ∀ i ∈ il, i ∈ own.map (·.2) := by decide) (hs : ∀ x, foldedSetIterable iter X.env x = pure x := by intro _; rfl) :
    DE X Φ W (.ListComp elt [⟨tg, iter, ifs, 0⟩] scope pos) (tLc wi g (cT X.K X.mg (Own Φ) mt) (cE X.K X.mg (Own Φ) me) (own.map (·.2))) (mLc mi mg mt me (own.map (·.2))) :=
  de_lc hc hN hi ok hg (fun D vs s H C cl fp => cT_dt (fun D vs => ht D vs s H C cl fp) D vs) (fun D vs s H C cl fp => cE_de (fun D vs => he D vs s H C cl fp) D vs) hil hs
theorem de_lcOE (hc : X.calm = true) (hN : X.N.Nodup) (hi : DI X Φ W tg iter wi mi) (ok : BlkOk X.N X.env.scope scope own)
    (hg : ∀ (D : Addr) (vs : List V) (s : Shared) (H : Hp) (C : Addr) (cl : List (Str × Addr)) (fp : List Addr), DG (X.blk s H scope (compEnvC scope cl C X.env) fp) (Own Φ D vs) tg g mg il)
    (ht : ∀ (D : Addr) (vs : List V) (s : Shared) (H : Hp) (C : Addr) (cl : List (Str × Addr)) (fp : List Addr), ∃ tt, DTs (X.blk s H scope (compEnvC scope cl C X.env) fp) (Own Φ D vs) W0 ifs tt mt)
    (he : ∀ (D : Addr) (vs : List V) (s : Shared) (H : Hp) (C : Addr) (cl : List (Str × Addr)) (fp : List Addr), ∃ te, DE (X.blk s H scope (compEnvC scope cl C X.env) fp) (Own Φ D vs) W0 elt te me)
    (hil : ∀ i ∈ il, i ∈ own.map (·.2) := by decide) (hs : ∀ x, foldedSetIterable iter X.env x = pure x := by intro _; rfl) :
    DE X Φ W (.ListComp elt [⟨tg, iter, ifs, 0⟩] scope pos) (tLc wi g (cT X.K X.mg (Own Φ) mt) (cE X.K X.mg (Own Φ) me) (own.map (·.2))) (mLcO mi mg mt me (own.map (·.2))) :=
  de_lcO hc hN hi ok hg (fun D vs s H C cl fp => cT_dt (fun D vs => ht D vs s H C cl fp) D vs) (fun D vs s H C cl fp => cE_de (fun D vs => he D vs s H C cl fp) D vs) hil hs
theorem ds_setLcE {i : Nat} {y : Str} {py spos : Pos} (hc : X.calm = true) (hN : X.N.Nodup) (hy : X.N[i]? = some y) (hyl : X.env.scope.names.lookup y = some .local)
    (hsw : swapsWith (.ListComp elt [⟨tg, iter, ifs, 0⟩] scope pos) (some (.Name y py)) spos.line X.env = pure true) (hi : DI X Φ W tg iter wi mi) (ok : BlkOk X.N X.env.scope scope own)
    (hg : ∀ (D : Addr) (vs : List V) (s : Shared) (H : Hp) (C : Addr) (cl : List (Str × Addr)) (fp : List Addr), DG (X.blk s H scope (compEnvC scope cl C X.env) fp) (Own Φ D vs) tg g mg il)
    (ht : ∀ (D : Addr) (vs : List V) (s : Shared) (H : Hp) (C : Addr) (cl : List (Str × Addr)) (fp : List Addr), ∃ tt, DTs (X.blk s H scope (compEnvC scope cl C X.env) fp) (Own Φ D vs) W0 ifs tt mt)
    (he : ∀ (D : Addr) (vs : List V) (s : Shared) (H : Hp) (C : Addr) (cl : List (Str × Addr)) (fp : List Addr), ∃ te, DE (X.blk s H scope (compEnvC scope cl C X.env) fp) (Own Φ D vs) W0 elt te me)
    (hil : ∀ i ∈ il, i ∈ own.map (·.2) := by decide) (hs : ∀ x, foldedSetIterable iter X.env x = pure x := by intro _; rfl) :
    DS X Φ W (.Assign [.Name y py] (.ListComp elt [⟨tg, iter, ifs, 0⟩] scope pos) spos) (tAsg (tLc wi g (cT X.K X.mg (Own Φ) mt) (cE X.K X.mg (Own Φ) me) (own.map (·.2))) (gName i)) (sSet i (mLc mi mg mt me (own.map (·.2)))) :=
  ds_setLc hc hN hy hyl hsw hi ok hg (fun D vs s H C cl fp => cT_dt (fun D vs => ht D vs s H C cl fp) D vs) (fun D vs s H C cl fp => cE_de (fun D vs => he D vs s H C cl fp) D vs) hil hs
end
end
end DL

set_option Elab.async false
set_option linter.all false
set_option maxRecDepth 100000
set_option maxHeartbeats 1000000
namespace DL
open PySem PySem.Spec PyProof.Rows L2

/-! ### defs and their contracts -/
abbrev WF := List D → OH → (D → OH → Prop) → (Exn → OH → Prop) → Prop
/-- the contract of a def over trees -/
def spO (K : PySem.W.Frag) (mg : Str → Option Value) (n : Nat) (g : WF) : Sp := fun vs H Q E =>
  ∃ (Φ : OH → Hp → Hp → Prop) (_ : OFrm K mg Φ) (G : Hp) (O : OH) (ds : List D) (P : D → OH → Prop) (R : Exn → OH → Prop), Φ O G H ∧ RpL K mg G vs ds ∧ ds.length = n ∧ g ds O P R ∧
    (∀ (d : D) (O' : OH) (v : V) (G' H' : Hp), P d O' → Same G G' → Φ O' G' H' → Rp K mg G' v d → Q v H') ∧
    (∀ (x : Exn) (O' : OH) (G' H' : Hp) (cls : Value) (d : Option Addr), R x O' → Same G G' → Φ O' G' H' → ExR K mg G' cls d x → E cls d H')
section
variable (P : Program) (w : World) (K : PySem.W.Frag) (mg : Str → Option Value) (base : Heap)
/-- as the layer's FnOk, where no repr is under way -/
structure FnS (k : Nat) (f : Addr) (fd : FuncData) (ps : List Str) (sp : Sp) : Prop where
  len : ∀ vs H Q E, sp vs H Q E → vs.length = ps.length
  run : ∀ (A : Around) (outer : List Env) (s : Shared) (H : Hp) (args : Args) (us : List Value) (vs : List V) (Q : VK) (E : XK), Room k A → A.guards = some [] → Env0 P w K mg base A outer s H →
    BindsTo s fd args (ps.zip us) → Vals vs us → sp vs H Q E → codeAny (model P w) A (.call (.ref f) args) (CR (L2.CX P w) outer P w H s Q E) s
abbrev FnG (k : Nat) (f : Addr) (fd : FuncData) (ps : List Str) (g : WF) : Prop := FnS P w K mg base k f fd ps (spO K mg ps.length g)
end
section
variable {P : Program} {w : World} {K : PySem.W.Frag} {mg : Str → Option Value} {base : Heap}
theorem fnS_of {k : Nat} {f : Addr} {name qual : Str} {params : Arguments} {body : List Stmt} {scope : Scope} {dV kV doc pm cdv ct oc : Value} {an od : Option Addr} {osl : Array (Option Value)} {N ps : List Str} {sp : Sp}
    (lk : K.lookup f = some ⟨oc, od, .func (PySem.W.fnOf name qual params body scope dV kV doc pm an cdv ct), osl⟩) (hcd : PySem.W.codeIn K cdv qual = true) (Sc : FnScope N ps scope) (len : ∀ vs H Q E, sp vs H Q E → vs.length = ps.length)
    (hbody : ∀ (A : Around) (outer : List Env) (s : Shared) (H : Hp) (vs : List V) (Q : VK) (E : XK), Room k (A.deeper (envOfC qual scope s.heap.objs.size f cdv)) → A.guards = some [] → sp vs H Q E →
      ∃ t, PSs (cxOf (L2.CX P w) P w K mg base N qual scope f cdv A outer s H E) body t ∧ t { nx := fun _ H' => Q .non H', rt := Q } (L2.start N vs) H) :
    FnS P w K mg base (k + 1) f (PySem.W.fnOf name qual params body scope dV kV doc pm an cdv ct) ps sp := by
  refine ⟨len, fun A outer s H args us vs Q E hr hg e0 hb r hsp => ?_⟩
  have hl : vs.length = ps.length := len vs H Q E hsp
  have kin : K.In s.heap := e0.mod.kin.keeps (fun b o e => (e0.bs b o e).1)
  have nolim : s.heap.NoLimit := e0.mod.nolimit.keeps (fun b o e => (e0.bs b o e).1)
  have kinds : ∀ y ∈ ps.zip us, scope.names.lookup y.1 = some .local ∨ (scope.names.lookup y.1 = some .cell ∧ ((cellsFrom (s.heap.objs.size + 1) scope.names []).lookup y.1).isSome = true) := by
    intro ⟨n, v⟩ hy
    exact (Sc.par n (List.of_mem_zip hy).1).elim Or.inl fun q => .inr ⟨q, PySem.W.cellsFrom_some _ _ _ (.inl q)⟩
  refine codeAny_call_function hr.depth (kin _ _ lk) rfl Sc.co Sc.gen rfl (PySem.W.codeRec_of kin hcd) (hb _ _ _ _ ?_)
  refine wpAny_newFunctionEnv_cells Sc.kind kinds fun env he s1 x => ?_
  subst he
  obtain ⟨t, ht, hq⟩ := hbody A outer s H vs Q E (hr.deeper _) hg hsp
  refine ⟨nolim.keeps x.toInCall.keep, codeAny_func ?_⟩
  have I := inv_start (CX := L2.CX P w) (E := E) Sc hr.hd e0 hl r x
  refine wpAny_mono (ht.run [] s1 (L2.start N vs) H _ I hq) (fun fl s' hs => ?_) fun e s' hs => hs
  have fin : ∀ {σ' : Sig} {H' : Hp} {v : V} {u : Value}, Inv (cxOf (L2.CX P w) P w K mg base N qual scope f cdv A outer s H E) [] σ' H' s' → RelV v u → Q v H' → CE outer P w H s Q u s' := by
    intro σ' H' v u J rv q
    exact ⟨v, H', J.os, J.bare, J.base, J.hok, rv, q⟩
  match fl, hs with
  | .ret u, ⟨v, σ', H', J, rv, q⟩ => exact fin J rv q
  | .next, ⟨σ', H', J, q⟩ => exact fin (v := V.non) (u := Value.none) J rfl q
  | .brk, ⟨_, _, _, q⟩ => exact q.elim
  | .cont, ⟨_, _, _, q⟩ => exact q.elim
theorem spO_len {n : Nat} {g : WF} {vs : List V} {H : Hp} {Q : VK} {E : XK} (h : spO K mg n g vs H Q E) : vs.length = n := by
  obtain ⟨_, _, _, _, ds, _, _, _, r, l, _⟩ := h
  rw [r.len, l]
/-- the tree reading of a body, from the arguments on -/
def bodyF (m : MS OH) (k : Nat) : WF := fun ds O P R => m { nx := fun _ O' => P .non O', rt := P, bk := fun _ _ => False, ct := fun _ _ => False, ex := fun x _ O' => R x O' } (ds.map some ++ List.replicate k none) O
theorem start_rel {N : List Str} {G : Hp} {vs : List V} {ds : List D} (r : RpL K mg G vs ds) : RelE K mg G (L2.start N vs) (ds.map some ++ List.replicate (N.length - ds.length) none) := by
  have hl := r.len
  refine ⟨by unfold L2.start; simp [hl], fun i d h => ?_⟩
  have hi : i < ds.length := by
    by_cases q : i < ds.length
    · exact q
    · rw [List.getElem?_append_right (by simpa using q), List.getElem?_replicate] at h
      split at h <;> cases h
  rw [List.getElem?_append_left (by simpa using hi), List.getElem?_map] at h
  cases e : ds[i]? with
  | none => rw [e] at h; cases h
  | some d' =>
    rw [e] at h
    cases h
    obtain ⟨v, hv, rv⟩ := r.at e
    refine ⟨v, ?_, rv⟩
    unfold L2.start
    rw [List.getElem?_append_left (by simp [hl, hi]), List.getElem?_map, hv]
    rfl
/-- where a def may be called -/
structure Rm (k : Nat) (X : Cx) : Prop where
  room : Room k X.A
  gd : X.A.guards = some []
theorem Rm.mono {j k : Nat} {X : Cx} (h : Rm k X) (l : j ≤ k) : Rm j X := ⟨h.room.mono l, h.gd⟩
theorem rmB {k : Nat} {X : Cx} {s : Shared} {H : Hp} {sc : Scope} {ce : Env} {fp : List Addr} (h : Rm k X) : Rm k (X.blk s H sc ce fp) := ⟨h.room, h.gd⟩
theorem rmT {k : Nat} {X : Cx} {pn : List (Addr × Obj)} {xe : Value → Shared → Prop} (h : Rm k X) : Rm k (X.tr pn xe) := ⟨h.room, h.gd⟩
theorem sgd {k : Nat} {X : Cx} {a : Addr} {pn : List (Addr × Obj)} (h : Rm k X) : (X.suite a pn).A.guards = some [] := h.gd
theorem sun {k : Nat} {X : Cx} {a : Addr} {pn : List (Addr × Obj)} (h : Rm k X) : (X.suite a pn).A.units + 64 < cLine := h.room.units
theorem Rm.units {k : Nat} {X : Cx} (h : Rm k X) : X.A.units + 64 < cLine := h.room.units
/-- THE RULE of a def -/
theorem fnG_mk {x qual : Str} {st : Stmt} {f : Addr} {fd : FuncData} {N ps : List Str} {k : Nat} {g : WF} (F : Fun K x qual st f fd) (Sc : FnScope N ps (defScope st)) {m : MS OH}
    (hb : ∀ (Φ : OH → Hp → Hp → Prop) (cdv : Value) (A : Around) (outer : List Env) (s : Shared) (H : Hp) (E : XK), OFrm (cxOf (L2.CX P w) P w K mg base N qual (defScope st) f cdv A outer s H E).K (cxOf (L2.CX P w) P w K mg base N qual (defScope st) f cdv A outer s H E).mg Φ → Rm k (cxOf (L2.CX P w) P w K mg base N qual (defScope st) f cdv A outer s H E) →
      ∃ ts, DSs (cxOf (L2.CX P w) P w K mg base N qual (defScope st) f cdv A outer s H E) Φ (fun cls d _ H' => E cls d H') (defBody st) ts m)
    (hg : ∀ ds O Pd R, ds.length = ps.length → g ds O Pd R → bodyF m (N.length - ps.length) ds O Pd R) : FnG P w K mg base (k + 1) f fd ps g := by
  obtain ⟨oc, od, kV, doc, pm, an, cdv, ct, osl, rfl, lk, hcd⟩ := F.ex
  refine fnS_of lk hcd Sc (fun vs H Q E h => spO_len h) fun A outer s H vs Q E hr hgd hsp => ?_
  obtain ⟨Φ, iΦ, G, O, ds, Pd, R, f0, r, hl, hgs, hP, hR⟩ := hsp
  obtain ⟨ts, d⟩ := hb Φ cdv A outer s H E iΦ ⟨hr, hgd⟩
  refine ⟨ts, d.pss, ?_⟩
  have r0 := start_rel (N := N) r
  rw [hl] at r0
  refine d.sem _ _ O G H _ _ r0 f0 (hg ds O Pd R hl hgs) ⟨fun σ ρ s G' H' p e _ q => hP .non s .non G' H' p e q .non, fun d s v G' H' p e q r => hP d s v G' H' p e q r, fun _ _ _ _ _ p => p.elim, fun _ _ _ _ _ p => p.elim,
    fun x σ ρ s G' H' cls d p e _ q z => hR x s G' H' cls d p e q z⟩
end

/-! ### calls -/
section
variable {X : Cx} {Φ : OH → Hp → Hp → Prop} {W : WX} [FΦ : OFrm X.K X.mg Φ]
theorem runS {k : Nat} {f : Addr} {fd : FuncData} {ps : List Str} {sp : Sp} {dvs : List V} {dflt : List Value} {E : XK} {pins : List (Addr × Obj)} {σ : Sig} {H : Hp} {s : Shared} {Q : VK} {us : List Value} {vs : List V}
    (F : FnS X.prog X.w X.K X.mg X.base k f fd ps sp) (hr : Rm k X) (hb : Binds X.K fd ps dflt) (hd : Vals dvs dflt) (hx : PassesAt (L2.CX X.prog X.w) X σ E) (I : Inv X pins σ H s) (r : Vals vs us) (h : sp (vs ++ dvs) H Q E) :
    wpAny (model X.prog X.w) X.A (call (.ref f) us) (EP X pins σ Q) X.xe s := by
  have r2 : Vals (vs ++ dvs) (us ++ dflt) := Vals.append r hd
  have hl : (us ++ dflt).length = ps.length := r2.length.symm.trans (F.len _ _ _ _ h)
  have go := F.run X.A X.stack s H ⟨us, []⟩ (us ++ dflt) (vs ++ dvs) Q E hr.room hr.gd I.env0 (hb s us I.kIn hl) r2 h
  refine wpAny_call (codeAny_mono go fun r s' hq => ?_)
  match r, hq with
  | .error e, hq => exact hx pins H s e s' I hq
  | .ok (.ret u), hq => exact I.after hq
  | .ok .next, hq => exact hq.elim
  | .ok .brk, hq => exact hq.elim
  | .ok .cont, hq => exact hq.elim
/-- f(e, ..) -/
theorem pe_callG {k : Nat} {f : Addr} {fd : FuncData} {ps : List Str} {sp : Sp} {dvs : List V} {dflt : List Value} {x : Str} {p pos : Pos} {e : Expr} {es : List Expr} {t : TA} (F : FnS X.prog X.w X.K X.mg X.base k f fd ps sp) (hr : Rm k X) (hg : Gl X x)
    (hm : X.mg x = some (.ref f)) (hk : PySem.W.keepIn X.K (.ref f) = true) (hb : Binds X.K fd ps dflt) (hd : Vals dvs dflt) (tk : Takes X W) (ha : PA X (e :: es) t) (hdb : (x == ("__debug__" : Str)) = false)
    (he : starEach (e :: es) X.env = (false, eval e X.env) :: starEach es X.env) (hpl : (backTo pos (starEach es X.env)).any (·.1) = false) :
    PE X (.Call (.Name x p) (e :: es) [] pos) (fun σ H Q => t σ H fun vs H1 => sp (vs ++ dvs) H1 Q (WE W σ)) := by
  refine ⟨fun pins s σ H Q I h => wpAny_Call_Name_kw (ld_glob I hg hm ?_ hdb)⟩
  have arg := ha.run pos pins s σ H _ I h
  refine PySem.W.callWith_K (h₀ := X.base) I.ok.mod.kin hk (thn arg fun us s1 ⟨vs, H1, I1, r, q⟩ => ⟨I1.kIn, ?_⟩) he hpl
  exact runS F hr hb hd (passAt tk σ) I1 r q
theorem pe_callG0 {k : Nat} {f : Addr} {fd : FuncData} {ps : List Str} {sp : Sp} {dvs : List V} {dflt : List Value} {x : Str} {p pos : Pos} (F : FnS X.prog X.w X.K X.mg X.base k f fd ps sp) (hr : Rm k X) (hg : Gl X x)
    (hm : X.mg x = some (.ref f)) (hk : PySem.W.keepIn X.K (.ref f) = true) (hb : Binds X.K fd ps dflt) (hd : Vals dvs dflt) (tk : Takes X W) (hdb : (x == ("__debug__" : Str)) = false) :
    PE X (.Call (.Name x p) [] [] pos) (fun σ H Q => sp dvs H Q (WE W σ)) := by
  refine ⟨fun pins s σ H Q I h => wpAny_Call_Name_kw (ld_glob I hg hm ?_ hdb)⟩
  exact PySem.W.callWith_K0 I.kIn hk (runS (us := []) (vs := []) F hr hb hd (passAt tk σ) I .nil h)
/-- o.m(e, ..) -/
theorem pe_methG {k : Nat} {f C : Addr} {fd : FuncData} {ps : List Str} {sp : Sp} {dvs : List V} {dflt : List Value} {m : Str} {apos pos : Pos} {o e : Expr} {es : List Expr} {ta : TE} {t : TA} {pl : Sem Bool} (he : PE X o ta) (c : Cls X.K C) (hm : Meth X.K C m f)
    (F : FnS X.prog X.w X.K X.mg X.base k f fd ps sp) (hr : Rm k X) (hb : Binds X.K fd ps dflt) (hd : Vals dvs dflt) (tk : Takes X W) (ha : PA X (e :: es) t)
    (h1 : starEach (e :: es) X.env = (false, eval e X.env) :: starEach es X.env) (h2 : (backTo pos (starEach es X.env)).any (·.1) = false)
    (ht : eval (.Call (.Attribute o m apos) (e :: es) [] pos) X.env = (do
      let ov ← eval o X.env
      standAt apos.atName
      let (f, first) ← holding [ov] (getMethod ov m pl)
      callWith pos f first (backTo pos (starEach (e :: es) X.env)) (backToKw pos (keywordEach [] X.env)))) :
    PE X (.Call (.Attribute o m apos) (e :: es) [] pos) (fun σ H Q => ta σ H fun x H1 => ∃ a dx fs, x = .ref a ∧ H1 a = some (.ins C dx fs) ∧ fs.lookup m = none ∧ t σ H1 fun vs H2 => sp (x :: (vs ++ dvs)) H2 Q (WE W σ)) := by
  refine ⟨fun pins s σ H Q I h => PySem.W.methodCall_KW (pl := pl) (thn (he.run pins s σ H _ I h) fun u s1 ⟨x, H1, I1, rx, a, dx, fs, ex, ea, l, q⟩ => ?_) ht⟩
  subst ex
  cases (show u = Value.ref a from rx)
  refine getmeth_ok I1 ea c hm l ?_
  have arg := ha.run pos pins s1 σ H1 _ I1 q
  refine PySem.W.callWith_K (first := [.ref a]) (h₀ := X.base) I.ok.mod.kin hm.kp (thn arg fun us s2 ⟨vs, H2, I2, r, q2⟩ => ⟨I2.kIn, ?_⟩) h1 h2
  exact runS (us := .ref a :: us) (vs := .ref a :: vs) F hr hb hd (passAt tk σ) I2 (.cons rfl r) q2
theorem pe_methG0 {k : Nat} {f C : Addr} {fd : FuncData} {ps : List Str} {sp : Sp} {dvs : List V} {dflt : List Value} {m : Str} {apos pos : Pos} {o : Expr} {ta : TE} {pl : Sem Bool} (he : PE X o ta) (c : Cls X.K C) (hm : Meth X.K C m f)
    (F : FnS X.prog X.w X.K X.mg X.base k f fd ps sp) (hr : Rm k X) (hb : Binds X.K fd ps dflt) (hd : Vals dvs dflt) (tk : Takes X W)
    (ht : eval (.Call (.Attribute o m apos) [] [] pos) X.env = (do
      let ov ← eval o X.env
      standAt apos.atName
      let (f, first) ← holding [ov] (getMethod ov m pl)
      callWith pos f first (backTo pos (starEach [] X.env)) (backToKw pos (keywordEach [] X.env)))) :
    PE X (.Call (.Attribute o m apos) [] [] pos) (fun σ H Q => ta σ H fun x H1 => ∃ a dx fs, x = .ref a ∧ H1 a = some (.ins C dx fs) ∧ fs.lookup m = none ∧ sp (x :: dvs) H1 Q (WE W σ)) := by
  refine ⟨fun pins s σ H Q I h => PySem.W.methodCall_KW (pl := pl) (thn (he.run pins s σ H _ I h) fun u s1 ⟨x, H1, I1, rx, a, dx, fs, ex, ea, l, q⟩ => ?_) ht⟩
  subst ex
  cases (show u = Value.ref a from rx)
  refine getmeth_ok I1 ea c hm l ?_
  exact PySem.W.callWith_K0 (first := [.ref a]) I1.kIn hm.kp (runS (us := [.ref a]) (vs := [.ref a]) F hr hb hd (passAt tk σ) I1 (.cons rfl .nil) q)
/-- C(e, ..): a new instance, then its __init__ -/
theorem runMk {k : Nat} {f C : Addr} {fd : FuncData} {ps : List Str} {sp : Sp} {dvs : List V} {dflt : List Value} {E : XK} {pins : List (Addr × Obj)} {σ : Sig} {H : Hp} {s : Shared} {Q : VK} {us : List Value} {vs : List V} (M : Mk X.K C f)
    (F : FnS X.prog X.w X.K X.mg X.base k f fd ps sp) (hr : Rm (k + 1) X) (hb : Binds X.K fd ps dflt) (hd : Vals dvs dflt) (hx : PassesAt (L2.CX X.prog X.w) X σ E) (I : Inv X pins σ H s) (r : Vals vs us)
    (gm : (X.A.under (.builtin "type.__call__" ⟨.ref C :: us, []⟩)).guards = some [])
    (h : ∀ x dx, H x = none → H dx = none → dx ≠ x → sp (.ref x :: (vs ++ dvs)) (upd (upd H dx (.own x)) x (.ins C dx [])) (fun v H2 => v = .non ∧ Q (.ref x) H2) E) :
    wpAny (model X.prog X.w) X.A (call (.ref C) us) (EP X pins σ Q) X.xe s := by
  have q0 := h (s.heap.objs.size + 1) s.heap.objs.size (I.hok.fresh (Nat.le_succ _)) (I.hok.fresh (Nat.le_refl _)) (Nat.ne_of_lt (Nat.lt_succ_self _))
  have I2 := Inv.made (C := C) I
  have r2 : Vals (V.ref (s.heap.objs.size + 1) :: (vs ++ dvs)) (Value.ref (s.heap.objs.size + 1) :: (us ++ dflt)) := Paired.cons rfl (Vals.append r hd)
  have hl : (Value.ref (s.heap.objs.size + 1) :: us ++ dflt).length = ps.length := r2.length.symm.trans (F.len _ _ _ _ q0)
  have go := F.run _ X.stack _ _ ⟨Value.ref (s.heap.objs.size + 1) :: us, []⟩ (Value.ref (s.heap.objs.size + 1) :: (us ++ dflt)) _ _ E (hr.room.make C us []) gm (I2.env0.make C us []) (hb _ (Value.ref (s.heap.objs.size + 1) :: us) I2.kIn hl) r2 q0
  refine wpAny_call (make_map (f := f) I.kIn M.makes M.init (beq_iff_eq.mp M.fn) (codeAny_mono go fun r s' hq => ?_))
  match r, hq with
  | .error e, hq => exact hx pins _ _ e s' I2 hq
  | .ok (.ret u), hq =>
    obtain ⟨v, H', I3, rv, ev, q3⟩ := I2.after hq
    subst ev
    exact ⟨rv, V.ref (s.heap.objs.size + 1), H', I3, rfl, q3⟩
  | .ok .next, hq => exact hq.elim
  | .ok .brk, hq => exact hq.elim
  | .ok .cont, hq => exact hq.elim
theorem make_guards {A : Around} {C : Addr} {us : List Value} (h : A.guards = some []) : (A.under (.builtin "type.__call__" ⟨.ref C :: us, []⟩)).guards = some [] := by
  first
    | exact h
    | (simp [Around.under, Code.isGuard, guardIds, h])
theorem pe_makeG {k : Nat} {f C : Addr} {fd : FuncData} {ps : List Str} {sp : Sp} {dvs : List V} {dflt : List Value} {x : Str} {p pos : Pos} {e : Expr} {es : List Expr} {t : TA} (M : Mk X.K C f) (F : FnS X.prog X.w X.K X.mg X.base k f fd ps sp) (hr : Rm (k + 1) X)
    (hg : Gl X x) (hm : X.mg x = some (.ref C)) (hb : Binds X.K fd ps dflt) (hd : Vals dvs dflt) (tk : Takes X W) (ha : PA X (e :: es) t) (hdb : (x == ("__debug__" : Str)) = false)
    (he : starEach (e :: es) X.env = (false, eval e X.env) :: starEach es X.env) (hpl : (backTo pos (starEach es X.env)).any (·.1) = false) :
    PE X (.Call (.Name x p) (e :: es) [] pos) (fun σ H Q => t σ H fun vs H1 => ∀ x dx, H1 x = none → H1 dx = none → dx ≠ x → sp (.ref x :: (vs ++ dvs)) (upd (upd H1 dx (.own x)) x (.ins C dx [])) (fun v H2 => v = .non ∧ Q (.ref x) H2) (WE W σ)) := by
  refine ⟨fun pins s σ H Q I h => wpAny_Call_Name_kw (ld_glob I hg hm ?_ hdb)⟩
  have arg := ha.run pos pins s σ H _ I h
  refine PySem.W.callWith_K (h₀ := X.base) I.ok.mod.kin M.kp (thn arg fun us s1 ⟨vs, H1, I1, r, q⟩ => ⟨I1.kIn, ?_⟩) he hpl
  exact runMk M F hr hb hd (passAt tk σ) I1 r (make_guards hr.gd) q
theorem pe_makeG0 {k : Nat} {f C : Addr} {fd : FuncData} {ps : List Str} {sp : Sp} {dvs : List V} {dflt : List Value} {x : Str} {p pos : Pos} (M : Mk X.K C f) (F : FnS X.prog X.w X.K X.mg X.base k f fd ps sp) (hr : Rm (k + 1) X)
    (hg : Gl X x) (hm : X.mg x = some (.ref C)) (hb : Binds X.K fd ps dflt) (hd : Vals dvs dflt) (tk : Takes X W) (hdb : (x == ("__debug__" : Str)) = false) :
    PE X (.Call (.Name x p) [] [] pos) (fun σ H Q => ∀ x dx, H x = none → H dx = none → dx ≠ x → sp (.ref x :: dvs) (upd (upd H dx (.own x)) x (.ins C dx [])) (fun v H2 => v = .non ∧ Q (.ref x) H2) (WE W σ)) := by
  refine ⟨fun pins s σ H Q I h => wpAny_Call_Name_kw (ld_glob I hg hm ?_ hdb)⟩
  exact PySem.W.callWith_K0 I.kIn M.kp (runMk (us := []) (vs := []) M F hr hb hd (passAt tk σ) I .nil (make_guards hr.gd) h)
end
end DL

set_option Elab.async false
set_option linter.all false
set_option maxRecDepth 100000
set_option maxHeartbeats 1000000
namespace DL
open PySem PySem.Spec PyProof.Rows L2

section
variable {X : Cx} {Φ : OH → Hp → Hp → Prop} {W : WX} [FΦ : OFrm X.K X.mg Φ]
/-! ### calls, over trees -/
/-- what a contract asks, from the arguments' trees -/
theorem spO_of {n : Nat} {g : WF} {O : OH} {G H : Hp} {vs : List V} {ds : List D} {Q : VK} {P : D → OH → Prop} {R : Exn → OH → Prop} {E : XK} (f : Φ O G H) (r : RpL X.K X.mg G vs ds) (l : ds.length = n) (h : g ds O P R)
    (k : ∀ (d : D) (s' : OH) (v : V) (G' H' : Hp), P d s' → Same G G' → Φ s' G' H' → Rp X.K X.mg G' v d → Q v H') (hE : ∀ (x : Exn) (s : OH) (G' H' : Hp) (cls : Value) (d : Option Addr), Same G G' → Φ s G' H' → ExR X.K X.mg G' cls d x → R x s → E cls d H') :
    spO X.K X.mg n g vs H Q E := ⟨Φ, FΦ, G, O, ds, P, R, f, r, l, h, k, fun x O' G' H' cls d a b c e => hE x O' G' H' cls d b c e a⟩
def mCall (g : WF) (k : Nat) (dd : List D) (n : MA OH) : ME OH := fun ρ O P R => n ρ O (fun ds O1 => (ds ++ dd).length = k ∧ g (ds ++ dd) O1 P R) R
section
variable {k : Nat} {f C : Addr} {fd : FuncData} {ps : List Str} {g : WF} {dvs : List V} {dd : List D} {dflt : List Value} {x m : Str} {p pos apos : Pos} {e o : Expr} {es : List Expr} {ta : TA} {n : MA OH} {te : TE} {me : ME OH}
theorem de_call (F : FnG X.prog X.w X.K X.mg X.base k f fd ps g) (hr : Rm k X) (hg : Gl X x) (hm : X.mg x = some (.ref f)) (hk : PySem.W.keepIn X.K (.ref f) = true) (hb : Binds X.K fd ps dflt) (hd : Vals dvs dflt) (hdd : ∀ G, RpL X.K X.mg G dvs dd) (tk : Takes X W)
    (ha : DA X Φ W (e :: es) ta n) (hdb : (x == ("__debug__" : Str)) = false := by decide) (he : starEach (e :: es) X.env = (false, eval e X.env) :: starEach es X.env := by rfl) (hpl : (backTo pos (starEach es X.env)).any (·.1) = false := by rfl) :
    DE X Φ W (.Call (.Name x p) (e :: es) [] pos) (fun σ H Q => ta σ H fun vs H1 => spO X.K X.mg ps.length g (vs ++ dvs) H1 Q (WE W σ)) (mCall g ps.length dd n) :=
  ⟨pe_callG F hr hg hm hk hb hd tk ha.pa hdb he hpl, fun σ ρ s G H Q P R hρ f hW h k => ha.sem σ ρ s G H _ _ R hρ f hW h fun ds s1 vs G1 H1 ⟨hl, h1⟩ e1 f1 r1 =>
    spO_of f1 (r1.app (hdd G1)) hl h1 (fun d s' v G' H' p q => k d s' v G' H' p (e1.trans q)) (hW.mono e1)⟩
def mCall0 (g : WF) (k : Nat) (dd : List D) : ME OH := fun _ O P R => dd.length = k ∧ g dd O P R
theorem de_call0 (F : FnG X.prog X.w X.K X.mg X.base k f fd ps g) (hr : Rm k X) (hg : Gl X x) (hm : X.mg x = some (.ref f)) (hk : PySem.W.keepIn X.K (.ref f) = true) (hb : Binds X.K fd ps dflt) (hd : Vals dvs dflt) (hdd : ∀ G, RpL X.K X.mg G dvs dd) (tk : Takes X W) (hdb : (x == ("__debug__" : Str)) = false := by decide) :
    DE X Φ W (.Call (.Name x p) [] [] pos) (fun σ H Q => spO X.K X.mg ps.length g dvs H Q (WE W σ)) (mCall0 g ps.length dd) :=
  ⟨pe_callG0 F hr hg hm hk hb hd tk hdb, fun σ ρ s G H Q P R hρ f hW ⟨hl, h⟩ k => spO_of f (hdd G) hl h k hW⟩
/-- o.m(e, ..) of a tree that is an instance of C -/
def mMeth (C : Str) (m : Str) (g : WF) (k : Nat) (dd : List D) (me : ME OH) (n : MA OH) : ME OH := fun ρ O P R => me ρ O (fun x O1 => ∃ ns fs, x = .ins C ns fs ∧ m ∉ ns ∧ n ρ O1 (fun ds O2 => (x :: (ds ++ dd)).length = k ∧ g (x :: (ds ++ dd)) O2 P R) R) R
theorem zip_none {ns : List Str} {vs : List V} {m : Str} (h : m ∉ ns) : (ns.zip vs).lookup m = none := by
  induction ns generalizing vs with
  | nil => rfl
  | cons a ns ih =>
    cases vs with
    | nil => rfl
    | cons v vs =>
      rw [List.zip_cons_cons, List.lookup_cons]
      have q : (m == a) = false := beq_eq_false_iff_ne.mpr fun z => h (by rw [z]; exact List.mem_cons_self)
      rw [q]
      exact ih fun z => h (List.mem_cons_of_mem _ z)
theorem de_meth {Cn : Str} {pl : Sem Bool} (ho : DE X Φ W o te me) (c : Cls X.K C) (hC : X.mg Cn = some (.ref C)) (hm : Meth X.K C m f) (F : FnG X.prog X.w X.K X.mg X.base k f fd ps g) (hr : Rm k X) (hb : Binds X.K fd ps dflt) (hd : Vals dvs dflt) (hdd : ∀ G, RpL X.K X.mg G dvs dd) (tk : Takes X W)
    (ha : DA X Φ W (e :: es) ta n) (h1 : starEach (e :: es) X.env = (false, eval e X.env) :: starEach es X.env := by rfl) (h2 : (backTo pos (starEach es X.env)).any (·.1) = false := by rfl)
    (ht : eval (.Call (.Attribute o m apos) (e :: es) [] pos) X.env = (do
      let ov ← eval o X.env
      standAt apos.atName
      let (f, first) ← holding [ov] (getMethod ov m pl)
      callWith pos f first (backTo pos (starEach (e :: es) X.env)) (backToKw pos (keywordEach [] X.env))) := by rfl) :
    DE X Φ W (.Call (.Attribute o m apos) (e :: es) [] pos) (fun σ H Q => te σ H fun x H1 => ∃ a dx fs, x = .ref a ∧ H1 a = some (.ins C dx fs) ∧ fs.lookup m = none ∧ ta σ H1 fun vs H2 => spO X.K X.mg ps.length g (x :: (vs ++ dvs)) H2 Q (WE W σ)) (mMeth Cn m g ps.length dd me n) :=
  ⟨pe_methG ho.pe c hm F hr hb hd tk ha.pa h1 h2 ht, fun σ ρ s G H Q P R hρ f hW h k => ho.sem σ ρ s G H _ _ R hρ f hW h fun d s1 v G1 H1 ⟨ns, fs, ed, hn, h1⟩ e1 f1 r1 => by
    subst ed
    have r1' := r1
    cases r1 with
    | ins mC hG hl rl =>
      rw [hC] at mC
      cases mC
      refine ⟨_, _, _, rfl, Frm.same f1 _ _ hG, zip_none hn, ha.sem σ ρ s1 G1 H1 _ _ R (hρ.mono e1) f1 (hW.mono e1) h1 fun ds s2 vs G2 H2 ⟨hl2, h2⟩ e2 f2 r2 => ?_⟩
      exact spO_of f2 (.cons (r1'.mono e2) (r2.app (hdd G2))) hl2 h2 (fun d s' v G' H' p q => k d s' v G' H' p ((e1.trans e2).trans q)) (hW.mono (e1.trans e2))⟩
def mMeth0 (C : Str) (m : Str) (g : WF) (k : Nat) (dd : List D) (me : ME OH) : ME OH := fun ρ O P R => me ρ O (fun x O1 => ∃ ns fs, x = .ins C ns fs ∧ m ∉ ns ∧ (x :: dd).length = k ∧ g (x :: dd) O1 P R) R
theorem de_meth0 {Cn : Str} {pl : Sem Bool} (ho : DE X Φ W o te me) (c : Cls X.K C) (hC : X.mg Cn = some (.ref C)) (hm : Meth X.K C m f) (F : FnG X.prog X.w X.K X.mg X.base k f fd ps g) (hr : Rm k X) (hb : Binds X.K fd ps dflt) (hd : Vals dvs dflt) (hdd : ∀ G, RpL X.K X.mg G dvs dd) (tk : Takes X W)
    (ht : eval (.Call (.Attribute o m apos) [] [] pos) X.env = (do
      let ov ← eval o X.env
      standAt apos.atName
      let (f, first) ← holding [ov] (getMethod ov m pl)
      callWith pos f first (backTo pos (starEach [] X.env)) (backToKw pos (keywordEach [] X.env))) := by rfl) :
    DE X Φ W (.Call (.Attribute o m apos) [] [] pos) (fun σ H Q => te σ H fun x H1 => ∃ a dx fs, x = .ref a ∧ H1 a = some (.ins C dx fs) ∧ fs.lookup m = none ∧ spO X.K X.mg ps.length g (x :: dvs) H1 Q (WE W σ)) (mMeth0 Cn m g ps.length dd me) :=
  ⟨pe_methG0 ho.pe c hm F hr hb hd tk ht, fun σ ρ s G H Q P R hρ f hW h k => ho.sem σ ρ s G H _ _ R hρ f hW h fun d s1 v G1 H1 ⟨ns, fs, ed, hn, hl2, h1⟩ e1 f1 r1 => by
    subst ed
    have r1' := r1
    cases r1 with
    | ins mC hG hl rl =>
      rw [hC] at mC
      cases mC
      exact ⟨_, _, _, rfl, Frm.same f1 _ _ hG, zip_none hn, spO_of f1 (.cons r1' (hdd G1)) hl2 h1 (fun d s' v G' H' p q => k d s' v G' H' p (e1.trans q)) (hW.mono e1)⟩⟩
/-- C(e, ..): the instance as a tree, behind its __init__ -/
def kMake (P : D → OH → Prop) (x : Addr) : D → OH → Prop := fun d O2 => d = .non ∧ ∃ y, O2 x = some y ∧ P y.tree (O2.del x)
def mMake (C : Str) (g : WF) (k : Nat) (dd : List D) (n : MA OH) : ME OH := fun ρ O P R => n ρ O (fun ds O1 => (ds ++ dd).length + 1 = k ∧ ∀ x, O1 x = none → g (.loc x :: (ds ++ dd)) (O1.put x (.ins C [] [])) (kMake P x) R) R
theorem make_sem {Cn : Str} (hC : X.mg Cn = some (.ref C)) {O : OH} {G H : Hp} {vs : List V} {ds : List D} {Q : VK} {P : D → OH → Prop} {R : Exn → OH → Prop} {E : XK} (f : Φ O G H) (r : RpL X.K X.mg G vs ds) (l : ds.length + 1 = ps.length)
    (h : ∀ x, O x = none → g (.loc x :: ds) (O.put x (.ins Cn [] [])) (kMake P x) R)
    (k : ∀ (d : D) (s' : OH) (v : V) (G' H' : Hp), P d s' → Same G G' → Φ s' G' H' → Rp X.K X.mg G' v d → Q v H') (hE : ∀ (x : Exn) (s : OH) (G' H' : Hp) (cls : Value) (d : Option Addr), Same G G' → Φ s G' H' → ExR X.K X.mg G' cls d x → R x s → E cls d H') :
    ∀ x dx, H x = none → H dx = none → dx ≠ x → spO X.K X.mg ps.length g (.ref x :: vs) (upd (upd H dx (.own x)) x (.ins C dx [])) (fun v H2 => v = .non ∧ Q (.ref x) H2) E := fun x dx nx nd ne => by
  have gx : O x = none := by
    cases z : O x with
    | none => rfl
    | some y =>
      obtain ⟨_, o, q, _⟩ := FΦ.own f z
      rw [nx] at q
      cases q
  have s1 := same_new (o := HO.own x) ((Frm.same f).free nd)
  have f1 : Φ O (upd G dx (.own x)) (upd H dx (.own x)) := Frm.ext f nd
  have nx1 : upd H dx (.own x) x = none := by rw [upd_ne ne.symm]; exact nx
  have f2 := FΦ.new (o := .ins C dx []) f1 nx1 (.ins (vs := []) (ns := []) hC rfl .nil)
  refine spO_of f2 (.cons (.loc x) (r.mono s1)) (by rw [List.length_cons]; exact l) (h x gx) (fun d s' v G' H' ⟨ed, y, oy, p⟩ e2 f3 r3 => ?_) fun z s' G' H' cls d e2 f3 => hE z s' G' H' cls d (s1.trans e2) f3
  subst ed
  cases r3
  obtain ⟨G4, e4, f4, r4⟩ := FΦ.frz f3 oy
  exact ⟨rfl, k _ _ _ G4 H' p ((s1.trans e2).trans e4) f4 r4⟩
theorem de_make (M : Mk X.K C f) (hC : X.mg x = some (.ref C)) (F : FnG X.prog X.w X.K X.mg X.base k f fd ps g) (hr : Rm (k + 1) X) (hg : Gl X x) (hb : Binds X.K fd ps dflt) (hd : Vals dvs dflt) (hdd : ∀ G, RpL X.K X.mg G dvs dd) (tk : Takes X W)
    (ha : DA X Φ W (e :: es) ta n) (hdb : (x == ("__debug__" : Str)) = false := by decide) (he : starEach (e :: es) X.env = (false, eval e X.env) :: starEach es X.env := by rfl) (hpl : (backTo pos (starEach es X.env)).any (·.1) = false := by rfl) :
    DE X Φ W (.Call (.Name x p) (e :: es) [] pos) (fun σ H Q => ta σ H fun vs H1 => ∀ x dx, H1 x = none → H1 dx = none → dx ≠ x → spO X.K X.mg ps.length g (.ref x :: (vs ++ dvs)) (upd (upd H1 dx (.own x)) x (.ins C dx [])) (fun v H2 => v = .non ∧ Q (.ref x) H2) (WE W σ)) (mMake x g ps.length dd n) :=
  ⟨pe_makeG M F hr hg hC hb hd tk ha.pa hdb he hpl, fun σ ρ s G H Q P R hρ f hW h k => ha.sem σ ρ s G H _ _ R hρ f hW h fun ds s1 vs G1 H1 ⟨hl, h1⟩ e1 f1 r1 =>
    make_sem hC f1 (r1.app (hdd G1)) hl h1 (fun d s' v G' H' p q => k d s' v G' H' p (e1.trans q)) (hW.mono e1)⟩
end

/-! ### fields -/
def lookD (f : Str) : List Str → List D → Option D
  | n :: ns, d :: ds => if f = n then some d else lookD f ns ds
  | _, _ => none
theorem lookD_rp {K : PySem.W.Frag} {mg : Str → Option Value} {G : Hp} {f : Str} {d : D} : ∀ {ns : List Str} {vs : List V} {ds : List D}, RpL K mg G vs ds → lookD f ns ds = some d → ∃ v, (ns.zip vs).lookup f = some v ∧ Rp K mg G v d
  | [], _, _, _, h => by simp [lookD] at h
  | n :: ns, _, _, .nil, h => by simp [lookD] at h
  | n :: ns, _, _, .cons (v := v) r rl, h => by
    rw [List.zip_cons_cons, List.lookup_cons]
    unfold lookD at h
    by_cases q : f = n
    · rw [if_pos q] at h
      cases h
      have e : (f == n) = true := beq_iff_eq.mpr q
      rw [e]
      exact ⟨v, rfl, r⟩
    · rw [if_neg q] at h
      have e : (f == n) = false := beq_eq_false_iff_ne.mpr q
      rw [e]
      exact lookD_rp rl h
def mFld (C f : Str) (m : ME OH) : ME OH := fun ρ O P R => m ρ O (fun x O1 => ∃ ns ds d, x = .ins C ns ds ∧ lookD f ns ds = some d ∧ P d O1) R
/-- .. of an object of one's own -/
def mFldO (C f : Str) (m : ME OH) : ME OH := fun ρ O P R => m ρ O (fun x O1 => ∃ a ns ds d, x = .loc a ∧ O1 a = some (.ins C ns ds) ∧ lookD f ns ds = some d ∧ P d O1) R
section
variable {C : Addr} {Cn f : Str} {e : Expr} {te : TE} {m : ME OH} {pos : Pos}
theorem de_fld (c : Cls X.K C) (hC : X.mg Cn = some (.ref C)) (n : NoAttr X.K C f) (h : DE X Φ W e te m) (hb : attributeBase e f X.env (eval e X.env) = eval e X.env := by rfl) : DE X Φ W (.Attribute e f pos) (tFld X.K te f) (mFld Cn f m) :=
  ⟨pe_fld h.pe hb, fun σ ρ s G H Q P R hρ f0 hW hm k => h.sem σ ρ s G H _ _ R hρ f0 hW hm fun x s1 v G1 H1 ⟨ns, ds, d, ex, l, p⟩ e1 f1 r1 => by
    subst ex
    cases r1 with
    | ins mC hG hl rl =>
      rw [hC] at mC
      cases mC
      obtain ⟨u, hu, ru⟩ := lookD_rp rl l
      exact ⟨_, C, _, _, u, rfl, Frm.same f1 _ _ hG, c, n, hu, k d s1 u G1 H1 p e1 f1 ru⟩⟩
theorem de_fldO (c : Cls X.K C) (hC : X.mg Cn = some (.ref C)) (n : NoAttr X.K C f) (h : DE X Φ W e te m) (hb : attributeBase e f X.env (eval e X.env) = eval e X.env := by rfl) : DE X Φ W (.Attribute e f pos) (tFld X.K te f) (mFldO Cn f m) :=
  ⟨pe_fld h.pe hb, fun σ ρ s G H Q P R hρ f0 hW hm k => h.sem σ ρ s G H _ _ R hρ f0 hW hm fun x s1 v G1 H1 ⟨a, ns, ds, d, ex, oa, l, p⟩ e1 f1 r1 => by
    subst ex
    cases r1
    obtain ⟨_, o, ho, ro⟩ := FΦ.own f1 oa
    cases ro with
    | ins mC hl rl =>
      rw [hC] at mC
      cases mC
      obtain ⟨u, hu, ru⟩ := lookD_rp rl l
      exact ⟨_, C, _, _, u, rfl, ho, c, n, hu, k d s1 u G1 H1 p e1 f1 ru⟩⟩
/-- e.f = value, of an object of one's own -/
def putN (f : Str) : List Str → List Str
  | [] => [f]
  | n :: ns => if n = f then n :: ns else n :: putN f ns
def putD (f : Str) (y : D) : List Str → List D → List D
  | [], _ => [y]
  | n :: ns, d :: ds => if n = f then y :: ds else d :: putD f y ns ds
  | _ :: _, [] => []
theorem put_zip {K : PySem.W.Frag} {mg : Str → Option Value} {G : Hp} {f : Str} {v : V} {y : D} (r : Rp K mg G v y) : ∀ {ns : List Str} {vs : List V} {ds : List D}, ns.length = vs.length → RpL K mg G vs ds →
    ∃ us, putF f v (ns.zip vs) = (putN f ns).zip us ∧ (putN f ns).length = us.length ∧ RpL K mg G us (putD f y ns ds)
  | [], [], _, _, .nil => ⟨[v], rfl, rfl, .cons r .nil⟩
  | n :: ns, u :: vs, _, hl, .cons (d := d) a b => by
    unfold putN putD
    rw [List.zip_cons_cons]
    unfold putF
    by_cases q : n = f
    · rw [if_pos q, if_pos q, if_pos q]
      exact ⟨v :: vs, rfl, by simpa using hl, .cons r b⟩
    · rw [if_neg q, if_neg q, if_neg q]
      obtain ⟨us, h1, h2, h3⟩ := put_zip r (ns := ns) (by simpa using hl) b
      exact ⟨u :: us, by rw [h1]; rfl, by simpa using h2, .cons a h3⟩
def sFldD (C f : Str) (mo mv : ME OH) : MS OH := fun M ρ O => mv ρ O (fun y O1 => mo ρ O1 (fun x O2 => ∃ a ns ds, x = .loc a ∧ O2 a = some (.ins C ns ds) ∧ ns.length < 1000 ∧ M.nx ρ (O2.put a (.ins C (putN f ns) (putD f y ns ds)))) (fun x O2 => M.ex x ρ O2)) (fun x O1 => M.ex x ρ O1)
theorem ds_fld {o value : Expr} {pos' : Pos} {to tv : TE} {mo mv : ME OH} (c : Cls X.K C) (hC : X.mg Cn = some (.ref C)) (n : NoAttr X.K C f) (ho : DE X Φ W o to mo) (hv : DE X Φ W value tv mv) (hs : swapsWith value (some (.Attribute o f pos')) pos.line X.env = pure false := by rfl) :
    DS X Φ W (.Assign [.Attribute o f pos'] value pos) (sFld X.K to tv f) (sFldD Cn f mo mv) :=
  ⟨ps_fld ho.pe hv.pe hs, fun σ ρ s G H D M hρ f0 hm E => hv.sem σ ρ s G H _ _ _ hρ f0 (E.wsh hρ) hm fun y s1 v G1 H1 h1 e1 f1 r1 =>
    ho.sem σ ρ s1 G1 H1 _ _ _ (hρ.mono e1) f1 ((E.mono e1).wsh (hρ.mono e1)) h1 fun x s2 u G2 H2 ⟨a, ns, ds, ex, oa, hl, p⟩ e2 f2 r2 => by
      subst ex
      cases r2
      obtain ⟨_, ob, hob, ro⟩ := FΦ.own f2 oa
      cases ro with
      | ins mC hl2 rl =>
        rw [hC] at mC
        cases mC
        rename_i dx vs
        obtain ⟨us, q1, q2, q3⟩ := put_zip (f := f) (r1.mono e2) hl2 rl
        refine ⟨a, C, dx, _, rfl, hob, c, n, by rw [List.length_zip]; omega, ?_⟩
        rw [q1]
        exact E.nx σ ρ _ G2 _ p (e1.trans e2) ((hρ.mono e1).mono e2) (FΦ.put f2 oa (.ins hC q2 q3))⟩
end
end
end DL

set_option Elab.async false
set_option linter.all false
set_option maxRecDepth 100000
set_option maxHeartbeats 1000000
namespace DL
open PySem PySem.Spec PyProof.Rows L2

section
variable {K : PySem.W.Frag} {mg : Str → Option Value} {G H : Hp}
theorem rp_cut {lo hi : Option Int} {vs : List V} {ds : List D} (r : RpL K mg G vs ds) : RpL K mg G (cutV vs lo hi) ((ds.drop (HT.sIx ds.length 0 lo)).take (HT.sIx ds.length ds.length hi - HT.sIx ds.length 0 lo)) := by
  unfold cutV
  rw [r.len]
  exact (r.dr _).tk _
theorem rp_at {i : Int} {vs : List V} {ds : List D} {d : D} (r : RpL K mg G vs ds) (h : atI ds i = some d) : ∃ v, atI vs i = some v ∧ Rp K mg G v d := by
  unfold atI at h ⊢
  rw [r.len]
  cases e : ixN ds.length i with
  | none =>
    rw [e] at h
    cases h
  | some j =>
    rw [e] at h
    obtain ⟨v, a, b⟩ := r.at (i := j) h
    exact ⟨v, a, b⟩
end

section
variable {X : Cx}
/-! ### a + b -/
def wAdd : W2 := fun a b P => match a, b with
  | .int i, .int j => P (.int (i + j))
  | .str x, .str y => x.length + y.length ≤ sizeLine ∧ P (.str (x ++ y))
  | .lst x, .lst y => x.length + y.length ≤ sizeLine ∧ P (.lst (x ++ y))
  | .tup x, .tup y => x.length + y.length ≤ sizeLine ∧ P (.tup (x ++ y))
  | _, _ => False
theorem o_add : Op2 X (binaryOp .Add) (fun x y H Q => (∃ i j, x = .int i ∧ y = .int j ∧ Q (.int (i + j)) H) ∨ (∃ i j, x = .str i ∧ y = .str j ∧ i.length + j.length ≤ sizeLine ∧ Q (.str (i ++ j)) H) ∨ rCat x y H Q ∨ rCatA X.K x y H Q) wAdd := by
  refine ⟨op_add.or (op_add_str.or (op_cat.or op_catA)), fun x y a b G H Q P ra rb sm h k => ?_⟩
  cases a with
  | int i =>
    cases b with
    | int j =>
      cases ra
      cases rb
      exact .inl ⟨i, j, rfl, rfl, k _ _ G H h .refl (.int _)⟩
    | _ => exact h.elim
  | str i =>
    cases b with
    | str j =>
      cases ra
      cases rb
      exact .inr (.inl ⟨i, j, rfl, rfl, h.1, k _ _ G H h.2 .refl (.str _)⟩)
    | _ => exact h.elim
  | lst i =>
    cases b with
    | lst j =>
      cases ra with
      | lst ha la =>
        cases rb with
        | lst hb lb =>
          refine .inr (.inr (.inl ⟨_, _, _, _, rfl, rfl, sm _ _ ha, sm _ _ hb, by rw [la.len, lb.len]; exact h.1, fun p np => ?_⟩))
          exact k _ _ _ _ h.2 (.one np) (.lst upd_same ((la.app lb).mono (same_new (sm.free np))))
    | _ => exact h.elim
  | tup i =>
    cases b with
    | tup j =>
      have ra' := ra
      have rb' := rb
      cases ra with
      | tup ha la =>
        cases rb with
        | tup hb lb =>
          have l1 := la.len
          have l2 := lb.len
          refine .inr (.inr (.inr ⟨_, _, _, _, rfl, rfl, sqt_mono sm ha, sqt_mono sm hb, by rw [l1, l2]; exact h.1, fun e => ?_, fun _ e => ?_, fun _ _ p np => ?_⟩))
          · subst e
            cases la
            exact k _ _ G H h.2 .refl rb'
          · subst e
            cases lb
            refine k _ _ G H h.2 .refl ?_
            rw [List.append_nil]
            exact ra'
          · exact k _ _ _ _ h.2 (.one np) (.tup (SqT.of upd_same) ((la.app lb).mono (same_new (sm.free np))))
    | _ => exact h.elim
  | _ => exact h.elim
/-! ### ints -/
def wI (C : Int → Int → Prop) (g : Int → Int → D) : W2 := fun a b P => match a, b with
  | .int i, .int j => C i j ∧ P (g i j)
  | _, _ => False
theorem wI_sem {C : Int → Int → Prop} {gv : Int → Int → V} {g : Int → Int → D} (hg : ∀ G i j, Rp X.K X.mg G (gv i j) (g i j)) {f : Value → Value → Sem Value} (o : OpR X f (rI C gv)) : Op2 X f (rI C gv) (wI C g) := by
  refine ⟨o, fun x y a b G H Q P ra rb sm h k => ?_⟩
  cases a with
  | int i =>
    cases b with
    | int j =>
      cases ra
      cases rb
      exact ⟨i, j, rfl, rfl, h.1, k _ _ G H h.2 .refl (hg G i j)⟩
    | _ => exact h.elim
  | _ => exact h.elim
def wI0 (g : Int → Int → D) : W2 := fun a b P => match a, b with
  | .int i, .int j => P (g i j)
  | _, _ => False
theorem wI0_sem {gv : Int → Int → V} {g : Int → Int → D} (hg : ∀ G i j, Rp X.K X.mg G (gv i j) (g i j)) {f : Value → Value → Sem Value} (o : OpR X f (rI0 gv)) : Op2 X f (rI0 gv) (wI0 g) := by
  refine ⟨o, fun x y a b G H Q P ra rb sm h k => ?_⟩
  cases a with
  | int i =>
    cases b with
    | int j =>
      cases ra
      cases rb
      exact ⟨i, j, rfl, rfl, k _ _ G H h .refl (hg G i j)⟩
    | _ => exact h.elim
  | _ => exact h.elim
def wSub : W2 := wI0 fun i j => .int (i - j)
theorem o_sub : Op2 X (binaryOp .Sub) (rI0 fun i j => .int (i - j)) wSub := wI0_sem (fun G i j => .int _) op_sub
def wMod : W2 := wI (fun _ j => 0 < j) fun i j => .int (i % j)
theorem o_mod : Op2 X (binaryOp .Mod) (rI (fun _ j => 0 < j) fun i j => .int (i % j)) wMod := wI_sem (fun G i j => .int _) op_mod
def wDiv : W2 := wI CDivW fun i j => .int (i / j)
theorem o_div : Op2 X (binaryOp .FloorDiv) (rI CDivW fun i j => .int (i / j)) wDiv := wI_sem (fun G i j => .int _) op_fdivW
def wLt : W2 := wI0 fun i j => .bl (decide (i < j))
def wLe : W2 := wI0 fun i j => .bl (decide (i ≤ j))
def wGt : W2 := wI0 fun i j => .bl (decide (j < i))
def wGe : W2 := wI0 fun i j => .bl (decide (j ≤ i))
theorem o_lt : Op2 X (compareOp .Lt) (rI0 fun i j => .bl (decide (i < j))) wLt := wI0_sem (fun G i j => .bl _) op_lt
theorem o_le : Op2 X (compareOp .LtE) (rI0 fun i j => .bl (decide (i ≤ j))) wLe := wI0_sem (fun G i j => .bl _) op_le
theorem o_gt : Op2 X (compareOp .Gt) (rI0 fun i j => .bl (decide (j < i))) wGt := wI0_sem (fun G i j => .bl _) op_gt
theorem o_ge : Op2 X (compareOp .GtE) (rI0 fun i j => .bl (decide (j ≤ i))) wGe := wI0_sem (fun G i j => .bl _) op_ge
/-! ### a * b -/
def wMul : W2 := fun a b P => match a, b with
  | .int i, .int j => (CMul i j ∨ CMulW i j) ∧ P (.int (i * j))
  | .lst x, .int k => (-(2 ^ 63) ≤ k ∧ k < 2 ^ 63 ∧ x.length * k.toNat ≤ sizeLine) ∧ P (.lst (List.replicate k.toNat x).flatten)
  | .tup x, .int k => (x ≠ [] ∧ 2 ≤ k ∧ k ≤ 1000 ∧ x.length ≤ 1000) ∧ P (.tup (List.replicate k.toNat x).flatten)
  | _, _ => False
theorem o_mul : Op2 X (binaryOp .Mult) (fun x y H Q => rI CMul (fun i j => .int (i * j)) x y H Q ∨ rI CMulW (fun i j => .int (i * j)) x y H Q ∨ rRep x y H Q ∨ rRepT X.K x y H Q) wMul := by
  refine ⟨op_mul.or (op_mulW.or (op_rep.or op_repT)), fun x y a b G H Q P ra rb sm h k => ?_⟩
  cases a with
  | int i =>
    cases b with
    | int j =>
      cases ra
      cases rb
      rcases h.1 with c | c
      · exact .inl ⟨i, j, rfl, rfl, c, k _ _ G H h.2 .refl (.int _)⟩
      · exact .inr (.inl ⟨i, j, rfl, rfl, c, k _ _ G H h.2 .refl (.int _)⟩)
    | _ => exact h.elim
  | lst i =>
    cases b with
    | int j =>
      cases rb
      cases ra with
      | lst ha la =>
        refine .inr (.inr (.inl ⟨_, _, _, rfl, rfl, sm _ _ ha, h.1.1, h.1.2.1, by rw [la.len]; exact h.1.2.2, fun p np => ?_⟩))
        exact k _ _ _ _ h.2 (.one np) (.lst upd_same ((la.flat _).mono (same_new (sm.free np))))
    | _ => exact h.elim
  | tup i =>
    cases b with
    | int j =>
      cases rb
      cases ra with
      | tup ha la =>
        have l1 := la.len
        refine .inr (.inr (.inr ⟨_, _, _, rfl, rfl, sqt_mono sm ha, fun e => h.1.1 (by subst e; cases la; rfl), h.1.2.1, h.1.2.2.1, by rw [l1]; exact h.1.2.2.2, fun p np => ?_⟩))
        exact k _ _ _ _ h.2 (.one np) (.tup (SqT.of upd_same) ((la.flat _).mono (same_new (sm.free np))))
    | _ => exact h.elim
  | _ => exact h.elim
/-! ### == over trees without instances -/
mutual
def toPy : D → Option PyData
  | .non => some .none
  | .bl b => some (.bool b)
  | .int i => some (.int i)
  | .str x => some (.str x)
  | .lst ds => (toPyL ds).map .list
  | .tup ds => (toPyL ds).map .tuple
  | _ => none
def toPyL : List D → Option (List PyData)
  | [] => some []
  | d :: ds => match toPy d, toPyL ds with
    | some p, some ps => some (p :: ps)
    | _, _ => none
end
mutual
theorem rp_dp {K : PySem.W.Frag} {mg : Str → Option Value} {G H : Hp} (sm : Same G H) : ∀ {v : V} {d : D} {p : PyData}, Rp K mg G v d → toPy d = some p → Dp K H v p
  | _, _, _, .non, h => by
    simp only [toPy] at h
    cases h
    exact .non
  | _, _, _, .bl b, h => by
    simp only [toPy] at h
    cases h
    exact .bl b
  | _, _, _, .int b, h => by
    simp only [toPy] at h
    cases h
    exact .int b
  | _, _, _, .str b, h => by
    simp only [toPy] at h
    cases h
    exact .str b
  | _, _, _, .lst q r, h => by
    simp only [toPy, Option.map_eq_some_iff] at h
    obtain ⟨ps, h, rfl⟩ := h
    exact .lst (SqL.of (sm _ _ q)) (rpl_dp sm r h)
  | _, _, _, .tup q r, h => by
    simp only [toPy, Option.map_eq_some_iff] at h
    obtain ⟨ps, h, rfl⟩ := h
    exact .tup (sqt_mono sm q) (rpl_dp sm r h)
  | _, _, _, .dic _ _ _, h => by simp [toPy] at h
  | _, _, _, .ins _ _ _ _, h => by simp [toPy] at h
  | _, _, _, .frz _ _, h => by simp [toPy] at h
  | _, _, _, .loc _, h => by simp [toPy] at h
  | _, _, _, .cls _, h => by simp [toPy] at h
  | _, _, _, .ty _, h => by simp [toPy] at h
theorem rpl_dp {K : PySem.W.Frag} {mg : Str → Option Value} {G H : Hp} (sm : Same G H) : ∀ {vs : List V} {ds : List D} {ps : List PyData}, RpL K mg G vs ds → toPyL ds = some ps → DpAll K H vs ps
  | _, _, _, .nil, h => by
    simp only [toPyL] at h
    cases h
    exact .nil
  | _, _, _, .cons (d := d) (ds := ds) a b, h => by
    simp only [toPyL] at h
    cases e1 : toPy d with
    | none => simp [e1] at h
    | some p =>
      cases e2 : toPyL ds with
      | none => simp [e1, e2] at h
      | some ps =>
        simp [e1, e2] at h
        subst h
        exact .cons (rp_dp sm a e1) (rpl_dp sm b e2)
end
def wEq : W2 := fun a b P => ∃ p q, toPy a = some p ∧ toPy b = some q ∧ SeqAt.shaped p = true ∧ SeqAt.shaped q = true ∧ P (.bl (PyData.eqv p q))
def wNe : W2 := fun a b P => ∃ p q, toPy a = some p ∧ toPy b = some q ∧ SeqAt.shaped p = true ∧ SeqAt.shaped q = true ∧ P (.bl (!PyData.eqv p q))
theorem o_eq (hu : X.A.units + 64 < cLine) : Op2 X (compareOp .Eq) (rEqD X.K) wEq := by
  refine ⟨op_eqD hu, fun x y a b G H Q P ra rb sm ⟨p, q, h1, h2, h3, h4, h⟩ k => ?_⟩
  exact ⟨p, q, rp_dp sm ra h1, rp_dp sm rb h2, h3, h4, k _ _ G H h .refl (.bl _)⟩
theorem o_ne (hu : X.A.units + 64 < cLine) : Op2 X (compareOp .NotEq) (rNeD X.K) wNe := by
  refine ⟨op_neD hu, fun x y a b G H Q P ra rb sm ⟨p, q, h1, h2, h3, h4, h⟩ k => ?_⟩
  exact ⟨p, q, rp_dp sm ra h1, rp_dp sm rb h2, h3, h4, k _ _ G H h .refl (.bl _)⟩
/-! ### is None -/
def isNon : D → Bool
  | .non => true
  | _ => false
theorem rp_isNon {K : PySem.W.Frag} {mg : Str → Option Value} {G : Hp} {v : V} {d : D} (r : Rp K mg G v d) : decide (v = .non) = isNon d := by
  cases r <;> first | rfl | exact decide_eq_false (fun z => nomatch z)
def wIsN : W2 := fun a b P => b = .non ∧ P (.bl (isNon a))
def wNotN : W2 := fun a b P => b = .non ∧ P (.bl (!isNon a))
theorem o_isN : Op2 X (compareOp .Is) (fun x y H Q => y = .non ∧ Q (.bl (decide (x = .non))) H) wIsN := by
  refine ⟨op_isN, fun x y a b G H Q P ra rb sm ⟨e, h⟩ k => ?_⟩
  subst e
  cases rb
  exact ⟨rfl, by rw [rp_isNon ra]; exact k _ _ G H h .refl (.bl _)⟩
theorem o_notN : Op2 X (compareOp .IsNot) (fun x y H Q => y = .non ∧ Q (.bl (!decide (x = .non))) H) wNotN := by
  refine ⟨op_notN, fun x y a b G H Q P ra rb sm ⟨e, h⟩ k => ?_⟩
  subst e
  cases rb
  exact ⟨rfl, by rw [rp_isNon ra]; exact k _ _ G H h .refl (.bl _)⟩
end
end DL

set_option Elab.async false
set_option linter.all false
set_option maxRecDepth 100000
set_option maxHeartbeats 1000000
namespace DL
open PySem PySem.Spec PyProof.Rows L2

section
variable {X : Cx}
/-! ### built-ins -/
def wLen : WL := fun ds P => ∃ d, ds = [d] ∧ match d with
  | .lst x => P (.int x.length)
  | .tup x => P (.int x.length)
  | .frz x => P (.int x.length)
  | .str x => x.length ≤ sizeLine ∧ P (.int x.length)
  | _ => False
theorem f_len : Fn1 X (.builtin "len") (fun xs H Q => ∃ x n, xs = [x] ∧ LenV X.K x H n ∧ Q (.int n) H) wLen := by
  refine ⟨call_len, fun vs ds G H Q P r sm ⟨d, ed, h⟩ k => ?_⟩
  subst ed
  obtain ⟨v, rfl, r1⟩ := rpl1 r
  cases r1 with
  | lst a b => exact ⟨_, _, rfl, .inl ⟨_, SqL.of (sm _ _ a), b.len.symm⟩, k _ _ G H h .refl (.int _)⟩
  | tup a b => exact ⟨_, _, rfl, .inr ⟨_, sqt_mono sm a, b.len.symm⟩, k _ _ G H h .refl (.int _)⟩
  | frz a b => exact ⟨_, _, rfl, .inl ⟨_, sql_mono sm a.sql, b.len.symm⟩, k _ _ G H h .refl (.int _)⟩
  | str x => exact ⟨_, _, rfl, ⟨h.1, rfl⟩, k _ _ G H h.2 .refl (.int _)⟩
  | _ => exact h.elim
def wTuple : WL := fun ds P => (∃ x, ds = [.lst x] ∧ P (.tup x)) ∨ (∃ x, ds = [.tup x] ∧ P (.tup x))
theorem f_tuple : Fn1 X (.type "tuple") (fun xs H Q => ∃ p ys, xs = [.ref p] ∧ ((SqL X.K H p ys ∧ ∀ l, H l = none → Q (.ref l) (upd H l (.tup ys))) ∨ (SqT X.K H p ys ∧ Q (.ref p) H))) wTuple := by
  refine ⟨call_tuple_of, fun vs ds G H Q P r sm h k => ?_⟩
  rcases h with ⟨x, ed, h⟩ | ⟨x, ed, h⟩
  · subst ed
    obtain ⟨v, rfl, r1⟩ := rpl1 r
    cases r1 with
    | lst a b => exact ⟨_, _, rfl, .inl ⟨SqL.of (sm _ _ a), fun l nl => k _ _ _ _ h (.one nl) (.tup (SqT.of upd_same) (b.mono (same_new (sm.free nl))))⟩⟩
  · subst ed
    obtain ⟨v, rfl, r1⟩ := rpl1 r
    have r' := r1
    cases r1 with
    | tup a b => exact ⟨_, _, rfl, .inr ⟨sqt_mono sm a, k _ _ G H h .refl r'⟩⟩
def wList : WL := fun ds P => (∃ x, ds = [.lst x] ∧ P (.lst x)) ∨ (∃ x, ds = [.tup x] ∧ P (.lst x))
theorem f_list : Fn1 X (.type "list") (fun xs H Q => ∃ p ys, xs = [.ref p] ∧ (SqL X.K H p ys ∨ SqT X.K H p ys) ∧ ∀ l, H l = none → Q (.ref l) (upd H l (.lst ys))) wList := by
  refine ⟨call_list_of, fun vs ds G H Q P r sm h k => ?_⟩
  rcases h with ⟨x, ed, h⟩ | ⟨x, ed, h⟩
  · subst ed
    obtain ⟨v, rfl, r1⟩ := rpl1 r
    cases r1 with
    | lst a b => exact ⟨_, _, rfl, .inl (SqL.of (sm _ _ a)), fun l nl => k _ _ _ _ h (.one nl) (.lst upd_same (b.mono (same_new (sm.free nl))))⟩
  · subst ed
    obtain ⟨v, rfl, r1⟩ := rpl1 r
    cases r1 with
    | tup a b => exact ⟨_, _, rfl, .inr (sqt_mono sm a), fun l nl => k _ _ _ _ h (.one nl) (.lst upd_same (b.mono (same_new (sm.free nl))))⟩
def wAbs : WL := fun ds P => ∃ i, ds = [.int i] ∧ P (.int (if i < 0 then -i else i))
theorem f_abs : Fn1 X (.builtin "abs") (fun xs H Q => ∃ i, xs = [.int i] ∧ Q (.int (if i < 0 then -i else i)) H) wAbs := by
  refine ⟨call_abs, fun vs ds G H Q P r sm ⟨i, ed, h⟩ k => ?_⟩
  subst ed
  obtain ⟨v, rfl, r1⟩ := rpl1 r
  cases r1
  exact ⟨i, rfl, k _ _ G H h .refl (.int _)⟩
def wInt : WL := fun ds P => (∃ i, ds = [.int i] ∧ P (.int i)) ∨ ∃ b, ds = [.bl b] ∧ P (.int (if b then 1 else 0))
theorem f_int : Fn1 X (.type "int") (fun xs H Q => (∃ i, xs = [.int i] ∧ Q (.int i) H) ∨ ∃ k, xs = [.bl k] ∧ Q (.int (if k then 1 else 0)) H) wInt := by
  refine ⟨call_int1, fun vs ds G H Q P r sm h k => ?_⟩
  rcases h with ⟨i, ed, h⟩ | ⟨i, ed, h⟩
  · subst ed
    obtain ⟨v, rfl, r1⟩ := rpl1 r
    cases r1
    exact .inl ⟨i, rfl, k _ _ G H h .refl (.int _)⟩
  · subst ed
    obtain ⟨v, rfl, r1⟩ := rpl1 r
    cases r1
    exact .inr ⟨i, rfl, k _ _ G H h .refl (.int _)⟩
def wMax : WL := fun ds P => ∃ i j : Int, ds = [.int i, .int j] ∧ P (.int (if j > i then j else i))
def wMin : WL := fun ds P => ∃ i j : Int, ds = [.int i, .int j] ∧ P (.int (if j < i then j else i))
theorem f_max (hc : X.calm = true) : Fn1 X (.builtin "max") (fun xs H Q => ∃ i j, xs = [.int i, .int j] ∧ Q (.int (if j > i then j else i)) H) wMax := by
  refine ⟨call_max2 hc, fun vs ds G H Q P r sm ⟨i, j, ed, h⟩ k => ?_⟩
  subst ed
  obtain ⟨v, u, rfl, r1, q⟩ := rpl2 r
  cases r1
  cases q
  exact ⟨i, j, rfl, k _ _ G H h .refl (.int _)⟩
theorem f_min (hc : X.calm = true) : Fn1 X (.builtin "min") (fun xs H Q => ∃ i j, xs = [.int i, .int j] ∧ Q (.int (if j < i then j else i)) H) wMin := by
  refine ⟨call_min2 hc, fun vs ds G H Q P r sm ⟨i, j, ed, h⟩ k => ?_⟩
  subst ed
  obtain ⟨v, u, rfl, r1, q⟩ := rpl2 r
  cases r1
  cases q
  exact ⟨i, j, rfl, k _ _ G H h .refl (.int _)⟩
theorem rpl_bls {K : PySem.W.Frag} {mg : Str → Option Value} {G : Hp} : ∀ {bs : List Bool} {vs : List V}, RpL K mg G vs (bs.map D.bl) → vs = bs.map V.bl
  | [], _, .nil => rfl
  | b :: bs, _, .cons a r => by
    cases a
    rw [rpl_bls r]
    rfl
theorem rpl_ints {K : PySem.W.Frag} {mg : Str → Option Value} {G : Hp} : ∀ {bs : List Int} {vs : List V}, RpL K mg G vs (bs.map D.int) → vs = bs.map V.int
  | [], _, .nil => rfl
  | b :: bs, _, .cons a r => by
    cases a
    rw [rpl_ints r]
    rfl
def wAll : WL := fun ds P => ∃ bs : List Bool, ds = [.lst (bs.map D.bl)] ∧ P (.bl (bs.all id))
def wAny : WL := fun ds P => ∃ bs : List Bool, ds = [.lst (bs.map D.bl)] ∧ P (.bl (bs.any id))
def wSum : WL := fun ds P => ∃ ns : List Int, (ds = [.lst (ns.map D.int)] ∨ ds = [.frz (ns.map D.int)]) ∧ P (.int ns.sum)
theorem f_all (hc : X.calm = true) : Fn1 X (.builtin "all") (rAll X.K) wAll := by
  refine ⟨cr_all hc, fun vs ds G H Q P r sm ⟨bs, ed, h⟩ k => ?_⟩
  subst ed
  obtain ⟨v, rfl, r1⟩ := rpl1 r
  cases r1 with
  | lst a b =>
    cases rpl_bls b
    exact ⟨_, bs, rfl, SqL.of (sm _ _ a), k _ _ G H h .refl (.bl _)⟩
theorem f_any (hc : X.calm = true) : Fn1 X (.builtin "any") (rAny X.K) wAny := by
  refine ⟨cr_any hc, fun vs ds G H Q P r sm ⟨bs, ed, h⟩ k => ?_⟩
  subst ed
  obtain ⟨v, rfl, r1⟩ := rpl1 r
  cases r1 with
  | lst a b =>
    cases rpl_bls b
    exact ⟨_, bs, rfl, SqL.of (sm _ _ a), k _ _ G H h .refl (.bl _)⟩
theorem f_sum (hc : X.calm = true) : Fn1 X (.builtin "sum") (rSum X.K) wSum := by
  refine ⟨cr_sum hc, fun vs ds G H Q P r sm ⟨bs, ed, h⟩ k => ?_⟩
  rcases ed with ed | ed
  · subst ed
    obtain ⟨v, rfl, r1⟩ := rpl1 r
    cases r1 with
    | lst a b =>
      cases rpl_ints b
      exact ⟨_, bs, rfl, SqL.of (sm _ _ a), k _ _ G H h .refl (.int _)⟩
  · subst ed
    obtain ⟨v, rfl, r1⟩ := rpl1 r
    cases r1 with
    | frz a b =>
      cases rpl_ints b
      exact ⟨_, bs, rfl, sql_mono sm a.sql, k _ _ G H h .refl (.int _)⟩
/-! ### isinstance -/
def tyD : D → Option String
  | .non => some "NoneType"
  | .bl _ => some "bool"
  | .int _ => some "int"
  | .str _ => some "str"
  | .lst _ => some "list"
  | .tup _ => some "tuple"
  | .dic _ _ => some "dict"
  | .frz _ => some "list"
  | _ => none
theorem rp_tyX {K : PySem.W.Frag} {mg : Str → Option Value} {G H : Hp} (sm : Same G H) {v : V} {d : D} {n : String} (r : Rp K mg G v d) (h : tyD d = some n) : TyX K H v (.type n) := by
  cases r with
  | non => cases h; exact .base .non
  | bl b => cases h; exact .base (.bl b)
  | int b => cases h; exact .base (.int b)
  | str b => cases h; exact .base (.str b)
  | lst a b => cases h; exact .base (.lst (sm _ _ a))
  | tup a b =>
    cases h
    rcases sqt_mono sm a with (q | ⟨o, q⟩) | ⟨o, its, n, hk, hc, _⟩
    · exact .base (.tup q)
    · exact .fTuple q
    · exact .kTuple hk hc
  | dic a _ b => cases h; exact .base (.dK (sm _ _ a))
  | frz a b =>
    cases h
    rcases sql_mono sm a.sql with (q | ⟨o, q⟩) | ⟨o, its, n, hk, hc, _⟩
    · exact .base (.lst q)
    · exact .base (.frz q)
    · exact .kList hk hc
  | _ => cases h
/-- is a built-in type's value an instance of another: a table -/
def kitL (a : String) : List String → Option Bool
  | [] => some false
  | b :: bs => match kitB a b with
    | some true => some true
    | some false => kitL a bs
    | none => none
theorem kit_all {K : PySem.W.Frag} {a : String} : ∀ {l : List String} {r : Bool}, kitL a l = some r → PySem.W.kitAny K (.type a) (l.map Value.type) = some r
  | [], r, h => by
    simp only [kitL] at h
    cases h
    exact kitAny_nil
  | b :: bs, r, h => by
    simp only [kitL] at h
    cases e : kitB a b with
    | none => rw [e] at h; cases h
    | some q =>
      rw [e] at h
      refine kitAny_cons (b := q) (kit_ty e) (fun z => ?_) fun z => ?_
      · subst z
        exact kit_all h
      · subst z
        cases h
        rfl
/-- isinstance(x, T), isinstance(x, (T, U, ..)), the types built-in -/
def wIsi (l : List String) (d : D) (P : D → Prop) : Prop := ∃ n b, tyD d = some n ∧ kitL n l = some b ∧ P (.bl b)
theorem clsV_tys : ∀ l : List String, Paired ClsV (l.map V.ty) (l.map Value.type)
  | [] => .nil
  | t :: l => .cons (.ty t) (clsV_tys l)
def mIsi {S : Type} (l : List String) (m : ME S) : ME S := fun ρ s P R => m ρ s (fun d s1 => wIsi l d fun b => P b s1) R
section
variable {S : Type} {Φ : S → Hp → Hp → Prop} {W : WX} [Frm Φ]
theorem de_isiT {l : List String} {ts : List Expr} {tt : TA} {e : Expr} {te : TE} {m : ME S} {p p2 pos : Pos} {k : Nat} (hg : Gl X "isinstance") (hm : X.mg "isinstance" = none) (h : DE X Φ W e te m) (ht : PA X ts tt) (hl : ∀ (σ : Sig) (H : Hp) (Q : List V → Hp → Prop), Q (l.map V.ty) H → tt σ H Q)
    (hz : l.length ≤ sizeLine) (h1 : starEach [e, .Tuple ts k p2] X.env = (false, eval e X.env) :: starEach [.Tuple ts k p2] X.env := by rfl) (h2 : starEach [.Tuple ts k p2] X.env = (false, eval (.Tuple ts k p2) X.env) :: starEach [] X.env := by rfl) (hpl : (backTo pos (starEach [.Tuple ts k p2] X.env)).any (·.1) = false := by rfl) :
    DE X Φ W (.Call (.Name "isinstance" p) [e, .Tuple ts k p2] [] pos) (tCB (rIsiT X.K) (tCons te (tCons (tTup tt) tNil))) (mIsi l m) :=
  ⟨pe_callB call_isiT hg hm (by decide +kernel) (pa_cons h.pe (pa_cons (pe_tup ht) pa_nil h2) h1) (by decide) (by decide) h1 hpl, fun σ ρ s G H Q P R hρ f hW hmm k => by
    refine h.sem σ ρ s G H _ _ R hρ f hW hmm fun d s1 v G1 H1 ⟨n, b, h1, h2, h3⟩ e1 f1 r1 => ?_
    refine hl _ _ _ ⟨by rw [List.length_map]; exact hz, fun tp np => ?_⟩
    have r2 := r1.mono (same_new (o := .tup (l.map V.ty)) ((Frm.same f1).free np))
    refine ⟨v, tp, _, _, _, b, rfl, upd_same, clsV_tys l, rp_tyX (same_both (Frm.same f1) np) r2 h1, kit_all h2, ?_⟩
    exact k _ s1 _ _ _ h3 (e1.trans (same_new ((Frm.same f1).free np))) (Frm.ext f1 np) (.bl b)⟩
theorem de_isi {T : String} {e : Expr} {te : TE} {m : ME S} {p p2 pos : Pos} {x : Str} (hg : Gl X "isinstance") (hm : X.mg "isinstance" = none) (h : DE X Φ W e te m) (hT : PE X (.Name x p2) (tC (.ty T)))
    (h1 : starEach [e, .Name x p2] X.env = (false, eval e X.env) :: starEach [.Name x p2] X.env := by rfl) (h2 : starEach [.Name x p2] X.env = (false, eval (.Name x p2) X.env) :: starEach [] X.env := by rfl) (hpl : (backTo pos (starEach [.Name x p2] X.env)).any (·.1) = false := by rfl) :
    DE X Φ W (.Call (.Name "isinstance" p) [e, .Name x p2] [] pos) (tCB (rIsi X.K) (tCons te (tCons (tC (.ty T)) tNil))) (mIsi [T] m) :=
  ⟨pe_callB call_isi hg hm (by decide +kernel) (pa_cons h.pe (pa_cons hT pa_nil h2) h1) (by decide) (by decide) h1 hpl, fun σ ρ s G H Q P R hρ f hW hmm k => by
    refine h.sem σ ρ s G H _ _ R hρ f hW hmm fun d s1 v G1 H1 ⟨n, b, q1, q2, q3⟩ e1 f1 r1 => ?_
    refine ⟨v, _, _, _, b, rfl, .ty T, rp_tyX (Frm.same f1) r1 q1, ?_, k _ s1 _ G1 H1 q3 e1 f1 (.bl b)⟩
    simp only [kitL] at q2
    cases e : kitB n T with
    | none => rw [e] at q2; cases q2
    | some q =>
      rw [e] at q2
      cases q <;> (cases q2; exact kit_ty e)⟩
/-- a built-in type's name -/
theorem pe_tyn {x : Str} {T : String} {pos : Pos} (hg : Gl X x) (hm : X.mg x = none) (hv : bootBuiltins x = some (.type T)) (hn : x ≠ "__name__" := by decide) (hd : (x == ("__debug__" : Str)) = false := by decide) : PE X (.Name x pos) (tC (.ty T)) := pe_bltn hg hm hv rfl hn hd
end
/-- isinstance(x, C), C an own class: what it answers is told by the table -/
structure IsiC (K : PySem.W.Frag) (mg : Str → Option Value) (c : Addr) (tb : D → Option Bool) : Prop where
  yes : ∀ (G H : Hp) (v : V) (d : D) (b : Bool), Same G H → Rp K mg G v d → tb d = some b → ∃ t, TyX K H v t ∧ PySem.W.kitOne K t (.ref c) = some b
def mIsiC {S : Type} (tb : D → Option Bool) (m : ME S) : ME S := fun ρ s P R => m ρ s (fun d s1 => ∃ b, tb d = some b ∧ P (.bl b) s1) R
theorem de_isiC {S : Type} {Φ : S → Hp → Hp → Prop} {W : WX} [Frm Φ] {c : Addr} {tb : D → Option Bool} {e : Expr} {te : TE} {m : ME S} {p p2 pos : Pos} {x : Str} (T : IsiC X.K X.mg c tb) (hg : Gl X "isinstance") (hm : X.mg "isinstance" = none) (hgx : Gl X x) (hx : X.mg x = some (.ref c)) (h : DE X Φ W e te m) (hd : (x == ("__debug__" : Str)) = false := by decide)
    (h1 : starEach [e, .Name x p2] X.env = (false, eval e X.env) :: starEach [.Name x p2] X.env := by rfl) (h2 : starEach [.Name x p2] X.env = (false, eval (.Name x p2) X.env) :: starEach [] X.env := by rfl) (hpl : (backTo pos (starEach [.Name x p2] X.env)).any (·.1) = false := by rfl) :
    DE X Φ W (.Call (.Name "isinstance" p) [e, .Name x p2] [] pos) (tCB (rIsi X.K) (tCons te (tCons (tC (.ref c)) tNil))) (mIsiC tb m) :=
  ⟨pe_callB call_isi hg hm (by decide +kernel) (pa_cons h.pe (pa_cons (pe_glob hgx hx rfl hd) pa_nil h2) h1) (by decide) (by decide) h1 hpl, fun σ ρ s G H Q P R hρ f hW hmm k => by
    refine h.sem σ ρ s G H _ _ R hρ f hW hmm fun d s1 v G1 H1 ⟨b, q1, q3⟩ e1 f1 r1 => ?_
    obtain ⟨t, ty, kt⟩ := T.yes G1 H1 v d b (Frm.same f1) r1 q1
    exact ⟨v, _, t, _, b, rfl, .own c, ty, kt, k _ s1 _ G1 H1 q3 e1 f1 (.bl b)⟩⟩
/-! ### places and cuts -/
def wIx : W2 := fun a b P => ∃ i : Int, b = .int i ∧ match a with
  | .lst x => ∃ d, atI x i = some d ∧ P d
  | .tup x => ∃ d, atI x i = some d ∧ P d
  | .frz x => ∃ d, atI x i = some d ∧ P d
  | _ => False
structure Ix2 (X : Cx) (r : R2) (w : W2) : Prop where
  ix : IxR X r
  sem : ∀ (x y : V) (a b : D) (G H : Hp) (Q : VK) (P : D → Prop), Rp X.K X.mg G x a → Rp X.K X.mg G y b → Same G H → w a b P → (∀ (d : D) (v : V) (G' H' : Hp), P d → Ext G H G' H' → Rp X.K X.mg G' v d → Q v H') → r x y H Q
theorem x_seq : Ix2 X (rIx X.K) wIx := by
  refine ⟨ix_seq, fun x y a b G H Q P ra rb sm ⟨i, eb, h⟩ k => ?_⟩
  subst eb
  cases rb
  cases ra with
  | lst p q =>
    obtain ⟨d, e, h⟩ := h
    obtain ⟨v, hv, rv⟩ := rp_at q e
    exact .inl ⟨_, _, i, v, rfl, rfl, SqL.of (sm _ _ p), hv, k _ _ G H h .refl rv⟩
  | tup p q =>
    obtain ⟨d, e, h⟩ := h
    obtain ⟨v, hv, rv⟩ := rp_at q e
    exact .inr (.inl ⟨_, _, i, v, rfl, rfl, sqt_mono sm p, hv, k _ _ G H h .refl rv⟩)
  | frz p q =>
    obtain ⟨d, e, h⟩ := h
    obtain ⟨v, hv, rv⟩ := rp_at q e
    exact .inl ⟨_, _, i, v, rfl, rfl, sql_mono sm p.sql, hv, k _ _ G H h .refl rv⟩
  | _ => exact h.elim
theorem de_ix {S : Type} {Φ : S → Hp → Hp → Prop} {W : WX} [Frm Φ] {te tb : TE} {r : R2} {w : W2} {a b : Expr} {ma mb : ME S} {pos : Pos} (o : Ix2 X r w) (ha : DE X Φ W a te ma) (hb : DE X Φ W b tb mb) (hs : PlainIx b := by exact fun _ _ => rfl) : DE X Φ W (.Subscript a b pos) (tOp r te tb) (mBin w ma mb) :=
  ⟨pe_ix o.ix ha.pe hb.pe hs, fun σ ρ s G H Q P R hρ f hW h k => by
    refine ha.sem σ ρ s G H _ _ R hρ f hW h fun x s1 u G1 H1 h1 e1 f1 r1 => ?_
    refine hb.sem σ ρ s1 G1 H1 _ _ R (hρ.mono e1) f1 (hW.mono e1) h1 fun y s2 v G2 H2 h2 e2 f2 r2 => ?_
    refine o.sem u v x y G2 H2 _ _ (r1.mono e2) r2 (Frm.same f2) h2 fun d z G3 H3 p x3 r3 => ?_
    exact k d s2 z G3 H3 p ((e1.trans e2).trans (x3.out (Frm.same f2)).1) (Frm.exts x3 f2) r3⟩
abbrev MO (S : Type) := Rho → S → (Option Int → S → Prop) → (Exn → S → Prop) → Prop
structure DO1 {S : Type} (X : Cx) (Φ : S → Hp → Hp → Prop) (W : WX) (e : Option Expr) (t : TO) (m : MO S) : Prop where
  po : PO X e t
  sem : ∀ (σ : Sig) (ρ : Rho) (s : S) (G H : Hp) (Q : Option Int → Hp → Prop) (P : Option Int → S → Prop) (R : Exn → S → Prop), RelE X.K X.mg G σ ρ → Φ s G H → Wsh X.K X.mg Φ W G σ R → m ρ s P R →
    (∀ (i : Option Int) (s' : S) (G' H' : Hp), P i s' → Same G G' → Φ s' G' H' → Q i H') → t σ H Q
section
variable {S : Type} {Φ : S → Hp → Hp → Prop} {W : WX} [Frm Φ]
def mPn : MO S := fun _ s P _ => P none s
def mPs (m : ME S) : MO S := fun ρ s P R => m ρ s (fun d s1 => ∃ i, d = .int i ∧ P (some i) s1) R
theorem do_none : DO1 X Φ W none tNoPart (mPn : MO S) := ⟨po_none, fun σ ρ s G H Q P R hρ f hW h k => k none s G H h (Same.refl _) f⟩
theorem do_some {e : Expr} {te : TE} {m : ME S} (h : DE X Φ W e te m) : DO1 X Φ W (some e) (tPart te) (mPs m) :=
  ⟨po_some h.pe, fun σ ρ s G H Q P R hρ f hW hm k => h.sem σ ρ s G H _ _ R hρ f hW hm fun d s1 v G1 H1 ⟨i, ed, p⟩ e1 f1 r1 => by
    subst ed
    cases r1
    exact ⟨i, rfl, k _ s1 G1 H1 p e1 f1⟩⟩
def cutD (ds : List D) (lo hi : Option Int) : List D := (ds.drop (HT.sIx ds.length 0 lo)).take (HT.sIx ds.length ds.length hi - HT.sIx ds.length 0 lo)
def wCut (a : D) (lo hi : Option Int) (P : D → Prop) : Prop := match a with
  | .lst x => P (.lst (cutD x lo hi))
  | .tup x => P (.tup (cutD x lo hi))
  | .frz x => P (.lst (cutD x lo hi))
  | _ => False
def mSl (m : ME S) (l h : MO S) : ME S := fun ρ s P R => m ρ s (fun a s1 => l ρ s1 (fun i s2 => h ρ s2 (fun j s3 => wCut a i j fun d => P d s3) R) R) R
theorem cut_whole {ds : List D} {lo hi : Option Int} (h : HT.sIx ds.length 0 lo = 0 ∧ HT.sIx ds.length ds.length hi = ds.length) : cutD ds lo hi = ds := by
  unfold cutD
  rw [h.1, h.2]
  simp
theorem de_sl {e : Expr} {lo hi : Option Expr} {te : TE} {tl th : TO} {m : ME S} {l h : MO S} {pos p2 : Pos} (he : DE X Φ W e te m) (hl : DO1 X Φ W lo tl l) (hh : DO1 X Φ W hi th h) :
    DE X Φ W (.Subscript e (.Slice lo hi none p2) pos) (tSl (fun x lo hi H Q => rSlL X.K x lo hi H Q ∨ rSlA X.K x lo hi H Q) te tl th) (mSl m l h) :=
  ⟨pe_slice (SlR.or sl_list sl_tupA) he.pe hl.po hh.po, fun σ ρ s G H Q P R hρ f hW hm k => by
    refine he.sem σ ρ s G H _ _ R hρ f hW hm fun a s1 v G1 H1 h1 e1 f1 r1 => ?_
    refine hl.sem σ ρ s1 G1 H1 _ _ R (hρ.mono e1) f1 (hW.mono e1) h1 fun i s2 G2 H2 h2 e2 f2 => ?_
    refine hh.sem σ ρ s2 G2 H2 _ _ R ((hρ.mono e1).mono e2) f2 (hW.mono (e1.trans e2)) h2 fun j s3 G3 H3 h3 e3 f3 => ?_
    have sm := Frm.same f3
    have r3 := r1.mono (e2.trans e3)
    have e13 := (e1.trans e2).trans e3
    cases r1 with
    | lst p q =>
      cases r3 with
      | lst p q => exact .inl ⟨_, _, rfl, SqL.of (sm _ _ p), fun z nz => k _ s3 _ _ _ h3 (e13.trans (same_new (sm.free nz))) (Frm.ext f3 nz) (.lst upd_same ((rp_cut q).mono (same_new (sm.free nz))))⟩
    | frz p q =>
      cases r3 with
      | frz p q => exact .inl ⟨_, _, rfl, sql_mono sm p.sql, fun z nz => k _ s3 _ _ _ h3 (e13.trans (same_new (sm.free nz))) (Frm.ext f3 nz) (.lst upd_same ((rp_cut q).mono (same_new (sm.free nz))))⟩
    | tup p q =>
      have r4 := r3
      cases r3 with
      | tup p q =>
        have hlen := q.len
        refine .inr ⟨_, _, rfl, sqt_mono sm p, fun hw => ?_, fun hw z nz => k _ s3 _ _ _ h3 (e13.trans (same_new (sm.free nz))) (Frm.ext f3 nz) (.tup (SqT.of upd_same) ((rp_cut q).mono (same_new (sm.free nz))))⟩
        rw [hlen] at hw
        have ew := cut_whole hw
        refine k _ s3 _ G3 H3 h3 e13 f3 ?_
        rw [ew]
        exact r4
    | _ => exact h3.elim⟩
end
end
end DL

set_option Elab.async false
set_option linter.all false
set_option maxRecDepth 100000
set_option maxHeartbeats 1000000
namespace DL
open PySem PySem.Spec PyProof.Rows L2

/-! ### repr -/
mutual
/-- a tree's datum, an empty dict too -/
def toPd : D → Option PyData
  | .non => some .none
  | .bl b => some (.bool b)
  | .int i => some (.int i)
  | .str x => some (.str x)
  | .lst ds => (toPdL ds).map .list
  | .tup ds => (toPdL ds).map .tuple
  | .dic [] [] => some (.dict [])
  | _ => none
def toPdL : List D → Option (List PyData)
  | [] => some []
  | d :: ds => match toPd d, toPdL ds with
    | some p, some ps => some (p :: ps)
    | _, _ => none
end
section
variable {X : Cx} {pins : List (Addr × Obj)} {σ : Sig} {G H : Hp} {s : Shared} {mg : Str → Option Value}
theorem not_mods (hk : ∃ mm, X.base.Ns sysModules mm) (I : Inv X pins σ H s) {a : Addr} {o : HO} (h : H a = some o) : a ≠ sysModules := fun e => by
  obtain ⟨mm, ob, es, ep, hk, _⟩ := hk
  have q := (I.bs _ _ hk).2
  rw [e] at h
  rw [h] at q
  cases q
mutual
theorem rp_reads (hk : ∃ mm, X.base.Ns sysModules mm) (I : Inv X pins σ H s) (sm : Same G H) : ∀ {v : V} {d : D} {p : PyData} {u : Value}, Rp X.K mg G v d → toPd d = some p → RelV v u → ∃ as, Reads s.heap u p as ∧ sysModules ∉ as
  | _, _, _, _, .non, h, r => by
    simp only [toPd] at h
    cases h
    cases r
    exact ⟨_, .none, by simp⟩
  | _, _, _, _, .bl b, h, r => by
    simp only [toPd] at h
    cases h
    cases r
    exact ⟨_, .bool b, by simp⟩
  | _, _, _, _, .int b, h, r => by
    simp only [toPd] at h
    cases h
    obtain ⟨t, rfl⟩ := r
    exact ⟨_, .int b t, by simp⟩
  | _, _, _, _, .str b, h, r => by
    simp only [toPd] at h
    cases h
    obtain ⟨t, rfl⟩ := r
    exact ⟨_, .str b t, by simp⟩
  | _, _, _, _, .lst q rl, h, r => by
    simp only [toPd, Option.map_eq_some_iff] at h
    obtain ⟨ps, h, rfl⟩ := h
    cases r
    obtain ⟨its, rv, ⟨o, n, ho, hc, _, hd⟩, _⟩ := I.list (SqL.of (sm _ _ q))
    obtain ⟨as, hr, hn⟩ := rpl_reads hk I sm rl h rv
    exact ⟨_, .list ho hc hd hr, by simp only [List.mem_cons, not_or]; exact ⟨fun e => not_mods hk I (sm _ _ q) e.symm, hn⟩⟩
  | _, _, _, _, .tup q rl, h, r => by
    simp only [toPd, Option.map_eq_some_iff] at h
    obtain ⟨ps, h, rfl⟩ := h
    cases r
    obtain ⟨its, rv, ⟨o, ho, hc, n, hd⟩, _⟩ := I.tuple (sqt_mono sm q)
    obtain ⟨as, hr, hn⟩ := rpl_reads hk I sm rl h rv
    exact ⟨_, .tuple ho hc hd hr, hn⟩
  | _, _, _, _, .dic (ks := ks) (vs := vs) (ds := ds) q l rl, h, r => by
    cases ks with
    | cons _ _ => simp [toPd] at h
    | nil =>
      cases ds with
      | cons _ _ => simp [toPd] at h
      | nil =>
        simp only [toPd] at h
        cases h
        cases r
        obtain ⟨_, hm, vs', hkv, o, es, ep, ho, hex, hd, _, hpr, _⟩ := I.hok _ _ (sm _ _ q)
        cases vs with
        | cons _ _ => exact absurd l (by simp)
        | nil =>
          cases hkv
          have e0 : es.toList = [] := by
            generalize es.toList = l at hpr
            cases hpr
            rfl
          have ra : ReadsAll s.heap (es.toList.map fun x => x.key) (([] : List (PyData × PyData)).map fun x => x.1) [] := by
            rw [e0]
            exact .nil
          have rb : ReadsAll s.heap (es.toList.map fun x => x.val) (([] : List (PyData × PyData)).map fun x => x.2) [] := by
            rw [e0]
            exact .nil
          refine ⟨_, Reads.dict (kvs := []) ho hex.1 hd ra rb, fun hx => ?_⟩
          have hx := List.mem_singleton.mp hx
          rw [← hx] at hm
          simp at hm
  | _, _, _, _, .ins _ _ _ _, h, _ => by simp [toPd] at h
  | _, _, _, _, .frz _ _, h, _ => by simp [toPd] at h
  | _, _, _, _, .loc _, h, _ => by simp [toPd] at h
  | _, _, _, _, .cls _, h, _ => by simp [toPd] at h
  | _, _, _, _, .ty _, h, _ => by simp [toPd] at h
theorem rpl_reads (hk : ∃ mm, X.base.Ns sysModules mm) (I : Inv X pins σ H s) (sm : Same G H) : ∀ {vs : List V} {ds : List D} {ps : List PyData} {us : List Value}, RpL X.K mg G vs ds → toPdL ds = some ps → Vals vs us → ∃ as, ReadsAll s.heap us ps as ∧ sysModules ∉ as
  | _, _, _, _, .nil, h, r => by
    simp only [toPdL] at h
    cases h
    cases r
    exact ⟨_, .nil, by simp⟩
  | _, _, _, _, .cons (d := d) (ds := ds) a b, h, r => by
    simp only [toPdL] at h
    cases e1 : toPd d with
    | none => simp [e1] at h
    | some p =>
      cases e2 : toPdL ds with
      | none => simp [e1, e2] at h
      | some ps =>
        simp [e1, e2] at h
        subst h
        cases r with
        | cons r1 r2 =>
          obtain ⟨as, h1, n1⟩ := rp_reads hk I sm a e1 r1
          obtain ⟨bs, h2, n2⟩ := rpl_reads hk I sm b e2 r2
          exact ⟨_, .cons h1 h2, by simp only [List.mem_append, not_or]; exact ⟨n1, n2⟩⟩
end
end
def wRepr : WL := fun ds P => ∃ d p, ds = [d] ∧ toPd d = some p ∧ p.showable = true ∧ p.depth ≤ 60 ∧ p.shown.length ≤ sizeLine ∧ P (.str p.shown)
/-- repr by values: any datum -/
def rRepr (K : PySem.W.Frag) (mg : Str → Option Value) : List V → Hp → VK → Prop := fun vs H Q => ∃ (v : V) (d : D) (p : PyData) (G : Hp), vs = [v] ∧ Same G H ∧ Rp K mg G v d ∧ toPd d = some p ∧ p.showable = true ∧ p.depth ≤ 60 ∧ p.shown.length ≤ sizeLine ∧ Q (.str p.shown) H
section
variable {X : Cx}
theorem reprObj_any {pins : List (Addr × Obj)} {σ : Sig} {H : Hp} {s : Shared} {v : V} {u : Value} {d : D} {p : PyData} {G : Hp} {Q : Value → Shared → Prop} (hk : ∃ mm, X.base.Ns sysModules mm) (hg : X.A.guards = some []) (hu : X.A.units + 64 < cLine) (I : Inv X pins σ H s) (ru : RelV v u) (sm : Same G H) (r : Rp X.K X.mg G v d) (hp : toPd d = some p)
    (hs : p.showable = true) (hd : p.depth ≤ 60) (hz : p.shown.length ≤ sizeLine) (q : ∀ t s', Inv X pins σ H s' → Q (.str p.shown t) s') : wpAny (model X.prog X.w) X.A (pyReprObj u) Q X.xe s := by
  obtain ⟨as, rd, hn⟩ := rp_reads hk I sm r hp ru
  cases rd with
  | none => exact pyReprObj_none (q _ _ (I.tok _))
  | bool b => exact pyReprObj_bool (q _ _ (I.tok _))
  | int i t => exact pyReprObj_int (by simpa [PyData.showable] using hs) (q _ _ (I.tok _))
  | str x t => exact pyReprObj_str (q _ _ (I.tok _)) (by simpa [PyData.shown] using hz)
  | list a b c e =>
    exact pyReprObj_of_reads (.list a b c e) hs (fun _ => hn) hg (by omega) (fun _ _ h => h) (fun h' t tk k => q t _ (I.kept k)) hz
  | tuple a b c e =>
    exact pyReprObj_of_reads (.tuple a b c e) hs (fun _ => hn) hg (by omega) (fun _ _ h => h) (fun h' t tk k => q t _ (I.kept k)) hz
  | dict a b c e f =>
    exact pyReprObj_of_reads (.dict a b c e f) hs (fun _ => hn) hg (by omega) (fun _ _ h => h) (fun h' t tk k => q t _ (I.kept k)) hz
theorem cr_repr (hk : ∃ mm, X.base.Ns sysModules mm) (hg : X.A.guards = some []) (hu : X.A.units + 64 < cLine) : CallR X (.builtin "repr") (rRepr X.K X.mg) := by
  intro pins s σ H vs us Q I r h
  obtain ⟨v, d, p, G, rfl, sm, rd, hp, hs, hd, hz, q⟩ := h
  obtain ⟨u, rfl, ru⟩ := vals1 r
  obtain ⟨as, rr, hn⟩ := rp_reads hk I sm rd hp ru
  have fin : ∀ (t : Tok) (h' : Heap) (tk : Nat), (∀ b o, s.heap.get? b = some o → h'.get? b = some o) → EP X pins σ Q (.str p.shown t) { s with heap := h', toks := tk } := fun t h' tk k => ⟨.str p.shown, H, I.kept k, ⟨t, rfl⟩, q⟩
  cases rr with
  | none => exact P.repr_of_none (fin _ _ _ fun _ _ h => h)
  | bool b => exact P.repr_of_bool (fin _ _ _ fun _ _ h => h)
  | int i t => exact P.repr_of_int (by simpa [PyData.showable] using hs) (fin _ _ _ fun _ _ h => h)
  | str x t => exact P.repr_of_str (fin _ _ _ fun _ _ h => h) (by simpa [PyData.shown] using hz)
  | list a b c e => exact repr_of_reads' (.list a b c e) hs (fun _ => hn) hg (by omega) (fun _ _ h => h) (fun h' t tk k => fin t h' tk k) hz
  | tuple a b c e => exact repr_of_reads' (.tuple a b c e) hs (fun _ => hn) hg (by omega) (fun _ _ h => h) (fun h' t tk k => fin t h' tk k) hz
  | dict a b c e f => exact repr_of_reads' (.dict a b c e f) hs (fun _ => hn) hg (by omega) (fun _ _ h => h) (fun h' t tk k => fin t h' tk k) hz
theorem f_repr (hk : ∃ mm, X.base.Ns sysModules mm) (hg : X.A.guards = some []) (hu : X.A.units + 64 < cLine) : Fn1 X (.builtin "repr") (rRepr X.K X.mg) wRepr := by
  refine ⟨cr_repr hk hg hu, fun vs ds G H Q P r sm ⟨d, p, ed, h1, h2, h3, h4, h⟩ k => ?_⟩
  subst ed
  obtain ⟨v, rfl, r1⟩ := rpl1 r
  exact ⟨v, d, p, G, rfl, sm, r1, h1, h2, h3, h4, k _ _ G H h .refl (.str _)⟩
end
end DL

set_option Elab.async false
set_option linter.all false
set_option maxRecDepth 100000
set_option maxHeartbeats 1000000
namespace DL
open PySem PySem.Spec PyProof.Rows L2

/-! ### f-strings -/
section
variable {S : Type} {X : Cx} {Φ : S → Hp → Hp → Prop} {W : WX} [Frm Φ]
/-- {x!r} -/
def tShow (K : PySem.W.Frag) (mg : Str → Option Value) (te : TE) : TE := fun σ H Q => te σ H fun v H1 => ∃ (d : D) (p : PyData) (G : Hp), Same G H1 ∧ Rp K mg G v d ∧ toPd d = some p ∧ p.showable = true ∧ p.depth ≤ 60 ∧ p.shown.length ≤ sizeLine ∧ Q (.str p.shown) H1
def mShow (m : ME S) : ME S := fun ρ s P R => m ρ s (fun d s1 => ∃ p, toPd d = some p ∧ p.showable = true ∧ p.depth ≤ 60 ∧ p.shown.length ≤ sizeLine ∧ P (.str p.shown) s1) R
theorem de_show {e : Expr} {te : TE} {m : ME S} {pos : Pos} (hk : ∃ mm, X.base.Ns sysModules mm) (hg : X.A.guards = some []) (hu : X.A.units + 64 < cLine) (h : DE X Φ W e te m) : DE X Φ W (.FormattedValue e 114 none pos) (tShow X.K X.mg te) (mShow m) := by
  refine ⟨⟨fun pins s σ H Q I hh => ?_⟩, fun σ ρ s G H Q P R hρ f hW hm k => h.sem σ ρ s G H _ _ R hρ f hW hm fun d s1 v G1 H1 ⟨p, h1, h2, h3, h4, h5⟩ e1 f1 r1 => ⟨d, p, G1, Frm.same f1, r1, h1, h2, h3, h4, k _ s1 _ G1 H1 h5 e1 f1 (.str _)⟩⟩
  refine wpAny_FormattedValue_repr (thn (h.pe.run pins s σ H _ I hh) fun u s1 ⟨v, H1, I1, rv, d, p, G, sm, rd, hp, hs, hd, hz, q⟩ => ?_)
  refine reprObj_any hk hg hu I1 rv sm rd hp hs hd hz fun t s' I' => ?_
  exact wpAny_formatField_str ⟨.str p.shown, H1, I', ⟨_, rfl⟩, q⟩ ⟨.str p.shown, H1, I'.tok _, ⟨_, rfl⟩, q⟩ hz
inductive DJ (X : Cx) (Φ : S → Hp → Hp → Prop) (W : WX) : List Expr → List TE → List (ME S) → Prop
  | nil : DJ X Φ W [] [] []
  | cons {e : Expr} {te : TE} {m : ME S} {es : List Expr} {ts : List TE} {ms : List (ME S)} : DE X Φ W e te m → DJ X Φ W es ts ms → DJ X Φ W (e :: es) (te :: ts) (m :: ms)
theorem DJ.pj {es : List Expr} {ts : List TE} {ms : List (ME S)} (h : DJ X Φ W es ts ms) : PJ X es ts := by
  induction h with
  | nil => exact .nil
  | cons a _ ih => exact .cons a.pe ih
def mJs : List (ME S) → Str → Rho → S → (Str → S → Prop) → (Exn → S → Prop) → Prop
  | [], acc, _, s, P, _ => P acc s
  | m :: ms, acc, ρ, s, P, R => m ρ s (fun d s1 => ∃ y, d = .str y ∧ (acc ++ y).length ≤ sizeLine ∧ mJs ms (acc ++ y) ρ s1 P R) R
theorem js_sem {es : List Expr} {ts : List TE} {ms : List (ME S)} (h : DJ X Φ W es ts ms) : ∀ (acc : Str) (σ : Sig) (ρ : Rho) (s : S) (G H : Hp) (Q : Str → Hp → Prop) (P : Str → S → Prop) (R : Exn → S → Prop), RelE X.K X.mg G σ ρ → Φ s G H → Wsh X.K X.mg Φ W G σ R → mJs ms acc ρ s P R →
    (∀ (y : Str) (s' : S) (G' H' : Hp), P y s' → Same G G' → Φ s' G' H' → Q y H') → tJs ts acc σ H Q := by
  induction h with
  | nil => exact fun acc σ ρ s G H Q P R hρ f hW h k => k acc s G H h (Same.refl _) f
  | cons a _ ih =>
    intro acc σ ρ s G H Q P R hρ f hW h k
    refine a.sem σ ρ s G H _ _ R hρ f hW h fun d s1 v G1 H1 ⟨y, ed, hl, h1⟩ e1 f1 r1 => ?_
    subst ed
    cases r1
    exact ⟨y, rfl, hl, ih _ σ ρ s1 G1 H1 Q P R (hρ.mono e1) f1 (hW.mono e1) h1 fun z s' G' H' p q => k z s' G' H' p (e1.trans q)⟩
def mJoin (ms : List (ME S)) : ME S := fun ρ s P R => mJs ms Str.empty ρ s (fun y s1 => P (.str y) s1) R
theorem de_join {v1 v2 : Expr} {rest : List Expr} {ts : List TE} {ms : List (ME S)} {pos : Pos} (h : DJ X Φ W (v1 :: v2 :: rest) ts ms) : DE X Φ W (.JoinedStr (v1 :: v2 :: rest) pos) (fun σ H Q => tJs ts Str.empty σ H fun out H1 => Q (.str out) H1) (mJoin ms) :=
  ⟨pe_joined h.pj, fun σ ρ s G H Q P R hρ f hW hm k => js_sem h Str.empty σ ρ s G H _ _ R hρ f hW hm fun y s' G' H' p q f' => k _ s' _ G' H' p q f' (.str y)⟩
end

section
variable {X : Cx} {Φ : OH → Hp → Hp → Prop} {W : WX} [FΦ : OFrm X.K X.mg Φ]
/-! ### one's own lists -/
def mLstO (n : MA OH) : ME OH := fun ρ O P R => n ρ O (fun ds O1 => ds.length ≤ sizeLine ∧ ∀ p, O1 p = none → P (.loc p) (O1.put p (.lst ds))) R
include FΦ in
theorem own_free {O : OH} {G H : Hp} {p : Addr} (f : Φ O G H) (n : H p = none) : O p = none := by
  cases z : O p with
  | none => rfl
  | some y =>
    obtain ⟨_, o, q, _⟩ := FΦ.own f z
    rw [n] at q
    cases q
theorem de_lstO {es : List Expr} {ta : TA} {n : MA OH} {pos : Pos} (h : DA X Φ W es ta n) : DE X Φ W (.List es pos) (tLst ta) (mLstO n) :=
  ⟨pe_lst h.pa, fun σ ρ s G H Q P R hρ f hW hm k => h.sem σ ρ s G H _ _ R hρ f hW hm fun ds s1 vs G1 H1 ⟨hl, h1⟩ e1 f1 r1 =>
    ⟨by rw [r1.len]; exact hl, fun p np => k _ _ _ G1 _ (h1 p (own_free (X := X) f1 np)) e1 (FΦ.new f1 np (.lst r1)) (.loc p)⟩⟩
/-- one's own object, handed on as a tree -/
def mFrz (m : ME OH) : ME OH := fun ρ O P R => m ρ O (fun x O1 => ∃ a y, x = .loc a ∧ O1 a = some y ∧ P y.tree (O1.del a)) R
theorem de_frz {e : Expr} {te : TE} {m : ME OH} (h : DE X Φ W e te m) : DE X Φ W e te (mFrz m) :=
  ⟨h.pe, fun σ ρ s G H Q P R hρ f hW hm k => h.sem σ ρ s G H _ _ R hρ f hW hm fun d s1 v G1 H1 ⟨a, y, ed, oa, p⟩ e1 f1 r1 => by
    subst ed
    cases r1
    obtain ⟨G2, e2, f2, r2⟩ := FΦ.frz f1 oa
    exact k _ _ _ G2 H1 p (e1.trans e2) f2 r2⟩
/-- xs.append(e) -/
def mApp (m : ME OH) (n : ME OH) : ME OH := fun ρ O P R => m ρ O (fun x O1 => ∃ a, x = .loc a ∧ (∃ ds, O1 a = some (.lst ds)) ∧ n ρ O1 (fun y O2 => ∃ ds, O2 a = some (.lst ds) ∧ ds.length < sizeLine ∧ P .non (O2.put a (.lst (ds ++ [y])))) R) R
theorem de_app {o e : Expr} {te tv : TE} {m n : ME OH} {apos pos : Pos} (h : DE X Φ W o te m) (h' : DE X Φ W e tv n) (hp : PE X (.Call (.Attribute o "append" apos) [e] [] pos) (tBM X.K "list" rAppend te (tCons tv tNil))) :
    DE X Φ W (.Call (.Attribute o "append" apos) [e] [] pos) (tBM X.K "list" rAppend te (tCons tv tNil)) (mApp m n) :=
  ⟨hp, fun σ ρ s G H Q P R hρ f hW hm k => h.sem σ ρ s G H _ _ R hρ f hW hm fun x s1 v G1 H1 ⟨a, ex, ⟨ds0, oa⟩, h1⟩ e1 f1 r1 => by
    subst ex
    cases r1
    obtain ⟨_, o, ho, ro⟩ := FΦ.own f1 oa
    cases ro
    refine ⟨.inl ⟨rfl, _, SqL.of ho⟩, ?_⟩
    refine h'.sem σ ρ s1 G1 H1 _ _ R (hρ.mono e1) f1 (hW.mono e1) h1 fun y s2 u G2 H2 ⟨ds, ob, hl, p⟩ e2 f2 r2 => ?_
    obtain ⟨_, o2, ho2, ro2⟩ := FΦ.own f2 ob
    cases ro2 with
    | lst rl => exact ⟨a, _, u, rfl, rfl, ho2, by rw [rl.len]; exact hl, k _ _ _ G2 _ p (e1.trans e2) (FΦ.put f2 ob (.lst (rl.app (.cons r2 .nil)))) .non⟩⟩
theorem de_appD {o e : Expr} {te tv : TE} {m n : ME OH} {apos pos : Pos} (h : DE X Φ W o te m) (h' : DE X Φ W e tv n)
    (h1 : attributeBase o "append" X.env (eval o X.env) = eval o X.env := by rfl)
    (h2 : ((backTo pos (starEach [e] X.env)).all (fun x => !x.1) && (backToKw pos (keywordEach [] X.env)).all (fun x => x.1.isSome) && decide ([e].length + ([] : List Keyword).length + (if ([] : List Keyword).isEmpty then 0 else 1) < 30)) = true := by rfl)
    (h3 : (apos.endLine == pos.line) = true := by rfl) (h4 : starEach [e] X.env = (false, eval e X.env) :: starEach [] X.env := by rfl) (h5 : (backTo pos (starEach [] X.env)).any (·.1) = false := by rfl) :
    DE X Φ W (.Call (.Attribute o "append" apos) [e] [] pos) (tBM X.K "list" rAppend te (tCons tv tNil)) (mApp m n) :=
  de_app h h' (pe_bm PySem.F.plainAttrs_list PySem.F.slot_list_append PySem.F.type_list_append mt_append h.pe (pa_cons h'.pe pa_nil h4) h1 h2 h3 h4 h5)
/-- xs[i] of one's own list -/
def mIxO (m n : ME OH) : ME OH := fun ρ O P R => m ρ O (fun x O1 => n ρ O1 (fun y O2 => ∃ a i ds d, x = .loc a ∧ y = .int i ∧ O2 a = some (.lst ds) ∧ atI ds i = some d ∧ P d O2) R) R
theorem de_ixO {a b : Expr} {te tb : TE} {ma mb : ME OH} {pos : Pos} (ha : DE X Φ W a te ma) (hb : DE X Φ W b tb mb) (hs : PlainIx b := by exact fun _ _ => rfl) : DE X Φ W (.Subscript a b pos) (tOp (rIxL X.K) te tb) (mIxO ma mb) :=
  ⟨pe_ix ix_list ha.pe hb.pe hs, fun σ ρ s G H Q P R hρ f hW h k => by
    refine ha.sem σ ρ s G H _ _ R hρ f hW h fun x s1 u G1 H1 h1 e1 f1 r1 => ?_
    refine hb.sem σ ρ s1 G1 H1 _ _ R (hρ.mono e1) f1 (hW.mono e1) h1 fun y s2 v G2 H2 ⟨c, i, ds, d, ex, ey, oc, hi, p⟩ e2 f2 r2 => ?_
    subst ex ey
    cases r1
    cases r2
    obtain ⟨_, o, ho, ro⟩ := FΦ.own f2 oc
    cases ro with
    | lst rl =>
      obtain ⟨z, hz, rz⟩ := rp_at rl hi
      exact ⟨c, _, i, z, rfl, rfl, SqL.of ho, hz, k d s2 z G2 H2 p (e1.trans e2) f2 rz⟩⟩
/-- xs[i] = e -/
def gSubO (m n : ME OH) : MG OH := fun d ρ O P => m ρ O (fun x O1 => n ρ O1 (fun y O2 => ∃ a i ds j, x = .loc a ∧ y = .int i ∧ O2 a = some (.lst ds) ∧ ixN ds.length i = some j ∧ P ρ (O2.put a (.lst (ds.set j d)))) R0) R0
theorem rpl_set {K : PySem.W.Frag} {mg : Str → Option Value} {G : Hp} {v : V} {d : D} (r : Rp K mg G v d) : ∀ {vs : List V} {ds : List D} (j : Nat), RpL K mg G vs ds → RpL K mg G (vs.set j v) (ds.set j d)
  | _, _, _, .nil => .nil
  | _, _, 0, .cons _ b => .cons r b
  | _, _, j + 1, .cons a b => .cons a (rpl_set r j b)
theorem dg_subO {o i : Expr} {to ti : TE} {m n : ME OH} {pos : Pos} (ho : DE X Φ W0 o to m) (hi : DE X Φ W0 i ti n)
    (ha : ∀ v, assign (.Subscript o i pos) X.env v = (do
      let ov ← holding [v] (eval o X.env)
      let iv ← holding [v, ov] (eval i X.env)
      standAt pos
      holding [v, ov, iv] (setItem ov iv v)
      release [v, ov, iv] []) := by intro _; rfl) : DG X Φ (.Subscript o i pos) (gSub to ti rSetL) (gSubO m n) [] :=
  ⟨pg_sub ho.pe hi.pe set_list ha, fun σ ρ s G H v d Q P hρ f r h k => by
    refine ho.sem σ ρ s G H _ _ R0 hρ f (fun _ _ _ _ _ _ _ _ _ z => z.elim) h fun x s1 u G1 H1 h1 e1 f1 r1 => ?_
    refine hi.sem σ ρ s1 G1 H1 _ _ R0 (hρ.mono e1) f1 (fun _ _ _ _ _ _ _ _ _ z => z.elim) h1 fun y s2 z G2 H2 ⟨a, i, ds, j, ex, ey, oa, hj, p⟩ e2 f2 r2 => ?_
    subst ex ey
    cases r1
    cases r2
    obtain ⟨_, o, hob, ro⟩ := FΦ.own f2 oa
    cases ro with
    | lst rl => exact ⟨a, _, i, j, rfl, rfl, hob, by rw [rl.len]; exact hj, k σ ρ _ G2 _ p (e1.trans e2) ((hρ.mono e1).mono e2) (FΦ.put f2 oa (.lst (rpl_set ((r.mono e1).mono e2) j rl))) fun _ _ => rfl⟩⟩
/-! ### properties -/
theorem pe_propG {k : Nat} {C p g : Addr} {f : Str} {fd : FuncData} {ps : List Str} {sp : Sp} {e : Expr} {pos : Pos} {ta : TE} (he : PE X e ta) (c : Cls X.K C) (hp : PropOf X.K C f p g) (F : FnS X.prog X.w X.K X.mg X.base k g fd ps sp) (hr : Rm (k + 1) X) (hb : Binds X.K fd ps [])
    (hab : attributeBase e f X.env (eval e X.env) = eval e X.env) : PE X (.Attribute e f pos) (fun σ H Q => ta σ H fun x H1 => ∃ a dx fs, x = .ref a ∧ H1 a = some (.ins C dx fs) ∧ sp [.ref a] H1 Q E0) := by
  refine ⟨fun pins s σ H Q I h => attr_of hab (thn (he.run pins s σ H _ I h) fun u s1 ⟨x, H1, I1, rx, a, dx, fs, ex, ea, q⟩ => ?_)⟩
  subst ex
  cases (show u = Value.ref a from rx)
  obtain ⟨mA, O, _⟩ := ins_get I1.hok ea
  obtain ⟨od, J, _⟩ := O.look
  obtain ⟨rest, hrec⟩ := hp.rec_
  have I2 := I1.tok (s1.toks + 1)
  have hl : ([Value.ref a] ++ []).length = ps.length := (F.len _ _ _ _ q)
  have hc : (PySem.W.clsIn X.K C).isSome = true := by
    obtain ⟨cd, hc, _⟩ := PySem.W.any_some c.hd
    rw [hc]
    rfl
  have go := F.run X.A.in1 X.stack { s1 with toks := s1.toks + 1 } H1 ⟨[.ref a], []⟩ [.ref a] [.ref a] Q E0 hr.room.in1 hr.gd I2.env0.in1 (hb _ [.ref a] I2.kIn hl) (.cons rfl .nil) q
  refine PySem.W.get_bind I1.kIn J (PySem.W.plainGet_of (c.get f)).1 (PySem.W.findObj_data hc hp.at_ hp.get hp.tak) (PySem.W.plainGet_of (c.get f)).2 (wpAny_call (PySem.W.prop_get (s := { s1 with toks := s1.toks + 1 }) I1.kIn hrec (codeAny_mono go fun r s' hq => ?_)))
  match r, hq with
  | .error er, hq => exact (passL (X := X.nox) pins σ H1 { s1 with toks := s1.toks + 1 } er s' (I2.wish _) hq).elim
  | .ok (.ret u), hq =>
    obtain ⟨v, H', I3, rv, q3⟩ := I2.after hq
    show wpAny _ _ (handedOut u) _ _ _
    rw [PySem.W.handedOut_of (handed_of rv)]
    exact wpAny_pure ⟨v, H', I3, rv, q3⟩
  | .ok .next, hq => exact hq.elim
  | .ok .brk, hq => exact hq.elim
  | .ok .cont, hq => exact hq.elim
def mProp (C : Str) (g : WF) (m : ME OH) : ME OH := fun ρ O P R => m ρ O (fun x O1 => ∃ ns ds, x = .ins C ns ds ∧ g [x] O1 P R0) R
theorem de_prop {k : Nat} {C p q : Addr} {Cn f : Str} {fd : FuncData} {n : Str} {g : WF} {e : Expr} {pos : Pos} {te : TE} {m : ME OH} (h : DE X Φ W e te m) (c : Cls X.K C) (hC : X.mg Cn = some (.ref C)) (hp : PropOf X.K C f p q) (F : FnG X.prog X.w X.K X.mg X.base k q fd [n] g) (hr : Rm (k + 1) X) (hb : Binds X.K fd [n] [])
    (hab : attributeBase e f X.env (eval e X.env) = eval e X.env := by rfl) : DE X Φ W (.Attribute e f pos) (fun σ H Q => te σ H fun x H1 => ∃ a dx fs, x = .ref a ∧ H1 a = some (.ins C dx fs) ∧ spO X.K X.mg 1 g [.ref a] H1 Q E0) (mProp Cn g m) :=
  ⟨pe_propG h.pe c hp F hr hb hab, fun σ ρ s G H Q P R hρ f hW hm k => h.sem σ ρ s G H _ _ R hρ f hW hm fun x s1 v G1 H1 ⟨ns, ds, ex, h1⟩ e1 f1 r1 => by
    subst ex
    have r2 := r1
    cases r1 with
    | ins mC hG hl rl =>
      rw [hC] at mC
      cases mC
      exact ⟨_, _, _, rfl, Frm.same f1 _ _ hG, spO_of f1 (.cons r2 .nil) rfl h1 (fun d s' v G' H' p q => k d s' v G' H' p (e1.trans q)) fun _ _ _ _ _ _ _ _ _ z => z.elim⟩⟩
end
end DL

set_option Elab.async false
set_option linter.all false
set_option maxRecDepth 100000
set_option maxHeartbeats 2000000
namespace DL
open PySem PySem.Spec PyProof.Rows L2

/-! ### raise C(e): C an own class over ValueError whose __init__ stores its one argument -/
def spXI (C : Addr) (fld : Str) : Sp := fun vs H Q _ => ∃ (a : Addr) (y : V), vs = [.ref a, y] ∧ H a = some (exo a C none) ∧ ∀ dx, H dx = none → dx ≠ a → Q .non (upd (upd H dx (exd dx [(fld, y)])) a (exo a C (some dx)))
section
variable {P : Program} {w : World} {K : PySem.W.Frag} {mg : Str → Option Value} {base : Heap}
theorem ok_xinit {x qual fld ar : Str} {st : Stmt} {f C : Addr} {fd : FuncData} (F : Fun K x qual st f fd) (Sc : FnScope [("self" : Str), ar] [("self" : Str), ar] (defScope st)) (T : OexC K C) (no : PySem.W.findIn K (.ref C) fld = some none)
    (hb : ∀ X : Cx, X.K = K → X.N = [("self" : Str), ar] → X.env.scope = defScope st → ∃ to te : TE, PSs X (defBody st) (tOst K fld to te) ∧ (∀ (u y : V) (H : Hp) (Q : VK), Q y H → te [some u, some y] H Q) ∧ ∀ (u y : V) (H : Hp) (Q : VK), Q u H → to [some u, some y] H Q) :
    FnOk P w K mg base CX0 1 f fd [("self" : Str), ar] (spXI C fld) := by
  refine F.ok Sc (fun vs H Q E h => ?_) fun cdv A outer s H vs Q E hr h => ?_
  · obtain ⟨a, y, rfl, _⟩ := h
    rfl
  · obtain ⟨a, y, rfl, ea, k⟩ := h
    obtain ⟨to, te, hp, h1, h2⟩ := hb (cxOf CX0 P w K mg base [("self" : Str), ar] qual (defScope st) f cdv A outer s H E).nox rfl rfl rfl
    exact ⟨_, hp, h1 _ _ _ _ (h2 _ _ _ _ ⟨a, C, rfl, T, no, .inl ⟨ea, fun dx n ne => k dx n ne⟩⟩)⟩
end
section
variable {X : Cx} {Φ : OH → Hp → Hp → Prop} {W : WX} [FΦ : OFrm X.K X.mg Φ]
def sRaise (C fld : Str) (n : MA OH) : MS OH := fun M ρ O => n ρ O (fun ds O1 => ∃ d, ds = [d] ∧ M.ex ⟨C, some ([fld], [d])⟩ ρ O1) (fun x O1 => M.ex x ρ O1)
theorem exo_end {H : Hp} {a dx : Addr} {u v : HO} {o : HO} (na : H a = none) (nd : dx ≠ a) : upd (L2.del (upd (upd (upd H a u) dx v) a o) a) dx (.xd [(fld, y)]) = upd H dx (.xd [(fld, y)]) := by
  funext b
  by_cases e : b = dx
  · subst e
    rw [upd_same, upd_same]
  · rw [upd_ne e, upd_ne e]
    by_cases e2 : b = a
    · subst e2
      rw [del_same, na]
    · rw [del_ne e2, upd_ne e2, upd_ne e, upd_ne e2]
theorem ds_raise {C fI : Addr} {x fld ar : Str} {fd : FuncData} {e : Expr} {ta : TA} {n : MA OH} {p pos pos2 : Pos} (T : OexC X.K C) (iC : PySem.W.findIn X.K (.ref C) "__init__" = some (some (.ref fI))) (tI : PySem.W.typeIn X.K (.ref fI) = some (.type "function"))
    (F : FnOk X.prog X.w X.K X.mg X.base CX0 1 fI fd [("self" : Str), ar] (spXI C fld)) (hr : Rm 2 X) (hb : Binds X.K fd [("self" : Str), ar] []) (hg : Gl X x) (hm : X.mg x = some (.ref C)) (hc : X.calm = true) (tk : Takes X W) (ha : DA X Φ W [e] ta n)
    (hdb : (x == ("__debug__" : Str)) = false := by decide) (he : starEach [e] X.env = (false, eval e X.env) :: starEach [] X.env := by rfl) (hpl : (backTo pos (starEach [] X.env)).any (·.1) = false := by rfl) :
    DS X Φ W (.Raise (some (.Call (.Name x p) [e] [] pos)) none pos2) (fun _ σ H => tMkO C (spXI C fld) [] ta σ H fun cls d H' => W cls d σ H') (sRaise x fld n) := by
  refine ⟨ps_raise hc tk (pmk_oex T iC tI F hr.room hb .nil pass0 hg hm ha.pa hdb he hpl), fun σ ρ s G H D M hρ f hmm E => ?_⟩
  refine ha.sem σ ρ s G H _ _ _ hρ f (E.wsh hρ) hmm fun ds s1 vs G1 H1 ⟨d, ed, h1⟩ e1 f1 r1 => ?_
  subst ed
  obtain ⟨v, rfl, rv⟩ := rpl1 r1
  refine ⟨by show 1 ≤ 1000; decide, fun a na => ⟨a, v, rfl, upd_same, fun dx ndx ne => ⟨rfl, dx, [(fld, v)], upd_same, ?_, ?_, ?_⟩⟩⟩
  · rw [upd_ne ne, upd_same]
  · rw [upd_ne ne] at ndx
    exact ndx
  · have nd1 : H1 dx = none := by
      rw [upd_ne ne] at ndx
      exact ndx
    rw [exo_end na ne]
    have sg := same_new (o := HO.xd [(fld, v)]) ((Frm.same f1).free nd1)
    exact E.ex ⟨x, some ([fld], [d])⟩ σ ρ s1 _ _ (.ref C) (some dx) h1 (e1.trans sg) ((hρ.mono e1).mono sg) (Frm.ext f1 nd1) ⟨hm, dx, [v], rfl, upd_same, rfl, .cons (rv.mono sg) .nil⟩
/-! ### try: .. except C as n: .. -/
/-- within the suite: the error that it holds -/
def ExF (K : PySem.W.Frag) (mg : Str → Option Value) (Φ : OH → Hp → Hp → Prop) (cls : Value) (d : Option Addr) (x : Exn) : OH → Hp → Hp → Prop := fun O G H => Φ O G H ∧ ExR K mg G cls d x
instance {K : PySem.W.Frag} {mg : Str → Option Value} {Φ : OH → Hp → Hp → Prop} [F : OFrm K mg Φ] {cls : Value} {d : Option Addr} {x : Exn} : OFrm K mg (ExF K mg Φ cls d x) where
  same := fun h => F.same h.1
  ext := fun h n => ⟨F.ext h.1 n, h.2.mono (same_new ((F.same h.1).free n))⟩
  own := fun h o => F.own h.1 o
  new := fun h n r => ⟨F.new h.1 n r, h.2⟩
  put := fun h o r => ⟨F.put h.1 o r, h.2⟩
  frz := fun h o => by
    obtain ⟨G', s, p, r⟩ := F.frz h.1 o
    exact ⟨G', s, ⟨p, h.2.mono s⟩, r⟩
  less := fun h l => ⟨F.less h.1 l, h.2⟩
def sTry (cl : Exn → Option Bool) (i : Nat) (mb : MS OH) (ms : Addr → Exn → MS OH) : MS OH := fun M ρ O =>
  mb { M with ex := fun x ρ' O' => ∃ b, cl x = some b ∧ (b = true → ∀ a, ms a x { nx := fun ρ2 O2 => M.nx (ρ2.set i none) O2, rt := M.rt, bk := fun ρ2 O2 => M.bk (ρ2.set i none) O2, ct := fun ρ2 O2 => M.ct (ρ2.set i none) O2, ex := fun _ _ _ => False } (ρ'.set i (some (.loc a))) O') ∧ (b = false → M.ex x ρ' O') } ρ O
theorem ds_try {x n : Str} {c : Value} {cl : Exn → Option Bool} {i : Nat} {body suite : List Stmt} {b₀ : Stmt} {np pos pos' : Pos} {tb : WX → TS} {ts : Addr → Value → Option Addr → TS} {mb : MS OH} {ms : Addr → Exn → MS OH}
    (hs : X.stack = X.env :: X.outer) (hf : X.env.frame = some X.env.locals) (hN : X.N.Nodup) (hi : X.N[i]? = some n) (hln : X.env.kindOf n = some .local) (hc : Names X x c) (tk : Takes X W)
    (hcl : ∀ (x : Exn) (b : Bool) (cls : Value), X.mg x.cls = some cls → cl x = some b → PySem.W.exmOne X.K cls c = some b)
    (hb : ∀ (W' : WX) (pn : List (Addr × Obj)) (xe : Value → Shared → Prop), Takes (X.tr pn xe) W' → PassesOwn (model X.prog X.w) X.A X.env xe → DSs (X.tr pn xe) Φ W' body (tb W') mb)
    (hsu : ∀ (a : Addr) (oe : Obj) (cls : Value) (d : Option Addr) (pn : List (Addr × Obj)) (x : Exn), Zc cls d oe → (∃ vs, oe.data = .fields vs) → DSs (X.suite a ((a, oe) :: pn)) (ExF X.K X.mg Φ cls d x) W0 (b₀ :: suite) (ts a cls d) (ms a x)) :
    DS X Φ W (.Try body [.ExceptHandler (some (.Name x np)) (some n) (b₀ :: suite) pos'] [] [] pos) (fun D σ H => tb (wAs X.K c i ts W D) D σ H) (sTry cl i mb ms) := by
  refine ⟨ps_try_as hs hf hN hi hln hc tk (fun W' pn xe t p => (hb W' pn xe t p).pss) (fun a oe cls d pn hz hd => (hsu a oe cls d pn ⟨x, none⟩ hz hd).pss), fun σ ρ s G H D M hρ f hm E => ?_⟩
  have tk0 : Takes (X.tr [] fun e s₁ => wpAny (model X.prog X.w) X.A (noteFrame e X.env) (fun _ s₂ => wpAny (model X.prog X.w) X.A (setFlight e none) (fun _ _ => True) (fun _ _ => True) s₂) (fun _ _ => True) s₁) (wAs X.K c i ts W D) := by
    intro u s' ⟨a, B, sI, pins, σ', H', cls, d, eu, J, nb, up, sky, rest⟩
    subst eu
    have hfr : X.A.frames = some (X.env :: X.outer) := (show X.A.frames = some X.stack from J.ok.frames).trans (by rw [hs])
    have sky' : Sky B (X.env :: X.outer) a (Zc cls d) X.env.locals s'.heap := by
      rw [← hs]
      exact sky
    exact Sky.land (Q := fun _ _ => True) Zc.steady hfr hf sky' fun _ _ _ => trivial
  refine (hb (wAs X.K c i ts W D) [] _ tk0 PassesOwn.looking).sem σ ρ s G H D _ hρ f hm ⟨E.nx, E.rt, E.bk, E.ct, fun z σ1 ρ1 O1 G1 H1 cls d ⟨b, hb1, hyes, hno⟩ e1 r1 f1 xr => ?_⟩
  refine ⟨b, hcl z b cls xr.1 hb1, fun e a na => ?_, fun e => E.ex z σ1 ρ1 O1 G1 H1 cls d (hno e) e1 r1 f1 xr⟩
  have su := hsu a ⟨cls, d, .fields #[], #[]⟩ cls d [] z ⟨rfl, rfl⟩ ⟨_, rfl⟩
  exact su.sem _ _ O1 G1 H1 _ _ (r1.set i (.loc a)) ⟨f1, xr⟩ (hyes e a)
    ⟨fun σ2 ρ2 O2 G2 H2 p e2 r2 f2 => E.nx _ _ O2 G2 H2 p (e1.trans e2) (r2.drop i none) f2.1, fun d O2 v G2 H2 p e2 f2 => E.rt d O2 v G2 H2 p (e1.trans e2) f2.1,
      fun σ2 ρ2 O2 G2 H2 p e2 r2 f2 => E.bk _ _ O2 G2 H2 p (e1.trans e2) (r2.drop i none) f2.1, fun σ2 ρ2 O2 G2 H2 p e2 r2 f2 => E.ct _ _ O2 G2 H2 p (e1.trans e2) (r2.drop i none) f2.1, fun _ _ _ _ _ _ _ _ p => p.elim⟩
/-- a body's reading as its need -/
def cS (K : PySem.W.Frag) (mg : Str → Option Value) (Φ : OH → Hp → Hp → Prop) (W : WX) (m : MS OH) : TS := fun D σ H => ∃ (ρ : Rho) (O : OH) (G : Hp) (M : MEnds OH), RelE K mg G σ ρ ∧ Φ O G H ∧ m M ρ O ∧ EndsOk Φ W K mg G M D
def cSx (K : PySem.W.Frag) (mg : Str → Option Value) (Φ : OH → Hp → Hp → Prop) (ms : Addr → Exn → MS OH) (a : Addr) (cls : Value) (d : Option Addr) : TS := fun D σ H => ∃ x, cS K mg (ExF K mg Φ cls d x) W0 (ms a x) D σ H
theorem ds_tryE {x n : Str} {c : Value} {cl : Exn → Option Bool} {i : Nat} {body suite : List Stmt} {b₀ : Stmt} {np pos pos' : Pos} {mb : MS OH} {ms : Addr → Exn → MS OH}
    (hs : X.stack = X.env :: X.outer) (hf : X.env.frame = some X.env.locals) (hN : X.N.Nodup) (hi : X.N[i]? = some n) (hln : X.env.kindOf n = some .local) (hc : Names X x c) (tk : Takes X W)
    (hcl : ∀ (x : Exn) (b : Bool) (cls : Value), X.mg x.cls = some cls → cl x = some b → PySem.W.exmOne X.K cls c = some b)
    (hb : ∀ (W' : WX) (pn : List (Addr × Obj)) (xe : Value → Shared → Prop), Takes (X.tr pn xe) W' → PassesOwn (model X.prog X.w) X.A X.env xe → ∃ tb, DSs (X.tr pn xe) Φ W' body tb mb)
    (hsu : ∀ (a : Addr) (oe : Obj) (cls : Value) (d : Option Addr) (pn : List (Addr × Obj)) (x : Exn), Zc cls d oe → (∃ vs, oe.data = .fields vs) → ∃ ts, DSs (X.suite a ((a, oe) :: pn)) (ExF X.K X.mg Φ cls d x) W0 (b₀ :: suite) ts (ms a x)) :
    DS X Φ W (.Try body [.ExceptHandler (some (.Name x np)) (some n) (b₀ :: suite) pos'] [] [] pos) (fun D σ H => cS X.K X.mg Φ (wAs X.K c i (cSx X.K X.mg Φ ms) W D) mb D σ H) (sTry cl i mb ms) := by
  refine ds_try (tb := fun W' => cS X.K X.mg Φ W' mb) (ts := cSx X.K X.mg Φ ms) hs hf hN hi hln hc tk hcl (fun W' pn xe t p => ?_) (fun a oe cls d pn x hz hd => ?_)
  · obtain ⟨tb, h⟩ := hb W' pn xe t p
    exact ⟨⟨fun pins s σ H D I ⟨ρ, O, G, M, r, f, hm, E⟩ => h.pss.run pins s σ H D I (h.sem σ ρ O G H D M r f hm E)⟩, fun σ ρ O G H D M r f hm E => ⟨ρ, O, G, M, r, f, hm, E⟩⟩
  · refine ⟨⟨fun pins s σ H D I ⟨x, ρ, O, G, M, r, f, hm, E⟩ => ?_⟩, fun σ ρ O G H D M r f hm E => ⟨x, ρ, O, G, M, r, f, hm, E⟩⟩
    obtain ⟨ts, h⟩ := hsu a oe cls d pn x hz hd
    exact h.pss.run pins s σ H D I (h.sem σ ρ O G H D M r f hm E)
end
end DL

set_option Elab.async false
set_option linter.all false
set_option maxRecDepth 100000
set_option maxHeartbeats 2000000
namespace DL
open PySem PySem.Spec PyProof.Rows L2

end DL
namespace PySem.W
open PySem PySem.Spec PySem.Calls PyProof.Rows
section
variable {prog : Program} {w : World} {A : Around} {E : Value → Shared → Prop} {s : Shared} {K : Frag} {x D : Addr} {ox od : Obj}
/-- an error's class, read off the error: also where it has fields -/
theorem dl_classE {Q : Option Value → Shared → Prop} (hga : findIn K (.ref D) "__getattribute__" = some (some (.builtin "BaseException.__getattribute__"))) (hgt : findIn K (.ref D) "__getattr__" = some none) (hsub : subIn K (.ref D) (.type "BaseException") = some true) (hdct : hasDictIn K D = true)
    (ha : findIn K (.ref D) "__class__" = some (some (.builtin "object.__class__"))) (hn : specialIn K (.builtin "object.__class__") "__get__" = some (some (.builtin "getset_descriptor.__get__"))) (htk : takesIn K (.builtin "object.__class__") = some true) (hm : mroIn K D (.type "object") = some true)
    (X : K.In s.heap) (I : InstAt s.heap x ox D (some od)) (h : Q (some (.ref D)) { s with toks := s.toks + 1 }) : wpAny (model prog w) A (getAttr? (.ref x) "__class__") Q E s := by
  have hc : (clsIn K D).isSome = true := by
    obtain ⟨cd, hc, _⟩ := any_some hdct
    rw [hc]
    rfl
  have hf : findObj K D (some od) "__class__" = some (.bind (.builtin "getset_descriptor.__get__") (.builtin "object.__class__")) := findObj_data hc ha hn htk
  obtain ⟨hp, g, d, t, os⟩ := s
  have La := I.type (M := model prog w)
  have Lb := looks_findIn (M := model prog w) X hga
  have Lc := looks_findIn (M := model prog w) X hgt
  have Ld := looks_find (M := model prog w) X I hf
  have isB : Looks (model prog w) hp (isInstance (.ref x) (.type "BaseException")) true := La.andThen (looks_subIn X hsub)
  have u2 : (Value.builtin "BaseException.__getattribute__" == Value.builtin "object.__getattribute__") = false := by decide +kernel
  have u1 : (onTheHeap (Value.ref D) && Value.builtin "BaseException.__getattribute__" == Value.builtin "object.__getattribute__") = false := by rw [u2] <;> rfl
  unfold getAttr? getAttrBy? getAttrBy
  refine wpAny_bind (wpAny_mkText (wpAny_bind (wpAny_attempt (wpAny_holding (wpAny_bind (La.at (wpAny_bind (Lb.at ?_))))))))
  show wpAny _ _ (if (onTheHeap (Value.ref D) && Value.builtin "BaseException.__getattribute__" == Value.builtin "object.__getattribute__") = true then _ else _) _ _ _
  rw [u1, if_neg Bool.false_ne_true]
  unfold getAttrByItsOwn hookBefore
  rw [if_pos (show onTheHeap (Value.ref D) = true from rfl)]
  refine wpAny_bind (Lc.at (wpAny_bind (wpAny_attempt (wpAny_holding ?_))))
  unfold callGetattribute
  rw [show (false && onTheHeap (Value.builtin "BaseException.__getattribute__")) = false from rfl, if_neg Bool.false_ne_true]
  unfold boundAndCalled
  rw [PySem.F.excAttr_ValueError.ga.bind (.ref x)]
  refine wpAny_bind (wpAny_pure ?_)
  show wpAny _ _ (call (.builtin "BaseException.__getattribute__") [.ref x, .str "__class__" t]) _ _ _
  refine wpAny_call (codeAny_call_builtin PySem.F.excAttr_ValueError.ga.plain PySem.F.entry_bexc_ga
    (@check_slot (model prog w) _ _ ⟨hp, g, d, t + 1, os⟩ "BaseException.__getattribute__" "BaseException" "__getattribute__" (.ref x) [.str "__class__" t] [] _
      (by decide +kernel) (by decide +kernel) isB (PySem.F.args_bexc_ga (.ref x) (.str "__class__" t)) ?_))
  unfold Builtin.«object.__getattribute__»
  refine wpAny_bind (wpAny_of_eq (a := ((Value.ref x : Value), [Value.str "__class__" t])) (by first | rfl | (simp only [slotArgs]; rfl)) ?_)
  refine wpAny_bind (wpAny_pure (wpAny_bind (La.at (wpAny_bind (Ld.at ?_)))))
  show wpAny _ _ (holding [Value.builtin "object.__class__"] (call (.builtin "getset_descriptor.__get__") [.builtin "object.__class__", .ref x, .ref D]) >>= ret) _ _ _
  refine wpAny_bind (wpAny_holding (wpAny_call (class_get (s := ⟨hp, g, d, t + 1, os⟩) (ox := ox) (od := some od) X I hm ?_)))
  refine wpAny_pure ?_
  show wpAny _ _ (handedOut (.ref D)) _ _ _
  rw [handedOut_of (v := .ref D) rfl]
  first
    | exact wpAny_pure (wpAny_pure h)
    | exact wpAny_pure h
    | exact wpAny_pure (wpAny_bind (wpAny_pure (wpAny_pure h)))
theorem dl_kitE (hga : findIn K (.ref D) "__getattribute__" = some (some (.builtin "BaseException.__getattribute__"))) (hgt : findIn K (.ref D) "__getattr__" = some none) (hsub : subIn K (.ref D) (.type "BaseException") = some true) (hdct : hasDictIn K D = true) (ha : findIn K (.ref D) "__class__" = some (some (.builtin "object.__class__")))
    (hn : specialIn K (.builtin "object.__class__") "__get__" = some (some (.builtin "getset_descriptor.__get__"))) (htk : takesIn K (.builtin "object.__class__") = some true) (hm : mroIn K D (.type "object") = some true) :
    KitX K (.ref x) (.ref D) (fun h => InstAt h x ox D (some od)) := by
  have key : ∀ h : Heap, K.In h → ∃ o cd, h.get? D = some o ∧ o.data = .cls cd := fun h X => by
    obtain ⟨cdD, hcD, _⟩ := any_some hdct
    unfold clsIn at hcD
    split at hcD
    · rename_i c' d' cd' sl' ho
      exact ⟨_, cd', X _ _ ho, rfl⟩
    · cases hcD
  refine ⟨fun _ _ _ I => I.type, fun _ _ X _ => ?_, fun h tp dd its n sl X htp => ?_, fun X I k => dl_classE hga hgt hsub hdct ha hn htk hm X I k⟩
  · obtain ⟨o, cd, ho, hd⟩ := key _ X
    intro A' Q' E' s' k q
    unfold isType loadHead
    refine wpAny_bind (wpAny_loadPart (k _ _ ho) ?_)
    rw [hd]
    exact wpAny_pure q
  · refine Bool.eq_false_iff.mpr fun q => ?_
    have e : D = tp := Value.ref.inj (beq_iff_eq.mp q)
    subst e
    obtain ⟨o, cd, ho, hd⟩ := key _ X
    rw [ho] at htp
    cases htp
    cases hd
end
end PySem.W
namespace DL
open PySem PySem.Spec PyProof.Rows L2
/-- isinstance(e, c), e the error that the suite holds -/
theorem call_isX {X : Cx} {a D : Addr} {d : Option Addr} {oe : Obj} {pn : List (Addr × Obj)} (C : ExcC X.K D) (hz : Zc (.ref D) d oe) (hf : ∃ vs, oe.data = .fields vs) :
    CallR (X.suite a ((a, oe) :: pn)) (.builtin "isinstance") (fun xs H Q => ∃ (c : V) (cv : Value) (b : Bool), xs = [.ref a, c] ∧ (∀ u, RelV c u → u = cv) ∧ (∃ dd fs, d = some dd ∧ H dd = some (.xd fs)) ∧ PySem.W.kitOne X.K (.ref D) cv = some b ∧ Q (.bl b) H) := by
  intro pins s σ H xs us Q I r ⟨c, cv, b, ex, hcv, hd, e, q⟩
  subst ex
  obtain ⟨u1, u2, rfl, r1, r2⟩ := vals2 r
  cases r1
  have ec := hcv _ r2
  subst ec
  have hget := (I.pin (a, oe) (List.mem_append.mpr (.inl List.mem_cons_self))).1
  obtain ⟨vs, hv⟩ := hf
  have J : ∃ od, PySem.W.InstAt s.heap a oe D (some od) := by
    obtain ⟨oc, odd, oda, osl⟩ := oe
    obtain ⟨h1, h2⟩ := hz
    dsimp only at h1 h2 hv
    subst h1 h2 hv
    obtain ⟨dd, fs, ed, hH⟩ := hd
    subst ed
    obtain ⟨mA, hns, _⟩ := (show ObjOk X.prog X.w H s.heap dd (.xd fs) from I.hok dd _ hH)
    obtain ⟨od, ho, _⟩ := lookIn_ns hns
    exact ⟨od, hget, rfl, rfl, ho⟩
  obtain ⟨od, J⟩ := J
  exact PySem.W.kia_one (PySem.W.dl_kitE C.hg C.hk C.hs C.hd C.ha C.hn C.ht C.hm) I.kIn J e (fun z => nomatch z) fun tk => ⟨.bl b, H, I.kept (t' := tk) fun _ _ z => z, rfl, q⟩
/-- what is told of an error's class, for its fields -/
structure XcT (K : PySem.W.Frag) (C : Addr) (f : Str) : Prop where
  ga : PySem.W.findIn K (.ref C) "__getattribute__" = some (some (.builtin "BaseException.__getattribute__"))
  gg : PySem.W.findIn K (.ref C) "__getattr__" = some none
  noN : PySem.W.findIn K (.ref C) f = some none
  exC : PySem.W.subIn K (.ref C) (.type "BaseException") = some true
  hdC : PySem.W.hasDictIn K C = true
section
variable {X : Cx} {Φ : OH → Hp → Hp → Prop} [FΦ : OFrm X.K X.mg Φ]
def mXf (C f : Str) (a : Addr) (x : Exn) (m : ME OH) : ME OH := fun ρ O P R => m ρ O (fun y O1 => y = .loc a ∧ x.cls = C ∧ ∃ ns ds d, x.fs = some (ns, ds) ∧ lookD f ns ds = some d ∧ P d O1) R
theorem de_xfld {a C : Addr} {oe : Obj} {cls : Value} {d : Option Addr} {pn : List (Addr × Obj)} {x : Exn} {Cn f : Str} {e : Expr} {te : TE} {m : ME OH} {W : WX} {pos : Pos} (T : XcT X.K C f) (hC : X.mg Cn = some (.ref C)) (hz : Zc cls d oe) (hf : ∃ vs, oe.data = .fields vs)
    (h : DE (X.suite a ((a, oe) :: pn)) (ExF X.K X.mg Φ cls d x) W e te m) (hb : attributeBase e f X.env (eval e X.env) = eval e X.env := by rfl) :
    DE (X.suite a ((a, oe) :: pn)) (ExF X.K X.mg Φ cls d x) W (.Attribute e f pos) (fun σ H Q => te σ H fun v H1 => v = .ref a ∧ cls = .ref C ∧ ∃ dd fs u, d = some dd ∧ H1 dd = some (.xd fs) ∧ fs.lookup f = some u ∧ Q u H1) (mXf Cn f a x m) := by
  refine ⟨⟨fun pins s σ H Q I hh => attr_of hb (thn (h.pe.run pins s σ H _ I hh) fun u s1 ⟨v, H1, I1, rv, ev, ec, dd, fs, y, ed, hH, hl, q⟩ => ?_)⟩, fun σ ρ O G H Q P R hρ f0 hW hm k => h.sem σ ρ O G H _ _ R hρ f0 hW hm fun y O1 v G1 H1 ⟨ey, ex, ns, ds, dt, efs, hl, p⟩ e1 f1 r1 => ?_⟩
  · subst ev
    cases (show u = Value.ref a from rv)
    subst ec
    subst ed
    have ha := (I1.pin (a, oe) (List.mem_append_left _ List.mem_cons_self)).1
    obtain ⟨vs, hdat⟩ := hf
    obtain ⟨mA, hns, hr⟩ := (show ObjOk X.prog X.w H1 s1.heap dd (.xd fs) from I1.hok dd _ hH)
    obtain ⟨od, ho, hlk⟩ := lookIn_ns hns
    obtain ⟨z, hz2, rz⟩ := RelO.some_of (v := y) (o := mA f) (by rw [← hl]; exact hr f)
    have J : PySem.W.InstAt s1.heap a oe C (some od) := ⟨ha, hz.1, by unfold PySem.W.notCls; rw [hdat] <;> rfl, by rw [hz.2]; exact ho⟩
    exact HandSPX.exc_get I1.kIn J T.ga T.gg T.exC (PySem.W.findObj_own T.hdC T.noN rfl (by rw [hlk, hz2])) (handed_of rz) ⟨y, H1, I1.tok _, rz, q⟩
  · subst ey
    have f1' := f1
    cases r1
    obtain ⟨f1, xc, xf⟩ := f1
    rw [efs] at xf
    obtain ⟨dd, vs, ed, hG, hlen, rl⟩ := xf
    rw [ex] at xc
    have xc' : X.mg Cn = some cls := xc
    rw [hC] at xc'
    cases xc'
    obtain ⟨u, hu, ru⟩ := lookD_rp rl hl
    exact ⟨rfl, rfl, dd, _, u, ed, FΦ.same f1 _ _ hG, hu, k _ O1 u G1 H1 p e1 f1' ru⟩
/-- isinstance(e, C) of the error that the suite holds -/
def mIsX (C : Str) (tb : Exn → Option Bool) (a : Addr) (x : Exn) (m : ME OH) : ME OH := fun ρ O P R => x.cls = C ∧ m ρ O (fun y O1 => y = .loc a ∧ (∃ z, x.fs = some z) ∧ ∃ b, tb x = some b ∧ P (.bl b) O1) R
theorem de_isX {a c : Addr} {oe : Obj} {cls : Value} {d : Option Addr} {pn : List (Addr × Obj)} {x : Exn} {D : Addr} {Dn : Str} {tb : Exn → Option Bool} {e : Expr} {te : TE} {m : ME OH} {W : WX} {p p2 pos : Pos} {xn : Str} (T : ExcC X.K D) (hD : X.mg Dn = some (.ref D))
    (htb : ∀ b, tb x = some b → PySem.W.kitOne X.K (.ref D) (.ref c) = some b) (hz : Zc cls d oe) (hf : ∃ vs, oe.data = .fields vs) (hg : Gl X "isinstance") (hm : X.mg "isinstance" = none) (hgx : Gl X xn) (hx : X.mg xn = some (.ref c))
    (h : DE (X.suite a ((a, oe) :: pn)) (ExF X.K X.mg Φ cls d x) W e te m) (hd : (xn == ("__debug__" : Str)) = false := by decide)
    (h1 : starEach [e, .Name xn p2] X.env = (false, eval e X.env) :: starEach [.Name xn p2] X.env := by rfl) (h2 : starEach [.Name xn p2] X.env = (false, eval (.Name xn p2) X.env) :: starEach [] X.env := by rfl) (hpl : (backTo pos (starEach [.Name xn p2] X.env)).any (·.1) = false := by rfl) :
    DE (X.suite a ((a, oe) :: pn)) (ExF X.K X.mg Φ cls d x) W (.Call (.Name "isinstance" p) [e, .Name xn p2] [] pos) (fun σ H Q => cls = .ref D ∧ (tCB (fun xs H Q => ∃ (c : V) (cv : Value) (b : Bool), xs = [.ref a, c] ∧ (∀ u, RelV c u → u = cv) ∧ (∃ dd fs, d = some dd ∧ H dd = some (.xd fs)) ∧ PySem.W.kitOne X.K (.ref D) cv = some b ∧ Q (.bl b) H) (tCons te (tCons (tC (.ref c)) tNil))) σ H Q) (mIsX Dn tb a x m) := by
  refine ⟨⟨fun pins s σ H Q I ⟨ec, hh⟩ => ?_⟩, fun σ ρ O G H Q P R hρ f0 hW ⟨ex, hm⟩ k => ?_⟩
  · subst ec
    exact (pe_callB (X := X.suite a ((a, oe) :: pn)) (call_isX T hz hf) hg hm (by decide +kernel) (pa_cons h.pe (pa_cons (show PE (X.suite a ((a, oe) :: pn)) (.Name xn p2) (tC (.ref c)) from pe_glob (X := X.suite a ((a, oe) :: pn)) hgx hx rfl hd) pa_nil h2) h1) (by decide) (by decide) h1 hpl).run pins s σ H Q I hh
  have xc0 : X.mg x.cls = some cls := f0.2.1
  rw [ex, hD] at xc0
  cases xc0
  refine ⟨rfl, h.sem σ ρ O G H _ _ R hρ f0 hW hm fun y O1 v G1 H1 ⟨ey, hfs, b, hb, p⟩ e1 f1 r1 => ?_⟩
  subst ey
  cases r1
  refine ⟨.ref c, .ref c, b, rfl, fun u hu => hu, ?_, htb b hb, k _ O1 _ G1 H1 p e1 f1 (.bl b)⟩
  obtain ⟨f1, xc, xf⟩ := f1
  obtain ⟨z, q⟩ := hfs
  rw [q] at xf
  obtain ⟨d2, vs, ed2, hG, _⟩ := xf
  exact ⟨d2, _, ed2, FΦ.same f1 _ _ hG⟩
end
/-! ### a == b by an own __eq__ -/
section
variable {X : Cx} {Φ : OH → Hp → Hp → Prop} {W : WX} [FΦ : OFrm X.K X.mg Φ]
/-- the other's type, as == looks at it -/
structure EqT (K : PySem.W.Frag) (mg : Str → Option Value) (C : Addr) (ok : D → Prop) : Prop where
  tb : ∀ (G H : Hp) (v : V) (d : D), Same G H → Rp K mg G v d → ok d → ∃ t, TyX K H v t ∧ PySem.W.notFirst K C t = true
def mEqI (C : Str) (g : WF) (ok : D → Prop) (ma mb : ME OH) : ME OH := fun ρ O P R => ma ρ O (fun a O1 => mb ρ O1 (fun b O2 => ∃ ns ds, a = .ins C ns ds ∧ ok b ∧ g [a, b] O2 (fun d O3 => ∃ k, d = .bl k ∧ P d O3) R) R) R
theorem de_eqI {k : Nat} {C f : Addr} {Cn : Str} {fd : FuncData} {n1 n2 : Str} {g : WF} {ok : D → Prop} {a b : Expr} {ta tb : TE} {ma mb : ME OH} {pos : Pos} (hC : X.mg Cn = some (.ref C)) (hs : PySem.W.findIn X.K (.ref C) "__eq__" = some (some (.ref f))) (hf : PySem.W.isFn X.K (.ref f) = true)
    (T : EqT X.K X.mg C ok) (F : FnG X.prog X.w X.K X.mg X.base k f fd [n1, n2] g) (hr : Rm k X) (hb : Binds X.K fd [n1, n2] []) (tk : Takes X W) (ha : DE X Φ W a ta ma) (hb' : DE X Φ W b tb mb) :
    DE X Φ W (.Compare a [.Eq] [b] pos) (fun σ H Q => ta σ H fun x H1 => tb σ H1 fun y H2 => ∃ p dx fs t, x = .ref p ∧ H2 p = some (.ins C dx fs) ∧ TyX X.K H2 y t ∧ PySem.W.notFirst X.K C t = true ∧ spO X.K X.mg 2 g [x, y] H2 (fun v H3 => ∃ k, v = .bl k ∧ Q v H3) (WE W σ)) (mEqI Cn g ok ma mb) := by
  refine ⟨⟨fun pins s σ H Q I h => ?_⟩, fun σ ρ O G H Q P R hρ f0 hW hm k => ?_⟩
  · refine wpAny_Compare1 (binT ha.pe hb'.pe I h fun u v s2 x y H2 I2 ru rv ⟨p, dx, fs, t, ex, hp, ty, nf, q⟩ => ?_) (nomark _)
    subst ex
    cases (show u = Value.ref p from ru)
    obtain ⟨mA, J, _⟩ := ins_get I2.hok hp
    obtain ⟨od, J, _⟩ := J.look
    obtain ⟨Pk, Z, pz, hx⟩ := kit_of I2 rv ty
    obtain ⟨m, hF⟩ := I2.fr
    show wpAny (model X.prog X.w) X.A (richCompare .Eq (.ref p) v) (EP X pins σ Q) X.xe s2
    refine PySem.W.cmp_K (op := .Eq) (tb := t) hr.room.units0 hF I2.ok.mod.kin J (Z.ty _ _ I2.kIn pz) nf hs hf ?_
    have go := runS (us := [.ref p, v]) (vs := [.ref p, y]) (dvs := []) (dflt := []) F hr hb .nil (passAt tk σ) I2 (.cons rfl (.cons rv .nil)) q
    refine thn go fun r s3 ⟨z, H3, I3, rz, kk, ez, q3⟩ => ?_
    subst ez
    cases rz
    exact ⟨.bl kk, H3, I3, rfl, q3⟩
  · refine ha.sem σ ρ O G H _ _ R hρ f0 hW hm fun x s1 u G1 H1 h1 e1 f1 r1 => ?_
    refine hb'.sem σ ρ s1 G1 H1 _ _ R (hρ.mono e1) f1 (hW.mono e1) h1 fun y s2 v G2 H2 ⟨ns, ds, ex, oky, hg⟩ e2 f2 r2 => ?_
    subst ex
    have r3 := r1.mono e2
    have r4 := r3
    obtain ⟨t, ty, nf⟩ := T.tb G2 H2 v y (Frm.same f2) r2 oky
    cases r3 with
    | ins mC hG hl rl =>
      rw [hC] at mC
      cases mC
      refine ⟨_, _, _, t, rfl, Frm.same f2 _ _ hG, ty, nf, spO_of f2 (.cons r4 (.cons r2 .nil)) rfl hg (fun d s' z G' H' ⟨kk, ed, p⟩ q f' rz => ?_) (hW.mono (e1.trans e2))⟩
      subst ed
      cases rz
      exact ⟨kk, rfl, k _ s' _ G' H' p ((e1.trans e2).trans q) f' (.bl kk)⟩
end
end DL

set_option Elab.async false
set_option linter.all false
set_option maxRecDepth 100000
set_option maxHeartbeats 2000000
namespace DL
open PySem PySem.Spec PyProof.Rows L2

section
variable {X : Cx}
/-! ### == where a list is empty, or of another length: whatever the items are -/
def wEqL : W2 := fun a b P => ∃ x y, a = .lst x ∧ b = .lst y ∧ (x.length ≠ y.length ∨ x = []) ∧ P (.bl (decide (x.length = y.length)))
def rEqL (neg : Bool) : R2 := fun x y H Q => ∃ a b xs ys, x = .ref a ∧ y = .ref b ∧ H a = some (.lst xs) ∧ H b = some (.lst ys) ∧ (xs.length ≠ ys.length ∨ xs = []) ∧ Q (.bl (neg != decide (xs.length = ys.length))) H
theorem op_eqL (hu : X.A.units + 64 < cLine) : OpR X (compareOp .Eq) (rEqL false) := by
  intro pins s σ H x y v u Q I rx ry ⟨a, b, xs, ys, ex, ey, ha, hb, hl, q⟩
  subst ex ey
  cases rx
  cases ry
  obtain ⟨i1, r1, p1, _⟩ := I.list (SqL.of ha)
  obtain ⟨i2, r2, p2, _⟩ := I.list (SqL.of hb)
  have l1 := Vals.length r1
  have l2 := Vals.length r2
  by_cases e : xs.length = ys.length
  · have hx : xs = [] := hl.elim (fun z => absurd e z) id
    subst hx
    have e1 : i1 = [] := List.eq_nil_of_length_eq_zero l1.symm
    have e2 : i2 = [] := List.eq_nil_of_length_eq_zero (by rw [← l2, ← e]; rfl)
    subst e1 e2
    refine SeqAt.eq_listAt (e := fun _ => true) p1.isList p2.isList rfl (by omega) (fun j h1 _ => absurd h1 (by simp)) ⟨.bl true, H, I, rfl, ?_⟩
    rw [decide_eq_true e] at q
    exact q
  · refine SeqAt.eq_list_lengthsAt p1.isList p2.isList (by simpa [← l1, ← l2] using e) (by omega) ⟨.bl false, H, I, rfl, ?_⟩
    rw [decide_eq_false e] at q
    exact q
theorem op_neL (hu : X.A.units + 64 < cLine) : OpR X (compareOp .NotEq) (rEqL true) := by
  intro pins s σ H x y v u Q I rx ry ⟨a, b, xs, ys, ex, ey, ha, hb, hl, q⟩
  subst ex ey
  cases rx
  cases ry
  obtain ⟨i1, r1, p1, _⟩ := I.list (SqL.of ha)
  obtain ⟨i2, r2, p2, _⟩ := I.list (SqL.of hb)
  have l1 := Vals.length r1
  have l2 := Vals.length r2
  by_cases e : xs.length = ys.length
  · have hx : xs = [] := hl.elim (fun z => absurd e z) id
    subst hx
    have e1 : i1 = [] := List.eq_nil_of_length_eq_zero l1.symm
    have e2 : i2 = [] := List.eq_nil_of_length_eq_zero (by rw [← l2, ← e]; rfl)
    subst e1 e2
    rw [decide_eq_true e] at q
    exact SeqAt.RcNeAt.lists (A := X.A) (s := s) (e := fun _ => true) p1.isList p2.isList rfl (by omega) (fun j h1 _ => absurd h1 (by simp)) X.prog X.w X.xe _ ⟨.bl false, H, I, rfl, q⟩
  · rw [decide_eq_false e] at q
    exact SeqAt.RcNeAt.lists_lengths (A := X.A) (s := s) p1.isList p2.isList (by simpa [← l1, ← l2] using e) (by omega) X.prog X.w X.xe _ ⟨.bl true, H, I, rfl, q⟩
theorem eqL_sem {neg : Bool} {x y : V} {a b : D} {G H : Hp} {Q : VK} {P : D → Prop} (ra : Rp X.K X.mg G x a) (rb : Rp X.K X.mg G y b) (sm : Same G H) {u w : List D} (e1 : a = .lst u) (e2 : b = .lst w) (hl : u.length ≠ w.length ∨ u = []) (h : P (.bl (neg != decide (u.length = w.length))))
    (k : ∀ (d : D) (v : V) (G' H' : Hp), P d → L2.Ext G G → True → Rp X.K X.mg G' v d → G' = G → H' = H → Q v H') : rEqL neg x y H Q := by
  subst e1 e2
  cases ra with
  | lst p q =>
    cases rb with
    | lst p' q' =>
      have l1 := q.len
      have l2 := q'.len
      refine ⟨_, _, _, _, rfl, rfl, sm _ _ p, sm _ _ p', hl.elim (fun z => .inl (by rw [l1, l2]; exact z)) (fun z => .inr ?_), ?_⟩
      · subst z
        cases q
        rfl
      · rw [l1, l2]
        exact k _ _ G H h (fun _ _ z => z) trivial (.bl _) rfl rfl
/-- == of data, or of two lists of which one is empty or that are of unlike length -/
def wEq' : W2 := fun a b P => wEq a b P ∨ ∃ x y, a = .lst x ∧ b = .lst y ∧ (x.length ≠ y.length ∨ x = []) ∧ P (.bl (decide (x.length = y.length)))
def wNe' : W2 := fun a b P => wNe a b P ∨ ∃ x y, a = .lst x ∧ b = .lst y ∧ (x.length ≠ y.length ∨ x = []) ∧ P (.bl (!decide (x.length = y.length)))
theorem o_eq' (hu : X.A.units + 64 < cLine) : Op2 X (compareOp .Eq) (fun x y H Q => rEqD X.K x y H Q ∨ rEqL false x y H Q) wEq' := by
  refine ⟨(op_eqD hu).or (op_eqL hu), fun x y a b G H Q P ra rb sm h k => ?_⟩
  rcases h with h | ⟨u, w, e1, e2, hl, h⟩
  · exact .inl ((o_eq hu).sem x y a b G H Q P ra rb sm h k)
  · exact .inr (eqL_sem (P := P) ra rb sm e1 e2 hl (by simpa using h) fun d v G' H' p _ _ r eG eH => by subst eG eH; exact k d v _ _ p .refl r)
theorem o_ne' (hu : X.A.units + 64 < cLine) : Op2 X (compareOp .NotEq) (fun x y H Q => rNeD X.K x y H Q ∨ rEqL true x y H Q) wNe' := by
  refine ⟨(op_neD hu).or (op_neL hu), fun x y a b G H Q P ra rb sm h k => ?_⟩
  rcases h with h | ⟨u, w, e1, e2, hl, h⟩
  · exact .inl ((o_ne hu).sem x y a b G H Q P ra rb sm h k)
  · exact .inr (eqL_sem (P := P) ra rb sm e1 e2 hl (by simpa using h) fun d v G' H' p _ _ r eG eH => by subst eG eH; exact k d v _ _ p .refl r)
/-! ### -a, a ** b -/
def mNeg {S : Type} (m : ME S) : ME S := fun ρ s P R => m ρ s (fun d s1 => ∃ i, d = .int i ∧ P (.int (-i)) s1) R
theorem de_neg {S : Type} {Φ : S → Hp → Hp → Prop} {W : WX} [Frm Φ] {e : Expr} {te : TE} {m : ME S} {pos : Pos} (h : DE X Φ W e te m) : DE X Φ W (.UnaryOp .USub e pos) (tUn (rU fun i => .int (-i)) te) (mNeg m) :=
  ⟨pe_un un_neg h.pe, fun σ ρ s G H Q P R hρ f hW hm k => h.sem σ ρ s G H _ _ R hρ f hW hm fun d s1 v G1 H1 ⟨i, ed, p⟩ e1 f1 r1 => by
    subst ed
    cases r1
    exact ⟨i, rfl, k _ s1 _ G1 H1 p e1 f1 (.int _)⟩⟩
def wPow : W2 := wI CPow fun i j => .int (i ^ j.toNat)
theorem o_pow : Op2 X (binaryOp .Pow) (rI CPow fun i j => .int (i ^ j.toNat)) wPow := wI_sem (fun G i j => .int _) op_pow
/-! ### {} -/
theorem de_dnew {S : Type} {Φ : S → Hp → Hp → Prop} {W : WX} [Frm Φ] {pos : Pos} : DE X Φ W (.Dict [] [] pos) tDNewK (mC (.dic [] []) : ME S) :=
  ⟨pe_dnewK, fun σ ρ s G H Q P R hρ f hW hm k => fun d hd => k _ s _ _ _ hm (same_new ((Frm.same f).free hd)) (Frm.ext f hd) (.dic (vs := []) upd_same rfl .nil)⟩
/-! ### a list or a tuple walked -/
def iSeq (K : PySem.W.Frag) (tl : TE) : TI := fun σ H R => tl σ H fun x H1 => ∃ a, x = .ref a ∧ (((∃ xs, SqL K H1 a xs) ∧ R (Itl K a) H1) ∨ ((∃ xs, SqT K H1 a xs) ∧ R (Itt K a) H1))
theorem pi_seq {tg l : Expr} {tl : TE} (hl : PE X l tl) : PI X tg l (iSeq X.K tl) := by
  refine ⟨fun pins s σ H R I h => thn (hl.run pins s σ H _ I h) fun v s1 ⟨x, H1, I1, r1, a, e, q⟩ => ?_⟩
  subst e
  have one : ∀ (t : TI) (b : V), PI X tg l t → True := fun _ _ _ => trivial
  cases r1
  have nw : ∀ (b : Addr), b ∈ [s1.heap.objs.size] → FpOk X pins H1 b := fun b hb => by
    cases List.mem_singleton.mp hb
    exact I1.fpOk (Nat.le_refl _) (I1.hok.fresh (Nat.le_refl _))
  rcases q with ⟨⟨xs, hq⟩, q⟩ | ⟨⟨xs, hq⟩, q⟩
  · obtain ⟨its, rv, p, hz⟩ := I1.list hq
    exact wpAny_pyIter_list p.isList ⟨s1.heap.objs.size, _, _, _, H1, rfl, I1.kept (t' := s1.toks) (fun b o e => Heap.get?_push_of_some _ e), turn_list a _, ⟨_, Heap.get?_push_size _ rfl, rfl, rfl⟩, nw, q⟩
  · obtain ⟨its, rv, p, hz⟩ := I1.tuple hq
    exact wpAny_pyIter_tuple (show s1.heap.IsTuple a its.toArray from p) ⟨s1.heap.objs.size, _, _, _, H1, rfl, I1.kept (t' := s1.toks) (fun b o e => Heap.get?_push_of_some _ e), turn_tuple a _, ⟨_, Heap.get?_push_size _ rfl, rfl, rfl⟩, nw, q⟩
def mSeq {S : Type} (m : ME S) : MI S := fun ρ s P R => m ρ s (fun d s1 => (∃ ds, d = .lst ds ∧ P ds s1) ∨ (∃ ds, d = .tup ds ∧ P ds s1) ∨ ∃ ds, d = .frz ds ∧ P ds s1) R
theorem y_frz {K : PySem.W.Frag} {mg : Str → Option Value} {G : Hp} {a : Addr} {vs : List V} {ds : List D} (h : SqF K G a vs) (r : RpL K mg G vs ds) : Yields K mg (Itl K a) G ds := fun G' H e e' => by
  have hq : SqL K H a vs := (sqf_mono (e.trans e') h).sql
  have hl := r.len
  refine ⟨fun i hi => ⟨vs, vs[i]'(by omega), hq, by simp [hl, hi]⟩, ⟨vs, hq, by omega⟩, fun i x H' hi ⟨e1, y⟩ => ?_⟩
  subst e1
  obtain ⟨d, h1, h2⟩ := r.atV (y vs hq)
  exact ⟨G', .refl, d, h1, h2.mono e⟩
theorem di_seq {S : Type} {Φ : S → Hp → Hp → Prop} {W : WX} [Frm Φ] {tg l : Expr} {tl : TE} {m : ME S} (h : DE X Φ W l tl m) : DI X Φ W tg l (iSeq X.K tl) (mSeq m) :=
  ⟨pi_seq h.pe, fun σ ρ s G H Q P R hρ f hW hm k => h.sem σ ρ s G H _ _ R hρ f hW hm fun d s1 v G1 H1 hd e1 f1 r1 => by
    rcases hd with ⟨ds, ed, p⟩ | ⟨ds, ed, p⟩ | ⟨ds, ed, p⟩
    · subst ed
      cases r1 with
      | lst q rl => exact ⟨_, rfl, .inl ⟨⟨_, SqL.of (Frm.same f1 _ _ q)⟩, k ds s1 _ G1 H1 p e1 f1 (y_list q rl)⟩⟩
    · subst ed
      cases r1 with
      | tup q rl => exact ⟨_, rfl, .inr ⟨⟨_, sqt_mono (Frm.same f1) q⟩, k ds s1 _ G1 H1 p e1 f1 (y_tup q rl)⟩⟩
    · subst ed
      cases r1 with
      | frz q rl => exact ⟨_, rfl, .inl ⟨⟨_, (sqf_mono (Frm.same f1) q).sql⟩, k ds s1 _ G1 H1 p e1 f1 (y_frz q rl)⟩⟩⟩
section
variable {Φ : OH → Hp → Hp → Prop} {W : WX} [FΦ : OFrm X.K X.mg Φ]
/-- a == b by an own __eq__, as a test -/
theorem dt_eqI {k : Nat} {C f : Addr} {Cn : Str} {fd : FuncData} {n1 n2 : Str} {g : WF} {ok : D → Prop} {a b : Expr} {ta tb : TE} {ma mb : ME OH} {pos : Pos} (hC : X.mg Cn = some (.ref C)) (hs : PySem.W.findIn X.K (.ref C) "__eq__" = some (some (.ref f))) (hf : PySem.W.isFn X.K (.ref f) = true)
    (T : EqT X.K X.mg C ok) (F : FnG X.prog X.w X.K X.mg X.base k f fd [n1, n2] g) (hr : Rm k X) (hb : Binds X.K fd [n1, n2] []) (tk : Takes X W) (ha : DE X Φ W a ta ma) (hb' : DE X Φ W b tb mb) :
    DT X Φ W (.Compare a [.Eq] [b] pos) (tTest (fun σ H Q => ta σ H fun x H1 => tb σ H1 fun y H2 => ∃ p dx fs t, x = .ref p ∧ H2 p = some (.ins C dx fs) ∧ TyX X.K H2 y t ∧ PySem.W.notFirst X.K C t = true ∧ spO X.K X.mg 2 g [x, y] H2 (fun v H3 => ∃ k, v = .bl k ∧ Q v H3) (WE W σ))) (mTest (mEqI Cn g ok ma mb)) := by
  have d := de_eqI (pos := pos) hC hs hf T F hr hb tk ha hb'
  refine ⟨⟨fun pins s σ H Q I h => ?_⟩, fun σ ρ s G H _ _ R hρ f hW hm k => d.sem σ ρ s G H _ _ R hρ f hW hm fun y s' v G' H' ⟨c, e, p⟩ q1 q2 q3 => by
    subst e
    exact ⟨c, rp_bl q3, k c s' G' H' p q1 q2⟩⟩
  refine wpAny_isTrue_Compare1 (binT ha.pe hb'.pe I h fun u v s2 x y H2 I2 ru rv ⟨p, dx, fs, t, ex, hp, ty, nf, q⟩ => ?_) (nomark _)
  subst ex
  cases (show u = Value.ref p from ru)
  obtain ⟨mA, J, _⟩ := ins_get I2.hok hp
  obtain ⟨od, J, _⟩ := J.look
  obtain ⟨Pk, Z, pz, hx⟩ := kit_of I2 rv ty
  obtain ⟨m, hF⟩ := I2.fr
  show wpAny (model X.prog X.w) X.A (richCompare .Eq (.ref p) v) _ X.xe s2
  refine PySem.W.cmp_K (op := .Eq) (tb := t) hr.room.units0 hF I2.ok.mod.kin J (Z.ty _ _ I2.kIn pz) nf hs hf ?_
  have go := runS (us := [.ref p, v]) (vs := [.ref p, y]) (dvs := []) (dflt := []) F hr hb .nil (passAt tk σ) I2 (.cons rfl (.cons rv .nil)) q
  refine thn go fun r s3 ⟨z, H3, I3, rz, kk, ez, c, ec, q3⟩ => ?_
  subst ez
  cases ec
  cases rz
  exact wpAny_truthy_bool ⟨H3, I3, q3⟩
end
/-! ### a list of lists, made one's own: whatever held it as a tree is forgotten -/
/-! ### repr of an instance, by its own __repr__ -/
section
variable {Φ : OH → Hp → Hp → Prop} {W : WX} [FΦ : OFrm X.K X.mg Φ]
def mReprI (C : Str) (g : WF) (m : ME OH) : ME OH := fun ρ O P R => m ρ O (fun x O1 => ∃ ns ds, x = .ins C ns ds ∧ g [x] O1 (fun d O2 => ∃ y, d = .str y ∧ P d O2) R0) R
theorem cr_reprI {k : Nat} {C f : Addr} {fd : FuncData} {n : Str} {g : WF} (c : Cls X.K C) (hs : PySem.W.findIn X.K (.ref C) "__repr__" = some (some (.ref f))) (hf : PySem.W.isFn X.K (.ref f) = true) (F : FnG X.prog X.w X.K X.mg X.base k f fd [n] g) (hr : Rm (k + 1) X) (hb : Binds X.K fd [n] []) :
    CallR X (.builtin "repr") (fun vs H Q => ∃ a dx fs, vs = [.ref a] ∧ H a = some (.ins C dx fs) ∧ spO X.K X.mg 1 g [.ref a] H (fun v H' => ∃ y, v = .str y ∧ Q v H') E0) := by
  intro pins s σ H vs us Q I r ⟨a, dx, fs, ev, ha, q⟩
  subst ev
  obtain ⟨u, rfl, ru⟩ := vals1 r
  cases (show u = Value.ref a from ru)
  obtain ⟨mA, J, _⟩ := ins_get I.hok ha
  obtain ⟨od, J, _⟩ := J.look
  obtain ⟨m, hF⟩ := I.fr
  have hl : ([Value.ref a] ++ []).length = [n].length := rfl
  have go := F.run X.A.in1 X.stack s H ⟨[.ref a], []⟩ [.ref a] [.ref a] _ E0 hr.room.in1 hr.gd I.env0.in1 (hb s [.ref a] I.kIn hl) (.cons rfl .nil) q
  refine PySem.W.repr_K (by have := hr.room.units; show X.A.units + 1 < _; omega) hF I.ok.mod.kin J hs hf (wpAny_call (codeAny_mono go fun r s' hq => ?_))
  match r, hq with
  | .error er, hq => exact (passL (X := X.nox) pins σ H s er s' (I.wish _) hq).elim
  | .ok (.ret u), hq =>
    obtain ⟨v, H', I3, rv, y, ev, q3⟩ := I.after hq
    subst ev
    obtain ⟨t, rfl⟩ := rv
    exact ⟨.str y, H', I3, ⟨t, rfl⟩, q3⟩
  | .ok .next, hq => exact hq.elim
  | .ok .brk, hq => exact hq.elim
  | .ok .cont, hq => exact hq.elim
theorem de_reprI {k : Nat} {C f : Addr} {Cn : Str} {fd : FuncData} {n : Str} {g : WF} {e : Expr} {te : TE} {m : ME OH} {p pos : Pos} (c : Cls X.K C) (hC : X.mg Cn = some (.ref C)) (hs : PySem.W.findIn X.K (.ref C) "__repr__" = some (some (.ref f))) (hf : PySem.W.isFn X.K (.ref f) = true)
    (F : FnG X.prog X.w X.K X.mg X.base k f fd [n] g) (hr : Rm (k + 1) X) (hb : Binds X.K fd [n] []) (hg : Gl X "repr") (hm : X.mg "repr" = none) (h : DE X Φ W e te m)
    (he : starEach [e] X.env = (false, eval e X.env) :: starEach [] X.env := by rfl) (hpl : (backTo pos (starEach [] X.env)).any (·.1) = false := by rfl) :
    DE X Φ W (.Call (.Name "repr" p) [e] [] pos) (tCB (fun vs H Q => ∃ a dx fs, vs = [.ref a] ∧ H a = some (.ins C dx fs) ∧ spO X.K X.mg 1 g [.ref a] H (fun v H' => ∃ y, v = .str y ∧ Q v H') E0) (tCons te tNil)) (mReprI Cn g m) :=
  ⟨pe_callB (cr_reprI c hs hf F hr hb) hg hm (by decide +kernel) (pa_cons h.pe pa_nil he) (by decide) (by decide) he hpl, fun σ ρ O G H Q P R hρ f0 hW hmm k => h.sem σ ρ O G H _ _ R hρ f0 hW hmm fun x O1 v G1 H1 ⟨ns, ds, ex, hgx⟩ e1 f1 r1 => by
    subst ex
    have r2 := r1
    cases r1 with
    | ins mC hG hl rl =>
      rw [hC] at mC
      cases mC
      refine ⟨_, _, _, rfl, Frm.same f1 _ _ hG, spO_of (R := R0) f1 (.cons r2 .nil) rfl hgx (fun d s' z G' H' ⟨y, ed, p⟩ q f' rz => ?_) fun _ _ _ _ _ _ _ _ _ z => z.elim⟩
      subst ed
      cases rz
      exact ⟨y, rfl, k _ s' _ G' H' p (e1.trans q) f' (.str y)⟩⟩
end
end
end DL

set_option Elab.async false
set_option linter.all false
set_option maxRecDepth 100000
set_option maxHeartbeats 2000000
namespace DL
open PySem PySem.Spec PyProof.Rows L2

/-! ### a list of lists, made one's own: whatever held lists as trees is forgotten -/
mutual
def noLst : D → Bool
  | .lst _ => false
  | .dic _ _ => false
  | .tup ds => noLstL ds
  | .ins _ _ ds => noLstL ds
  | .frz ds => noLstL ds
  | _ => true
def noLstL : List D → Bool
  | [] => true
  | d :: ds => noLst d && noLstL ds
end
section
variable {K : PySem.W.Frag} {mg : Str → Option Value} {G : Hp}
/-- G without the lists at A -/
def offG (G : Hp) (A : Addr → Bool) : Hp := fun b => if A b = true then none else G b
theorem offG_keep {A : Addr → Bool} (hA : ∀ b, A b = true → ∃ vs, G b = some (.lst vs)) {b : Addr} {o : HO} (h : G b = some o) (n : ∀ vs, o ≠ .lst vs) : offG G A b = some o := by
  unfold offG
  by_cases e : A b = true
  · obtain ⟨vs, q⟩ := hA b e
    rw [h] at q
    cases q
    exact absurd rfl (n vs)
  · rw [if_neg e]
    exact h
mutual
theorem rp_off {A : Addr → Bool} (hA : ∀ b, A b = true → ∃ vs, G b = some (.lst vs)) : ∀ {v : V} {d : D}, Rp K mg G v d → noLst d = true → Rp K mg (offG G A) v d
  | _, _, .non, _ => .non
  | _, _, .bl b, _ => .bl b
  | _, _, .int i, _ => .int i
  | _, _, .str x, _ => .str x
  | _, _, .lst _ _, h => by simp [noLst] at h
  | _, _, .tup q r, h => by
    simp only [noLst] at h
    refine .tup ?_ (rpl_off hA r h)
    rcases q with (q | ⟨o, q⟩) | q
    · exact .inl (.inl (offG_keep hA q fun _ z => nomatch z))
    · exact .inl (.inr ⟨o, offG_keep hA q fun _ z => nomatch z⟩)
    · exact .inr q
  | _, _, .dic _ _ _, h => by simp [noLst] at h
  | _, _, .ins m q l r, h => by
    simp only [noLst] at h
    exact .ins m (offG_keep hA q fun _ z => nomatch z) l (rpl_off hA r h)
  | _, _, .frz q r, h => by
    simp only [noLst] at h
    refine .frz ?_ (rpl_off hA r h)
    rcases q with ⟨o, q⟩ | q
    · exact .inl ⟨o, offG_keep hA q fun _ z => nomatch z⟩
    · exact .inr q
  | _, _, .loc a, _ => .loc a
  | _, _, .cls h, _ => .cls h
  | _, _, .ty n, _ => .ty n
theorem rpl_off {A : Addr → Bool} (hA : ∀ b, A b = true → ∃ vs, G b = some (.lst vs)) : ∀ {vs : List V} {ds : List D}, RpL K mg G vs ds → noLstL ds = true → RpL K mg (offG G A) vs ds
  | _, _, .nil, _ => .nil
  | _, _, .cons a r, h => by
    simp only [noLstL, Bool.and_eq_true] at h
    exact .cons (rp_off hA a h.1) (rpl_off hA r h.2)
end
/-- without any object -/
def flatL : List D → Bool
  | [] => true
  | d :: ds => (match d with
    | .non | .bl _ | .int _ | .str _ | .loc _ => true
    | _ => false) && flatL ds
theorem rpl_flat {G' : Hp} : ∀ {vs : List V} {ds : List D}, RpL K mg G vs ds → flatL ds = true → RpL K mg G' vs ds
  | _, _, .nil, _ => .nil
  | _, _, .cons a r, h => by
    simp only [flatL, Bool.and_eq_true] at h
    refine .cons ?_ (rpl_flat r h.2)
    cases a <;> first | exact .non | exact .bl _ | exact .int _ | exact .str _ | exact .loc _ | simp at h
def flatO : DO → Bool
  | .lst ds => flatL ds
  | .ins _ _ ds => flatL ds
  | _ => false
theorem rpo_flat {G' : Hp} {o : HO} {x : DO} (r : RpO K mg G o x) (h : flatO x = true) : RpO K mg G' o x := by
  cases r with
  | lst r => exact .lst (rpl_flat r h)
  | dic _ _ => simp [flatO] at h
  | ins a b r => exact .ins a b (rpl_flat r h)
end
/-! a list of lists of ints that is one's own, lent as a tree while an expression is evaluated -/
structure Rws (O : OH) (a : Addr) (as : List Addr) (xss : List (List Int)) : Prop where
  top : O a = some (.lst (as.map D.loc))
  len : as.length = xss.length
  row : ∀ (j : Nat) (b : Addr) (xs : List Int), as[j]? = some b → xss[j]? = some xs → O b = some (.lst (xs.map D.int))
def rowsD (xss : List (List Int)) : D := .lst (xss.map fun xs => .lst (xs.map D.int))
def offO (O : OH) (A : Addr → Bool) : OH := fun b => if A b = true then none else O b
def onO (O O2 : OH) (A : Addr → Bool) : OH := fun b => if A b = true then O b else O2 b
def inA (a : Addr) (as : List Addr) : Addr → Bool := fun b => decide (b = a ∨ b ∈ as)
section
variable {K : PySem.W.Frag} {mg : Str → Option Value} {O : OH} {G H : Hp} {a : Addr} {as : List Addr} {xss : List (List Int)}
theorem rpl_locs : ∀ {bs : List Addr} {vs : List V}, RpL K mg G vs (bs.map D.loc) → vs = bs.map V.ref
  | [], _, .nil => rfl
  | b :: bs, _, .cons r rl => by
    cases r
    rw [rpl_locs rl]
    rfl
theorem rI (G2 : Hp) (ns : List Int) : RpL K mg G2 (ns.map V.int) (ns.map D.int) := by
  induction ns with
  | nil => exact .nil
  | cons n ns ih => exact .cons (.int n) ih
theorem rA (G2 : Hp) (bs : List Addr) : RpL K mg G2 (bs.map V.ref) (bs.map D.loc) := by
  induction bs with
  | nil => exact .nil
  | cons n ns ih => exact .cons (.loc n) ih
theorem Rws.at (w : Rws O a as xss) (f : Phi K mg O G H) : H a = some (.lst (as.map V.ref)) ∧ ∀ (j : Nat) (b : Addr) (xs : List Int), as[j]? = some b → xss[j]? = some xs → H b = some (.lst (xs.map V.int)) := by
  obtain ⟨_, o, h1, h2⟩ := f.own _ _ w.top
  refine ⟨?_, fun j b xs q1 q2 => ?_⟩
  · cases h2 with
    | lst r => rw [h1, rpl_locs r]
  · obtain ⟨_, o, h3, h4⟩ := f.own _ _ (w.row j b xs q1 q2)
    cases h4 with
    | lst r => rw [h3, rpl_ints r]
/-- lent -/
theorem lend (w : Rws O a as xss) (f : Phi K mg O G H) : ∃ G1, Same G G1 ∧ Phi K mg (offO O (inA a as)) G1 H ∧ Rp K mg G1 (.ref a) (rowsD xss) ∧ ∀ b, inA a as b = true → G1 b = H b ∧ G b = none ∧ ∃ vs, H b = some (.lst vs) ∧ ∃ y, O b = some y ∧ flatO y = true ∧ ∀ G2, RpO K mg G2 (.lst vs) y := by
  obtain ⟨hT, hR⟩ := w.at f
  have flatI : ∀ ns : List Int, flatL (ns.map D.int) = true := fun ns => by
    induction ns with
    | nil => rfl
    | cons n ns ih => simp [flatL, ih]
  have flatA : ∀ bs : List Addr, flatL (bs.map D.loc) = true := fun bs => by
    induction bs with
    | nil => rfl
    | cons n ns ih => simp [flatL, ih]
  have key : ∀ b, inA a as b = true → G b = none ∧ ∃ vs, H b = some (.lst vs) ∧ ∃ y, O b = some y ∧ flatO y = true ∧ ∀ G2, RpO K mg G2 (.lst vs) y := fun b hb => by
    rcases of_decide_eq_true hb with e | e
    · subst e
      exact ⟨(f.own _ _ w.top).1, _, hT, _, w.top, flatA as, fun G2 => .lst (rA G2 as)⟩
    · obtain ⟨j, hj⟩ := List.getElem?_of_mem e
      have hjl : j < xss.length := by rw [← w.len]; exact (List.getElem?_eq_some_iff.mp hj).1
      have q := w.row j b _ hj (List.getElem?_eq_getElem hjl)
      exact ⟨(f.own _ _ q).1, _, hR j b _ hj (List.getElem?_eq_getElem hjl), _, q, flatI _, fun G2 => .lst (rI G2 _)⟩
  let G1 : Hp := fun b => if inA a as b = true then H b else G b
  have g1 : ∀ b, inA a as b = true → G1 b = H b := fun b hb => if_pos hb
  have s1 : Same G G1 := fun b o e => by
    show (if inA a as b = true then H b else G b) = some o
    by_cases hb : inA a as b = true
    · rw [(key b hb).1] at e
      cases e
    · rw [if_neg hb]
      exact e
  refine ⟨G1, s1, ⟨fun b o e => ?_, fun b y e => ?_⟩, ?_, fun b hb => ⟨g1 b hb, key b hb⟩⟩
  · by_cases hb : inA a as b = true
    · rw [g1 b hb] at e
      exact e
    · have e' : G b = some o := by
        have z : G1 b = G b := if_neg hb
        rw [← z]
        exact e
      exact f.same _ _ e'
  · unfold offO at e
    by_cases hb : inA a as b = true
    · rw [if_pos hb] at e
      cases e
    · rw [if_neg hb] at e
      obtain ⟨g0, o, h1, h2⟩ := f.own b y e
      exact ⟨(if_neg hb : G1 b = G b).trans g0, o, h1, h2.mono s1⟩
  · refine .lst ((g1 a (decide_eq_true (.inl rfl))).trans hT) ?_
    have go : ∀ (bs : List Addr) (yss : List (List Int)), bs.length = yss.length → (∀ (j : Nat) (b : Addr) (xs : List Int), bs[j]? = some b → yss[j]? = some xs → G1 b = some (.lst (xs.map V.int))) → RpL K mg G1 (bs.map V.ref) (yss.map fun xs => .lst (xs.map D.int)) := by
      intro bs
      induction bs with
      | nil =>
        intro yss h1 _
        cases yss with
        | nil => exact .nil
        | cons _ _ => cases h1
      | cons b bs ih =>
        intro yss h1 h2
        cases yss with
        | nil => cases h1
        | cons ys yss => exact .cons (.lst (h2 0 b ys rfl rfl) (rI G1 ys)) (ih yss (by simpa using h1) fun j c xs q1 q2 => h2 (j + 1) c xs (by simpa using q1) (by simpa using q2))
    refine go as xss w.len fun j b xs q1 q2 => ?_
    rw [g1 b (decide_eq_true (.inr (List.mem_of_getElem? q1)))]
    exact hR j b xs q1 q2
/-- .. and taken back -/
theorem back {O2 : OH} {G1 G2 H2 : Hp} (s1 : Same G G1) (hA : ∀ b, inA a as b = true → G1 b = H b ∧ G b = none ∧ ∃ vs, H b = some (.lst vs) ∧ ∃ y, O b = some y ∧ flatO y = true ∧ ∀ G2, RpO K mg G2 (.lst vs) y) (e2 : Same G1 G2) (f2 : Phi K mg O2 G2 H2)
    (hO : ∀ b y, O2 b = some y → flatO y = true) : Same G (offG G2 (inA a as)) ∧ Phi K mg (onO O O2 (inA a as)) (offG G2 (inA a as)) H2 ∧ ∀ b, inA a as b = true → ∃ vs, G2 b = some (.lst vs) := by
  have hl : ∀ b, inA a as b = true → ∃ vs, G2 b = some (.lst vs) ∧ H2 b = some (.lst vs) ∧ ∃ y, O b = some y ∧ ∀ G2, RpO K mg G2 (.lst vs) y := fun b hb => by
    obtain ⟨h1, _, vs, h2, y, h3, _, h4⟩ := hA b hb
    have q : G2 b = some (.lst vs) := e2 _ _ (h1.trans h2)
    exact ⟨vs, q, f2.same _ _ q, y, h3, h4⟩
  refine ⟨fun b o e => ?_, ⟨fun b o e => ?_, fun b y e => ?_⟩, fun b hb => let ⟨vs, q, _⟩ := hl b hb; ⟨vs, q⟩⟩
  · unfold offG
    by_cases hb : inA a as b = true
    · rw [(hA b hb).2.1] at e
      cases e
    · rw [if_neg hb]
      exact e2 _ _ (s1 _ _ e)
  · unfold offG at e
    split at e
    · cases e
    · exact f2.same _ _ e
  · unfold onO at e
    by_cases hb : inA a as b = true
    · rw [if_pos hb] at e
      obtain ⟨vs, _, h2, y', h3, h4⟩ := hl b hb
      rw [h3] at e
      cases e
      exact ⟨if_pos hb, _, h2, h4 _⟩
    · rw [if_neg hb] at e
      obtain ⟨g0, o, h1, h2⟩ := f2.own b y e
      exact ⟨(if_neg hb).trans g0, o, h1, rpo_flat h2 (hO b y e)⟩
end
/-- the state behind the loan -/
def retO (O : OH) (a : Addr) (as : List Addr) (Q : OH → Prop) (O2 : OH) : Prop := (∀ b y, O2 b = some y → flatO y = true) ∧ Q (onO O O2 (inA a as))
def mBorT (i : Nat) (m : MT OH) : MT OH := fun ρ O P R => ∃ a as xss, ρ[i]? = some (some (.loc a)) ∧ Rws O a as xss ∧ m (ρ.set i (some (rowsD xss))) (offO O (inA a as)) (fun c O2 => retO O a as (P c) O2) R0
def mBor (i : Nat) (m : ME OH) : ME OH := fun ρ O P R => ∃ a as xss, ρ[i]? = some (some (.loc a)) ∧ Rws O a as xss ∧ m (ρ.set i (some (rowsD xss))) (offO O (inA a as)) (fun d O2 => noLst d = true ∧ retO O a as (P d) O2) R0
theorem rel_lend {K : PySem.W.Frag} {mg : Str → Option Value} {G G1 : Hp} {σ : Sig} {ρ : Rho} {i : Nat} {a : Addr} {d : D} (hρ : RelE K mg G σ ρ) (s1 : Same G G1) (hi : ρ[i]? = some (some (.loc a))) (r : Rp K mg G1 (.ref a) d) : RelE K mg G1 σ (ρ.set i (some d)) := by
  obtain ⟨v, hv, rv⟩ := hρ.2 i _ hi
  cases rv
  refine ⟨by rw [List.length_set]; exact hρ.1, fun j e hj => ?_⟩
  by_cases q : i = j
  · subst q
    have hlt : i < ρ.length := (List.getElem?_eq_some_iff.mp hi).1
    rw [List.getElem?_set_self hlt] at hj
    cases hj
    exact ⟨_, hv, r⟩
  · rw [List.getElem?_set_ne q] at hj
    obtain ⟨u, h1, h2⟩ := hρ.2 j e hj
    exact ⟨u, h1, h2.mono s1⟩
section
variable {X : Cx} {W : WX}
theorem dt_bor {e : Expr} {tt : TT} {m : MT OH} (i : Nat) (h : DT X (Phi X.K X.mg) W e tt m) : DT X (Phi X.K X.mg) W e tt (mBorT i m) :=
  ⟨h.pt, fun σ ρ O G H Q P R hρ f hW ⟨a, as, xss, hi, w, hm⟩ k => by
    obtain ⟨G1, s1, f1, r1, hA⟩ := lend w f
    refine h.sem σ _ _ G1 H Q _ R0 (rel_lend hρ s1 hi r1) f1 (fun _ _ _ _ _ _ _ _ _ z => z.elim) hm fun c O2 G2 H2 ⟨hO, p⟩ e2 f2 => ?_
    obtain ⟨h1, h2, _⟩ := back s1 hA e2 f2 hO
    exact k c _ _ H2 p h1 h2⟩
theorem de_bor {e : Expr} {te : TE} {m : ME OH} (i : Nat) (h : DE X (Phi X.K X.mg) W e te m) : DE X (Phi X.K X.mg) W e te (mBor i m) :=
  ⟨h.pe, fun σ ρ O G H Q P R hρ f hW ⟨a, as, xss, hi, w, hm⟩ k => by
    obtain ⟨G1, s1, f1, r1, hA⟩ := lend w f
    refine h.sem σ _ _ G1 H Q _ R0 (rel_lend hρ s1 hi r1) f1 (fun _ _ _ _ _ _ _ _ _ z => z.elim) hm fun d O2 v G2 H2 ⟨hd, hO, p⟩ e2 f2 r2 => ?_
    obtain ⟨h1, h2, h3⟩ := back s1 hA e2 f2 hO
    exact k d _ v _ H2 p h1 h2 (rp_off h3 r2 hd)⟩
end
end DL

set_option Elab.async false
set_option linter.all false
set_option maxRecDepth 100000
set_option maxHeartbeats 2000000
namespace DL
open PySem PySem.Spec PyProof.Rows L2

/-! ### the end: the law's own call -/
/-- what a law's def promises of the script -/
def spLawD (K : PySem.W.Frag) : Sp := fun vs H Q _ => ∃ (a : Addr) (ns : List Int), vs = [.ref a] ∧ SqF K H a (ns.map V.int) ∧ ns.length ≤ 63 ∧ ∀ H', Q (.bl true) H'
theorem law_callD {P : Program} {w : World} {K : PySem.W.Frag} {mg mb : Str → Option Value} {k : Nat} {fa a : Addr} {fd : FuncData} {x : Str} {s₁ : Shared} {vs : List Value} {ns : List Int}
    (KX : K.In s₁.heap) (hns : s₁.heap.Ns mainGlobals mg) (hb : s₁.heap.Ns builtinsNs mb) (hbb : ∀ x : Str, x ≠ "__name__" → mb x = bootBuiltins x) (hlim : s₁.heap.NoLimit) (hg : s₁.gens = #[])
    (ha : s₁.heap.get? a = some { cls := .type "list", data := .seq vs.toArray }) (hi : IntsAre vs ns) (hl : ns.length ≤ 63) (hr : Room k callerA)
    (hsm : ∃ mm, s₁.heap.Ns sysModules mm) (F : ∀ base : Heap, K.In base → base.Ns mainGlobals mg → (∃ mm, base.Ns sysModules mm) → FnS P w K mg base k fa fd [x] (spLawD K)) (hbind : ∀ (s : Shared) (u : Value), BindsTo s fd ⟨[u], []⟩ [(x, u)]) :
    codeAny (model P w) callerA (.call (.ref fa) ⟨[.ref a], []⟩) (fun r s' => r = .ok (.ret (.bool true)) ∧ OldK s₁.heap s'.heap ∧ s'.os = s₁.os ∧ AllBare s'.gens) s₁ := by
  have rv := vals_ints hi
  have lenV := hi.length
  have hline : ns.length ≤ sizeLine := Nat.le_trans hl (by decide)
  have core : ∀ H : Hp, Only H → SqF K H a (ns.map V.int) → HOk P w H s₁.heap → (∀ b, H b ≠ none → b = a) → (H a ≠ none → K.lookup a = none) →
      codeAny (model P w) callerA (.call (.ref fa) ⟨[.ref a], []⟩) (fun r s' => r = .ok (.ret (.bool true)) ∧ OldK s₁.heap s'.heap ∧ s'.os = s₁.os ∧ AllBare s'.gens) s₁ := by
    intro H hO hS hok hA hK
    have at_a : ∀ {b : Addr}, H b ≠ none → b = a := fun {b} z => hA b z
    have noA : ∀ {b : Addr} {o : Obj} {es : Array DictEntry} {ep : Nat}, s₁.heap.get? b = some o → o.data = .dict es ep → H b = none := by
      intro b o es ep e d
      match q : H b with
      | none => rfl
      | some u =>
        have e' : b = a := at_a (by rw [q]; simp)
        subst e'
        rw [ha] at e
        cases e
        exact (nomatch (show Data.seq vs.toArray _ = Data.dict es ep from d))
    have nsK : ∀ {b : Addr} {m : Str → Option Value}, s₁.heap.Ns b m → (hidT s₁.heap H).Ns b m := by
      intro b m ⟨o, es, ep, e, d, r⟩
      exact ⟨o, es, ep, hidT_get e (noA e d), d, r⟩
    have hKb : K.In (hidT s₁.heap H) := by
      intro b o e
      refine hidT_get (KX b o e) ?_
      match q : H b with
      | none => rfl
      | some u =>
        have e' : b = a := at_a (by rw [q]; simp)
        subst e'
        rw [hK (by rw [q]; simp)] at e
        cases e
    have hM : Mod K mg (hidT s₁.heap H) := by
      obtain ⟨mc, h1, h2⟩ := hlim
      exact ⟨hKb, nsK hns, ⟨mb, nsK hb, hbb⟩, ⟨mc, nsK h1, h2⟩⟩
    have e0 : Env0 P w K mg (hidT s₁.heap H) callerA [] s₁ H :=
      ⟨rfl, hM, fun b o e => of_hidT e, Nat.le_of_eq (hidT_size _ _), trivial, fun b hb => absurd hb (by simp [frs]), hok, .of_eq hg⟩
    have go := (F _ hKb (nsK hns) (hsm.imp fun _ => nsK)).run callerA [] s₁ H ⟨[.ref a], []⟩ [.ref a] [.ref a] (fun v _ => v = .bl true) (fun _ _ _ => False) hr rfl e0 (hbind s₁ (.ref a)) (.cons rfl .nil) ⟨a, ns, rfl, hS, hl, fun _ => rfl⟩
    refine codeAny_mono go fun r s' h => ?_
    match r, h with
    | .error e, h =>
      obtain ⟨_, _, _, _, _, _, _, _, _, _, _, _, z⟩ := h
      exact z.elim
    | .ok .next, h => exact h.elim
    | .ok .brk, h => exact h.elim
    | .ok .cont, h => exact h.elim
    | .ok (.ret u), ⟨v, H', os, bare, un, hok', r', q⟩ =>
      have q' : v = .bl true := q
      subst q'
      cases (show u = Value.bool true from r')
      refine ⟨rfl, OldK.of_keep fun b o e => ?_, os, bare⟩
      match q : H b with
      | none => exact un.keep b o e q (by simp [frs]) (by simp)
      | some u =>
        rcases hO b with z | ⟨ob, xs, z⟩
        · rw [q] at z
          cases z
        · obtain ⟨e1, _⟩ := hok b _ z
          obtain ⟨e2, _⟩ := hok' b _ (un.frzs b ob _ z)
          rw [e] at e1
          cases e1
          exact e2
  cases hk : K.lookup a with
  | some o =>
    have e := KX a o hk
    rw [ha] at e
    cases e
    refine core (fun _ => none) (fun _ => .inl rfl) (.inr ⟨_, vs.toArray, _, hk, rfl, rfl, rfl, by rw [List.size_toArray, lenV]; exact hline, by simpa using rv⟩) (fun b u z => nomatch (show (none : Option HO) = some u from z)) (fun b z => absurd rfl z) fun z => absurd rfl z
  | none =>
    let o0 : Obj := { cls := .type "list", data := .seq vs.toArray }
    let H0 : Hp := fun b => if b = a then some (HO.frz o0 (.lst (ns.map V.int))) else none
    have eq1 : ∀ b, b = a → H0 b = some (.frz o0 (.lst (ns.map V.int))) := fun b h => if_pos h
    have eq2 : ∀ b, b ≠ a → H0 b = none := fun b h => if_neg h
    refine core H0 (fun b => ?_) (.inl ⟨_, eq1 a rfl⟩) (fun b u z => ?_) (fun b z => ?_) fun _ => hk
    · by_cases hb : b = a
      · exact .inr ⟨_, _, eq1 b hb⟩
      · exact .inl (eq2 b hb)
    · by_cases hb : b = a
      · have z' := (eq1 b hb).symm.trans z
        cases z'
        subst hb
        exact ⟨ha, by rw [List.length_map]; exact hline, vs, _, rv, ha⟩
      · have z' := (eq2 b hb).symm.trans z
        cases z'
    · by_cases hb : b = a
      · exact hb
      · exact absurd (eq2 b hb) z
theorem walk_D {l : PySem.W.OpenLaw} {k : Nat} {q : Program} {loose : List Str} {XP : (Str → Option Value) → Heap → Prop} {YP : World → Heap → Prop} {d : DefRec} {K : Params → PySem.W.Frag} {x : Str}
    (hn : l.most = some 63) (hi : importsNone q = true) (hdf : d.params.defaults = []) (hr : Room k callerA) (hY : ∀ (w : World) (h : Heap), YP w h → (K w.params).In h)
    (F : ∀ (w : World) (mg : Str → Option Value) (fa : Addr) (h : Heap), (K w.params).In h → h.Ns mainGlobals mg → mg d.name = some (.ref fa) →
      ∃ fd : FuncData, (∀ (s : Shared) (u : Value), BindsTo s fd ⟨[u], []⟩ [(x, u)]) ∧ ∀ base : Heap, (K w.params).In base → base.Ns mainGlobals mg → (∃ mm, base.Ns sysModules mm) → FnS l.prog w (K w.params) mg base k fa fd [x] (spLawD (K w.params))) :
    PySem.W.WalkO q loose XP YP l.row.toRowW d [] (fun f vs => PySem.call f vs) := by
  refine Att.attach_call hn hdf fun w s₀ s₁ mg mb fa o pm cd doc a vs ns G Y ho hd hcd hmg hobj hints hlen hg => ?_
  obtain ⟨fd, hb, hF⟩ := F w mg fa _ (hY w _ Y) G.T.g hmg
  exact law_callD (hY w _ Y) G.T.g G.T.b G.T.builtins G.T.nolimit hg hobj hints hlen hr ((G.T.seer hi).mods.imp fun _ h => h.1) hF hb
/-- the law's def, from its body's reading: Φ is the plain one -/
theorem law_mk {P : Program} {w : World} {K : PySem.W.Frag} {mg : Str → Option Value} {base : Heap} {x qual : Str} {st : Stmt} {f : Addr} {fd : FuncData} {N : List Str} {p : Str} {k : Nat} (F : Fun K x qual st f fd) (Sc : FnScope N [p] (defScope st)) {m : MS OH}
    (hb : ∀ (cdv : Value) (A : Around) (outer : List Env) (s : Shared) (H : Hp) (E : XK), OFrm (cxOf (L2.CX P w) P w K mg base N qual (defScope st) f cdv A outer s H E).K (cxOf (L2.CX P w) P w K mg base N qual (defScope st) f cdv A outer s H E).mg (Phi K mg) → Rm k (cxOf (L2.CX P w) P w K mg base N qual (defScope st) f cdv A outer s H E) →
      ∃ ts, DSs (cxOf (L2.CX P w) P w K mg base N qual (defScope st) f cdv A outer s H E) (Phi K mg) (fun cls d _ H' => E cls d H') (defBody st) ts m)
    (hm : ∀ ns : List Int, ns.length ≤ 63 → bodyF m (N.length - 1) [.frz (ns.map D.int)] (fun _ => none) (fun d _ => d = .bl true) R0) : FnS P w K mg base (k + 1) f fd [p] (spLawD K) := by
  obtain ⟨oc, od, kV, doc, pm, an, cdv, ct, osl, rfl, lk, hcd⟩ := F.ex
  refine fnS_of lk hcd Sc (fun vs H Q E ⟨a, ns, e, _⟩ => by rw [e]; rfl) fun A outer s H vs Q E hr hgd ⟨a, ns, ev, hS, hl, hQ⟩ => ?_
  subst ev
  obtain ⟨ts, d⟩ := hb cdv A outer s H E (inferInstance : OFrm K mg (Phi K mg)) ⟨hr, hgd⟩
  refine ⟨ts, d.pss, ?_⟩
  have f0 : Phi K mg (fun _ => none) H H := ⟨Same.refl H, fun a x e => nomatch e⟩
  have r : RpL K mg H [V.ref a] [.frz (ns.map D.int)] := .cons (.frz hS (rI H ns)) .nil
  have r0 := start_rel (N := N) r
  refine d.sem _ _ _ H H _ _ r0 f0 (hm ns hl) ⟨fun σ ρ s G' H' p _ _ _ => ?_, fun d s v G' H' p e q r => ?_, fun _ _ _ _ _ p => p.elim, fun _ _ _ _ _ p => p.elim, fun _ _ _ _ _ _ _ _ p => p.elim⟩
  · cases p
  · subst p
    cases r
    exact hQ H'
end DL

set_option Elab.async false
set_option linter.all false
set_option maxRecDepth 100000
set_option maxHeartbeats 2000000
/-! own error classes over any built-in base whose facts the library has -/
namespace DL
open PySem PySem.Spec PyProof.Rows L2
/-- what a built-in base gives -/
structure BaseF (nw ini : String) (tl : List Value) : Prop where
  ex : ∃ B, ExcBaseFacts B nw ini tl ∧ StoreFacts B tl "object.__setattr__" "object"
theorem base_RuntimeError : BaseF "RuntimeError.__new__" "RuntimeError.__init__" [.type "RuntimeError", .type "Exception", .type "BaseException", .type "object"] := ⟨_, F.excBase_RuntimeError, F.store_RuntimeError⟩
theorem base_IndexError : BaseF "IndexError.__new__" "IndexError.__init__" [.type "IndexError", .type "LookupError", .type "Exception", .type "BaseException", .type "object"] := ⟨_, F.excBase_IndexError, F.store_IndexError⟩
theorem base_LookupError : BaseF "LookupError.__new__" "LookupError.__init__" [.type "LookupError", .type "Exception", .type "BaseException", .type "object"] := ⟨_, F.excBase_LookupError, F.store_LookupError⟩
theorem base_OverflowError : BaseF "OverflowError.__new__" "OverflowError.__init__" [.type "OverflowError", .type "ArithmeticError", .type "Exception", .type "BaseException", .type "object"] := ⟨_, F.excBase_OverflowError, F.store_OverflowError⟩
theorem base_ValueError : BaseF "ValueError.__new__" "ValueError.__init__" [.type "ValueError", .type "Exception", .type "BaseException", .type "object"] := ⟨_, F.excBase_ValueError, F.store_ValueError⟩
/-- .. and the written part of the class -/
structure OexG (K : PySem.W.Frag) (C : Addr) : Prop where
  base : ∃ nw ini tl, BaseF nw ini tl ∧ PySem.W.excInitIn K C tl nw = true ∧ PySem.W.excOver K C tl = true
  hd : PySem.W.hasDictIn K C = true
  sa : PySem.W.findIn K (.ref C) "__setattr__" = some (some (.builtin "object.__setattr__"))
  exC : PySem.W.subIn K (.ref C) (.type "BaseException") = some true
  tyC : PySem.W.typeIn K (.ref C) = some (.type "type")
  kC : PySem.W.keepIn K (.ref C) = true
section
variable {X : Cx} {pins : List (Addr × Obj)} {σ : Sig} {H : Hp} {a C dx : Addr} {f : Str} {y : V}
/-- an error that gets its dict: the state after it -/
theorem inv_exo {hp h' : Heap} {g : Array GenState} {dr : Drawn} {t t' : Nat} {os : OsState} {t1 : Addr} {mA : Str → Option Value} (I : Inv X pins σ H ⟨hp, g, dr, t, os⟩) (e : H a = some (exo a C none))
    (k : ∀ b o, b ≠ a → hp.get? b = some o → h'.get? b = some o) (dn : hp.objs.size ≤ dx) (hx : h'.get? a = some ({ cls := .ref C, dict := some dx, data := .fields #[.ref t1, .none, .none, .none, .bool false, .none] } : Obj))
    (hn : h'.Ns1 dx mA) (rel : ∀ g, RelO (([(f, y)] : List (Str × V)).lookup g) (mA g)) : Inv X pins σ (upd (upd H dx (exd dx [(f, y)])) a (exo a C (some dx))) ⟨h', g, dr, t', os⟩ := by
  have d0 : H dx = none := I.hok.fresh dn
  have far : ∀ {b : Addr} {o : Obj}, hp.get? b = some o → b ≠ dx := fun {_ _} z => Nat.ne_of_lt (Nat.lt_of_lt_of_le (Heap.lt_size z) dn)
  have oth : ∀ {b : Addr}, H b = none → b ≠ a := fun {b} n z => by rw [z, e] at n; cases n
  have same : ∀ {b : Addr} {u : HO}, H b = some u → b ≠ a → upd (upd H dx (exd dx [(f, y)])) a (exo a C (some dx)) b = some u := fun {b u} z n => by
    rw [upd_ne n, upd_ne (ne_of_none z d0)]; exact z
  refine I.un (t' := t') (h' := h') ⟨fun b o q n _ _ => k b o (oth n) q, fun b o q n _ _ => ⟨o.slots, k b o (oth n) q⟩, fun b o q n _ => ?_, fun b o q _ => ?_, fun b xs q => same q (at_ne e q exo_tup), fun b o v q => same q (at_ne e q exo_frz), fun b ps q => ⟨#[], by rw [same q (at_ne e q exo_tbl)]; simp⟩⟩ fun b o q => ?_
  · rw [upd_ne (oth n), upd_ne (far q)]; exact n
  · by_cases z : b = a
    · exact ⟨_, z ▸ hx⟩
    · exact ⟨o, k b o z q⟩
  · by_cases z : b = a
    · subst z
      rw [upd_same] at q
      cases q
      exact exo_ok hx
    rw [upd_ne z] at q
    by_cases z2 : b = dx
    · subst z2
      rw [upd_same] at q
      cases q
      exact exd_ok hn rel
    rw [upd_ne z2] at q
    exact (I.hok b o q).stay (fun c v hc p => k c v (hc.elim (fun w => by rw [w]; exact z) fun w => at_ne e w exo_own) p) (fun c hc => same hc (at_ne e hc exo_own)) fun c xs hc => same hc (at_ne e hc exo_tup)
end
end DL
namespace DLS
open PySem Builtin Builtin.ObjectAttr PySem.W PySem.Calls PyProof.Rows PySem.HandSPX
/-- the first field of such an error: its dict is laid -/
theorem first_field {prog : Program} {w : World} {A : Around} {g : Array GenState} {d : Drawn} {t : Nat} {os : OsState} {hp : Heap} {Q : Fin → Shared → Prop} {E : Value → Shared → Prop} {K : W.Frag} {name : Str} {tk : Tok} {v : Value} {x C : Addr} {fv : Array Value} {b : Bool}
    (X : K.In hp) (hx : hp.get? x = some { cls := .ref C, data := .fields fv }) (hd : W.hasDictIn K C = true)
    (hq : ∀ h' tk' dx, (∀ b o, b ≠ x → hp.get? b = some o → h'.get? b = some o) → hp.objs.size ≤ dx → h'.get? x = some { cls := .ref C, dict := some dx, data := .fields fv } →
      h'.Ns1 dx (fun y => if y = name then some v else none) → Q (.done (.ret .none)) ⟨h', g, d, tk', os⟩) :
    wpAny (model prog w) A (storeInOwnDict (.ref x) (.ref C) (.str name tk) name v b) Q E ⟨hp, g, d, t, os⟩ := by
  obtain ⟨cd, hcd, hh⟩ := any_some hd
  have hcls : W.Looks (model prog w) hp (classData C) cd := W.looks_clsIn X hcd
  have ne : x ≠ hp.objs.size := Nat.ne_of_lt (Heap.lt_size hx)
  obtain ⟨nm, bs, mro, nsp, qn, hdt, sn, sb, ab, col, del⟩ := cd
  dsimp only at hh
  subst hh
  unfold storeInOwnDict ownDictForStores
  repeat (first | (with_reducible refine store_in_new ?_ ?_) | (with_reducible refine wpAny_loadPart_at hx ?_) | (with_reducible refine hcls.at ?_) | wp_step)
  · exact ⟨_, #[], _, (Heap.get?_update_ne _ _ _ _ ne.symm).trans (Heap.get?_push_at rfl rfl), rfl, fun e he => absurd he (by simp), fun _ => rfl⟩
  intro h' tk' n1 same
  have there : (hp.push { cls := .type "dict", data := .dict #[] }).get? x = some { cls := .ref C, data := .fields fv } := Heap.get?_push_of_some _ hx
  refine hq h' tk' _ (fun b o hb ho => ?_) (Nat.le_refl _) ((same.2 x ne).trans (Heap.get?_update_self _ there rfl)) n1
  rw [same.2 b (Nat.ne_of_lt (Heap.lt_size ho)), Heap.get?_update_ne _ _ _ _ hb]
  exact Heap.get?_push_of_some _ ho
end DLS
namespace DL
open PySem PySem.Spec PyProof.Rows L2
section
variable {X : Cx} {pins : List (Addr × Obj)} {σ : Sig} {H : Hp} {s : Shared} {a C : Addr} {f : Str} {y : V} {u : Value} {Q : Unit → Shared → Prop} {E : Value → Shared → Prop} {A : Around}
/-- self.f = y, the first one -/
theorem ostG (T : OexG X.K C) (I : Inv X pins σ H s) (e : H a = some (exo a C none)) (hno : PySem.W.findIn X.K (.ref C) f = some none) (ry : RelV y u)
    (h : ∀ dx s', H dx = none → dx ≠ a → Inv X pins σ (upd (upd H dx (exd dx [(f, y)])) a (exo a C (some dx))) s' → Q () s') : wpAny (model X.prog X.w) A (setAttr (.ref a) f u) Q E s := by
  obtain ⟨nw, ini, tl, ⟨B, FB, SF⟩, _, ov⟩ := T.base
  obtain ⟨t1, ho⟩ := exo_at I.hok e
  obtain ⟨hp, g, d, t, os⟩ := s
  have J : PySem.W.InstAt hp a { cls := .ref C, dict := none, data := .fields #[.ref t1, .none, .none, .none, .bool false, .none] } C none := ⟨ho, rfl, rfl, trivial⟩
  refine PySem.W.set_plain I.kIn J T.sa (PySem.W.osa_openX SF I.kIn J ov (NoAttr.taker hno) fun b => ?_)
  refine DLS.first_field I.kIn ho T.hd fun h' tk' dx k dn hx hn => ?_
  have d0 : H dx = none := I.hok.fresh dn
  exact h dx _ d0 (fun z => by rw [z, e] at d0; cases d0) (inv_exo (t' := tk') I e k dn hx hn (relO_put (fs := []) ry fun _ => True.intro))
end
/-- self.f = e within such an error's __init__ -/
def tOstG (K : PySem.W.Frag) (f : Str) (to te : TE) : TS := fun D σ H => te σ H fun y H1 => to σ H1 fun x H2 => ∃ a C : Addr, x = .ref a ∧ OexG K C ∧ PySem.W.findIn K (.ref C) f = some none ∧ H2 a = some (exo a C none) ∧
  ∀ dx, H2 dx = none → dx ≠ a → D.nx σ (upd (upd H2 dx (exd dx [(f, y)])) a (exo a C (some dx)))
section
variable {X : Cx} {o e : Expr} {es : List Expr} {to te : TE} {ta : TA} {f : Str} {p p' pos : Pos}
theorem ps_ostG (ho : PE X o to) (he : PE X e te) (hs : swapsWith e (some (.Attribute o f p')) pos.line X.env = pure false := by rfl) : PS X (.Assign [.Attribute o f p'] e pos) (tOstG X.K f to te) := by
  refine ⟨fun pins s σ H D I h => plainObj_wpAny_Assign_Attribute (thn (he.run pins s σ H _ I h) fun v s1 ⟨y, H1, I1, r1, q1⟩ => thn (ho.run pins s1 σ H1 _ I1 q1) fun u s2 ⟨x, H2, I2, r2, a, C, ex, T, hno, ea, q⟩ => ?_) hs⟩
  subst ex
  cases (show u = Value.ref a from r2)
  exact ostG T I2 ea hno r1 fun dx s' n ne J => ⟨σ, _, J, q dx n ne⟩
theorem pmk_oexG {CX : CXT} {x : Str} {C fI : Addr} {k : Nat} {fd : FuncData} {ps : List Str} {sp : Sp} {ds : List Value} {dvs : List V} (T : OexG X.K C) (iC : PySem.W.findIn X.K (.ref C) "__init__" = some (some (.ref fI))) (tI : PySem.W.typeIn X.K (.ref fI) = some (.type "function"))
    (F1 : FnOk X.prog X.w X.K X.mg X.base CX k fI fd ps sp) (hr : Room (k + 1) X.A) (hb : Binds X.K fd ps ds) (hd : Vals dvs ds) (hx : Passes CX X (fun _ _ _ => False)) (hg : Gl X x) (hm : X.mg x = some (.ref C)) (ha : PA X (e :: es) ta)
    (hdb : (x == ("__debug__" : Str)) = false := by decide) (he : starEach (e :: es) X.env = (false, eval e X.env) :: starEach es X.env := by rfl) (hpl : (backTo pos (starEach es X.env)).any (·.1) = false := by rfl) :
    PMk X (.Call (.Name x p) (e :: es) [] pos) (tMkO C sp dvs ta) := by
  intro pins s σ H Q I h
  obtain ⟨nw, ini, tl, ⟨B, FB, SF⟩, xi, _⟩ := T.base
  refine wpAny_Call_Name_kw (ld_glob I hg hm ?_ hdb)
  refine PySem.W.callWith_K (h₀ := X.base) I.ok.mod.kin T.kC (thn (ha.run pos pins s σ H _ I h) fun us s1 ⟨vs, H1, I1, r1, hz, q1⟩ => ⟨I1.kIn, ?_⟩) he hpl
  obtain ⟨nm, N, qn, bs, bm, hdct, sn, sub, ab, col, dd, k0, k1, k2, k3, k5, hC, hT⟩ := PySem.W.excInit_of I1.kIn xi
  show wpAny _ _ (call (.ref C) us) _ _ _
  obtain ⟨hp, g, dr, tk, os⟩ := s1
  have up := Nat.le_succ hp.objs.size
  have free : H1 (hp.objs.size + 1) = none := I1.hok.fresh up
  have hq := q1 _ free
  let hp2 : Heap := (hp.push (PySem.W.kdv_tup us)).push (PySem.HandSPX.excO C hp.objs.size)
  have kk : ∀ b o, hp.get? b = some o → hp2.get? b = some o := fun b o z => Heap.get?_push_of_some _ (Heap.get?_push_of_some _ z)
  have got : hp2.get? (hp.objs.size + 1) = some (PySem.HandSPX.excO C hp.objs.size) := by
    show ((hp.push (PySem.W.kdv_tup us)).push (PySem.HandSPX.excO C hp.objs.size)).get? _ = _
    heap_get
  have I2 : Inv X pins σ (upd H1 (hp.objs.size + 1) (exo (hp.objs.size + 1) C none)) ⟨hp2, g, dr, tk, os⟩ := I1.laid (t' := tk) (a := hp.objs.size + 1) (o := exo (hp.objs.size + 1) C none) (h' := hp2) kk up (exo_ok got)
  have r2 : Vals (V.ref (hp.objs.size + 1) :: (vs ++ dvs)) (Value.ref (hp.objs.size + 1) :: (us ++ ds)) := .cons rfl (r1.append hd)
  have hl : (Value.ref (hp.objs.size + 1) :: us ++ ds).length = ps.length := r2.length.symm.trans (F1.len _ _ _ _ hq)
  have hus : us.length ≤ sizeLine := by
    rw [← Paired.length r1, sizeLine_eq]
    omega
  have go := F1.run _ X.stack _ _ ⟨Value.ref (hp.objs.size + 1) :: us, []⟩ (Value.ref (hp.objs.size + 1) :: (us ++ ds)) _ _ (fun _ _ _ => False) (hr.make C us []) (I2.env0.make C us []) (hb _ (Value.ref (hp.objs.size + 1) :: us) I2.kIn hl) r2 hq
  refine wpAny_call (PySem.HandSPX.call_own FB hT hC (PySem.W.looks_findIn I1.kIn iC) (fun self => PySem.W.bind_fn I1.kIn self tI) hus (codeAny_mono go fun r s' hq' => ?_))
  match r, hq' with
  | .error er, hq' => exact hx pins σ _ _ er s' I2 hq'
  | .ok (.ret u), ⟨v, H2, os2, bare2, un2, hok2, rv, ev, d, fs, ea, ed, hd1, q2⟩ =>
    subst ev
    exact ⟨rv, mk_end (raises_own T.exC T.tyC) I1 up kk un2 hok2 os2 bare2 ea ed hd1 q2⟩
  | .ok .next, hq' => exact hq'.elim
  | .ok .brk, hq' => exact hq'.elim
  | .ok .cont, hq' => exact hq'.elim
end
section
variable {P : Program} {w : World} {K : PySem.W.Frag} {mg : Str → Option Value} {base : Heap}
theorem ok_xinitG {x qual fld ar : Str} {st : Stmt} {f C : Addr} {fd : FuncData} (F : Fun K x qual st f fd) (Sc : FnScope [("self" : Str), ar] [("self" : Str), ar] (defScope st)) (T : OexG K C) (no : PySem.W.findIn K (.ref C) fld = some none)
    (hb : ∀ X : Cx, X.K = K → X.N = [("self" : Str), ar] → X.env.scope = defScope st → ∃ to te : TE, PSs X (defBody st) (tOstG K fld to te) ∧ (∀ (u y : V) (H : Hp) (Q : VK), Q y H → te [some u, some y] H Q) ∧ ∀ (u y : V) (H : Hp) (Q : VK), Q u H → to [some u, some y] H Q) :
    FnOk P w K mg base CX0 1 f fd [("self" : Str), ar] (spXI C fld) := by
  refine F.ok Sc (fun vs H Q E ⟨a, y, ev, _⟩ => by rw [ev]; rfl) fun cdv A outer s H vs Q E hr ⟨a, y, ev, ea, k⟩ => ?_
  subst ev
  obtain ⟨to, te, hp, h1, h2⟩ := hb (cxOf CX0 P w K mg base [("self" : Str), ar] qual (defScope st) f cdv A outer s H E).nox rfl rfl rfl
  exact ⟨_, hp, h1 _ _ _ _ (h2 _ _ _ _ ⟨a, C, rfl, T, no, ea, k⟩)⟩
end
section
variable {X : Cx} {Φ : OH → Hp → Hp → Prop} {W : WX} [FΦ : OFrm X.K X.mg Φ]
theorem ds_raiseG {C fI : Addr} {x fld ar : Str} {fd : FuncData} {e : Expr} {ta : TA} {n : MA OH} {p pos pos2 : Pos} (T : OexG X.K C) (iC : PySem.W.findIn X.K (.ref C) "__init__" = some (some (.ref fI))) (tI : PySem.W.typeIn X.K (.ref fI) = some (.type "function"))
    (F : FnOk X.prog X.w X.K X.mg X.base CX0 1 fI fd [("self" : Str), ar] (spXI C fld)) (hr : Rm 2 X) (hb : Binds X.K fd [("self" : Str), ar] []) (hg : Gl X x) (hm : X.mg x = some (.ref C)) (hc : X.calm = true) (tk : Takes X W) (ha : DA X Φ W [e] ta n)
    (hdb : (x == ("__debug__" : Str)) = false := by decide) (he : starEach [e] X.env = (false, eval e X.env) :: starEach [] X.env := by rfl) (hpl : (backTo pos (starEach [] X.env)).any (·.1) = false := by rfl) :
    DS X Φ W (.Raise (some (.Call (.Name x p) [e] [] pos)) none pos2) (fun _ σ H => tMkO C (spXI C fld) [] ta σ H fun cls d H' => W cls d σ H') (sRaise x fld n) := by
  refine ⟨ps_raise hc tk (pmk_oexG T iC tI F hr.room hb .nil pass0 hg hm ha.pa hdb he hpl), fun σ ρ s G H D M hρ f hmm E => ha.sem σ ρ s G H _ _ _ hρ f (E.wsh hρ) hmm fun ds s1 vs G1 H1 ⟨d, ed, h1⟩ e1 f1 r1 => ?_⟩
  subst ed
  obtain ⟨v, rfl, rv⟩ := rpl1 r1
  refine ⟨by show 1 ≤ 1000; decide, fun a na => ⟨a, v, rfl, upd_same, fun dx ndx ne => ?_⟩⟩
  have nd1 : H1 dx = none := by
    rw [upd_ne ne] at ndx
    exact ndx
  refine ⟨rfl, dx, [(fld, v)], upd_same, ?_, nd1, ?_⟩
  · rw [upd_ne ne, upd_same]
  · rw [exo_end na ne]
    have sg := same_new (o := HO.xd [(fld, v)]) ((Frm.same f1).free nd1)
    exact E.ex ⟨x, some ([fld], [d])⟩ σ ρ s1 _ _ (.ref C) (some dx) h1 (e1.trans sg) ((hρ.mono e1).mono sg) (Frm.ext f1 nd1) ⟨hm, dx, [v], rfl, upd_same, rfl, .cons (rv.mono sg) .nil⟩
end
end DL

set_option Elab.async false
set_option linter.all false
set_option maxRecDepth 100000
set_option maxHeartbeats 2000000
/-! try: .. except C as e: .. except D as e: .. -/
namespace DL
open PySem PySem.Spec PyProof.Rows L2
abbrev SuT := Addr → Value → Option Addr → TS
/-- the ends behind a clause: its name is gone -/
def drops (i : Nat) (D : Ends) : Ends := { nx := fun σ H => D.nx (σ.set i none) H, rt := D.rt, bk := fun σ H => D.bk (σ.set i none) H, ct := fun σ H => D.ct (σ.set i none) H }
def wClauses (K : PySem.W.Frag) (Wo : WX) (D : Ends) : List (Value × Nat × SuT) → WX
  | [] => Wo
  | q :: r => fun cls d σ H => ∃ b, PySem.W.exmOne K cls q.1 = some b ∧ (b = true → ∀ a, H a = none → q.2.2 a cls d (drops q.2.1 D) (σ.set q.2.1 (some (.ref a))) H) ∧ (b = false → wClauses K Wo D r cls d σ H)
/-- clauses, each with its own name -/
inductive Clauses (X : Cx) : List ExceptHandler → List (Value × Nat × SuT) → Prop
  | nil : Clauses X [] []
  | cons {x n : Str} {c : Value} {i : Nat} {ts : SuT} {b₀ : Stmt} {suite : List Stmt} {np pos' : Pos} {hds : List ExceptHandler} {l : List (Value × Nat × SuT)} (hc : Names X x c) (hi : X.N[i]? = some n) (hln : X.env.kindOf n = some .local)
      (hsu : ∀ (a : Addr) (oe : Obj) (cls : Value) (d : Option Addr) (pn : List (Addr × Obj)), Zc cls d oe → (∃ vs, oe.data = .fields vs) → PSs (X.suite a ((a, oe) :: pn)) (b₀ :: suite) (ts a cls d)) (r : Clauses X hds l) :
      Clauses X (.ExceptHandler (some (.Name x np)) (some n) (b₀ :: suite) pos' :: hds) ((c, i, ts) :: l)
section
variable {X : Cx} {body : List Stmt} {h₀ : ExceptHandler} {hds : List ExceptHandler} {l : List (Value × Nat × SuT)} {pos : Pos} {tb : WX → TS} {Wo : WX}
theorem ps_clauses (hs : X.stack = X.env :: X.outer) (hf : X.env.frame = some X.env.locals) (hN : X.N.Nodup) (tk : Takes X Wo)
    (hb : ∀ (W : WX) (pn : List (Addr × Obj)) (xe : Value → Shared → Prop), Takes (X.tr pn xe) W → PassesOwn (model X.prog X.w) X.A X.env xe → PSs (X.tr pn xe) body (tb W))
    (hh : Clauses X (h₀ :: hds) l) : PS X (.Try body (h₀ :: hds) [] [] pos) (fun D σ H => tb (wClauses X.K Wo D l) D σ H) := by
  refine ⟨fun pins s σ H D I h => wpAny_Try_except ?_⟩
  have ok := I.ok
  have fr : X.A.frames = some (X.env :: X.outer) := ok.frames.trans (by rw [hs])
  let xe1 : Value → Shared → Prop := fun e s1 => wpAny (model X.prog X.w) X.A (noteFrame e X.env) (fun _ s2 => wpAny (model X.prog X.w) X.A (setFlight e none) (fun _ s3 => wpAny (model X.prog X.w) X.A (handleBy e X.env (h₀ :: hds)) (SP X pins D) X.xe s3) X.xe s2) X.xe s1
  have tk1 : Takes (X.tr (X.pn ++ pins) xe1) (wClauses X.K Wo D l) := by
    intro u s' ⟨a, B, sI, pins', σ', H', cls, d, eu, J', nb, up, sky, na, os, ag, w⟩
    subst eu
    have J : Inv X pins σ' H' sI := J'.ofTry ok
    show wpAny (model X.prog X.w) X.A (noteFrame (.ref a) X.env) _ _ _
    refine Sky.land Zc.steady fr hf (show Sky B (X.env :: X.outer) a (Zc cls d) X.env.locals s'.heap by rw [← hs]; exact sky) fun h3 f3 u3 => ?_
    have J3 : Inv X pins σ' H' { s' with heap := h3 } := J.landed nb f3.1 (up.trans u3) os ag
    obtain ⟨o3, vs3, g3, z3, d3⟩ := f3.there
    have nfr : a ∉ frs (X.env :: X.outer) := fun hm => by
      obtain ⟨_, o', e', no⟩ := f3.2.2.1.mem hm
      rw [g3] at e'
      cases e'
      exact no _ d3
    have nL : a ≠ X.env.locals := fun z => nfr (List.mem_filterMap.mpr ⟨_, List.mem_cons_self, hf.trans (by rw [z])⟩)
    have nF : a ∉ X.fs := fun hm => let ⟨e, he, q⟩ := List.mem_filterMap.mp hm; nfr (List.mem_filterMap.mpr ⟨e, List.mem_cons_of_mem _ he, q⟩)
    suffices go : ∀ {hs2 : List ExceptHandler} {l2 : List (Value × Nat × SuT)}, Clauses X hs2 l2 → wClauses X.K Wo D l2 cls d σ' H' → wpAny (model X.prog X.w) X.A (handleBy (.ref a) X.env hs2) (SP X pins D) X.xe { s' with heap := h3 } from go hh w
    intro hs2 l2 cl
    induction cl with
    | nil =>
      intro w
      obtain ⟨_, _, _, oe, vs, T, oT, _, he, _, hd, h1, _⟩ := id f3
      refine wpAny_handleBy_nil ?_
      unfold PySem.passOn
      refine wpAny_bind (wpAny_field he hd h1 ?_)
      rw [if_neg (show ¬ (Value.ref T == Value.none) = true by simp)]
      have out : wpAny (model X.prog X.w) X.A (setFlight (.ref a) X.env.frame) (fun _ s4 => wpAny (model X.prog X.w) X.A (throw (.ref a) : Sem Flow) (SP X pins D) X.xe s4) X.xe { s' with heap := h3 } := by
        rw [hf]
        exact HandSPX.setFlight_upZ f3 fun h4 k4 u4 => wpAny_throw (tk _ _ ⟨a, B, sI, pins, σ', H', cls, d, rfl, J, nb, (up.trans u3).trans u4, .inr (.inr (by rw [hs]; exact k4)), na, os, ag, w⟩)
      first | exact wpAny_bind (wpAny_pure (wpAny_bind out)) | exact wpAny_bind out
    | @cons x n c i ts b₀ suite np pos' hs3 l3 hc hi hln hsu r ih =>
      intro ⟨b, hb1, yes, no⟩
      refine wpAny_handleBy_cons (codeAny_handlers_test ?_) (by intro q; cases q)
      have Lt : PySem.W.Looks (model X.prog X.w) h3 (typeOf (.ref a)) cls := fun A Q E s k q => wpAny_typeOf_ref (k _ _ g3) (by rw [z3.1]; exact q)
      have S3 := J3.suite g3 d3 na nL nF
      have asked : ∀ {Q : Value → Shared → Prop} {E : Value → Shared → Prop}, Q c { s' with heap := h3 } → wpAny (model X.prog X.w) (X.A.mark (some (.ref a))) (eval (.Name x np) X.env) Q E { s' with heap := h3 } := fun {Q E} q => by
        obtain ⟨g1, g2, m1 | ⟨m1, m2, m3⟩⟩ := hc
        · exact ld_glob (X := X.suite a ((a, o3) :: (X.pn ++ pins))) S3 g1 m1 q g2
        · exact ld_blt (X := X.suite a ((a, o3) :: (X.pn ++ pins))) S3 g1 m1 m2 q m3 g2
      refine asked ((PySem.W.exm_one (M := model X.prog X.w) J3.kIn Lt hb1).here ?_)
      cases b with
      | false => exact ih (no rfl)
      | true =>
        refine codeAny_handlers_suite_as (HandSPX.lands_againZ f3 fun h4 f4 u4 => ?_)
        have J4 : Inv X pins σ' H' { s' with heap := h4 } := J.landed nb f4.1 ((up.trans u3).trans u4) os ag
        obtain ⟨o4, vs4, g4, z4, d4⟩ := f4.there
        refine store_ok (X := X.suite a ((a, o4) :: (X.pn ++ pins))) (v := .ref a) (J4.suite g4 d4 na nL nF) hN hi (.inl hln) rfl (fun s5 S5 => ?_) (.inr hln)
        have run := (hsu a o4 cls d (X.pn ++ pins) z4 ⟨_, d4⟩).run [] s5 _ H' _ S5 (yes rfl a na)
        refine wpAny_mono run (fun f s6 hq => ?_) fun _ _ z => z.elim
        have gone : ∀ {σ6 : Sig} {H6 : Hp} {Q : Shared → Prop}, Inv (X.suite a ((a, o4) :: (X.pn ++ pins))) [] σ6 H6 s6 → (∀ s7, Inv X pins (σ6.set i none) H6 s7 → Q s7) →
            wpAny (model X.prog X.w) X.A (do bindName X.env n .none; unbindBehindTheSuite X.env n pos') (fun _ s7 => Q s7) X.xe s6 := fun {_ _ _} S6 k => gone_ok (S6.unsuite ok) hN hi hln k
        match f, hq with
        | .next, ⟨_, _, S6, q6⟩ => exact gone S6 fun _ J7 => ⟨_, _, J7, q6⟩
        | .brk, ⟨_, _, S6, q6⟩ => exact gone S6 fun _ J7 => ⟨_, _, J7, q6⟩
        | .cont, ⟨_, _, S6, q6⟩ => exact gone S6 fun _ J7 => ⟨_, _, J7, q6⟩
        | .ret u, ⟨_, _, _, S6, r6, q6⟩ => exact gone S6 fun _ J7 => ⟨_, _, _, J7, r6, q6⟩
  have run := (hb (wClauses X.K Wo D l) (X.pn ++ pins) xe1 tk1 PassesOwn.looking).run [] s σ H D (I.toTry _) h
  refine wpAny_mono run (fun f s1 hq => ?_) fun e s1 he => he
  match f, hq with
  | .next, ⟨_, _, J', q⟩ => exact wpAny_execs_nil ⟨_, _, J'.ofTry ok, q⟩
  | .brk, ⟨_, _, J', q⟩ => exact ⟨_, _, J'.ofTry ok, q⟩
  | .cont, ⟨_, _, J', q⟩ => exact ⟨_, _, J'.ofTry ok, q⟩
  | .ret u, ⟨_, _, _, J', r, q⟩ => exact ⟨_, _, _, J'.ofTry ok, r, q⟩
end
end DL
namespace DL
open PySem PySem.Spec PyProof.Rows L2
abbrev ClD := (Exn → Option Bool) × Nat × (Addr → Exn → MS OH)
def dropM (i : Nat) (M : MEnds OH) : MEnds OH := { nx := fun ρ O => M.nx (ρ.set i none) O, rt := M.rt, bk := fun ρ O => M.bk (ρ.set i none) O, ct := fun ρ O => M.ct (ρ.set i none) O, ex := fun _ _ _ => False }
/-- the clause that takes the error -/
def pick (M : MEnds OH) (x : Exn) (ρ : Rho) (O : OH) : List ClD → Prop
  | [] => M.ex x ρ O
  | q :: r => ∃ b, q.1 x = some b ∧ (b = true → ∀ a, q.2.2 a x (dropM q.2.1 M) (ρ.set q.2.1 (some (.loc a))) O) ∧ (b = false → pick M x ρ O r)
def sTryN (cs : List ClD) (mb : MS OH) : MS OH := fun M ρ O => mb { M with ex := fun x ρ' O' => pick M x ρ' O' cs } ρ O
section
variable {X : Cx} {Φ : OH → Hp → Hp → Prop} {W : WX} [FΦ : OFrm X.K X.mg Φ]
inductive DCl (X : Cx) (Φ : OH → Hp → Hp → Prop) : List ExceptHandler → List (Value × Nat × SuT) → List ClD → Prop
  | nil : DCl X Φ [] [] []
  | cons {x n : Str} {c : Value} {i : Nat} {cl : Exn → Option Bool} {ms : Addr → Exn → MS OH} {b₀ : Stmt} {suite : List Stmt} {np pos' : Pos} {hds : List ExceptHandler} {l : List (Value × Nat × SuT)} {cs : List ClD}
      (hi : X.N[i]? = some n) (hln : X.env.kindOf n = some .local) (hc : Names X x c)
      (hcl : ∀ (x : Exn) (b : Bool) (cls : Value), X.mg x.cls = some cls → cl x = some b → PySem.W.exmOne X.K cls c = some b)
      (hsu : ∀ (a : Addr) (oe : Obj) (cls : Value) (d : Option Addr) (pn : List (Addr × Obj)) (x : Exn), Zc cls d oe → (∃ vs, oe.data = .fields vs) → ∃ ts, DSs (X.suite a ((a, oe) :: pn)) (ExF X.K X.mg Φ cls d x) W0 (b₀ :: suite) ts (ms a x))
      (r : DCl X Φ hds l cs) : DCl X Φ (.ExceptHandler (some (.Name x np)) (some n) (b₀ :: suite) pos' :: hds) ((c, i, cSx X.K X.mg Φ ms) :: l) ((cl, i, ms) :: cs)
theorem DCl.ps {hds : List ExceptHandler} {l : List (Value × Nat × SuT)} {cs : List ClD} (h : DCl X Φ hds l cs) : Clauses X hds l := by
  induction h with
  | nil => exact .nil
  | cons hi hln hc hcl hsu r ih =>
    refine .cons hc hi hln (fun a oe cls d pn hz hd => ⟨fun pins s σ H D I ⟨x, ρ, O, G, M, r, f, hm, E⟩ => ?_⟩) ih
    obtain ⟨ts, h⟩ := hsu a oe cls d pn x hz hd
    exact h.pss.run pins s σ H D I (h.sem σ ρ O G H D M r f hm E)
theorem pick_sem {D : Ends} {M : MEnds OH} {G : Hp} {hds : List ExceptHandler} {l : List (Value × Nat × SuT)} {cs : List ClD} (h : DCl X Φ hds l cs) (E : EndsOk Φ W X.K X.mg G M D) {z : Exn} {σ : Sig} {ρ : Rho} {O : OH} {G1 H1 : Hp} {cls : Value} {d : Option Addr}
    (e1 : Same G G1) (r1 : RelE X.K X.mg G1 σ ρ) (f1 : Φ O G1 H1) (xr : ExR X.K X.mg G1 cls d z) (p : pick M z ρ O cs) : wClauses X.K W D l cls d σ H1 := by
  induction h with
  | nil => exact E.ex z σ ρ O G1 H1 cls d p e1 r1 f1 xr
  | @cons x n c i cl ms b₀ suite np pos' hds l cs hi hln hc hcl hsu r ih =>
    obtain ⟨b, hb, yes, no⟩ := p
    refine ⟨b, hcl z b cls xr.1 hb, fun e a na => ⟨z, _, O, G1, _, r1.set i (.loc a), ⟨f1, xr⟩, yes e a, ?_⟩, fun e => ih (no e)⟩
    exact ⟨fun σ2 ρ2 O2 G2 H2 p e2 r2 f2 => E.nx _ _ O2 G2 H2 p (e1.trans e2) (r2.drop i none) f2.1, fun d O2 v G2 H2 p e2 f2 => E.rt d O2 v G2 H2 p (e1.trans e2) f2.1,
      fun σ2 ρ2 O2 G2 H2 p e2 r2 f2 => E.bk _ _ O2 G2 H2 p (e1.trans e2) (r2.drop i none) f2.1, fun σ2 ρ2 O2 G2 H2 p e2 r2 f2 => E.ct _ _ O2 G2 H2 p (e1.trans e2) (r2.drop i none) f2.1, fun _ _ _ _ _ _ _ _ p => p.elim⟩
theorem ds_tryN {body : List Stmt} {h₀ : ExceptHandler} {hds : List ExceptHandler} {l : List (Value × Nat × SuT)} {cs : List ClD} {pos : Pos} {mb : MS OH} (hs : X.stack = X.env :: X.outer) (hf : X.env.frame = some X.env.locals) (hN : X.N.Nodup) (tk : Takes X W)
    (hb : ∀ (W' : WX) (pn : List (Addr × Obj)) (xe : Value → Shared → Prop), Takes (X.tr pn xe) W' → PassesOwn (model X.prog X.w) X.A X.env xe → ∃ tb, DSs (X.tr pn xe) Φ W' body tb mb)
    (hh : DCl X Φ (h₀ :: hds) l cs) : DS X Φ W (.Try body (h₀ :: hds) [] [] pos) (fun D σ H => cS X.K X.mg Φ (wClauses X.K W D l) mb D σ H) (sTryN cs mb) := by
  refine ⟨ps_clauses (tb := fun W' => cS X.K X.mg Φ W' mb) hs hf hN tk (fun W' pn xe t p => ⟨fun pins s σ H D I ⟨ρ, O, G, M, r, f, hm, E⟩ => ?_⟩) hh.ps, fun σ ρ O G H D M hρ f hm E => ⟨ρ, O, G, _, hρ, f, hm, ⟨E.nx, E.rt, E.bk, E.ct, fun z σ1 ρ1 O1 G1 H1 cls d p e1 r1 f1 xr => pick_sem hh E e1 r1 f1 xr p⟩⟩⟩
  obtain ⟨tb, h⟩ := hb W' pn xe t p
  exact h.pss.run pins s σ H D I (h.sem σ ρ O G H D M r f hm E)
end
end DL

set_option Elab.async false
set_option linter.all false
set_option maxRecDepth 100000
set_option maxHeartbeats 1000000
/-! x in xs, x not in xs: flat values -/
namespace DL
open PySem PySem.Spec PyProof.Rows L2
def toV : D → Option V
  | .non => some .non
  | .bl b => some (.bl b)
  | .int i => some (.int i)
  | .str x => some (.str x)
  | _ => none
def toVL : List D → Option (List V)
  | [] => some []
  | d :: ds => match toV d, toVL ds with
    | some v, some vs => some (v :: vs)
    | _, _ => none
theorem toV_rp {K : PySem.W.Frag} {mg : Str → Option Value} {G : Hp} {v u : V} {d : D} (r : Rp K mg G v d) (h : toV d = some u) : v = u ∧ flatV v = true := by
  cases r <;> simp only [toV] at h <;> first | (cases h; exact ⟨rfl, rfl⟩) | cases h
theorem toVL_rp {K : PySem.W.Frag} {mg : Str → Option Value} {G : Hp} : ∀ {vs us : List V} {ds : List D}, RpL K mg G vs ds → toVL ds = some us → vs = us ∧ vs.all flatV = true
  | _, _, _, .nil, h => by cases h; exact ⟨rfl, rfl⟩
  | _, _, _, .cons (d := d) (ds := ds) a b, h => by
    simp only [toVL] at h
    cases e1 : toV d with
    | none => rw [e1] at h; cases h
    | some v =>
      cases e2 : toVL ds with
      | none => rw [e1, e2] at h; cases h
      | some vs =>
        rw [e1, e2] at h
        cases h
        obtain ⟨q1, q2⟩ := toV_rp a e1
        obtain ⟨q3, q4⟩ := toVL_rp b e2
        exact ⟨by rw [q1, q3], by rw [List.all_cons, q2, q4]; rfl⟩
def wInN (neg : Bool) : W2 := fun a b P => ∃ v vs xs, toV a = some v ∧ (b = .lst xs ∨ b = .tup xs ∨ b = .frz xs) ∧ toVL xs = some vs ∧ P (.bl (if neg then !inV v vs else inV v vs))
theorem in_sem {X : Cx} {neg : Bool} {f : Value → Value → Sem Value} (o : OpR X f (rIn X.K neg)) : Op2 X f (rIn X.K neg) (wInN neg) := by
  refine ⟨o, fun x y a b G H Q P ra rb sm ⟨v, vs, xs, ha, hb, hx, p⟩ k => ?_⟩
  obtain ⟨e1, f1⟩ := toV_rp ra ha
  subst e1
  have fin : ∀ {p0 : Addr} {ws : List V}, y = .ref p0 → (SqL X.K H p0 ws ∨ SqT X.K H p0 ws) → RpL X.K X.mg G ws xs → rIn X.K neg x y H Q := fun {p0 ws} ey hq rl => by
    obtain ⟨e2, f2⟩ := toVL_rp rl hx
    subst e2
    exact ⟨p0, ws, ey, hq, f1, f2, k _ _ G H p .refl (.bl _)⟩
  rcases hb with rfl | rfl | rfl
  · cases rb with | lst h l => exact fin rfl (.inl (SqL.of (sm _ _ h))) l
  · cases rb with | tup h l => exact fin rfl (.inr (sqt_mono sm h)) l
  · cases rb with | frz h l => exact fin rfl (.inl (sql_mono sm h.sql)) l
def wIn : W2 := wInN false
def wNotIn : W2 := wInN true
theorem o_in {X : Cx} : Op2 X (compareOp .In) (rIn X.K false) wIn := in_sem op_in_seq
theorem o_notIn {X : Cx} : Op2 X (compareOp .NotIn) (rIn X.K true) wNotIn := in_sem op_notIn_seq
section
variable {S : Type} {X : Cx} {Φ : S → Hp → Hp → Prop} {W : WX} [Frm Φ]
/-- xs[::-1], a list -/
def mRev (m : ME S) : ME S := fun ρ s P R => m ρ s (fun x s1 => ∃ ds, (x = .lst ds ∨ x = .frz ds) ∧ P (.lst ds.reverse) s1) R
theorem de_revL {e : Expr} {te : TE} {m : ME S} {k : Nat} {p1 p2 p3 pos : Pos} (h : DE X Φ W e te m) : DE X Φ W (.Subscript e (.Slice none none (some (.UnaryOp .USub (.Constant (.int 1) k p1) p2)) p3) pos) (tRevL X.K te) (mRev m) :=
  ⟨pe_revL h.pe, fun σ ρ s G H Q P R hρ f hW hm kk => h.sem σ ρ s G H _ _ R hρ f hW hm fun x s1 v G1 H1 ⟨ds, ex, p_⟩ e1 f1 r1 => by
    have fin : ∀ {a : Addr} {ws : List V}, v = .ref a → SqL X.K H1 a ws → RpL X.K X.mg G1 ws ds → ∃ a xs, v = .ref a ∧ SqL X.K H1 a xs ∧ ∀ p, H1 p = none → Q (.ref p) (upd H1 p (.lst xs.reverse)) := fun {a ws} ev hq rl =>
      ⟨a, ws, ev, hq, fun p np => kk _ s1 _ (upd G1 p (.lst ws.reverse)) _ p_ (e1.trans (same_new ((Frm.same f1).free np))) (Frm.ext f1 np) (.lst upd_same (rl.rev.mono (same_new ((Frm.same f1).free np))))⟩
    rcases ex with rfl | rfl
    · cases r1 with | lst h l => exact fin rfl (SqL.of (Frm.same f1 _ _ h)) l
    · cases r1 with | frz h l => exact fin rfl (sql_mono (Frm.same f1) h.sql) l⟩
end
end DL

set_option Elab.async false
set_option linter.all false
set_option maxRecDepth 100000
set_option maxHeartbeats 1000000
/-! what code yields, as plain functions over data trees; one's own objects are numbered -/
namespace FL
open PySem PySem.Spec PyProof.Rows L2 DL

abbrev St := List (Option DO)
abbrev Th := List Addr
mutual
/-- the tree with numbers, the tree with addresses -/
inductive Rn (θ : Th) : D → D → Prop
  | non : Rn θ .non .non
  | bl (b : Bool) : Rn θ (.bl b) (.bl b)
  | int (i : Int) : Rn θ (.int i) (.int i)
  | str (x : Str) : Rn θ (.str x) (.str x)
  | lst {a b : List D} : RnL θ a b → Rn θ (.lst a) (.lst b)
  | tup {a b : List D} : RnL θ a b → Rn θ (.tup a) (.tup b)
  | dic {ks : List Key} {a b : List D} : RnL θ a b → Rn θ (.dic ks a) (.dic ks b)
  | ins {C : Str} {ns : List Str} {a b : List D} : RnL θ a b → Rn θ (.ins C ns a) (.ins C ns b)
  | frz {a b : List D} : RnL θ a b → Rn θ (.frz a) (.frz b)
  | loc {i : Nat} {a : Addr} : θ[i]? = some a → Rn θ (.loc i) (.loc a)
  | cls (C : Str) : Rn θ (.cls C) (.cls C)
  | ty (n : String) : Rn θ (.ty n) (.ty n)
inductive RnL (θ : Th) : List D → List D → Prop
  | nil : RnL θ [] []
  | cons {d e : D} {ds es : List D} : Rn θ d e → RnL θ ds es → RnL θ (d :: ds) (e :: es)
end
theorem sub_at {θ θ1 : Th} (s : θ <+: θ1) {i : Nat} {a : Addr} (h : θ[i]? = some a) : θ1[i]? = some a := by
  obtain ⟨t, rfl⟩ := s
  have hi : i < θ.length := (List.getElem?_eq_some_iff.mp h).1
  rw [List.getElem?_append_left hi]
  exact h
mutual
theorem Rn.mono {θ θ1 : Th} (s : θ <+: θ1) : ∀ {a b : D}, Rn θ a b → Rn θ1 a b
  | _, _, .non => .non
  | _, _, .bl b => .bl b
  | _, _, .int i => .int i
  | _, _, .str x => .str x
  | _, _, .lst r => .lst (RnL.mono s r)
  | _, _, .tup r => .tup (RnL.mono s r)
  | _, _, .dic r => .dic (RnL.mono s r)
  | _, _, .ins r => .ins (RnL.mono s r)
  | _, _, .frz r => .frz (RnL.mono s r)
  | _, _, .loc h => .loc (sub_at s h)
  | _, _, .cls C => .cls C
  | _, _, .ty n => .ty n
theorem RnL.mono {θ θ1 : Th} (s : θ <+: θ1) : ∀ {a b : List D}, RnL θ a b → RnL θ1 a b
  | _, _, .nil => .nil
  | _, _, .cons a b => .cons (Rn.mono s a) (RnL.mono s b)
end
section
variable {θ : Th}
theorem RnL.len : ∀ {a b : List D}, RnL θ a b → a.length = b.length
  | _, _, .nil => rfl
  | _, _, .cons _ r => by rw [List.length_cons, List.length_cons, RnL.len r]
theorem RnL.at : ∀ {a b : List D} {i : Nat} {d : D}, RnL θ a b → a[i]? = some d → ∃ e, b[i]? = some e ∧ Rn θ d e
  | _, _, _, _, .nil, h => by simp at h
  | _, _, 0, _, .cons a _, h => by
    simp at h
    subst h
    exact ⟨_, rfl, a⟩
  | _, _, i + 1, _, .cons _ r, h => by
    obtain ⟨v, e, q⟩ := RnL.at (i := i) r (by simpa using h)
    exact ⟨v, by simpa using e, q⟩
theorem RnL.app : ∀ {a b c d : List D}, RnL θ a b → RnL θ c d → RnL θ (a ++ c) (b ++ d)
  | _, _, _, _, .nil, s => s
  | _, _, _, _, .cons a r, s => .cons a (RnL.app r s)
theorem RnL.tk : ∀ {a b : List D} (n : Nat), RnL θ a b → RnL θ (a.take n) (b.take n)
  | _, _, 0, _ => .nil
  | _, _, _ + 1, .nil => .nil
  | _, _, n + 1, .cons a r => .cons a (RnL.tk n r)
theorem RnL.dr : ∀ {a b : List D} (n : Nat), RnL θ a b → RnL θ (a.drop n) (b.drop n)
  | _, _, 0, r => r
  | _, _, _ + 1, .nil => .nil
  | _, _, n + 1, .cons _ r => RnL.dr n r
theorem RnL.rev : ∀ {a b : List D}, RnL θ a b → RnL θ a.reverse b.reverse
  | _, _, .nil => .nil
  | _, _, .cons a r => by
    rw [List.reverse_cons, List.reverse_cons]
    exact (RnL.rev r).app (.cons a .nil)
theorem RnL.flat (n : Nat) {a b : List D} (r : RnL θ a b) : RnL θ (List.replicate n a).flatten (List.replicate n b).flatten := by
  induction n with
  | zero => exact .nil
  | succ n ih =>
    rw [List.replicate_succ, List.replicate_succ, List.flatten_cons, List.flatten_cons]
    exact r.app ih
theorem RnL.set {d e : D} (r : Rn θ d e) : ∀ {a b : List D} (j : Nat), RnL θ a b → RnL θ (a.set j d) (b.set j e)
  | _, _, _, .nil => .nil
  | _, _, 0, .cons _ b => .cons r b
  | _, _, j + 1, .cons a b => .cons a (RnL.set r j b)
theorem rnl_mem {a b : List D} (r : RnL θ a b) : ∀ {e : D}, e ∈ b → ∃ d, d ∈ a ∧ Rn θ d e := by
  induction a generalizing b with
  | nil => cases r; intro e h; cases h
  | cons x xs ih =>
    cases r with
    | cons h t =>
      intro e he
      cases he with
      | head => exact ⟨x, List.mem_cons_self, h⟩
      | tail _ hm =>
        obtain ⟨d, hd, rd⟩ := ih t hm
        exact ⟨d, List.mem_cons_of_mem _ hd, rd⟩
end
/-! trees without numbers stand for themselves -/
mutual
def noLoc : D → Bool
  | .lst a => noLocL a
  | .tup a => noLocL a
  | .dic _ a => noLocL a
  | .ins _ _ a => noLocL a
  | .frz a => noLocL a
  | .loc _ => false
  | _ => true
def noLocL : List D → Bool
  | [] => true
  | d :: ds => noLoc d && noLocL ds
end
mutual
theorem rn_eq {θ : Th} : ∀ {a b : D}, Rn θ a b → noLoc a = true → b = a
  | _, _, .non, _ => rfl
  | _, _, .bl b, _ => rfl
  | _, _, .int i, _ => rfl
  | _, _, .str x, _ => rfl
  | _, _, .lst r, h => by rw [rnl_eq r (by simpa [noLoc] using h)]
  | _, _, .tup r, h => by rw [rnl_eq r (by simpa [noLoc] using h)]
  | _, _, .dic r, h => by rw [rnl_eq r (by simpa [noLoc] using h)]
  | _, _, .ins r, h => by rw [rnl_eq r (by simpa [noLoc] using h)]
  | _, _, .frz r, h => by rw [rnl_eq r (by simpa [noLoc] using h)]
  | _, _, .loc _, h => by simp [noLoc] at h
  | _, _, .cls C, _ => rfl
  | _, _, .ty n, _ => rfl
theorem rnl_eq {θ : Th} : ∀ {a b : List D}, RnL θ a b → noLocL a = true → b = a
  | _, _, .nil, _ => rfl
  | _, _, .cons a r, h => by
    simp only [noLocL, Bool.and_eq_true] at h
    rw [rn_eq a h.1, rnl_eq r h.2]
end
mutual
theorem rn_self {θ : Th} : ∀ {a : D}, noLoc a = true → Rn θ a a
  | .non, _ => .non
  | .bl b, _ => .bl b
  | .int i, _ => .int i
  | .str x, _ => .str x
  | .lst a, h => .lst (rnl_self (by simpa [noLoc] using h))
  | .tup a, h => .tup (rnl_self (by simpa [noLoc] using h))
  | .dic _ a, h => .dic (rnl_self (by simpa [noLoc] using h))
  | .ins _ _ a, h => .ins (rnl_self (by simpa [noLoc] using h))
  | .frz a, h => .frz (rnl_self (by simpa [noLoc] using h))
  | .loc _, h => by simp [noLoc] at h
  | .cls C, _ => .cls C
  | .ty n, _ => .ty n
theorem rnl_self {θ : Th} : ∀ {a : List D}, noLocL a = true → RnL θ a a
  | [], _ => .nil
  | d :: ds, h => by
    simp only [noLocL, Bool.and_eq_true] at h
    exact .cons (rn_self h.1) (rnl_self h.2)
end
/-! objects, errors, slots -/
inductive RnO (θ : Th) : DO → DO → Prop
  | lst {a b : List D} : RnL θ a b → RnO θ (.lst a) (.lst b)
  | dic {ks : List Key} {a b : List D} : RnL θ a b → RnO θ (.dic ks a) (.dic ks b)
  | ins {C : Str} {ns : List Str} {a b : List D} : RnL θ a b → RnO θ (.ins C ns a) (.ins C ns b)
theorem RnO.mono {θ θ1 : Th} (s : θ <+: θ1) {x y : DO} (h : RnO θ x y) : RnO θ1 x y := by
  cases h with
  | lst r => exact .lst (r.mono s)
  | dic r => exact .dic (r.mono s)
  | ins r => exact .ins (r.mono s)
theorem RnO.tree {θ : Th} {x y : DO} (h : RnO θ x y) : Rn θ x.tree y.tree := by
  cases h with
  | lst r => exact .lst r
  | dic r => exact .dic r
  | ins r => exact .ins r
def RnX (θ : Th) (x y : Exn) : Prop := x.cls = y.cls ∧ match x.fs, y.fs with
  | none, none => True
  | some (ns, a), some (ms, b) => ns = ms ∧ RnL θ a b
  | _, _ => False
theorem RnX.mono {θ θ1 : Th} (s : θ <+: θ1) {x y : Exn} (h : RnX θ x y) : RnX θ1 x y := by
  obtain ⟨c, h⟩ := h
  refine ⟨c, ?_⟩
  revert h
  cases x.fs <;> cases y.fs <;> first | exact id | exact fun h => ⟨h.1, h.2.mono s⟩
def RnE (θ : Th) (ρ ρ' : Rho) : Prop := ρ.length = ρ'.length ∧ ∀ (i : Nat) (d : D), ρ[i]? = some (some d) → ∃ e, ρ'[i]? = some (some e) ∧ Rn θ d e
theorem RnE.mono {θ θ1 : Th} (s : θ <+: θ1) {ρ ρ' : Rho} (h : RnE θ ρ ρ') : RnE θ1 ρ ρ' := ⟨h.1, fun i d q => by
  obtain ⟨e, a, b⟩ := h.2 i d q
  exact ⟨e, a, b.mono s⟩⟩
theorem RnE.set {θ : Th} {ρ ρ' : Rho} (h : RnE θ ρ ρ') (i : Nat) {d e : D} (r : Rn θ d e) : RnE θ (ρ.set i (some d)) (ρ'.set i (some e)) := by
  refine ⟨by rw [List.length_set, List.length_set]; exact h.1, fun j u q => ?_⟩
  by_cases hj : i = j
  · subst hj
    have hl : i < ρ.length := by
      have q' := (List.getElem?_eq_some_iff.mp q).1
      rwa [List.length_set] at q'
    rw [List.getElem?_set_self hl] at q
    cases q
    exact ⟨e, List.getElem?_set_self (by rw [← h.1]; exact hl), r⟩
  · rw [List.getElem?_set_ne hj] at q ⊢
    exact h.2 j u q
theorem RnE.drop {θ : Th} {ρ ρ' : Rho} (h : RnE θ ρ ρ') (i : Nat) (u : Option D) : RnE θ (ρ.set i none) (ρ'.set i u) := by
  refine ⟨by rw [List.length_set, List.length_set]; exact h.1, fun j e q => ?_⟩
  by_cases hj : i = j
  · subst hj
    have hl : i < ρ.length := by
      have q' := (List.getElem?_eq_some_iff.mp q).1
      rwa [List.length_set] at q'
    rw [List.getElem?_set_self hl] at q
    cases q
  · rw [List.getElem?_set_ne hj] at q ⊢
    exact h.2 j e q
theorem RnE.wipe {θ : Th} {ρ ρ' : Rho} (h : RnE θ ρ ρ') : ∀ vs : List Nat, RnE θ (wipeD ρ vs) (wipeD ρ' vs)
  | [] => h
  | v :: vs => (h.wipe vs).drop v none
theorem RnE.start {θ : Th} {a b : List D} (r : RnL θ a b) (k : Nat) : RnE θ (a.map some ++ List.replicate k none) (b.map some ++ List.replicate k none) := by
  have hl := r.len
  refine ⟨by simp [hl], fun i d h => ?_⟩
  by_cases hi : i < a.length
  · rw [List.getElem?_append_left (by simpa using hi), List.getElem?_map] at h
    cases e : a[i]? with
    | none => rw [e] at h; cases h
    | some d' =>
      rw [e] at h
      cases h
      obtain ⟨v, hv, rv⟩ := r.at e
      refine ⟨v, ?_, rv⟩
      rw [List.getElem?_append_left (by simpa [← hl] using hi), List.getElem?_map, hv]
      rfl
  · rw [List.getElem?_append_right (by simpa using hi), List.getElem?_replicate] at h
    split at h <;> cases h
/-- the numbered objects stand at their addresses -/
structure Mt (θ : Th) (st : St) (O : OH) : Prop where
  len : θ.length = st.length
  live : ∀ (i : Nat) (x : DO), st[i]? = some (some x) → ∃ a y, θ[i]? = some a ∧ O a = some y ∧ RnO θ x y
  inj : ∀ (i j : Nat) (x y : DO) (a : Addr), st[i]? = some (some x) → st[j]? = some (some y) → θ[i]? = some a → θ[j]? = some a → i = j
theorem Mt.new {θ : Th} {st : St} {O : OH} (h : Mt θ st O) {p : Addr} {x y : DO} (n : O p = none) (r : RnO θ x y) : Mt (θ ++ [p]) (st ++ [some x]) (O.put p y) := by
  have hl := h.len
  have sb : θ <+: θ ++ [p] := ⟨[p], rfl⟩
  have old : ∀ (i : Nat) (z : DO), i ≠ st.length → (st ++ [some x])[i]? = some (some z) → st[i]? = some (some z) := fun i z hi e => by
    by_cases q : i < st.length
    · rwa [List.getElem?_append_left q] at e
    · rw [List.getElem?_append_right (by omega)] at e
      have : i - st.length ≠ 0 := by omega
      cases e1 : i - st.length with
      | zero => exact absurd e1 this
      | succ k => rw [e1] at e; simp at e
  have atp : ∀ (i : Nat) (z : DO) (a : Addr), st[i]? = some (some z) → (θ ++ [p])[i]? = some a → θ[i]? = some a ∧ a ≠ p := fun i z a e q => by
    obtain ⟨b, y', h1, h2, _⟩ := h.live i z e
    have := sub_at sb h1
    rw [this] at q
    cases q
    exact ⟨h1, fun e' => by rw [e', n] at h2; cases h2⟩
  have lastp : ∀ (a : Addr), (θ ++ [p])[st.length]? = some a → a = p := fun a e => by
    rw [List.getElem?_append_right (by omega), hl, Nat.sub_self] at e
    simpa using e.symm
  refine ⟨by simp [hl], fun i z e => ?_, fun i j z w a e1 e2 q1 q2 => ?_⟩
  · by_cases hi : i = st.length
    · subst hi
      rw [List.getElem?_append_right (Nat.le_refl _), Nat.sub_self] at e
      simp at e
      subst e
      exact ⟨p, y, by rw [List.getElem?_append_right (by omega), hl, Nat.sub_self]; rfl, OH.put_same, r.mono sb⟩
    · have e' := old i z hi e
      obtain ⟨a, u, h1, h2, h3⟩ := h.live i z e'
      exact ⟨a, u, sub_at sb h1, by rw [OH.put_ne fun q => by rw [q, n] at h2; cases h2]; exact h2, h3.mono sb⟩
  · by_cases hi : i = st.length
    · by_cases hj : j = st.length
      · rw [hi, hj]
      · subst hi
        have := lastp a q1
        exact absurd this (atp j w a (old j w hj e2) q2).2
    · by_cases hj : j = st.length
      · subst hj
        have := lastp a q2
        exact absurd this (atp i z a (old i z hi e1) q1).2
      · exact h.inj i j z w a (old i z hi e1) (old j w hj e2) (atp i z a (old i z hi e1) q1).1 (atp j w a (old j w hj e2) q2).1
theorem Mt.put {θ : Th} {st : St} {O : OH} (h : Mt θ st O) {i : Nat} {a : Addr} {x0 x y : DO} (e : st[i]? = some (some x0)) (q : θ[i]? = some a) (r : RnO θ x y) : Mt θ (st.set i (some x)) (O.put a y) := by
  have hi : i < st.length := (List.getElem?_eq_some_iff.mp e).1
  have back : ∀ (j : Nat) (z : DO), (st.set i (some x))[j]? = some (some z) → j = i ∨ (j ≠ i ∧ st[j]? = some (some z)) := fun j z e => by
    by_cases hj : j = i
    · exact .inl hj
    · rw [List.getElem?_set_ne (Ne.symm hj)] at e
      exact .inr ⟨hj, e⟩
  have lives : ∀ (j : Nat) (z : DO), (st.set i (some x))[j]? = some (some z) → ∃ z0, st[j]? = some (some z0) := fun j z e1 => by
    rcases back j z e1 with rfl | ⟨_, e2⟩
    · exact ⟨x0, e⟩
    · exact ⟨z, e2⟩
  refine ⟨by rw [List.length_set]; exact h.len, fun j z e1 => ?_, fun j k z w b e1 e2 q1 q2 => ?_⟩
  · by_cases hj : j = i
    · subst hj
      rw [List.getElem?_set_self hi] at e1
      cases e1
      exact ⟨a, y, q, OH.put_same, r⟩
    · rw [List.getElem?_set_ne (Ne.symm hj)] at e1
      obtain ⟨b, u, h1, h2, h3⟩ := h.live j z e1
      exact ⟨b, u, h1, by rw [OH.put_ne fun e2 => hj (by subst e2; exact h.inj j i z x0 b e1 e h1 q)]; exact h2, h3⟩
  · obtain ⟨z0, l1⟩ := lives j z e1
    obtain ⟨w0, l2⟩ := lives k w e2
    exact h.inj j k z0 w0 b l1 l2 q1 q2
theorem Mt.del {θ : Th} {st : St} {O : OH} (h : Mt θ st O) {i : Nat} {a : Addr} {x0 : DO} (e : st[i]? = some (some x0)) (q : θ[i]? = some a) : Mt θ (st.set i none) (O.del a) := by
  have hi : i < st.length := (List.getElem?_eq_some_iff.mp e).1
  have back : ∀ (j : Nat) (z : DO), (st.set i none)[j]? = some (some z) → j ≠ i ∧ st[j]? = some (some z) := fun j z e => by
    by_cases hj : j = i
    · subst hj
      rw [List.getElem?_set_self hi] at e
      cases e
    · rw [List.getElem?_set_ne (Ne.symm hj)] at e
      exact ⟨hj, e⟩
  refine ⟨by rw [List.length_set]; exact h.len, fun j z e1 => ?_, fun j k z w b e1 e2 q1 q2 => h.inj j k z w b (back j z e1).2 (back k w e2).2 q1 q2⟩
  obtain ⟨hj, e1⟩ := back j z e1
  obtain ⟨b, u, h1, h2, h3⟩ := h.live j z e1
  exact ⟨b, u, h1, by rw [OH.del_ne fun e2 => hj (by subst e2; exact h.inj j i z x0 b e1 e h1 q)]; exact h2, h3⟩
theorem Mt.at {θ : Th} {st : St} {O : OH} (h : Mt θ st O) {i : Nat} {a : Addr} {x : DO} (e : st[i]? = some (some x)) (q : θ[i]? = some a) : ∃ y, O a = some y ∧ RnO θ x y := by
  obtain ⟨b, y, h1, h2, h3⟩ := h.live i x e
  rw [q] at h1
  cases h1
  exact ⟨y, h2, h3⟩
end FL

set_option Elab.async false
set_option linter.all false
set_option maxRecDepth 100000
set_option maxHeartbeats 1000000
namespace FL
open PySem PySem.Spec PyProof.Rows L2 DL

inductive Res (α : Type) where
  | ok (a : α) (st : St)
  | ex (x : Exn) (st : St)
  | bad
def Res.bind {α β : Type} (r : Res α) (k : α → St → Res β) : Res β := match r with
  | .ok a st => k a st
  | .ex x st => .ex x st
  | .bad => .bad
/-- .. no error may come -/
def Res.calm {α : Type} (r : Res α) : Res α := match r with
  | .ok a st => .ok a st
  | _ => .bad
abbrev fE := Rho → St → Res D
abbrev fT := Rho → St → Res Bool
abbrev fA := Rho → St → Res (List D)
/-- within a suite: the slot of the error, where it stands, what it is -/
abbrev Jv := Option (Nat × Addr × Exn × Exn)
def jok : Jv → Th → Rho → Prop
  | none, _, _ => True
  | some (i, a, x', x), θ, ρ' => ρ'[i]? = some (some (.loc a)) ∧ RnX θ x x'
theorem jok.mono {J : Jv} {θ θ1 : Th} {ρ : Rho} (h : jok J θ ρ) (s : θ <+: θ1) : jok J θ1 ρ := by
  cases J with
  | none => trivial
  | some q => exact ⟨h.1, h.2.mono s⟩
def jfree : Jv → Nat → Prop
  | none, _ => True
  | some (i, _), j => j ≠ i
theorem jok.set {J : Jv} {θ : Th} {ρ : Rho} (h : jok J θ ρ) {j : Nat} (f : jfree J j) (u : Option D) : jok J θ (ρ.set j u) := by
  cases J with
  | none => trivial
  | some q => exact ⟨by rw [List.getElem?_set_ne f]; exact h.1, h.2⟩
theorem jok.wipe {J : Jv} {θ : Th} {ρ : Rho} (h : jok J θ ρ) : ∀ {vs : List Nat}, (∀ v ∈ vs, jfree J v) → jok J θ (wipeD ρ vs)
  | [], _ => h
  | v :: vs, f => (h.wipe fun x hx => f x (List.mem_cons_of_mem _ hx)).set (f v List.mem_cons_self) none
structure Ct (J : Jv) (θ : Th) (ρ ρ' : Rho) (st : St) (O : OH) : Prop where
  env : RnE θ ρ ρ'
  mt : Mt θ st O
  j : jok J θ ρ'
theorem Ct.step {J : Jv} {θ θ1 : Th} {ρ ρ' : Rho} {st st1 : St} {O O1 : OH} (h : Ct J θ ρ ρ' st O) (s : θ <+: θ1) (m : Mt θ1 st1 O1) : Ct J θ1 ρ ρ' st1 O1 := ⟨h.env.mono s, m, h.j.mono s⟩
theorem Ct.sub {J : Jv} {θ θ1 : Th} {ρ ρ' : Rho} {st : St} {O : OH} (h : Ct J θ ρ ρ' st O) : θ <+: θ := List.prefix_refl _
theorem Ct.set {J : Jv} {θ : Th} {ρ ρ' : Rho} {st : St} {O : OH} (h : Ct J θ ρ ρ' st O) {i : Nat} (f : jfree J i) {d e : D} (r : Rn θ d e) : Ct J θ (ρ.set i (some d)) (ρ'.set i (some e)) st O := ⟨h.env.set i r, h.mt, h.j.set f _⟩

section
variable {α α' β β' : Type}
def Aft (rel : Th → α → α' → Prop) (θ : Th) (r : Res α) (P : α' → OH → Prop) (R : Exn → OH → Prop) : Prop := match r with
  | .ok a st => ∀ (θ1 : Th) (a' : α') (O1 : OH), θ <+: θ1 → rel θ1 a a' → Mt θ1 st O1 → P a' O1
  | .ex x st => ∀ (θ1 : Th) (x' : Exn) (O1 : OH), θ <+: θ1 → RnX θ1 x x' → Mt θ1 st O1 → R x' O1
  | .bad => False
variable {rel : Th → α → α' → Prop} {rel2 : Th → β → β' → Prop} {θ θ1 : Th} {r : Res α} {P P' : α' → OH → Prop} {R : Exn → OH → Prop}
theorem Aft.sub (h : Aft rel θ r P R) (s : θ <+: θ1) : Aft rel θ1 r P R := by
  cases r with
  | ok a st => exact fun θ2 a' O1 t => h θ2 a' O1 (s.trans t)
  | ex x st => exact fun θ2 a' O1 t => h θ2 a' O1 (s.trans t)
  | bad => exact h
theorem Aft.imp (h : Aft rel θ r P R) (k : ∀ a O, P a O → P' a O) : Aft rel θ r P' R := by
  cases r with
  | ok a st => exact fun θ2 a' O1 t u v => k _ _ (h θ2 a' O1 t u v)
  | ex x st => exact h
  | bad => exact h
theorem Aft.bind {k : α → St → Res β} {Q : β' → OH → Prop} (h : Aft rel2 θ (r.bind k) Q R)
    (kk : ∀ (θ1 : Th) (a : α) (a' : α') (st1 : St) (O1 : OH), θ <+: θ1 → rel θ1 a a' → Mt θ1 st1 O1 → Aft rel2 θ1 (k a st1) Q R → P' a' O1) : Aft rel θ r P' R := by
  cases r with
  | ok a st => exact fun θ1 a' O1 s q m => kk θ1 a a' st O1 s q m (Aft.sub (r := k a st) h s)
  | ex x st => exact h
  | bad => exact h
theorem Aft.calm (h : Aft rel θ r.calm P R) : Aft rel θ r P R0 := by
  cases r with
  | ok a st => exact h
  | ex x st => exact h.elim
  | bad => exact h
theorem Aft.ok {a : α} {a' : α'} {st : St} {O : OH} (h : Aft rel θ (.ok a st) P R) (q : rel θ a a') (m : Mt θ st O) : P a' O := h θ a' O (List.prefix_refl _) q m
end
def relB : Th → Bool → Bool → Prop := fun _ a b => a = b
def dE (J : Jv) (f : fE) : ME OH := fun ρ' O P R => ∃ θ ρ st, Ct J θ ρ ρ' st O ∧ Aft Rn θ (f ρ st) P R
def dT (J : Jv) (f : fT) : MT OH := fun ρ' O P R => ∃ θ ρ st, Ct J θ ρ ρ' st O ∧ Aft relB θ (f ρ st) P R
def dA (J : Jv) (f : fA) : MA OH := fun ρ' O P R => ∃ θ ρ st, Ct J θ ρ ρ' st O ∧ Aft RnL θ (f ρ st) P R
section
variable (X : Cx) (Φ : OH → Hp → Hp → Prop) (W : WX) (J : Jv)
def FE (e : Expr) (f : fE) : Prop := ∃ te, DE X Φ W e te (dE J f)
def FT (e : Expr) (f : fT) : Prop := ∃ tt, DT X Φ W e tt (dT J f)
def FW (e : Expr) (f : fT) : Prop := ∃ tt, DW X Φ W e tt (dT J f)
def FA (es : List Expr) (f : fA) : Prop := ∃ ta, DA X Φ W es ta (dA J f)
def FI (tg it : Expr) (f : fA) : Prop := ∃ wi, DI X Φ W tg it wi (dA J f)
end
section
variable {X : Cx} {Φ : OH → Hp → Hp → Prop} {W : WX} {J : Jv} {e : Expr} {es : List Expr} {te : TE} {tt : TT} {ta : TA}
theorem fe_of {m : ME OH} {f : fE} (h : DE X Φ W e te m) (i : ∀ ρ' O P R, dE J f ρ' O P R → m ρ' O P R) : FE X Φ W J e f :=
  ⟨te, h.pe, fun σ ρ s G H Q P R hρ f0 hW hm k => h.sem σ ρ s G H Q P R hρ f0 hW (i _ _ _ _ hm) k⟩
theorem ft_of {m : MT OH} {f : fT} (h : DT X Φ W e tt m) (i : ∀ ρ' O P R, dT J f ρ' O P R → m ρ' O P R) : FT X Φ W J e f :=
  ⟨tt, h.pt, fun σ ρ s G H Q P R hρ f0 hW hm k => h.sem σ ρ s G H Q P R hρ f0 hW (i _ _ _ _ hm) k⟩
theorem fw_of {m : MT OH} {f : fT} (h : DW X Φ W e tt m) (i : ∀ ρ' O P R, dT J f ρ' O P R → m ρ' O P R) : FW X Φ W J e f :=
  ⟨tt, h.pw, fun σ ρ s G H Q P R hρ f0 hW hm k => h.sem σ ρ s G H Q P R hρ f0 hW (i _ _ _ _ hm) k⟩
theorem fa_of {m : MA OH} {f : fA} (h : DA X Φ W es ta m) (i : ∀ ρ' O P R, dA J f ρ' O P R → m ρ' O P R) : FA X Φ W J es f :=
  ⟨ta, h.pa, fun σ ρ s G H Q P R hρ f0 hW hm k => h.sem σ ρ s G H Q P R hρ f0 hW (i _ _ _ _ hm) k⟩
theorem fi_of {tg it : Expr} {wi : TI} {m : MI OH} {f : fA} (h : DI X Φ W tg it wi m) (i : ∀ ρ' O P R, dA J f ρ' O P R → m ρ' O P R) : FI X Φ W J tg it f :=
  ⟨wi, h.pi, fun σ ρ s G H Q P R hρ f0 hW hm k => h.sem σ ρ s G H Q P R hρ f0 hW (i _ _ _ _ hm) k⟩
end

section
variable {X : Cx} {Φ : OH → Hp → Hp → Prop} {W : WX} [FΦ : OFrm X.K X.mg Φ] {J : Jv}
/-! names, constants -/
def fVar (i : Nat) : fE := fun ρ st => match ρ[i]? with
  | some (some d) => .ok d st
  | _ => .bad
theorem fe_var (i : Nat) {x : Str} {pos : Pos} (hN : X.N[i]? = some x := by rfl) (hv : Vis X.env.scope x := by first | exact Or.inl rfl | exact Or.inr (Or.inl rfl) | exact Or.inr (Or.inr rfl)) (hd : (x == ("__debug__" : Str)) = false := by decide)
    (hcd : (x == ("__classdict__" : Str)) = false := by decide) : FE X Φ W J (.Name x pos) (fVar i) :=
  fe_of (de_var i hN hv hd hcd) fun ρ' O P R ⟨θ, ρ, st, c, h⟩ => by
    unfold fVar at h
    cases q : ρ[i]? with
    | none => rw [q] at h; exact h.elim
    | some u =>
      rw [q] at h
      cases u with
      | none => exact h.elim
      | some d =>
        obtain ⟨d', e, r⟩ := c.env.2 i d q
        exact ⟨d', e, Aft.ok h r c.mt⟩
def fC (d : D) : fE := fun _ st => .ok d st
theorem fc_run {d : D} (hd : noLoc d = true) {ρ' : Rho} {O : OH} {P : D → OH → Prop} {R : Exn → OH → Prop} (h : dE J (fC d) ρ' O P R) : mC d ρ' O P R := by
  obtain ⟨θ, ρ, st, c, h⟩ := h
  exact Aft.ok h (rn_self hd) c.mt
theorem fe_int {i j pos} : FE X Φ W J (.Constant (.int i) j pos) (fC (.int i)) := fe_of de_int fun _ _ _ _ h => fc_run rfl h
theorem fe_bl {b j pos} : FE X Φ W J (.Constant (.bool b) j pos) (fC (.bl b)) := fe_of de_bl fun _ _ _ _ h => fc_run rfl h
theorem fe_non {j pos} : FE X Φ W J (.Constant .none j pos) (fC .non) := fe_of de_non fun _ _ _ _ h => fc_run rfl h
theorem fe_str {x j pos} : FE X Φ W J (.Constant (.str x) j pos) (fC (.str x)) := fe_of de_str fun _ _ _ _ h => fc_run rfl h
theorem fe_glob {x : Str} {v : V} {u : Value} {d : D} {pos : Pos} (hg : Gl X x) (hm : X.mg x = some u) (r : RelV v u) (hc : ∀ G, Rp X.K X.mg G v d) (hn : noLoc d = true := by rfl) (hd : (x == ("__debug__" : Str)) = false := by decide) : FE X Φ W J (.Name x pos) (fC d) :=
  fe_of (de_glob hg hm r hc hd) fun _ _ _ _ h => fc_run hn h
/-! operators -/
structure OW (o : D → D → Option D) (w : W2) : Prop where
  run : ∀ (θ : Th) (a b a' b' d : D) (P : D → Prop), Rn θ a a' → Rn θ b b' → o a b = some d → (∀ d', Rn θ d d' → P d') → w a' b' P
def optR (o : Option D) (st : St) : Res D := match o with
  | some d => .ok d st
  | none => .bad
def fBin (o : D → D → Option D) (fa fb : fE) : fE := fun ρ st => (fa ρ st).bind fun a st1 => (fb ρ st1).bind fun b st2 => optR (o a b) st2
theorem fbin_run {o : D → D → Option D} {w : W2} (ow : OW o w) {fa fb : fE} {ρ' : Rho} {O : OH} {P : D → OH → Prop} {R : Exn → OH → Prop} (h : dE J (fBin o fa fb) ρ' O P R) : mBin w (dE J fa) (dE J fb) ρ' O P R := by
  obtain ⟨θ, ρ, st, c, h⟩ := h
  refine ⟨θ, ρ, st, c, h.bind fun θ1 a a' st1 O1 s1 ra m1 h1 => ?_⟩
  refine ⟨θ1, ρ, st1, c.step s1 m1, h1.bind fun θ2 b b' st2 O2 s2 rb m2 h2 => ?_⟩
  cases q : o a b with
  | none => rw [q] at h2; exact h2.elim
  | some d =>
    rw [q] at h2
    exact ow.run θ2 a b a' b' d _ (ra.mono s2) rb q fun d' rd => Aft.ok h2 rd m2
section
variable {a b : Expr} {fa fb : fE} {pos : Pos} {r : R2} {w : W2} {o : D → D → Option D}
theorem fe_bin {op : Operator} (o2 : Op2 X (binaryOp op) r w) (ow : OW o w) (ha : FE X Φ W J a fa) (hb : FE X Φ W J b fb) : FE X Φ W J (.BinOp a op b pos) (fBin o fa fb) := by
  obtain ⟨_, ha⟩ := ha
  obtain ⟨_, hb⟩ := hb
  exact fe_of (de_bin o2 ha hb) fun _ _ _ _ h => fbin_run ow h
theorem fe_cmp {op : CmpOp} (o2 : Op2 X (compareOp op) r w) (ow : OW o w) (ha : FE X Φ W J a fa) (hb : FE X Φ W J b fb) (hm : behindInMarks op b = false := by first | exact nomark _ | rfl) : FE X Φ W J (.Compare a [op] [b] pos) (fBin o fa fb) := by
  obtain ⟨_, ha⟩ := ha
  obtain ⟨_, hb⟩ := hb
  exact fe_of (de_cmp o2 ha hb hm) fun _ _ _ _ h => fbin_run ow h
theorem fe_ix (o2 : Ix2 X r w) (ow : OW o w) (ha : FE X Φ W J a fa) (hb : FE X Φ W J b fb) (hs : PlainIx b := by exact fun _ _ => rfl) : FE X Φ W J (.Subscript a b pos) (fBin o fa fb) := by
  obtain ⟨_, ha⟩ := ha
  obtain ⟨_, hb⟩ := hb
  exact fe_of (de_ix o2 ha hb hs) fun _ _ _ _ h => fbin_run ow h
def blR (d : D) (st : St) : Res Bool := match d with
  | .bl b => .ok b st
  | _ => .bad
def fTest (f : fE) : fT := fun ρ st => (f ρ st).bind blR
theorem ftest_run {f : fE} {ρ' : Rho} {O : OH} {P : Bool → OH → Prop} {R : Exn → OH → Prop} (h : dT J (fTest f) ρ' O P R) : mTest (dE J f) ρ' O P R := by
  obtain ⟨θ, ρ, st, c, h⟩ := h
  refine ⟨θ, ρ, st, c, h.bind fun θ1 a a' st1 O1 s1 ra m1 h1 => ?_⟩
  cases ra with
  | bl b => exact ⟨b, rfl, Aft.ok h1 rfl m1⟩
  | _ => exact h1.elim
theorem mtest_mono {m m' : ME OH} (i : ∀ ρ' O P R, m ρ' O P R → m' ρ' O P R) {ρ' : Rho} {O : OH} {P : Bool → OH → Prop} {R : Exn → OH → Prop} (h : mTest m ρ' O P R) : mTest m' ρ' O P R := i _ _ _ _ h
theorem ft_cmp {op : CmpOp} (o2 : Op2 X (compareOp op) r w) (ow : OW o w) (ha : FE X Φ W J a fa) (hb : FE X Φ W J b fb) (hm : behindInMarks op b = false := by first | exact nomark _ | rfl) : FT X Φ W J (.Compare a [op] [b] pos) (fTest (fBin o fa fb)) := by
  obtain ⟨_, ha⟩ := ha
  obtain ⟨_, hb⟩ := hb
  exact ft_of (dt_cmp o2 ha hb hm) fun _ _ _ _ h => mtest_mono (fun _ _ _ _ => fbin_run ow) (ftest_run h)
end
theorem ft_val {e : Expr} {f : fE} (h : FE X Φ W J e f) (he : ∀ whole, isTrue e X.env whole = (do let v ← whole; standAt e.pos; holding [v] (truthy v)) := by intro _; rfl) : FT X Φ W J e (fTest f) := by
  obtain ⟨_, h⟩ := h
  exact ft_of (dt_val h he) fun _ _ _ _ h => ftest_run h
def fAnd (t u : fT) : fT := fun ρ st => (t ρ st).bind fun c st1 => if c = true then u ρ st1 else .ok false st1
def fOr (t u : fT) : fT := fun ρ st => (t ρ st).bind fun c st1 => if c = true then .ok true st1 else u ρ st1
def fNot (t : fT) : fT := fun ρ st => (t ρ st).bind fun c st1 => .ok (!c) st1
section
variable {a b : Expr} {rest : List Expr} {fa fb : fT} {pos : Pos}
theorem fw_and1 (h : FT X Φ W J a fa) : FW X Φ W J (.BoolOp .And [a] pos) fa := by
  obtain ⟨_, h⟩ := h
  exact ⟨_, dw_and1 h⟩
theorem fw_or1 (h : FT X Φ W J a fa) : FW X Φ W J (.BoolOp .Or [a] pos) fa := by
  obtain ⟨_, h⟩ := h
  exact ⟨_, dw_or1 h⟩
theorem fw_and (h : FT X Φ W J a fa) (h' : FW X Φ W J (.BoolOp .And (b :: rest) pos) fb) : FW X Φ W J (.BoolOp .And (a :: b :: rest) pos) (fAnd fa fb) := by
  obtain ⟨_, h⟩ := h
  obtain ⟨_, h'⟩ := h'
  refine fw_of (dw_and h h') fun ρ' O P R ⟨θ, ρ, st, c, h⟩ => ⟨θ, ρ, st, c, h.bind fun θ1 a a' st1 O1 s1 ra m1 h1 => ?_⟩
  cases ra
  cases a with
  | true => exact ⟨θ1, ρ, st1, c.step s1 m1, h1⟩
  | false => exact Aft.ok h1 rfl m1
theorem fw_or (h : FT X Φ W J a fa) (h' : FW X Φ W J (.BoolOp .Or (b :: rest) pos) fb) : FW X Φ W J (.BoolOp .Or (a :: b :: rest) pos) (fOr fa fb) := by
  obtain ⟨_, h⟩ := h
  obtain ⟨_, h'⟩ := h'
  refine fw_of (dw_or h h') fun ρ' O P R ⟨θ, ρ, st, c, h⟩ => ⟨θ, ρ, st, c, h.bind fun θ1 a a' st1 O1 s1 ra m1 h1 => ?_⟩
  cases ra
  cases a with
  | true => exact Aft.ok h1 rfl m1
  | false => exact ⟨θ1, ρ, st1, c.step s1 m1, h1⟩
theorem FW.ft {e : Expr} (h : FW X Φ W J e fa) : FT X Φ W J e fa := by
  obtain ⟨_, h⟩ := h
  exact ⟨_, h.dt⟩
theorem ft_not (h : FT X Φ W J a fa) : FT X Φ W J (.UnaryOp .Not a pos) (fNot fa) := by
  obtain ⟨_, h⟩ := h
  refine ft_of (dt_not h) fun ρ' O P R ⟨θ, ρ, st, c, h⟩ => ⟨θ, ρ, st, c, h.bind fun θ1 a a' st1 O1 s1 ra m1 h1 => ?_⟩
  cases ra
  exact Aft.ok h1 rfl m1
end
/-! .. as values -/
def fAndV (m n : fE) : fE := fun ρ st => (m ρ st).bind fun d st1 => match d with
  | .bl true => n ρ st1
  | .bl false => .ok (.bl false) st1
  | _ => .bad
def fOrV (m n : fE) : fE := fun ρ st => (m ρ st).bind fun d st1 => match d with
  | .bl true => .ok (.bl true) st1
  | .bl false => n ρ st1
  | _ => .bad
def fNotV (m : fE) : fE := fun ρ st => (m ρ st).bind fun d st1 => match d with
  | .bl b => .ok (.bl (!b)) st1
  | _ => .bad
def fIf (t : fT) (m n : fE) : fE := fun ρ st => (t ρ st).bind fun c st1 => if c = true then m ρ st1 else n ρ st1
section
variable {a b : Expr} {rest : List Expr} {fa fb : fE} {pos : Pos}
theorem fe_one {op} (h : FE X Φ W J a fa) : FE X Φ W J (.BoolOp op [a] pos) fa := by
  obtain ⟨_, h⟩ := h
  exact ⟨_, de_one h⟩
theorem fe_and (h : FE X Φ W J a fa) (h' : FE X Φ W J (.BoolOp .And (b :: rest) pos) fb) : FE X Φ W J (.BoolOp .And (a :: b :: rest) pos) (fAndV fa fb) := by
  obtain ⟨_, h⟩ := h
  obtain ⟨_, h'⟩ := h'
  refine fe_of (de_and h h') fun ρ' O P R ⟨θ, ρ, st, c, h⟩ => ⟨θ, ρ, st, c, h.bind fun θ1 a a' st1 O1 s1 ra m1 h1 => ?_⟩
  cases ra with
  | bl q =>
    cases q with
    | true => exact ⟨true, rfl, by rw [if_pos rfl]; exact ⟨θ1, ρ, st1, c.step s1 m1, h1⟩⟩
    | false => exact ⟨false, rfl, by rw [if_neg Bool.false_ne_true]; exact Aft.ok h1 (.bl false) m1⟩
  | _ => exact h1.elim
theorem fe_or (h : FE X Φ W J a fa) (h' : FE X Φ W J (.BoolOp .Or (b :: rest) pos) fb) : FE X Φ W J (.BoolOp .Or (a :: b :: rest) pos) (fOrV fa fb) := by
  obtain ⟨_, h⟩ := h
  obtain ⟨_, h'⟩ := h'
  refine fe_of (de_or h h') fun ρ' O P R ⟨θ, ρ, st, c, h⟩ => ⟨θ, ρ, st, c, h.bind fun θ1 a a' st1 O1 s1 ra m1 h1 => ?_⟩
  cases ra with
  | bl q =>
    cases q with
    | true => exact ⟨true, rfl, by rw [if_pos rfl]; exact Aft.ok h1 (.bl true) m1⟩
    | false => exact ⟨false, rfl, by rw [if_neg Bool.false_ne_true]; exact ⟨θ1, ρ, st1, c.step s1 m1, h1⟩⟩
  | _ => exact h1.elim
theorem fe_not (h : FE X Φ W J a fa) : FE X Φ W J (.UnaryOp .Not a pos) (fNotV fa) := by
  obtain ⟨_, h⟩ := h
  refine fe_of (de_not h) fun ρ' O P R ⟨θ, ρ, st, c, h⟩ => ⟨θ, ρ, st, c, h.bind fun θ1 a a' st1 O1 s1 ra m1 h1 => ?_⟩
  cases ra with
  | bl q => exact ⟨q, rfl, Aft.ok h1 (.bl _) m1⟩
  | _ => exact h1.elim
theorem fe_if {t : Expr} {ft : fT} (ht : FT X Φ W J t ft) (h : FE X Φ W J a fa) (h' : FE X Φ W J b fb) : FE X Φ W J (.IfExp t a b pos) (fIf ft fa fb) := by
  obtain ⟨_, ht⟩ := ht
  obtain ⟨_, h⟩ := h
  obtain ⟨_, h'⟩ := h'
  refine fe_of (de_if ht h h') fun ρ' O P R ⟨θ, ρ, st, c, h⟩ => ⟨θ, ρ, st, c, h.bind fun θ1 a a' st1 O1 s1 ra m1 h1 => ?_⟩
  cases ra
  cases a with
  | true =>
    simp only [if_true] at h1 ⊢
    exact ⟨θ1, ρ, st1, c.step s1 m1, h1⟩
  | false =>
    simp only [Bool.false_eq_true, if_false] at h1 ⊢
    exact ⟨θ1, ρ, st1, c.step s1 m1, h1⟩
end
/-! arguments, displays -/
def fNil : fA := fun _ st => .ok [] st
def fCons (m : fE) (n : fA) : fA := fun ρ st => (m ρ st).bind fun d st1 => (n ρ st1).bind fun ds st2 => .ok (d :: ds) st2
def fLst (n : fA) : fE := fun ρ st => (n ρ st).bind fun ds st1 => if ds.length ≤ sizeLine then .ok (.lst ds) st1 else .bad
def fTup (n : fA) : fE := fun ρ st => (n ρ st).bind fun ds st1 => if ds.length ≤ sizeLine then .ok (.tup ds) st1 else .bad
/-- .. a list of one's own -/
def fLstO (n : fA) : fE := fun ρ st => (n ρ st).bind fun ds st1 => if ds.length ≤ sizeLine then .ok (.loc st1.length) (st1 ++ [some (.lst ds)]) else .bad
theorem mt_last {θ : Th} {st : St} {O : OH} (m : Mt θ st O) {p : Addr} : (θ ++ [p])[st.length]? = some p := by
  rw [← m.len, List.getElem?_append_right (Nat.le_refl _), Nat.sub_self]
  rfl
section
variable {e : Expr} {es : List Expr} {f : fE} {fs : fA} {pos : Pos}
theorem fa_nil : FA X Φ W J [] fNil := fa_of da_nil fun ρ' O P R ⟨θ, ρ, st, c, h⟩ => Aft.ok h .nil c.mt
theorem fa_cons (h : FE X Φ W J e f) (h' : FA X Φ W J es fs) (hs : starEach (e :: es) X.env = (false, eval e X.env) :: starEach es X.env := by rfl) : FA X Φ W J (e :: es) (fCons f fs) := by
  obtain ⟨_, h⟩ := h
  obtain ⟨_, h'⟩ := h'
  refine fa_of (da_cons h h' hs) fun ρ' O P R ⟨θ, ρ, st, c, h⟩ => ⟨θ, ρ, st, c, h.bind fun θ1 a a' st1 O1 s1 ra m1 h1 => ?_⟩
  refine ⟨θ1, ρ, st1, c.step s1 m1, h1.bind fun θ2 b b' st2 O2 s2 rb m2 h2 => ?_⟩
  exact Aft.ok h2 (.cons (ra.mono s2) rb) m2
theorem fe_lst (h : FA X Φ W J es fs) : FE X Φ W J (.List es pos) (fLst fs) := by
  obtain ⟨_, h⟩ := h
  refine fe_of (de_lst h) fun ρ' O P R ⟨θ, ρ, st, c, h⟩ => ⟨θ, ρ, st, c, h.bind fun θ1 a a' st1 O1 s1 ra m1 h1 => ?_⟩
  by_cases q : a.length ≤ sizeLine
  · rw [if_pos q] at h1
    exact ⟨by rw [← RnL.len ra]; exact q, Aft.ok h1 (.lst ra) m1⟩
  · rw [if_neg q] at h1
    exact h1.elim
theorem fe_tup {x1} (h : FA X Φ W J es fs) : FE X Φ W J (.Tuple es x1 pos) (fTup fs) := by
  obtain ⟨_, h⟩ := h
  refine fe_of (de_tup h) fun ρ' O P R ⟨θ, ρ, st, c, h⟩ => ⟨θ, ρ, st, c, h.bind fun θ1 a a' st1 O1 s1 ra m1 h1 => ?_⟩
  by_cases q : a.length ≤ sizeLine
  · rw [if_pos q] at h1
    exact ⟨by rw [← RnL.len ra]; exact q, Aft.ok h1 (.tup ra) m1⟩
  · rw [if_neg q] at h1
    exact h1.elim
theorem fe_lstO (h : FA X Φ W J es fs) : FE X Φ W J (.List es pos) (fLstO fs) := by
  obtain ⟨_, h⟩ := h
  refine fe_of (de_lstO h) fun ρ' O P R ⟨θ, ρ, st, c, h⟩ => ⟨θ, ρ, st, c, h.bind fun θ1 a a' st1 O1 s1 ra m1 h1 => ?_⟩
  by_cases q : a.length ≤ sizeLine
  · rw [if_pos q] at h1
    refine ⟨by rw [← RnL.len ra]; exact q, fun p np => ?_⟩
    exact h1 (θ1 ++ [p]) _ _ ⟨[p], rfl⟩ (.loc (mt_last m1)) (m1.new np (.lst ra))
  · rw [if_neg q] at h1
    exact h1.elim
end
/-! built-ins -/
structure LW (o : List D → Option D) (w : WL) : Prop where
  run : ∀ (θ : Th) (ds ds' : List D) (d : D) (P : D → Prop), RnL θ ds ds' → o ds = some d → (∀ d', Rn θ d d' → P d') → w ds' P
def fFn (o : List D → Option D) (n : fA) : fE := fun ρ st => (n ρ st).bind fun ds st1 => optR (o ds) st1
theorem ffn_run {o : List D → Option D} {w : WL} (ow : LW o w) {fs : fA} {ρ' : Rho} {O : OH} {P : D → OH → Prop} {R : Exn → OH → Prop} (h : dE J (fFn o fs) ρ' O P R) : mFn w (dA J fs) ρ' O P R := by
  obtain ⟨θ, ρ, st, c, h⟩ := h
  refine ⟨θ, ρ, st, c, h.bind fun θ1 a a' st1 O1 s1 ra m1 h1 => ?_⟩
  cases q : o a with
  | none => rw [q] at h1; exact h1.elim
  | some d =>
    rw [q] at h1
    exact ow.run θ1 a a' d _ ra q fun d' rd => Aft.ok h1 rd m1
section
variable {x : Str} {p pos : Pos} {e : Expr} {es : List Expr} {fs : fA} {id T : String} {r : List V → Hp → VK → Prop} {w : WL} {o : List D → Option D}
theorem fe_callB (c : Fn1 X (.builtin id) r w) (ow : LW o w) (hg : Gl X x) (hm : X.mg x = none) (hv : bootBuiltins x = some (.builtin id)) (ha : FA X Φ W J (e :: es) fs) (hn : x ≠ "__name__" := by decide) (hdb : (x == ("__debug__" : Str)) = false := by decide)
    (he : starEach (e :: es) X.env = (false, eval e X.env) :: starEach es X.env := by rfl) (hpl : (backTo pos (starEach es X.env)).any (·.1) = false := by rfl) : FE X Φ W J (.Call (.Name x p) (e :: es) [] pos) (fFn o fs) := by
  obtain ⟨_, ha⟩ := ha
  exact fe_of (de_callB c hg hm hv ha hn hdb he hpl) fun _ _ _ _ h => ffn_run ow h
theorem fe_callTy (c : Fn1 X (.type T) r w) (ow : LW o w) (hg : Gl X x) (hm : X.mg x = none) (hv : bootBuiltins x = some (.type T)) (ha : FA X Φ W J (e :: es) fs) (hn : x ≠ "__name__" := by decide) (hdb : (x == ("__debug__" : Str)) = false := by decide)
    (he : starEach (e :: es) X.env = (false, eval e X.env) :: starEach es X.env := by rfl) (hpl : (backTo pos (starEach es X.env)).any (·.1) = false := by rfl) : FE X Φ W J (.Call (.Name x p) (e :: es) [] pos) (fFn o fs) := by
  obtain ⟨_, ha⟩ := ha
  exact fe_of (de_callTy c hg hm hv ha hn hdb he hpl) fun _ _ _ _ h => ffn_run ow h
end
end
end FL

set_option Elab.async false
set_option linter.all false
set_option maxRecDepth 100000
set_option maxHeartbeats 1000000
namespace FL
open PySem PySem.Spec PyProof.Rows L2 DL

inductive RS where
  | nx (ρ : Rho) (st : St)
  | rt (d : D) (st : St)
  | bk (ρ : Rho) (st : St)
  | ct (ρ : Rho) (st : St)
  | ex (x : Exn) (ρ : Rho) (st : St)
  | bad
abbrev fS := Rho → St → RS
def AftS (J : Jv) (θ : Th) (r : RS) (M : MEnds OH) : Prop := match r with
  | .nx ρ st => ∀ (θ1 : Th) (ρ' : Rho) (O1 : OH), θ <+: θ1 → Ct J θ1 ρ ρ' st O1 → M.nx ρ' O1
  | .rt d st => ∀ (θ1 : Th) (d' : D) (O1 : OH), θ <+: θ1 → Rn θ1 d d' → Mt θ1 st O1 → M.rt d' O1
  | .bk ρ st => ∀ (θ1 : Th) (ρ' : Rho) (O1 : OH), θ <+: θ1 → Ct J θ1 ρ ρ' st O1 → M.bk ρ' O1
  | .ct ρ st => ∀ (θ1 : Th) (ρ' : Rho) (O1 : OH), θ <+: θ1 → Ct J θ1 ρ ρ' st O1 → M.ct ρ' O1
  | .ex x ρ st => ∀ (θ1 : Th) (x' : Exn) (ρ' : Rho) (O1 : OH), θ <+: θ1 → RnX θ1 x x' → Ct J θ1 ρ ρ' st O1 → M.ex x' ρ' O1
  | .bad => False
theorem AftS.sub {J : Jv} {θ θ1 : Th} {r : RS} {M : MEnds OH} (h : AftS J θ r M) (s : θ <+: θ1) : AftS J θ1 r M := by
  cases r with
  | nx ρ st => exact fun θ2 a b t => h θ2 a b (s.trans t)
  | rt ρ st => exact fun θ2 a b t => h θ2 a b (s.trans t)
  | bk ρ st => exact fun θ2 a b t => h θ2 a b (s.trans t)
  | ct ρ st => exact fun θ2 a b t => h θ2 a b (s.trans t)
  | ex x ρ st => exact fun θ2 a b c t => h θ2 a b c (s.trans t)
  | bad => exact h
def dS (J : Jv) (f : fS) : MS OH := fun M ρ' O => ∃ θ ρ st, Ct J θ ρ ρ' st O ∧ AftS J θ (f ρ st) M
def stB {α : Type} (r : Res α) (ρ : Rho) (k : α → St → RS) : RS := match r with
  | .ok a st => k a st
  | .ex x st => .ex x ρ st
  | .bad => .bad
theorem AftS.stB {α α' : Type} {rel : Th → α → α' → Prop} {J : Jv} {θ : Th} {r : Res α} {ρ ρ' : Rho} {k : α → St → RS} {M : MEnds OH} {P : α' → OH → Prop} {st : St} {O : OH} (h : AftS J θ (FL.stB r ρ k) M) (c : Ct J θ ρ ρ' st O)
    (kk : ∀ (θ1 : Th) (a : α) (a' : α') (st1 : St) (O1 : OH), θ <+: θ1 → rel θ1 a a' → Mt θ1 st1 O1 → AftS J θ1 (k a st1) M → P a' O1) : Aft rel θ r P (fun x' O1 => M.ex x' ρ' O1) := by
  cases r with
  | ok a st => exact fun θ1 a' O1 s q m => kk θ1 a a' st O1 s q m (AftS.sub (r := k a st) h s)
  | ex x st => exact fun θ1 x' O1 s q m => h θ1 x' ρ' O1 s q (c.step s m)
  | bad => exact h
section
variable (X : Cx) (Φ : OH → Hp → Hp → Prop) (W : WX) (J : Jv)
def FS (s : Stmt) (f : fS) : Prop := ∃ ts, DS X Φ W s ts (dS J f)
def FSs (s : List Stmt) (f : fS) : Prop := ∃ ts, DSs X Φ W s ts (dS J f)
end
section
variable {X : Cx} {Φ : OH → Hp → Hp → Prop} {W : WX} {J : Jv}
theorem fs_of {s : Stmt} {ts : TS} {m : MS OH} {f : fS} (h : DS X Φ W s ts m) (i : ∀ M ρ' O, dS J f M ρ' O → m M ρ' O) : FS X Φ W J s f :=
  ⟨ts, h.ps, fun σ ρ s G H D M hρ f0 hm E => h.sem σ ρ s G H D M hρ f0 (i _ _ _ hm) E⟩
theorem fss_of {s : List Stmt} {ts : TS} {m : MS OH} {f : fS} (h : DSs X Φ W s ts m) (i : ∀ M ρ' O, dS J f M ρ' O → m M ρ' O) : FSs X Φ W J s f :=
  ⟨ts, h.pss, fun σ ρ s G H D M hρ f0 hm E => h.sem σ ρ s G H D M hρ f0 (i _ _ _ hm) E⟩
end
/-! targets -/
abbrev fG := D → Rho → St → Option (Rho × St)
abbrev fGs := List D → Rho → St → Option (Rho × St)
def AftG (J : Jv) (θ : Th) (r : Option (Rho × St)) (P : Rho → OH → Prop) : Prop := match r with
  | some (ρ, st) => ∀ (θ1 : Th) (ρ' : Rho) (O1 : OH), θ <+: θ1 → Ct J θ1 ρ ρ' st O1 → P ρ' O1
  | none => False
def dG (J : Jv) (g : fG) : MG OH := fun d' ρ' O P => ∃ θ d ρ st, Rn θ d d' ∧ Ct J θ ρ ρ' st O ∧ AftG J θ (g d ρ st) P
def dGs (J : Jv) (g : fGs) : MGs OH := fun ds' ρ' O P => ∃ θ ds ρ st, RnL θ ds ds' ∧ Ct J θ ρ ρ' st O ∧ AftG J θ (g ds ρ st) P
theorem dg_imp {X : Cx} {Φ : OH → Hp → Hp → Prop} {tg : Expr} {g : TG} {m m' : MG OH} {il : List Nat} (h : DG X Φ tg g m il) (i : ∀ d ρ O P, m' d ρ O P → m d ρ O P) : DG X Φ tg g m' il :=
  ⟨h.pg, fun σ ρ s G H v d Q P hρ f r q k => h.sem σ ρ s G H v d Q P hρ f r (i _ _ _ _ q) k⟩
theorem dgs_imp {X : Cx} {Φ : OH → Hp → Hp → Prop} {tg : List Expr} {g : TGs} {m m' : MGs OH} {il : List Nat} (h : DGs X Φ tg g m il) (i : ∀ d ρ O P, m' d ρ O P → m d ρ O P) : DGs X Φ tg g m' il :=
  ⟨h.pg, fun σ ρ s G H v d Q P hρ f r q k => h.sem σ ρ s G H v d Q P hρ f r (i _ _ _ _ q) k⟩
def fGn (i : Nat) : fG := fun d ρ st => some (ρ.set i (some d), st)
def fGl : fGs := fun ds ρ st => match ds with
  | [] => some (ρ, st)
  | _ => none
def fGc (g : fG) (gs : fGs) : fGs := fun ds ρ st => match ds with
  | [] => none
  | d :: es => match g d ρ st with
    | some (ρ1, st1) => gs es ρ1 st1
    | none => none
def fGt (n : Nat) (gs : fGs) : fG := fun d ρ st => match d with
  | .tup ds => if ds.length = n then gs ds ρ st else none
  | _ => none
section
variable {X : Cx} {Φ : OH → Hp → Hp → Prop} {J : Jv}
theorem fg_name [Frm Φ] {i : Nat} {x : Str} {pos : Pos} (hN : X.N.Nodup) (hi : X.N[i]? = some x) (hx : Loc X.env.scope x) (hj : jfree J i := by first | trivial | (show _ ≠ _; decide)) (hf : X.fn x = true ∨ X.env.scope.names.lookup x = some .local := by first | exact .inl rfl | exact .inr rfl | assumption) : DG X Φ (.Name x pos) (gName i) (dG J (fGn i)) [i] :=
  dg_imp (dg_name hN hi hx hf) fun d' ρ' O P ⟨θ, d, ρ, st, r, c, h⟩ => h θ _ O (List.prefix_refl _) (c.set hj r)
theorem fgs_nil [Frm Φ] : DGs X Φ [] gNil (dGs J fGl) [] :=
  dgs_imp dgs_nil fun ds' ρ' O P ⟨θ, ds, ρ, st, r, c, h⟩ => by
    cases r with
    | nil => exact ⟨rfl, h θ _ O (List.prefix_refl _) c⟩
    | cons _ _ => exact h.elim
theorem fgs_cons [Frm Φ] {e : Expr} {es : List Expr} {g : TG} {gs : TGs} {m : fG} {n : fGs} {il jl : List Nat} (h : DG X Φ e g (dG J m) il) (h' : DGs X Φ es gs (dGs J n) jl)
    (hs : (assignEach (e :: es) X.env).map (·.2) = assign e X.env :: (assignEach es X.env).map (·.2) := by rfl) : DGs X Φ (e :: es) (gCons g gs) (dGs J (fGc m n)) (il ++ jl) :=
  dgs_imp (dgs_cons h h' hs) fun ds' ρ' O P ⟨θ, ds, ρ, st, r, c, h⟩ => by
    cases r with
    | nil => exact h.elim
    | @cons d e ds es rd rl =>
      refine ⟨_, _, rfl, θ, d, ρ, st, rd, c, ?_⟩
      have h2 : AftG J θ (match m d ρ st with | some (ρ1, st1) => n ds ρ1 st1 | none => none) P := h
      cases q : m d ρ st with
      | none => rw [q] at h2; exact h2.elim
      | some u =>
        rw [q] at h2
        intro θ1 ρ1' O1 s1 c1
        refine ⟨θ1, ds, u.1, u.2, rl.mono s1, c1, ?_⟩
        have h3 : AftG J θ (n ds u.1 u.2) P := h2
        cases z : n ds u.1 u.2 with
        | none => rw [z] at h3; exact h3.elim
        | some w =>
          rw [z] at h3
          exact fun θ2 ρ2 O2 s2 => h3 θ2 ρ2 O2 (s1.trans s2)
theorem fg_tup [Frm Φ] {es : List Expr} {k n : Nat} {pos : Pos} {g : TGs} {m : fGs} {il : List Nat} (hc : X.calm = true) (h : DGs X Φ es g (dGs J m) il)
    (hn : (assignEach es X.env).length = n := by rfl) (hst : (assignEach es X.env).findIdx? (·.1) = none := by rfl) : DG X Φ (.Tuple es k pos) (gTup X.K n g) (dG J (fGt n m)) il :=
  dg_imp (dg_tup hc h hn hst) fun d' ρ' O P ⟨θ, d, ρ, st, r, c, h⟩ => by
    cases r with
    | @tup a b rl =>
      have h2 : AftG J θ (if a.length = n then m a ρ st else none) P := h
      by_cases q : a.length = n
      · rw [if_pos q] at h2
        exact ⟨_, rfl, by rw [← rl.len]; exact q, θ, a, ρ, st, rl, c, h2⟩
      · rw [if_neg q] at h2
        exact h2.elim
    | _ => exact h.elim
end
section
variable {X : Cx} {Φ : OH → Hp → Hp → Prop} {W : WX} [FΦ : OFrm X.K X.mg Φ] {J : Jv}
/-! statements -/
def fNext : fS := fun ρ st => .nx ρ st
def fSeq (t u : fS) : fS := fun ρ st => match t ρ st with
  | .nx ρ1 st1 => u ρ1 st1
  | r => r
section
variable {st : Stmt} {rest : List Stmt} {f g : fS} {pos : Pos}
theorem fnext_run {M : MEnds OH} {ρ' : Rho} {O : OH} (h : dS J fNext M ρ' O) : M.nx ρ' O := by
  obtain ⟨θ, ρ, st, c, h⟩ := h
  exact h θ ρ' O (List.prefix_refl _) c
theorem fss_nil : FSs X Φ W J [] fNext := fss_of dss_nil fun M ρ' O h => fnext_run h
theorem fss_one (h : FS X Φ W J st f) : FSs X Φ W J [st] f := by
  obtain ⟨_, h⟩ := h
  exact ⟨_, dss_one h⟩
theorem fss_cons (h : FS X Φ W J st f) (h' : FSs X Φ W J rest g) : FSs X Φ W J (st :: rest) (fSeq f g) := by
  obtain ⟨_, h⟩ := h
  obtain ⟨_, h'⟩ := h'
  refine fss_of (dss_cons h h') fun M ρ' O ⟨θ, ρ, st, c, h⟩ => ⟨θ, ρ, st, c, ?_⟩
  have h2 : AftS J θ (match f ρ st with | .nx ρ1 st1 => g ρ1 st1 | r => r) M := h
  cases q : f ρ st with
  | nx ρ1 st1 =>
    rw [q] at h2
    exact fun θ1 ρ1' O1 s1 c1 => ⟨θ1, ρ1, st1, c1, AftS.sub (r := g ρ1 st1) h2 s1⟩
  | rt d st1 => rw [q] at h2; exact h2
  | bk d st1 => rw [q] at h2; exact h2
  | ct d st1 => rw [q] at h2; exact h2
  | ex d st1 => rw [q] at h2; exact h2
  | bad => rw [q] at h2; exact h2
theorem fs_pass : FS X Φ W J (.Pass pos) fNext := fs_of ds_pass fun M ρ' O h => fnext_run h
theorem fs_doc {x j pos pos'} : FS X Φ W J (.Expr (.Constant (.str x) j pos) pos') fNext := fs_of ds_doc fun M ρ' O h => fnext_run h
def fBrk : fS := fun ρ st => .bk ρ st
def fCt : fS := fun ρ st => .ct ρ st
theorem fs_break : FS X Φ W J (.Break pos) fBrk := fs_of ds_break fun M ρ' O ⟨θ, ρ, st, c, h⟩ => h θ ρ' O (List.prefix_refl _) c
theorem fs_continue : FS X Φ W J (.Continue pos) fCt := fs_of ds_continue fun M ρ' O ⟨θ, ρ, st, c, h⟩ => h θ ρ' O (List.prefix_refl _) c
end
def fDrop (f : fE) : fS := fun ρ st => stB (f ρ st) ρ fun _ st1 => .nx ρ st1
def fRet (f : fE) : fS := fun ρ st => stB (f ρ st) ρ fun d st1 => .rt d st1
def fRetN : fS := fun _ st => .rt .non st
def fSet (i : Nat) (f : fE) : fS := fun ρ st => stB (f ρ st) ρ fun d st1 => .nx (ρ.set i (some d)) st1
def fPar (i j : Nat) (n : fA) : fS := fun ρ st => stB (n ρ st) ρ fun ds st1 => match ds with
  | [a, b] => .nx ((ρ.set i (some a)).set j (some b)) st1
  | _ => .bad
def optS (o : Option (Rho × St)) : RS := match o with
  | some (ρ, st) => .nx ρ st
  | none => .bad
def fAsg (f : fE) (g : fG) : fS := fun ρ st => stB (f ρ st) ρ fun d st1 => optS (g d ρ st1)
def fIfS (t : fT) (a b : fS) : fS := fun ρ st => stB (t ρ st) ρ fun c st1 => if c = true then a ρ st1 else b ρ st1
section
variable {e : Expr} {f : fE} {pos : Pos}
theorem fs_expr (h : FE X Φ W J e f) (hs : swapsWith e none pos.line X.env = pure false := by rfl) : FS X Φ W J (.Expr e pos) (fDrop f) := by
  obtain ⟨_, h⟩ := h
  exact fs_of (ds_expr h hs) fun M ρ' O ⟨θ, ρ, st, c, h⟩ => ⟨θ, ρ, st, c, h.stB c fun θ1 a a' st1 O1 s1 ra m1 h1 => h1 θ1 ρ' O1 (List.prefix_refl _) (c.step s1 m1)⟩
theorem fs_ret (h : FE X Φ W J e f) : FS X Φ W J (.Return (some e) pos) (fRet f) := by
  obtain ⟨_, h⟩ := h
  exact fs_of (ds_ret h) fun M ρ' O ⟨θ, ρ, st, c, h⟩ => ⟨θ, ρ, st, c, h.stB c fun θ1 a a' st1 O1 s1 ra m1 h1 => h1 θ1 a' O1 (List.prefix_refl _) ra m1⟩
theorem fs_retN : FS X Φ W J (.Return none pos) fRetN := fs_of ds_retN fun M ρ' O ⟨θ, ρ, st, c, h⟩ => h θ .non O (List.prefix_refl _) .non c.mt
theorem fs_set {i : Nat} {x : Str} {pos' : Pos} (hN : X.N.Nodup) (hi : X.N[i]? = some x) (hx : Loc X.env.scope x) (h : FE X Φ W J e f) (hj : jfree J i := by first | trivial | (show _ ≠ _; decide)) (hs : swapsWith e (some (.Name x pos')) pos.line X.env = pure false := by rfl) (hf : X.fn x = true ∨ X.env.scope.names.lookup x = some .local := by first | exact .inl rfl | exact .inr rfl | assumption) :
    FS X Φ W J (.Assign [.Name x pos'] e pos) (fSet i f) := by
  obtain ⟨_, h⟩ := h
  exact fs_of (ds_set hN hi hx h hs hf) fun M ρ' O ⟨θ, ρ, st, c, h⟩ => ⟨θ, ρ, st, c, h.stB c fun θ1 a a' st1 O1 s1 ra m1 h1 => h1 θ1 _ O1 (List.prefix_refl _) ((c.step s1 m1).set hj ra)⟩
theorem fs_asg {tg : Expr} {g : TG} {fg : fG} {il : List Nat} (h : FE X Φ W J e f) (hg : DG X Φ tg g (dG J fg) il) (hs : swapsWithSole [tg] e pos.line X.env = pure false := by rfl) (hw : swappedStores [tg] e X.env = pure none := by rfl)
    (h1 : (assignEach [tg] X.env).map (·.2) = [assign tg X.env] := by rfl) : FS X Φ W J (.Assign [tg] e pos) (fAsg f fg) := by
  obtain ⟨_, h⟩ := h
  refine fs_of (ds_asg h hg hs hw h1) fun M ρ' O ⟨θ, ρ, st, c, h⟩ => ⟨θ, ρ, st, c, h.stB c fun θ1 a a' st1 O1 s1 ra m1 h1 => ⟨θ1, a, ρ, st1, ra, c.step s1 m1, ?_⟩⟩
  cases q : fg a ρ st1 with
  | none => rw [q] at h1; exact h1.elim
  | some u => rw [q] at h1; exact h1
end
theorem fs_par {i j : Nat} {x y : Str} {a b : Expr} {fs : fA} {px py pt pos : Pos} {kt k2 pt2} (hc : X.calm = true) (hN : X.N.Nodup) (hi : X.N[i]? = some x) (hj : X.N[j]? = some y) (hij : i ≠ j)
    (hx : X.env.scope.names.lookup x = some .local) (hy : X.env.scope.names.lookup y = some .local) (ha : FA X Φ W J [a, b] fs)
    (ji : jfree J i := by first | trivial | (show _ ≠ _; decide)) (jj : jfree J j := by first | trivial | (show _ ≠ _; decide))
    (hw : swappedStores [.Tuple [.Name x px, .Name y py] kt pt] (.Tuple [a, b] k2 pt2) X.env = pure (some [x, y]) := by rfl)
    (hs : swapsWithSole [.Tuple [.Name x px, .Name y py] kt pt] (.Tuple [a, b] k2 pt2) pos.line X.env = pure false := by rfl) :
    FS X Φ W J (.Assign [.Tuple [.Name x px, .Name y py] kt pt] (.Tuple [a, b] k2 pt2) pos) (fPar i j fs) := by
  obtain ⟨_, ha⟩ := ha
  refine fs_of (ds_par hc hN hi hj hij hx hy ha hw hs) fun M ρ' O ⟨θ, ρ, st, c, h⟩ => ⟨θ, ρ, st, c, h.stB c fun θ1 a a' st1 O1 s1 ra m1 h1 => ?_⟩
  cases ra with
  | nil => exact h1.elim
  | cons r1 ra =>
    cases ra with
    | nil => exact h1.elim
    | cons r2 ra =>
      cases ra with
      | nil => exact ⟨_, _, rfl, h1 θ1 _ O1 (List.prefix_refl _) (((c.step s1 m1).set ji r1).set jj r2)⟩
      | cons _ _ => exact h1.elim
theorem fs_if {t : Expr} {a b : List Stmt} {ft : fT} {fa fb : fS} {pos : Pos} (ht : FT X Φ W J t ft) (ha : FSs X Φ W J a fa) (hb : FSs X Φ W J b fb) : FS X Φ W J (.If t a b pos) (fIfS ft fa fb) := by
  obtain ⟨_, ht⟩ := ht
  obtain ⟨_, ha⟩ := ha
  obtain ⟨_, hb⟩ := hb
  refine fs_of (ds_if ht ha hb) fun M ρ' O ⟨θ, ρ, st, c, h⟩ => ⟨θ, ρ, st, c, h.stB c fun θ1 a a' st1 O1 s1 ra m1 h1 => ?_⟩
  cases ra
  cases a with
  | true =>
    simp only [if_true] at h1 ⊢
    exact ⟨θ1, ρ, st1, c.step s1 m1, h1⟩
  | false =>
    simp only [Bool.false_eq_true, if_false] at h1 ⊢
    exact ⟨θ1, ρ, st1, c.step s1 m1, h1⟩
/-! for -/
def fForGo (g : fG) (b : fS) : List D → fS
  | [], ρ, st => .nx ρ st
  | d :: ds, ρ, st => match g d ρ st with
    | none => .bad
    | some (ρ1, st1) => match b ρ1 st1 with
      | .nx ρ2 st2 => fForGo g b ds ρ2 st2
      | .ct ρ2 st2 => fForGo g b ds ρ2 st2
      | .bk ρ2 st2 => .nx ρ2 st2
      | .rt d st2 => .rt d st2
      | .ex x ρ2 st2 => .ex x ρ2 st2
      | .bad => .bad
def fFor (it : fA) (g : fG) (b : fS) : fS := fun ρ st => stB (it ρ st) ρ fun ds st1 => fForGo g b ds ρ st1
theorem for_run {g : fG} {b : fS} {M : MEnds OH} : ∀ {ds ds' : List D} {θ : Th} {ρ ρ' : Rho} {st : St} {O : OH}, RnL θ ds ds' → Ct J θ ρ ρ' st O → AftS J θ (fForGo g b ds ρ st) M → wFor (dG J g) (dS J b) ds' M ρ' O
  | _, _, θ, ρ, ρ', st, O, .nil, c, h => h θ ρ' O (List.prefix_refl _) c
  | _, _, θ, ρ, ρ', st, O, .cons (d := d) (ds := ds) rd rl, c, h => by
    refine ⟨θ, d, ρ, st, rd, c, ?_⟩
    unfold fForGo at h
    cases q : g d ρ st with
    | none => rw [q] at h; exact h.elim
    | some u =>
      rw [q] at h
      intro θ1 ρ1' O1 s1 c1
      refine ⟨θ1, u.1, u.2, c1, ?_⟩
      simp only at h
      cases z : b u.1 u.2 with
      | nx ρ2 st2 => rw [z] at h; exact fun θ2 ρ2' O2 s2 c2 => for_run (rl.mono (s1.trans s2)) c2 (AftS.sub h (s1.trans s2))
      | ct ρ2 st2 => rw [z] at h; exact fun θ2 ρ2' O2 s2 c2 => for_run (rl.mono (s1.trans s2)) c2 (AftS.sub h (s1.trans s2))
      | bk ρ2 st2 => rw [z] at h; exact fun θ2 ρ2' O2 s2 c2 => h θ2 ρ2' O2 (s1.trans s2) c2
      | rt d st2 => rw [z] at h; exact fun θ2 d' O2 s2 => h θ2 d' O2 (s1.trans s2)
      | ex x ρ2 st2 => rw [z] at h; exact fun θ2 x' ρ2' O2 s2 => h θ2 x' ρ2' O2 (s1.trans s2)
      | bad => rw [z] at h; exact h.elim
theorem fs_for {tg iter : Expr} {body : List Stmt} {gt : TG} {pos : Pos} {fi : fA} {g : fG} {b : fS} {il : List Nat} (hp : PassesOwn (model X.prog X.w) X.A X.env X.xe) (hc : X.calm = true) (hi : FI X Φ W J tg iter fi) (hg : DG X Φ tg gt (dG J g) il) (hb : FSs X Φ W J body b)
    (hs : ∀ x, foldedSetIterable iter X.env x = pure x := by intro _; rfl) : FS X Φ W J (.For tg iter body [] pos) (fFor fi g b) := by
  obtain ⟨_, hi⟩ := hi
  obtain ⟨_, hb⟩ := hb
  exact fs_of (ds_for hp hc hi hg hb hs) fun M ρ' O ⟨θ, ρ, st, c, h⟩ => ⟨θ, ρ, st, c, h.stB c fun θ1 a a' st1 O1 s1 ra m1 h1 => for_run ra (c.step s1 m1) h1⟩
/-! what is walked -/
def iSq (f : fE) : fA := fun ρ st => (f ρ st).bind fun d st1 => match d with
  | .lst ds => .ok ds st1
  | .tup ds => .ok ds st1
  | .frz ds => .ok ds st1
  | _ => .bad
theorem fi_seq {tg l : Expr} {f : fE} (h : FE X Φ W J l f) : FI X Φ W J tg l (iSq f) := by
  obtain ⟨_, h⟩ := h
  refine fi_of (di_seq h) fun ρ' O P R ⟨θ, ρ, st, c, h⟩ => ⟨θ, ρ, st, c, h.bind fun θ1 a a' st1 O1 s1 ra m1 h1 => ?_⟩
  cases ra with
  | lst r => exact .inl ⟨_, rfl, Aft.ok h1 r m1⟩
  | tup r => exact .inr (.inl ⟨_, rfl, Aft.ok h1 r m1⟩)
  | frz r => exact .inr (.inr ⟨_, rfl, Aft.ok h1 r m1⟩)
  | _ => exact h1.elim
theorem rnl_ints {θ : Th} (lo : Int) (n : Nat) : RnL θ (rngD lo n) (rngD lo n) := rnl_self (by
  unfold rngD
  generalize List.range n = l
  induction l with
  | nil => rfl
  | cons x xs ih => simp [noLocL, noLoc, ih])
def iR1 (n : fA) : fA := fun ρ st => (n ρ st).bind fun ds st1 => match ds with
  | [.int j] => if -(2 ^ 62) ≤ j ∧ j < 2 ^ 62 then .ok (rngD 0 j.toNat) st1 else .bad
  | _ => .bad
def iR2 (n : fA) : fA := fun ρ st => (n ρ st).bind fun ds st1 => match ds with
  | [.int i, .int j] => if -(2 ^ 62) ≤ i ∧ i < 2 ^ 62 ∧ -(2 ^ 62) ≤ j ∧ j < 2 ^ 62 then .ok (rngD i (j - i).toNat) st1 else .bad
  | _ => .bad
theorem fi_range1 {tg a : Expr} {fs : fA} {p pos : Pos} (hg : Gl X "range") (hm : X.mg "range" = none) (ha : FA X Φ W J [a] fs) (hs : starEach [a] X.env = [(false, eval a X.env)] := by rfl) : FI X Φ W J tg (.Call (.Name "range" p) [a] [] pos) (iR1 fs) := by
  obtain ⟨_, ha⟩ := ha
  refine fi_of (di_range1 hg hm ha hs) fun ρ' O P R ⟨θ, ρ, st, c, h⟩ => ⟨θ, ρ, st, c, h.bind fun θ1 a a' st1 O1 s1 ra m1 h1 => ?_⟩
  cases ra with
  | nil => exact h1.elim
  | cons r1 ra =>
    cases ra with
    | cons _ _ =>
      cases r1 <;> exact h1.elim
    | nil =>
      cases r1 with
      | int j =>
        simp only at h1
        split at h1
        · rename_i q
          exact ⟨j, rfl, q, Aft.ok h1 (rnl_ints _ _) m1⟩
        · exact h1.elim
      | _ => exact h1.elim
theorem fi_range2 {tg a b : Expr} {fs : fA} {p pos : Pos} (hg : Gl X "range") (hm : X.mg "range" = none) (ha : FA X Φ W J [a, b] fs) (hs : starEach [a, b] X.env = [(false, eval a X.env), (false, eval b X.env)] := by rfl) (hs2 : starEach [b] X.env = [(false, eval b X.env)] := by rfl) : FI X Φ W J tg (.Call (.Name "range" p) [a, b] [] pos) (iR2 fs) := by
  obtain ⟨_, ha⟩ := ha
  refine fi_of (di_range2 hg hm ha hs hs2) fun ρ' O P R ⟨θ, ρ, st, c, h⟩ => ⟨θ, ρ, st, c, h.bind fun θ1 a a' st1 O1 s1 ra m1 h1 => ?_⟩
  cases ra with
  | nil => exact h1.elim
  | cons r1 ra =>
    cases ra with
    | nil => cases r1 <;> exact h1.elim
    | cons r2 ra =>
      cases ra with
      | cons _ _ => cases r1 <;> first | exact h1.elim | (cases r2 <;> exact h1.elim)
      | nil =>
        cases r1 with
        | int i =>
          cases r2 with
          | int j =>
            simp only at h1
            split at h1
            · rename_i q
              exact ⟨i, j, rfl, q, Aft.ok h1 (rnl_ints _ _) m1⟩
            · exact h1.elim
          | _ => exact h1.elim
        | _ => cases r2 <;> exact h1.elim
/-! comprehensions -/
def FTs (X : Cx) (Φ : OH → Hp → Hp → Prop) (W : WX) (J : Jv) (ifs : List Expr) (f : fT) : Prop := ∃ tt, DTs X Φ W ifs tt (dT J f)
def fYes : fT := fun _ st => .ok true st
theorem fts_nil : FTs X Φ W J [] fYes := ⟨tYes, pts_nil, fun σ ρ s G H Q P R hρ f0 hW ⟨θ, ρ0, st, c, h⟩ k => k true s G H (Aft.ok (a' := true) h rfl c.mt) (Same.refl _) f0⟩
theorem fts_one {c : Expr} {f : fT} (h : FT X Φ W J c f) : FTs X Φ W J [c] f := by
  obtain ⟨_, h⟩ := h
  exact ⟨_, dts_one h⟩
def fLcGo (g : fG) (t : fT) (m : fE) (vs : List Nat) (ρ : Rho) : List D → List D → St → Res (List D)
  | [], acc, st => .ok acc st
  | d :: ds, acc, st => match g d (wipeD ρ vs) st with
    | none => .bad
    | some (ρ1, st1) => match t ρ1 st1 with
      | .ok true st2 => match m ρ1 st2 with
        | .ok y st3 => if acc.length < sizeLine then fLcGo g t m vs ρ ds (acc ++ [y]) st3 else .bad
        | _ => .bad
      | .ok false st2 => fLcGo g t m vs ρ ds acc st2
      | _ => .bad
def fLc (it : fA) (g : fG) (t : fT) (m : fE) (vs : List Nat) : fE := fun ρ st => (it ρ st).bind fun ds st1 => (fLcGo g t m vs ρ ds [] st1).bind fun acc st2 => .ok (.lst acc) st2
def fLcO (it : fA) (g : fG) (t : fT) (m : fE) (vs : List Nat) : fE := fun ρ st => (it ρ st).bind fun ds st1 => (fLcGo g t m vs ρ ds [] st1).bind fun acc st2 => .ok (.loc st2.length) (st2 ++ [some (.lst acc)])
theorem lc_run {g : fG} {t : fT} {m : fE} {vs : List Nat} {β β' : Type} {rel : Th → β → β' → Prop} {kk : List D → St → Res β} {Q : β' → OH → Prop} {R : Exn → OH → Prop} {PP : List D → OH → Prop} {ρ ρ' : Rho} (hv : ∀ v ∈ vs, jfree J v)
    (fin : ∀ (θ1 : Th) (a a' : List D) (st1 : St) (O1 : OH), RnL θ1 a a' → Mt θ1 st1 O1 → Aft rel θ1 (kk a st1) Q R → PP a' O1) :
    ∀ {ds ds' : List D} {θ : Th} {acc acc' : List D} {st : St} {O : OH}, RnL θ ds ds' → RnL θ acc acc' → Ct J θ ρ ρ' st O → Aft rel θ ((fLcGo g t m vs ρ ds acc st).bind kk) Q R → wLc (dG J g) (dT J t) (dE J m) vs ρ' PP ds' acc' O
  | _, _, θ, acc, acc', st, O, .nil, ra, c, h => fin θ acc acc' st O ra c.mt h
  | _, _, θ, acc, acc', st, O, .cons (d := d) (ds := ds) (es := ds') rd rl, ra, c, h => by
    have cw : Ct J θ (wipeD ρ vs) (wipeD ρ' vs) st O := ⟨c.env.wipe vs, c.mt, c.j.wipe hv⟩
    refine ⟨θ, d, _, st, rd, cw, ?_⟩
    unfold fLcGo at h
    cases q : g d (wipeD ρ vs) st with
    | none => rw [q] at h; exact h.elim
    | some u =>
      rw [q] at h
      intro θ1 ρ1' O1 s1 c1
      refine ⟨θ1, u.1, u.2, c1, ?_⟩
      simp only at h
      cases z : t u.1 u.2 with
      | bad => rw [z] at h; exact h.elim
      | ex x st2 => rw [z] at h; exact h.elim
      | ok b st2 =>
        rw [z] at h
        cases b with
        | false =>
          intro θ2 b' O2 s2 rb m2
          cases rb
          simp only [Bool.false_eq_true, if_false] at h ⊢
          exact lc_run hv fin (rl.mono (s1.trans s2)) (ra.mono (s1.trans s2)) (c.step (s1.trans s2) m2) (Aft.sub h (s1.trans s2))
        | true =>
          intro θ2 b' O2 s2 rb m2
          cases rb
          simp only [if_true] at h ⊢
          refine ⟨θ2, u.1, st2, c1.step s2 m2, ?_⟩
          cases w : m u.1 st2 with
          | bad => rw [w] at h; exact h.elim
          | ex x st3 => rw [w] at h; exact h.elim
          | ok y st3 =>
            rw [w] at h
            simp only at h
            intro θ3 y' O3 s3 ry m3
            by_cases hl : acc.length < sizeLine
            · rw [if_pos hl] at h
              have s13 := (s1.trans s2).trans s3
              exact ⟨by rw [← ra.len]; exact hl, lc_run hv fin (rl.mono s13) ((ra.mono s13).app (.cons ry .nil)) (c.step s13 m3) (Aft.sub h s13)⟩
            · rw [if_neg hl] at h
              exact h.elim
section
variable {elt tg iter : Expr} {ifs : List Expr} {scope : Scope} {own : List (Str × Nat)} {pos : Pos} {g : TG} {fi : fA} {fg : fG} {ft : fT} {fe : fE} {il : List Nat}
theorem flc_run (hv : ∀ v ∈ own.map (·.2), jfree J v) {ρ' : Rho} {O : OH} {P : D → OH → Prop} {R : Exn → OH → Prop} (h : dE J (fLc fi fg ft fe (own.map (·.2))) ρ' O P R) : mLc (dA J fi) (dG J fg) (dT J ft) (dE J fe) (own.map (·.2)) ρ' O P R := by
  obtain ⟨θ, ρ, st, c, h⟩ := h
  refine ⟨θ, ρ, st, c, h.bind fun θ1 a a' st1 O1 s1 ra m1 h1 => ?_⟩
  exact lc_run hv (fun θ2 a a' st2 O2 r2 m2 h2 => Aft.ok h2 (.lst r2) m2) ra .nil (c.step s1 m1) h1
theorem flcO_run (hv : ∀ v ∈ own.map (·.2), jfree J v) {ρ' : Rho} {O : OH} {P : D → OH → Prop} {R : Exn → OH → Prop} (h : dE J (fLcO fi fg ft fe (own.map (·.2))) ρ' O P R) : mLcO (dA J fi) (dG J fg) (dT J ft) (dE J fe) (own.map (·.2)) ρ' O P R := by
  obtain ⟨θ, ρ, st, c, h⟩ := h
  refine ⟨θ, ρ, st, c, h.bind fun θ1 a a' st1 O1 s1 ra m1 h1 => ?_⟩
  exact lc_run hv (fun θ2 a a' st2 O2 r2 m2 (h2 : Aft Rn θ2 (Res.ok (D.loc st2.length) (st2 ++ [some (DO.lst a)])) P R) p np => h2 (θ2 ++ [p]) _ _ ⟨[p], rfl⟩ (.loc (mt_last m2)) (m2.new np (.lst r2))) ra .nil (c.step s1 m1) h1
theorem fe_lc (hc : X.calm = true) (hN : X.N.Nodup) (hi : FI X Φ W J tg iter fi) (ok : BlkOk X.N X.env.scope scope own)
    (hg : ∀ (D : Addr) (vs : List V) (s : Shared) (H : Hp) (C : Addr) (cl : List (Str × Addr)) (fp : List Addr), DG (X.blk s H scope (compEnvC scope cl C X.env) fp) (Own Φ D vs) tg g (dG J fg) il)
    (ht : ∀ (D : Addr) (vs : List V) (s : Shared) (H : Hp) (C : Addr) (cl : List (Str × Addr)) (fp : List Addr), FTs (X.blk s H scope (compEnvC scope cl C X.env) fp) (Own Φ D vs) W0 J ifs ft)
    (he : ∀ (D : Addr) (vs : List V) (s : Shared) (H : Hp) (C : Addr) (cl : List (Str × Addr)) (fp : List Addr), FE (X.blk s H scope (compEnvC scope cl C X.env) fp) (Own Φ D vs) W0 J elt fe)
    (hv : ∀ v ∈ own.map (·.2), jfree J v := by first | (intro _ _; trivial) | decide) (hil : ∀ i ∈ il, i ∈ own.map (·.2) := by decide) (hs : ∀ x, foldedSetIterable iter X.env x = pure x := by intro _; rfl) :
    FE X Φ W J (.ListComp elt [⟨tg, iter, ifs, 0⟩] scope pos) (fLc fi fg ft fe (own.map (·.2))) := by
  obtain ⟨_, hi⟩ := hi
  exact fe_of (de_lcE hc hN hi ok hg ht he hil hs) fun _ _ _ _ h => flc_run hv h
theorem fe_lcO (hc : X.calm = true) (hN : X.N.Nodup) (hi : FI X Φ W J tg iter fi) (ok : BlkOk X.N X.env.scope scope own)
    (hg : ∀ (D : Addr) (vs : List V) (s : Shared) (H : Hp) (C : Addr) (cl : List (Str × Addr)) (fp : List Addr), DG (X.blk s H scope (compEnvC scope cl C X.env) fp) (Own Φ D vs) tg g (dG J fg) il)
    (ht : ∀ (D : Addr) (vs : List V) (s : Shared) (H : Hp) (C : Addr) (cl : List (Str × Addr)) (fp : List Addr), FTs (X.blk s H scope (compEnvC scope cl C X.env) fp) (Own Φ D vs) W0 J ifs ft)
    (he : ∀ (D : Addr) (vs : List V) (s : Shared) (H : Hp) (C : Addr) (cl : List (Str × Addr)) (fp : List Addr), FE (X.blk s H scope (compEnvC scope cl C X.env) fp) (Own Φ D vs) W0 J elt fe)
    (hv : ∀ v ∈ own.map (·.2), jfree J v := by first | (intro _ _; trivial) | decide) (hil : ∀ i ∈ il, i ∈ own.map (·.2) := by decide) (hs : ∀ x, foldedSetIterable iter X.env x = pure x := by intro _; rfl) :
    FE X Φ W J (.ListComp elt [⟨tg, iter, ifs, 0⟩] scope pos) (fLcO fi fg ft fe (own.map (·.2))) := by
  obtain ⟨_, hi⟩ := hi
  exact fe_of (de_lcOE hc hN hi ok hg ht he hil hs) fun _ _ _ _ h => flcO_run hv h
theorem fs_setLc {i : Nat} {y : Str} {py spos : Pos} (hc : X.calm = true) (hN : X.N.Nodup) (hy : X.N[i]? = some y) (hyl : X.env.scope.names.lookup y = some .local)
    (hsw : swapsWith (.ListComp elt [⟨tg, iter, ifs, 0⟩] scope pos) (some (.Name y py)) spos.line X.env = pure true) (hi : FI X Φ W J tg iter fi) (ok : BlkOk X.N X.env.scope scope own)
    (hg : ∀ (D : Addr) (vs : List V) (s : Shared) (H : Hp) (C : Addr) (cl : List (Str × Addr)) (fp : List Addr), DG (X.blk s H scope (compEnvC scope cl C X.env) fp) (Own Φ D vs) tg g (dG J fg) il)
    (ht : ∀ (D : Addr) (vs : List V) (s : Shared) (H : Hp) (C : Addr) (cl : List (Str × Addr)) (fp : List Addr), FTs (X.blk s H scope (compEnvC scope cl C X.env) fp) (Own Φ D vs) W0 J ifs ft)
    (he : ∀ (D : Addr) (vs : List V) (s : Shared) (H : Hp) (C : Addr) (cl : List (Str × Addr)) (fp : List Addr), FE (X.blk s H scope (compEnvC scope cl C X.env) fp) (Own Φ D vs) W0 J elt fe)
    (hj : jfree J i := by first | trivial | (show _ ≠ _; decide)) (hv : ∀ v ∈ own.map (·.2), jfree J v := by first | (intro _ _; trivial) | decide) (hil : ∀ i ∈ il, i ∈ own.map (·.2) := by decide) (hs : ∀ x, foldedSetIterable iter X.env x = pure x := by intro _; rfl) :
    FS X Φ W J (.Assign [.Name y py] (.ListComp elt [⟨tg, iter, ifs, 0⟩] scope pos) spos) (fSet i (fLc fi fg ft fe (own.map (·.2)))) := by
  obtain ⟨_, hi⟩ := hi
  refine fs_of (ds_setLcE hc hN hy hyl hsw hi ok hg ht he hil hs) fun M ρ' O ⟨θ, ρ, st, c, h⟩ => flc_run hv ⟨θ, ρ, st, c, h.stB c fun θ1 a a' st1 O1 s1 ra m1 h1 => h1 θ1 _ O1 (List.prefix_refl _) ((c.step s1 m1).set hj ra)⟩
end
end
end FL

set_option Elab.async false
set_option linter.all false
set_option maxRecDepth 100000
set_option maxHeartbeats 1000000
namespace FL
open PySem PySem.Spec PyProof.Rows L2 DL

theorem Aft.at {α α' : Type} {rel : Th → α → α' → Prop} {θ : Th} {r : Res α} {P : α' → OH → Prop} {R : Exn → OH → Prop} {a : α} {st : St} (h : Aft rel θ r P R) (e : r = .ok a st) {a' : α'} {O : OH} {θ1 : Th} (s : θ <+: θ1) (q : rel θ1 a a') (m : Mt θ1 st O) : P a' O := by
  subst e
  exact h θ1 a' O s q m
section
variable {X : Cx} {Φ : OH → Hp → Hp → Prop} {W : WX} [FΦ : OFrm X.K X.mg Φ] {J : Jv}
/-! what a def leaves of its own is thrown away, where nothing tells of it -/
mutual
def locB (n : Nat) : D → Bool
  | .lst a => locBL n a
  | .tup a => locBL n a
  | .dic _ a => locBL n a
  | .ins _ _ a => locBL n a
  | .frz a => locBL n a
  | .loc i => decide (i < n)
  | _ => true
def locBL (n : Nat) : List D → Bool
  | [] => true
  | d :: ds => locB n d && locBL n ds
end
mutual
theorem rn_low {θ t : Th} : ∀ {a b : D}, Rn (θ ++ t) a b → locB θ.length a = true → Rn θ a b
  | _, _, .non, _ => .non
  | _, _, .bl b, _ => .bl b
  | _, _, .int i, _ => .int i
  | _, _, .str x, _ => .str x
  | _, _, .lst r, h => .lst (rnl_low r (by simpa [locB] using h))
  | _, _, .tup r, h => .tup (rnl_low r (by simpa [locB] using h))
  | _, _, .dic r, h => .dic (rnl_low r (by simpa [locB] using h))
  | _, _, .ins r, h => .ins (rnl_low r (by simpa [locB] using h))
  | _, _, .frz r, h => .frz (rnl_low r (by simpa [locB] using h))
  | _, _, .loc (i := i) e, h => .loc (by
    have h' : i < θ.length := by simpa [locB] using h
    rwa [List.getElem?_append_left h'] at e)
  | _, _, .cls C, _ => .cls C
  | _, _, .ty n, _ => .ty n
theorem rnl_low {θ t : Th} : ∀ {a b : List D}, RnL (θ ++ t) a b → locBL θ.length a = true → RnL θ a b
  | _, _, .nil, _ => .nil
  | _, _, .cons r rl, h => by
    simp only [locBL, Bool.and_eq_true] at h
    exact .cons (rn_low r h.1) (rnl_low rl h.2)
end
def lowO (n : Nat) : Option DO → Bool
  | none => true
  | some x => locB n x.tree
def gc (n : Nat) (d : D) (st : St) : St := if noLoc d = true ∧ (st.drop n).all Option.isNone = true ∧ (st.take n).all (lowO n) = true then st.take n else st
theorem gc_same {d : D} {st : St} : gc st.length d st = st := by
  unfold gc
  simp
theorem gc_app {d : D} {st t : St} (h : noLoc d = true) (ht : t.all Option.isNone = true) (hl : st.all (lowO st.length) = true) : gc st.length d (st ++ t) = st := by
  unfold gc
  rw [if_pos ⟨h, by simpa using ht, by simpa using hl⟩]
  simp
theorem rno_low {θ t : Th} {x y : DO} (r : RnO (θ ++ t) x y) (h : locB θ.length x.tree = true) : RnO θ x y := by
  cases r with
  | lst r => exact .lst (rnl_low r (by simpa [DO.tree, locB] using h))
  | dic r => exact .dic (rnl_low r (by simpa [DO.tree, locB] using h))
  | ins r => exact .ins (rnl_low r (by simpa [DO.tree, locB] using h))
theorem gc_run {θ θ1 : Th} {st : St} {O : OH} {d d' : D} {n : Nat} {X : Prop} (l : θ.length = n) (s : θ <+: θ1) (r : Rn θ1 d d') (m : Mt θ1 st O) (h : ∀ θ2, θ <+: θ2 → Rn θ2 d d' → Mt θ2 (gc n d st) O → X) : X := by
  unfold gc at h
  by_cases q : noLoc d = true ∧ (st.drop n).all Option.isNone = true ∧ (st.take n).all (lowO n) = true
  · rw [if_pos q] at h
    have e := rn_eq r q.1
    subst e
    have hl := m.len
    obtain ⟨t, rfl⟩ := s
    have at_ : ∀ (i : Nat) (x : DO), (st.take n)[i]? = some (some x) → i < n ∧ st[i]? = some (some x) := fun i x e => by
      rw [List.getElem?_take] at e
      split at e
      · rename_i q
        exact ⟨q, e⟩
      · cases e
    have low : ∀ i, i < n → (θ ++ t)[i]? = θ[i]? := fun i hi => List.getElem?_append_left (by rw [l]; exact hi)
    refine h θ (List.prefix_refl _) (rn_self q.1) ⟨?_, fun i x e => ?_, fun i j x y a e1 e2 q1 q2 => ?_⟩
    · rw [List.length_take, ← hl, List.length_append, l]
      omega
    · obtain ⟨hi, e⟩ := at_ i x e
      obtain ⟨a, y, h1, h2, h3⟩ := m.live i x e
      rw [low i hi] at h1
      have hx : locB θ.length x.tree = true := by
        have z := List.all_eq_true.mp q.2.2 (some x) (List.mem_iff_getElem?.mpr ⟨i, by rw [List.getElem?_take, if_pos hi]; exact e⟩)
        rw [l]
        exact z
      exact ⟨a, y, h1, h2, rno_low h3 hx⟩
    · obtain ⟨hi, e1⟩ := at_ i x e1
      obtain ⟨hj, e2⟩ := at_ j y e2
      exact m.inj i j x y a e1 e2 (by rw [low i hi]; exact q1) (by rw [low j hj]; exact q2)
  · rw [if_neg q] at h
    exact h θ1 s r m
/-! .. and at a def's end also what lives, but is told of by nobody -/
def gcF (n : Nat) (ok : Bool) (st : St) : St := if ok = true ∧ (st.take n).all (lowO n) = true then st.take n else st
theorem gcF_same {ok : Bool} {st : St} : gcF st.length ok st = st := by
  unfold gcF
  simp
theorem gcF_app {st t : St} (hl : st.all (lowO st.length) = true) : gcF st.length true (st ++ t) = st := by
  unfold gcF
  rw [if_pos ⟨rfl, by simpa using hl⟩]
  simp
def LeO (O' O : OH) : Prop := ∀ b x, O' b = some x → O b = some x
theorem gcF_run {θ θ1 : Th} {st : St} {O : OH} {n : Nat} {ok : Bool} {X : Prop} (l : θ.length = n) (s : θ <+: θ1) (m : Mt θ1 st O) (h1 : ok = true → ∀ O2, LeO O2 O → Mt θ (gcF n ok st) O2 → X) (h2 : Mt θ1 (gcF n ok st) O → X) : X := by
  by_cases q : ok = true ∧ (st.take n).all (lowO n) = true
  · have e : gcF n ok st = st.take n := if_pos q
    rw [e] at h1
    have hl := m.len
    obtain ⟨t, rfl⟩ := s
    have at_ : ∀ (i : Nat) (x : DO), (st.take n)[i]? = some (some x) → i < n ∧ st[i]? = some (some x) := fun i x e => by
      rw [List.getElem?_take] at e
      split at e
      · rename_i q
        exact ⟨q, e⟩
      · cases e
    have low : ∀ i, i < n → (θ ++ t)[i]? = θ[i]? := fun i hi => List.getElem?_append_left (by rw [l]; exact hi)
    refine h1 q.1 (fun b => if b ∈ θ then O b else none) (fun b x e => ?_) ⟨?_, fun i x e => ?_, fun i j x y a e1 e2 q1 q2 => ?_⟩
    · by_cases z : b ∈ θ
      · simpa [z] using e
      · simp [z] at e
    · rw [List.length_take, ← hl, List.length_append, l]
      omega
    · obtain ⟨hi, e⟩ := at_ i x e
      obtain ⟨a, y, g1, g2, g3⟩ := m.live i x e
      rw [low i hi] at g1
      have hx : locB θ.length x.tree = true := by
        have z := List.all_eq_true.mp q.2 (some x) (List.mem_iff_getElem?.mpr ⟨i, by rw [List.getElem?_take, if_pos hi]; exact e⟩)
        rw [l]
        exact z
      have ha : a ∈ θ := List.mem_iff_getElem?.mpr ⟨i, g1⟩
      exact ⟨a, y, g1, by simp [ha, g2], rno_low g3 hx⟩
    · obtain ⟨hi, e1⟩ := at_ i x e1
      obtain ⟨hj, e2⟩ := at_ j y e2
      exact m.inj i j x y a e1 e2 (by rw [low i hi]; exact q1) (by rw [low j hj]; exact q2)
  · have e : gcF n ok st = st := if_neg q
    rw [e] at h2
    exact h2 m
/-! calls -/
abbrev fF := List D → St → Res D
def gF (f : fF) : WF := fun ds' O P R => ∃ θ ds st, RnL θ ds ds' ∧ Mt θ st O ∧ Aft Rn θ (f ds st) P R
def noLocX (x : Exn) : Bool := match x.fs with
  | none => true
  | some (_, ds) => noLocL ds
theorem rnx_low {θ θ1 : Th} {x y : Exn} (r : RnX θ1 x y) (h : noLocX x = true) : RnX θ x y := by
  obtain ⟨c, r⟩ := r
  refine ⟨c, ?_⟩
  unfold noLocX at h
  revert h r
  cases x.fs with
  | none =>
    cases y.fs with
    | none => exact fun _ r => r
    | some _ => exact fun _ r => r
  | some a =>
    cases y.fs with
    | none => exact fun _ r => r
    | some b => exact fun h r => ⟨r.1, by rw [rnl_eq r.2 h]; exact rnl_self h⟩
def fBody (f : fS) (k : Nat) : fF := fun ds st => match f (ds.map some ++ List.replicate k none) st with
  | .nx _ st1 => .ok .non (gcF st.length true st1)
  | .rt d st1 => .ok d (gcF st.length (noLoc d) st1)
  | .ex x _ st1 => .ex x (gcF st.length (noLocX x) st1)
  | _ => .bad
theorem body_run {f : fS} {k : Nat} {ds' : List D} {O : OH} {P : D → OH → Prop} {R : Exn → OH → Prop} (h : gF (fBody f k) ds' O P R) : bodyF (dS none f) k ds' O (fun d O1 => ∃ O2, LeO O2 O1 ∧ P d O2) (fun x O1 => ∃ O2, LeO O2 O1 ∧ R x O2) := by
  obtain ⟨θ, ds, st, r, m, h⟩ := h
  refine ⟨θ, _, st, ⟨RnE.start r k, m, trivial⟩, ?_⟩
  unfold fBody at h
  cases q : f (ds.map some ++ List.replicate k none) st with
  | nx ρ1 st1 =>
    rw [q] at h
    exact fun θ1 ρ' O1 s c => gcF_run m.len s c.mt (fun _ O2 le m2 => ⟨O2, le, h θ .non O2 (List.prefix_refl _) .non m2⟩) fun m2 => ⟨O1, fun _ _ e => e, h θ1 .non O1 s .non m2⟩
  | rt d st1 =>
    rw [q] at h
    refine fun θ1 d' O1 s r1 m1 => gcF_run m.len s m1 (fun nl O2 le m2 => ⟨O2, le, h θ d' O2 (List.prefix_refl _) ?_ m2⟩) fun m2 => ⟨O1, fun _ _ e => e, h θ1 d' O1 s r1 m2⟩
    rw [rn_eq r1 nl]
    exact rn_self nl
  | ex x ρ1 st1 =>
    rw [q] at h
    exact fun θ1 x' ρ' O1 s rx c => gcF_run m.len s c.mt (fun nl O2 le m2 => ⟨O2, le, h θ x' O2 (List.prefix_refl _) (rnx_low rx nl) m2⟩) fun m2 => ⟨O1, fun _ _ e => e, h θ1 x' O1 s rx m2⟩
  | bk _ _ => rw [q] at h; exact h.elim
  | ct _ _ => rw [q] at h; exact h.elim
  | bad => rw [q] at h; exact h.elim
def fCall (F : fF) (k : Nat) (dd : List D) (n : fA) : fE := fun ρ st => (n ρ st).bind fun ds st1 => if (ds ++ dd).length = k then F (ds ++ dd) st1 else .bad
def fCall0 (F : fF) (k : Nat) (dd : List D) : fE := fun _ st => if dd.length = k then F dd st else .bad
def fMeth (C m : Str) (F : fF) (k : Nat) (dd : List D) (o : fE) (n : fA) : fE := fun ρ st => (o ρ st).bind fun x st1 => match x with
  | .ins C' ns fs => if C' = C ∧ m ∉ ns then (n ρ st1).bind fun ds st2 => if (ds ++ dd).length + 1 = k then F (.ins C' ns fs :: (ds ++ dd)) st2 else .bad else .bad
  | _ => .bad
def fMeth0 (C m : Str) (F : fF) (k : Nat) (dd : List D) (o : fE) : fE := fun ρ st => (o ρ st).bind fun x st1 => match x with
  | .ins C' ns fs => if C' = C ∧ m ∉ ns ∧ dd.length + 1 = k then F (.ins C' ns fs :: dd) st1 else .bad
  | _ => .bad
def mkEnd (i : Nat) (r : Res D) : Res D := match r with
  | .ok .non st2 => match st2[i]? with
    | some (some y) => .ok y.tree (gc i y.tree (st2.set i none))
    | _ => .bad
  | .ok _ _ => .bad
  | .ex x st2 => .ex x st2
  | .bad => .bad
def fMake (C : Str) (F : fF) (k : Nat) (dd : List D) (n : fA) : fE := fun ρ st => (n ρ st).bind fun ds st1 =>
  if (ds ++ dd).length + 1 = k then mkEnd st1.length (F (.loc st1.length :: (ds ++ dd)) (st1 ++ [some (.ins C [] [])])) else .bad
section
variable {k : Nat} {f C : Addr} {fd : FuncData} {ps : List Str} {F : fF} {dvs : List V} {dd : List D} {dflt : List Value} {x m : Str} {p pos apos : Pos} {e o : Expr} {es : List Expr} {fs : fA} {fo : fE}
theorem fe_call (Fg : FnG X.prog X.w X.K X.mg X.base k f fd ps (gF F)) (hr : Rm k X) (hg : Gl X x) (hm : X.mg x = some (.ref f)) (hk : PySem.W.keepIn X.K (.ref f) = true) (hb : Binds X.K fd ps dflt) (hd : Vals dvs dflt) (hdd : ∀ G, RpL X.K X.mg G dvs dd) (tk : Takes X W)
    (ha : FA X Φ W J (e :: es) fs) (hn : noLocL dd = true := by rfl) (hdb : (x == ("__debug__" : Str)) = false := by decide) (he : starEach (e :: es) X.env = (false, eval e X.env) :: starEach es X.env := by rfl) (hpl : (backTo pos (starEach es X.env)).any (·.1) = false := by rfl) :
    FE X Φ W J (.Call (.Name x p) (e :: es) [] pos) (fCall F ps.length dd fs) := by
  obtain ⟨_, ha⟩ := ha
  refine fe_of (de_call Fg hr hg hm hk hb hd hdd tk ha hdb he hpl) fun ρ' O P R ⟨θ, ρ, st, c, h⟩ => ⟨θ, ρ, st, c, h.bind fun θ1 a a' st1 O1 s1 ra m1 h1 => ?_⟩
  by_cases q : (a ++ dd).length = ps.length
  · rw [if_pos q] at h1
    have r := ra.app (rnl_self (θ := θ1) hn)
    exact ⟨by rw [← r.len]; exact q, θ1, _, st1, r, m1, h1⟩
  · rw [if_neg q] at h1
    exact h1.elim
theorem fe_call0 (Fg : FnG X.prog X.w X.K X.mg X.base k f fd ps (gF F)) (hr : Rm k X) (hg : Gl X x) (hm : X.mg x = some (.ref f)) (hk : PySem.W.keepIn X.K (.ref f) = true) (hb : Binds X.K fd ps dflt) (hd : Vals dvs dflt) (hdd : ∀ G, RpL X.K X.mg G dvs dd) (tk : Takes X W)
    (hn : noLocL dd = true := by rfl) (hdb : (x == ("__debug__" : Str)) = false := by decide) :
    FE X Φ W J (.Call (.Name x p) [] [] pos) (fCall0 F ps.length dd) :=
  fe_of (de_call0 Fg hr hg hm hk hb hd hdd tk hdb) fun ρ' O P R ⟨θ, ρ, st, c, h⟩ => by
    unfold fCall0 at h
    by_cases q : dd.length = ps.length
    · rw [if_pos q] at h
      exact ⟨q, θ, _, st, rnl_self hn, c.mt, h⟩
    · rw [if_neg q] at h
      exact h.elim
theorem fe_meth {Cn : Str} {pl : Sem Bool} (ho : FE X Φ W J o fo) (c : Cls X.K C) (hC : X.mg Cn = some (.ref C)) (hm : Meth X.K C m f) (Fg : FnG X.prog X.w X.K X.mg X.base k f fd ps (gF F)) (hr : Rm k X) (hb : Binds X.K fd ps dflt) (hd : Vals dvs dflt) (hdd : ∀ G, RpL X.K X.mg G dvs dd) (tk : Takes X W)
    (ha : FA X Φ W J (e :: es) fs) (hn : noLocL dd = true := by rfl) (h1 : starEach (e :: es) X.env = (false, eval e X.env) :: starEach es X.env := by rfl) (h2 : (backTo pos (starEach es X.env)).any (·.1) = false := by rfl)
    (ht : eval (.Call (.Attribute o m apos) (e :: es) [] pos) X.env = (do
      let ov ← eval o X.env
      standAt apos.atName
      let (f, first) ← holding [ov] (getMethod ov m pl)
      callWith pos f first (backTo pos (starEach (e :: es) X.env)) (backToKw pos (keywordEach [] X.env))) := by rfl) :
    FE X Φ W J (.Call (.Attribute o m apos) (e :: es) [] pos) (fMeth Cn m F ps.length dd fo fs) := by
  obtain ⟨_, ho⟩ := ho
  obtain ⟨_, ha⟩ := ha
  refine fe_of (de_meth ho c hC hm Fg hr hb hd hdd tk ha h1 h2 ht) fun ρ' O P R ⟨θ, ρ, st, c, h⟩ => ⟨θ, ρ, st, c, h.bind fun θ1 a a' st1 O1 s1 ra m1 h1 => ?_⟩
  cases ra with
  | @ins C' ns b b' rb =>
    simp only at h1
    by_cases q : C' = Cn ∧ m ∉ ns
    · rw [if_pos q] at h1
      obtain ⟨q1, q2⟩ := q
      subst q1
      refine ⟨_, _, rfl, q2, θ1, ρ, st1, c.step s1 m1, h1.bind fun θ2 d d' st2 O2 s2 rd m2 h2 => ?_⟩
      by_cases z : (d ++ dd).length + 1 = ps.length
      · rw [if_pos z] at h2
        have r := rd.app (rnl_self (θ := θ2) hn)
        exact ⟨by rw [List.length_cons, ← r.len]; exact z, θ2, _, st2, .cons (.ins (rb.mono s2)) r, m2, h2⟩
      · rw [if_neg z] at h2
        exact h2.elim
    · rw [if_neg q] at h1
      exact h1.elim
  | _ => exact h1.elim
theorem fe_meth0 {Cn : Str} {pl : Sem Bool} (ho : FE X Φ W J o fo) (c : Cls X.K C) (hC : X.mg Cn = some (.ref C)) (hm : Meth X.K C m f) (Fg : FnG X.prog X.w X.K X.mg X.base k f fd ps (gF F)) (hr : Rm k X) (hb : Binds X.K fd ps dflt) (hd : Vals dvs dflt) (hdd : ∀ G, RpL X.K X.mg G dvs dd) (tk : Takes X W)
    (hn : noLocL dd = true := by rfl)
    (ht : eval (.Call (.Attribute o m apos) [] [] pos) X.env = (do
      let ov ← eval o X.env
      standAt apos.atName
      let (f, first) ← holding [ov] (getMethod ov m pl)
      callWith pos f first (backTo pos (starEach [] X.env)) (backToKw pos (keywordEach [] X.env))) := by rfl) :
    FE X Φ W J (.Call (.Attribute o m apos) [] [] pos) (fMeth0 Cn m F ps.length dd fo) := by
  obtain ⟨_, ho⟩ := ho
  refine fe_of (de_meth0 ho c hC hm Fg hr hb hd hdd tk ht) fun ρ' O P R ⟨θ, ρ, st, c, h⟩ => ⟨θ, ρ, st, c, h.bind fun θ1 a a' st1 O1 s1 ra m1 h1 => ?_⟩
  cases ra with
  | @ins C' ns b b' rb =>
    simp only at h1
    by_cases q : C' = Cn ∧ m ∉ ns ∧ dd.length + 1 = ps.length
    · rw [if_pos q] at h1
      obtain ⟨q1, q2, q3⟩ := q
      subst q1
      exact ⟨_, _, rfl, q2, q3, θ1, _, st1, .cons (.ins rb) (rnl_self hn), m1, h1⟩
    · rw [if_neg q] at h1
      exact h1.elim
  | _ => exact h1.elim
theorem fe_make (M : Mk X.K C f) (hC : X.mg x = some (.ref C)) (Fg : FnG X.prog X.w X.K X.mg X.base k f fd ps (gF F)) (hr : Rm (k + 1) X) (hg : Gl X x) (hb : Binds X.K fd ps dflt) (hd : Vals dvs dflt) (hdd : ∀ G, RpL X.K X.mg G dvs dd) (tk : Takes X W)
    (ha : FA X Φ W J (e :: es) fs) (hn : noLocL dd = true := by rfl) (hdb : (x == ("__debug__" : Str)) = false := by decide) (he : starEach (e :: es) X.env = (false, eval e X.env) :: starEach es X.env := by rfl) (hpl : (backTo pos (starEach es X.env)).any (·.1) = false := by rfl) :
    FE X Φ W J (.Call (.Name x p) (e :: es) [] pos) (fMake x F ps.length dd fs) := by
  obtain ⟨_, ha⟩ := ha
  refine fe_of (de_make M hC Fg hr hg hb hd hdd tk ha hdb he hpl) fun ρ' O P R ⟨θ, ρ, st, c, h⟩ => ⟨θ, ρ, st, c, h.bind fun θ1 a a' st1 O1 s1 ra m1 h1 => ?_⟩
  by_cases q : (a ++ dd).length + 1 = ps.length
  · rw [if_pos q] at h1
    have r := ra.app (rnl_self (θ := θ1) hn)
    refine ⟨by rw [← r.len]; exact q, fun p np => ?_⟩
    have m2 := m1.new (x := .ins x [] []) (y := .ins x [] []) np (.ins .nil)
    refine ⟨θ1 ++ [p], _, _, .cons (.loc (mt_last m1)) (r.mono ⟨[p], rfl⟩), m2, ?_⟩
    cases z : F (.loc st1.length :: (a ++ dd)) (st1 ++ [some (.ins x [] [])]) with
    | bad => rw [z] at h1; exact h1.elim
    | ex w st3 => rw [z] at h1; exact fun θ3 x' O3 s3 => h1 θ3 x' O3 (List.IsPrefix.trans ⟨[p], rfl⟩ s3)
    | ok d st3 =>
      rw [z] at h1
      intro θ3 d' O3 s3 rd m3
      unfold mkEnd at h1
      cases rd with
      | non =>
        simp only at h1
        cases w : st3[st1.length]? with
        | none => rw [w] at h1; exact h1.elim
        | some u =>
          cases u with
          | none => rw [w] at h1; exact h1.elim
          | some y =>
            rw [w] at h1
            have at3 : θ3[st1.length]? = some p := sub_at s3 (mt_last m1)
            obtain ⟨y', h4, h5⟩ := m3.at w at3
            exact ⟨rfl, y', h4, gc_run m1.len (List.IsPrefix.trans ⟨[p], rfl⟩ s3) h5.tree (m3.del w at3) fun θ4 s4 r4 m4 => h1 θ4 _ _ s4 r4 m4⟩
      | _ => exact h1.elim
  · rw [if_neg q] at h1
    exact h1.elim
end
/-! fields, properties -/
def fFld (C f : Str) (m : fE) : fE := fun ρ st => (m ρ st).bind fun x st1 => match x with
  | .ins C' ns ds => if C' = C then optR (lookD f ns ds) st1 else .bad
  | _ => .bad
def fFldO (C f : Str) (m : fE) : fE := fun ρ st => (m ρ st).bind fun x st1 => match x with
  | .loc a => match st1[a]? with
    | some (some (.ins C' ns ds)) => if C' = C then optR (lookD f ns ds) st1 else .bad
    | _ => .bad
  | _ => .bad
theorem lookD_rn {θ : Th} {f : Str} {d : D} : ∀ {ns : List Str} {a b : List D}, RnL θ a b → lookD f ns a = some d → ∃ e, lookD f ns b = some e ∧ Rn θ d e
  | [], _, _, _, h => by simp [lookD] at h
  | n :: ns, _, _, .nil, h => by simp [lookD] at h
  | n :: ns, _, _, .cons r rl, h => by
    unfold lookD at h ⊢
    by_cases q : f = n
    · rw [if_pos q] at h ⊢
      cases h
      exact ⟨_, rfl, r⟩
    · rw [if_neg q] at h ⊢
      exact lookD_rn rl h
theorem putD_rn {θ : Th} {f : Str} {y y' : D} (r : Rn θ y y') : ∀ {ns : List Str} {a b : List D}, RnL θ a b → RnL θ (putD f y ns a) (putD f y' ns b)
  | [], _, _, _ => .cons r .nil
  | n :: ns, _, _, .nil => .nil
  | n :: ns, _, _, .cons h t => by
    unfold putD
    by_cases q : n = f
    · rw [if_pos q, if_pos q]
      exact .cons r t
    · rw [if_neg q, if_neg q]
      exact .cons h (putD_rn r t)
section
variable {C : Addr} {Cn f : Str} {e : Expr} {m : fE} {pos : Pos}
theorem fe_fld (c : Cls X.K C) (hC : X.mg Cn = some (.ref C)) (n : NoAttr X.K C f) (h : FE X Φ W J e m) (hb : attributeBase e f X.env (eval e X.env) = eval e X.env := by rfl) : FE X Φ W J (.Attribute e f pos) (fFld Cn f m) := by
  obtain ⟨_, h⟩ := h
  refine fe_of (de_fld c hC n h hb) fun ρ' O P R ⟨θ, ρ, st, c, h⟩ => ⟨θ, ρ, st, c, h.bind fun θ1 a a' st1 O1 s1 ra m1 h1 => ?_⟩
  cases ra with
  | @ins C' ns b b' rb =>
    simp only at h1
    by_cases q : C' = Cn
    · subst q
      rw [if_pos rfl] at h1
      cases z : lookD f ns b with
      | none => rw [z] at h1; exact h1.elim
      | some d =>
        rw [z] at h1
        obtain ⟨e, h2, h3⟩ := lookD_rn rb z
        exact ⟨_, _, e, rfl, h2, Aft.ok h1 h3 m1⟩
    · rw [if_neg q] at h1
      exact h1.elim
  | _ => exact h1.elim
theorem fe_fldO (c : Cls X.K C) (hC : X.mg Cn = some (.ref C)) (n : NoAttr X.K C f) (h : FE X Φ W J e m) (hb : attributeBase e f X.env (eval e X.env) = eval e X.env := by rfl) : FE X Φ W J (.Attribute e f pos) (fFldO Cn f m) := by
  obtain ⟨_, h⟩ := h
  refine fe_of (de_fldO c hC n h hb) fun ρ' O P R ⟨θ, ρ, st, c, h⟩ => ⟨θ, ρ, st, c, h.bind fun θ1 a a' st1 O1 s1 ra m1 h1 => ?_⟩
  cases ra with
  | @loc i p hp =>
    simp only at h1
    cases w : st1[i]? with
    | none => rw [w] at h1; exact h1.elim
    | some u =>
      cases u with
      | none => rw [w] at h1; exact h1.elim
      | some y =>
        rw [w] at h1
        obtain ⟨y', h4, h5⟩ := m1.at w hp
        cases h5 with
        | @ins C' ns b b' rb =>
          simp only at h1
          by_cases q : C' = Cn
          · subst q
            rw [if_pos rfl] at h1
            cases z : lookD f ns b with
            | none => rw [z] at h1; exact h1.elim
            | some d =>
              rw [z] at h1
              obtain ⟨e, h2, h3⟩ := lookD_rn rb z
              exact ⟨p, _, _, e, rfl, h4, h2, Aft.ok h1 h3 m1⟩
          · rw [if_neg q] at h1
            exact h1.elim
        | _ => exact h1.elim
  | _ => exact h1.elim
def fFldS (C f : Str) (mo mv : fE) : fS := fun ρ st => stB (mv ρ st) ρ fun y st1 => stB (mo ρ st1) ρ fun x st2 => match x with
  | .loc a => match st2[a]? with
    | some (some (.ins C' ns ds)) => if C' = C ∧ ns.length < 1000 then .nx ρ (st2.set a (some (.ins C (putN f ns) (putD f y ns ds)))) else .bad
    | _ => .bad
  | _ => .bad
theorem fs_fld {o value : Expr} {pos' : Pos} {mo mv : fE} (c : Cls X.K C) (hC : X.mg Cn = some (.ref C)) (n : NoAttr X.K C f) (ho : FE X Φ W J o mo) (hv : FE X Φ W J value mv) (hs : swapsWith value (some (.Attribute o f pos')) pos.line X.env = pure false := by rfl) :
    FS X Φ W J (.Assign [.Attribute o f pos'] value pos) (fFldS Cn f mo mv) := by
  obtain ⟨_, ho⟩ := ho
  obtain ⟨_, hv⟩ := hv
  refine fs_of (ds_fld c hC n ho hv hs) fun M ρ' O ⟨θ, ρ, st, c, h⟩ => ⟨θ, ρ, st, c, h.stB c fun θ1 a a' st1 O1 s1 ra m1 h1 => ?_⟩
  refine ⟨θ1, ρ, st1, c.step s1 m1, h1.stB (c.step s1 m1) fun θ2 x x' st2 O2 s2 rx m2 h2 => ?_⟩
  cases rx with
  | @loc i p hp =>
    simp only at h2
    cases w : st2[i]? with
    | none => rw [w] at h2; exact h2.elim
    | some u =>
      cases u with
      | none => rw [w] at h2; exact h2.elim
      | some y =>
        rw [w] at h2
        obtain ⟨y', h4, h5⟩ := m2.at w hp
        cases h5 with
        | @ins C' ns b b' rb =>
          simp only at h2
          by_cases q : C' = Cn ∧ ns.length < 1000
          · rw [if_pos q] at h2
            obtain ⟨q1, q2⟩ := q
            subst q1
            refine ⟨p, _, _, rfl, h4, q2, ?_⟩
            exact h2 θ2 ρ' _ (List.prefix_refl _) ((c.step s1 m1).step s2 (m2.put w hp (.ins (putD_rn (ra.mono s2) rb))))
          · rw [if_neg q] at h2
            exact h2.elim
        | _ => exact h2.elim
  | _ => exact h2.elim
def fProp (C : Str) (F : fF) (m : fE) : fE := fun ρ st => (m ρ st).bind fun x st1 => match x with
  | .ins C' ns ds => if C' = C then (F [.ins C' ns ds] st1).calm else .bad
  | _ => .bad
theorem fe_prop {k : Nat} {p q : Addr} {fd : FuncData} {n : Str} {F : fF} (h : FE X Φ W J e m) (c : Cls X.K C) (hC : X.mg Cn = some (.ref C)) (hp : PropOf X.K C f p q) (Fg : FnG X.prog X.w X.K X.mg X.base k q fd [n] (gF F)) (hr : Rm (k + 1) X) (hb : Binds X.K fd [n] [])
    (hab : attributeBase e f X.env (eval e X.env) = eval e X.env := by rfl) : FE X Φ W J (.Attribute e f pos) (fProp Cn F m) := by
  obtain ⟨_, h⟩ := h
  refine fe_of (de_prop h c hC hp Fg hr hb hab) fun ρ' O P R ⟨θ, ρ, st, c, h⟩ => ⟨θ, ρ, st, c, h.bind fun θ1 a a' st1 O1 s1 ra m1 h1 => ?_⟩
  cases ra with
  | @ins C' ns b b' rb =>
    simp only at h1
    by_cases q : C' = Cn
    · subst q
      rw [if_pos rfl] at h1
      exact ⟨_, _, rfl, θ1, _, st1, .cons (.ins rb) .nil, m1, h1.calm⟩
    · rw [if_neg q] at h1
      exact h1.elim
  | _ => exact h1.elim
/-! own __eq__, own __repr__ -/
def fEqI (C : Str) (F : fF) (ok : D → Bool) (ma mb : fE) : fE := fun ρ st => (ma ρ st).bind fun a st1 => (mb ρ st1).bind fun b st2 => match a with
  | .ins C' ns ds => if C' = C ∧ ok b = true then (F [.ins C' ns ds, b] st2).bind fun d st3 => match d with
      | .bl k => .ok (.bl k) st3
      | _ => .bad
    else .bad
  | _ => .bad
theorem feqI_run {C : Str} {F : fF} {ok : D → Bool} (hok : ∀ θ a b, Rn θ a b → ok b = ok a) {fa fb : fE} {ρ' : Rho} {O : OH} {P : D → OH → Prop} {R : Exn → OH → Prop} (h : dE J (fEqI C F ok fa fb) ρ' O P R) : mEqI C (gF F) (fun d => ok d = true) (dE J fa) (dE J fb) ρ' O P R := by
  obtain ⟨θ, ρ, st, c, h⟩ := h
  refine ⟨θ, ρ, st, c, h.bind fun θ1 a a' st1 O1 s1 ra m1 h1 => ?_⟩
  refine ⟨θ1, ρ, st1, c.step s1 m1, h1.bind fun θ2 b b' st2 O2 s2 rb m2 h2 => ?_⟩
  cases ra with
  | @ins C' ns u u' ru =>
    simp only at h2
    by_cases q : C' = C ∧ ok b = true
    · rw [if_pos q] at h2
      obtain ⟨q1, q2⟩ := q
      subst q1
      refine ⟨_, _, rfl, (hok θ2 b b' rb).trans q2, θ2, _, st2, .cons (.ins (ru.mono s2)) (.cons rb .nil), m2, h2.bind fun θ3 d d' st3 O3 s3 rd m3 h3 => ?_⟩
      cases rd with
      | bl k => exact ⟨k, rfl, Aft.ok h3 (.bl k) m3⟩
      | _ => exact h3.elim
    · rw [if_neg q] at h2
      exact h2.elim
  | _ => exact h2.elim
section
variable {k : Nat} {g : Addr} {fd : FuncData} {n1 n2 n : Str} {F : fF} {ok : D → Bool} {a b : Expr} {fa fb : fE}
theorem fe_eqI (hC : X.mg Cn = some (.ref C)) (hs : PySem.W.findIn X.K (.ref C) "__eq__" = some (some (.ref g))) (hf : PySem.W.isFn X.K (.ref g) = true)
    (T : EqT X.K X.mg C fun d => ok d = true) (hok : ∀ θ a b, Rn θ a b → ok b = ok a) (Fg : FnG X.prog X.w X.K X.mg X.base k g fd [n1, n2] (gF F)) (hr : Rm k X) (hb : Binds X.K fd [n1, n2] []) (tk : Takes X W) (ha : FE X Φ W J a fa) (hb' : FE X Φ W J b fb) :
    FE X Φ W J (.Compare a [.Eq] [b] pos) (fEqI Cn F ok fa fb) := by
  obtain ⟨_, ha⟩ := ha
  obtain ⟨_, hb'⟩ := hb'
  exact fe_of (de_eqI hC hs hf T Fg hr hb tk ha hb') fun _ _ _ _ h => feqI_run hok h
theorem ft_eqI (hC : X.mg Cn = some (.ref C)) (hs : PySem.W.findIn X.K (.ref C) "__eq__" = some (some (.ref g))) (hf : PySem.W.isFn X.K (.ref g) = true)
    (T : EqT X.K X.mg C fun d => ok d = true) (hok : ∀ θ a b, Rn θ a b → ok b = ok a) (Fg : FnG X.prog X.w X.K X.mg X.base k g fd [n1, n2] (gF F)) (hr : Rm k X) (hb : Binds X.K fd [n1, n2] []) (tk : Takes X W) (ha : FE X Φ W J a fa) (hb' : FE X Φ W J b fb) :
    FT X Φ W J (.Compare a [.Eq] [b] pos) (fTest (fEqI Cn F ok fa fb)) := by
  obtain ⟨_, ha⟩ := ha
  obtain ⟨_, hb'⟩ := hb'
  exact ft_of (dt_eqI hC hs hf T Fg hr hb tk ha hb') fun _ _ _ _ h => mtest_mono (fun _ _ _ _ => feqI_run hok) (ftest_run h)
def fReprI (C : Str) (F : fF) (m : fE) : fE := fun ρ st => (m ρ st).bind fun x st1 => match x with
  | .ins C' ns ds => if C' = C then (F [.ins C' ns ds] st1).calm.bind fun d st2 => match d with
      | .str y => .ok (.str y) st2
      | _ => .bad
    else .bad
  | _ => .bad
theorem fe_reprI {p : Pos} (c : Cls X.K C) (hC : X.mg Cn = some (.ref C)) (hs : PySem.W.findIn X.K (.ref C) "__repr__" = some (some (.ref g))) (hf : PySem.W.isFn X.K (.ref g) = true)
    (Fg : FnG X.prog X.w X.K X.mg X.base k g fd [n] (gF F)) (hr : Rm (k + 1) X) (hb : Binds X.K fd [n] []) (hg : Gl X "repr") (hm : X.mg "repr" = none) (h : FE X Φ W J e m)
    (he : starEach [e] X.env = (false, eval e X.env) :: starEach [] X.env := by rfl) (hpl : (backTo pos (starEach [] X.env)).any (·.1) = false := by rfl) :
    FE X Φ W J (.Call (.Name "repr" p) [e] [] pos) (fReprI Cn F m) := by
  obtain ⟨_, h⟩ := h
  refine fe_of (de_reprI c hC hs hf Fg hr hb hg hm h he hpl) fun ρ' O P R ⟨θ, ρ, st, c, h⟩ => ⟨θ, ρ, st, c, h.bind fun θ1 a a' st1 O1 s1 ra m1 h1 => ?_⟩
  cases ra with
  | @ins C' ns u u' ru =>
    simp only at h1
    by_cases q : C' = Cn
    · subst q
      rw [if_pos rfl] at h1
      refine ⟨_, _, rfl, θ1, _, st1, .cons (.ins ru) .nil, m1, ?_⟩
      cases z : F [.ins C' ns u] st1 with
      | bad => rw [z] at h1; exact h1.elim
      | ex w st2 => rw [z] at h1; exact h1.elim
      | ok d st2 =>
        rw [z] at h1
        intro θ2 d' O2 s2 rd m2
        cases rd with
        | str y => exact ⟨y, rfl, h1 θ2 _ O2 s2 (.str y) m2⟩
        | _ => exact h1.elim
    · rw [if_neg q] at h1
      exact h1.elim
  | _ => exact h1.elim
end
end
/-! raise, try -/
def fRaise (C fld : Str) (n : fA) : fS := fun ρ st => stB (n ρ st) ρ fun ds st1 => match ds with
  | [d] => .ex ⟨C, some ([fld], [d])⟩ ρ st1
  | _ => .bad
theorem fs_raise {C fI : Addr} {x fld ar : Str} {fd : FuncData} {e : Expr} {fs : fA} {p pos pos2 : Pos} (T : OexG X.K C) (iC : PySem.W.findIn X.K (.ref C) "__init__" = some (some (.ref fI))) (tI : PySem.W.typeIn X.K (.ref fI) = some (.type "function"))
    (F : FnOk X.prog X.w X.K X.mg X.base CX0 1 fI fd [("self" : Str), ar] (spXI C fld)) (hr : Rm 2 X) (hb : Binds X.K fd [("self" : Str), ar] []) (hg : Gl X x) (hm : X.mg x = some (.ref C)) (hc : X.calm = true) (tk : Takes X W) (ha : FA X Φ W J [e] fs)
    (hdb : (x == ("__debug__" : Str)) = false := by decide) (he : starEach [e] X.env = (false, eval e X.env) :: starEach [] X.env := by rfl) (hpl : (backTo pos (starEach [] X.env)).any (·.1) = false := by rfl) :
    FS X Φ W J (.Raise (some (.Call (.Name x p) [e] [] pos)) none pos2) (fRaise x fld fs) := by
  obtain ⟨_, ha⟩ := ha
  refine fs_of (ds_raiseG T iC tI F hr hb hg hm hc tk ha hdb he hpl) fun M ρ' O ⟨θ, ρ, st, c, h⟩ => ⟨θ, ρ, st, c, h.stB c fun θ1 a a' st1 O1 s1 ra m1 h1 => ?_⟩
  cases ra with
  | nil => exact h1.elim
  | cons r1 ra =>
    cases ra with
    | cons _ _ => exact h1.elim
    | nil => exact ⟨_, rfl, h1 θ1 ⟨x, some ([fld], [_])⟩ ρ' O1 (List.prefix_refl _) ⟨rfl, rfl, .cons r1 .nil⟩ (c.step s1 m1)⟩
abbrev ClF := (Str → Option Bool) × Nat × (Exn → fS)
def dropS (i : Nat) (r : RS) : RS := match r with
  | .nx ρ st => .nx (ρ.set i none) st
  | .rt d st => .rt d st
  | .bk ρ st => .bk (ρ.set i none) st
  | .ct ρ st => .ct (ρ.set i none) st
  | .ex _ _ _ => .bad
  | .bad => .bad
def fPick : List ClF → Exn → Rho → St → RS
  | [], x, ρ, st => .ex x ρ st
  | (cl, i, f) :: r, x, ρ, st => match cl x.cls with
    | none => .bad
    | some false => fPick r x ρ st
    | some true => if i < ρ.length then dropS i (f x (ρ.set i none) st) else .bad
def fTry (cs : List ClF) (b : fS) : fS := fun ρ st => match b ρ st with
  | .ex x ρ1 st1 => fPick cs x ρ1 st1
  | r => r
def dCl (q : ClF) : ClD := (fun x => q.1 x.cls, q.2.1, fun a x' M ρ' O => ∃ x, dS (some (q.2.1, a, x', x)) (q.2.2 x) M ρ' O)
theorem pick_run {M : MEnds OH} : ∀ {cs : List ClF} {x x' : Exn} {θ : Th} {ρ ρ' : Rho} {st : St} {O : OH}, RnX θ x x' → Ct none θ ρ ρ' st O → AftS none θ (fPick cs x ρ st) M → pick M x' ρ' O (cs.map dCl)
  | [], x, x', θ, ρ, ρ', st, O, rx, c, h => h θ x' ρ' O (List.prefix_refl _) rx c
  | (cl, i, f) :: r, x, x', θ, ρ, ρ', st, O, rx, c, h => by
    unfold fPick at h
    cases q : cl x.cls with
    | none => rw [q] at h; exact h.elim
    | some b =>
      rw [q] at h
      refine ⟨b, by show cl x'.cls = some b; rw [← rx.1]; exact q, fun e a => ?_, fun e => ?_⟩
      · subst e
        simp only at h
        by_cases hl : i < ρ.length
        · rw [if_pos hl] at h
          have hl' : i < ρ'.length := by rw [← c.env.1]; exact hl
          refine ⟨x, θ, ρ.set i none, st, ⟨c.env.drop i _, c.mt, List.getElem?_set_self hl', rx⟩, ?_⟩
          have dr : ∀ {θ1 : Th} {ρ1 ρ1' : Rho} {st1 : St} {O1 : OH}, Ct (some (i, a, x', x)) θ1 ρ1 ρ1' st1 O1 → Ct none θ1 (ρ1.set i none) (ρ1'.set i none) st1 O1 := fun c1 => ⟨c1.env.drop i none, c1.mt, trivial⟩
          show AftS _ θ (f x (ρ.set i none) st) _
          cases z : f x (ρ.set i none) st with
          | nx ρ1 st1 => rw [z] at h; exact fun θ1 ρ1' O1 s1 c1 => h θ1 _ O1 s1 (dr c1)
          | rt d st1 => rw [z] at h; exact h
          | bk ρ1 st1 => rw [z] at h; exact fun θ1 ρ1' O1 s1 c1 => h θ1 _ O1 s1 (dr c1)
          | ct ρ1 st1 => rw [z] at h; exact fun θ1 ρ1' O1 s1 c1 => h θ1 _ O1 s1 (dr c1)
          | ex _ _ _ => rw [z] at h; exact h.elim
          | bad => rw [z] at h; exact h.elim
        · rw [if_neg hl] at h
          exact h.elim
      · subst e
        exact pick_run rx c h
inductive FCl (X : Cx) (Φ : OH → Hp → Hp → Prop) : List ExceptHandler → List ClF → Prop
  | nil : FCl X Φ [] []
  | cons {x n : Str} {c : Value} {i : Nat} {cl : Str → Option Bool} {f : Exn → fS} {b₀ : Stmt} {suite : List Stmt} {np pos' : Pos} {hds : List ExceptHandler} {cs : List ClF}
      (hi : X.N[i]? = some n) (hln : X.env.kindOf n = some .local) (hc : Names X x c)
      (hcl : ∀ (y : Str) (b : Bool) (cls : Value), X.mg y = some cls → cl y = some b → PySem.W.exmOne X.K cls c = some b)
      (hsu : ∀ (a : Addr) (oe : Obj) (cls : Value) (d : Option Addr) (pn : List (Addr × Obj)) (x' x : Exn), Zc cls d oe → (∃ vs, oe.data = .fields vs) → FSs (X.suite a ((a, oe) :: pn)) (ExF X.K X.mg Φ cls d x') W0 (some (i, a, x', x)) (b₀ :: suite) (f x))
      (r : FCl X Φ hds cs) : FCl X Φ (.ExceptHandler (some (.Name x np)) (some n) (b₀ :: suite) pos' :: hds) ((cl, i, f) :: cs)
theorem FCl.dcl {hds : List ExceptHandler} {cs : List ClF} (h : FCl X Φ hds cs) : ∃ l, DCl X Φ hds l (cs.map dCl) := by
  induction h with
  | nil => exact ⟨[], .nil⟩
  | @cons x n c i cl f b₀ suite np pos' hds cs hi hln hc hcl hsu r ih =>
    obtain ⟨l, ih⟩ := ih
    refine ⟨_, DCl.cons (cl := fun x => cl x.cls) (c := c) hi hln hc (fun x b cls h1 h2 => hcl x.cls b cls h1 h2) (fun a oe cls d pn x' hz hf => ?_) ih⟩
    refine ⟨cS X.K X.mg (ExF X.K X.mg Φ cls d x') W0 (fun M ρ' O => ∃ x, dS (some (i, a, x', x)) (f x) M ρ' O), ⟨fun pins s σ H D I ⟨ρ, O, G, M, r, f0, ⟨x, hm⟩, E⟩ => ?_⟩, fun σ ρ O G H D M r f0 hm E => ⟨ρ, O, G, M, r, f0, hm, E⟩⟩
    obtain ⟨ts, d⟩ := hsu a oe cls d pn x' x hz hf
    exact d.pss.run pins s σ H D I (d.sem σ ρ O G H D M r f0 hm E)
theorem fs_try {body : List Stmt} {h₀ : ExceptHandler} {hds : List ExceptHandler} {cs : List ClF} {pos : Pos} {b : fS} (hs : X.stack = X.env :: X.outer) (hf : X.env.frame = some X.env.locals) (hN : X.N.Nodup) (tk : Takes X W)
    (hb : ∀ (W' : WX) (pn : List (Addr × Obj)) (xe : Value → Shared → Prop), Takes (X.tr pn xe) W' → PassesOwn (model X.prog X.w) X.A X.env xe → FSs (X.tr pn xe) Φ W' none body b)
    (hh : FCl X Φ (h₀ :: hds) cs) : FS X Φ W none (.Try body (h₀ :: hds) [] [] pos) (fTry cs b) := by
  obtain ⟨l, hh⟩ := hh.dcl
  refine fs_of (ds_tryN hs hf hN tk hb hh) fun M ρ' O ⟨θ, ρ, st, c, h⟩ => ⟨θ, ρ, st, c, ?_⟩
  have h2 : AftS none θ (match b ρ st with | .ex x ρ1 st1 => fPick cs x ρ1 st1 | r => r) M := h
  cases q : b ρ st with
  | nx ρ1 st1 => rw [q] at h2; exact h2
  | rt d st1 => rw [q] at h2; exact h2
  | bk ρ1 st1 => rw [q] at h2; exact h2
  | ct ρ1 st1 => rw [q] at h2; exact h2
  | ex x ρ1 st1 =>
    rw [q] at h2
    exact fun θ1 x' ρ1' O1 s1 rx c1 => pick_run rx c1 (AftS.sub h2 s1)
  | bad => rw [q] at h2; exact h2
def fXf (C f : Str) (x : Exn) : fE := fun _ st => if x.cls = C then match x.fs with
    | some (ns, ds) => optR (lookD f ns ds) st
    | none => .bad
  else .bad
theorem fe_xfld {a C : Addr} {i : Nat} {oe : Obj} {cls : Value} {d : Option Addr} {pn : List (Addr × Obj)} {x' x : Exn} {Cn f : Str} {e : Expr} {te : TE} {pos : Pos} (T : XcT X.K C f) (hC : X.mg Cn = some (.ref C)) (hz : Zc cls d oe) (hf : ∃ vs, oe.data = .fields vs)
    (h : DE (X.suite a ((a, oe) :: pn)) (ExF X.K X.mg Φ cls d x') W e te (mVar i)) (hb : attributeBase e f X.env (eval e X.env) = eval e X.env := by rfl) :
    FE (X.suite a ((a, oe) :: pn)) (ExF X.K X.mg Φ cls d x') W (some (i, a, x', x)) (.Attribute e f pos) (fXf Cn f x) :=
  fe_of (de_xfld T hC hz hf h hb) fun ρ' O P R ⟨θ, ρ, st, c, h⟩ => by
    refine ⟨.loc a, c.j.1, rfl, ?_⟩
    obtain ⟨j1, j2⟩ := c.j.2
    unfold fXf at h
    by_cases q : x.cls = Cn
    · rw [if_pos q] at h
      refine ⟨by rw [← j1]; exact q, ?_⟩
      revert h j2
      cases x.fs with
      | none => intro h j2; exact h.elim
      | some u =>
        cases x'.fs with
        | none => intro h j2; exact j2.elim
        | some v =>
          obtain ⟨ns, ds⟩ := u
          obtain ⟨ms, es⟩ := v
          intro h ⟨e1, r⟩
          subst e1
          simp only at h
          cases z : lookD f ns ds with
          | none => rw [z] at h; exact h.elim
          | some y =>
            rw [z] at h
            obtain ⟨y', h3, h4⟩ := lookD_rn r z
            exact ⟨ns, es, y', rfl, h3, Aft.ok h h4 c.mt⟩
    · rw [if_neg q] at h
      exact h.elim
end
end FL

set_option Elab.async false
set_option linter.all false
set_option maxRecDepth 100000
set_option maxHeartbeats 1000000
namespace FL
open PySem PySem.Spec PyProof.Rows L2 DL

/-! ### operators -/
def oAdd : D → D → Option D
  | .int i, .int j => some (.int (i + j))
  | .str x, .str y => if x.length + y.length ≤ sizeLine then some (.str (x ++ y)) else none
  | .lst x, .lst y => if x.length + y.length ≤ sizeLine then some (.lst (x ++ y)) else none
  | .tup x, .tup y => if x.length + y.length ≤ sizeLine then some (.tup (x ++ y)) else none
  | _, _ => none
theorem some_if {c : Prop} [Decidable c] {x d : D} (h : (if c then some x else none) = some d) : c ∧ x = d := by
  by_cases q : c
  · rw [if_pos q] at h
    exact ⟨q, Option.some.inj h⟩
  · rw [if_neg q] at h
    cases h
theorem ow_add : OW oAdd wAdd := ⟨fun θ a b a' b' d P ra rb h k => by
  cases ra <;> cases rb <;> try (cases h; done)
  · cases h
    exact k _ (.int _)
  · obtain ⟨q, e⟩ := some_if h
    subst e
    exact ⟨q, k _ (.str _)⟩
  · rename_i x x' rx y y' ry
    obtain ⟨q, e⟩ := some_if h
    subst e
    exact ⟨by rw [← rx.len, ← ry.len]; exact q, k _ (.lst (rx.app ry))⟩
  · rename_i x x' rx y y' ry
    obtain ⟨q, e⟩ := some_if h
    subst e
    exact ⟨by rw [← rx.len, ← ry.len]; exact q, k _ (.tup (rx.app ry))⟩⟩
def oI (c : Int → Int → Bool) (g : Int → Int → D) : D → D → Option D
  | .int i, .int j => if c i j = true then some (g i j) else none
  | _, _ => none
theorem ow_i {c : Int → Int → Bool} {C : Int → Int → Prop} {g : Int → Int → D} (hc : ∀ i j, c i j = true → C i j) (hg : ∀ i j, noLoc (g i j) = true) : OW (oI c g) (wI C g) := ⟨fun θ a b a' b' d P ra rb h k => by
  cases ra <;> cases rb <;> try (cases h; done)
  obtain ⟨q, e⟩ := some_if h
  subst e
  exact ⟨hc _ _ q, k _ (rn_self (hg _ _))⟩⟩
def oI0 (g : Int → Int → D) : D → D → Option D
  | .int i, .int j => some (g i j)
  | _, _ => none
theorem ow_i0 {g : Int → Int → D} (hg : ∀ i j, noLoc (g i j) = true) : OW (oI0 g) (wI0 g) := ⟨fun θ a b a' b' d P ra rb h k => by
  cases ra <;> cases rb <;> try (cases h; done)
  cases h
  exact k _ (rn_self (hg _ _))⟩
def oSub := oI0 fun i j => .int (i - j)
theorem ow_sub : OW oSub wSub := ow_i0 fun _ _ => rfl
def oMod := oI (fun _ j => decide (0 < j)) fun i j => .int (i % j)
theorem ow_mod : OW oMod wMod := ow_i (fun _ _ h => of_decide_eq_true h) fun _ _ => rfl
def oDiv := oI (fun _ j => decide (0 < j) && decide (j.natAbs.log2 < 9000)) fun i j => .int (i / j)
theorem ow_div : OW oDiv wDiv := ow_i (fun _ _ h => by
  simp only [Bool.and_eq_true, decide_eq_true_eq] at h
  exact h) fun _ _ => rfl
def oPow := oI (fun i j => decide (0 ≤ j) && decide (j ≤ 1000000) && decide (i.natAbs < 2 ^ 64)) fun i j => .int (i ^ j.toNat)
theorem ow_pow : OW oPow wPow := ow_i (fun _ _ h => by
  simp only [Bool.and_eq_true, decide_eq_true_eq] at h
  exact ⟨h.1.1, h.1.2, h.2⟩) fun _ _ => rfl
def oLt := oI0 fun i j => .bl (decide (i < j))
def oLe := oI0 fun i j => .bl (decide (i ≤ j))
def oGt := oI0 fun i j => .bl (decide (j < i))
def oGe := oI0 fun i j => .bl (decide (j ≤ i))
theorem ow_lt : OW oLt wLt := ow_i0 fun _ _ => rfl
theorem ow_le : OW oLe wLe := ow_i0 fun _ _ => rfl
theorem ow_gt : OW oGt wGt := ow_i0 fun _ _ => rfl
theorem ow_ge : OW oGe wGe := ow_i0 fun _ _ => rfl
def mulOk (i j : Int) : Bool := (decide (-(2 ^ 64) < i) && decide (i < 2 ^ 64)) || (decide (-(2 ^ 64) < j) && decide (j < 2 ^ 64)) || decide (i.natAbs.log2 + j.natAbs.log2 < 1000000)
def oMul : D → D → Option D
  | .int i, .int j => if mulOk i j = true then some (.int (i * j)) else none
  | .lst x, .int k => if -(2 ^ 63) ≤ k ∧ k < 2 ^ 63 ∧ x.length * k.toNat ≤ sizeLine then some (.lst (List.replicate k.toNat x).flatten) else none
  | .tup x, .int k => if x.length ≠ 0 ∧ 2 ≤ k ∧ k ≤ 1000 ∧ x.length ≤ 1000 then some (.tup (List.replicate k.toNat x).flatten) else none
  | _, _ => none
theorem ow_mul : OW oMul wMul := ⟨fun θ a b a' b' d P ra rb h k => by
  cases ra <;> cases rb <;> try (cases h; done)
  · rename_i i j
    obtain ⟨q, e⟩ := some_if h
    subst e
    refine ⟨?_, k _ (.int _)⟩
    simp only [mulOk, Bool.or_eq_true, Bool.and_eq_true, decide_eq_true_eq] at q
    rcases q with (q | q) | q
    · exact .inl (.inl q)
    · exact .inl (.inr q)
    · exact .inr q
  · rename_i x x' rx j
    obtain ⟨q, e⟩ := some_if h
    subst e
    exact ⟨⟨q.1, q.2.1, by rw [← rx.len]; exact q.2.2⟩, k _ (.lst (rx.flat _))⟩
  · rename_i x x' rx j
    obtain ⟨q, e⟩ := some_if h
    subst e
    refine ⟨⟨fun e => q.1 ?_, q.2.1, q.2.2.1, by rw [← rx.len]; exact q.2.2.2⟩, k _ (.tup (rx.flat _))⟩
    rw [rx.len, e]
    rfl⟩
/-! == -/
mutual
theorem toPy_noLoc : ∀ {d : D} {p : PyData}, toPy d = some p → noLoc d = true
  | .non, _, _ => rfl
  | .bl _, _, _ => rfl
  | .int _, _, _ => rfl
  | .str _, _, _ => rfl
  | .lst ds, p, h => by
    simp only [toPy, Option.map_eq_some_iff] at h
    obtain ⟨ps, h, _⟩ := h
    simpa [noLoc] using toPyL_noLoc h
  | .tup ds, p, h => by
    simp only [toPy, Option.map_eq_some_iff] at h
    obtain ⟨ps, h, _⟩ := h
    simpa [noLoc] using toPyL_noLoc h
  | .dic _ _, _, h => by simp [toPy] at h
  | .ins _ _ _, _, h => by simp [toPy] at h
  | .frz _, _, h => by simp [toPy] at h
  | .loc _, _, h => by simp [toPy] at h
  | .cls _, _, h => by simp [toPy] at h
  | .ty _, _, h => by simp [toPy] at h
theorem toPyL_noLoc : ∀ {ds : List D} {ps : List PyData}, toPyL ds = some ps → noLocL ds = true
  | [], _, _ => rfl
  | d :: ds, ps, h => by
    simp only [toPyL] at h
    cases e1 : toPy d with
    | none => simp [e1] at h
    | some p =>
      cases e2 : toPyL ds with
      | none => simp [e1, e2] at h
      | some qs => simp [noLocL, toPy_noLoc e1, toPyL_noLoc e2]
end
mutual
theorem toPd_noLoc : ∀ {d : D} {p : PyData}, toPd d = some p → noLoc d = true
  | .non, _, _ => rfl
  | .bl _, _, _ => rfl
  | .int _, _, _ => rfl
  | .str _, _, _ => rfl
  | .lst ds, p, h => by
    simp only [toPd, Option.map_eq_some_iff] at h
    obtain ⟨ps, h, _⟩ := h
    simpa [noLoc] using toPdL_noLoc h
  | .tup ds, p, h => by
    simp only [toPd, Option.map_eq_some_iff] at h
    obtain ⟨ps, h, _⟩ := h
    simpa [noLoc] using toPdL_noLoc h
  | .dic [] [], _, _ => rfl
  | .dic (_ :: _) _, _, h => by simp [toPd] at h
  | .dic [] (_ :: _), _, h => by simp [toPd] at h
  | .ins _ _ _, _, h => by simp [toPd] at h
  | .frz _, _, h => by simp [toPd] at h
  | .loc _, _, h => by simp [toPd] at h
  | .cls _, _, h => by simp [toPd] at h
  | .ty _, _, h => by simp [toPd] at h
theorem toPdL_noLoc : ∀ {ds : List D} {ps : List PyData}, toPdL ds = some ps → noLocL ds = true
  | [], _, _ => rfl
  | d :: ds, ps, h => by
    simp only [toPdL] at h
    cases e1 : toPd d with
    | none => simp [e1] at h
    | some p =>
      cases e2 : toPdL ds with
      | none => simp [e1, e2] at h
      | some qs => simp [noLocL, toPd_noLoc e1, toPdL_noLoc e2]
end
/-- == of lists of unlike lengths, or empty ones, whatever they hold -/
def eqLen (neg : Bool) : D → D → Option D
  | .lst x, .lst y => if x.length ≠ y.length ∨ x.length = 0 then some (.bl (neg != decide (x.length = y.length))) else none
  | _, _ => none
def oEqB (neg : Bool) (a b : D) : Option D := match toPy a, toPy b with
  | some p, some q => if SeqAt.shaped p = true ∧ SeqAt.shaped q = true then some (.bl (neg != PyData.eqv p q)) else none
  | _, _ => eqLen neg a b
def oEq := oEqB false
def oNe := oEqB true
theorem eqLen_run {neg : Bool} {θ : Th} {a b a' b' d : D} (ra : Rn θ a a') (rb : Rn θ b b') (h : eqLen neg a b = some d) : ∃ x y, a' = .lst x ∧ b' = .lst y ∧ (x.length ≠ y.length ∨ x = []) ∧ d = .bl (neg != decide (x.length = y.length)) := by
  cases ra <;> cases rb <;> try (cases h; done)
  rename_i x x' rx y y' ry
  obtain ⟨q, e⟩ := some_if h
  subst e
  rw [rx.len, ry.len] at q
  refine ⟨x', y', rfl, rfl, ?_, by rw [rx.len, ry.len]⟩
  rcases q with q | q
  · exact .inl q
  · exact .inr (List.length_eq_zero_iff.mp q)
theorem oeqb_run {neg : Bool} {θ : Th} {a b a' b' d : D} (ra : Rn θ a a') (rb : Rn θ b b') (h : oEqB neg a b = some d) :
    (∃ p q, toPy a' = some p ∧ toPy b' = some q ∧ SeqAt.shaped p = true ∧ SeqAt.shaped q = true ∧ d = .bl (neg != PyData.eqv p q)) ∨ ∃ x y, a' = .lst x ∧ b' = .lst y ∧ (x.length ≠ y.length ∨ x = []) ∧ d = .bl (neg != decide (x.length = y.length)) := by
  unfold oEqB at h
  cases e1 : toPy a with
  | none => rw [e1] at h; exact .inr (eqLen_run ra rb h)
  | some p =>
    cases e2 : toPy b with
    | none => rw [e1, e2] at h; exact .inr (eqLen_run ra rb h)
    | some q =>
      rw [e1, e2] at h
      obtain ⟨q1, q2⟩ := some_if h
      rw [rn_eq ra (toPy_noLoc e1), rn_eq rb (toPy_noLoc e2)]
      exact .inl ⟨p, q, e1, e2, q1.1, q1.2, q2.symm⟩
theorem ow_eq : OW oEq wEq' := ⟨fun θ a b a' b' d P ra rb h k => by
  rcases oeqb_run ra rb h with ⟨p, q, h1, h2, h3, h4, e⟩ | ⟨x, y, h1, h2, h3, e⟩
  · subst e
    refine .inl ⟨p, q, h1, h2, h3, h4, ?_⟩
    have := k _ (.bl _)
    rwa [Bool.false_bne] at this
  · subst e
    refine .inr ⟨x, y, h1, h2, h3, ?_⟩
    have := k _ (.bl _)
    rwa [Bool.false_bne] at this⟩
theorem ow_ne : OW oNe wNe' := ⟨fun θ a b a' b' d P ra rb h k => by
  rcases oeqb_run ra rb h with ⟨p, q, h1, h2, h3, h4, e⟩ | ⟨x, y, h1, h2, h3, e⟩
  · subst e
    refine .inl ⟨p, q, h1, h2, h3, h4, ?_⟩
    have := k _ (.bl _)
    rwa [Bool.true_bne] at this
  · subst e
    refine .inr ⟨x, y, h1, h2, h3, ?_⟩
    have := k _ (.bl _)
    rwa [Bool.true_bne] at this⟩
theorem isNon_rn {θ : Th} {a b : D} (r : Rn θ a b) : isNon b = isNon a := by cases r <;> rfl
def oIsN : D → D → Option D
  | a, .non => some (.bl (isNon a))
  | _, _ => none
def oNotN : D → D → Option D
  | a, .non => some (.bl (!isNon a))
  | _, _ => none
theorem ow_isN : OW oIsN wIsN := ⟨fun θ a b a' b' d P ra rb h k => by
  cases rb <;> try (cases h; done)
  cases h
  exact ⟨rfl, by rw [isNon_rn ra]; exact k _ (.bl _)⟩⟩
theorem ow_notN : OW oNotN wNotN := ⟨fun θ a b a' b' d P ra rb h k => by
  cases rb <;> try (cases h; done)
  cases h
  exact ⟨rfl, by rw [isNon_rn ra]; exact k _ (.bl _)⟩⟩
theorem toV_rn {θ : Th} {a b : D} {v : V} (r : Rn θ a b) (h : toV a = some v) : toV b = some v := by
  cases r <;> first | exact h | cases h
theorem toVL_rn {θ : Th} : ∀ {a b : List D} {v : List V}, RnL θ a b → toVL a = some v → toVL b = some v
  | _, _, _, .nil, h => h
  | _, _, _, .cons (d := d) (ds := ds) r rl, h => by
    simp only [toVL] at h ⊢
    cases e1 : toV d with
    | none => rw [e1] at h; cases h
    | some v =>
      cases e2 : toVL ds with
      | none => rw [e1, e2] at h; cases h
      | some vs =>
        rw [e1, e2] at h
        rw [toV_rn r e1, toVL_rn rl e2]
        exact h
def seqOf : D → Option (List D)
  | .lst x => some x
  | .tup x => some x
  | .frz x => some x
  | _ => none
def oInN (neg : Bool) (a b : D) : Option D := match toV a, seqOf b with
  | some v, some xs => match toVL xs with
    | some vs => some (.bl (if neg then !inV v vs else inV v vs))
    | none => none
  | _, _ => none
def oIn := oInN false
def oNotIn := oInN true
theorem ow_inN {neg : Bool} : OW (oInN neg) (wInN neg) := ⟨fun θ a b a' b' d P ra rb h k => by
  unfold oInN at h
  cases e1 : toV a with
  | none => rw [e1] at h; cases h
  | some v =>
    cases e2 : seqOf b with
    | none => rw [e1, e2] at h; cases h
    | some xs =>
      rw [e1, e2] at h
      simp only at h
      cases e3 : toVL xs with
      | none => rw [e3] at h; cases h
      | some vs =>
        rw [e3] at h
        cases h
        have kk := k _ (.bl _)
        cases rb <;> try (cases e2; done)
        · rename_i r
          cases e2
          exact ⟨v, vs, _, toV_rn ra e1, .inl rfl, toVL_rn r e3, kk⟩
        · rename_i r
          cases e2
          exact ⟨v, vs, _, toV_rn ra e1, .inr (.inl rfl), toVL_rn r e3, kk⟩
        · rename_i r
          cases e2
          exact ⟨v, vs, _, toV_rn ra e1, .inr (.inr rfl), toVL_rn r e3, kk⟩⟩
theorem ow_in : OW oIn wIn := ow_inN
theorem ow_notIn : OW oNotIn wNotIn := ow_inN
/-! places -/
def oIx : D → D → Option D
  | .lst x, .int i => atI x i
  | .tup x, .int i => atI x i
  | .frz x, .int i => atI x i
  | _, _ => none
theorem at_rn {θ : Th} {a b : List D} {i : Int} {d : D} (r : RnL θ a b) (h : atI a i = some d) : ∃ e, atI b i = some e ∧ Rn θ d e := by
  unfold atI at h ⊢
  rw [← r.len]
  cases e : ixN a.length i with
  | none => rw [e] at h; cases h
  | some j =>
    rw [e] at h
    obtain ⟨v, p, q⟩ := r.at (i := j) h
    exact ⟨v, p, q⟩
theorem ow_ix : OW oIx wIx := ⟨fun θ a b a' b' d P ra rb h k => by
  cases ra <;> cases rb <;> try (cases h; done)
  all_goals
    rename_i r i
    obtain ⟨e, h1, h2⟩ := at_rn r h
    exact ⟨i, rfl, e, h1, k e h2⟩⟩
/-! ### built-ins -/
def lLen : List D → Option D
  | [.lst x] => some (.int x.length)
  | [.tup x] => some (.int x.length)
  | [.frz x] => some (.int x.length)
  | [.str x] => if x.length ≤ sizeLine then some (.int x.length) else none
  | _ => none
theorem rnl1 {θ : Th} {a : D} {b : List D} (r : RnL θ [a] b) : ∃ a', b = [a'] ∧ Rn θ a a' := by
  cases r with
  | cons h t =>
    cases t
    exact ⟨_, rfl, h⟩
theorem rnl2 {θ : Th} {a c : D} {b : List D} (r : RnL θ [a, c] b) : ∃ a' c', b = [a', c'] ∧ Rn θ a a' ∧ Rn θ c c' := by
  cases r with
  | cons h t =>
    obtain ⟨c', rfl, h2⟩ := rnl1 t
    exact ⟨_, _, rfl, h, h2⟩
theorem lw_len : LW lLen wLen := ⟨fun θ ds ds' d P r h k => by
  unfold lLen at h
  split at h
  · obtain ⟨a', rfl, q⟩ := rnl1 r
    cases q with | lst q => cases h; exact ⟨_, rfl, by simp only [← q.len]; exact k _ (.int _)⟩
  · obtain ⟨a', rfl, q⟩ := rnl1 r
    cases q with | tup q => cases h; exact ⟨_, rfl, by simp only [← q.len]; exact k _ (.int _)⟩
  · obtain ⟨a', rfl, q⟩ := rnl1 r
    cases q with | frz q => cases h; exact ⟨_, rfl, by simp only [← q.len]; exact k _ (.int _)⟩
  · obtain ⟨a', rfl, q⟩ := rnl1 r
    cases q
    obtain ⟨z, e⟩ := some_if h
    subst e
    exact ⟨_, rfl, z, k _ (.int _)⟩
  · cases h⟩
def lTuple : List D → Option D
  | [.lst x] => some (.tup x)
  | [.tup x] => some (.tup x)
  | _ => none
theorem lw_tuple : LW lTuple wTuple := ⟨fun θ ds ds' d P r h k => by
  unfold lTuple at h
  split at h
  · obtain ⟨a', rfl, q⟩ := rnl1 r
    cases q with | lst q => cases h; exact .inl ⟨_, rfl, k _ (.tup q)⟩
  · obtain ⟨a', rfl, q⟩ := rnl1 r
    cases q with | tup q => cases h; exact .inr ⟨_, rfl, k _ (.tup q)⟩
  · cases h⟩
def lList : List D → Option D
  | [.lst x] => some (.lst x)
  | [.tup x] => some (.lst x)
  | _ => none
theorem lw_list : LW lList wList := ⟨fun θ ds ds' d P r h k => by
  unfold lList at h
  split at h
  · obtain ⟨a', rfl, q⟩ := rnl1 r
    cases q with | lst q => cases h; exact .inl ⟨_, rfl, k _ (.lst q)⟩
  · obtain ⟨a', rfl, q⟩ := rnl1 r
    cases q with | tup q => cases h; exact .inr ⟨_, rfl, k _ (.lst q)⟩
  · cases h⟩
def lAbs : List D → Option D
  | [.int i] => some (.int (if i < 0 then -i else i))
  | _ => none
theorem lw_abs : LW lAbs wAbs := ⟨fun θ ds ds' d P r h k => by
  unfold lAbs at h
  split at h
  · obtain ⟨a', rfl, q⟩ := rnl1 r
    cases q
    cases h
    exact ⟨_, rfl, k _ (.int _)⟩
  · cases h⟩
def lInt : List D → Option D
  | [.int i] => some (.int i)
  | [.bl b] => some (.int (if b then 1 else 0))
  | _ => none
theorem lw_int : LW lInt wInt := ⟨fun θ ds ds' d P r h k => by
  unfold lInt at h
  split at h
  · obtain ⟨a', rfl, q⟩ := rnl1 r
    cases q
    cases h
    exact .inl ⟨_, rfl, k _ (.int _)⟩
  · obtain ⟨a', rfl, q⟩ := rnl1 r
    cases q
    cases h
    exact .inr ⟨_, rfl, k _ (.int _)⟩
  · cases h⟩
def lMax : List D → Option D
  | [.int i, .int j] => some (.int (if j > i then j else i))
  | _ => none
def lMin : List D → Option D
  | [.int i, .int j] => some (.int (if j < i then j else i))
  | _ => none
theorem lw_max : LW lMax wMax := ⟨fun θ ds ds' d P r h k => by
  unfold lMax at h
  split at h
  · obtain ⟨a', c', rfl, q1, q2⟩ := rnl2 r
    cases q1
    cases q2
    cases h
    exact ⟨_, _, rfl, k _ (.int _)⟩
  · cases h⟩
theorem lw_min : LW lMin wMin := ⟨fun θ ds ds' d P r h k => by
  unfold lMin at h
  split at h
  · obtain ⟨a', c', rfl, q1, q2⟩ := rnl2 r
    cases q1
    cases q2
    cases h
    exact ⟨_, _, rfl, k _ (.int _)⟩
  · cases h⟩
def blsOf : List D → Option (List Bool)
  | [] => some []
  | .bl b :: ds => (blsOf ds).map (b :: ·)
  | _ => none
theorem bls_eq : ∀ {ds : List D} {bs : List Bool}, blsOf ds = some bs → ds = bs.map D.bl
  | [], _, h => by cases h; rfl
  | d :: ds, bs, h => by
    cases d <;> simp only [blsOf] at h <;> try (cases h; done)
    simp only [Option.map_eq_some_iff] at h
    obtain ⟨cs, h1, h2⟩ := h
    subst h2
    rw [bls_eq h1]
    rfl
def intsOf : List D → Option (List Int)
  | [] => some []
  | .int b :: ds => (intsOf ds).map (b :: ·)
  | _ => none
theorem ints_eq : ∀ {ds : List D} {bs : List Int}, intsOf ds = some bs → ds = bs.map D.int
  | [], _, h => by cases h; rfl
  | d :: ds, bs, h => by
    cases d <;> simp only [intsOf] at h <;> try (cases h; done)
    simp only [Option.map_eq_some_iff] at h
    obtain ⟨cs, h1, h2⟩ := h
    subst h2
    rw [ints_eq h1]
    rfl
theorem noLoc_bls (bs : List Bool) : noLocL (bs.map D.bl) = true := by induction bs with | nil => rfl | cons b bs ih => simpa [noLocL, noLoc] using ih
theorem noLoc_ints (bs : List Int) : noLocL (bs.map D.int) = true := by induction bs with | nil => rfl | cons b bs ih => simpa [noLocL, noLoc] using ih
def lAll : List D → Option D
  | [.lst x] => (blsOf x).map fun bs => .bl (bs.all id)
  | _ => none
def lAny : List D → Option D
  | [.lst x] => (blsOf x).map fun bs => .bl (bs.any id)
  | _ => none
def lSum : List D → Option D
  | [.lst x] => (intsOf x).map fun bs => .int bs.sum
  | [.frz x] => (intsOf x).map fun bs => .int bs.sum
  | _ => none
theorem lw_all : LW lAll wAll := ⟨fun θ ds ds' d P r h k => by
  unfold lAll at h
  split at h
  · obtain ⟨a', rfl, q⟩ := rnl1 r
    cases q with
    | lst q =>
      simp only [Option.map_eq_some_iff] at h
      obtain ⟨bs, h1, h2⟩ := h
      subst h2
      have e := bls_eq h1
      subst e
      rw [rnl_eq q (noLoc_bls bs)]
      exact ⟨bs, rfl, k _ (.bl _)⟩
  · cases h⟩
theorem lw_any : LW lAny wAny := ⟨fun θ ds ds' d P r h k => by
  unfold lAny at h
  split at h
  · obtain ⟨a', rfl, q⟩ := rnl1 r
    cases q with
    | lst q =>
      simp only [Option.map_eq_some_iff] at h
      obtain ⟨bs, h1, h2⟩ := h
      subst h2
      have e := bls_eq h1
      subst e
      rw [rnl_eq q (noLoc_bls bs)]
      exact ⟨bs, rfl, k _ (.bl _)⟩
  · cases h⟩
theorem lw_sum : LW lSum wSum := ⟨fun θ ds ds' d P r h k => by
  unfold lSum at h
  split at h
  · obtain ⟨a', rfl, q⟩ := rnl1 r
    cases q with
    | lst q =>
      simp only [Option.map_eq_some_iff] at h
      obtain ⟨bs, h1, h2⟩ := h
      subst h2
      have e := ints_eq h1
      subst e
      rw [rnl_eq q (noLoc_ints bs)]
      exact ⟨bs, .inl rfl, k _ (.int _)⟩
  · obtain ⟨a', rfl, q⟩ := rnl1 r
    cases q with
    | frz q =>
      simp only [Option.map_eq_some_iff] at h
      obtain ⟨bs, h1, h2⟩ := h
      subst h2
      have e := ints_eq h1
      subst e
      rw [rnl_eq q (noLoc_ints bs)]
      exact ⟨bs, .inr rfl, k _ (.int _)⟩
  · cases h⟩
/-- a datum's repr, where it has one -/
def shown? (d : D) : Option Str := match toPd d with
  | some p => if p.showable = true ∧ p.depth ≤ 60 ∧ p.shown.length ≤ sizeLine then some p.shown else none
  | none => none
theorem shown_run {d : D} {y : Str} (h : shown? d = some y) : ∃ p, toPd d = some p ∧ p.showable = true ∧ p.depth ≤ 60 ∧ p.shown.length ≤ sizeLine ∧ y = p.shown := by
  unfold shown? at h
  cases e : toPd d with
  | none => rw [e] at h; cases h
  | some p =>
    rw [e] at h
    simp only at h
    split at h
    · rename_i q
      cases h
      exact ⟨p, rfl, q.1, q.2.1, q.2.2, rfl⟩
    · cases h
def lRepr : List D → Option D
  | [d] => (shown? d).map .str
  | _ => none
theorem lw_repr : LW lRepr wRepr := ⟨fun θ ds ds' d P r h k => by
  unfold lRepr at h
  split at h
  · obtain ⟨a', rfl, q⟩ := rnl1 r
    simp only [Option.map_eq_some_iff] at h
    obtain ⟨y, h1, h2⟩ := h
    subst h2
    obtain ⟨p, e, h3, h4, h5, h6⟩ := shown_run h1
    rw [rn_eq q (toPd_noLoc e)]
    subst h6
    exact ⟨_, p, rfl, e, h3, h4, h5, k _ (.str _)⟩
  · cases h⟩
inductive BT where
  | int | bool | list | tuple | str | dict
def BT.nm : BT → String
  | .int => "int"
  | .bool => "bool"
  | .list => "list"
  | .tuple => "tuple"
  | .str => "str"
  | .dict => "dict"
def isT : D → BT → Option Bool
  | .non, _ => some false
  | .bl _, .int => some true
  | .bl _, .bool => some true
  | .bl _, _ => some false
  | .int _, .int => some true
  | .int _, _ => some false
  | .str _, .str => some true
  | .str _, _ => some false
  | .lst _, .list => some true
  | .lst _, _ => some false
  | .frz _, .list => some true
  | .frz _, _ => some false
  | .tup _, .tuple => some true
  | .tup _, _ => some false
  | .dic _ _, .dict => some true
  | .dic _ _, _ => some false
  | _, _ => none
theorem isT_kit {d : D} {t : BT} {b : Bool} (h : isT d t = some b) : ∃ n, tyD d = some n ∧ kitB n t.nm = some b := by
  cases d <;> cases t <;> simp only [isT] at h <;> first | (cases h; exact ⟨_, rfl, by decide +kernel⟩) | cases h
def isTs (d : D) : List BT → Option Bool
  | [] => some false
  | t :: ts => match isT d t with
    | some true => some true
    | some false => isTs d ts
    | none => none
theorem isTs_kit {d : D} {n : String} (hn : tyD d = some n) : ∀ {ts : List BT} {b : Bool}, isTs d ts = some b → kitL n (ts.map BT.nm) = some b
  | [], b, h => by cases h; rfl
  | t :: ts, b, h => by
    unfold isTs at h
    cases e : isT d t with
    | none => rw [e] at h; cases h
    | some c =>
      rw [e] at h
      obtain ⟨m, h1, h2⟩ := isT_kit e
      rw [hn] at h1
      cases h1
      show kitL n (t.nm :: ts.map BT.nm) = some b
      unfold kitL
      rw [h2]
      cases c with
      | true => exact h
      | false => exact isTs_kit hn h
theorem tyD_rn {θ : Th} {a b : D} (r : Rn θ a b) : tyD b = tyD a := by cases r <;> rfl
theorem isT_ty {d : D} {t : BT} {b : Bool} (h : isT d t = some b) : ∃ n, tyD d = some n := by
  obtain ⟨n, h, _⟩ := isT_kit h
  exact ⟨n, h⟩
def fIsi (ts : List BT) (m : fE) : fE := fun ρ st => (m ρ st).bind fun d st1 => if (tyD d).isSome = true then optR ((isTs d ts).map .bl) st1 else .bad
theorem fisi_run {ts : List BT} {l : List String} (hl : l = ts.map BT.nm) {J : Jv} {f : fE} {ρ' : Rho} {O : OH} {P : D → OH → Prop} {R : Exn → OH → Prop} (h : dE J (fIsi ts f) ρ' O P R) : mIsi l (dE J f) ρ' O P R := by
  subst hl
  obtain ⟨θ, ρ, st, c, h⟩ := h
  refine ⟨θ, ρ, st, c, h.bind fun θ1 a a' st1 O1 s1 ra m1 h1 => ?_⟩
  by_cases q : (tyD a).isSome = true
  · rw [if_pos q] at h1
    cases e : tyD a with
    | none => rw [e] at q; cases q
    | some n =>
      cases e2 : isTs a ts with
      | none => rw [e2] at h1; exact h1.elim
      | some b =>
        rw [e2] at h1
        exact ⟨n, b, (tyD_rn ra).trans e, isTs_kit e e2, Aft.ok h1 (.bl b) m1⟩
  · rw [if_neg q] at h1
    exact h1.elim
section
variable {X : Cx} {Φ : OH → Hp → Hp → Prop} {W : WX} [FΦ : OFrm X.K X.mg Φ] {J : Jv}
theorem fe_isiT {ts : List BT} {es : List Expr} {tt : TA} {e : Expr} {f : fE} {p p2 pos : Pos} {k : Nat} (hg : Gl X "isinstance") (hm : X.mg "isinstance" = none) (h : FE X Φ W J e f) (ht : PA X es tt) (hl : ∀ (σ : Sig) (H : Hp) (Q : List V → Hp → Prop), Q ((ts.map BT.nm).map V.ty) H → tt σ H Q)
    (hz : (ts.map BT.nm).length ≤ sizeLine) (h1 : starEach [e, .Tuple es k p2] X.env = (false, eval e X.env) :: starEach [.Tuple es k p2] X.env := by rfl) (h2 : starEach [.Tuple es k p2] X.env = (false, eval (.Tuple es k p2) X.env) :: starEach [] X.env := by rfl) (hpl : (backTo pos (starEach [.Tuple es k p2] X.env)).any (·.1) = false := by rfl) :
    FE X Φ W J (.Call (.Name "isinstance" p) [e, .Tuple es k p2] [] pos) (fIsi ts f) := by
  obtain ⟨_, h⟩ := h
  exact fe_of (de_isiT hg hm h ht hl hz h1 h2 hpl) fun _ _ _ _ h => fisi_run rfl h
theorem fe_isi {t : BT} {T : String} {e : Expr} {f : fE} {p p2 pos : Pos} {x : Str} (hT' : T = t.nm) (hg : Gl X "isinstance") (hm : X.mg "isinstance" = none) (h : FE X Φ W J e f) (hT : PE X (.Name x p2) (tC (.ty T)))
    (h1 : starEach [e, .Name x p2] X.env = (false, eval e X.env) :: starEach [.Name x p2] X.env := by rfl) (h2 : starEach [.Name x p2] X.env = (false, eval (.Name x p2) X.env) :: starEach [] X.env := by rfl) (hpl : (backTo pos (starEach [.Name x p2] X.env)).any (·.1) = false := by rfl) :
    FE X Φ W J (.Call (.Name "isinstance" p) [e, .Name x p2] [] pos) (fIsi [t] f) := by
  obtain ⟨_, h⟩ := h
  exact fe_of (de_isi hg hm h hT h1 h2 hpl) fun _ _ _ _ h => fisi_run (by rw [hT']; rfl) h
/-- isinstance(x, C): C's own instances, the classes under it; a built-in type's value is none -/
def isC (C : List (Str × Bool)) : D → Option Bool
  | .ins n _ _ => C.lookup n
  | d => if (tyD d).isSome = true then some false else none
theorem isC_rn {C : List (Str × Bool)} {θ : Th} {a b : D} (r : Rn θ a b) : isC C b = isC C a := by cases r <;> rfl
def fIsC (C : List (Str × Bool)) (m : fE) : fE := fun ρ st => (m ρ st).bind fun d st1 => optR ((isC C d).map .bl) st1
theorem fe_isiC {c : Addr} {C : List (Str × Bool)} {e : Expr} {f : fE} {p p2 pos : Pos} {x : Str} (T : IsiC X.K X.mg c (isC C)) (hg : Gl X "isinstance") (hm : X.mg "isinstance" = none) (hgx : Gl X x) (hx : X.mg x = some (.ref c)) (h : FE X Φ W J e f) (hd : (x == ("__debug__" : Str)) = false := by decide)
    (h1 : starEach [e, .Name x p2] X.env = (false, eval e X.env) :: starEach [.Name x p2] X.env := by rfl) (h2 : starEach [.Name x p2] X.env = (false, eval (.Name x p2) X.env) :: starEach [] X.env := by rfl) (hpl : (backTo pos (starEach [.Name x p2] X.env)).any (·.1) = false := by rfl) :
    FE X Φ W J (.Call (.Name "isinstance" p) [e, .Name x p2] [] pos) (fIsC C f) := by
  obtain ⟨_, h⟩ := h
  refine fe_of (de_isiC T hg hm hgx hx h hd h1 h2 hpl) fun ρ' O P R ⟨θ, ρ, st, c, h⟩ => ⟨θ, ρ, st, c, h.bind fun θ1 a a' st1 O1 s1 ra m1 h1 => ?_⟩
  cases e : isC C a with
  | none => rw [e] at h1; exact h1.elim
  | some b =>
    rw [e] at h1
    exact ⟨b, (isC_rn ra).trans e, Aft.ok h1 (.bl b) m1⟩
/-! cuts -/
abbrev fO := Rho → St → Res (Option Int)
def relO : Th → Option Int → Option Int → Prop := fun _ a b => a = b
def dO (J : Jv) (f : fO) : MO OH := fun ρ' O P R => ∃ θ ρ st, Ct J θ ρ ρ' st O ∧ Aft relO θ (f ρ st) P R
def FO (X : Cx) (Φ : OH → Hp → Hp → Prop) (W : WX) (J : Jv) (e : Option Expr) (f : fO) : Prop := ∃ t, DO1 X Φ W e t (dO J f)
def fPn : fO := fun _ st => .ok none st
def fPs (m : fE) : fO := fun ρ st => (m ρ st).bind fun d st1 => match d with
  | .int i => .ok (some i) st1
  | _ => .bad
theorem fo_none : FO X Φ W J none fPn := ⟨tNoPart, po_none, fun σ ρ s G H Q P R hρ f0 hW ⟨θ, ρ0, st, c, h⟩ k => k none s G H (Aft.ok (a' := none) h rfl c.mt) (Same.refl _) f0⟩
theorem fo_some {e : Expr} {f : fE} (h : FE X Φ W J e f) : FO X Φ W J (some e) (fPs f) := by
  obtain ⟨_, h⟩ := h
  have d := do_some h
  refine ⟨_, d.po, fun σ ρ s G H Q P R hρ f0 hW ⟨θ, ρ0, st, c, h⟩ k => d.sem σ ρ s G H Q P R hρ f0 hW ⟨θ, ρ0, st, c, h.bind fun θ1 a a' st1 O1 s1 ra m1 h1 => ?_⟩ k⟩
  cases ra with
  | int i => exact ⟨i, rfl, Aft.ok h1 rfl m1⟩
  | _ => exact h1.elim
def oCut (a : D) (lo hi : Option Int) : Option D := match a with
  | .lst x => some (.lst (DL.cutD x lo hi))
  | .tup x => some (.tup (DL.cutD x lo hi))
  | .frz x => some (.lst (DL.cutD x lo hi))
  | _ => none
theorem cut_rn {θ : Th} {a b : List D} {lo hi : Option Int} (r : RnL θ a b) : RnL θ (DL.cutD a lo hi) (DL.cutD b lo hi) := by
  unfold DL.cutD
  rw [r.len]
  exact (r.dr _).tk _
def fSl (m : fE) (l h : fO) : fE := fun ρ st => (m ρ st).bind fun a st1 => (l ρ st1).bind fun i st2 => (h ρ st2).bind fun j st3 => optR (oCut a i j) st3
theorem fe_sl {e : Expr} {lo hi : Option Expr} {f : fE} {l h : fO} {pos p2 : Pos} (he : FE X Φ W J e f) (hl : FO X Φ W J lo l) (hh : FO X Φ W J hi h) : FE X Φ W J (.Subscript e (.Slice lo hi none p2) pos) (fSl f l h) := by
  obtain ⟨_, he⟩ := he
  obtain ⟨_, hl⟩ := hl
  obtain ⟨_, hh⟩ := hh
  refine fe_of (de_sl he hl hh) fun ρ' O P R ⟨θ, ρ, st, c, h⟩ => ⟨θ, ρ, st, c, h.bind fun θ1 a a' st1 O1 s1 ra m1 h1 => ?_⟩
  refine ⟨θ1, ρ, st1, c.step s1 m1, h1.bind fun θ2 i i' st2 O2 s2 ri m2 h2 => ?_⟩
  cases ri
  refine ⟨θ2, ρ, st2, c.step (s1.trans s2) m2, h2.bind fun θ3 j j' st3 O3 s3 rj m3 h3 => ?_⟩
  cases rj
  cases ra <;> try (exact h3.elim)
  · rename_i r
    exact Aft.ok h3 (.lst (cut_rn ((r.mono s2).mono s3))) m3
  · rename_i r
    exact Aft.ok h3 (.tup (cut_rn ((r.mono s2).mono s3))) m3
  · rename_i r
    exact Aft.ok h3 (.lst (cut_rn ((r.mono s2).mono s3))) m3
def fRev (m : fE) : fE := fun ρ st => (m ρ st).bind fun x st1 => match x with
  | .lst ds => .ok (.lst ds.reverse) st1
  | .frz ds => .ok (.lst ds.reverse) st1
  | _ => .bad
theorem fe_revL {e : Expr} {f : fE} {k : Nat} {p1 p2 p3 pos : Pos} (h : FE X Φ W J e f) : FE X Φ W J (.Subscript e (.Slice none none (some (.UnaryOp .USub (.Constant (.int 1) k p1) p2)) p3) pos) (fRev f) := by
  obtain ⟨_, h⟩ := h
  refine fe_of (de_revL h) fun ρ' O P R ⟨θ, ρ, st, c, h⟩ => ⟨θ, ρ, st, c, h.bind fun θ1 a a' st1 O1 s1 ra m1 h1 => ?_⟩
  cases ra <;> try (exact h1.elim)
  · rename_i r
    exact ⟨_, .inl rfl, Aft.ok h1 (.lst r.rev) m1⟩
  · rename_i r
    exact ⟨_, .inr rfl, Aft.ok h1 (.lst r.rev) m1⟩
def fNeg (m : fE) : fE := fun ρ st => (m ρ st).bind fun x st1 => match x with
  | .int i => .ok (.int (-i)) st1
  | _ => .bad
theorem fe_neg {e : Expr} {f : fE} {pos : Pos} (h : FE X Φ W J e f) : FE X Φ W J (.UnaryOp .USub e pos) (fNeg f) := by
  obtain ⟨_, h⟩ := h
  refine fe_of (de_neg h) fun ρ' O P R ⟨θ, ρ, st, c, h⟩ => ⟨θ, ρ, st, c, h.bind fun θ1 a a' st1 O1 s1 ra m1 h1 => ?_⟩
  cases ra with
  | int i => exact ⟨i, rfl, Aft.ok h1 (.int _) m1⟩
  | _ => exact h1.elim
theorem fe_dnew {pos : Pos} : FE X Φ W J (.Dict [] [] pos) (fC (.dic [] [])) := fe_of de_dnew fun _ _ _ _ h => fc_run rfl h
/-! texts -/
def fShow (m : fE) : fE := fun ρ st => (m ρ st).bind fun d st1 => optR ((shown? d).map .str) st1
theorem fe_show {e : Expr} {f : fE} {pos : Pos} (hk : ∃ mm, X.base.Ns sysModules mm) (hg : X.A.guards = some []) (hu : X.A.units + 64 < cLine) (h : FE X Φ W J e f) : FE X Φ W J (.FormattedValue e 114 none pos) (fShow f) := by
  obtain ⟨_, h⟩ := h
  refine fe_of (de_show hk hg hu h) fun ρ' O P R ⟨θ, ρ, st, c, h⟩ => ⟨θ, ρ, st, c, h.bind fun θ1 a a' st1 O1 s1 ra m1 h1 => ?_⟩
  cases e : shown? a with
  | none => rw [e] at h1; exact h1.elim
  | some y =>
    rw [e] at h1
    obtain ⟨p, e', h3, h4, h5, h6⟩ := shown_run e
    rw [rn_eq ra (toPd_noLoc e')]
    subst h6
    exact ⟨p, e', h3, h4, h5, Aft.ok h1 (.str _) m1⟩
def FJ (X : Cx) (Φ : OH → Hp → Hp → Prop) (W : WX) (J : Jv) (es : List Expr) (fs : List fE) : Prop := ∃ ts, DJ X Φ W es ts (fs.map (dE J))
theorem fj_nil : FJ X Φ W J [] [] := ⟨[], .nil⟩
theorem fj_cons {e : Expr} {es : List Expr} {f : fE} {fs : List fE} (h : FE X Φ W J e f) (h' : FJ X Φ W J es fs) : FJ X Φ W J (e :: es) (f :: fs) := by
  obtain ⟨_, h⟩ := h
  obtain ⟨_, h'⟩ := h'
  exact ⟨_, .cons h h'⟩
def fJs : List fE → Str → Rho → St → Res Str
  | [], acc, _, st => .ok acc st
  | m :: ms, acc, ρ, st => (m ρ st).bind fun d st1 => match d with
    | .str y => if (acc ++ y).length ≤ sizeLine then fJs ms (acc ++ y) ρ st1 else .bad
    | _ => .bad
def relS' : Th → Str → Str → Prop := fun _ a b => a = b
theorem js_run {P : D → OH → Prop} {R : Exn → OH → Prop} {ρ ρ' : Rho} : ∀ {ms : List fE} {acc : Str} {θ : Th} {st : St} {O : OH}, Ct J θ ρ ρ' st O → Aft Rn θ ((fJs ms acc ρ st).bind fun y st1 => .ok (.str y) st1) P R → mJs (ms.map (dE J)) acc ρ' O (fun y s1 => P (.str y) s1) R
  | [], acc, θ, st, O, c, h => Aft.ok h (.str _) c.mt
  | m :: ms, acc, θ, st, O, c, h => by
    refine ⟨θ, ρ, st, c, ?_⟩
    unfold fJs at h
    cases q : m ρ st with
    | bad => rw [q] at h; exact h.elim
    | ex x st1 => rw [q] at h; exact h
    | ok d st1 =>
      rw [q] at h
      intro θ1 d' O1 s1 rd m1
      cases rd with
      | str y =>
        have h2 : Aft Rn θ ((if (acc ++ y).length ≤ sizeLine then fJs ms (acc ++ y) ρ st1 else .bad).bind fun y st1 => .ok (.str y) st1) P R := h
        by_cases z : (acc ++ y).length ≤ sizeLine
        · rw [if_pos z] at h2
          exact ⟨y, rfl, z, js_run (c.step s1 m1) (h2.sub s1)⟩
        · rw [if_neg z] at h2
          exact h2.elim
      | _ => exact h.elim
def fJoin (ms : List fE) : fE := fun ρ st => (fJs ms Str.empty ρ st).bind fun y st1 => .ok (.str y) st1
theorem fe_join {v1 v2 : Expr} {rest : List Expr} {fs : List fE} {pos : Pos} (h : FJ X Φ W J (v1 :: v2 :: rest) fs) : FE X Φ W J (.JoinedStr (v1 :: v2 :: rest) pos) (fJoin fs) := by
  obtain ⟨_, h⟩ := h
  exact fe_of (de_join h) fun ρ' O P R ⟨θ, ρ, st, c, h⟩ => js_run c h
/-! one's own lists -/
def fFrz (m : fE) : fE := fun ρ st => (m ρ st).bind fun x st1 => match x with
  | .loc i => match st1[i]? with
    | some (some y) => .ok y.tree (st1.set i none)
    | _ => .bad
  | _ => .bad
theorem fe_frz {e : Expr} {f : fE} (h : FE X Φ W J e f) : FE X Φ W J e (fFrz f) := by
  obtain ⟨_, h⟩ := h
  refine fe_of (de_frz h) fun ρ' O P R ⟨θ, ρ, st, c, h⟩ => ⟨θ, ρ, st, c, h.bind fun θ1 a a' st1 O1 s1 ra m1 h1 => ?_⟩
  cases ra with
  | @loc i p hp =>
    simp only at h1
    cases w : st1[i]? with
    | none => rw [w] at h1; exact h1.elim
    | some u =>
      cases u with
      | none => rw [w] at h1; exact h1.elim
      | some y =>
        rw [w] at h1
        obtain ⟨y', h4, h5⟩ := m1.at w hp
        exact ⟨p, y', rfl, h4, Aft.ok h1 h5.tree (m1.del w hp)⟩
  | _ => exact h1.elim
def fApp (m n : fE) : fE := fun ρ st => (m ρ st).bind fun x st1 => match x with
  | .loc i => match st1[i]? with
    | some (some (.lst _)) => (n ρ st1).bind fun y st2 => match st2[i]? with
      | some (some (.lst ds)) => if ds.length < sizeLine then .ok .non (st2.set i (some (.lst (ds ++ [y])))) else .bad
      | _ => .bad
    | _ => .bad
  | _ => .bad
theorem fe_app {o e : Expr} {f g : fE} {apos pos : Pos} (h : FE X Φ W J o f) (h' : FE X Φ W J e g)
    (h1 : attributeBase o "append" X.env (eval o X.env) = eval o X.env := by rfl)
    (h2 : ((backTo pos (starEach [e] X.env)).all (fun x => !x.1) && (backToKw pos (keywordEach [] X.env)).all (fun x => x.1.isSome) && decide ([e].length + ([] : List Keyword).length + (if ([] : List Keyword).isEmpty then 0 else 1) < 30)) = true := by rfl)
    (h3 : (apos.endLine == pos.line) = true := by rfl) (h4 : starEach [e] X.env = (false, eval e X.env) :: starEach [] X.env := by rfl) (h5 : (backTo pos (starEach [] X.env)).any (·.1) = false := by rfl) :
    FE X Φ W J (.Call (.Attribute o "append" apos) [e] [] pos) (fApp f g) := by
  obtain ⟨_, h⟩ := h
  obtain ⟨_, h'⟩ := h'
  refine fe_of (de_appD h h' h1 h2 h3 h4 h5) fun ρ' O P R ⟨θ, ρ, st, c, h⟩ => ⟨θ, ρ, st, c, h.bind fun θ1 a a' st1 O1 s1 ra m1 h1 => ?_⟩
  cases ra with
  | @loc i p hp =>
    simp only at h1
    cases w : st1[i]? with
    | none => rw [w] at h1; exact h1.elim
    | some u =>
      cases u with
      | none => rw [w] at h1; exact h1.elim
      | some y =>
        rw [w] at h1
        obtain ⟨y', h4, h5⟩ := m1.at w hp
        cases h5 with
        | lst r0 =>
          refine ⟨p, rfl, ⟨_, h4⟩, θ1, ρ, st1, c.step s1 m1, h1.bind fun θ2 b b' st2 O2 s2 rb m2 h2 => ?_⟩
          have hp2 := sub_at s2 hp
          cases w2 : st2[i]? with
          | none => rw [w2] at h2; exact h2.elim
          | some u2 =>
            cases u2 with
            | none => rw [w2] at h2; exact h2.elim
            | some y2 =>
              rw [w2] at h2
              obtain ⟨y2', h6, h7⟩ := m2.at w2 hp2
              cases h7 with
              | lst r2 =>
                simp only at h2
                split at h2
                · rename_i q
                  exact ⟨_, h6, by rw [← r2.len]; exact q, Aft.ok h2 .non (m2.put w2 hp2 (.lst (r2.app (.cons rb .nil))))⟩
                · exact h2.elim
              | _ => exact h2.elim
        | _ => exact h1.elim
  | _ => exact h1.elim
def fIxO (m n : fE) : fE := fun ρ st => (m ρ st).bind fun x st1 => (n ρ st1).bind fun y st2 => match x, y with
  | .loc a, .int i => match st2[a]? with
    | some (some (.lst ds)) => optR (atI ds i) st2
    | _ => .bad
  | _, _ => .bad
theorem fe_ixO {a b : Expr} {f g : fE} {pos : Pos} (ha : FE X Φ W J a f) (hb : FE X Φ W J b g) (hs : PlainIx b := by exact fun _ _ => rfl) : FE X Φ W J (.Subscript a b pos) (fIxO f g) := by
  obtain ⟨_, ha⟩ := ha
  obtain ⟨_, hb⟩ := hb
  refine fe_of (de_ixO ha hb hs) fun ρ' O P R ⟨θ, ρ, st, c, h⟩ => ⟨θ, ρ, st, c, h.bind fun θ1 a a' st1 O1 s1 ra m1 h1 => ?_⟩
  refine ⟨θ1, ρ, st1, c.step s1 m1, h1.bind fun θ2 b b' st2 O2 s2 rb m2 h2 => ?_⟩
  cases ra with
  | @loc k p hp =>
    cases rb with
    | int i =>
      have hp2 := sub_at s2 hp
      simp only at h2
      cases w : st2[k]? with
      | none => rw [w] at h2; exact h2.elim
      | some u =>
        cases u with
        | none => rw [w] at h2; exact h2.elim
        | some y =>
          rw [w] at h2
          obtain ⟨y', h4, h5⟩ := m2.at w hp2
          cases h5 with
          | @lst ds ds' r =>
            simp only at h2
            cases z : atI ds i with
            | none => rw [z] at h2; exact h2.elim
            | some d =>
              rw [z] at h2
              obtain ⟨e, h6, h7⟩ := at_rn r z
              exact ⟨p, i, _, e, rfl, rfl, h4, h6, Aft.ok h2 h7 m2⟩
          | _ => exact h2.elim
    | _ => exact h2.elim
  | _ => cases rb <;> exact h2.elim
def fGsub (m n : fE) : fG := fun d ρ st => match m ρ st with
  | .ok (.loc a) st1 => match n ρ st1 with
    | .ok (.int i) st2 => match st2[a]? with
      | some (some (.lst ds)) => match ixN ds.length i with
        | some j => some (ρ, st2.set a (some (.lst (ds.set j d))))
        | none => none
      | _ => none
    | _ => none
  | _ => none
theorem fg_subO {o i : Expr} {m n : fE} {pos : Pos} (ho : FE X Φ W0 J o m) (hi : FE X Φ W0 J i n)
    (ha : ∀ v, assign (.Subscript o i pos) X.env v = (do
      let ov ← holding [v] (eval o X.env)
      let iv ← holding [v, ov] (eval i X.env)
      standAt pos
      holding [v, ov, iv] (setItem ov iv v)
      release [v, ov, iv] []) := by intro _; rfl) : ∃ g, DG X Φ (.Subscript o i pos) g (dG J (fGsub m n)) [] := by
  obtain ⟨_, ho⟩ := ho
  obtain ⟨_, hi⟩ := hi
  refine ⟨_, dg_imp (dg_subO ho hi ha) fun d' ρ' O P ⟨θ, d, ρ, st, rd, c, h⟩ => ⟨θ, ρ, st, c, ?_⟩⟩
  unfold fGsub at h
  cases q : m ρ st with
  | bad => rw [q] at h; exact h.elim
  | ex x st1 => rw [q] at h; exact h.elim
  | ok x st1 =>
    rw [q] at h
    intro θ1 x' O1 s1 rx m1
    cases rx with
    | @loc a p hp =>
      simp only at h
      refine ⟨θ1, ρ, st1, c.step s1 m1, ?_⟩
      cases q2 : n ρ st1 with
      | bad => rw [q2] at h; exact h.elim
      | ex x st1 => rw [q2] at h; exact h.elim
      | ok y st2 =>
        rw [q2] at h
        intro θ2 y' O2 s2 ry m2
        cases ry with
        | int k =>
          simp only at h
          have hp2 := sub_at s2 hp
          cases w : st2[a]? with
          | none => rw [w] at h; exact h.elim
          | some u =>
            cases u with
            | none => rw [w] at h; exact h.elim
            | some y =>
              rw [w] at h
              obtain ⟨y', h4, h5⟩ := m2.at w hp2
              cases h5 with
              | @lst ds ds' r =>
                simp only at h
                cases z : ixN ds.length k with
                | none => rw [z] at h; exact h.elim
                | some j =>
                  rw [z] at h
                  have s12 := s1.trans s2
                  exact ⟨p, k, ds', j, rfl, rfl, h4, by rw [← r.len]; exact z, h θ2 ρ' _ s12 ((c.step s12 m2).step (List.prefix_refl _) (m2.put w hp2 (.lst (RnL.set (rd.mono s12) j r))))⟩
              | _ => exact h.elim
        | _ => exact h.elim
    | _ => exact h.elim
end
end FL

set_option Elab.async false
set_option linter.all false
set_option maxRecDepth 100000
set_option maxHeartbeats 1000000
namespace FL
open PySem PySem.Spec PyProof.Rows L2 DL
section
variable {P : Program} {w : World} {K : PySem.W.Frag} {mg : Str → Option Value} {base : Heap}
theorem fnF_mk {x qual : Str} {st : Stmt} {f : Addr} {fd : FuncData} {N ps : List Str} {k : Nat} (F : Fun K x qual st f fd) (Sc : FnScope N ps (defScope st)) {fs : fS}
    (hb : ∀ (Φ : OH → Hp → Hp → Prop) (cdv : Value) (A : Around) (outer : List Env) (s : Shared) (H : Hp) (E : XK), OFrm (cxOf (L2.CX P w) P w K mg base N qual (defScope st) f cdv A outer s H E).K (cxOf (L2.CX P w) P w K mg base N qual (defScope st) f cdv A outer s H E).mg Φ → Rm k (cxOf (L2.CX P w) P w K mg base N qual (defScope st) f cdv A outer s H E) →
      FSs (cxOf (L2.CX P w) P w K mg base N qual (defScope st) f cdv A outer s H E) Φ (fun cls d _ H' => E cls d H') none (defBody st) fs) : FnG P w K mg base (k + 1) f fd ps (gF (fBody fs (N.length - ps.length))) :=
  by
  obtain ⟨oc, od, kV, doc, pm, an, cdv, ct, osl, rfl, lk, hcd⟩ := F.ex
  refine fnS_of lk hcd Sc (fun vs H Q E h => spO_len h) fun A outer s H vs Q E hr hgd hsp => ?_
  obtain ⟨Φ, iΦ, G, O, ds, Pd, R, f0, r, hl, hgs, hP, hR⟩ := hsp
  obtain ⟨ts, d⟩ := hb Φ cdv A outer s H E iΦ ⟨hr, hgd⟩
  refine ⟨ts, d.pss, ?_⟩
  have r0 := start_rel (N := N) r
  rw [hl] at r0
  refine d.sem _ _ O G H _ _ r0 f0 (body_run hgs) ⟨fun σ ρ s G' H' ⟨O2, le, p⟩ e _ q => hP .non O2 .non G' H' p e (iΦ.less q le) .non, fun d s v G' H' ⟨O2, le, p⟩ e q r => hP d O2 v G' H' p e (iΦ.less q le) r, fun _ _ _ _ _ p => p.elim, fun _ _ _ _ _ p => p.elim,
    fun x σ ρ s G' H' cls d ⟨O2, le, p⟩ e _ q z => hR x O2 G' H' cls d p e (iΦ.less q le) z⟩
theorem mt_nil : Mt [] [] (fun _ => none) := ⟨rfl, fun i x h => by simp at h, fun i j x y a h => by simp at h⟩
theorem lawF_mk {x qual : Str} {st : Stmt} {f : Addr} {fd : FuncData} {N : List Str} {p : Str} {k : Nat} (F : Fun K x qual st f fd) (Sc : FnScope N [p] (defScope st)) {fs : fS}
    (hb : ∀ (cdv : Value) (A : Around) (outer : List Env) (s : Shared) (H : Hp) (E : XK), OFrm (cxOf (L2.CX P w) P w K mg base N qual (defScope st) f cdv A outer s H E).K (cxOf (L2.CX P w) P w K mg base N qual (defScope st) f cdv A outer s H E).mg (Phi K mg) → Rm k (cxOf (L2.CX P w) P w K mg base N qual (defScope st) f cdv A outer s H E) →
      FSs (cxOf (L2.CX P w) P w K mg base N qual (defScope st) f cdv A outer s H E) (Phi K mg) (fun cls d _ H' => E cls d H') none (defBody st) fs)
    (hm : ∀ ns : List Int, ns.length ≤ 63 → ∃ s1, fBody fs (N.length - 1) [.frz (ns.map D.int)] [] = .ok (.bl true) s1) : FnS P w K mg base (k + 1) f fd [p] (spLawD K) := by
  refine law_mk (m := dS none fs) F Sc hb fun ns hl => ?_
  have z := body_run (f := fs) (k := N.length - 1) (ds' := [.frz (ns.map D.int)]) (O := fun _ => none) (P := fun d _ => d = .bl true) (R := R0) ⟨[], _, [], rnl_self (a := [.frz (ns.map D.int)]) ?_, mt_nil, ?_⟩
  · obtain ⟨θ, ρ, st, c, h⟩ := z
    refine ⟨θ, ρ, st, c, ?_⟩
    cases q : fs ρ st with
    | nx _ _ =>
      rw [q] at h
      intro a b c d e
      obtain ⟨_, _, h⟩ := h a b c d e
      exact h
    | rt _ _ =>
      rw [q] at h
      intro a b c d e f
      obtain ⟨_, _, h⟩ := h a b c d e f
      exact h
    | ex _ _ _ =>
      rw [q] at h
      intro a b c d e f g
      obtain ⟨_, _, h⟩ := h a b c d e f g
      exact h
    | bk _ _ => rw [q] at h; exact h
    | ct _ _ => rw [q] at h; exact h
    | bad => rw [q] at h; exact h
  · simp only [noLocL, noLoc, noLoc_ints, Bool.and_self]
  · obtain ⟨s1, h⟩ := hm ns hl
    rw [h]
    intro θ1 d' O1 _ r _
    cases r
    rfl
end
end FL

set_option Elab.async false
set_option linter.all false
set_option maxRecDepth 100000
set_option maxHeartbeats 1000000
namespace FL
open PySem PySem.Spec PyProof.Rows L2 DL
section
variable {X : Cx} {Φ : OH → Hp → Hp → Prop} {W : WX} [FΦ : OFrm X.K X.mg Φ] {J : Jv}
/-! what is never reached -/
def fDeadE : fE := fun _ _ => .bad
def fDeadS : fS := fun _ _ => .bad
theorem fe_dead {e : Expr} : FE X Φ W J e fDeadE := ⟨fun _ _ _ => False, ⟨fun _ _ _ _ _ _ h => h.elim⟩, fun σ ρ s G H Q P R _ _ _ ⟨_, _, _, _, h⟩ _ => h.elim⟩
theorem fs_dead {s : Stmt} : FS X Φ W J s fDeadS := ⟨fun _ _ _ => False, ⟨fun _ _ _ _ _ _ h => h.elim⟩, fun σ ρ s G H D M _ _ ⟨_, _, _, _, h⟩ _ => h.elim⟩
theorem fss_dead {s : List Stmt} : FSs X Φ W J s fDeadS := ⟨fun _ _ _ => False, ⟨fun _ _ _ _ _ _ h => h.elim⟩, fun σ ρ s G H D M _ _ ⟨_, _, _, _, h⟩ _ => h.elim⟩
/-! a * b of two instances of one class -/
def opIK (C : Str) (F : fF) (st : St) : D → D → Res D
  | .ins C1 ns ds, .ins C2 ms es => if C1 = C ∧ C2 = C then F [.ins C1 ns ds, .ins C2 ms es] st else .bad
  | _, _ => .bad
def fOpI (C : Str) (F : fF) (fa fb : fE) : fE := fun ρ st => (fa ρ st).bind fun a st1 => (fb ρ st1).bind fun b st2 => opIK C F st2 a b
theorem back_of {z : V} {u : Value} {Q : Value → Shared → Prop} {s : Shared} (r : RelV z u) (q : Q u s) : PySem.W.CmpBack Q u s := by
  cases u <;> first | exact q | (exfalso; revert r; cases z <;> simp [L2.RelV])
theorem fe_opI {op : Operator} {k : Nat} {C g : Addr} {Cn : Str} {fd : FuncData} {n1 n2 : Str} {F : fF} {a b : Expr} {fa fb : fE} {pos : Pos} (hC : X.mg Cn = some (.ref C)) (hsf : PySem.W.selfFirst X.K C = true) (hs : PySem.W.findIn X.K (.ref C) (PySem.dunder op.info.2) = some (some (.ref g))) (hf : PySem.W.isFn X.K (.ref g) = true)
    (Fg : FnG X.prog X.w X.K X.mg X.base k g fd [n1, n2] (gF F)) (hr : Rm k X) (hb : Binds X.K fd [n1, n2] []) (tk : Takes X W) (ha : FE X Φ W J a fa) (hb' : FE X Φ W J b fb) : FE X Φ W J (.BinOp a op b pos) (fOpI Cn F fa fb) := by
  obtain ⟨ta, ha⟩ := ha
  obtain ⟨tb, hb'⟩ := hb'
  let te : TE := fun σ H Q => ta σ H fun x H1 => tb σ H1 fun y H2 => ∃ p dx fs p' dx' fs', x = .ref p ∧ H2 p = some (.ins C dx fs) ∧ y = .ref p' ∧ H2 p' = some (.ins C dx' fs') ∧ spO X.K X.mg 2 (gF F) [x, y] H2 Q (WE W σ)
  refine ⟨te, ⟨fun pins s σ H Q I h => ?_⟩, fun σ ρ' O G H Q P R hρ f0 hW ⟨θ, ρ, st, c, h⟩ kk => ?_⟩
  · refine wpAny_BinOp (binT ha.pe hb'.pe I h fun u v s2 x y H2 I2 ru rv ⟨p, dx, fs, p', dx', fs', ex, hp, ey, hp', q⟩ => ?_)
    subst ex ey
    cases (show u = Value.ref p from ru)
    cases (show v = Value.ref p' from rv)
    obtain ⟨mA, J1, _⟩ := ins_get I2.hok hp
    obtain ⟨od, J1, _⟩ := J1.look
    obtain ⟨mB, J2, _⟩ := ins_get I2.hok hp'
    obtain ⟨od', J2, _⟩ := J2.look
    obtain ⟨m, hF⟩ := I2.fr
    refine PySem.W.binop_K hF I2.ok.mod.kin J1 J2.type hsf hs hf ?_
    have go := runS (us := [.ref p, .ref p']) (vs := [.ref p, .ref p']) (dvs := []) (dflt := []) Fg hr hb .nil (passAt tk σ) I2 (.cons rfl (.cons rfl .nil)) q
    exact thn go fun r s3 ⟨z, H3, I3, rz, q3⟩ => back_of rz ⟨z, H3, I3, rz, q3⟩
  · refine ha.sem σ ρ' O G H _ (fun x O1 => ∃ (θ1 : Th) (a1 : D) (st1 : St), θ <+: θ1 ∧ Rn θ1 a1 x ∧ Mt θ1 st1 O1 ∧ Aft Rn θ1 ((fb ρ st1).bind fun b st2 => opIK Cn F st2 a1 b) P R) R hρ f0 hW ⟨θ, ρ, st, c, h.bind fun θ1 a a' st1 O1 s1 ra m1 h1 => ⟨θ1, a, st1, s1, ra, m1, h1⟩⟩ fun x O1 u G1 H1 ⟨θ1, a1, st1, s1, ra, m1, h1⟩ e1 f1 r1 => ?_
    refine hb'.sem σ ρ' O1 G1 H1 _ (fun y O2 => ∃ (θ2 : Th) (b1 : D) (st2 : St), θ1 <+: θ2 ∧ Rn θ2 b1 y ∧ Mt θ2 st2 O2 ∧ Aft Rn θ2 (opIK Cn F st2 a1 b1) P R) R (hρ.mono e1) f1 (hW.mono e1) ⟨θ1, ρ, st1, c.step s1 m1, h1.bind fun θ2 b b' st2 O2 s2 rb m2 h2 => ⟨θ2, b, st2, s2, rb, m2, h2⟩⟩ fun y O2 v G2 H2 ⟨θ2, b1, st2, s2, rb, m2, h2⟩ e2 f2 r2 => ?_
    have ra2 := ra.mono s2
    have r12 := r1.mono e2
    have r12' := r12
    have r2' := r2
    cases ra2 with
    | @ins C1 ns ds ds' rds =>
      cases rb with
      | @ins C2 ms es es' res =>
        have h3 : Aft Rn θ2 (if C1 = Cn ∧ C2 = Cn then F [.ins C1 ns ds, .ins C2 ms es] st2 else .bad) P R := h2
        by_cases q : C1 = Cn ∧ C2 = Cn
        · rw [if_pos q] at h3
          obtain ⟨q1, q2⟩ := q
          subst q1 q2
          cases r12 with
          | ins mC hG hl rl =>
            rw [hC] at mC
            cases mC
            cases r2 with
            | ins mC2 hG2 hl2 rl2 =>
              rw [hC] at mC2
              cases mC2
              exact ⟨_, _, _, _, _, _, rfl, Frm.same f2 _ _ hG, rfl, Frm.same f2 _ _ hG2, spO_of f2 (.cons r12' (.cons r2' .nil)) rfl ⟨θ2, _, st2, .cons (.ins rds) (.cons (.ins res) .nil), m2, h3⟩ (fun d s' z G' H' p q f' rz => kk d s' z G' H' p ((e1.trans e2).trans q) f' rz) (hW.mono (e1.trans e2))⟩
        · rw [if_neg q] at h3
          exact h3.elim
      | _ => exact h2.elim
    | _ => exact h2.elim
/-! C() -/
def fMake0 (C : Str) (F : fF) (k : Nat) (dd : List D) : fE := fun _ st => if dd.length + 1 = k then mkEnd st.length (F (.loc st.length :: dd) (st ++ [some (.ins C [] [])])) else .bad
theorem mkEnd_run {F : fF} {C : Str} {θ1 : Th} {st1 : St} {O1 : OH} {P : D → OH → Prop} {R : Exn → OH → Prop} (m1 : Mt θ1 st1 O1) {a : List D} {a' : List D} (ra : RnL θ1 a a') (h1 : Aft Rn θ1 (mkEnd st1.length (F (.loc st1.length :: a) (st1 ++ [some (.ins C [] [])]))) P R) :
    ∀ p, O1 p = none → gF F (.loc p :: a') (O1.put p (.ins C [] [])) (kMake P p) R := fun p np => by
  have m2 := m1.new (x := .ins C [] []) (y := .ins C [] []) np (.ins .nil)
  refine ⟨θ1 ++ [p], _, _, .cons (.loc (mt_last m1)) (ra.mono ⟨[p], rfl⟩), m2, ?_⟩
  cases z : F (.loc st1.length :: a) (st1 ++ [some (.ins C [] [])]) with
  | bad => rw [z] at h1; exact h1.elim
  | ex w st3 => rw [z] at h1; exact fun θ3 x' O3 s3 => h1 θ3 x' O3 (List.IsPrefix.trans ⟨[p], rfl⟩ s3)
  | ok d st3 =>
    rw [z] at h1
    intro θ3 d' O3 s3 rd m3
    unfold mkEnd at h1
    cases rd with
    | non =>
      simp only at h1
      cases w : st3[st1.length]? with
      | none => rw [w] at h1; exact h1.elim
      | some u =>
        cases u with
        | none => rw [w] at h1; exact h1.elim
        | some y =>
          rw [w] at h1
          have at3 : θ3[st1.length]? = some p := sub_at s3 (mt_last m1)
          obtain ⟨y', h4, h5⟩ := m3.at w at3
          exact ⟨rfl, y', h4, gc_run m1.len (List.IsPrefix.trans ⟨[p], rfl⟩ s3) h5.tree (m3.del w at3) fun θ4 s4 r4 m4 => h1 θ4 _ _ s4 r4 m4⟩
    | _ => exact h1.elim
theorem fe_make0 {k : Nat} {f C : Addr} {fd : FuncData} {ps : List Str} {F : fF} {dvs : List V} {dd : List D} {dflt : List Value} {x : Str} {p pos : Pos} (M : Mk X.K C f) (hC : X.mg x = some (.ref C)) (Fg : FnG X.prog X.w X.K X.mg X.base k f fd ps (gF F)) (hr : Rm (k + 1) X) (hg : Gl X x) (hb : Binds X.K fd ps dflt) (hd : Vals dvs dflt) (hdd : ∀ G, RpL X.K X.mg G dvs dd) (tk : Takes X W)
    (hn : noLocL dd = true := by rfl) (hdb : (x == ("__debug__" : Str)) = false := by decide) : FE X Φ W J (.Call (.Name x p) [] [] pos) (fMake0 x F ps.length dd) :=
  ⟨_, pe_makeG0 M Fg hr hg hC hb hd tk hdb, fun σ ρ' O G H Q P R hρ f0 hW ⟨θ, ρ, st, c, h⟩ kk => by
    unfold fMake0 at h
    by_cases q : dd.length + 1 = ps.length
    · rw [if_pos q] at h
      exact make_sem hC f0 (hdd G) q (mkEnd_run c.mt (rnl_self hn) h) kk hW
    · rw [if_neg q] at h
      exact h.elim⟩
end
/-! defs with defaults -/
section
variable {P : Program} {w : World} {K : PySem.W.Frag} {mg : Str → Option Value} {base : Heap}
theorem fnF_mkD {x qual : Str} {st : Stmt} {f : Addr} {fd : FuncData} {N ps : List Str} {k : Nat} {dvs : List V} {kws : List (Str × V)} (F : FunD K x qual (defArgs st) (defBody st) (defScope st) dvs kws f fd) (Sc : FnScope N ps (defScope st)) {fs : fS}
    (hb : ∀ (Φ : OH → Hp → Hp → Prop) (cdv : Value) (A : Around) (outer : List Env) (s : Shared) (H : Hp) (E : XK), OFrm (cxOf (L2.CX P w) P w K mg base N qual (defScope st) f cdv A outer s H E).K (cxOf (L2.CX P w) P w K mg base N qual (defScope st) f cdv A outer s H E).mg Φ → Rm k (cxOf (L2.CX P w) P w K mg base N qual (defScope st) f cdv A outer s H E) →
      FSs (cxOf (L2.CX P w) P w K mg base N qual (defScope st) f cdv A outer s H E) Φ (fun cls d _ H' => E cls d H') none (defBody st) fs) : FnG P w K mg base (k + 1) f fd ps (gF (fBody fs (N.length - ps.length))) := by
  obtain ⟨oc, od, dV, kV, doc, pm, an, cdv, ct, osl, rfl, lk, hcd, _, _⟩ := F.ex
  refine fnS_of lk hcd Sc (fun vs H Q E h => spO_len h) fun A outer s H vs Q E hr hgd hsp => ?_
  obtain ⟨Φ, iΦ, G, O, ds, Pd, R, f0, r, hl, hgs, hP, hR⟩ := hsp
  obtain ⟨ts, d⟩ := hb Φ cdv A outer s H E iΦ ⟨hr, hgd⟩
  refine ⟨ts, d.pss, ?_⟩
  have r0 := start_rel (N := N) r
  rw [hl] at r0
  refine d.sem _ _ O G H _ _ r0 f0 (body_run hgs) ⟨fun σ ρ s G' H' ⟨O2, le, p⟩ e _ q => hP .non O2 .non G' H' p e (iΦ.less q le) .non, fun d s v G' H' ⟨O2, le, p⟩ e q r => hP d O2 v G' H' p e (iΦ.less q le) r, fun _ _ _ _ _ p => p.elim, fun _ _ _ _ _ p => p.elim,
    fun x σ ρ s G' H' cls d ⟨O2, le, p⟩ e _ q z => hR x O2 G' H' cls d p e (iΦ.less q le) z⟩
end
/-! more of built-ins -/
section
variable {X : Cx}
def wListF : WL := fun ds P => (∃ x, ds = [.lst x] ∧ P (.lst x)) ∨ (∃ x, ds = [.tup x] ∧ P (.lst x)) ∨ ∃ x, ds = [.frz x] ∧ P (.lst x)
theorem f_listF : Fn1 X (.type "list") (fun xs H Q => ∃ p ys, xs = [.ref p] ∧ (SqL X.K H p ys ∨ SqT X.K H p ys) ∧ ∀ l, H l = none → Q (.ref l) (upd H l (.lst ys))) wListF := by
  refine ⟨call_list_of, fun vs ds G H Q P r sm h k => ?_⟩
  have fin : ∀ {a : Addr} {ys : List V} {x : List D}, RpL X.K X.mg G ys x → P (.lst x) → ∀ l, H l = none → Q (.ref l) (upd H l (.lst ys)) := fun b h l nl => k _ _ _ _ h (.one nl) (.lst upd_same (b.mono (same_new (sm.free nl))))
  rcases h with ⟨x, ed, h⟩ | ⟨x, ed, h⟩ | ⟨x, ed, h⟩
  · subst ed
    obtain ⟨v, rfl, r1⟩ := rpl1 r
    cases r1 with
    | lst a b => exact ⟨_, _, rfl, .inl (SqL.of (sm _ _ a)), fin (a := 0) b h⟩
  · subst ed
    obtain ⟨v, rfl, r1⟩ := rpl1 r
    cases r1 with
    | tup a b => exact ⟨_, _, rfl, .inr (sqt_mono sm a), fin (a := 0) b h⟩
  · subst ed
    obtain ⟨v, rfl, r1⟩ := rpl1 r
    cases r1 with
    | frz a b => exact ⟨_, _, rfl, .inl (sql_mono sm a.sql), fin (a := 0) b h⟩
def lListF : List D → Option D
  | [.lst x] => some (.lst x)
  | [.tup x] => some (.lst x)
  | [.frz x] => some (.lst x)
  | _ => none
theorem lw_listF : LW lListF wListF := ⟨fun θ ds ds' d P r h k => by
  unfold lListF at h
  split at h
  · obtain ⟨a', rfl, q⟩ := rnl1 r
    cases q with | lst q => cases h; exact .inl ⟨_, rfl, k _ (.lst q)⟩
  · obtain ⟨a', rfl, q⟩ := rnl1 r
    cases q with | tup q => cases h; exact .inr (.inl ⟨_, rfl, k _ (.lst q)⟩)
  · obtain ⟨a', rfl, q⟩ := rnl1 r
    cases q with | frz q => cases h; exact .inr (.inr ⟨_, rfl, k _ (.lst q)⟩)
  · cases h⟩
end
section
variable {X : Cx} {Φ : OH → Hp → Hp → Prop} {W : WX} [FΦ : OFrm X.K X.mg Φ] {J : Jv}
/-! T.index(e), T a written tuple of texts -/
def idxS (ys : List Str) (z : Str) : Option Nat := match ys with
  | [] => none
  | y :: ys => if y = z then some 0 else (idxS ys z).map (· + 1)
theorem idxS_at : ∀ {ys : List Str} {z : Str} {j : Nat}, idxS ys z = some j → ys[j]? = some z ∧ ∀ m, m < j → ys[m]? ≠ some z
  | [], _, _, h => by cases h
  | y :: ys, z, j, h => by
    unfold idxS at h
    by_cases q : y = z
    · rw [if_pos q] at h
      cases h
      exact ⟨by rw [q]; rfl, fun m hm => absurd hm (Nat.not_lt_zero m)⟩
    · rw [if_neg q] at h
      simp only [Option.map_eq_some_iff] at h
      obtain ⟨i, h1, h2⟩ := h
      subst h2
      obtain ⟨a, b⟩ := idxS_at h1
      refine ⟨a, fun m hm => ?_⟩
      cases m with
      | zero => exact fun e => q (Option.some.inj e)
      | succ m => exact b m (by omega)
def fTidx (ys : List Str) (f : fE) : fE := fun ρ st => (f ρ st).bind fun y st1 => match y with
  | .str z => match idxS ys z with
    | some j => .ok (.int (j : Nat)) st1
    | none => .bad
  | _ => .bad
theorem fe_tidx {x : Str} {ys : List Str} {tp : Addr} {ot : Obj} {e : Expr} {f : fE} {np apos pos : Pos} (hg : Gl X x) (hm : X.mg x = some (.ref tp)) (lk : X.K.lookup tp = some ot) (hc : ot.cls = .type "tuple") (hd : ot.dict = none) (hq : ∀ H, SqT X.K H tp (ys.map V.str)) (h : FE X Φ W J e f) (hdb : (x == ("__debug__" : Str)) = false := by decide)
    (h1 : attributeBase (.Name x np) "index" X.env (eval (.Name x np) X.env) = eval (.Name x np) X.env := by rfl)
    (h2 : ((backTo pos (starEach [e] X.env)).all (fun x => !x.1) && (backToKw pos (keywordEach [] X.env)).all (fun x => x.1.isSome) && decide ([e].length + ([] : List Keyword).length + (if ([] : List Keyword).isEmpty then 0 else 1) < 30)) = true := by rfl)
    (h3 : (apos.endLine == pos.line) = true := by rfl) (h4 : starEach [e] X.env = (false, eval e X.env) :: starEach [] X.env := by rfl) (h5 : (backTo pos (starEach [] X.env)).any (·.1) = false := by rfl) :
    FE X Φ W J (.Call (.Attribute (.Name x np) "index" apos) [e] [] pos) (fTidx ys f) := by
  obtain ⟨te, h⟩ := h
  have g : PE X (.Name x np) (tC (.ref tp)) := pe_glob hg hm rfl hdb
  refine ⟨_, pe_bm PySem.F.plainAttrs_tuple PySem.F.slot_tuple_index PySem.F.type_tuple_index mt_tup_index g (pa_cons h.pe pa_nil h4) h1 h2 h3 h4 h5, fun σ ρ' O G H Q P R hρ f0 hW ⟨θ, ρ, st, c, hh⟩ kk => ?_⟩
  refine ⟨.inr (.inl ⟨rfl, ot, lk, hc, hd⟩), h.sem σ ρ' O G H _ (fun y O1 => ∃ z j, y = .str z ∧ idxS ys z = some j ∧ P (.int (j : Nat)) O1) R hρ f0 hW ⟨θ, ρ, st, c, hh.bind fun θ1 a a' st1 O1 s1 ra m1 h1 => ?_⟩ fun y O1 v G1 H1 ⟨z, j, ey, hj, hp⟩ e1 f1 r1 => ?_⟩
  · cases ra with
    | str z =>
      simp only at h1
      cases q : idxS ys z with
      | none => rw [q] at h1; exact h1.elim
      | some j => rw [q] at h1; exact ⟨z, j, rfl, q, Aft.ok h1 (.int _) m1⟩
    | _ => exact h1.elim
  · subst ey
    cases r1
    obtain ⟨a, b⟩ := idxS_at hj
    exact ⟨tp, ys, z, j, rfl, rfl, hq _, a, b, kk _ _ _ G1 H1 hp e1 f1 (.int _)⟩
/-! T[e], T a written dict by texts -/
def fKix (tab : List (Str × D)) (f : fE) : fE := fun ρ st => (f ρ st).bind fun y st1 => match y with
  | .str z => optR (tab.lookup z) st1
  | _ => .bad
theorem fe_kix {x : Str} {tab : List (Str × D)} {tp : Addr} {b : Expr} {f : fE} {np pos : Pos} (hg : Gl X x) (hm : X.mg x = some (.ref tp)) (ht : ∀ z d, tab.lookup z = some d → ∃ v, KDct X.K X.w tp z v ∧ ∀ G, Rp X.K X.mg G v d) (hn : ∀ z d, tab.lookup z = some d → noLoc d = true) (h : FE X Φ W J b f) (hs : PlainIx b := by exact fun _ _ => rfl) (hdb : (x == ("__debug__" : Str)) = false := by decide) :
    FE X Φ W J (.Subscript (.Name x np) b pos) (fKix tab f) := by
  obtain ⟨te, h⟩ := h
  have g : PE X (.Name x np) (tC (.ref tp)) := pe_glob hg hm rfl hdb
  refine ⟨_, pe_ix ix_kdict g h.pe hs, fun σ ρ' O G H Q P R hρ f0 hW ⟨θ, ρ, st, c, hh⟩ kk => ?_⟩
  refine h.sem σ ρ' O G H _ (fun y O1 => ∃ z d, y = .str z ∧ tab.lookup z = some d ∧ P d O1) R hρ f0 hW ⟨θ, ρ, st, c, hh.bind fun θ1 a a' st1 O1 s1 ra m1 h1 => ?_⟩ fun y O1 v G1 H1 ⟨z, d, ey, hj, hp⟩ e1 f1 r1 => ?_
  · cases ra with
    | str z =>
      simp only at h1
      cases q : tab.lookup z with
      | none => rw [q] at h1; exact h1.elim
      | some d => rw [q] at h1; exact ⟨z, d, rfl, q, Aft.ok h1 (rn_self (hn z d q)) m1⟩
    | _ => exact h1.elim
  · subst ey
    cases r1
    obtain ⟨v, kd, rv⟩ := ht z d hj
    exact ⟨tp, z, v, rfl, rfl, kd, kk _ _ _ G1 H1 hp e1 f1 (rv G1)⟩
/-! chains of two comparisons -/
def fChain (o o' : D → D → Option D) (fa fb fc : fE) : fE := fun ρ st => (fa ρ st).bind fun a st1 => (fb ρ st1).bind fun b st2 => match o a b with
  | some (.bl true) => (fc ρ st2).bind fun c st3 => optR (o' b c) st3
  | some (.bl false) => .ok (.bl false) st2
  | _ => .bad
theorem chain_sem {a b c : Expr} {fa fb fc : fE} {r r' : R2} {w w' : W2} {o o' : D → D → Option D} {op op' : CmpOp} (o2 : Op2 X (compareOp op) r w) (ow : OW o w) (o2' : Op2 X (compareOp op') r' w') (ow' : OW o' w') {ta tb tc : TE} (ha : DE X Φ W a ta (dE J fa)) (hb : DE X Φ W b tb (dE J fb)) (hc : DE X Φ W c tc (dE J fc))
    {σ : Sig} {ρ' : Rho} {O : OH} {G H : Hp} {Q : VK} {P : D → OH → Prop} {R : Exn → OH → Prop} (hρ : RelE X.K X.mg G σ ρ') (f0 : Φ O G H) (hW : Wsh X.K X.mg Φ W G σ R) (h : dE J (fChain o o' fa fb fc) ρ' O P R)
    (kk : ∀ (d : D) (s' : OH) (v : V) (G' H' : Hp), P d s' → Same G G' → Φ s' G' H' → Rp X.K X.mg G' v d → Q v H') : tChain r r' ta tb tc σ H Q := by
  obtain ⟨θ, ρ, st, ct, h⟩ := h
  refine ha.sem σ ρ' O G H _ (fun x O1 => ∃ θ1 a1 st1, θ <+: θ1 ∧ Rn θ1 a1 x ∧ Mt θ1 st1 O1 ∧ Aft Rn θ1 ((fb ρ st1).bind fun b st2 => match o a1 b with
    | some (.bl true) => (fc ρ st2).bind fun c st3 => optR (o' b c) st3
    | some (.bl false) => .ok (.bl false) st2
    | _ => .bad) P R) R hρ f0 hW ⟨θ, ρ, st, ct, h.bind fun θ1 a a' st1 O1 s1 ra m1 h1 => ⟨θ1, a, st1, s1, ra, m1, h1⟩⟩ fun x O1 u G1 H1 ⟨θ1, a1, st1, s1, ra, m1, h1⟩ e1 f1 r1 => ?_
  refine hb.sem σ ρ' O1 G1 H1 _ (fun y O2 => ∃ θ2 b1 st2, θ1 <+: θ2 ∧ Rn θ2 b1 y ∧ Mt θ2 st2 O2 ∧ Aft Rn θ2 (match o a1 b1 with
    | some (.bl true) => (fc ρ st2).bind fun c st3 => optR (o' b1 c) st3
    | some (.bl false) => .ok (.bl false) st2
    | _ => .bad) P R) R (hρ.mono e1) f1 (hW.mono e1) ⟨θ1, ρ, st1, ct.step s1 m1, h1.bind fun θ2 b b' st2 O2 s2 rb m2 h2 => ⟨θ2, b, st2, s2, rb, m2, h2⟩⟩ fun y O2 v G2 H2 ⟨θ2, b1, st2, s2, rb, m2, h2⟩ e2 f2 r2 => ?_
  have e12 := e1.trans e2
  cases q : o a1 b1 with
  | none => rw [q] at h2; exact h2.elim
  | some d =>
    rw [q] at h2
    cases d with
    | bl t =>
      refine o2.sem u v x y G2 H2 _ (fun d => d = .bl t) (r1.mono e2) r2 (Frm.same f2) (ow.run θ2 a1 b1 x y (.bl t) _ (ra.mono s2) rb q fun d' rd => by cases rd; rfl) fun d z G3 H3 ed x3 r3 => ?_
      subst ed
      cases r3
      have e3 := (x3.out (Frm.same f2)).1
      have f3 := Frm.exts x3 f2
      refine ⟨t, rfl, ?_⟩
      cases t with
      | false => exact kk _ O2 _ G3 H3 (Aft.ok h2 (.bl false) m2) (e12.trans e3) f3 (.bl false)
      | true =>
        simp only [if_true]
        have e13 := e12.trans e3
        refine hc.sem σ ρ' O2 G3 H3 _ (fun c O3 => ∃ θ3 c1 st3, θ2 <+: θ3 ∧ Rn θ3 c1 c ∧ Mt θ3 st3 O3 ∧ Aft Rn θ3 (optR (o' b1 c1) st3) P R) R (hρ.mono e13) f3 (hW.mono e13) ⟨θ2, ρ, st2, ct.step (s1.trans s2) m2, Aft.bind (r := fc ρ st2) h2 fun θ3 c c' st3 O3 s3 rc m3 h3 => ⟨θ3, c, st3, s3, rc, m3, h3⟩⟩ fun c' O3 w3 G4 H4 ⟨θ3, c1, st3, s3, rc, m3, h3⟩ e4 f4 r4 => ?_
        cases q' : o' b1 c1 with
        | none => rw [q'] at h3; exact h3.elim
        | some d =>
          rw [q'] at h3
          refine o2'.sem v w3 y c' G4 H4 _ (fun d => P d O3) (r2.mono (e3.trans e4)) r4 (Frm.same f4) (ow'.run θ3 b1 c1 y c' d _ (rb.mono s3) rc q' fun d' rd => Aft.ok h3 rd m3) fun d z G5 H5 p x5 r5 => ?_
          exact kk d O3 z G5 H5 p ((e13.trans e4).trans (x5.out (Frm.same f4)).1) (Frm.exts x5 f4) r5
    | _ => exact h2.elim
section
variable {a b c : Expr} {fa fb fc : fE} {r r' : R2} {w w' : W2} {o o' : D → D → Option D} {op op' : CmpOp} {pos : Pos}
theorem fe_chain (o2 : Op2 X (compareOp op) r w) (ow : OW o w) (o2' : Op2 X (compareOp op') r' w') (ow' : OW o' w') (ha : FE X Φ W J a fa) (hb : FE X Φ W J b fb) (hc : FE X Φ W J c fc)
    (hm : lastMarks [op, op'] [b, c] = false := by with_unfolding_all rfl) : FE X Φ W J (.Compare a [op, op'] [b, c] pos) (fChain o o' fa fb fc) := by
  obtain ⟨_, ha⟩ := ha
  obtain ⟨_, hb⟩ := hb
  obtain ⟨_, hc⟩ := hc
  exact ⟨_, pe_chain o2.op o2'.op ha.pe hb.pe hc.pe hm, fun σ ρ' O G H Q P R hρ f0 hW h kk => chain_sem o2 ow o2' ow' ha hb hc hρ f0 hW h kk⟩
theorem ft_chain (o2 : Op2 X (compareOp op) r w) (ow : OW o w) (o2' : Op2 X (compareOp op') r' w') (ow' : OW o' w') (ha : FE X Φ W J a fa) (hb : FE X Φ W J b fb) (hc : FE X Φ W J c fc)
    (hm : lastMarks [op, op'] [b, c] = false := by with_unfolding_all rfl) : FT X Φ W J (.Compare a [op, op'] [b, c] pos) (fTest (fChain o o' fa fb fc)) := by
  obtain ⟨_, ha⟩ := ha
  obtain ⟨_, hb⟩ := hb
  obtain ⟨_, hc⟩ := hc
  refine ⟨_, pt_chain o2.op o2'.op ha.pe hb.pe hc.pe hm, fun σ ρ' O G H Q P R hρ f0 hW h kk => ?_⟩
  refine chain_sem o2 ow o2' ow' ha hb hc (P := fun d O1 => ∃ t, d = .bl t ∧ P t O1) hρ f0 hW ?_ fun d O1 v G1 H1 ⟨t, ed, p⟩ e1 f1 r1 => ?_
  · exact ftest_run h
  · subst ed
    cases r1
    exact ⟨t, rfl, kk t O1 G1 H1 p e1 f1⟩
end
end
end FL

set_option Elab.async false
set_option linter.all false
set_option maxRecDepth 100000
set_option maxHeartbeats 2000000
namespace FL
open PySem PySem.Spec PyProof.Rows L2 DL
/-! t[::-1] of a tuple -/
section
variable {prog : Program} {w : World} {A : Around} {E : Value → Shared → Prop} {s : Shared}
theorem back_adjust (n : Nat) : Builtin.Slice.sliceAdjust none none (-1) (n : Int) = ((n : Int) - 1, -1) := by
  unfold Builtin.Slice.sliceAdjust
  simp
theorem back_places (n : Nat) : Builtin.Slice.slicePlaces ((n : Int) - 1) (-1) (-1) = n := by
  unfold Builtin.Slice.slicePlaces
  have h1 : ¬ ((-1 : Int) > 0) := by omega
  rw [if_neg h1]
  by_cases h : (n : Int) - 1 > -1
  · rw [if_pos h, show (- -1 : Int) = 1 from rfl, Int.ediv_one]
    omega
  · rw [if_neg h]
    omega
theorem back_applied {sl : Addr} {va vb vc : Value} {n : Nat} {Q : Int × Int × Nat → Shared → Prop} (hs : s.heap.IsSliceOf sl va vb vc) (pa : IsPart va none) (pb : IsPart vb none) (pc : IsPart vc (some (-1))) (h : Q ((n : Int) - 1, -1, n) s) : wpAny (model prog w) A (Builtin.Slice.sliceApplied (.ref sl) (pure (n : Int))) Q E s := by
  obtain ⟨os, ho, _, hd⟩ := id hs
  unfold Builtin.Slice.sliceApplied Builtin.Slice.sliceFields
  refine wpAny_bind (wpAny_bind (wpAny_field ho hd (x := va) rfl (wpAny_bind (wpAny_field ho hd (x := vb) rfl (wpAny_bind (wpAny_field ho hd (x := vc) rfl (wpAny_pure ?_)))))))
  refine wpAny_bind (HT.slicePart_ pc ?_)
  show wpAny _ _ (if ((-1 : Int) == 0) = true then _ else _) _ _ s
  rw [if_neg (by decide)]
  refine wpAny_bind (HT.slicePart_ pa (wpAny_bind (HT.slicePart_ pb (wpAny_bind (wpAny_pure ?_)))))
  show wpAny _ _ (match Builtin.Slice.sliceAdjust none none (-1) (n : Int) with | (a, b) => pure (a, (-1 : Int), Builtin.Slice.slicePlaces a b (-1))) _ _ s
  rw [back_adjust]
  show wpAny _ _ (pure ((n : Int) - 1, (-1 : Int), Builtin.Slice.slicePlaces ((n : Int) - 1) (-1) (-1))) _ _ s
  rw [back_places]
  exact wpAny_pure h
theorem fm_congr {α β : Type} {f g : α → Option β} : ∀ {l : List α}, (∀ k ∈ l, f k = g k) → l.filterMap f = l.filterMap g
  | [], _ => rfl
  | a :: l, h => by
    rw [List.filterMap_cons, List.filterMap_cons, h a List.mem_cons_self, fm_congr fun k hk => h k (List.mem_cons_of_mem _ hk)]
theorem back_pick (xs : Array Value) : ((List.range xs.size).filterMap fun (k : Nat) => xs[(((xs.size : Int) - 1) + (k : Int) * (-1)).toNat]?).toArray = xs.toList.reverse.toArray := by
  have e : ∀ k ∈ List.range xs.size, xs[(((xs.size : Int) - 1) + (k : Int) * (-1)).toNat]? = xs[xs.size - 1 - k]? := fun k hk => by
    have := List.mem_range.mp hk
    congr 1
    omega
  rw [fm_congr e]
  have e2 : ((List.range xs.size).filterMap fun k => xs[xs.size - 1 - k]?) = ((List.range xs.size).map fun k => xs.size - 1 - k).filterMap (xs[·]?) := by rw [List.filterMap_map]; rfl
  rw [e2, PySem.W.krv_range, List.filterMap_reverse, PySem.W.krv_all]
theorem getItem_back {t sl : Addr} {items : Array Value} {va vb vc : Value} {Q : Value → Shared → Prop} (ht : IsTup s.heap t items) (hs : s.heap.IsSliceOf sl va vb vc) (pa : IsPart va none) (pb : IsPart vb none) (pc : IsPart vc (some (-1)))
    (h : Q (.ref s.heap.objs.size) { s with heap := s.heap.push { cls := .type "tuple", data := .seq items.toList.reverse.toArray } }) (hz : items.size ≤ sizeLine) : wpAny (model prog w) A (getItem (.ref t) (.ref sl)) Q E s := by
  have hk : sizeOk (.seq items.toList.reverse.toArray) := by
    show items.toList.reverse.toArray.size ≤ sizeLine
    simpa using hz
  obtain ⟨o, ho, hc, _⟩ := id hs
  have ty : s.TypeIs (.ref sl) "slice" := ⟨o, ho, hc⟩
  unfold getItem
  try with_reducible refine wpAny_holding ?_
  refine wpAny_bind (wpAny_sequenceKey ht.typeIs (by decide) ?_)
  refine wpAny_bind (wpAny_callSpecial?_slot (name := Str.ofString "__getitem__") ht.typeIs PyProof.Rows.slot_tuple_getitem (wpAny_call_entry PyProof.Rows.slot_tuple_getitem ht.typeIs entry_tuple_getitem ?_ (args_tuple_getitem _ _)))
  show wpAny _ _ (Builtin.Tuple.tupleItemsOf (.ref t) >>= _) _ _ s
  refine wpAny_bind (tupleItemsOf_ ht (wpAny_bind (wpAny_typeOf ty ?_)))
  rw [if_pos (by decide)]
  refine wpAny_bind (back_applied hs pa pb pc ?_)
  show wpAny _ _ (if (((items.size : Int) - 1 == 0) && ((-1 : Int) == 1) && (items.size == items.size)) = true then _ else _) _ _ s
  rw [if_neg (by simp), back_pick]
  first
    | exact wpAny_bind (m := Builtin.Tuple.tupleExact _) (wpAny_newObj_type (wpAny_pure ⟨_, rfl, wpAny_pure h⟩) hk)
    | exact wpAny_bind (m := Builtin.Tuple.tupleExact _) (wpAny_newObj_type (wpAny_bind (wpAny_pure (wpAny_pure ⟨_, rfl, wpAny_pure h⟩))) hk)
    | exact wpAny_bind (wpAny_bind (m := Builtin.Tuple.tupleExact _) (wpAny_newObj_type (wpAny_pure (wpAny_pure ⟨_, rfl, wpAny_pure h⟩)) hk))
    | exact wpAny_bind (wpAny_bind (m := Builtin.Tuple.tupleExact _) (wpAny_newObj_type (wpAny_pure ⟨_, rfl, wpAny_pure h⟩) hk))
end
def tBack (K : PySem.W.Frag) (te : TE) : TE := fun σ H Q => te σ H fun x H1 => ∃ a xs, x = .ref a ∧ ((SqL K H1 a xs ∧ ∀ p, H1 p = none → Q (.ref p) (upd H1 p (.lst xs.reverse))) ∨ (SqT K H1 a xs ∧ ∀ p, H1 p = none → Q (.ref p) (upd H1 p (.tup xs.reverse))))
section
variable {X : Cx} {Φ : OH → Hp → Hp → Prop} {W : WX} [FΦ : OFrm X.K X.mg Φ] {J : Jv}
theorem pe_back {e : Expr} {te : TE} {k : Nat} {p1 p2 p3 pos : Pos} (he : PE X e te) : PE X (.Subscript e (.Slice none none (some (.UnaryOp .USub (.Constant (.int 1) k p1) p2)) p3) pos) (tBack X.K te) := by
  refine ⟨fun pins s σ H Q I h => ?_⟩
  refine Subscript_ (thn (he.run pins s σ H _ I h) fun v s1 ⟨x, H1, I1, r1, a, xs, ex, q⟩ => ?_)
  subst ex
  cases r1
  have step : PO X (some (.UnaryOp .USub (.Constant (.int 1) k p1) p2)) (tPart (tUn (rU fun i => .int (-i)) (tC (.int 1)))) := po_some (pe_un un_neg pe_int)
  refine wpAny_Slice (thn (po_none.run pins s1 σ H1 (fun o Hx => o = none ∧ Hx = H1) I1 ⟨rfl, rfl⟩) fun va s2 ⟨l, H2, I2, pa, el, e2⟩ => ?_)
  subst el e2
  refine thn (po_none.run pins s2 σ H2 (fun o Hx => o = none ∧ Hx = H2) I2 ⟨rfl, rfl⟩) fun vb s3 ⟨u, H3, I3, pb, eu, e3⟩ => ?_
  subst eu e3
  refine thn (step.run pins s3 σ H3 (fun o Hx => o = some (-1) ∧ Hx = H3) I3 ⟨1, rfl, -1, rfl, rfl, rfl⟩) fun vc s4 ⟨o, H4, I4, pc, eo, e4⟩ => ?_
  subst eo e4
  have I5 : Inv X pins σ H4 { s4 with heap := s4.heap.push { cls := .type "slice", data := .fields #[va, vb, vc] } } := I4.kept (t' := s4.toks) fun b ob z => Heap.get?_push_of_some _ z
  show wpAny (model X.prog X.w) X.A (subscriptTail e (.Slice none none (some (.UnaryOp .USub (.Constant (.int 1) k p1) p2)) p3) (.ref a) (.ref s4.heap.objs.size)) (EP X pins σ Q) X.xe { s4 with heap := s4.heap.push { cls := .type "slice", data := .fields #[va, vb, vc] } }
  rcases q with ⟨hx, q⟩ | ⟨hx, q⟩
  · obtain ⟨its, r, ht, hz⟩ := I5.list hx
    have hl := r.length
    refine tail_any (ops := [.ref a, .ref s4.heap.objs.size]) ht.isList.typeIs (PySem.slot_list_getitem.lookup) ?_ (by with_unfolding_all rfl)
    refine wpAny_getItem_list_slice ht.isList (Heap.IsSliceOf.new _ va vb vc) pa pb pc (by decide) ?_ (by rw [List.size_toArray]; omega)
    rw [PySem.W.krv_pick]
    refine ⟨.ref _, _, I5.laid (t' := s4.toks) (o := .lst xs.reverse) (fun b ob z => Heap.get?_push_of_some _ z) (Nat.le_refl _) ?_, rfl, q _ (I5.hok.fresh (Nat.le_refl _))⟩
    exact ⟨by rw [List.length_reverse]; exact hz, _, 0, r.reverse, Heap.get?_push_size _ rfl⟩
  · obtain ⟨its, r, ht, hz⟩ := I5.tuple hx
    have hl := r.length
    refine tail_any (ops := [.ref a, .ref s4.heap.objs.size]) ht.typeIs (PyProof.Rows.slot_tuple_getitem.lookup) ?_ (by with_unfolding_all rfl)
    refine getItem_back ht (Heap.IsSliceOf.new _ va vb vc) pa pb pc ?_ (by rw [List.size_toArray]; omega)
    refine ⟨.ref _, _, I5.laid (t' := s4.toks) (o := .tup xs.reverse) (fun b ob z => Heap.get?_push_of_some _ z) (Nat.le_refl _) ?_, rfl, q _ (I5.hok.fresh (Nat.le_refl _))⟩
    exact ⟨by rw [List.length_reverse]; exact hz, its.toArray.toList.reverse, by simpa using r.reverse, IsTup.new _ _⟩
def fBack (m : fE) : fE := fun ρ st => (m ρ st).bind fun x st1 => match x with
  | .lst ds => .ok (.lst ds.reverse) st1
  | .frz ds => .ok (.lst ds.reverse) st1
  | .tup ds => .ok (.tup ds.reverse) st1
  | _ => .bad
theorem fe_back {e : Expr} {f : fE} {k : Nat} {p1 p2 p3 pos : Pos} (h : FE X Φ W J e f) : FE X Φ W J (.Subscript e (.Slice none none (some (.UnaryOp .USub (.Constant (.int 1) k p1) p2)) p3) pos) (fBack f) := by
  obtain ⟨te, h⟩ := h
  refine ⟨_, pe_back h.pe, fun σ ρ' O G H Q P R hρ f0 hW ⟨θ, ρ, st, c, hh⟩ kk => ?_⟩
  refine h.sem σ ρ' O G H _ (fun x O1 => (∃ ds, (x = .lst ds ∨ x = .frz ds) ∧ P (.lst ds.reverse) O1) ∨ ∃ ds, x = .tup ds ∧ P (.tup ds.reverse) O1) R hρ f0 hW ⟨θ, ρ, st, c, hh.bind fun θ1 a a' st1 O1 s1 ra m1 h1 => ?_⟩ fun x O1 v G1 H1 hx e1 f1 r1 => ?_
  · cases ra <;> try (exact h1.elim)
    · rename_i r
      exact .inl ⟨_, .inl rfl, Aft.ok h1 (.lst r.rev) m1⟩
    · rename_i r
      exact .inr ⟨_, rfl, Aft.ok h1 (.tup r.rev) m1⟩
    · rename_i r
      exact .inl ⟨_, .inr rfl, Aft.ok h1 (.lst r.rev) m1⟩
  · have sm := Frm.same f1
    rcases hx with ⟨ds, ex | ex, p⟩ | ⟨ds, ex, p⟩ <;> subst ex
    · cases r1 with
      | lst h l => exact ⟨_, _, rfl, .inl ⟨SqL.of (sm _ _ h), fun z nz => kk _ O1 _ _ _ p (e1.trans (same_new (sm.free nz))) (Frm.ext f1 nz) (.lst upd_same (l.rev.mono (same_new (sm.free nz))))⟩⟩
    · cases r1 with
      | frz h l => exact ⟨_, _, rfl, .inl ⟨sql_mono sm h.sql, fun z nz => kk _ O1 _ _ _ p (e1.trans (same_new (sm.free nz))) (Frm.ext f1 nz) (.lst upd_same (l.rev.mono (same_new (sm.free nz))))⟩⟩
    · cases r1 with
      | tup h l => exact ⟨_, _, rfl, .inr ⟨sqt_mono sm h, fun z nz => kk _ O1 _ _ _ p (e1.trans (same_new (sm.free nz))) (Frm.ext f1 nz) (.tup (SqT.of upd_same) (l.rev.mono (same_new (sm.free nz))))⟩⟩
end
end FL

set_option Elab.async false
set_option linter.all false
set_option maxRecDepth 100000
set_option maxHeartbeats 4000000
namespace FL
open PySem PySem.Spec PyProof.Rows L2 DL
/-! enumerate(e), e a list or a tuple -/
theorem meets_enumB {v : Value} {o : Obj} {H : Heap → Prop} (B : Begins v o H) :
    Meets (Builtin.«enumerate.__new__» ⟨[.type "enumerate", v], []⟩) (fun _ R s => H s.heap ∧
      R (.ok (.ret (.ref (s.heap.push o).objs.size))) { s with heap := (s.heap.push o).push { cls := .type "enumerate", data := .fields #[.none, .bool false, .ref s.heap.objs.size, rawInt 0, .none, .none] } }) :=
  .of_wp fun prog w A R s h => by
    obtain ⟨hp, g, d, tk, os⟩ := s; obtain ⟨hv, h⟩ := h
    have hsub := sub_enumerate
    have it : ∀ {A' : Around} {E : Value → Shared → Prop} {Q : Value → Shared → Prop}, Q (.ref hp.objs.size) ⟨hp.push o, g, d, tk, os⟩ → wpAny (model prog w) A' (pyIter v) Q E ⟨hp, g, d, tk, os⟩ := fun q => B.iter prog w _ _ ⟨hp, g, d, tk, os⟩ _ hv q
    wp_walk using it
    refine wpAny_stack_any fun sk => wpAny_pure ?_
    split
    · rename_i c _ _ _ _ _
      cases (c == Value.type "enumerate") <;> (wp_walk using it; exact ⟨_, rfl, h⟩)
    · wp_walk using it
      exact ⟨_, rfl, h⟩
section
variable {prog : Program} {w : World} {A : Around} {E : Value → Shared → Prop} {s : Shared}
theorem enum_beginsB {v : Value} {o : Obj} {H : Heap → Prop} {Q : Value → Shared → Prop} (B : Begins v o H) (hv : H s.heap)
    (h : ∀ h', IsEnum h' (s.heap.objs.size + 1) s.heap.objs.size 0 .none → h'.get? s.heap.objs.size = some o → (∀ b o, s.heap.get? b = some o → h'.get? b = some o) → Q (.ref (s.heap.objs.size + 1)) { s with heap := h' }) :
    wpAny (model prog w) A (call (.type "enumerate") [v]) Q E s := by
  refine callType_new F.called_enumerate (by decide) (F.typeCall_enumerate_1 _) (F.newCall_enumerate_1 _) (fun obj => F.args_object_init_2 obj _) F.entry_enumerate_new (meets_enumB B) ⟨hv, ?_⟩
  have hz : (s.heap.push o).objs.size = s.heap.objs.size + 1 := Heap.size_push ..
  show _ ∧ _
  rw [hz]
  have he : IsEnum ((s.heap.push o).push { cls := .type "enumerate", data := .fields #[.none, .bool false, .ref s.heap.objs.size, rawInt 0, .none, .none] }) (s.heap.objs.size + 1) s.heap.objs.size 0 .none := by
    have q := Heap.get?_push_size (s.heap.push o) (o := { cls := .type "enumerate", data := .fields #[.none, .bool false, .ref s.heap.objs.size, rawInt 0, .none, .none] }) rfl
    rwa [hz] at q
  exact ⟨⟨_, he, rfl⟩, h _ he (Heap.get?_push_of_some _ (Heap.get?_push_size _ B.free)) fun b o x => Heap.get?_push_of_some _ (Heap.get?_push_of_some _ x)⟩
end
/-- the tuple at a, its items with their places in new pairs -/
def Itet (K : PySem.W.Frag) (a : Addr) : It :=
  ⟨fun i H => ∃ (xs : List V) (x : V), SqT K H a xs ∧ xs[i]? = some x, fun i H v H' => ∃ T x, v = .ref T ∧ H T = none ∧ H' = upd H T (.tup [.int (i : Nat), x]) ∧ ∀ xs, SqT K H a xs → xs[i]? = some x, fun i H => ∃ xs : List V, SqT K H a xs ∧ xs.length = i⟩
theorem turn_enumT {P : Program} {w : World} {K : PySem.W.Frag} {elts : List Expr} {kk : Nat} {tpos : Pos} (a e it : Addr) :
    Turn P w K (.Tuple elts kk tpos) (Itet K a) [e, it] e (fun i h => (∃ old, IsEnum h e it ((i : Nat) : Int) old) ∧ h.IsTupleIter it a i ∧ e ≠ it) where
  mem := List.mem_cons_self
  obj := fun i h ⟨⟨old, he⟩, ⟨o, ho, _, hd⟩, _⟩ b hb => by
    rcases List.mem_cons.mp hb with rfl | hb
    · exact ⟨_, he, fun v q => nomatch q⟩
    · rw [List.mem_singleton.mp hb]
      exact ⟨o, ho, fun v q => by rw [hd] at q; cases q⟩
  keep := fun i h h' ⟨⟨old, he⟩, hi, hne⟩ k => ⟨⟨old, k e List.mem_cons_self _ he⟩, hi.at fun o q => k it (List.mem_cons_of_mem _ List.mem_cons_self) o q, hne⟩
  item := by
    intro X hP hw hK hc i pins s σ H E I hf ⟨⟨old, he⟩, hit, hne⟩ ⟨xs, x, hq, hx⟩
    subst hP hw hK
    obtain ⟨its, rv, p, hz⟩ := I.tuple hq
    obtain ⟨u, hu, ru⟩ := rv.get hx
    have lte : e < s.heap.objs.size := Heap.lt_size he
    have lti : it < s.heap.objs.size := by obtain ⟨_, q, _⟩ := hit; exact Heap.lt_size q
    have nea : e ≠ a := fun z => by
      obtain ⟨o, ho, hcl, _⟩ := p
      rw [← z, he] at ho
      cases ho
      injection hcl with q
      exact absurd q (by decide)
    have nia : a ≠ it := fun z => by
      obtain ⟨o, ho, hcl, _⟩ := p
      obtain ⟨o2, ho2, hcl2, _⟩ := hit
      rw [z, ho2] at ho
      cases ho
      rw [hcl2] at hcl
      injection hcl with q
      exact absurd q (by decide)
    have D := Draws.tuple (prog := X.prog) (w := X.w) (A := X.A.in1) (I.ok.hd hc) it a nia its.toArray
    have hi : i < its.toArray.size := by
      have q := (List.getElem?_eq_some_iff.mp hu).1
      simpa using q
    refine wpAny_pyNext_enum_itemC (c := (i : Int)) D he ⟨hit, p⟩ hi hne (fun q => by simp at q; exact q.elim hne nea) fun y h' tk hy ho hs' hT hsz hk => ?_
    have ey : y = u := by
      have q : its[i]? = some y := by simpa using hy
      rw [hu] at q
      exact (Option.some.inj q).symm
    subst ey
    refine ⟨_, rfl, wpAny_letOwnedTupleGo_enum (s := { s with heap := h', toks := tk + 1 }) ho fun h2 he2 sb => ?_⟩
    have hT2 : h2.get? s.heap.objs.size = some { cls := .type "tuple", data := .seq #[.int i tk, y] } := (sb.2 _ (Nat.ne_of_gt lte)).trans hT
    have new : ObjOk X.prog X.w (upd H s.heap.objs.size (.tup [.int (i : Nat), x])) h2 s.heap.objs.size (.tup [.int (i : Nat), x]) :=
      ⟨by show 2 ≤ sizeLine; decide, [.int i tk, y], .cons ⟨_, rfl⟩ (.cons ru .nil), ⟨_, hT2, rfl, _, rfl⟩⟩
    have kp : ∀ b o, b ∉ [e, it] → s.heap.get? b = some o → h2.get? b = some o := fun b o hb q => by
      have n1 : b ≠ e := fun z => hb (by rw [z]; exact List.mem_cons_self)
      have n2 : b ≠ it := fun z => hb (by rw [z]; exact List.mem_cons_of_mem _ List.mem_cons_self)
      exact (sb.2 b n1).trans (hk b o n1 n2 q)
    have I1 : Inv X pins σ (upd H s.heap.objs.size (.tup [.int (i : Nat), x])) { s with heap := h2, toks := tk + 1 } := I.turnedNew (ch := [e, it]) kp hf (Nat.le_refl _) new
    refine ⟨.ref s.heap.objs.size, _, I1, rfl, ⟨_, x, rfl, I.hok.fresh (Nat.le_refl _), rfl, fun ys hy2 => by rw [I.tuple_inj hy2 hq]; exact hx⟩, ⟨⟨y, ?_⟩, hs'.1.at fun o q => (sb.2 it (Ne.symm hne)).trans q, hne⟩, fun b hb => ?_⟩
    · have e1 : ((i + 1 : Nat) : Int) = (i : Int) + 1 := by omega
      rw [e1]
      exact he2
    · have lb : b < s.heap.objs.size := by
        rcases List.mem_cons.mp hb with z | z
        · rw [z]; exact lte
        · rw [List.mem_singleton.mp z]; exact lti
      rw [upd_ne (Nat.ne_of_lt lb)]
      exact (hf b hb).1
  done := by
    intro X hP hw hK hc i pins s σ H E I hf ⟨⟨old, he⟩, hit, hne⟩ ⟨xs, hq, hx⟩
    subst hP hw hK hx
    obtain ⟨its, rv, p, hz⟩ := I.tuple hq
    obtain ⟨f0, f1, f2, f3, f4, f5⟩ := hf it (List.mem_cons_of_mem _ List.mem_cons_self)
    have nia : a ≠ it := fun z => by
      obtain ⟨o, ho, hcl, _⟩ := p
      obtain ⟨o2, ho2, hcl2, _⟩ := hit
      rw [z, ho2] at ho
      cases ho
      rw [hcl2] at hcl
      injection hcl with q
      exact absurd q (by decide)
    have D := Draws.tuple (prog := X.prog) (w := X.w) (A := X.A.in1) (I.ok.hd hc) it a nia its.toArray
    have hl : xs.length = its.toArray.size := by rw [List.size_toArray]; exact rv.length
    rw [hl] at hit he
    exact wpAny_pyNext_enum_endD D he ⟨hit, p⟩ fun h' eb => ⟨rfl, I.turned (t' := s.toks) (fun b o hb q => eb b o hb q) f0 f1 f3 f4 f5⟩
  self := fun A i s Q E ⟨⟨_, he⟩, _⟩ h => wpAny_pyIter_enum he h
def iEnA (K : PySem.W.Frag) (ta : TA) : TI := fun σ H R => ta σ H fun vs H1 => ∃ a, vs = [.ref a] ∧ ((∃ xs, SqL K H1 a xs ∧ R (Ite K a) H1) ∨ ∃ xs, SqT K H1 a xs ∧ R (Itet K a) H1)
theorem pi_enumA {X : Cx} {e : Expr} {ta : TA} {p pos tpos : Pos} {elts : List Expr} {kk : Nat} (hg : Gl X "enumerate") (hm : X.mg "enumerate" = none) (ha : PA X [e] ta) (hs : starEach [e] X.env = [(false, eval e X.env)] := by rfl) :
    PI X (.Tuple elts kk tpos) (.Call (.Name "enumerate" p) [e] [] pos) (iEnA X.K ta) := by
  refine ⟨fun pins s σ H R I h => ?_⟩
  refine Call_ (ld_blt I hg hm boot_enumerate (PyProof.Rows.callWith_type1 (thn (ha.run pos pins s σ H _ I h) fun us s1 ⟨vs, H1, I1, r1, a, ex, q⟩ => ?_) hs rfl))
  subst ex
  cases r1 with
  | cons r rr =>
    cases rr
    cases r
    have fp : ∀ b ∈ [s1.heap.objs.size + 1, s1.heap.objs.size], FpOk X pins H1 b := fun b hb => by
      have lb : s1.heap.objs.size ≤ b := by
        rcases List.mem_cons.mp hb with z | z
        · rw [z]; exact Nat.le_succ _
        · rw [List.mem_singleton.mp z]; exact Nat.le_refl _
      exact I1.fpOk lb (I1.hok.fresh lb)
    rcases q with ⟨xs, hq, q⟩ | ⟨xs, hq, q⟩
    · obtain ⟨its, rv, pl, hz⟩ := I1.list hq
      refine call_enumerate_list pl.isList fun h2 he hit _ kp => wpAny_pyIter_enum he ?_
      exact ⟨_, _, _, _, H1, rfl, I1.kept (t' := s1.toks) kp, turn_enum a (s1.heap.objs.size + 1) s1.heap.objs.size, ⟨⟨.none, he⟩, hit, Nat.succ_ne_self _⟩, fp, q⟩
    · obtain ⟨its, rv, pt, hz⟩ := I1.tuple hq
      refine enum_beginsB (begins_tuple a its.toArray) pt fun h2 he ho kp => wpAny_pyIter_enum he ?_
      exact ⟨_, _, _, _, H1, rfl, I1.kept (t' := s1.toks) kp, turn_enumT a (s1.heap.objs.size + 1) s1.heap.objs.size, ⟨⟨.none, he⟩, ⟨_, ho, rfl, rfl⟩, Nat.succ_ne_self _⟩, fp, q⟩
section
variable {K : PySem.W.Frag} {mg : Str → Option Value} {G : Hp}
/-- the trees with their places -/
def enumD (k : Nat) : List D → List D
  | [] => []
  | d :: ds => .tup [.int (k : Nat), d] :: enumD (k + 1) ds
theorem enumD_len : ∀ {ds : List D} {k : Nat}, (enumD k ds).length = ds.length
  | [], _ => rfl
  | d :: ds, k => by rw [enumD, List.length_cons, enumD_len, List.length_cons]
theorem enumD_at : ∀ {ds : List D} {k i : Nat} {d : D}, ds[i]? = some d → (enumD k ds)[i]? = some (.tup [.int ((k + i : Nat) : Nat), d])
  | [], _, _, _, h => by simp at h
  | e :: ds, k, 0, d, h => by
    simp at h
    subst h
    rfl
  | e :: ds, k, i + 1, d, h => by
    have q := enumD_at (k := k + 1) (i := i) (d := d) (by simpa using h)
    rw [enumD, List.getElem?_cons_succ, q]
    congr 5
    omega
theorem y_enumL {a : Addr} {vs : List V} {ds : List D} (h : SqL K G a vs) (r : RpL K mg G vs ds) : Yields K mg (Ite K a) G (enumD 0 ds) := fun G' H e e' => by
  have hq : SqL K H a vs := sql_mono (e.trans e') h
  have hl := r.len
  rw [enumD_len]
  refine ⟨fun i hi => ⟨vs, vs[i]'(by omega), hq, by simp [hl, hi]⟩, ⟨vs, hq, by omega⟩, fun i x H' hi ⟨T, y, ex, nT, eH, hy⟩ => ?_⟩
  subst ex eH
  obtain ⟨d, h1, h2⟩ := r.atV (hy vs hq)
  have sg := same_new (o := HO.tup [.int (i : Nat), y]) (e'.free nT)
  refine ⟨_, .one nT, _, enumD_at h1, .tup (SqT.of upd_same) ?_⟩
  rw [Nat.zero_add]
  exact .cons (.int _) (.cons ((h2.mono e).mono sg) .nil)
theorem y_enumT {a : Addr} {vs : List V} {ds : List D} (h : SqT K G a vs) (r : RpL K mg G vs ds) : Yields K mg (Itet K a) G (enumD 0 ds) := fun G' H e e' => by
  have hq : SqT K H a vs := sqt_mono (e.trans e') h
  have hl := r.len
  rw [enumD_len]
  refine ⟨fun i hi => ⟨vs, vs[i]'(by omega), hq, by simp [hl, hi]⟩, ⟨vs, hq, hl⟩, fun i x H' hi ⟨T, y, ex, nT, eH, hy⟩ => ?_⟩
  subst ex eH
  obtain ⟨d, h1, h2⟩ := r.atV (hy vs hq)
  have sg := same_new (o := HO.tup [.int (i : Nat), y]) (e'.free nT)
  refine ⟨_, .one nT, _, enumD_at h1, .tup (SqT.of upd_same) ?_⟩
  rw [Nat.zero_add]
  exact .cons (.int _) (.cons ((h2.mono e).mono sg) .nil)
end
theorem enumD_rn {θ : Th} : ∀ {a b : List D} {k : Nat}, RnL θ a b → RnL θ (enumD k a) (enumD k b)
  | _, _, _, .nil => .nil
  | _, _, _, .cons r rl => .cons (.tup (.cons (.int _) (.cons r .nil))) (enumD_rn rl)
def iEn (f : fE) : fA := fun ρ st => (f ρ st).bind fun d st1 => match seqOf d with
  | some ds => .ok (enumD 0 ds) st1
  | none => .bad
section
variable {X : Cx} {Φ : OH → Hp → Hp → Prop} {W : WX} [FΦ : OFrm X.K X.mg Φ] {J : Jv}
theorem fi_enum {e : Expr} {f : fE} {p pos tpos : Pos} {elts : List Expr} {kk : Nat} (hg : Gl X "enumerate") (hm : X.mg "enumerate" = none) (h : FE X Φ W J e f) (hs : starEach [e] X.env = [(false, eval e X.env)] := by rfl) :
    FI X Φ W J (.Tuple elts kk tpos) (.Call (.Name "enumerate" p) [e] [] pos) (iEn f) := by
  obtain ⟨te, h⟩ := h
  refine ⟨_, pi_enumA hg hm (pa_cons h.pe pa_nil (by exact hs)) hs, fun σ ρ' O G H Q P R hρ f0 hW ⟨θ, ρ, st, c, hh⟩ kk => ?_⟩
  refine h.sem σ ρ' O G H _ (fun x O1 => ∃ ds, seqOf x = some ds ∧ P (enumD 0 ds) O1) R hρ f0 hW ⟨θ, ρ, st, c, hh.bind fun θ1 a a' st1 O1 s1 ra m1 h1 => ?_⟩ fun x O1 v G1 H1 ⟨ds, hx, p⟩ e1 f1 r1 => ?_
  · cases ra <;> try (exact h1.elim)
    all_goals
      rename_i r
      exact ⟨_, rfl, Aft.ok h1 (enumD_rn r) m1⟩
  · have sm := Frm.same f1
    show ∃ a, _
    cases r1 with
    | lst h l =>
      cases hx
      exact ⟨_, rfl, .inl ⟨_, SqL.of (sm _ _ h), kk _ O1 _ G1 H1 p e1 f1 (y_enumL (SqL.of h) l)⟩⟩
    | tup h l =>
      cases hx
      exact ⟨_, rfl, .inr ⟨_, sqt_mono sm h, kk _ O1 _ G1 H1 p e1 f1 (y_enumT h l)⟩⟩
    | frz h l =>
      cases hx
      exact ⟨_, rfl, .inl ⟨_, sql_mono sm h.sql, kk _ O1 _ G1 H1 p e1 f1 (y_enumL h.sql l)⟩⟩
    | _ => cases hx
end
end FL

set_option Elab.async false
set_option linter.all false
set_option maxRecDepth 100000
set_option maxHeartbeats 4000000
namespace FL
open PySem PySem.Spec PyProof.Rows L2 DL
/-! t * 1 of a tuple: the tuple itself -/
theorem tuple_mul_one (l : Addr) (items : Array Value) (n : Nat) (dd : Option Addr) (sl : Array (Option Value)) (u : Tok) :
    Meets (Builtin.«tuple.__mul__» ⟨[.ref l, .int 1 u], []⟩) (fun _ R s => s.heap.get? l = some { cls := .type "tuple", dict := dd, data := .seq items n, slots := sl } ∧ R (.ok (.ret (Value.ref l))) s) :=
  .of_wp fun prog w A R s h => by
    obtain ⟨hp, g, d, tk, os⟩ := s
    obtain ⟨hl, h⟩ := h
    have f1 := AutoSeq1.idx_int
    wp_walk using wpAny_loadPart' hl
    exact ⟨_, rfl, h⟩
def rRep1 (K : PySem.W.Frag) : R2 := fun x y H Q => ∃ l xs, x = .ref l ∧ y = .int 1 ∧ SqT K H l xs ∧ Q (.ref l) H
section
variable {X : Cx}
theorem op_rep1 : OpR X (binaryOp .Mult) (rRep1 X.K) := by
  intro pins s σ H x y v u Q I rx ry ⟨l, xs, ex, ey, hT, q⟩
  subst ex ey
  cases rx
  obtain ⟨t, rfl⟩ := ry
  obtain ⟨its, r, ⟨⟨cl, dd, dt, sl⟩, ho, hc, n, hd⟩, _⟩ := I.tuple hT
  simp only at hc hd
  subst hc hd
  exact wpAny_binaryOp_repeat_ref (T := "tuple") (U := "int") (by decide) ⟨_, ho, rfl⟩ (fun s' => typeIs_int s' 1 t) noFill_tuple_mul F.fills_int_mul F.slot_int_rmul repeat_tuple F.slot_int_index.lookup
    (call_meets F.slot_int_rmul (typeIs_int s 1 t) F.entry_int_rmul (F.args_int_rmul_2 _ _) (int_rmul_tuple 1 t l its.toArray n dd sl)
      ⟨ho, rfl, ⟨_, ho, rfl⟩, call_meets F.slot_tuple_mul ⟨_, ho, rfl⟩ F.entry_tuple_mul (F.args_tuple_mul_2 _ _) (tuple_mul_one l its.toArray n dd sl t) ⟨ho, ⟨.ref l, H, I, rfl, q⟩⟩⟩)
def wMul1 : W2 := fun a b P => wMul a b P ∨ ∃ x, a = .tup x ∧ b = .int 1 ∧ P (.tup x)
def rMulX (K : PySem.W.Frag) : R2 := fun x y H Q => rI CMul (fun i j => .int (i * j)) x y H Q ∨ rI CMulW (fun i j => .int (i * j)) x y H Q ∨ rRep x y H Q ∨ rRepT K x y H Q
theorem o_mul1 : Op2 X (binaryOp .Mult) (fun x y H Q => rMulX X.K x y H Q ∨ rRep1 X.K x y H Q) wMul1 := by
  refine ⟨o_mul.op.or op_rep1, fun x y a b G H Q P ra rb sm h k => ?_⟩
  rcases h with h | ⟨z, ea, eb, h⟩
  · exact .inl (o_mul.sem x y a b G H Q P ra rb sm h k)
  · subst ea eb
    cases rb
    have ra' := ra
    cases ra with
    | tup p q => exact .inr ⟨_, _, rfl, rfl, sqt_mono sm p, k _ _ G H h .refl ra'⟩
def oMul1 : D → D → Option D
  | .tup x, .int k => if k = 1 then some (.tup x) else oMul (.tup x) (.int k)
  | a, b => oMul a b
theorem ow_mul1 : OW oMul1 wMul1 := ⟨fun θ a b a' b' d P ra rb h k => by
  by_cases q : ∃ x, a = .tup x ∧ b = .int 1
  · obtain ⟨x, ea, eb⟩ := q
    subst ea eb
    cases ra with
    | tup r =>
      cases rb
      simp only [oMul1, if_true] at h
      cases h
      exact .inr ⟨_, rfl, rfl, k _ (.tup r)⟩
  · refine .inl (ow_mul.run θ a b a' b' d P ra rb ?_ k)
    revert h q
    cases a <;> cases b <;> first | exact fun q h => h | exact fun h q => h | skip
    rename_i x i
    intro h q
    simp only [oMul1] at h
    split at h
    · rename_i e
      exact absurd ⟨x, rfl, by rw [e]⟩ q
    · exact h⟩
end
section
variable {X : Cx} {Φ : OH → Hp → Hp → Prop} {W : WX} [FΦ : OFrm X.K X.mg Φ] {J : Jv}
/-! xs[i] += e of one's own list, ints -/
theorem get_list : PGet X fun o i H Q => ∃ p xs k z, o = .ref p ∧ i = .int k ∧ H p = some (.lst xs) ∧ atI xs k = some z ∧ Q z H := by
  intro pins s σ H o i ov iv Q I ro ri ⟨p, xs, k, z, eo, ei, hp, hz, q⟩
  subst eo ei
  cases ro
  obtain ⟨t, rfl⟩ := ri
  obtain ⟨its, r, pl, hs⟩ := I.list (SqL.of hp)
  obtain ⟨j, h1, h2, h3, h4, h5⟩ := atI_get hz
  obtain ⟨w, ew, rw'⟩ := r.get h2
  have hl := r.length
  have hn := line63
  have fin : EP X pins σ Q w s := ⟨z, H, I, rw', q⟩
  by_cases h0 : 0 ≤ k
  · have hj : k.toNat = j := by
      rw [seqIndex_of h0 h5] at h1
      exact Option.some.inj h1
    exact wpAny_getItem_list pl.isList h0 (by omega) (by rw [hj]; simpa using ew) fin
  · have hj : (k + (its.toArray.size : Int)).toNat = j := by
      rw [seqIndex_neg (by omega) h4] at h1
      rw [List.size_toArray, ← hl]
      exact Option.some.inj h1
    exact wpAny_getItem_list_neg pl.isList (by omega) (by rw [List.size_toArray] <;> omega) (by omega) (by rw [hj]; simpa using ew) fin
structure IpOk (X : Cx) (op : Operator) (g : Int → Int → Int) : Prop where
  ip : PIp X op (ipI g)
theorem ip_addO : IpOk X .Add fun i j => i + j := ⟨ip_add⟩
theorem ip_subO : IpOk X .Sub fun i j => i - j := ⟨ip_sub⟩
def augK (g : Int → Int → Int) (ρ : Rho) (st : St) (a : Addr) (k i j : Int) : RS := match st[a]? with
  | some (some (.lst ds)) => match ixN ds.length k with
    | some n => .nx ρ (st.set a (some (.lst (ds.set n (.int (g i j))))))
    | none => .bad
  | _ => .bad
def augE (g : Int → Int → Int) (ρ : Rho) (st : St) (a : Addr) (k i : Int) (d : D) : RS := match d with
  | .int j => augK g ρ st a k i j
  | _ => .bad
def augI (ds : List D) (k : Int) : Option Int := match atI ds k with
  | some (.int i) => some i
  | _ => none
def augO (st : St) (x y : D) : Option (Addr × Int × Int) := match x, y with
  | .loc a, .int k => match st[a]? with
    | some (some (.lst ds)) => (augI ds k).map fun i => (a, k, i)
    | _ => none
  | _, _ => none
def fAugS (g : Int → Int → Int) (o i e : fE) : fS := fun ρ st => stB (o ρ st) ρ fun x st1 => stB (i ρ st1) ρ fun y st2 => match augO st2 x y with
  | some (a, k, i) => stB (e ρ st2) ρ fun d st3 => augE g ρ st3 a k i d
  | none => .bad
theorem augO_run {θ : Th} {st : St} {O : OH} {x y x' y' : D} {r : Addr × Int × Int} (m : Mt θ st O) (rx : Rn θ x x') (ry : Rn θ y y') (h : augO st x y = some r) : ∃ p ds', x' = .loc p ∧ θ[r.1]? = some p ∧ y' = .int r.2.1 ∧ O p = some (.lst ds') ∧ atI ds' r.2.1 = some (.int r.2.2) := by
  cases rx <;> cases ry <;> try (cases h; done)
  rename_i a p hp k
  unfold augO at h
  simp only at h
  cases w : st[a]? with
  | none => rw [w] at h; cases h
  | some u =>
    cases u with
    | none => rw [w] at h; cases h
    | some z =>
      rw [w] at h
      obtain ⟨z', h1, h2⟩ := m.at w hp
      cases h2 with
      | @lst ds ds' rl =>
        simp only [Option.map_eq_some_iff] at h
        obtain ⟨i, hi, e⟩ := h
        subst e
        unfold augI at hi
        cases q : atI ds k with
        | none => rw [q] at hi; cases hi
        | some d =>
          rw [q] at hi
          obtain ⟨d', h3, h4⟩ := at_rn rl q
          cases h4 <;> try (cases hi; done)
          cases hi
          exact ⟨p, ds', rfl, hp, rfl, h1, h3⟩
      | _ => cases h
theorem fs_augS {op : Operator} {gi : Int → Int → Int} {o i e : Expr} {fo fi f : fE} {tpos pos : Pos} (ip : IpOk X op gi) (ho : FE X Φ W J o fo) (hi : FE X Φ W J i fi) (he : FE X Φ W J e f)
    (ha : ∀ ov iv new, augStore i ov iv new = (do holding [new, ov, iv] (setItem ov iv new); release [new, ov, iv] []; pure .next) := by intros; rfl) : FS X Φ W J (.AugAssign (.Subscript o i tpos) op e pos) (fAugS gi fo fi f) := by
  obtain ⟨to, ho⟩ := ho
  obtain ⟨ti, hi⟩ := hi
  obtain ⟨te, he⟩ := he
  refine ⟨_, ps_augS ho.pe hi.pe get_list he.pe ip.ip set_list ha, fun σ ρ' O G H D M hρ f0 ⟨θ, ρ, st, c, h⟩ E => ?_⟩
  have hW := E.wsh hρ
  refine ho.sem σ ρ' O G H _ (fun x O1 => ∃ θ1 a1 st1, θ <+: θ1 ∧ Rn θ1 a1 x ∧ Mt θ1 st1 O1 ∧ AftS J θ1 (stB (fi ρ st1) ρ fun y st2 => match augO st2 a1 y with | some (a, k, i) => stB (f ρ st2) ρ fun d st3 => augE gi ρ st3 a k i d | none => .bad) M) _ hρ f0 hW
    ⟨θ, ρ, st, c, h.stB c fun θ1 a a' st1 O1 s1 ra m1 h1 => ⟨θ1, a, st1, s1, ra, m1, h1⟩⟩ fun x O1 u G1 H1 ⟨θ1, a1, st1, s1, ra, m1, h1⟩ e1 f1 r1 => ?_
  refine hi.sem σ ρ' O1 G1 H1 _ (fun y O2 => ∃ θ2 b1 st2, θ1 <+: θ2 ∧ Rn θ2 b1 y ∧ Mt θ2 st2 O2 ∧ AftS J θ2 (match augO st2 a1 b1 with | some (a, k, i) => stB (f ρ st2) ρ fun d st3 => augE gi ρ st3 a k i d | none => .bad) M) _ (hρ.mono e1) f1 (hW.mono e1)
    ⟨θ1, ρ, st1, c.step s1 m1, h1.stB (c.step s1 m1) fun θ2 b b' st2 O2 s2 rb m2 h2 => ⟨θ2, b, st2, s2, rb, m2, h2⟩⟩ fun y O2 v G2 H2 ⟨θ2, b1, st2, s2, rb, m2, h2⟩ e2 f2 r2 => ?_
  cases q : augO st2 a1 b1 with
  | none => rw [q] at h2; exact h2.elim
  | some r =>
    rw [q] at h2
    obtain ⟨p, ds', ex, hp, ey, hO, hz⟩ := augO_run m2 (ra.mono s2) rb q
    subst ex ey
    have r1' := r1
    cases r1
    cases r2
    obtain ⟨_, ob, hob, ro⟩ := FΦ.own f2 hO
    cases ro with
    | lst rl =>
      obtain ⟨z, hz2, rz⟩ := rp_at rl hz
      cases rz
      refine ⟨p, _, r.2.1, _, rfl, rfl, hob, hz2, ?_⟩
      have e12 := e1.trans e2
      refine he.sem σ ρ' O2 G2 H2 _ (fun d O3 => ∃ θ3 d1 st3, θ2 <+: θ3 ∧ Rn θ3 d1 d ∧ Mt θ3 st3 O3 ∧ AftS J θ3 (augE gi ρ st3 r.1 r.2.1 r.2.2 d1) M) _ (hρ.mono e12) f2 (hW.mono e12)
        ⟨θ2, ρ, st2, c.step (s1.trans s2) m2, AftS.stB h2 (c.step (s1.trans s2) m2) fun θ3 d d' st3 O3 s3 rd m3 h3 => ⟨θ3, d, st3, s3, rd, m3, h3⟩⟩ fun d O3 w3 G3 H3 ⟨θ3, d1, st3, s3, rd, m3, h3⟩ e3 f3 r3 => ?_
      cases rd with
      | int j =>
        cases r3
        refine ⟨_, _, rfl, rfl, ?_⟩
        have h4 : AftS J θ3 (augK gi ρ st3 r.1 r.2.1 r.2.2 j) M := h3
        unfold augK at h4
        have hp3 := sub_at s3 hp
        cases w : st3[r.1]? with
        | none => rw [w] at h4; exact h4.elim
        | some u =>
          cases u with
          | none => rw [w] at h4; exact h4.elim
          | some z =>
            rw [w] at h4
            obtain ⟨z', h5, h6⟩ := m3.at w hp3
            cases h6 with
            | @lst ds es rls =>
              simp only at h4
              cases qn : ixN ds.length r.2.1 with
              | none => rw [qn] at h4; exact h4.elim
              | some n =>
                rw [qn] at h4
                obtain ⟨_, ob3, hob3, ro3⟩ := FΦ.own f3 h5
                cases ro3 with
                | lst rl3 =>
                  have s13 := (s1.trans s2).trans s3
                  have e13 := e12.trans e3
                  refine ⟨p, _, r.2.1, n, rfl, rfl, hob3, by rw [rl3.len, ← rls.len]; exact qn, ?_⟩
                  exact E.nx σ ρ' _ G3 _ (h4 θ3 ρ' _ (List.prefix_refl _) ((c.step s13 m3).step (List.prefix_refl _) (m3.put w hp3 (.lst (RnL.set (.int _) n rls))))) e13 (hρ.mono e13) (FΦ.put f3 h5 (.lst (rpl_set (.int _) n rl3)))
            | _ => exact h4.elim
      | _ => exact h3.elim
end
end FL

set_option Elab.async false
set_option linter.all false
set_option maxRecDepth 100000
set_option maxHeartbeats 1000000
namespace FL
open PySem PySem.Spec PyProof.Rows L2 DL
/-- a module's constant is this tree -/
def GlE (K : PySem.W.Frag) (mg : Str → Option Value) (x : Str) (d : D) : Prop := ∃ u v, mg x = some u ∧ L2.RelV v u ∧ (∀ G, Rp K mg G v d) ∧ noLoc d = true
section
variable {X : Cx} {Φ : OH → Hp → Hp → Prop} {W : WX} [FΦ : OFrm X.K X.mg Φ] {J : Jv}
theorem fe_globE {x : Str} {d : D} {pos : Pos} (hg : Gl X x) (h : GlE X.K X.mg x d) (hd : (x == ("__debug__" : Str)) = false := by decide) : FE X Φ W J (.Name x pos) (fC d) := by
  obtain ⟨u, v, h1, h2, h3, h4⟩ := h
  exact fe_glob hg h1 h2 h3 h4 hd
theorem fs_asgSub {o i e : Expr} {f : fE} {fg : fG} {p2 pos : Pos} (h : FE X Φ W J e f) (hg : ∃ g, DG X Φ (.Subscript o i p2) g (dG J fg) []) (hs : swapsWithSole [.Subscript o i p2] e pos.line X.env = pure false := by rfl) (hw : swappedStores [.Subscript o i p2] e X.env = pure none := by rfl)
    (h1 : (assignEach [.Subscript o i p2] X.env).map (·.2) = [assign (.Subscript o i p2) X.env] := by rfl) : FS X Φ W J (.Assign [.Subscript o i p2] e pos) (fAsg f fg) := by
  obtain ⟨g, hg⟩ := hg
  exact fs_asg h hg hs hw h1
end
/-- what the other side of == may be: one of the class, or a built-in type's value -/
def eqok (C : Str) : D → Bool
  | .ins n _ _ => decide (n = C)
  | d => (tyD d).isSome
theorem eqok_rn {C : Str} (θ : Th) (a b : D) (r : Rn θ a b) : eqok C b = eqok C a := by cases r <;> rfl
end FL

set_option Elab.async false
set_option linter.all false
set_option maxRecDepth 100000
set_option maxHeartbeats 1000000
namespace FL
open PySem PySem.Spec PyProof.Rows L2 DL
/-! the facts of the written part, put together -/
section
variable {K : PySem.W.Frag} {mg : Str → Option Value}
theorem kit_two {t : Value} {S : Addr} {b : Bool} (h2 : PySem.W.isClsIn K S = true) (h3 : PySem.W.typeIn K (.ref S) = some (.type "type")) (h4 : PySem.W.subIn K t (.ref S) = some b) (hb : t = .ref S → b = true) : PySem.W.kitOne K t (.ref S) = some b := by
  have q : (PySem.W.clsIn K S).isSome = true := h2
  unfold PySem.W.kitOne PySem.W.kitCls
  by_cases e : t = .ref S
  · rw [if_pos (by rw [e]; exact beq_self_eq_true _), hb e]
  · rw [if_neg (by simpa using e)]
    simp [q, h3, h4]
theorem exm_two {t : Value} {S : Addr} {b : Bool} (h1 : PySem.W.subIn K (.ref S) (.type "BaseException") = some true) (h2 : PySem.W.isClsIn K S = true) (h3 : PySem.W.typeIn K (.ref S) = some (.type "type")) (h4 : PySem.W.subIn K t (.ref S) = some b) : PySem.W.exmOne K t (.ref S) = some b := by
  have q : (PySem.W.clsIn K S).isSome = true := h2
  unfold PySem.W.exmOne PySem.W.kitCls
  simp [h1, q, h3, h4]
/-- what a class of the text must tell -/
structure ClsF (K : PySem.W.Frag) (mg : Str → Option Value) (C : Addr) (Cn : Str) : Prop where
  m : mg Cn = some (.ref C)
  c : Cls K C
  g9 : PySem.W.findIn K (.ref C) "__class__" = some (some (.builtin "object.__class__"))
  ga : PySem.W.specialIn K (.builtin "object.__class__") "__get__" = some (some (.builtin "getset_descriptor.__get__"))
  gb : PySem.W.takesIn K (.builtin "object.__class__") = some true
  gd : PySem.W.mroIn K C (.type "object") = some true
theorem ClsF.ty {C : Addr} {Cn : Str} (F : ClsF K mg C Cn) {G H : Hp} {v : V} {ns : List Str} {ds : List D} (sm : Same G H) (r : Rp K mg G v (.ins Cn ns ds)) : TyX K H v (.ref C) := by
  cases r with
  | ins hm hg hl hr =>
    rw [F.m] at hm
    cases hm
    exact .base (.ins (sm _ _ hg) F.c F.g9 F.ga F.gb F.gd)
structure NotT (K : PySem.W.Frag) (C : Addr) : Prop where
  no : ∀ n ∈ ["NoneType", "bool", "int", "str", "list", "tuple", "dict"], PySem.W.subIn K (.type n) (.ref C) = some false
theorem tyD_in {d : D} {n : String} (h : tyD d = some n) : n ∈ ["NoneType", "bool", "int", "str", "list", "tuple", "dict"] := by
  cases d <;> simp [tyD] at h <;> simp [← h]
theorem isC_mk {C : Addr} {Cn : Str} {tb : List (Str × Bool)} (k1 : PySem.W.isClsIn K C = true) (k2 : PySem.W.typeIn K (.ref C) = some (.type "type")) (N : NotT K C)
    (hC : ∀ n b, tb.lookup n = some b → ∃ c, ClsF K mg c n ∧ PySem.W.subIn K (.ref c) (.ref C) = some b ∧ (c = C → b = true)) : IsiC K mg C (isC tb) := by
  refine ⟨fun G H v d b sm r h => ?_⟩
  have dat : ∀ n, tyD d = some n → b = false → ∃ t, TyX K H v t ∧ PySem.W.kitOne K t (.ref C) = some b := fun n hn hb => by
    subst hb
    exact ⟨_, rp_tyX sm r hn, kit_two k1 k2 (N.no n (tyD_in hn)) fun z => nomatch z⟩
  cases d with
  | ins n ns ds =>
    obtain ⟨c, F, h1, h2⟩ := hC n b h
    exact ⟨_, F.ty sm r, kit_two k1 k2 h1 fun z => h2 (by injection z)⟩
  | loc _ => simp [isC, tyD] at h
  | cls _ => simp [isC, tyD] at h
  | ty _ => simp [isC, tyD] at h
  | _ => cases h; exact dat _ rfl rfl
theorem eqT_mk {C : Addr} {Cn : Str} (F : ClsF K mg C Cn) (N : NotT K C) : EqT K mg C fun d => eqok Cn d = true := by
  refine ⟨fun G H v d sm r h => ?_⟩
  have dat : ∀ n, tyD d = some n → ∃ t, TyX K H v t ∧ PySem.W.notFirst K C t = true := fun n hn => by
    refine ⟨_, rp_tyX sm r hn, ?_⟩
    unfold PySem.W.notFirst
    rw [N.no n (tyD_in hn)]
    simp
  cases d with
  | ins n ns ds =>
    have e : n = Cn := by simpa [eqok] using h
    subst e
    refine ⟨_, F.ty sm r, ?_⟩
    unfold PySem.W.notFirst
    simp
  | loc _ => simp [eqok, tyD] at h
  | cls _ => simp [eqok, tyD] at h
  | ty _ => simp [eqok, tyD] at h
  | _ => exact dat _ rfl
theorem kTup {p : Addr} {o : Obj} {its : Array Value} {n : Nat} {xs : List V} (h : K.lookup p = some o) (hc : o.cls = .type "tuple") (hd : o.data = .seq its n) (hz : its.size ≤ sizeLine) (r : Vals xs its.toList) (H : Hp) : SqT K H p xs := .inr ⟨o, its, n, h, hc, hd, hz, r⟩
end
end FL

set_option Elab.async false
set_option linter.all false
set_option maxRecDepth 100000
set_option maxHeartbeats 1000000
/-! reckoning with the plain functions: rules of rewriting, one step each -/
namespace FL
open PySem PySem.Spec PyProof.Rows L2 DL
section
variable {α β : Type} {ρ ρ1 ρ2 : Rho} {st st1 st2 : St} {t u : fS} {tt uu : fT} {m n m2 : fE} {na nb : fA} {r r' : RS} {d e : D} {ds es : List D} {i j : Int} {x y : Str}
theorem bind_ok {a : α} {k : α → St → Res β} : (Res.ok a st).bind k = k a st := rfl
theorem stB_ok {a : α} {k : α → St → RS} : stB (.ok a st) ρ k = k a st := rfl
theorem bind_cg {k : α → St → Res β} {a b : Res α} (h : a = b) : a.bind k = b.bind k := by rw [h]
theorem stB_cg {k : α → St → RS} {a b : Res α} (h : a = b) : stB a ρ k = stB b ρ k := by rw [h]
def seqK (r : RS) (u : fS) : RS := match r with
  | .nx ρ st => u ρ st
  | r => r
theorem seqK_cg (h : r = r') : seqK r u = seqK r' u := by rw [h]
theorem seq_e : fSeq t u ρ st = seqK (t ρ st) u := rfl
theorem seqK_nx : seqK (.nx ρ st) u = u ρ st := rfl
theorem seqK_rt : seqK (.rt d st) u = .rt d st := rfl
def varK (o : Option (Option D)) (st : St) : Res D := match o with
  | some (some d) => .ok d st
  | _ => .bad
theorem varK_ok : varK (some (some d)) st = .ok d st := rfl
theorem var_e {i : Nat} : fVar i ρ st = varK ρ[i]? st := by
  unfold fVar varK
  cases ρ[i]? with
  | none => rfl
  | some o => cases o <;> rfl
theorem c_e : fC d ρ st = .ok d st := rfl
theorem optR_ok : optR (some d) st = .ok d st := rfl
theorem bin_e {o : D → D → Option D} : fBin o m n ρ st = (m ρ st).bind fun a st1 => (n ρ st1).bind fun b st2 => optR (o a b) st2 := rfl
theorem test_e : fTest m ρ st = (m ρ st).bind blR := rfl
theorem blR_ok {b : Bool} : blR (.bl b) st = .ok b st := rfl
theorem and_e : fAnd tt uu ρ st = (tt ρ st).bind fun c st1 => if c = true then uu ρ st1 else .ok false st1 := rfl
theorem or_e : fOr tt uu ρ st = (tt ρ st).bind fun c st1 => if c = true then .ok true st1 else uu ρ st1 := rfl
theorem not_e : fNot tt ρ st = (tt ρ st).bind fun c st1 => .ok (!c) st1 := rfl
def andK (n : fE) (ρ : Rho) (d : D) (st : St) : Res D := match d with
  | .bl true => n ρ st
  | .bl false => .ok (.bl false) st
  | _ => .bad
theorem andK_t : andK n ρ (.bl true) st = n ρ st := rfl
theorem andK_f : andK n ρ (.bl false) st = .ok (.bl false) st := rfl
theorem andV_e : fAndV m n ρ st = (m ρ st).bind (andK n ρ) := by
  unfold fAndV
  refine congrArg _ ?_
  funext d s
  cases d <;> try rfl
def notK (d : D) (st : St) : Res D := match d with
  | .bl b => .ok (.bl (!b)) st
  | _ => .bad
theorem notK_ok {b : Bool} : notK (.bl b) st = .ok (.bl (!b)) st := rfl
theorem notV_e : fNotV m ρ st = (m ρ st).bind notK := by
  unfold fNotV
  refine congrArg _ ?_
  funext d s
  cases d <;> rfl
theorem if_e : fIf tt m n ρ st = (tt ρ st).bind fun c st1 => if c = true then m ρ st1 else n ρ st1 := rfl
theorem nil_e : fNil ρ st = .ok [] st := rfl
theorem cons_e : fCons m na ρ st = (m ρ st).bind fun d st1 => (na ρ st1).bind fun ds st2 => .ok (d :: ds) st2 := rfl
theorem lst_e : fLst na ρ st = (na ρ st).bind fun ds st1 => if ds.length ≤ sizeLine then .ok (.lst ds) st1 else .bad := rfl
theorem tup_e : fTup na ρ st = (na ρ st).bind fun ds st1 => if ds.length ≤ sizeLine then .ok (.tup ds) st1 else .bad := rfl
theorem lstO_e : fLstO na ρ st = (na ρ st).bind fun ds st1 => if ds.length ≤ sizeLine then .ok (.loc st1.length) (st1 ++ [some (.lst ds)]) else .bad := rfl
theorem fn_e {o : List D → Option D} : fFn o na ρ st = (na ρ st).bind fun ds st1 => optR (o ds) st1 := rfl
theorem sz0 : (([] : List D).length ≤ sizeLine) = True := by simp
theorem szc {n : Nat} (h : decide (n ≤ 100) = true) : (n ≤ sizeLine) = True := by
  have := of_decide_eq_true h
  have : sizeLine = 16777216 := by decide +kernel
  simp
  omega
theorem sizeLine_e : sizeLine = 16777216 := by decide +kernel
theorem drop_e : fDrop m ρ st = stB (m ρ st) ρ fun _ st1 => .nx ρ st1 := rfl
theorem ret_e : fRet m ρ st = stB (m ρ st) ρ fun d st1 => .rt d st1 := rfl
theorem set_e {i : Nat} : fSet i m ρ st = stB (m ρ st) ρ fun d st1 => .nx (ρ.set i (some d)) st1 := rfl
theorem asg_e {g : fG} : fAsg m g ρ st = stB (m ρ st) ρ fun d st1 => optS (g d ρ st1) := rfl
theorem optS_ok : optS (some (ρ, st)) = .nx ρ st := rfl
theorem ifS_e {a b : fS} : fIfS tt a b ρ st = stB (tt ρ st) ρ fun c st1 => if c = true then a ρ st1 else b ρ st1 := rfl
theorem next_e : fNext ρ st = .nx ρ st := rfl
theorem for_e {it : fA} {g : fG} {b : fS} : fFor it g b ρ st = stB (it ρ st) ρ fun ds st1 => fForGo g b ds ρ st1 := rfl
theorem gn_e {i : Nat} : fGn i d ρ st = some (ρ.set i (some d), st) := rfl
theorem gt_e {n : Nat} {gs : fGs} : fGt n gs (.tup ds) ρ st = if ds.length = n then gs ds ρ st else none := rfl
def gcK (gs : fGs) (es : List D) (o : Option (Rho × St)) : Option (Rho × St) := match o with
  | some (ρ1, st1) => gs es ρ1 st1
  | none => none
theorem gc_e {g : fG} {gs : fGs} : fGc g gs (d :: es) ρ st = gcK gs es (g d ρ st) := by
  unfold fGc gcK
  dsimp only
  all_goals (cases g d ρ st <;> rfl)
theorem gcK_ok {gs : fGs} : gcK gs es (some (ρ, st)) = gs es ρ st := rfl
theorem gl_e : fGl [] ρ st = some (ρ, st) := rfl
theorem for_nil {g : fG} {b : fS} : fForGo g b [] ρ st = .nx ρ st := rfl
theorem for_cons {g : fG} {b : fS} (h1 : g d ρ st = some (ρ1, st1)) (h2 : b ρ1 st1 = .nx ρ2 st2) : fForGo g b (d :: ds) ρ st = fForGo g b ds ρ2 st2 := by
  rw [fForGo, h1]
  dsimp only
  rw [h2]
theorem iSq_l : iSq m ρ st = (m ρ st).bind fun d st1 => match seqOf d with
    | some ds => .ok ds st1
    | none => .bad := by
  unfold iSq
  refine congrArg _ ?_
  funext d s
  cases d <;> rfl
theorem iSq_e (h : m ρ st = .ok d st1) (q : seqOf d = some ds) : iSq m ρ st = .ok ds st1 := by
  rw [iSq_l, h]
  show (match seqOf d with | some ds => Res.ok ds st1 | none => .bad) = _
  rw [q]
theorem iEn_e (h : m ρ st = .ok d st1) (q : seqOf d = some ds) : iEn m ρ st = .ok (enumD 0 ds) st1 := by
  unfold iEn
  rw [h]
  show (match seqOf d with | some ds => Res.ok (enumD 0 ds) st1 | none => .bad) = _
  rw [q]
theorem iR1_e (h : na ρ st = .ok [.int j] st1) (q : -(2 ^ 62) ≤ j ∧ j < 2 ^ 62) : iR1 na ρ st = .ok (rngD 0 j.toNat) st1 := by
  unfold iR1
  rw [h]
  show (if -(2 ^ 62) ≤ j ∧ j < 2 ^ 62 then Res.ok (rngD 0 j.toNat) st1 else .bad) = _
  rw [if_pos q]
theorem call_e {F : fF} {k : Nat} {dd : List D} : fCall F k dd na ρ st = (na ρ st).bind fun ds st1 => if (ds ++ dd).length = k then F (ds ++ dd) st1 else .bad := rfl
def methK (C f : Str) (F : fF) (k : Nat) (dd : List D) (na : fA) (ρ : Rho) (x : D) (st1 : St) : Res D := match x with
  | .ins C' ns fs => if C' = C ∧ f ∉ ns then (na ρ st1).bind fun ds st2 => if (ds ++ dd).length + 1 = k then F (.ins C' ns fs :: (ds ++ dd)) st2 else .bad else .bad
  | _ => .bad
theorem meth_e {C f : Str} {F : fF} {k : Nat} {dd : List D} : fMeth C f F k dd m na ρ st = (m ρ st).bind (methK C f F k dd na ρ) := by
  unfold fMeth
  refine congrArg _ ?_
  funext d s
  cases d <;> rfl
theorem methK_ins {C f C' : Str} {F : fF} {k : Nat} {dd : List D} {ns : List Str} {fs : List D} : methK C f F k dd na ρ (.ins C' ns fs) st = if C' = C ∧ f ∉ ns then (na ρ st).bind fun ds st2 => if (ds ++ dd).length + 1 = k then F (.ins C' ns fs :: (ds ++ dd)) st2 else .bad else .bad := rfl
def meth0K (C f : Str) (F : fF) (k : Nat) (dd : List D) (x : D) (st1 : St) : Res D := match x with
  | .ins C' ns fs => if C' = C ∧ f ∉ ns ∧ dd.length + 1 = k then F (.ins C' ns fs :: dd) st1 else .bad
  | _ => .bad
theorem meth0_e {C f : Str} {F : fF} {k : Nat} {dd : List D} : fMeth0 C f F k dd m ρ st = (m ρ st).bind (meth0K C f F k dd) := by
  unfold fMeth0
  refine congrArg _ ?_
  funext d s
  cases d <;> rfl
theorem meth0K_ins {C f C' : Str} {F : fF} {k : Nat} {dd : List D} {ns : List Str} {fs : List D} : meth0K C f F k dd (.ins C' ns fs) st = if C' = C ∧ f ∉ ns ∧ dd.length + 1 = k then F (.ins C' ns fs :: dd) st else .bad := rfl
theorem make_e {C : Str} {F : fF} {k : Nat} {dd : List D} : fMake C F k dd na ρ st = (na ρ st).bind fun ds st1 =>
  if (ds ++ dd).length + 1 = k then mkEnd st1.length (F (.loc st1.length :: (ds ++ dd)) (st1 ++ [some (.ins C [] [])])) else .bad := rfl
theorem make0_e {C : Str} {F : fF} {k : Nat} {dd : List D} : fMake0 C F k dd ρ st = if dd.length + 1 = k then mkEnd st.length (F (.loc st.length :: dd) (st ++ [some (.ins C [] [])])) else .bad := rfl
def fldK (C f : Str) (x : D) (st1 : St) : Res D := match x with
  | .ins C' ns ds => if C' = C then optR (lookD f ns ds) st1 else .bad
  | _ => .bad
theorem fld_e {C f : Str} : fFld C f m ρ st = (m ρ st).bind (fldK C f) := by
  unfold fFld
  refine congrArg _ ?_
  funext d s
  cases d <;> rfl
theorem fldK_ins {C f C' : Str} {ns : List Str} : fldK C f (.ins C' ns ds) st = if C' = C then optR (lookD f ns ds) st else .bad := rfl
def negK (x : D) (st1 : St) : Res D := match x with
  | .int i => .ok (.int (-i)) st1
  | _ => .bad
theorem neg_e : fNeg m ρ st = (m ρ st).bind negK := by
  unfold fNeg
  refine congrArg _ ?_
  funext d s
  cases d <;> rfl
theorem negK_ok : negK (.int i) st = .ok (.int (-i)) st := rfl
theorem opI_e {C : Str} {F : fF} : fOpI C F m n ρ st = (m ρ st).bind fun a st1 => (n ρ st1).bind fun b st2 => opIK C F st2 a b := rfl
theorem opIK_ok {C C1 C2 : Str} {F : fF} {ns ms : List Str} : opIK C F st (.ins C1 ns ds) (.ins C2 ms es) = if C1 = C ∧ C2 = C then F [.ins C1 ns ds, .ins C2 ms es] st else .bad := rfl
theorem isC_e {C : List (Str × Bool)} : fIsC C m ρ st = (m ρ st).bind fun d st1 => optR ((isC C d).map .bl) st1 := rfl
theorem isi_e {ts : List BT} : fIsi ts m ρ st = (m ρ st).bind fun d st1 => if (tyD d).isSome = true then optR ((isTs d ts).map .bl) st1 else .bad := rfl
def ixOK (x y : D) (st2 : St) : Res D := match x, y with
  | .loc a, .int i => match st2[a]? with
    | some (some (.lst ds)) => optR (atI ds i) st2
    | _ => .bad
  | _, _ => .bad
theorem ixO_e : fIxO m n ρ st = (m ρ st).bind fun x st1 => (n ρ st1).bind fun y st2 => ixOK x y st2 := rfl
theorem ixOK_ok {a : Nat} (h : st[a]? = some (some (.lst ds))) : ixOK (.loc a) (.int i) st = optR (atI ds i) st := by
  unfold ixOK
  dsimp only
  rw [h]
def frzK (x : D) (st1 : St) : Res D := match x with
  | .loc i => match st1[i]? with
    | some (some y) => .ok y.tree (st1.set i none)
    | _ => .bad
  | _ => .bad
theorem frz_e : fFrz m ρ st = (m ρ st).bind frzK := rfl
theorem frzK_ok {a : Nat} {y : DO} (h : st[a]? = some (some y)) : frzK (.loc a) st = .ok y.tree (st.set a none) := by
  unfold frzK
  dsimp only
  rw [h]
theorem app_e {a : Nat} (h1 : m ρ st = .ok (.loc a) st1) (h2 : st1[a]? = some (some (.lst es))) (h3 : n ρ st1 = .ok d st2) (h4 : st2[a]? = some (some (.lst ds))) (h5 : ds.length < sizeLine) : fApp m n ρ st = .ok .non (st2.set a (some (.lst (ds ++ [d])))) := by
  unfold fApp
  rw [h1, bind_ok]
  dsimp only
  rw [h2]
  dsimp only
  rw [h3, bind_ok]
  rw [h4]
  dsimp only
  rw [if_pos h5]
theorem gsub_e {a : Nat} {k : Nat} (h1 : m ρ st = .ok (.loc a) st1) (h2 : n ρ st1 = .ok (.int i) st2) (h3 : st2[a]? = some (some (.lst ds))) (h4 : ixN ds.length i = some k) : fGsub m n d ρ st = some (ρ, st2.set a (some (.lst (ds.set k d)))) := by
  unfold fGsub
  rw [h1]
  dsimp only
  rw [h2]
  dsimp only
  rw [h3]
  dsimp only
  rw [h4]
/-! operators -/
theorem oEq_int : oEq (.int i) (.int j) = some (.bl (i == j)) := by
  show (if SeqAt.shaped (.int i) = true ∧ SeqAt.shaped (.int j) = true then some (D.bl (false != PyData.eqv (.int i) (.int j))) else none) = _
  rw [if_pos ⟨rfl, rfl⟩]
  simp [PyData.eqv, PyData.eqvAll]
theorem oNe_int : oNe (.int i) (.int j) = some (.bl (!(i == j))) := by
  show (if SeqAt.shaped (.int i) = true ∧ SeqAt.shaped (.int j) = true then some (D.bl (true != PyData.eqv (.int i) (.int j))) else none) = _
  rw [if_pos ⟨rfl, rfl⟩]
  simp [PyData.eqv, PyData.eqvAll]
theorem oEq_str (h1 : SeqAt.shaped (.str x) = true) (h2 : SeqAt.shaped (.str y) = true) : oEq (.str x) (.str y) = some (.bl (x == y)) := by
  show (if SeqAt.shaped (.str x) = true ∧ SeqAt.shaped (.str y) = true then some (D.bl (false != PyData.eqv (.str x) (.str y))) else none) = _
  rw [if_pos ⟨h1, h2⟩]
  simp [PyData.eqv]
theorem oEq_int2 {k l : Int} : oEq (.tup [.int i, .int j]) (.tup [.int k, .int l]) = some (.bl ((i == k) && (j == l))) := by
  show (if SeqAt.shaped (.tuple [.int i, .int j]) = true ∧ SeqAt.shaped (.tuple [.int k, .int l]) = true then some (D.bl (false != PyData.eqv (.tuple [.int i, .int j]) (.tuple [.int k, .int l]))) else none) = _
  rw [if_pos ⟨rfl, rfl⟩]
  simp [PyData.eqv, PyData.eqvAll]
theorem oNe_int2 {k l : Int} : oNe (.tup [.int i, .int j]) (.tup [.int k, .int l]) = some (.bl (!((i == k) && (j == l)))) := by
  show (if SeqAt.shaped (.tuple [.int i, .int j]) = true ∧ SeqAt.shaped (.tuple [.int k, .int l]) = true then some (D.bl (true != PyData.eqv (.tuple [.int i, .int j]) (.tuple [.int k, .int l]))) else none) = _
  rw [if_pos ⟨rfl, rfl⟩]
  simp [PyData.eqv, PyData.eqvAll]
theorem oAdd_int : oAdd (.int i) (.int j) = some (.int (i + j)) := rfl
theorem oSub_int : oSub (.int i) (.int j) = some (.int (i - j)) := rfl
theorem oLt_int : oLt (.int i) (.int j) = some (.bl (decide (i < j))) := rfl
theorem oLe_int : oLe (.int i) (.int j) = some (.bl (decide (i ≤ j))) := rfl
theorem oGt_int : oGt (.int i) (.int j) = some (.bl (decide (j < i))) := rfl
theorem oGe_int : oGe (.int i) (.int j) = some (.bl (decide (j ≤ i))) := rfl
theorem oI_ok {c : Int → Int → Bool} {g : Int → Int → D} (h : c i j = true) : oI c g (.int i) (.int j) = some (g i j) := by
  unfold oI
  simp [h]
theorem oMod_int (h : 0 < j) : oMod (.int i) (.int j) = some (.int (i % j)) := oI_ok (by simpa using h)
theorem oDiv_int (h : 0 < j) (h2 : j ≤ 2 ^ 64) : oDiv (.int i) (.int j) = some (.int (i / j)) := oI_ok (by
  simp only [Bool.and_eq_true, decide_eq_true_eq]
  refine ⟨h, ?_⟩
  have hz : j.natAbs ≠ 0 := by omega
  rw [Nat.log2_lt hz]
  have h3 : j.natAbs ≤ 2 ^ 64 := by omega
  exact Nat.lt_of_le_of_lt h3 (Nat.pow_lt_pow_right (a := 2) (Nat.lt_succ_self 1) (by omega)))
theorem oMul1_int (h : -(2 ^ 64) < i ∧ i < 2 ^ 64) : oMul1 (.int i) (.int j) = some (.int (i * j)) := by
  show oMul (.int i) (.int j) = _
  have q : mulOk i j = true := by
    simp only [mulOk, Bool.or_eq_true, Bool.and_eq_true, decide_eq_true_eq]
    exact .inl (.inl h)
  simp only [oMul, q, if_true]
theorem oNotN_e : oNotN d .non = some (.bl (!isNon d)) := rfl
theorem oIsN_e : oIsN d .non = some (.bl (isNon d)) := rfl
theorem oIx_lst : oIx (.lst ds) (.int i) = atI ds i := rfl
theorem oIx_tup : oIx (.tup ds) (.int i) = atI ds i := rfl
theorem oIx_frz : oIx (.frz ds) (.int i) = atI ds i := rfl
theorem ixN_nat {k n : Nat} (h : k < n) : ixN n (k : Int) = some k := by
  unfold ixN
  have h0 : (0 : Int) ≤ (k : Int) := by omega
  simp
  omega
theorem at_nat {k : Nat} (h : k < ds.length) : atI ds (k : Int) = some ds[k] := by
  unfold atI
  rw [ixN_nat h]
  simp [h]
theorem gcF_len {ok : Bool} {n : Nat} (h : st.length = n) : gcF n ok st = st := by
  subst h
  exact gcF_same
theorem gcF_cons {ok : Bool} {a b : Option DO} : gcF (a :: st).length ok (b :: st) = b :: st := gcF_len rfl
def Clean (st : St) : Prop := ∀ n, st.all (lowO n) = true
theorem gcF_clean {t : St} (h : Clean st) : gcF st.length true (st ++ t) = st := gcF_app (h _)
theorem gc_clean (hd : noLoc d = true) (h : Clean st) : gc st.length d (st ++ [none]) = st := gc_app hd rfl (h _)
mutual
theorem noLoc_low {n : Nat} : ∀ {d : D}, noLoc d = true → locB n d = true
  | .non, _ => rfl
  | .bl _, _ => rfl
  | .int _, _ => rfl
  | .str _, _ => rfl
  | .lst a, h => by simpa [locB] using noLocL_low (by simpa [noLoc] using h)
  | .tup a, h => by simpa [locB] using noLocL_low (by simpa [noLoc] using h)
  | .dic _ a, h => by simpa [locB] using noLocL_low (by simpa [noLoc] using h)
  | .ins _ _ a, h => by simpa [locB] using noLocL_low (by simpa [noLoc] using h)
  | .frz a, h => by simpa [locB] using noLocL_low (by simpa [noLoc] using h)
  | .loc _, h => by simp [noLoc] at h
  | .cls _, _ => rfl
  | .ty _, _ => rfl
theorem noLocL_low {n : Nat} : ∀ {ds : List D}, noLocL ds = true → locBL n ds = true
  | [], _ => rfl
  | d :: ds, h => by
    simp only [noLocL, Bool.and_eq_true] at h
    simp [locBL, noLoc_low h.1, noLocL_low h.2]
end
theorem noLocL_all : noLocL ds = true ↔ ∀ d ∈ ds, noLoc d = true := by
  induction ds with
  | nil => simp [noLocL]
  | cons d ds ih => simp [noLocL, ih]
theorem Clean.app {t : St} (h : Clean st) (k : Clean t) : Clean (st ++ t) := fun n => by rw [List.all_append, h n, k n]; rfl
theorem clean_lst (h : noLocL ds = true) : Clean [some (.lst ds)] := fun n => by
  simp [lowO, DO.tree, locB, noLocL_low h]
theorem body_nx {f : fS} {k : Nat} {st1 : St} (h : f (ds.map some ++ List.replicate k none) st = .nx ρ1 st1) : fBody f k ds st = .ok .non (gcF st.length true st1) := by
  unfold fBody
  rw [h]
theorem body_rt {f : fS} {k : Nat} {st1 : St} (h : f (ds.map some ++ List.replicate k none) st = .rt d st1) : fBody f k ds st = .ok d (gcF st.length (noLoc d) st1) := by
  unfold fBody
  rw [h]
theorem body_rt0 {f : fS} {k : Nat} (h : f (ds.map some ++ List.replicate k none) st = .rt d st) : fBody f k ds st = .ok d st := by
  rw [body_rt h, gcF_same]
/-! comprehensions -/
theorem lc_go {g : fG} {m : fE} {vs : List Nat} {Q : D → Prop} : ∀ {ds acc : List D}, (∀ d ∈ ds, ∃ ρ1 y, g d (wipeD ρ vs) st = some (ρ1, st) ∧ m ρ1 st = .ok y st ∧ Q y) → acc.length + ds.length ≤ 1000000 →
    ∃ ys, fLcGo g fYes m vs ρ ds acc st = .ok (acc ++ ys) st ∧ ys.length = ds.length ∧ ∀ y ∈ ys, Q y
  | [], acc, _, _ => ⟨[], by rw [fLcGo, List.append_nil], rfl, fun y h => by cases h⟩
  | d :: ds, acc, h, hl => by
    obtain ⟨ρ1, y, h1, h2, q⟩ := h d List.mem_cons_self
    have hl' : acc.length + (ds.length + 1) ≤ 1000000 := hl
    obtain ⟨ys, e, l, qs⟩ := lc_go (ds := ds) (acc := acc ++ [y]) (fun d hd => h d (List.mem_cons_of_mem _ hd)) (by rw [List.length_append]; simp; omega)
    refine ⟨y :: ys, ?_, by simp [l], fun z hz => ?_⟩
    · rw [fLcGo, h1]
      dsimp only
      simp only [fYes]
      rw [h2]
      dsimp only
      rw [if_pos (by rw [sizeLine_e]; omega), e]
      simp
    · cases hz with
      | head => exact q
      | tail _ hz => exact qs z hz
theorem lc_e {it : fA} {g : fG} {m : fE} {vs : List Nat} {Q : D → Prop} (hi : it ρ st = .ok ds st) (h : ∀ d ∈ ds, ∃ ρ1 y, g d (wipeD ρ vs) st = some (ρ1, st) ∧ m ρ1 st = .ok y st ∧ Q y) (hl : ds.length ≤ 1000000) :
    ∃ ys, fLc it g fYes m vs ρ st = .ok (.lst ys) st ∧ ys.length = ds.length ∧ ∀ y ∈ ys, Q y := by
  obtain ⟨ys, e, l, q⟩ := lc_go (g := g) (m := m) (vs := vs) (acc := []) h (by simpa using hl)
  refine ⟨ys, ?_, l, q⟩
  unfold fLc
  rw [hi, bind_ok, e, bind_ok, List.nil_append]
end
end FL

set_option Elab.async false
set_option linter.all false
set_option maxRecDepth 100000
set_option maxHeartbeats 4000000
namespace K51
open PySem PySem.Spec PyProof.Rows L2 DL FL
def top (i : Nat) : Stmt := PySem.Challenge.pw_pictureframes_k51_running_sizes.main.body.getD i (.Pass ⟨0, 0, 0, 0⟩)
abbrev s_is_whole : Stmt := top 8
theorem sc_is_whole : FnScope ["value"] ["value"] (defScope s_is_whole) := ⟨rfl, rfl, rfl, by decide +kernel, rfl, by decide +kernel, by decide +kernel⟩
abbrev s_is_count : Stmt := top 9
theorem sc_is_count : FnScope ["value"] ["value"] (defScope s_is_count) := ⟨rfl, rfl, rfl, by decide +kernel, rfl, by decide +kernel, by decide +kernel⟩
abbrev s_is_colour : Stmt := top 10
theorem sc_is_colour : FnScope ["value"] ["value"] (defScope s_is_colour) := ⟨rfl, rfl, rfl, by decide +kernel, rfl, by decide +kernel, by decide +kernel⟩
abbrev s_is_side : Stmt := top 11
theorem sc_is_side : FnScope ["value"] ["value"] (defScope s_is_side) := ⟨rfl, rfl, rfl, by decide +kernel, rfl, by decide +kernel, by decide +kernel⟩
abbrev s_InvalidSide_init_ : Stmt := inClass (top 3) 0
theorem sc_InvalidSide_init_ : FnScope ["self", "value"] ["self", "value"] (defScope s_InvalidSide_init_) := ⟨rfl, rfl, rfl, by decide +kernel, rfl, by decide +kernel, by decide +kernel⟩
abbrev s_InvalidSequence_init_ : Stmt := inClass (top 4) 0
theorem sc_InvalidSequence_init_ : FnScope ["self", "index"] ["self", "index"] (defScope s_InvalidSequence_init_) := ⟨rfl, rfl, rfl, by decide +kernel, rfl, by decide +kernel, by decide +kernel⟩
abbrev s_InvalidSymmetry_init_ : Stmt := inClass (top 5) 0
theorem sc_InvalidSymmetry_init_ : FnScope ["self", "value"] ["self", "value"] (defScope s_InvalidSymmetry_init_) := ⟨rfl, rfl, rfl, by decide +kernel, rfl, by decide +kernel, by decide +kernel⟩
abbrev s_check_side : Stmt := top 12
theorem sc_check_side : FnScope ["side"] ["side"] (defScope s_check_side) := ⟨rfl, rfl, rfl, by decide +kernel, rfl, by decide +kernel, by decide +kernel⟩
abbrev s_Symmetry_init_ : Stmt := inClass (top 14) 0
theorem sc_Symmetry_init_ : FnScope ["self", "turns", "mirrors"] ["self", "turns", "mirrors"] (defScope s_Symmetry_init_) := ⟨rfl, rfl, rfl, by decide +kernel, rfl, by decide +kernel, by decide +kernel⟩
abbrev s_Symmetry_mul_ : Stmt := inClass (top 14) 4
theorem sc_Symmetry_mul_ : FnScope ["self", "other", "earlier"] ["self", "other"] (defScope s_Symmetry_mul_) := ⟨rfl, rfl, rfl, by decide +kernel, rfl, by decide +kernel, by decide +kernel⟩
abbrev s_Symmetry_inverse : Stmt := inClass (top 14) 5
theorem sc_Symmetry_inverse : FnScope ["self"] ["self"] (defScope s_Symmetry_inverse) := ⟨rfl, rfl, rfl, by decide +kernel, rfl, by decide +kernel, by decide +kernel⟩
abbrev s_Symmetry_side : Stmt := inClass (top 14) 6
theorem sc_Symmetry_side : FnScope ["self", "side", "place"] ["self", "side"] (defScope s_Symmetry_side) := ⟨rfl, rfl, rfl, by decide +kernel, rfl, by decide +kernel, by decide +kernel⟩
abbrev s_is_step : Stmt := top 18
theorem sc_is_step : FnScope ["value", "word"] ["value"] (defScope s_is_step) := ⟨rfl, rfl, rfl, by decide +kernel, rfl, by decide +kernel, by decide +kernel⟩
abbrev s_check_steps : Stmt := top 17
theorem sc_check_steps : FnScope ["steps", "index", "step"] ["steps"] (defScope s_check_steps) := ⟨rfl, rfl, rfl, by decide +kernel, rfl, by decide +kernel, by decide +kernel⟩
abbrev s_upright_moves : Stmt := top 20
theorem sc_upright_moves : FnScope ["steps", "symmetry", "moves", "index", "step", "side"] ["steps"] (defScope s_upright_moves) := ⟨rfl, rfl, rfl, by decide +kernel, rfl, by decide +kernel, by decide +kernel⟩
abbrev s_running_size : Stmt := top 23
theorem sc_running_size : FnScope ["steps", "_", "moves", "least", "gained", "side", "colour", "direction"] ["steps"] (defScope s_running_size) := ⟨rfl, rfl, rfl, by decide +kernel, rfl, by decide +kernel, by decide +kernel⟩
abbrev s_l_draw : Stmt := top 25
theorem sc_l_draw : FnScope ["pool", "count", "cell", "result"] ["pool", "count"] (defScope s_l_draw) := ⟨rfl, rfl, rfl, by decide +kernel, rfl, by decide +kernel, by decide +kernel⟩
abbrev s_l_base : Stmt := top 26
theorem sc_l_base : FnScope ["pool"] ["pool"] (defScope s_l_base) := ⟨rfl, rfl, rfl, by decide +kernel, rfl, by decide +kernel, by decide +kernel⟩
abbrev s_l_steps : Stmt := top 27
theorem sc_l_steps : FnScope ["pool", "count", "base", "steps", "k", "way", "side"] ["pool", "count", "base"] (defScope s_l_steps) := ⟨rfl, rfl, rfl, by decide +kernel, rfl, by decide +kernel, by decide +kernel⟩
abbrev s_l_after : Stmt := top 28
theorem sc_l_after : FnScope ["grid", "step", "side", "line", "row", "at"] ["grid", "step"] (defScope s_l_after) := ⟨rfl, rfl, rfl, by decide +kernel, rfl, by decide +kernel, by decide +kernel⟩
abbrev s_l_run : Stmt := top 29
theorem sc_l_run : FnScope ["grid", "steps", "current", "index"] ["grid", "steps"] (defScope s_l_run) := ⟨rfl, rfl, rfl, by decide +kernel, rfl, by decide +kernel, by decide +kernel⟩
abbrev s_l_cells : Stmt := top 30
theorem sc_l_cells : FnScope ["height", "width", "first", "at", "place"] ["height", "width", "first"] (defScope s_l_cells) := ⟨rfl, rfl, rfl, by decide +kernel, rfl, by decide +kernel, by decide +kernel⟩
abbrev s_l_runs : Stmt := top 31
theorem sc_l_runs : FnScope ["steps", "height", "width"] ["steps", "height", "width"] (defScope s_l_runs) := ⟨rfl, rfl, rfl, by decide +kernel, rfl, by decide +kernel, by decide +kernel⟩
abbrev s_law : Stmt := top 32
theorem sc_law : FnScope ["script", "pool", "turn", "steps", "found", "height", "width", "long"] ["script"] (defScope s_law) := ⟨rfl, rfl, rfl, by decide +kernel, rfl, by decide +kernel, by decide +kernel⟩
structure Ad where
  a_is_whole : Addr
  fd_is_whole : FuncData
  a_is_count : Addr
  fd_is_count : FuncData
  a_is_colour : Addr
  fd_is_colour : FuncData
  a_is_side : Addr
  fd_is_side : FuncData
  a_InvalidSide_init_ : Addr
  fd_InvalidSide_init_ : FuncData
  a_InvalidSequence_init_ : Addr
  fd_InvalidSequence_init_ : FuncData
  a_InvalidSymmetry_init_ : Addr
  fd_InvalidSymmetry_init_ : FuncData
  a_check_side : Addr
  fd_check_side : FuncData
  a_Symmetry_init_ : Addr
  fd_Symmetry_init_ : FuncData
  a_Symmetry_mul_ : Addr
  fd_Symmetry_mul_ : FuncData
  a_Symmetry_inverse : Addr
  fd_Symmetry_inverse : FuncData
  a_Symmetry_side : Addr
  fd_Symmetry_side : FuncData
  a_is_step : Addr
  fd_is_step : FuncData
  a_check_steps : Addr
  fd_check_steps : FuncData
  a_upright_moves : Addr
  fd_upright_moves : FuncData
  a_running_size : Addr
  fd_running_size : FuncData
  a_l_draw : Addr
  fd_l_draw : FuncData
  a_l_base : Addr
  fd_l_base : FuncData
  a_l_steps : Addr
  fd_l_steps : FuncData
  a_l_after : Addr
  fd_l_after : FuncData
  a_l_run : Addr
  fd_l_run : FuncData
  a_l_cells : Addr
  fd_l_cells : FuncData
  a_l_runs : Addr
  fd_l_runs : FuncData
  a_law : Addr
  fd_law : FuncData
  c_InvalidSide : Addr
  c_InvalidSequence : Addr
  c_InvalidSymmetry : Addr
  c_Symmetry : Addr
  k_SIDES : Addr
  o_SIDES : Obj
  k_DIRECTIONS : Addr

def ys_SIDES : List Str := ["top", "right", "bottom", "left"]
def tab_DIRECTIONS : List (Str × D) := [("top", .int 0), ("bottom", .int 0), ("right", .int 1), ("left", .int 1)]
theorem tn_DIRECTIONS : ∀ z d, tab_DIRECTIONS.lookup z = some d → noLoc d = true := by
  intro z d h
  simp only [tab_DIRECTIONS, List.lookup] at h
  repeat (split at h; · (cases h; rfl))
  cases h
def isc_Symmetry : List (Str × Bool) := [("Symmetry", true)]
structure Tx (w : World) (K : PySem.W.Frag) (mg : Str → Option Value) (base : Heap) (A : Ad) : Prop where
  mods : ∃ mm, base.Ns sysModules mm
  F_is_whole : Fun K "is_whole" "is_whole" s_is_whole A.a_is_whole A.fd_is_whole
  b_is_whole : Binds K A.fd_is_whole ["value"] []
  g_is_whole : mg "is_whole" = some (.ref A.a_is_whole)
  F_is_count : Fun K "is_count" "is_count" s_is_count A.a_is_count A.fd_is_count
  b_is_count : Binds K A.fd_is_count ["value"] []
  g_is_count : mg "is_count" = some (.ref A.a_is_count)
  F_is_colour : Fun K "is_colour" "is_colour" s_is_colour A.a_is_colour A.fd_is_colour
  b_is_colour : Binds K A.fd_is_colour ["value"] []
  g_is_colour : mg "is_colour" = some (.ref A.a_is_colour)
  F_is_side : Fun K "is_side" "is_side" s_is_side A.a_is_side A.fd_is_side
  b_is_side : Binds K A.fd_is_side ["value"] []
  g_is_side : mg "is_side" = some (.ref A.a_is_side)
  F_InvalidSide_init_ : Fun K "__init__" "InvalidSide.__init__" s_InvalidSide_init_ A.a_InvalidSide_init_ A.fd_InvalidSide_init_
  b_InvalidSide_init_ : Binds K A.fd_InvalidSide_init_ ["self", "value"] []
  F_InvalidSequence_init_ : Fun K "__init__" "InvalidSequence.__init__" s_InvalidSequence_init_ A.a_InvalidSequence_init_ A.fd_InvalidSequence_init_
  b_InvalidSequence_init_ : Binds K A.fd_InvalidSequence_init_ ["self", "index"] []
  F_InvalidSymmetry_init_ : Fun K "__init__" "InvalidSymmetry.__init__" s_InvalidSymmetry_init_ A.a_InvalidSymmetry_init_ A.fd_InvalidSymmetry_init_
  b_InvalidSymmetry_init_ : Binds K A.fd_InvalidSymmetry_init_ ["self", "value"] []
  F_check_side : Fun K "check_side" "check_side" s_check_side A.a_check_side A.fd_check_side
  b_check_side : Binds K A.fd_check_side ["side"] []
  g_check_side : mg "check_side" = some (.ref A.a_check_side)
  F_Symmetry_init_ : FunD K "__init__" "Symmetry.__init__" (defArgs s_Symmetry_init_) (defBody s_Symmetry_init_) (defScope s_Symmetry_init_) [V.int 0, V.bl false] [] A.a_Symmetry_init_ A.fd_Symmetry_init_
  b_Symmetry_init_ : Binds K A.fd_Symmetry_init_ ["self", "turns", "mirrors"] []
  bd_Symmetry_init__1 : ∃ ds, Vals [V.int 0, V.bl false] ds ∧ Binds K A.fd_Symmetry_init_ ["self", "turns", "mirrors"] ds
  bd_Symmetry_init__2 : ∃ ds, Vals [V.bl false] ds ∧ Binds K A.fd_Symmetry_init_ ["self", "turns", "mirrors"] ds
  F_Symmetry_mul_ : Fun K "__mul__" "Symmetry.__mul__" s_Symmetry_mul_ A.a_Symmetry_mul_ A.fd_Symmetry_mul_
  b_Symmetry_mul_ : Binds K A.fd_Symmetry_mul_ ["self", "other"] []
  F_Symmetry_inverse : Fun K "inverse" "Symmetry.inverse" s_Symmetry_inverse A.a_Symmetry_inverse A.fd_Symmetry_inverse
  b_Symmetry_inverse : Binds K A.fd_Symmetry_inverse ["self"] []
  F_Symmetry_side : Fun K "side" "Symmetry.side" s_Symmetry_side A.a_Symmetry_side A.fd_Symmetry_side
  b_Symmetry_side : Binds K A.fd_Symmetry_side ["self", "side"] []
  F_is_step : Fun K "_is_step" "_is_step" s_is_step A.a_is_step A.fd_is_step
  b_is_step : Binds K A.fd_is_step ["value"] []
  g_is_step : mg "_is_step" = some (.ref A.a_is_step)
  F_check_steps : Fun K "check_steps" "check_steps" s_check_steps A.a_check_steps A.fd_check_steps
  b_check_steps : Binds K A.fd_check_steps ["steps"] []
  g_check_steps : mg "check_steps" = some (.ref A.a_check_steps)
  F_upright_moves : Fun K "upright_moves" "upright_moves" s_upright_moves A.a_upright_moves A.fd_upright_moves
  b_upright_moves : Binds K A.fd_upright_moves ["steps"] []
  g_upright_moves : mg "upright_moves" = some (.ref A.a_upright_moves)
  F_running_size : Fun K "running_size" "running_size" s_running_size A.a_running_size A.fd_running_size
  b_running_size : Binds K A.fd_running_size ["steps"] []
  g_running_size : mg "running_size" = some (.ref A.a_running_size)
  F_l_draw : Fun K "_law_draw" "_law_draw" s_l_draw A.a_l_draw A.fd_l_draw
  b_l_draw : Binds K A.fd_l_draw ["pool", "count"] []
  g_l_draw : mg "_law_draw" = some (.ref A.a_l_draw)
  F_l_base : Fun K "_law_base" "_law_base" s_l_base A.a_l_base A.fd_l_base
  b_l_base : Binds K A.fd_l_base ["pool"] []
  g_l_base : mg "_law_base" = some (.ref A.a_l_base)
  F_l_steps : Fun K "_law_steps" "_law_steps" s_l_steps A.a_l_steps A.fd_l_steps
  b_l_steps : Binds K A.fd_l_steps ["pool", "count", "base"] []
  g_l_steps : mg "_law_steps" = some (.ref A.a_l_steps)
  F_l_after : Fun K "_law_after" "_law_after" s_l_after A.a_l_after A.fd_l_after
  b_l_after : Binds K A.fd_l_after ["grid", "step"] []
  g_l_after : mg "_law_after" = some (.ref A.a_l_after)
  F_l_run : Fun K "_law_run" "_law_run" s_l_run A.a_l_run A.fd_l_run
  b_l_run : Binds K A.fd_l_run ["grid", "steps"] []
  g_l_run : mg "_law_run" = some (.ref A.a_l_run)
  F_l_cells : Fun K "_law_cells" "_law_cells" s_l_cells A.a_l_cells A.fd_l_cells
  b_l_cells : Binds K A.fd_l_cells ["height", "width", "first"] []
  g_l_cells : mg "_law_cells" = some (.ref A.a_l_cells)
  F_l_runs : Fun K "_law_runs" "_law_runs" s_l_runs A.a_l_runs A.fd_l_runs
  b_l_runs : Binds K A.fd_l_runs ["steps", "height", "width"] []
  g_l_runs : mg "_law_runs" = some (.ref A.a_l_runs)
  F_law : Fun K "law" "law" s_law A.a_law A.fd_law
  b_law : Binds K A.fd_law ["script"] []
  g_law : mg "law" = some (.ref A.a_law)
  g_SIDES : GlE K mg "SIDES" (.tup [.str "top", .str "right", .str "bottom", .str "left"])
  g_MOST_STEPS : GlE K mg "MOST_STEPS" (.int 200)
  h_SIDES : mg "SIDES" = some (.ref A.k_SIDES)
  l_SIDES : K.lookup A.k_SIDES = some A.o_SIDES
  lc_SIDES : A.o_SIDES.cls = .type "tuple"
  ld_SIDES : A.o_SIDES.dict = none
  q_SIDES : ∀ H, SqT K H A.k_SIDES (ys_SIDES.map V.str)
  g_DIRECTIONS : mg "DIRECTIONS" = some (.ref A.k_DIRECTIONS)
  c_DIRECTIONS : ∀ z d, tab_DIRECTIONS.lookup z = some d → ∃ v, KDct K w A.k_DIRECTIONS z v ∧ ∀ G, Rp K mg G v d
  mg_InvalidSide : mg "InvalidSide" = some (.ref A.c_InvalidSide)
  ox_InvalidSide : OexG K A.c_InvalidSide
  oi_InvalidSide : PySem.W.findIn K (.ref A.c_InvalidSide) "__init__" = some (some (.ref A.a_InvalidSide_init_))
  ot_InvalidSide : PySem.W.typeIn K (.ref A.a_InvalidSide_init_) = some (.type "function")
  no_InvalidSide : PySem.W.findIn K (.ref A.c_InvalidSide) "value" = some none
  xc_InvalidSide : XcT K A.c_InvalidSide "value"
  mg_InvalidSequence : mg "InvalidSequence" = some (.ref A.c_InvalidSequence)
  ox_InvalidSequence : OexG K A.c_InvalidSequence
  oi_InvalidSequence : PySem.W.findIn K (.ref A.c_InvalidSequence) "__init__" = some (some (.ref A.a_InvalidSequence_init_))
  ot_InvalidSequence : PySem.W.typeIn K (.ref A.a_InvalidSequence_init_) = some (.type "function")
  no_InvalidSequence : PySem.W.findIn K (.ref A.c_InvalidSequence) "index" = some none
  xc_InvalidSequence : XcT K A.c_InvalidSequence "index"
  mg_InvalidSymmetry : mg "InvalidSymmetry" = some (.ref A.c_InvalidSymmetry)
  ox_InvalidSymmetry : OexG K A.c_InvalidSymmetry
  oi_InvalidSymmetry : PySem.W.findIn K (.ref A.c_InvalidSymmetry) "__init__" = some (some (.ref A.a_InvalidSymmetry_init_))
  ot_InvalidSymmetry : PySem.W.typeIn K (.ref A.a_InvalidSymmetry_init_) = some (.type "function")
  no_InvalidSymmetry : PySem.W.findIn K (.ref A.c_InvalidSymmetry) "value" = some none
  xc_InvalidSymmetry : XcT K A.c_InvalidSymmetry "value"
  mg_Symmetry : mg "Symmetry" = some (.ref A.c_Symmetry)
  cl_Symmetry : Cls K A.c_Symmetry
  mk_Symmetry : Mk K A.c_Symmetry A.a_Symmetry_init_
  sf_Symmetry : PySem.W.selfFirst K A.c_Symmetry = true
  is_Symmetry : IsiC K mg A.c_Symmetry (isC isc_Symmetry)
  na_Symmetry_turns : NoAttr K A.c_Symmetry "_turns"
  na_Symmetry_mirrors : NoAttr K A.c_Symmetry "_mirrors"
  op_Symmetry_mul_ : PySem.W.findIn K (.ref A.c_Symmetry) "__mul__" = some (some (.ref A.a_Symmetry_mul_))
  fn_Symmetry_mul_ : PySem.W.isFn K (.ref A.a_Symmetry_mul_) = true
  mt_Symmetry_inverse : Meth K A.c_Symmetry "inverse" A.a_Symmetry_inverse
  mt_Symmetry_side : Meth K A.c_Symmetry "side" A.a_Symmetry_side
  n_isinstance : mg "isinstance" = none
  n_len : mg "len" = none
  n_enumerate : mg "enumerate" = none
  n_tuple : mg "tuple" = none
  n_list : mg "list" = none
  n_range : mg "range" = none
  n_max : mg "max" = none
  n_int : mg "int" = none
  n_bool : mg "bool" = none
  n_str : mg "str" = none
section
variable {P : Program} {w : World} {K : PySem.W.Frag} {mg : Str → Option Value} {base : Heap} {A : Ad}
def p_is_whole : fS := (fRet (fAndV (fIsi [.int] (fVar 0)) (fNotV (fIsi [.bool] (fVar 0)))))
def e_is_whole : fF := fBody p_is_whole 0
theorem ok_is_whole (T : Tx w K mg base A) : FnG P w K mg base 2 A.a_is_whole A.fd_is_whole ["value"] (gF e_is_whole) := by
  refine fnF_mk (fs := p_is_whole) T.F_is_whole sc_is_whole fun Φ cdv A' outer s H E iΦ hr => ?_
  exact (fss_one (fs_ret (fe_and (fe_isi (t := .int) rfl (by rfl) T.n_isinstance (fe_var 0) (pe_tyn (T := "int") (by rfl) T.n_int (by decide +kernel))) (fe_one (fe_not (fe_isi (t := .bool) rfl (by rfl) T.n_isinstance (fe_var 0) (pe_tyn (T := "bool") (by rfl) T.n_bool (by decide +kernel))))))))
def p_is_count : fS := (fRet (fAndV (fCall e_is_whole 1 [] (fCons (fVar 0) fNil)) (fBin oGe (fVar 0) (fC (.int 0)))))
def e_is_count : fF := fBody p_is_count 0
theorem ok_is_count (T : Tx w K mg base A) : FnG P w K mg base 4 A.a_is_count A.fd_is_count ["value"] (gF e_is_count) := by
  refine fnF_mk (fs := p_is_count) T.F_is_count sc_is_count fun Φ cdv A' outer s H E iΦ hr => ?_
  exact (fss_one (fs_ret (fe_and (fe_call (ok_is_whole T) (hr.mono (by decide)) (by rfl) T.g_is_whole T.F_is_whole.kp T.b_is_whole .nil (fun _ => .nil) (takes_of rfl rfl rfl rfl) (fa_cons (fe_var 0) fa_nil)) (fe_one (fe_cmp o_ge ow_ge (fe_var 0) fe_int)))))
def p_is_colour : fS := (fRet (fCall e_is_count 1 [] (fCons (fVar 0) fNil)))
def e_is_colour : fF := fBody p_is_colour 0
theorem ok_is_colour (T : Tx w K mg base A) : FnG P w K mg base 6 A.a_is_colour A.fd_is_colour ["value"] (gF e_is_colour) := by
  refine fnF_mk (fs := p_is_colour) T.F_is_colour sc_is_colour fun Φ cdv A' outer s H E iΦ hr => ?_
  exact (fss_one (fs_ret (fe_call (ok_is_count T) (hr.mono (by decide)) (by rfl) T.g_is_count T.F_is_count.kp T.b_is_count .nil (fun _ => .nil) (takes_of rfl rfl rfl rfl) (fa_cons (fe_var 0) fa_nil))))
def p_is_side : fS := (fRet (fAndV (fIsi [.str] (fVar 0)) (fBin oIn (fVar 0) (fC (.tup [.str "top", .str "right", .str "bottom", .str "left"])))))
def e_is_side : fF := fBody p_is_side 0
theorem ok_is_side (T : Tx w K mg base A) : FnG P w K mg base 2 A.a_is_side A.fd_is_side ["value"] (gF e_is_side) := by
  refine fnF_mk (fs := p_is_side) T.F_is_side sc_is_side fun Φ cdv A' outer s H E iΦ hr => ?_
  exact (fss_one (fs_ret (fe_and (fe_isi (t := .str) rfl (by rfl) T.n_isinstance (fe_var 0) (pe_tyn (T := "str") (by rfl) T.n_str (by decide +kernel))) (fe_one (fe_cmp o_in ow_in (fe_var 0) (fe_globE (by rfl) T.g_SIDES))))))
theorem ok_InvalidSide_init_ (T : Tx w K mg base A) : FnOk P w K mg base CX0 1 A.a_InvalidSide_init_ A.fd_InvalidSide_init_ ["self", "value"] (spXI A.c_InvalidSide "value") := by
  refine ok_xinitG T.F_InvalidSide_init_ sc_InvalidSide_init_ T.ox_InvalidSide T.no_InvalidSide fun X eK eN eS => ⟨tVar 0, tVar 1, pss_one ?_, fun u y H Q h => ⟨y, rfl, h⟩, fun u y H Q h => ⟨u, rfl, h⟩⟩
  subst eK
  exact ps_ostG (pe_var (by rw [eN]; rfl) (by rw [eS]; exact Or.inl rfl)) (pe_var (by rw [eN]; rfl) (by rw [eS]; exact Or.inl rfl)) (by first | rfl | (simp [swapsWith]))
theorem ok_InvalidSequence_init_ (T : Tx w K mg base A) : FnOk P w K mg base CX0 1 A.a_InvalidSequence_init_ A.fd_InvalidSequence_init_ ["self", "index"] (spXI A.c_InvalidSequence "index") := by
  refine ok_xinitG T.F_InvalidSequence_init_ sc_InvalidSequence_init_ T.ox_InvalidSequence T.no_InvalidSequence fun X eK eN eS => ⟨tVar 0, tVar 1, pss_one ?_, fun u y H Q h => ⟨y, rfl, h⟩, fun u y H Q h => ⟨u, rfl, h⟩⟩
  subst eK
  exact ps_ostG (pe_var (by rw [eN]; rfl) (by rw [eS]; exact Or.inl rfl)) (pe_var (by rw [eN]; rfl) (by rw [eS]; exact Or.inl rfl)) (by first | rfl | (simp [swapsWith]))
theorem ok_InvalidSymmetry_init_ (T : Tx w K mg base A) : FnOk P w K mg base CX0 1 A.a_InvalidSymmetry_init_ A.fd_InvalidSymmetry_init_ ["self", "value"] (spXI A.c_InvalidSymmetry "value") := by
  refine ok_xinitG T.F_InvalidSymmetry_init_ sc_InvalidSymmetry_init_ T.ox_InvalidSymmetry T.no_InvalidSymmetry fun X eK eN eS => ⟨tVar 0, tVar 1, pss_one ?_, fun u y H Q h => ⟨y, rfl, h⟩, fun u y H Q h => ⟨u, rfl, h⟩⟩
  subst eK
  exact ps_ostG (pe_var (by rw [eN]; rfl) (by rw [eS]; exact Or.inl rfl)) (pe_var (by rw [eN]; rfl) (by rw [eS]; exact Or.inl rfl)) (by first | rfl | (simp [swapsWith]))
def p_check_side : fS := (fIfS (fNot (fTest (fCall e_is_side 1 [] (fCons (fVar 0) fNil)))) (fRaise "InvalidSide" "value" (fCons (fVar 0) fNil)) fNext)
def e_check_side : fF := fBody p_check_side 0
theorem ok_check_side (T : Tx w K mg base A) : FnG P w K mg base 4 A.a_check_side A.fd_check_side ["side"] (gF e_check_side) := by
  refine fnF_mk (fs := p_check_side) T.F_check_side sc_check_side fun Φ cdv A' outer s H E iΦ hr => ?_
  exact (fss_one (fs_if (ft_not (ft_val (fe_call (ok_is_side T) (hr.mono (by decide)) (by rfl) T.g_is_side T.F_is_side.kp T.b_is_side .nil (fun _ => .nil) (takes_of rfl rfl rfl rfl) (fa_cons (fe_var 0) fa_nil)))) (fss_one (fs_raise T.ox_InvalidSide T.oi_InvalidSide T.ot_InvalidSide (ok_InvalidSide_init_ T) (hr.mono (by decide : 2 ≤ _)) T.b_InvalidSide_init_ (by rfl) T.mg_InvalidSide rfl (takes_of rfl rfl rfl rfl) (fa_cons (fe_var 0) fa_nil))) fss_nil))
def p_Symmetry_init_ : fS := (fSeq (fIfS (fOr (fNot (fTest (fCall e_is_count 1 [] (fCons (fVar 1) fNil)))) (fTest (fBin oGt (fVar 1) (fC (.int 3))))) (fRaise "InvalidSymmetry" "value" (fCons (fVar 1) fNil)) fNext) (fSeq (fIfS (fNot (fTest (fIsi [.bool] (fVar 2)))) (fRaise "InvalidSymmetry" "value" (fCons (fVar 2) fNil)) fNext) (fSeq (fFldS "Symmetry" "_turns" (fVar 0) (fVar 1)) (fFldS "Symmetry" "_mirrors" (fVar 0) (fVar 2)))))
def e_Symmetry_init_ : fF := fBody p_Symmetry_init_ 0
theorem ok_Symmetry_init_ (T : Tx w K mg base A) : FnG P w K mg base 6 A.a_Symmetry_init_ A.fd_Symmetry_init_ ["self", "turns", "mirrors"] (gF e_Symmetry_init_) := by
  refine fnF_mkD (fs := p_Symmetry_init_) T.F_Symmetry_init_ sc_Symmetry_init_ fun Φ cdv A' outer s H E iΦ hr => ?_
  exact (fss_cons (fs_if (FW.ft (fw_or (ft_not (ft_val (fe_call (ok_is_count T) (hr.mono (by decide)) (by rfl) T.g_is_count T.F_is_count.kp T.b_is_count .nil (fun _ => .nil) (takes_of rfl rfl rfl rfl) (fa_cons (fe_var 1) fa_nil)))) (fw_or1 (ft_cmp o_gt ow_gt (fe_var 1) fe_int)))) (fss_one (fs_raise T.ox_InvalidSymmetry T.oi_InvalidSymmetry T.ot_InvalidSymmetry (ok_InvalidSymmetry_init_ T) (hr.mono (by decide : 2 ≤ _)) T.b_InvalidSymmetry_init_ (by rfl) T.mg_InvalidSymmetry rfl (takes_of rfl rfl rfl rfl) (fa_cons (fe_var 1) fa_nil))) fss_nil) (fss_cons (fs_if (ft_not (ft_val (fe_isi (t := .bool) rfl (by rfl) T.n_isinstance (fe_var 2) (pe_tyn (T := "bool") (by rfl) T.n_bool (by decide +kernel))))) (fss_one (fs_raise T.ox_InvalidSymmetry T.oi_InvalidSymmetry T.ot_InvalidSymmetry (ok_InvalidSymmetry_init_ T) (hr.mono (by decide : 2 ≤ _)) T.b_InvalidSymmetry_init_ (by rfl) T.mg_InvalidSymmetry rfl (takes_of rfl rfl rfl rfl) (fa_cons (fe_var 2) fa_nil))) fss_nil) (fss_cons (fs_fld T.cl_Symmetry T.mg_Symmetry T.na_Symmetry_turns (fe_var 0) (fe_var 1)) (fss_one (fs_fld T.cl_Symmetry T.mg_Symmetry T.na_Symmetry_mirrors (fe_var 0) (fe_var 2))))))
def p_Symmetry_mul_ : fS := (fSeq (fIfS (fNot (fTest (fIsC isc_Symmetry (fVar 1)))) fDeadS fNext) (fSeq (fSet 2 (fIf (fTest (fFld "Symmetry" "_mirrors" (fVar 1))) (fNeg (fFld "Symmetry" "_turns" (fVar 0))) (fFld "Symmetry" "_turns" (fVar 0)))) (fRet (fMake "Symmetry" e_Symmetry_init_ 3 [] (fCons (fBin oMod (fBin oAdd (fFld "Symmetry" "_turns" (fVar 1)) (fVar 2)) (fC (.int 4))) (fCons (fBin oNe (fFld "Symmetry" "_mirrors" (fVar 0)) (fFld "Symmetry" "_mirrors" (fVar 1))) fNil))))))
def e_Symmetry_mul_ : fF := fBody p_Symmetry_mul_ 1
theorem ok_Symmetry_mul_ (T : Tx w K mg base A) : FnG P w K mg base 8 A.a_Symmetry_mul_ A.fd_Symmetry_mul_ ["self", "other"] (gF e_Symmetry_mul_) := by
  refine fnF_mk (fs := p_Symmetry_mul_) T.F_Symmetry_mul_ sc_Symmetry_mul_ fun Φ cdv A' outer s H E iΦ hr => ?_
  exact (fss_cons (fs_if (ft_not (ft_val (fe_isiC T.is_Symmetry (by rfl) T.n_isinstance (by rfl) T.mg_Symmetry (fe_var 1)))) (fss_one fs_dead) fss_nil) (fss_cons (fs_set (i := 2) sc_Symmetry_mul_.nd rfl (by first | exact Or.inl rfl | exact Or.inr rfl) (fe_if (ft_val (fe_fld T.cl_Symmetry T.mg_Symmetry T.na_Symmetry_mirrors (fe_var 1))) (fe_neg (fe_fld T.cl_Symmetry T.mg_Symmetry T.na_Symmetry_turns (fe_var 0))) (fe_fld T.cl_Symmetry T.mg_Symmetry T.na_Symmetry_turns (fe_var 0)))) (fss_one (fs_ret (fe_make T.mk_Symmetry T.mg_Symmetry (ok_Symmetry_init_ T) (hr.mono (by decide)) (by rfl) T.b_Symmetry_init_ .nil (fun _ => .nil) (takes_of rfl rfl rfl rfl) (fa_cons (fe_bin o_mod ow_mod (fe_bin o_add ow_add (fe_fld T.cl_Symmetry T.mg_Symmetry T.na_Symmetry_turns (fe_var 1)) (fe_var 2)) fe_int) (fa_cons (fe_cmp (o_ne' hr.units) ow_ne (fe_fld T.cl_Symmetry T.mg_Symmetry T.na_Symmetry_mirrors (fe_var 0)) (fe_fld T.cl_Symmetry T.mg_Symmetry T.na_Symmetry_mirrors (fe_var 1))) fa_nil)))))))
def p_Symmetry_inverse : fS := (fSeq (fIfS (fTest (fFld "Symmetry" "_mirrors" (fVar 0))) (fRet (fMake "Symmetry" e_Symmetry_init_ 3 [] (fCons (fFld "Symmetry" "_turns" (fVar 0)) (fCons (fC (.bl true)) fNil)))) fNext) (fRet (fMake "Symmetry" e_Symmetry_init_ 3 [] (fCons (fBin oMod (fNeg (fFld "Symmetry" "_turns" (fVar 0))) (fC (.int 4))) (fCons (fC (.bl false)) fNil)))))
def e_Symmetry_inverse : fF := fBody p_Symmetry_inverse 0
theorem ok_Symmetry_inverse (T : Tx w K mg base A) : FnG P w K mg base 8 A.a_Symmetry_inverse A.fd_Symmetry_inverse ["self"] (gF e_Symmetry_inverse) := by
  refine fnF_mk (fs := p_Symmetry_inverse) T.F_Symmetry_inverse sc_Symmetry_inverse fun Φ cdv A' outer s H E iΦ hr => ?_
  exact (fss_cons (fs_if (ft_val (fe_fld T.cl_Symmetry T.mg_Symmetry T.na_Symmetry_mirrors (fe_var 0))) (fss_one (fs_ret (fe_make T.mk_Symmetry T.mg_Symmetry (ok_Symmetry_init_ T) (hr.mono (by decide)) (by rfl) T.b_Symmetry_init_ .nil (fun _ => .nil) (takes_of rfl rfl rfl rfl) (fa_cons (fe_fld T.cl_Symmetry T.mg_Symmetry T.na_Symmetry_turns (fe_var 0)) (fa_cons fe_bl fa_nil))))) fss_nil) (fss_one (fs_ret (fe_make T.mk_Symmetry T.mg_Symmetry (ok_Symmetry_init_ T) (hr.mono (by decide)) (by rfl) T.b_Symmetry_init_ .nil (fun _ => .nil) (takes_of rfl rfl rfl rfl) (fa_cons (fe_bin o_mod ow_mod (fe_neg (fe_fld T.cl_Symmetry T.mg_Symmetry T.na_Symmetry_turns (fe_var 0))) fe_int) (fa_cons fe_bl fa_nil))))))
def p_Symmetry_side : fS := (fSeq (fDrop (fCall e_check_side 1 [] (fCons (fVar 1) fNil))) (fSeq (fSet 2 (fTidx ys_SIDES (fVar 1))) (fSeq (fIfS (fTest (fFld "Symmetry" "_mirrors" (fVar 0))) (fSet 2 (fNeg (fVar 2))) fNext) (fRet (fBin oIx (fC (.tup [.str "top", .str "right", .str "bottom", .str "left"])) (fBin oMod (fBin oAdd (fVar 2) (fFld "Symmetry" "_turns" (fVar 0))) (fC (.int 4))))))))
def e_Symmetry_side : fF := fBody p_Symmetry_side 1
theorem ok_Symmetry_side (T : Tx w K mg base A) : FnG P w K mg base 6 A.a_Symmetry_side A.fd_Symmetry_side ["self", "side"] (gF e_Symmetry_side) := by
  refine fnF_mk (fs := p_Symmetry_side) T.F_Symmetry_side sc_Symmetry_side fun Φ cdv A' outer s H E iΦ hr => ?_
  exact (fss_cons (fs_expr (fe_call (ok_check_side T) (hr.mono (by decide)) (by rfl) T.g_check_side T.F_check_side.kp T.b_check_side .nil (fun _ => .nil) (takes_of rfl rfl rfl rfl) (fa_cons (fe_var 1) fa_nil))) (fss_cons (fs_set (i := 2) sc_Symmetry_side.nd rfl (by first | exact Or.inl rfl | exact Or.inr rfl) (fe_tidx (ys := ys_SIDES) (by rfl) T.h_SIDES T.l_SIDES T.lc_SIDES T.ld_SIDES T.q_SIDES (fe_var 1))) (fss_cons (fs_if (ft_val (fe_fld T.cl_Symmetry T.mg_Symmetry T.na_Symmetry_mirrors (fe_var 0))) (fss_one (fs_set (i := 2) sc_Symmetry_side.nd rfl (by first | exact Or.inl rfl | exact Or.inr rfl) (fe_neg (fe_var 2)))) fss_nil) (fss_one (fs_ret (fe_ix x_seq ow_ix (fe_globE (by rfl) T.g_SIDES) (fe_bin o_mod ow_mod (fe_bin o_add ow_add (fe_var 2) (fe_fld T.cl_Symmetry T.mg_Symmetry T.na_Symmetry_turns (fe_var 0))) fe_int)))))))
def p_is_step : fS := (fSeq (fIfS (fOr (fNot (fTest (fIsi [.tuple] (fVar 0)))) (fTest (fBin oEq (fFn lLen (fCons (fVar 0) fNil)) (fC (.int 0))))) (fRet (fC (.bl false))) fNext) (fSeq (fSet 1 (fBin oIx (fVar 0) (fC (.int 0)))) (fSeq (fIfS (fTest (fBin oIn (fVar 1) (fTup (fCons (fC (.str "turn")) (fCons (fC (.str "mirror")) fNil))))) (fRet (fBin oEq (fFn lLen (fCons (fVar 0) fNil)) (fC (.int 1)))) fNext) (fSeq (fIfS (fTest (fBin oEq (fVar 1) (fC (.str "cut")))) (fRet (fAndV (fBin oEq (fFn lLen (fCons (fVar 0) fNil)) (fC (.int 2))) (fCall e_is_side 1 [] (fCons (fBin oIx (fVar 0) (fC (.int 1))) fNil)))) fNext) (fSeq (fIfS (fTest (fBin oEq (fVar 1) (fC (.str "add")))) (fRet (fAndV (fBin oEq (fFn lLen (fCons (fVar 0) fNil)) (fC (.int 3))) (fAndV (fCall e_is_side 1 [] (fCons (fBin oIx (fVar 0) (fC (.int 1))) fNil)) (fCall e_is_colour 1 [] (fCons (fBin oIx (fVar 0) (fC (.int 2))) fNil))))) fNext) (fRet (fC (.bl false))))))))
def e_is_step : fF := fBody p_is_step 1
theorem ok_is_step (T : Tx w K mg base A) : FnG P w K mg base 8 A.a_is_step A.fd_is_step ["value"] (gF e_is_step) := by
  refine fnF_mk (fs := p_is_step) T.F_is_step sc_is_step fun Φ cdv A' outer s H E iΦ hr => ?_
  exact (fss_cons (fs_if (FW.ft (fw_or (ft_not (ft_val (fe_isi (t := .tuple) rfl (by rfl) T.n_isinstance (fe_var 0) (pe_tyn (T := "tuple") (by rfl) T.n_tuple (by decide +kernel))))) (fw_or1 (ft_cmp (o_eq' hr.units) ow_eq (fe_callB (f_len) lw_len (by rfl) T.n_len (by decide +kernel) (fa_cons (fe_var 0) fa_nil)) fe_int)))) (fss_one (fs_ret fe_bl)) fss_nil) (fss_cons (fs_set (i := 1) sc_is_step.nd rfl (by first | exact Or.inl rfl | exact Or.inr rfl) (fe_ix x_seq ow_ix (fe_var 0) fe_int)) (fss_cons (fs_if (ft_cmp o_in ow_in (fe_var 1) (fe_tup (fa_cons fe_str (fa_cons fe_str fa_nil)))) (fss_one (fs_ret (fe_cmp (o_eq' hr.units) ow_eq (fe_callB (f_len) lw_len (by rfl) T.n_len (by decide +kernel) (fa_cons (fe_var 0) fa_nil)) fe_int))) fss_nil) (fss_cons (fs_if (ft_cmp (o_eq' hr.units) ow_eq (fe_var 1) fe_str) (fss_one (fs_ret (fe_and (fe_cmp (o_eq' hr.units) ow_eq (fe_callB (f_len) lw_len (by rfl) T.n_len (by decide +kernel) (fa_cons (fe_var 0) fa_nil)) fe_int) (fe_one (fe_call (ok_is_side T) (hr.mono (by decide)) (by rfl) T.g_is_side T.F_is_side.kp T.b_is_side .nil (fun _ => .nil) (takes_of rfl rfl rfl rfl) (fa_cons (fe_ix x_seq ow_ix (fe_var 0) fe_int) fa_nil)))))) fss_nil) (fss_cons (fs_if (ft_cmp (o_eq' hr.units) ow_eq (fe_var 1) fe_str) (fss_one (fs_ret (fe_and (fe_cmp (o_eq' hr.units) ow_eq (fe_callB (f_len) lw_len (by rfl) T.n_len (by decide +kernel) (fa_cons (fe_var 0) fa_nil)) fe_int) (fe_and (fe_call (ok_is_side T) (hr.mono (by decide)) (by rfl) T.g_is_side T.F_is_side.kp T.b_is_side .nil (fun _ => .nil) (takes_of rfl rfl rfl rfl) (fa_cons (fe_ix x_seq ow_ix (fe_var 0) fe_int) fa_nil)) (fe_one (fe_call (ok_is_colour T) (hr.mono (by decide)) (by rfl) T.g_is_colour T.F_is_colour.kp T.b_is_colour .nil (fun _ => .nil) (takes_of rfl rfl rfl rfl) (fa_cons (fe_ix x_seq ow_ix (fe_var 0) fe_int) fa_nil))))))) fss_nil) (fss_one (fs_ret fe_bl)))))))
def p_check_steps : fS := (fSeq (fIfS (fOr (fNot (fTest (fIsi [.list, .tuple] (fVar 0)))) (fTest (fBin oGt (fFn lLen (fCons (fVar 0) fNil)) (fC (.int 200))))) (fRaise "InvalidSequence" "index" (fCons (fC .non) fNil)) fNext) (fFor (iEn (fVar 0)) (fGt 2 (fGc (fGn 1) (fGc (fGn 2) fGl))) (fIfS (fNot (fTest (fCall e_is_step 1 [] (fCons (fVar 2) fNil)))) (fRaise "InvalidSequence" "index" (fCons (fVar 1) fNil)) fNext)))
def e_check_steps : fF := fBody p_check_steps 2
theorem ok_check_steps (T : Tx w K mg base A) : FnG P w K mg base 10 A.a_check_steps A.fd_check_steps ["steps"] (gF e_check_steps) := by
  refine fnF_mk (fs := p_check_steps) T.F_check_steps sc_check_steps fun Φ cdv A' outer s H E iΦ hr => ?_
  exact (fss_cons (fs_if (FW.ft (fw_or (ft_not (ft_val (fe_isiT (ts := [.list, .tuple]) (by rfl) T.n_isinstance (fe_var 0) (pa_cons (pe_tyn (by rfl) T.n_list (by decide +kernel)) (pa_cons (pe_tyn (by rfl) T.n_tuple (by decide +kernel)) pa_nil)) (fun _ _ _ h => h) (by decide)))) (fw_or1 (ft_cmp o_gt ow_gt (fe_callB (f_len) lw_len (by rfl) T.n_len (by decide +kernel) (fa_cons (fe_var 0) fa_nil)) (fe_globE (by rfl) T.g_MOST_STEPS))))) (fss_one (fs_raise T.ox_InvalidSequence T.oi_InvalidSequence T.ot_InvalidSequence (ok_InvalidSequence_init_ T) (hr.mono (by decide : 2 ≤ _)) T.b_InvalidSequence_init_ (by rfl) T.mg_InvalidSequence rfl (takes_of rfl rfl rfl rfl) (fa_cons fe_non fa_nil))) fss_nil) (fss_one (fs_for (passes_of rfl) rfl (fi_enum (by rfl) T.n_enumerate (fe_var 0)) (fg_tup rfl (fgs_cons (fg_name (i := 1) sc_check_steps.nd rfl (by first | exact Or.inl rfl | exact Or.inr rfl)) (fgs_cons (fg_name (i := 2) sc_check_steps.nd rfl (by first | exact Or.inl rfl | exact Or.inr rfl)) fgs_nil))) (fss_one (fs_if (ft_not (ft_val (fe_call (ok_is_step T) (hr.mono (by decide)) (by rfl) T.g_is_step T.F_is_step.kp T.b_is_step .nil (fun _ => .nil) (takes_of rfl rfl rfl rfl) (fa_cons (fe_var 2) fa_nil)))) (fss_one (fs_raise T.ox_InvalidSequence T.oi_InvalidSequence T.ot_InvalidSequence (ok_InvalidSequence_init_ T) (hr.mono (by decide : 2 ≤ _)) T.b_InvalidSequence_init_ (by rfl) T.mg_InvalidSequence rfl (takes_of rfl rfl rfl rfl) (fa_cons (fe_var 1) fa_nil))) fss_nil)))))
def p_upright_moves : fS := (fSeq (fSet 1 (fMake0 "Symmetry" e_Symmetry_init_ 3 [.int 0, .bl false])) (fSeq (fSet 2 (fLstO fNil)) (fSeq (fFor (iEn (fVar 0)) (fGt 2 (fGc (fGn 3) (fGc (fGn 4) fGl))) (fIfS (fTest (fBin oEq (fBin oIx (fVar 4) (fC (.int 0))) (fC (.str "turn")))) (fSet 1 (fOpI "Symmetry" e_Symmetry_mul_ (fVar 1) (fMake "Symmetry" e_Symmetry_init_ 3 [.bl false] (fCons (fC (.int 1)) fNil)))) (fIfS (fTest (fBin oEq (fBin oIx (fVar 4) (fC (.int 0))) (fC (.str "mirror")))) (fSet 1 (fOpI "Symmetry" e_Symmetry_mul_ (fVar 1) (fMake "Symmetry" e_Symmetry_init_ 3 [] (fCons (fC (.int 0)) (fCons (fC (.bl true)) fNil))))) (fSeq (fSet 5 (fMeth "Symmetry" "side" e_Symmetry_side 2 [] (fMeth0 "Symmetry" "inverse" e_Symmetry_inverse 1 [] (fVar 1)) (fCons (fBin oIx (fVar 4) (fC (.int 1))) fNil))) (fDrop (fApp (fVar 2) (fTup (fCons (fVar 3) (fCons (fVar 5) (fCons (fIf (fTest (fBin oEq (fBin oIx (fVar 4) (fC (.int 0))) (fC (.str "add")))) (fBin oIx (fVar 4) (fC (.int 2))) (fC .non)) fNil)))))))))) (fRet (fTup (fCons (fVar 1) (fCons (fFrz (fVar 2)) fNil)))))))
def e_upright_moves : fF := fBody p_upright_moves 5
theorem ok_upright_moves (T : Tx w K mg base A) : FnG P w K mg base 10 A.a_upright_moves A.fd_upright_moves ["steps"] (gF e_upright_moves) := by
  obtain ⟨_, vd_Symmetry_init__1, bd_Symmetry_init__1⟩ := T.bd_Symmetry_init__1
  obtain ⟨_, vd_Symmetry_init__2, bd_Symmetry_init__2⟩ := T.bd_Symmetry_init__2
  refine fnF_mk (fs := p_upright_moves) T.F_upright_moves sc_upright_moves fun Φ cdv A' outer s H E iΦ hr => ?_
  exact (fss_cons (fs_set (i := 1) sc_upright_moves.nd rfl (by first | exact Or.inl rfl | exact Or.inr rfl) (fe_make0 T.mk_Symmetry T.mg_Symmetry (ok_Symmetry_init_ T) (hr.mono (by decide)) (by rfl) bd_Symmetry_init__1 vd_Symmetry_init__1 (fun _ => (.cons (.int 0) (.cons (.bl false) .nil))) (takes_of rfl rfl rfl rfl))) (fss_cons (fs_set (i := 2) sc_upright_moves.nd rfl (by first | exact Or.inl rfl | exact Or.inr rfl) (fe_lstO fa_nil)) (fss_cons (fs_for (passes_of rfl) rfl (fi_enum (by rfl) T.n_enumerate (fe_var 0)) (fg_tup rfl (fgs_cons (fg_name (i := 3) sc_upright_moves.nd rfl (by first | exact Or.inl rfl | exact Or.inr rfl)) (fgs_cons (fg_name (i := 4) sc_upright_moves.nd rfl (by first | exact Or.inl rfl | exact Or.inr rfl)) fgs_nil))) (fss_one (fs_if (ft_cmp (o_eq' hr.units) ow_eq (fe_ix x_seq ow_ix (fe_var 4) fe_int) fe_str) (fss_one (fs_set (i := 1) sc_upright_moves.nd rfl (by first | exact Or.inl rfl | exact Or.inr rfl) (fe_opI T.mg_Symmetry T.sf_Symmetry T.op_Symmetry_mul_ T.fn_Symmetry_mul_ (ok_Symmetry_mul_ T) (hr.mono (by decide)) T.b_Symmetry_mul_ (takes_of rfl rfl rfl rfl) (fe_var 1) (fe_make T.mk_Symmetry T.mg_Symmetry (ok_Symmetry_init_ T) (hr.mono (by decide)) (by rfl) bd_Symmetry_init__2 vd_Symmetry_init__2 (fun _ => (.cons (.bl false) .nil)) (takes_of rfl rfl rfl rfl) (fa_cons fe_int fa_nil))))) (fss_one (fs_if (ft_cmp (o_eq' hr.units) ow_eq (fe_ix x_seq ow_ix (fe_var 4) fe_int) fe_str) (fss_one (fs_set (i := 1) sc_upright_moves.nd rfl (by first | exact Or.inl rfl | exact Or.inr rfl) (fe_opI T.mg_Symmetry T.sf_Symmetry T.op_Symmetry_mul_ T.fn_Symmetry_mul_ (ok_Symmetry_mul_ T) (hr.mono (by decide)) T.b_Symmetry_mul_ (takes_of rfl rfl rfl rfl) (fe_var 1) (fe_make T.mk_Symmetry T.mg_Symmetry (ok_Symmetry_init_ T) (hr.mono (by decide)) (by rfl) T.b_Symmetry_init_ .nil (fun _ => .nil) (takes_of rfl rfl rfl rfl) (fa_cons fe_int (fa_cons fe_bl fa_nil)))))) (fss_cons (fs_set (i := 5) sc_upright_moves.nd rfl (by first | exact Or.inl rfl | exact Or.inr rfl) (fe_meth (fe_meth0 (fe_var 1) T.cl_Symmetry T.mg_Symmetry T.mt_Symmetry_inverse (ok_Symmetry_inverse T) (hr.mono (by decide)) T.b_Symmetry_inverse .nil (fun _ => .nil) (takes_of rfl rfl rfl rfl)) T.cl_Symmetry T.mg_Symmetry T.mt_Symmetry_side (ok_Symmetry_side T) (hr.mono (by decide)) T.b_Symmetry_side .nil (fun _ => .nil) (takes_of rfl rfl rfl rfl) (fa_cons (fe_ix x_seq ow_ix (fe_var 4) fe_int) fa_nil))) (fss_one (fs_expr (fe_app (fe_var 2) (fe_tup (fa_cons (fe_var 3) (fa_cons (fe_var 5) (fa_cons (fe_if (ft_cmp (o_eq' hr.units) ow_eq (fe_ix x_seq ow_ix (fe_var 4) fe_int) fe_str) (fe_ix x_seq ow_ix (fe_var 4) fe_int) fe_non) fa_nil))))))))))))) (fss_one (fs_ret (fe_tup (fa_cons (fe_var 1) (fa_cons (fe_frz (fe_var 2)) fa_nil))))))))
def p_running_size : fS := (fSeq (fDrop (fCall e_check_steps 1 [] (fCons (fVar 0) fNil))) (fSeq (fAsg (fCall e_upright_moves 1 [] (fCons (fVar 0) fNil)) (fGt 2 (fGc (fGn 1) (fGc (fGn 2) fGl)))) (fSeq (fSet 3 (fLstO (fCons (fC (.int 1)) (fCons (fC (.int 1)) fNil)))) (fSeq (fSet 4 (fLstO (fCons (fC (.int 0)) (fCons (fC (.int 0)) fNil)))) (fSeq (fFor (iSq (fVar 2)) (fGt 3 (fGc (fGn 1) (fGc (fGn 5) (fGc (fGn 6) fGl)))) (fSeq (fSet 7 (fKix tab_DIRECTIONS (fVar 5))) (fIfS (fTest (fBin oNotN (fVar 6) (fC .non))) (fAugS (fun i j => i + j) (fVar 4) (fVar 7) (fC (.int 1))) (fSeq (fAsg (fFn lMax (fCons (fIxO (fVar 3) (fVar 7)) (fCons (fBin oSub (fC (.int 2)) (fIxO (fVar 4) (fVar 7))) fNil))) (fGsub (fVar 3) (fVar 7))) (fAugS (fun i j => i - j) (fVar 4) (fVar 7) (fC (.int 1))))))) (fRet (fFn lTuple (fCons (fFrz (fVar 3)) fNil))))))))
def e_running_size : fF := fBody p_running_size 7
theorem ok_running_size (T : Tx w K mg base A) : FnG P w K mg base 12 A.a_running_size A.fd_running_size ["steps"] (gF e_running_size) := by
  refine fnF_mk (fs := p_running_size) T.F_running_size sc_running_size fun Φ cdv A' outer s H E iΦ hr => ?_
  exact (fss_cons (fs_expr (fe_call (ok_check_steps T) (hr.mono (by decide)) (by rfl) T.g_check_steps T.F_check_steps.kp T.b_check_steps .nil (fun _ => .nil) (takes_of rfl rfl rfl rfl) (fa_cons (fe_var 0) fa_nil))) (fss_cons (fs_asg (fe_call (ok_upright_moves T) (hr.mono (by decide)) (by rfl) T.g_upright_moves T.F_upright_moves.kp T.b_upright_moves .nil (fun _ => .nil) (takes_of rfl rfl rfl rfl) (fa_cons (fe_var 0) fa_nil)) (fg_tup rfl (fgs_cons (fg_name (i := 1) sc_running_size.nd rfl (by first | exact Or.inl rfl | exact Or.inr rfl)) (fgs_cons (fg_name (i := 2) sc_running_size.nd rfl (by first | exact Or.inl rfl | exact Or.inr rfl)) fgs_nil)))) (fss_cons (fs_set (i := 3) sc_running_size.nd rfl (by first | exact Or.inl rfl | exact Or.inr rfl) (fe_lstO (fa_cons fe_int (fa_cons fe_int fa_nil)))) (fss_cons (fs_set (i := 4) sc_running_size.nd rfl (by first | exact Or.inl rfl | exact Or.inr rfl) (fe_lstO (fa_cons fe_int (fa_cons fe_int fa_nil)))) (fss_cons (fs_for (passes_of rfl) rfl (fi_seq (fe_var 2)) (fg_tup rfl (fgs_cons (fg_name (i := 1) sc_running_size.nd rfl (by first | exact Or.inl rfl | exact Or.inr rfl)) (fgs_cons (fg_name (i := 5) sc_running_size.nd rfl (by first | exact Or.inl rfl | exact Or.inr rfl)) (fgs_cons (fg_name (i := 6) sc_running_size.nd rfl (by first | exact Or.inl rfl | exact Or.inr rfl)) fgs_nil)))) (fss_cons (fs_set (i := 7) sc_running_size.nd rfl (by first | exact Or.inl rfl | exact Or.inr rfl) (fe_kix (by rfl) T.g_DIRECTIONS T.c_DIRECTIONS tn_DIRECTIONS (fe_var 5))) (fss_one (fs_if (ft_cmp o_notN ow_notN (fe_var 6) fe_non) (fss_one (fs_augS ip_addO (fe_var 4) (fe_var 7) fe_int)) (fss_cons (fs_asgSub (fe_callB (f_max rfl) lw_max (by rfl) T.n_max (by decide +kernel) (fa_cons (fe_ixO (fe_var 3) (fe_var 7)) (fa_cons (fe_bin o_sub ow_sub fe_int (fe_ixO (fe_var 4) (fe_var 7))) fa_nil))) (fg_subO (fe_var 3) (fe_var 7))) (fss_one (fs_augS ip_subO (fe_var 4) (fe_var 7) fe_int))))))) (fss_one (fs_ret (fe_callTy f_tuple lw_tuple (by rfl) T.n_tuple (by decide +kernel) (fa_cons (fe_frz (fe_var 3)) fa_nil)))))))))
def p_l_draw : fS := (fSeq (fIfS (fTest (fBin oEq (fIxO (fVar 0) (fC (.int 2))) (fC (.int 0)))) (fSeq (fSet 2 (fIf (fTest (fBin oLt (fIxO (fVar 0) (fC (.int 1))) (fFn lLen (fCons (fIxO (fVar 0) (fC (.int 0))) fNil)))) (fBin oIx (fIxO (fVar 0) (fC (.int 0))) (fIxO (fVar 0) (fC (.int 1)))) (fC (.int 0)))) (fSeq (fAsg (fBin oAdd (fIxO (fVar 0) (fC (.int 1))) (fC (.int 1))) (fGsub (fVar 0) (fC (.int 1)))) (fSeq (fIfS (fTest (fBin oLt (fVar 2) (fBin oPow (fC (.int 10)) (fC (.int 18))))) (fSeq (fAsg (fBin oMod (fBin oAdd (fBin oAdd (fBin oMul1 (fIxO (fVar 0) (fC (.int 3))) (fC (.int 48271))) (fBin oMod (fVar 2) (fC (.int 2147483629)))) (fIxO (fVar 0) (fC (.int 1)))) (fC (.int 2147483647))) (fGsub (fVar 0) (fC (.int 3)))) (fRet (fBin oMod (fBin oDiv (fBin oMod (fBin oMul1 (fIxO (fVar 0) (fC (.int 3))) (fIxO (fVar 0) (fC (.int 3)))) (fC (.int 2147483629))) (fC (.int 7))) (fVar 1)))) fNext) (fAsg (fVar 2) (fGsub (fVar 0) (fC (.int 2))))))) fNext) (fSeq (fSet 3 (fBin oMod (fIxO (fVar 0) (fC (.int 2))) (fVar 1))) (fSeq (fAsg (fBin oDiv (fIxO (fVar 0) (fC (.int 2))) (fVar 1)) (fGsub (fVar 0) (fC (.int 2)))) (fRet (fVar 3)))))
def e_l_draw : fF := fBody p_l_draw 2
theorem ok_l_draw (T : Tx w K mg base A) : FnG P w K mg base 2 A.a_l_draw A.fd_l_draw ["pool", "count"] (gF e_l_draw) := by
  refine fnF_mk (fs := p_l_draw) T.F_l_draw sc_l_draw fun Φ cdv A' outer s H E iΦ hr => ?_
  exact (fss_cons (fs_if (ft_cmp (o_eq' hr.units) ow_eq (fe_ixO (fe_var 0) fe_int) fe_int) (fss_cons (fs_set (i := 2) sc_l_draw.nd rfl (by first | exact Or.inl rfl | exact Or.inr rfl) (fe_if (ft_cmp o_lt ow_lt (fe_ixO (fe_var 0) fe_int) (fe_callB (f_len) lw_len (by rfl) T.n_len (by decide +kernel) (fa_cons (fe_ixO (fe_var 0) fe_int) fa_nil))) (fe_ix x_seq ow_ix (fe_ixO (fe_var 0) fe_int) (fe_ixO (fe_var 0) fe_int)) fe_int)) (fss_cons (fs_asgSub (fe_bin o_add ow_add (fe_ixO (fe_var 0) fe_int) fe_int) (fg_subO (fe_var 0) fe_int)) (fss_cons (fs_if (ft_cmp o_lt ow_lt (fe_var 2) (fe_bin o_pow ow_pow fe_int fe_int)) (fss_cons (fs_asgSub (fe_bin o_mod ow_mod (fe_bin o_add ow_add (fe_bin o_add ow_add (fe_bin o_mul1 ow_mul1 (fe_ixO (fe_var 0) fe_int) fe_int) (fe_bin o_mod ow_mod (fe_var 2) fe_int)) (fe_ixO (fe_var 0) fe_int)) fe_int) (fg_subO (fe_var 0) fe_int)) (fss_one (fs_ret (fe_bin o_mod ow_mod (fe_bin o_div ow_div (fe_bin o_mod ow_mod (fe_bin o_mul1 ow_mul1 (fe_ixO (fe_var 0) fe_int) (fe_ixO (fe_var 0) fe_int)) fe_int) fe_int) (fe_var 1))))) fss_nil) (fss_one (fs_asgSub (fe_var 2) (fg_subO (fe_var 0) fe_int)))))) fss_nil) (fss_cons (fs_set (i := 3) sc_l_draw.nd rfl (by first | exact Or.inl rfl | exact Or.inr rfl) (fe_bin o_mod ow_mod (fe_ixO (fe_var 0) fe_int) (fe_var 1))) (fss_cons (fs_asgSub (fe_bin o_div ow_div (fe_ixO (fe_var 0) fe_int) (fe_var 1)) (fg_subO (fe_var 0) fe_int)) (fss_one (fs_ret (fe_var 3))))))
def p_l_base : fS := (fRet (fBin oIx (fLst (fCons (fC (.int 0)) (fCons (fC (.int 7)) (fCons (fBin oPow (fC (.int 10)) (fC (.int 25))) fNil)))) (fCall e_l_draw 2 [] (fCons (fVar 0) (fCons (fC (.int 3)) fNil)))))
def e_l_base : fF := fBody p_l_base 0
theorem ok_l_base (T : Tx w K mg base A) : FnG P w K mg base 4 A.a_l_base A.fd_l_base ["pool"] (gF e_l_base) := by
  refine fnF_mk (fs := p_l_base) T.F_l_base sc_l_base fun Φ cdv A' outer s H E iΦ hr => ?_
  exact (fss_one (fs_ret (fe_ix x_seq ow_ix (fe_lst (fa_cons fe_int (fa_cons fe_int (fa_cons (fe_bin o_pow ow_pow fe_int fe_int) fa_nil)))) (fe_call (ok_l_draw T) (hr.mono (by decide)) (by rfl) T.g_l_draw T.F_l_draw.kp T.b_l_draw .nil (fun _ => .nil) (takes_of rfl rfl rfl rfl) (fa_cons (fe_var 0) (fa_cons fe_int fa_nil))))))
def p_l_steps : fS := (fSeq (fSet 3 (fLstO fNil)) (fSeq (fFor (iR1 (fCons (fVar 1) fNil)) (fGn 4) (fSeq (fSet 5 (fCall e_l_draw 2 [] (fCons (fVar 0) (fCons (fC (.int 8)) fNil)))) (fSeq (fSet 6 (fBin oIx (fLst (fCons (fC (.str "top")) (fCons (fC (.str "right")) (fCons (fC (.str "bottom")) (fCons (fC (.str "left")) fNil))))) (fCall e_l_draw 2 [] (fCons (fVar 0) (fCons (fC (.int 4)) fNil))))) (fIfS (fTest (fBin oLt (fVar 5) (fC (.int 2)))) (fDrop (fApp (fVar 3) (fBin oIx (fLst (fCons (fTup (fCons (fC (.str "turn")) fNil)) (fCons (fTup (fCons (fC (.str "mirror")) fNil)) fNil))) (fVar 5)))) (fIfS (fTest (fBin oLt (fVar 5) (fC (.int 5)))) (fDrop (fApp (fVar 3) (fTup (fCons (fC (.str "cut")) (fCons (fVar 6) fNil))))) (fDrop (fApp (fVar 3) (fTup (fCons (fC (.str "add")) (fCons (fVar 6) (fCons (fBin oAdd (fVar 2) (fCall e_l_draw 2 [] (fCons (fVar 0) (fCons (fC (.int 3)) fNil)))) fNil))))))))))) (fRet (fFrz (fVar 3)))))
def e_l_steps : fF := fBody p_l_steps 4
theorem ok_l_steps (T : Tx w K mg base A) : FnG P w K mg base 4 A.a_l_steps A.fd_l_steps ["pool", "count", "base"] (gF e_l_steps) := by
  refine fnF_mk (fs := p_l_steps) T.F_l_steps sc_l_steps fun Φ cdv A' outer s H E iΦ hr => ?_
  exact (fss_cons (fs_set (i := 3) sc_l_steps.nd rfl (by first | exact Or.inl rfl | exact Or.inr rfl) (fe_lstO fa_nil)) (fss_cons (fs_for (passes_of rfl) rfl (fi_range1 (by rfl) T.n_range (fa_cons (fe_var 1) fa_nil)) (fg_name (i := 4) sc_l_steps.nd rfl (by first | exact Or.inl rfl | exact Or.inr rfl)) (fss_cons (fs_set (i := 5) sc_l_steps.nd rfl (by first | exact Or.inl rfl | exact Or.inr rfl) (fe_call (ok_l_draw T) (hr.mono (by decide)) (by rfl) T.g_l_draw T.F_l_draw.kp T.b_l_draw .nil (fun _ => .nil) (takes_of rfl rfl rfl rfl) (fa_cons (fe_var 0) (fa_cons fe_int fa_nil)))) (fss_cons (fs_set (i := 6) sc_l_steps.nd rfl (by first | exact Or.inl rfl | exact Or.inr rfl) (fe_ix x_seq ow_ix (fe_lst (fa_cons fe_str (fa_cons fe_str (fa_cons fe_str (fa_cons fe_str fa_nil))))) (fe_call (ok_l_draw T) (hr.mono (by decide)) (by rfl) T.g_l_draw T.F_l_draw.kp T.b_l_draw .nil (fun _ => .nil) (takes_of rfl rfl rfl rfl) (fa_cons (fe_var 0) (fa_cons fe_int fa_nil))))) (fss_one (fs_if (ft_cmp o_lt ow_lt (fe_var 5) fe_int) (fss_one (fs_expr (fe_app (fe_var 3) (fe_ix x_seq ow_ix (fe_lst (fa_cons (fe_tup (fa_cons fe_str fa_nil)) (fa_cons (fe_tup (fa_cons fe_str fa_nil)) fa_nil))) (fe_var 5))))) (fss_one (fs_if (ft_cmp o_lt ow_lt (fe_var 5) fe_int) (fss_one (fs_expr (fe_app (fe_var 3) (fe_tup (fa_cons fe_str (fa_cons (fe_var 6) fa_nil)))))) (fss_one (fs_expr (fe_app (fe_var 3) (fe_tup (fa_cons fe_str (fa_cons (fe_var 6) (fa_cons (fe_bin o_add ow_add (fe_var 2) (fe_call (ok_l_draw T) (hr.mono (by decide)) (by rfl) T.g_l_draw T.F_l_draw.kp T.b_l_draw .nil (fun _ => .nil) (takes_of rfl rfl rfl rfl) (fa_cons (fe_var 0) (fa_cons fe_int fa_nil)))) fa_nil)))))))))))))) (fss_one (fs_ret (fe_frz (fe_var 3))))))
def p_l_after : fS := (fSeq (fIfS (fTest (fBin oEq (fBin oIx (fVar 1) (fC (.int 0))) (fC (.str "turn")))) (fRet (fLc (iR1 (fCons (fFn lLen (fCons (fBin oIx (fVar 0) (fC (.int 0))) fNil)) fNil)) (fGn 5) fYes (fFn lTuple (fCons (fLc (iSq (fBack (fVar 0))) (fGn 4) fYes (fBin oIx (fVar 4) (fVar 5)) [4]) fNil)) [5])) fNext) (fSeq (fIfS (fTest (fBin oEq (fBin oIx (fVar 1) (fC (.int 0))) (fC (.str "mirror")))) (fRet (fLc (iSq (fVar 0)) (fGn 4) fYes (fBack (fVar 4)) [4])) fNext) (fSeq (fSet 2 (fBin oIx (fVar 1) (fC (.int 1)))) (fSeq (fIfS (fTest (fBin oEq (fBin oIx (fVar 1) (fC (.int 0))) (fC (.str "cut")))) (fSeq (fIfS (fTest (fBin oEq (fIf (fTest (fBin oIn (fVar 2) (fLst (fCons (fC (.str "top")) (fCons (fC (.str "bottom")) fNil))))) (fFn lLen (fCons (fVar 0) fNil)) (fFn lLen (fCons (fBin oIx (fVar 0) (fC (.int 0))) fNil))) (fC (.int 1)))) (fRet (fC .non)) fNext) (fSeq (fIfS (fTest (fBin oIn (fVar 2) (fLst (fCons (fC (.str "top")) (fCons (fC (.str "bottom")) fNil))))) (fRet (fIf (fTest (fBin oEq (fVar 2) (fC (.str "top")))) (fSl (fVar 0) (fPs (fC (.int 1))) fPn) (fSl (fVar 0) fPn (fPs (fNeg (fC (.int 1))))))) fNext) (fRet (fLc (iSq (fVar 0)) (fGn 4) fYes (fIf (fTest (fBin oEq (fVar 2) (fC (.str "left")))) (fSl (fVar 4) (fPs (fC (.int 1))) fPn) (fSl (fVar 4) fPn (fPs (fNeg (fC (.int 1)))))) [4])))) fNext) (fSeq (fSet 3 (fBin oMul1 (fTup (fCons (fBin oIx (fVar 1) (fC (.int 2))) fNil)) (fFn lLen (fCons (fBin oIx (fVar 0) (fC (.int 0))) fNil)))) (fSeq (fIfS (fTest (fBin oIn (fVar 2) (fLst (fCons (fC (.str "top")) (fCons (fC (.str "bottom")) fNil))))) (fRet (fIf (fTest (fBin oEq (fVar 2) (fC (.str "top")))) (fBin oAdd (fLst (fCons (fVar 3) fNil)) (fVar 0)) (fBin oAdd (fVar 0) (fLst (fCons (fVar 3) fNil))))) fNext) (fRet (fLc (iSq (fVar 0)) (fGn 4) fYes (fIf (fTest (fBin oEq (fVar 2) (fC (.str "left")))) (fBin oAdd (fTup (fCons (fBin oIx (fVar 1) (fC (.int 2))) fNil)) (fVar 4)) (fBin oAdd (fVar 4) (fTup (fCons (fBin oIx (fVar 1) (fC (.int 2))) fNil)))) [4]))))))))
def e_l_after : fF := fBody p_l_after 4
theorem ok_l_after (T : Tx w K mg base A) : FnG P w K mg base 2 A.a_l_after A.fd_l_after ["grid", "step"] (gF e_l_after) := by
  refine fnF_mk (fs := p_l_after) T.F_l_after sc_l_after fun Φ cdv A' outer s H E iΦ hr => ?_
  exact (fss_cons (fs_if (ft_cmp (o_eq' hr.units) ow_eq (fe_ix x_seq ow_ix (fe_var 1) fe_int) fe_str) (fss_one (fs_ret (fe_lc rfl sc_l_after.nd (own := [("at", 5)]) (fi_range1 (by rfl) T.n_range (fa_cons (fe_callB (f_len) lw_len (by rfl) T.n_len (by decide +kernel) (fa_cons (fe_ix x_seq ow_ix (fe_var 0) fe_int) fa_nil)) fa_nil)) (blkOk_by (N := ["grid", "step", "side", "line", "row", "at"]) (sc := defScope s_l_after) (by decide +kernel)) (fun _ _ _ _ _ _ _ => (fg_name (i := 5) sc_l_after.nd rfl (by first | exact Or.inl rfl | exact Or.inr rfl))) (fun _ _ _ _ _ _ _ => fts_nil) (fun _ _ _ _ _ _ _ => (fe_callTy f_tuple lw_tuple (by rfl) T.n_tuple (by decide +kernel) (fa_cons (fe_lc rfl sc_l_after.nd (own := [("row", 4)]) (fi_seq (fe_back (fe_var 0))) (blkOk_in (N := ["grid", "step", "side", "line", "row", "at"]) (sc0 := defScope s_l_after) (by decide +kernel)) (fun _ _ _ _ _ _ _ => (fg_name (i := 4) sc_l_after.nd rfl (by first | exact Or.inl rfl | exact Or.inr rfl))) (fun _ _ _ _ _ _ _ => fts_nil) (fun _ _ _ _ _ _ _ => (fe_ix x_seq ow_ix (fe_var 4) (fe_var 5)))) fa_nil)))))) fss_nil) (fss_cons (fs_if (ft_cmp (o_eq' hr.units) ow_eq (fe_ix x_seq ow_ix (fe_var 1) fe_int) fe_str) (fss_one (fs_ret (fe_lc rfl sc_l_after.nd (own := [("row", 4)]) (fi_seq (fe_var 0)) (blkOk_by (N := ["grid", "step", "side", "line", "row", "at"]) (sc := defScope s_l_after) (by decide +kernel)) (fun _ _ _ _ _ _ _ => (fg_name (i := 4) sc_l_after.nd rfl (by first | exact Or.inl rfl | exact Or.inr rfl))) (fun _ _ _ _ _ _ _ => fts_nil) (fun _ _ _ _ _ _ _ => (fe_back (fe_var 4)))))) fss_nil) (fss_cons (fs_set (i := 2) sc_l_after.nd rfl (by first | exact Or.inl rfl | exact Or.inr rfl) (fe_ix x_seq ow_ix (fe_var 1) fe_int)) (fss_cons (fs_if (ft_cmp (o_eq' hr.units) ow_eq (fe_ix x_seq ow_ix (fe_var 1) fe_int) fe_str) (fss_cons (fs_if (ft_cmp (o_eq' hr.units) ow_eq (fe_if (ft_cmp o_in ow_in (fe_var 2) (fe_lst (fa_cons fe_str (fa_cons fe_str fa_nil)))) (fe_callB (f_len) lw_len (by rfl) T.n_len (by decide +kernel) (fa_cons (fe_var 0) fa_nil)) (fe_callB (f_len) lw_len (by rfl) T.n_len (by decide +kernel) (fa_cons (fe_ix x_seq ow_ix (fe_var 0) fe_int) fa_nil))) fe_int) (fss_one (fs_ret fe_non)) fss_nil) (fss_cons (fs_if (ft_cmp o_in ow_in (fe_var 2) (fe_lst (fa_cons fe_str (fa_cons fe_str fa_nil)))) (fss_one (fs_ret (fe_if (ft_cmp (o_eq' hr.units) ow_eq (fe_var 2) fe_str) (fe_sl (fe_var 0) (fo_some fe_int) fo_none) (fe_sl (fe_var 0) fo_none (fo_some (fe_neg fe_int)))))) fss_nil) (fss_one (fs_ret (fe_lc rfl sc_l_after.nd (own := [("row", 4)]) (fi_seq (fe_var 0)) (blkOk_by (N := ["grid", "step", "side", "line", "row", "at"]) (sc := defScope s_l_after) (by decide +kernel)) (fun _ _ _ _ _ _ _ => (fg_name (i := 4) sc_l_after.nd rfl (by first | exact Or.inl rfl | exact Or.inr rfl))) (fun _ _ _ _ _ _ _ => fts_nil) (fun _ _ _ _ _ _ _ => (fe_if (ft_cmp (o_eq' (rmB hr).units) ow_eq (fe_var 2) fe_str) (fe_sl (fe_var 4) (fo_some fe_int) fo_none) (fe_sl (fe_var 4) fo_none (fo_some (fe_neg fe_int)))))))))) fss_nil) (fss_cons (fs_set (i := 3) sc_l_after.nd rfl (by first | exact Or.inl rfl | exact Or.inr rfl) (fe_bin o_mul1 ow_mul1 (fe_tup (fa_cons (fe_ix x_seq ow_ix (fe_var 1) fe_int) fa_nil)) (fe_callB (f_len) lw_len (by rfl) T.n_len (by decide +kernel) (fa_cons (fe_ix x_seq ow_ix (fe_var 0) fe_int) fa_nil)))) (fss_cons (fs_if (ft_cmp o_in ow_in (fe_var 2) (fe_lst (fa_cons fe_str (fa_cons fe_str fa_nil)))) (fss_one (fs_ret (fe_if (ft_cmp (o_eq' hr.units) ow_eq (fe_var 2) fe_str) (fe_bin o_add ow_add (fe_lst (fa_cons (fe_var 3) fa_nil)) (fe_var 0)) (fe_bin o_add ow_add (fe_var 0) (fe_lst (fa_cons (fe_var 3) fa_nil)))))) fss_nil) (fss_one (fs_ret (fe_lc rfl sc_l_after.nd (own := [("row", 4)]) (fi_seq (fe_var 0)) (blkOk_by (N := ["grid", "step", "side", "line", "row", "at"]) (sc := defScope s_l_after) (by decide +kernel)) (fun _ _ _ _ _ _ _ => (fg_name (i := 4) sc_l_after.nd rfl (by first | exact Or.inl rfl | exact Or.inr rfl))) (fun _ _ _ _ _ _ _ => fts_nil) (fun _ _ _ _ _ _ _ => (fe_if (ft_cmp (o_eq' (rmB hr).units) ow_eq (fe_var 2) fe_str) (fe_bin o_add ow_add (fe_tup (fa_cons (fe_ix x_seq ow_ix (fe_var 1) fe_int) fa_nil)) (fe_var 4)) (fe_bin o_add ow_add (fe_var 4) (fe_tup (fa_cons (fe_ix x_seq ow_ix (fe_var 1) fe_int) fa_nil))))))))))))))
def p_l_run : fS := (fSeq (fSet 2 (fVar 0)) (fSeq (fFor (iR1 (fCons (fFn lLen (fCons (fVar 1) fNil)) fNil)) (fGn 3) (fSeq (fSet 2 (fCall e_l_after 2 [] (fCons (fVar 2) (fCons (fBin oIx (fVar 1) (fVar 3)) fNil)))) (fIfS (fTest (fBin oIsN (fVar 2) (fC .non))) (fRet (fLst (fCons (fC .non) (fCons (fVar 3) fNil)))) fNext))) (fRet (fLst (fCons (fVar 2) (fCons (fC .non) fNil))))))
def e_l_run : fF := fBody p_l_run 2
theorem ok_l_run (T : Tx w K mg base A) : FnG P w K mg base 4 A.a_l_run A.fd_l_run ["grid", "steps"] (gF e_l_run) := by
  refine fnF_mk (fs := p_l_run) T.F_l_run sc_l_run fun Φ cdv A' outer s H E iΦ hr => ?_
  exact (fss_cons (fs_set (i := 2) sc_l_run.nd rfl (by first | exact Or.inl rfl | exact Or.inr rfl) (fe_var 0)) (fss_cons (fs_for (passes_of rfl) rfl (fi_range1 (by rfl) T.n_range (fa_cons (fe_callB (f_len) lw_len (by rfl) T.n_len (by decide +kernel) (fa_cons (fe_var 1) fa_nil)) fa_nil)) (fg_name (i := 3) sc_l_run.nd rfl (by first | exact Or.inl rfl | exact Or.inr rfl)) (fss_cons (fs_set (i := 2) sc_l_run.nd rfl (by first | exact Or.inl rfl | exact Or.inr rfl) (fe_call (ok_l_after T) (hr.mono (by decide)) (by rfl) T.g_l_after T.F_l_after.kp T.b_l_after .nil (fun _ => .nil) (takes_of rfl rfl rfl rfl) (fa_cons (fe_var 2) (fa_cons (fe_ix x_seq ow_ix (fe_var 1) (fe_var 3)) fa_nil)))) (fss_one (fs_if (ft_cmp o_isN ow_isN (fe_var 2) fe_non) (fss_one (fs_ret (fe_lst (fa_cons fe_non (fa_cons (fe_var 3) fa_nil))))) fss_nil)))) (fss_one (fs_ret (fe_lst (fa_cons (fe_var 2) (fa_cons fe_non fa_nil)))))))
def p_l_cells : fS := (fRet (fLc (iR1 (fCons (fVar 0) fNil)) (fGn 3) fYes (fFn lTuple (fCons (fLc (iR1 (fCons (fVar 1) fNil)) (fGn 4) fYes (fBin oAdd (fBin oAdd (fVar 2) (fBin oMul1 (fVar 3) (fVar 1))) (fVar 4)) [4]) fNil)) [3]))
def e_l_cells : fF := fBody p_l_cells 2
theorem ok_l_cells (T : Tx w K mg base A) : FnG P w K mg base 2 A.a_l_cells A.fd_l_cells ["height", "width", "first"] (gF e_l_cells) := by
  refine fnF_mk (fs := p_l_cells) T.F_l_cells sc_l_cells fun Φ cdv A' outer s H E iΦ hr => ?_
  exact (fss_one (fs_ret (fe_lc rfl sc_l_cells.nd (own := [("at", 3)]) (fi_range1 (by rfl) T.n_range (fa_cons (fe_var 0) fa_nil)) (blkOk_by (N := ["height", "width", "first", "at", "place"]) (sc := defScope s_l_cells) (by decide +kernel)) (fun _ _ _ _ _ _ _ => (fg_name (i := 3) sc_l_cells.nd rfl (by first | exact Or.inl rfl | exact Or.inr rfl))) (fun _ _ _ _ _ _ _ => fts_nil) (fun _ _ _ _ _ _ _ => (fe_callTy f_tuple lw_tuple (by rfl) T.n_tuple (by decide +kernel) (fa_cons (fe_lc rfl sc_l_cells.nd (own := [("place", 4)]) (fi_range1 (by rfl) T.n_range (fa_cons (fe_var 1) fa_nil)) (blkOk_in (N := ["height", "width", "first", "at", "place"]) (sc0 := defScope s_l_cells) (by decide +kernel)) (fun _ _ _ _ _ _ _ => (fg_name (i := 4) sc_l_cells.nd rfl (by first | exact Or.inl rfl | exact Or.inr rfl))) (fun _ _ _ _ _ _ _ => fts_nil) (fun _ _ _ _ _ _ _ => (fe_bin o_add ow_add (fe_bin o_add ow_add (fe_var 2) (fe_bin o_mul1 ow_mul1 (fe_var 3) (fe_var 1))) (fe_var 4)))) fa_nil))))))
def p_l_runs : fS := (fRet (fBin oNotN (fBin oIx (fCall e_l_run 2 [] (fCons (fCall e_l_cells 3 [] (fCons (fVar 1) (fCons (fVar 2) (fCons (fBin oPow (fC (.int 10)) (fC (.int 40))) fNil)))) (fCons (fVar 0) fNil))) (fC (.int 0))) (fC .non)))
def e_l_runs : fF := fBody p_l_runs 0
theorem ok_l_runs (T : Tx w K mg base A) : FnG P w K mg base 6 A.a_l_runs A.fd_l_runs ["steps", "height", "width"] (gF e_l_runs) := by
  refine fnF_mk (fs := p_l_runs) T.F_l_runs sc_l_runs fun Φ cdv A' outer s H E iΦ hr => ?_
  exact (fss_one (fs_ret (fe_cmp o_notN ow_notN (fe_ix x_seq ow_ix (fe_call (ok_l_run T) (hr.mono (by decide)) (by rfl) T.g_l_run T.F_l_run.kp T.b_l_run .nil (fun _ => .nil) (takes_of rfl rfl rfl rfl) (fa_cons (fe_call (ok_l_cells T) (hr.mono (by decide)) (by rfl) T.g_l_cells T.F_l_cells.kp T.b_l_cells .nil (fun _ => .nil) (takes_of rfl rfl rfl rfl) (fa_cons (fe_var 1) (fa_cons (fe_var 2) (fa_cons (fe_bin o_pow ow_pow fe_int fe_int) fa_nil)))) (fa_cons (fe_var 0) fa_nil))) fe_int) fe_non)))
def p_law : fS := (fSeq (fSet 1 (fLstO (fCons (fFn lListF (fCons (fVar 0) fNil)) (fCons (fC (.int 0)) (fCons (fC (.int 0)) (fCons (fC (.int 1)) fNil)))))) (fSeq (fFor (iR1 (fCons (fC (.int 4)) fNil)) (fGn 2) (fSeq (fSet 3 (fCall e_l_steps 3 [] (fCons (fVar 1) (fCons (fCall e_l_draw 2 [] (fCons (fVar 1) (fCons (fC (.int 11)) fNil))) (fCons (fCall e_l_base 1 [] (fCons (fVar 1) fNil)) fNil))))) (fSeq (fSet 4 (fCall e_running_size 1 [] (fCons (fVar 3) fNil))) (fSeq (fIfS (fOr (fNot (fTest (fIsi [.tuple] (fVar 4)))) (fOr (fTest (fBin oNe (fFn lLen (fCons (fVar 4) fNil)) (fC (.int 2)))) (fTest (fBin oNe (fCall e_running_size 1 [] (fCons (fFn lTuple (fCons (fVar 3) fNil)) fNil)) (fVar 4))))) (fRet (fC (.bl false))) fNext) (fSeq (fAsg (fVar 4) (fGt 2 (fGc (fGn 5) (fGc (fGn 6) fGl)))) (fSeq (fIfS (fOr (fNot (fTest (fChain oLe oLe (fC (.int 1)) (fVar 5) (fBin oAdd (fFn lLen (fCons (fVar 3) fNil)) (fC (.int 1)))))) (fNot (fTest (fChain oLe oLe (fC (.int 1)) (fVar 6) (fBin oAdd (fFn lLen (fCons (fVar 3) fNil)) (fC (.int 1))))))) (fRet (fC (.bl false))) fNext) (fSeq (fIfS (fOr (fNot (fTest (fCall e_l_runs 3 [] (fCons (fVar 3) (fCons (fVar 5) (fCons (fVar 6) fNil)))))) (fNot (fTest (fCall e_l_runs 3 [] (fCons (fVar 3) (fCons (fBin oAdd (fVar 5) (fCall e_l_draw 2 [] (fCons (fVar 1) (fCons (fC (.int 4)) fNil)))) (fCons (fBin oAdd (fVar 6) (fC (.int 3))) fNil))))))) (fRet (fC (.bl false))) fNext) (fSeq (fIfS (fAnd (fTest (fBin oGt (fVar 5) (fC (.int 1)))) (fTest (fCall e_l_runs 3 [] (fCons (fVar 3) (fCons (fBin oSub (fVar 5) (fC (.int 1))) (fCons (fBin oAdd (fVar 6) (fC (.int 3))) fNil)))))) (fRet (fC (.bl false))) fNext) (fIfS (fAnd (fTest (fBin oGt (fVar 6) (fC (.int 1)))) (fTest (fCall e_l_runs 3 [] (fCons (fVar 3) (fCons (fBin oAdd (fVar 5) (fC (.int 3))) (fCons (fBin oSub (fVar 6) (fC (.int 1))) fNil)))))) (fRet (fC (.bl false))) fNext))))))))) (fSeq (fSet 7 (fBin oAdd (fBin oAdd (fBin oAdd (fBin oMul1 (fLst (fCons (fTup (fCons (fC (.str "cut")) (fCons (fC (.str "top")) fNil))) fNil)) (fC (.int 100))) (fLst (fCons (fTup (fCons (fC (.str "turn")) fNil)) fNil))) (fBin oMul1 (fLst (fCons (fTup (fCons (fC (.str "cut")) (fCons (fC (.str "left")) fNil))) fNil)) (fC (.int 50)))) (fBin oMul1 (fLst (fCons (fTup (fCons (fC (.str "cut")) (fCons (fC (.str "top")) fNil))) fNil)) (fC (.int 49))))) (fRet (fAndV (fBin oEq (fCall e_running_size 1 [] (fCons (fVar 7) fNil)) (fTup (fCons (fC (.int 151)) (fCons (fC (.int 50)) fNil)))) (fBin oEq (fCall e_running_size 1 [] (fCons (fBin oMul1 (fLst (fCons (fTup (fCons (fC (.str "add")) (fCons (fC (.str "left")) (fCons (fC (.int 3)) fNil)))) fNil)) (fC (.int 200))) fNil)) (fTup (fCons (fC (.int 1)) (fCons (fC (.int 1)) fNil)))))))))
def e_law : fF := fBody p_law 7
theorem ok_law (T : Tx w K mg base A) (hm : ∀ ns : List Int, ns.length ≤ 63 → ∃ s1, e_law [.frz (ns.map D.int)] [] = .ok (.bl true) s1) : FnS P w K mg base 14 A.a_law A.fd_law ["script"] (spLawD K) := by
  refine lawF_mk (fs := p_law) T.F_law sc_law (fun cdv A' outer s H E iΦ hr => ?_) hm
  exact (fss_cons (fs_set (i := 1) sc_law.nd rfl (by first | exact Or.inl rfl | exact Or.inr rfl) (fe_lstO (fa_cons (fe_callTy f_listF lw_listF (by rfl) T.n_list (by decide +kernel) (fa_cons (fe_var 0) fa_nil)) (fa_cons fe_int (fa_cons fe_int (fa_cons fe_int fa_nil)))))) (fss_cons (fs_for (passes_of rfl) rfl (fi_range1 (by rfl) T.n_range (fa_cons fe_int fa_nil)) (fg_name (i := 2) sc_law.nd rfl (by first | exact Or.inl rfl | exact Or.inr rfl)) (fss_cons (fs_set (i := 3) sc_law.nd rfl (by first | exact Or.inl rfl | exact Or.inr rfl) (fe_call (ok_l_steps T) (hr.mono (by decide)) (by rfl) T.g_l_steps T.F_l_steps.kp T.b_l_steps .nil (fun _ => .nil) (takes_of rfl rfl rfl rfl) (fa_cons (fe_var 1) (fa_cons (fe_call (ok_l_draw T) (hr.mono (by decide)) (by rfl) T.g_l_draw T.F_l_draw.kp T.b_l_draw .nil (fun _ => .nil) (takes_of rfl rfl rfl rfl) (fa_cons (fe_var 1) (fa_cons fe_int fa_nil))) (fa_cons (fe_call (ok_l_base T) (hr.mono (by decide)) (by rfl) T.g_l_base T.F_l_base.kp T.b_l_base .nil (fun _ => .nil) (takes_of rfl rfl rfl rfl) (fa_cons (fe_var 1) fa_nil)) fa_nil))))) (fss_cons (fs_set (i := 4) sc_law.nd rfl (by first | exact Or.inl rfl | exact Or.inr rfl) (fe_call (ok_running_size T) (hr.mono (by decide)) (by rfl) T.g_running_size T.F_running_size.kp T.b_running_size .nil (fun _ => .nil) (takes_of rfl rfl rfl rfl) (fa_cons (fe_var 3) fa_nil))) (fss_cons (fs_if (FW.ft (fw_or (ft_not (ft_val (fe_isi (t := .tuple) rfl (by rfl) T.n_isinstance (fe_var 4) (pe_tyn (T := "tuple") (by rfl) T.n_tuple (by decide +kernel))))) (fw_or (ft_cmp (o_ne' hr.units) ow_ne (fe_callB (f_len) lw_len (by rfl) T.n_len (by decide +kernel) (fa_cons (fe_var 4) fa_nil)) fe_int) (fw_or1 (ft_cmp (o_ne' hr.units) ow_ne (fe_call (ok_running_size T) (hr.mono (by decide)) (by rfl) T.g_running_size T.F_running_size.kp T.b_running_size .nil (fun _ => .nil) (takes_of rfl rfl rfl rfl) (fa_cons (fe_callTy f_tuple lw_tuple (by rfl) T.n_tuple (by decide +kernel) (fa_cons (fe_var 3) fa_nil)) fa_nil)) (fe_var 4)))))) (fss_one (fs_ret fe_bl)) fss_nil) (fss_cons (fs_asg (fe_var 4) (fg_tup rfl (fgs_cons (fg_name (i := 5) sc_law.nd rfl (by first | exact Or.inl rfl | exact Or.inr rfl)) (fgs_cons (fg_name (i := 6) sc_law.nd rfl (by first | exact Or.inl rfl | exact Or.inr rfl)) fgs_nil)))) (fss_cons (fs_if (FW.ft (fw_or (ft_not (ft_chain o_le ow_le o_le ow_le fe_int (fe_var 5) (fe_bin o_add ow_add (fe_callB (f_len) lw_len (by rfl) T.n_len (by decide +kernel) (fa_cons (fe_var 3) fa_nil)) fe_int))) (fw_or1 (ft_not (ft_chain o_le ow_le o_le ow_le fe_int (fe_var 6) (fe_bin o_add ow_add (fe_callB (f_len) lw_len (by rfl) T.n_len (by decide +kernel) (fa_cons (fe_var 3) fa_nil)) fe_int)))))) (fss_one (fs_ret fe_bl)) fss_nil) (fss_cons (fs_if (FW.ft (fw_or (ft_not (ft_val (fe_call (ok_l_runs T) (hr.mono (by decide)) (by rfl) T.g_l_runs T.F_l_runs.kp T.b_l_runs .nil (fun _ => .nil) (takes_of rfl rfl rfl rfl) (fa_cons (fe_var 3) (fa_cons (fe_var 5) (fa_cons (fe_var 6) fa_nil)))))) (fw_or1 (ft_not (ft_val (fe_call (ok_l_runs T) (hr.mono (by decide)) (by rfl) T.g_l_runs T.F_l_runs.kp T.b_l_runs .nil (fun _ => .nil) (takes_of rfl rfl rfl rfl) (fa_cons (fe_var 3) (fa_cons (fe_bin o_add ow_add (fe_var 5) (fe_call (ok_l_draw T) (hr.mono (by decide)) (by rfl) T.g_l_draw T.F_l_draw.kp T.b_l_draw .nil (fun _ => .nil) (takes_of rfl rfl rfl rfl) (fa_cons (fe_var 1) (fa_cons fe_int fa_nil)))) (fa_cons (fe_bin o_add ow_add (fe_var 6) fe_int) fa_nil))))))))) (fss_one (fs_ret fe_bl)) fss_nil) (fss_cons (fs_if (FW.ft (fw_and (ft_cmp o_gt ow_gt (fe_var 5) fe_int) (fw_and1 (ft_val (fe_call (ok_l_runs T) (hr.mono (by decide)) (by rfl) T.g_l_runs T.F_l_runs.kp T.b_l_runs .nil (fun _ => .nil) (takes_of rfl rfl rfl rfl) (fa_cons (fe_var 3) (fa_cons (fe_bin o_sub ow_sub (fe_var 5) fe_int) (fa_cons (fe_bin o_add ow_add (fe_var 6) fe_int) fa_nil)))))))) (fss_one (fs_ret fe_bl)) fss_nil) (fss_one (fs_if (FW.ft (fw_and (ft_cmp o_gt ow_gt (fe_var 6) fe_int) (fw_and1 (ft_val (fe_call (ok_l_runs T) (hr.mono (by decide)) (by rfl) T.g_l_runs T.F_l_runs.kp T.b_l_runs .nil (fun _ => .nil) (takes_of rfl rfl rfl rfl) (fa_cons (fe_var 3) (fa_cons (fe_bin o_add ow_add (fe_var 5) fe_int) (fa_cons (fe_bin o_sub ow_sub (fe_var 6) fe_int) fa_nil)))))))) (fss_one (fs_ret fe_bl)) fss_nil)))))))))) (fss_cons (fs_set (i := 7) sc_law.nd rfl (by first | exact Or.inl rfl | exact Or.inr rfl) (fe_bin o_add ow_add (fe_bin o_add ow_add (fe_bin o_add ow_add (fe_bin o_mul1 ow_mul1 (fe_lst (fa_cons (fe_tup (fa_cons fe_str (fa_cons fe_str fa_nil))) fa_nil)) fe_int) (fe_lst (fa_cons (fe_tup (fa_cons fe_str fa_nil)) fa_nil))) (fe_bin o_mul1 ow_mul1 (fe_lst (fa_cons (fe_tup (fa_cons fe_str (fa_cons fe_str fa_nil))) fa_nil)) fe_int)) (fe_bin o_mul1 ow_mul1 (fe_lst (fa_cons (fe_tup (fa_cons fe_str (fa_cons fe_str fa_nil))) fa_nil)) fe_int))) (fss_one (fs_ret (fe_and (fe_cmp (o_eq' hr.units) ow_eq (fe_call (ok_running_size T) (hr.mono (by decide)) (by rfl) T.g_running_size T.F_running_size.kp T.b_running_size .nil (fun _ => .nil) (takes_of rfl rfl rfl rfl) (fa_cons (fe_var 7) fa_nil)) (fe_tup (fa_cons fe_int (fa_cons fe_int fa_nil)))) (fe_one (fe_cmp (o_eq' hr.units) ow_eq (fe_call (ok_running_size T) (hr.mono (by decide)) (by rfl) T.g_running_size T.F_running_size.kp T.b_running_size .nil (fun _ => .nil) (takes_of rfl rfl rfl rfl) (fa_cons (fe_bin o_mul1 ow_mul1 (fe_lst (fa_cons (fe_tup (fa_cons fe_str (fa_cons fe_str (fa_cons fe_int fa_nil)))) fa_nil)) fe_int) fa_nil)) (fe_tup (fa_cons fe_int (fa_cons fe_int fa_nil)))))))))))
end
-- level of the law: 14
end K51

set_option Elab.async false
set_option linter.all false
set_option maxRecDepth 100000
set_option maxHeartbeats 4000000
namespace K51
open PySem PySem.Spec PyProof.Rows L2 DL FL
theorem wi0 : oIn (.str "turn") (.tup [.str "turn", .str "mirror"]) = some (.bl true) := rfl
theorem we00 : oEq (.str "turn") (.str "turn") = some (.bl true) := (oEq_str (by decide +kernel) (by decide +kernel)).trans (congrArg (fun b => some (D.bl b)) (by decide +kernel))
theorem we01 : oEq (.str "turn") (.str "mirror") = some (.bl false) := (oEq_str (by decide +kernel) (by decide +kernel)).trans (congrArg (fun b => some (D.bl b)) (by decide +kernel))
theorem we02 : oEq (.str "turn") (.str "cut") = some (.bl false) := (oEq_str (by decide +kernel) (by decide +kernel)).trans (congrArg (fun b => some (D.bl b)) (by decide +kernel))
theorem we03 : oEq (.str "turn") (.str "add") = some (.bl false) := (oEq_str (by decide +kernel) (by decide +kernel)).trans (congrArg (fun b => some (D.bl b)) (by decide +kernel))
theorem wi1 : oIn (.str "mirror") (.tup [.str "turn", .str "mirror"]) = some (.bl true) := rfl
theorem we10 : oEq (.str "mirror") (.str "turn") = some (.bl false) := (oEq_str (by decide +kernel) (by decide +kernel)).trans (congrArg (fun b => some (D.bl b)) (by decide +kernel))
theorem we11 : oEq (.str "mirror") (.str "mirror") = some (.bl true) := (oEq_str (by decide +kernel) (by decide +kernel)).trans (congrArg (fun b => some (D.bl b)) (by decide +kernel))
theorem we12 : oEq (.str "mirror") (.str "cut") = some (.bl false) := (oEq_str (by decide +kernel) (by decide +kernel)).trans (congrArg (fun b => some (D.bl b)) (by decide +kernel))
theorem we13 : oEq (.str "mirror") (.str "add") = some (.bl false) := (oEq_str (by decide +kernel) (by decide +kernel)).trans (congrArg (fun b => some (D.bl b)) (by decide +kernel))
theorem wi2 : oIn (.str "cut") (.tup [.str "turn", .str "mirror"]) = some (.bl false) := rfl
theorem we20 : oEq (.str "cut") (.str "turn") = some (.bl false) := (oEq_str (by decide +kernel) (by decide +kernel)).trans (congrArg (fun b => some (D.bl b)) (by decide +kernel))
theorem we21 : oEq (.str "cut") (.str "mirror") = some (.bl false) := (oEq_str (by decide +kernel) (by decide +kernel)).trans (congrArg (fun b => some (D.bl b)) (by decide +kernel))
theorem we22 : oEq (.str "cut") (.str "cut") = some (.bl true) := (oEq_str (by decide +kernel) (by decide +kernel)).trans (congrArg (fun b => some (D.bl b)) (by decide +kernel))
theorem we23 : oEq (.str "cut") (.str "add") = some (.bl false) := (oEq_str (by decide +kernel) (by decide +kernel)).trans (congrArg (fun b => some (D.bl b)) (by decide +kernel))
theorem wi3 : oIn (.str "add") (.tup [.str "turn", .str "mirror"]) = some (.bl false) := rfl
theorem we30 : oEq (.str "add") (.str "turn") = some (.bl false) := (oEq_str (by decide +kernel) (by decide +kernel)).trans (congrArg (fun b => some (D.bl b)) (by decide +kernel))
theorem we31 : oEq (.str "add") (.str "mirror") = some (.bl false) := (oEq_str (by decide +kernel) (by decide +kernel)).trans (congrArg (fun b => some (D.bl b)) (by decide +kernel))
theorem we32 : oEq (.str "add") (.str "cut") = some (.bl false) := (oEq_str (by decide +kernel) (by decide +kernel)).trans (congrArg (fun b => some (D.bl b)) (by decide +kernel))
theorem we33 : oEq (.str "add") (.str "add") = some (.bl true) := (oEq_str (by decide +kernel) (by decide +kernel)).trans (congrArg (fun b => some (D.bl b)) (by decide +kernel))
theorem ln1 {a : D} : lLen [.tup [a]] = some (.int 1) := rfl
theorem at10 {a : D} : atI [a] 0 = some a := rfl
theorem ln2 {a b : D} : lLen [.tup [a, b]] = some (.int 2) := rfl
theorem at20 {a b : D} : atI [a, b] 0 = some a := rfl
theorem at21 {a b : D} : atI [a, b] 1 = some b := rfl
theorem ln3 {a b c : D} : lLen [.tup [a, b, c]] = some (.int 3) := rfl
theorem at30 {a b c : D} : atI [a, b, c] 0 = some a := rfl
theorem at31 {a b c : D} : atI [a, b, c] 1 = some b := rfl
theorem at32 {a b c : D} : atI [a, b, c] 2 = some c := rfl
theorem ln4 {a b c e : D} : lLen [.tup [a, b, c, e]] = some (.int 4) := rfl
theorem at40 {a b c e : D} : atI [a, b, c, e] 0 = some a := rfl
theorem at41 {a b c e : D} : atI [a, b, c, e] 1 = some b := rfl
theorem at42 {a b c e : D} : atI [a, b, c, e] 2 = some c := rfl
theorem at43 {a b c e : D} : atI [a, b, c, e] 3 = some e := rfl
inductive Sd where
  | top
  | right
  | bottom
  | left
def Sd.x : Sd → Str
  | .top => "top"
  | .right => "right"
  | .bottom => "bottom"
  | .left => "left"
def Sd.d (s : Sd) : D := .str s.x
inductive Sp where
  | turn
  | mir
  | cut (s : Sd)
  | add (s : Sd) (c : Nat)
def Sp.d : Sp → D
  | .turn => .tup [.str "turn"]
  | .mir => .tup [.str "mirror"]
  | .cut s => .tup [.str "cut", s.d]
  | .add s c => .tup [.str "add", s.d, .int (c : Nat)]
variable {st : FL.St}
theorem whole_ok {i : Int} : e_is_whole [.int i] st = .ok (.bl true) st := by
  unfold e_is_whole
  exact body_rt0 rfl
theorem count_ok {i : Int} (h : 0 ≤ i) : e_is_count [.int i] st = .ok (.bl true) st := by
  unfold e_is_count
  refine body_rt0 ?_
  have h' : decide (0 ≤ i) = true := decide_eq_true h
  simp only [p_is_count, seq_e, seqK_nx, seqK_rt, ifS_e, stB_ok, bind_ok, test_e, blR_ok, not_e, and_e, or_e, andV_e, andK_t, andK_f, notV_e, notK_ok, if_e, nil_e, cons_e, lst_e, tup_e, fn_e, call_e, var_e, varK_ok, c_e, optR_ok, bin_e, drop_e, ret_e, set_e, asg_e, optS_ok, next_e, gn_e, gt_e, gc_e, gcK_ok, gl_e, isi_e, isC_e, fld_e, fldK_ins, neg_e, negK_ok, meth_e, methK_ins, meth0_e, meth0K_ins, make_e, opI_e, opIK_ok, List.append_nil, List.nil_append, List.length_cons, List.length_nil, List.map_cons, List.map_nil, List.cons_append, List.replicate_succ, List.replicate_zero, List.replicate, List.getElem?_cons_zero, List.getElem?_cons_succ, List.set_cons_zero, List.set_cons_succ, Nat.zero_add, reduceIte, Nat.reduceAdd, Nat.reduceEqDiff, Nat.reduceLeDiff, Nat.reduceLT, Int.reduceLT, Int.reduceLE, Int.reduceEq, Int.reduceBEq, Int.reduceAdd, Int.reduceSub, Int.reduceNeg, Int.reduceMul, Int.reduceMod, decide_true, decide_false, Bool.not_true, Bool.not_false, Bool.false_eq_true, Bool.true_eq_false, szc, sz0, Option.map_some, Option.isSome_some, and_self, and_true, true_and, gcF_same, oEq_int, oNe_int, oAdd_int, oSub_int, oLt_int, oLe_int, oGt_int, oGe_int, oIx_lst, oIx_tup, oNotN_e, oIsN_e, ne_eq, not_false_eq_true, not_true_eq_false, Int.natCast_succ, Int.cast_ofNat_Int, beq_self_eq_true, Bool.and_true, Bool.and_false, Bool.true_and, Bool.false_and, wi0, we00, we01, we02, we03, wi1, we10, we11, we12, we13, wi2, we20, we21, we22, we23, wi3, we30, we31, we32, we33, ln1, at10, ln2, at20, at21, ln3, at30, at31, at32, ln4, at40, at41, at42, at43, whole_ok, h']
theorem colour_ok {i : Int} (h : 0 ≤ i) : e_is_colour [.int i] st = .ok (.bl true) st := by
  unfold e_is_colour
  refine body_rt0 ?_
  simp only [p_is_colour, seq_e, seqK_nx, seqK_rt, ifS_e, stB_ok, bind_ok, test_e, blR_ok, not_e, and_e, or_e, andV_e, andK_t, andK_f, notV_e, notK_ok, if_e, nil_e, cons_e, lst_e, tup_e, fn_e, call_e, var_e, varK_ok, c_e, optR_ok, bin_e, drop_e, ret_e, set_e, asg_e, optS_ok, next_e, gn_e, gt_e, gc_e, gcK_ok, gl_e, isi_e, isC_e, fld_e, fldK_ins, neg_e, negK_ok, meth_e, methK_ins, meth0_e, meth0K_ins, make_e, opI_e, opIK_ok, List.append_nil, List.nil_append, List.length_cons, List.length_nil, List.map_cons, List.map_nil, List.cons_append, List.replicate_succ, List.replicate_zero, List.replicate, List.getElem?_cons_zero, List.getElem?_cons_succ, List.set_cons_zero, List.set_cons_succ, Nat.zero_add, reduceIte, Nat.reduceAdd, Nat.reduceEqDiff, Nat.reduceLeDiff, Nat.reduceLT, Int.reduceLT, Int.reduceLE, Int.reduceEq, Int.reduceBEq, Int.reduceAdd, Int.reduceSub, Int.reduceNeg, Int.reduceMul, Int.reduceMod, decide_true, decide_false, Bool.not_true, Bool.not_false, Bool.false_eq_true, Bool.true_eq_false, szc, sz0, Option.map_some, Option.isSome_some, and_self, and_true, true_and, gcF_same, oEq_int, oNe_int, oAdd_int, oSub_int, oLt_int, oLe_int, oGt_int, oGe_int, oIx_lst, oIx_tup, oNotN_e, oIsN_e, ne_eq, not_false_eq_true, not_true_eq_false, Int.natCast_succ, Int.cast_ofNat_Int, beq_self_eq_true, Bool.and_true, Bool.and_false, Bool.true_and, Bool.false_and, wi0, we00, we01, we02, we03, wi1, we10, we11, we12, we13, wi2, we20, we21, we22, we23, wi3, we30, we31, we32, we33, ln1, at10, ln2, at20, at21, ln3, at30, at31, at32, ln4, at40, at41, at42, at43, count_ok h]
theorem side_ok {s : Sd} : e_is_side [s.d] st = .ok (.bl true) st := by
  unfold e_is_side
  cases s <;> exact body_rt0 rfl
theorem check_side_ok {s : Sd} : e_check_side [s.d] st = .ok .non st := by
  unfold e_check_side
  have h := body_nx (f := p_check_side) (k := 0) (ds := [s.d]) (st := st) (ρ1 := [some s.d]) (st1 := st) (by simp only [p_check_side, seq_e, seqK_nx, seqK_rt, ifS_e, stB_ok, bind_ok, test_e, blR_ok, not_e, and_e, or_e, andV_e, andK_t, andK_f, notV_e, notK_ok, if_e, nil_e, cons_e, lst_e, tup_e, fn_e, call_e, var_e, varK_ok, c_e, optR_ok, bin_e, drop_e, ret_e, set_e, asg_e, optS_ok, next_e, gn_e, gt_e, gc_e, gcK_ok, gl_e, isi_e, isC_e, fld_e, fldK_ins, neg_e, negK_ok, meth_e, methK_ins, meth0_e, meth0K_ins, make_e, opI_e, opIK_ok, List.append_nil, List.nil_append, List.length_cons, List.length_nil, List.map_cons, List.map_nil, List.cons_append, List.replicate_succ, List.replicate_zero, List.replicate, List.getElem?_cons_zero, List.getElem?_cons_succ, List.set_cons_zero, List.set_cons_succ, Nat.zero_add, reduceIte, Nat.reduceAdd, Nat.reduceEqDiff, Nat.reduceLeDiff, Nat.reduceLT, Int.reduceLT, Int.reduceLE, Int.reduceEq, Int.reduceBEq, Int.reduceAdd, Int.reduceSub, Int.reduceNeg, Int.reduceMul, Int.reduceMod, decide_true, decide_false, Bool.not_true, Bool.not_false, Bool.false_eq_true, Bool.true_eq_false, szc, sz0, Option.map_some, Option.isSome_some, and_self, and_true, true_and, gcF_same, oEq_int, oNe_int, oAdd_int, oSub_int, oLt_int, oLe_int, oGt_int, oGe_int, oIx_lst, oIx_tup, oNotN_e, oIsN_e, ne_eq, not_false_eq_true, not_true_eq_false, Int.natCast_succ, Int.cast_ofNat_Int, beq_self_eq_true, Bool.and_true, Bool.and_false, Bool.true_and, Bool.false_and, wi0, we00, we01, we02, we03, wi1, we10, we11, we12, we13, wi2, we20, we21, we22, we23, wi3, we30, we31, we32, we33, ln1, at10, ln2, at20, at21, ln3, at30, at31, at32, ln4, at40, at41, at42, at43, side_ok])
  rw [h, gcF_same]
theorem step_ok {p : Sp} : e_is_step [p.d] st = .ok (.bl true) st := by
  unfold e_is_step
  cases p with
  | turn => exact body_rt0 rfl
  | mir => exact body_rt0 rfl
  | cut s =>
    refine body_rt0 ?_
    have q : isTs (.tup [.str "cut", s.d]) [.tuple] = some true := rfl
    have q2 : (tyD (.tup [.str "cut", s.d])).isSome = true := rfl
    simp only [p_is_step, Sp.d, seq_e, seqK_nx, seqK_rt, ifS_e, stB_ok, bind_ok, test_e, blR_ok, not_e, and_e, or_e, andV_e, andK_t, andK_f, notV_e, notK_ok, if_e, nil_e, cons_e, lst_e, tup_e, fn_e, call_e, var_e, varK_ok, c_e, optR_ok, bin_e, drop_e, ret_e, set_e, asg_e, optS_ok, next_e, gn_e, gt_e, gc_e, gcK_ok, gl_e, isi_e, isC_e, fld_e, fldK_ins, neg_e, negK_ok, meth_e, methK_ins, meth0_e, meth0K_ins, make_e, opI_e, opIK_ok, List.append_nil, List.nil_append, List.length_cons, List.length_nil, List.map_cons, List.map_nil, List.cons_append, List.replicate_succ, List.replicate_zero, List.replicate, List.getElem?_cons_zero, List.getElem?_cons_succ, List.set_cons_zero, List.set_cons_succ, Nat.zero_add, reduceIte, Nat.reduceAdd, Nat.reduceEqDiff, Nat.reduceLeDiff, Nat.reduceLT, Int.reduceLT, Int.reduceLE, Int.reduceEq, Int.reduceBEq, Int.reduceAdd, Int.reduceSub, Int.reduceNeg, Int.reduceMul, Int.reduceMod, decide_true, decide_false, Bool.not_true, Bool.not_false, Bool.false_eq_true, Bool.true_eq_false, szc, sz0, Option.map_some, Option.isSome_some, and_self, and_true, true_and, gcF_same, oEq_int, oNe_int, oAdd_int, oSub_int, oLt_int, oLe_int, oGt_int, oGe_int, oIx_lst, oIx_tup, oNotN_e, oIsN_e, ne_eq, not_false_eq_true, not_true_eq_false, Int.natCast_succ, Int.cast_ofNat_Int, beq_self_eq_true, Bool.and_true, Bool.and_false, Bool.true_and, Bool.false_and, wi0, we00, we01, we02, we03, wi1, we10, we11, we12, we13, wi2, we20, we21, we22, we23, wi3, we30, we31, we32, we33, ln1, at10, ln2, at20, at21, ln3, at30, at31, at32, ln4, at40, at41, at42, at43, side_ok, q, q2]
  | add s c =>
    refine body_rt0 ?_
    have q : isTs (.tup [.str "add", s.d, .int (c : Nat)]) [.tuple] = some true := rfl
    have q2 : (tyD (.tup [.str "add", s.d, .int (c : Nat)])).isSome = true := rfl
    simp only [p_is_step, Sp.d, seq_e, seqK_nx, seqK_rt, ifS_e, stB_ok, bind_ok, test_e, blR_ok, not_e, and_e, or_e, andV_e, andK_t, andK_f, notV_e, notK_ok, if_e, nil_e, cons_e, lst_e, tup_e, fn_e, call_e, var_e, varK_ok, c_e, optR_ok, bin_e, drop_e, ret_e, set_e, asg_e, optS_ok, next_e, gn_e, gt_e, gc_e, gcK_ok, gl_e, isi_e, isC_e, fld_e, fldK_ins, neg_e, negK_ok, meth_e, methK_ins, meth0_e, meth0K_ins, make_e, opI_e, opIK_ok, List.append_nil, List.nil_append, List.length_cons, List.length_nil, List.map_cons, List.map_nil, List.cons_append, List.replicate_succ, List.replicate_zero, List.replicate, List.getElem?_cons_zero, List.getElem?_cons_succ, List.set_cons_zero, List.set_cons_succ, Nat.zero_add, reduceIte, Nat.reduceAdd, Nat.reduceEqDiff, Nat.reduceLeDiff, Nat.reduceLT, Int.reduceLT, Int.reduceLE, Int.reduceEq, Int.reduceBEq, Int.reduceAdd, Int.reduceSub, Int.reduceNeg, Int.reduceMul, Int.reduceMod, decide_true, decide_false, Bool.not_true, Bool.not_false, Bool.false_eq_true, Bool.true_eq_false, szc, sz0, Option.map_some, Option.isSome_some, and_self, and_true, true_and, gcF_same, oEq_int, oNe_int, oAdd_int, oSub_int, oLt_int, oLe_int, oGt_int, oGe_int, oIx_lst, oIx_tup, oNotN_e, oIsN_e, ne_eq, not_false_eq_true, not_true_eq_false, Int.natCast_succ, Int.cast_ofNat_Int, beq_self_eq_true, Bool.and_true, Bool.and_false, Bool.true_and, Bool.false_and, wi0, we00, we01, we02, we03, wi1, we10, we11, we12, we13, wi2, we20, we21, we22, we23, wi3, we30, we31, we32, we33, ln1, at10, ln2, at20, at21, ln3, at30, at31, at32, ln4, at40, at41, at42, at43, side_ok, q, q2, colour_ok (Int.natCast_nonneg c)]
/-! the checks of steps -/
abbrev g_chk : fG := fGt 2 (fGc (fGn 1) (fGc (fGn 2) fGl))
abbrev b_chk : fS := fIfS (fNot (fTest (fCall e_is_step 1 [] (fCons (fVar 2) fNil)))) (fRaise "InvalidSequence" "index" (fCons (fVar 1) fNil)) fNext
theorem chk_loop {S : D} : ∀ {ps : List Sp} {k : Nat} {a b : Option D}, ∃ a' b', fForGo g_chk b_chk (enumD k (ps.map Sp.d)) [some S, a, b] st = .nx [some S, a', b'] st
  | [], k, a, b => ⟨a, b, rfl⟩
  | p :: ps, k, a, b => by
    obtain ⟨a', b', h⟩ := chk_loop (ps := ps) (k := k + 1) (a := some (.int (k : Nat))) (b := some p.d)
    refine ⟨a', b', ?_⟩
    rw [List.map_cons, enumD, for_cons (ρ1 := [some S, some (.int (k : Nat)), some p.d]) (st1 := st) (ρ2 := [some S, some (.int (k : Nat)), some p.d]) (st2 := st) rfl (by simp only [b_chk, seq_e, seqK_nx, seqK_rt, ifS_e, stB_ok, bind_ok, test_e, blR_ok, not_e, and_e, or_e, andV_e, andK_t, andK_f, notV_e, notK_ok, if_e, nil_e, cons_e, lst_e, tup_e, fn_e, call_e, var_e, varK_ok, c_e, optR_ok, bin_e, drop_e, ret_e, set_e, asg_e, optS_ok, next_e, gn_e, gt_e, gc_e, gcK_ok, gl_e, isi_e, isC_e, fld_e, fldK_ins, neg_e, negK_ok, meth_e, methK_ins, meth0_e, meth0K_ins, make_e, opI_e, opIK_ok, List.append_nil, List.nil_append, List.length_cons, List.length_nil, List.map_cons, List.map_nil, List.cons_append, List.replicate_succ, List.replicate_zero, List.replicate, List.getElem?_cons_zero, List.getElem?_cons_succ, List.set_cons_zero, List.set_cons_succ, Nat.zero_add, reduceIte, Nat.reduceAdd, Nat.reduceEqDiff, Nat.reduceLeDiff, Nat.reduceLT, Int.reduceLT, Int.reduceLE, Int.reduceEq, Int.reduceBEq, Int.reduceAdd, Int.reduceSub, Int.reduceNeg, Int.reduceMul, Int.reduceMod, decide_true, decide_false, Bool.not_true, Bool.not_false, Bool.false_eq_true, Bool.true_eq_false, szc, sz0, Option.map_some, Option.isSome_some, and_self, and_true, true_and, gcF_same, oEq_int, oNe_int, oAdd_int, oSub_int, oLt_int, oLe_int, oGt_int, oGe_int, oIx_lst, oIx_tup, oNotN_e, oIsN_e, ne_eq, not_false_eq_true, not_true_eq_false, Int.natCast_succ, Int.cast_ofNat_Int, beq_self_eq_true, Bool.and_true, Bool.and_false, Bool.true_and, Bool.false_and, wi0, we00, we01, we02, we03, wi1, we10, we11, we12, we13, wi2, we20, we21, we22, we23, wi3, we30, we31, we32, we33, ln1, at10, ln2, at20, at21, ln3, at30, at31, at32, ln4, at40, at41, at42, at43, step_ok])]
    exact h
/-- the steps as the program holds them -/
inductive IsS (ps : List Sp) : D → Prop
  | lst : IsS ps (.lst (ps.map Sp.d))
  | tup : IsS ps (.tup (ps.map Sp.d))
theorem check_ok {ps : List Sp} {S : D} (hS : IsS ps S) (hl : ps.length ≤ 200) : e_check_steps [S] st = .ok .non st := by
  unfold e_check_steps
  obtain ⟨a, b, h⟩ := chk_loop (st := st) (S := S) (ps := ps) (k := 0) (a := none) (b := none)
  have hb := body_nx (f := p_check_steps) (k := 2) (ds := [S]) (st := st) (ρ1 := [some S, a, b]) (st1 := st) ?_
  · rw [hb, gcF_same]
  have e1 : decide ((200 : Int) < ((ps.length : Nat) : Int)) = false := by
    rw [decide_eq_false_iff_not]
    omega
  have e2 : (fIfS (fOr (fNot (fTest (fIsi [.list, .tuple] (fVar 0)))) (fTest (fBin oGt (fFn lLen (fCons (fVar 0) fNil)) (fC (.int 200))))) (fRaise "InvalidSequence" "index" (fCons (fC .non) fNil)) fNext) [some S, none, none] st = .nx [some S, none, none] st := by
    cases hS with
    | lst =>
      have q : lLen [.lst (ps.map Sp.d)] = some (.int ((ps.length : Nat) : Int)) := by simp [lLen]
      have q2 : isTs (.lst (ps.map Sp.d)) [.list, .tuple] = some true := rfl
      have q3 : (tyD (.lst (ps.map Sp.d))).isSome = true := rfl
      simp only [seq_e, seqK_nx, seqK_rt, ifS_e, stB_ok, bind_ok, test_e, blR_ok, not_e, and_e, or_e, andV_e, andK_t, andK_f, notV_e, notK_ok, if_e, nil_e, cons_e, lst_e, tup_e, fn_e, call_e, var_e, varK_ok, c_e, optR_ok, bin_e, drop_e, ret_e, set_e, asg_e, optS_ok, next_e, gn_e, gt_e, gc_e, gcK_ok, gl_e, isi_e, isC_e, fld_e, fldK_ins, neg_e, negK_ok, meth_e, methK_ins, meth0_e, meth0K_ins, make_e, opI_e, opIK_ok, List.append_nil, List.nil_append, List.length_cons, List.length_nil, List.map_cons, List.map_nil, List.cons_append, List.replicate_succ, List.replicate_zero, List.replicate, List.getElem?_cons_zero, List.getElem?_cons_succ, List.set_cons_zero, List.set_cons_succ, Nat.zero_add, reduceIte, Nat.reduceAdd, Nat.reduceEqDiff, Nat.reduceLeDiff, Nat.reduceLT, Int.reduceLT, Int.reduceLE, Int.reduceEq, Int.reduceBEq, Int.reduceAdd, Int.reduceSub, Int.reduceNeg, Int.reduceMul, Int.reduceMod, decide_true, decide_false, Bool.not_true, Bool.not_false, Bool.false_eq_true, Bool.true_eq_false, szc, sz0, Option.map_some, Option.isSome_some, and_self, and_true, true_and, gcF_same, oEq_int, oNe_int, oAdd_int, oSub_int, oLt_int, oLe_int, oGt_int, oGe_int, oIx_lst, oIx_tup, oNotN_e, oIsN_e, ne_eq, not_false_eq_true, not_true_eq_false, Int.natCast_succ, Int.cast_ofNat_Int, beq_self_eq_true, Bool.and_true, Bool.and_false, Bool.true_and, Bool.false_and, wi0, we00, we01, we02, we03, wi1, we10, we11, we12, we13, wi2, we20, we21, we22, we23, wi3, we30, we31, we32, we33, ln1, at10, ln2, at20, at21, ln3, at30, at31, at32, ln4, at40, at41, at42, at43, q, q2, q3, e1]
    | tup =>
      have q : lLen [.tup (ps.map Sp.d)] = some (.int ((ps.length : Nat) : Int)) := by simp [lLen]
      have q2 : isTs (.tup (ps.map Sp.d)) [.list, .tuple] = some true := rfl
      have q3 : (tyD (.tup (ps.map Sp.d))).isSome = true := rfl
      simp only [seq_e, seqK_nx, seqK_rt, ifS_e, stB_ok, bind_ok, test_e, blR_ok, not_e, and_e, or_e, andV_e, andK_t, andK_f, notV_e, notK_ok, if_e, nil_e, cons_e, lst_e, tup_e, fn_e, call_e, var_e, varK_ok, c_e, optR_ok, bin_e, drop_e, ret_e, set_e, asg_e, optS_ok, next_e, gn_e, gt_e, gc_e, gcK_ok, gl_e, isi_e, isC_e, fld_e, fldK_ins, neg_e, negK_ok, meth_e, methK_ins, meth0_e, meth0K_ins, make_e, opI_e, opIK_ok, List.append_nil, List.nil_append, List.length_cons, List.length_nil, List.map_cons, List.map_nil, List.cons_append, List.replicate_succ, List.replicate_zero, List.replicate, List.getElem?_cons_zero, List.getElem?_cons_succ, List.set_cons_zero, List.set_cons_succ, Nat.zero_add, reduceIte, Nat.reduceAdd, Nat.reduceEqDiff, Nat.reduceLeDiff, Nat.reduceLT, Int.reduceLT, Int.reduceLE, Int.reduceEq, Int.reduceBEq, Int.reduceAdd, Int.reduceSub, Int.reduceNeg, Int.reduceMul, Int.reduceMod, decide_true, decide_false, Bool.not_true, Bool.not_false, Bool.false_eq_true, Bool.true_eq_false, szc, sz0, Option.map_some, Option.isSome_some, and_self, and_true, true_and, gcF_same, oEq_int, oNe_int, oAdd_int, oSub_int, oLt_int, oLe_int, oGt_int, oGe_int, oIx_lst, oIx_tup, oNotN_e, oIsN_e, ne_eq, not_false_eq_true, not_true_eq_false, Int.natCast_succ, Int.cast_ofNat_Int, beq_self_eq_true, Bool.and_true, Bool.and_false, Bool.true_and, Bool.false_and, wi0, we00, we01, we02, we03, wi1, we10, we11, we12, we13, wi2, we20, we21, we22, we23, wi3, we30, we31, we32, we33, ln1, at10, ln2, at20, at21, ln3, at30, at31, at32, ln4, at40, at41, at42, at43, q, q2, q3, e1]
  have e3 : iEn (fVar 0) [some S, none, none] st = .ok (enumD 0 (ps.map Sp.d)) st := iEn_e rfl (by cases hS <;> rfl)
  show fSeq _ (fFor (iEn (fVar 0)) g_chk b_chk) [some S, none, none] st = _
  rw [seq_e, e2, seqK_nx, for_e, e3, stB_ok]
  exact h
end K51

set_option Elab.async false
set_option linter.all false
set_option maxRecDepth 100000
set_option maxHeartbeats 4000000
namespace K51
open PySem PySem.Spec PyProof.Rows L2 DL FL
variable {st : FL.St}
abbrev syN : List Str := ["_turns", "_mirrors"]
def sym (t : Int) (m : Bool) : D := .ins "Symmetry" syN [.int t, .bl m]
theorem sym_nl {t : Int} {m : Bool} : noLoc (sym t m) = true := rfl
theorem sy_t {t : Int} {m : Bool} : lookD "_turns" syN [.int t, .bl m] = some (.int t) := rfl
theorem sy_m {t : Int} {m : Bool} : lookD "_mirrors" syN [.int t, .bl m] = some (.bl m) := rfl
theorem at_end {x : Option DO} : (st ++ [x])[st.length]? = some x := by simp
theorem set_end {x y : Option DO} : (st ++ [x]).set st.length y = st ++ [y] := by simp
theorem fldS_ok {C f : Str} {mo mv : fE} {ρ : Rho} {a : Nat} {y : D} {ns : List Str} {ds : List D} (h1 : mv ρ st = .ok y st) (h2 : mo ρ st = .ok (.loc a) st) (h3 : st[a]? = some (some (.ins C ns ds))) (h4 : ns.length < 1000) : fFldS C f mo mv ρ st = .nx ρ (st.set a (some (.ins C (putN f ns) (putD f y ns ds)))) := by
  unfold fFldS
  rw [h1, stB_ok, h2, stB_ok]
  dsimp only
  rw [h3]
  dsimp only
  rw [if_pos ⟨rfl, h4⟩]
theorem init_ok {t : Int} {m : Bool} (h0 : 0 ≤ t) (h3 : t ≤ 3) : e_Symmetry_init_ [.loc st.length, .int t, .bl m] (st ++ [some (.ins "Symmetry" [] [])]) = .ok .non (st ++ [some (.ins "Symmetry" syN [.int t, .bl m])]) := by
  unfold e_Symmetry_init_
  have e3 : decide (3 < t) = false := by
    rw [decide_eq_false_iff_not]
    omega
  have q : isTs (.bl m) [.bool] = some true := rfl
  have q2 : (tyD (.bl m)).isSome = true := rfl
  have f1 : fFldS "Symmetry" "_turns" (fVar 0) (fVar 1) [some (.loc st.length), some (.int t), some (.bl m)] (st ++ [some (.ins "Symmetry" [] [])]) = .nx [some (.loc st.length), some (.int t), some (.bl m)] (st ++ [some (.ins "Symmetry" ["_turns"] [.int t])]) := by
    rw [fldS_ok (y := .int t) rfl rfl at_end (by decide), set_end]
    rfl
  have f2 : fFldS "Symmetry" "_mirrors" (fVar 0) (fVar 2) [some (.loc st.length), some (.int t), some (.bl m)] (st ++ [some (.ins "Symmetry" ["_turns"] [.int t])]) = .nx [some (.loc st.length), some (.int t), some (.bl m)] (st ++ [some (.ins "Symmetry" syN [.int t, .bl m])]) := by
    rw [fldS_ok (y := .bl m) rfl rfl at_end (by decide), set_end]
    rfl
  rw [body_nx (ρ1 := [some (.loc st.length), some (.int t), some (.bl m)]) (st1 := st ++ [some (.ins "Symmetry" syN [.int t, .bl m])]), gcF_len (by simp)]
  simp only [p_Symmetry_init_, seq_e, seqK_nx, seqK_rt, ifS_e, stB_ok, bind_ok, test_e, blR_ok, not_e, and_e, or_e, andV_e, andK_t, andK_f, notV_e, notK_ok, if_e, nil_e, cons_e, lst_e, tup_e, fn_e, call_e, var_e, varK_ok, c_e, optR_ok, bin_e, drop_e, ret_e, set_e, asg_e, optS_ok, next_e, gn_e, gt_e, gc_e, gcK_ok, gl_e, isi_e, isC_e, fld_e, fldK_ins, neg_e, negK_ok, meth_e, methK_ins, meth0_e, meth0K_ins, make_e, opI_e, opIK_ok, List.append_nil, List.nil_append, List.length_cons, List.length_nil, List.map_cons, List.map_nil, List.cons_append, List.replicate_succ, List.replicate_zero, List.replicate, List.getElem?_cons_zero, List.getElem?_cons_succ, List.set_cons_zero, List.set_cons_succ, Nat.zero_add, reduceIte, Nat.reduceAdd, Nat.reduceEqDiff, Nat.reduceLeDiff, Nat.reduceLT, Int.reduceLT, Int.reduceLE, Int.reduceEq, Int.reduceBEq, Int.reduceAdd, Int.reduceSub, Int.reduceNeg, Int.reduceMul, Int.reduceMod, decide_true, decide_false, Bool.not_true, Bool.not_false, Bool.false_eq_true, Bool.true_eq_false, szc, sz0, Option.map_some, Option.isSome_some, and_self, and_true, true_and, gcF_same, oEq_int, oNe_int, oAdd_int, oSub_int, oLt_int, oLe_int, oGt_int, oGe_int, oIx_lst, oIx_tup, oNotN_e, oIsN_e, ne_eq, not_false_eq_true, not_true_eq_false, Int.natCast_succ, Int.cast_ofNat_Int, beq_self_eq_true, Bool.and_true, Bool.and_false, Bool.true_and, Bool.false_and, wi0, we00, we01, we02, we03, wi1, we10, we11, we12, we13, wi2, we20, we21, we22, we23, wi3, we30, we31, we32, we33, ln1, at10, ln2, at20, at21, ln3, at30, at31, at32, ln4, at40, at41, at42, at43, count_ok h0, e3, q, q2, f1, f2]
theorem mk_ok {t : Int} {m : Bool} (h0 : 0 ≤ t) (h3 : t ≤ 3) (hc : Clean st) : mkEnd st.length (e_Symmetry_init_ [.loc st.length, .int t, .bl m] (st ++ [some (.ins "Symmetry" [] [])])) = .ok (sym t m) st := by
  rw [init_ok h0 h3]
  unfold mkEnd
  dsimp only
  rw [at_end]
  dsimp only
  rw [set_end, gc_clean (by rfl) hc]
  rfl
theorem mul_ok {t t2 : Int} {m m2 : Bool} (hc : Clean st) : e_Symmetry_mul_ [sym t m, sym t2 m2] st = .ok (sym ((t2 + if m2 then -t else t) % 4) (m != m2)) st := by
  unfold e_Symmetry_mul_
  refine body_rt0 ?_
  have q : isC isc_Symmetry (.ins "Symmetry" syN [.int t2, .bl m2]) = some true := rfl
  have q2 : oNe (.bl m) (.bl m2) = some (.bl (m != m2)) := by cases m <;> cases m2 <;> rfl
  have k1 : ∀ z : Int, (0 : Int) ≤ z % 4 := fun z => by omega
  have k2 : ∀ z : Int, z % 4 ≤ 3 := fun z => by omega
  have k3 : ∀ z : Int, oMod (.int z) (.int 4) = some (.int (z % 4)) := fun z => oMod_int (by decide)
  cases m2 with
  | true => simp only [p_Symmetry_mul_, seq_e, seqK_nx, seqK_rt, ifS_e, stB_ok, bind_ok, test_e, blR_ok, not_e, and_e, or_e, andV_e, andK_t, andK_f, notV_e, notK_ok, if_e, nil_e, cons_e, lst_e, tup_e, fn_e, call_e, var_e, varK_ok, c_e, optR_ok, bin_e, drop_e, ret_e, set_e, asg_e, optS_ok, next_e, gn_e, gt_e, gc_e, gcK_ok, gl_e, isi_e, isC_e, fld_e, fldK_ins, neg_e, negK_ok, meth_e, methK_ins, meth0_e, meth0K_ins, make_e, opI_e, opIK_ok, List.append_nil, List.nil_append, List.length_cons, List.length_nil, List.map_cons, List.map_nil, List.cons_append, List.replicate_succ, List.replicate_zero, List.replicate, List.getElem?_cons_zero, List.getElem?_cons_succ, List.set_cons_zero, List.set_cons_succ, Nat.zero_add, reduceIte, Nat.reduceAdd, Nat.reduceEqDiff, Nat.reduceLeDiff, Nat.reduceLT, Int.reduceLT, Int.reduceLE, Int.reduceEq, Int.reduceBEq, Int.reduceAdd, Int.reduceSub, Int.reduceNeg, Int.reduceMul, Int.reduceMod, decide_true, decide_false, Bool.not_true, Bool.not_false, Bool.false_eq_true, Bool.true_eq_false, szc, sz0, Option.map_some, Option.isSome_some, and_self, and_true, true_and, gcF_same, oEq_int, oNe_int, oAdd_int, oSub_int, oLt_int, oLe_int, oGt_int, oGe_int, oIx_lst, oIx_tup, oNotN_e, oIsN_e, ne_eq, not_false_eq_true, not_true_eq_false, Int.natCast_succ, Int.cast_ofNat_Int, beq_self_eq_true, Bool.and_true, Bool.and_false, Bool.true_and, Bool.false_and, wi0, we00, we01, we02, we03, wi1, we10, we11, we12, we13, wi2, we20, we21, we22, we23, wi3, we30, we31, we32, we33, ln1, at10, ln2, at20, at21, ln3, at30, at31, at32, ln4, at40, at41, at42, at43, q, q2, k3, sym, sy_t, sy_m, mk_ok (k1 _) (k2 _) hc]
  | false => simp only [p_Symmetry_mul_, seq_e, seqK_nx, seqK_rt, ifS_e, stB_ok, bind_ok, test_e, blR_ok, not_e, and_e, or_e, andV_e, andK_t, andK_f, notV_e, notK_ok, if_e, nil_e, cons_e, lst_e, tup_e, fn_e, call_e, var_e, varK_ok, c_e, optR_ok, bin_e, drop_e, ret_e, set_e, asg_e, optS_ok, next_e, gn_e, gt_e, gc_e, gcK_ok, gl_e, isi_e, isC_e, fld_e, fldK_ins, neg_e, negK_ok, meth_e, methK_ins, meth0_e, meth0K_ins, make_e, opI_e, opIK_ok, List.append_nil, List.nil_append, List.length_cons, List.length_nil, List.map_cons, List.map_nil, List.cons_append, List.replicate_succ, List.replicate_zero, List.replicate, List.getElem?_cons_zero, List.getElem?_cons_succ, List.set_cons_zero, List.set_cons_succ, Nat.zero_add, reduceIte, Nat.reduceAdd, Nat.reduceEqDiff, Nat.reduceLeDiff, Nat.reduceLT, Int.reduceLT, Int.reduceLE, Int.reduceEq, Int.reduceBEq, Int.reduceAdd, Int.reduceSub, Int.reduceNeg, Int.reduceMul, Int.reduceMod, decide_true, decide_false, Bool.not_true, Bool.not_false, Bool.false_eq_true, Bool.true_eq_false, szc, sz0, Option.map_some, Option.isSome_some, and_self, and_true, true_and, gcF_same, oEq_int, oNe_int, oAdd_int, oSub_int, oLt_int, oLe_int, oGt_int, oGe_int, oIx_lst, oIx_tup, oNotN_e, oIsN_e, ne_eq, not_false_eq_true, not_true_eq_false, Int.natCast_succ, Int.cast_ofNat_Int, beq_self_eq_true, Bool.and_true, Bool.and_false, Bool.true_and, Bool.false_and, wi0, we00, we01, we02, we03, wi1, we10, we11, we12, we13, wi2, we20, we21, we22, we23, wi3, we30, we31, we32, we33, ln1, at10, ln2, at20, at21, ln3, at30, at31, at32, ln4, at40, at41, at42, at43, q, q2, k3, sym, sy_t, sy_m, mk_ok (k1 _) (k2 _) hc]
theorem inv_ok {t : Int} {m : Bool} (h0 : 0 ≤ t) (h3 : t ≤ 3) (hc : Clean st) : e_Symmetry_inverse [sym t m] st = .ok (sym (if m then t else -t % 4) m) st := by
  unfold e_Symmetry_inverse
  refine body_rt0 ?_
  have k1 : (0 : Int) ≤ -t % 4 := by omega
  have k2 : -t % 4 ≤ (3 : Int) := by omega
  have k3 : oMod (.int (-t)) (.int 4) = some (.int (-t % 4)) := oMod_int (by decide)
  cases m with
  | true => simp only [p_Symmetry_inverse, seq_e, seqK_nx, seqK_rt, ifS_e, stB_ok, bind_ok, test_e, blR_ok, not_e, and_e, or_e, andV_e, andK_t, andK_f, notV_e, notK_ok, if_e, nil_e, cons_e, lst_e, tup_e, fn_e, call_e, var_e, varK_ok, c_e, optR_ok, bin_e, drop_e, ret_e, set_e, asg_e, optS_ok, next_e, gn_e, gt_e, gc_e, gcK_ok, gl_e, isi_e, isC_e, fld_e, fldK_ins, neg_e, negK_ok, meth_e, methK_ins, meth0_e, meth0K_ins, make_e, opI_e, opIK_ok, List.append_nil, List.nil_append, List.length_cons, List.length_nil, List.map_cons, List.map_nil, List.cons_append, List.replicate_succ, List.replicate_zero, List.replicate, List.getElem?_cons_zero, List.getElem?_cons_succ, List.set_cons_zero, List.set_cons_succ, Nat.zero_add, reduceIte, Nat.reduceAdd, Nat.reduceEqDiff, Nat.reduceLeDiff, Nat.reduceLT, Int.reduceLT, Int.reduceLE, Int.reduceEq, Int.reduceBEq, Int.reduceAdd, Int.reduceSub, Int.reduceNeg, Int.reduceMul, Int.reduceMod, decide_true, decide_false, Bool.not_true, Bool.not_false, Bool.false_eq_true, Bool.true_eq_false, szc, sz0, Option.map_some, Option.isSome_some, and_self, and_true, true_and, gcF_same, oEq_int, oNe_int, oAdd_int, oSub_int, oLt_int, oLe_int, oGt_int, oGe_int, oIx_lst, oIx_tup, oNotN_e, oIsN_e, ne_eq, not_false_eq_true, not_true_eq_false, Int.natCast_succ, Int.cast_ofNat_Int, beq_self_eq_true, Bool.and_true, Bool.and_false, Bool.true_and, Bool.false_and, wi0, we00, we01, we02, we03, wi1, we10, we11, we12, we13, wi2, we20, we21, we22, we23, wi3, we30, we31, we32, we33, ln1, at10, ln2, at20, at21, ln3, at30, at31, at32, ln4, at40, at41, at42, at43, k3, sym, sy_t, sy_m, mk_ok h0 h3 hc]
  | false => simp only [p_Symmetry_inverse, seq_e, seqK_nx, seqK_rt, ifS_e, stB_ok, bind_ok, test_e, blR_ok, not_e, and_e, or_e, andV_e, andK_t, andK_f, notV_e, notK_ok, if_e, nil_e, cons_e, lst_e, tup_e, fn_e, call_e, var_e, varK_ok, c_e, optR_ok, bin_e, drop_e, ret_e, set_e, asg_e, optS_ok, next_e, gn_e, gt_e, gc_e, gcK_ok, gl_e, isi_e, isC_e, fld_e, fldK_ins, neg_e, negK_ok, meth_e, methK_ins, meth0_e, meth0K_ins, make_e, opI_e, opIK_ok, List.append_nil, List.nil_append, List.length_cons, List.length_nil, List.map_cons, List.map_nil, List.cons_append, List.replicate_succ, List.replicate_zero, List.replicate, List.getElem?_cons_zero, List.getElem?_cons_succ, List.set_cons_zero, List.set_cons_succ, Nat.zero_add, reduceIte, Nat.reduceAdd, Nat.reduceEqDiff, Nat.reduceLeDiff, Nat.reduceLT, Int.reduceLT, Int.reduceLE, Int.reduceEq, Int.reduceBEq, Int.reduceAdd, Int.reduceSub, Int.reduceNeg, Int.reduceMul, Int.reduceMod, decide_true, decide_false, Bool.not_true, Bool.not_false, Bool.false_eq_true, Bool.true_eq_false, szc, sz0, Option.map_some, Option.isSome_some, and_self, and_true, true_and, gcF_same, oEq_int, oNe_int, oAdd_int, oSub_int, oLt_int, oLe_int, oGt_int, oGe_int, oIx_lst, oIx_tup, oNotN_e, oIsN_e, ne_eq, not_false_eq_true, not_true_eq_false, Int.natCast_succ, Int.cast_ofNat_Int, beq_self_eq_true, Bool.and_true, Bool.and_false, Bool.true_and, Bool.false_and, wi0, we00, we01, we02, we03, wi1, we10, we11, we12, we13, wi2, we20, we21, we22, we23, wi3, we30, we31, we32, we33, ln1, at10, ln2, at20, at21, ln3, at30, at31, at32, ln4, at40, at41, at42, at43, k3, sym, sy_t, sy_m, mk_ok k1 k2 hc]
def vert : Sd → Bool
  | .top => true
  | .bottom => true
  | _ => false
def sdN : Sd → Int
  | .top => 0
  | .right => 1
  | .bottom => 2
  | .left => 3
theorem tidx_ok {s : Sd} {ρ : Rho} {m : fE} (h : m ρ st = .ok s.d st) : fTidx ys_SIDES m ρ st = .ok (.int (sdN s)) st := by
  unfold fTidx
  rw [h]
  cases s <;> rfl
theorem par_ok {z k : Int} {b : Bool} (h : z % 2 = k) (e : b = (k == 0)) : b = (z % 2 == 0) := by rw [h, e]
theorem pick_ok (z : Int) : ∃ s : Sd, atI [D.str "top", .str "right", .str "bottom", .str "left"] (z % 4) = some s.d ∧ vert s = (z % 2 == 0) := by
  have h : z % 4 = 0 ∨ z % 4 = 1 ∨ z % 4 = 2 ∨ z % 4 = 3 := by omega
  rcases h with h | h | h | h
  · exact ⟨.top, by rw [h]; rfl, par_ok (k := 0) (by omega) rfl⟩
  · exact ⟨.right, by rw [h]; rfl, par_ok (k := 1) (by omega) rfl⟩
  · exact ⟨.bottom, by rw [h]; rfl, par_ok (k := 0) (by omega) rfl⟩
  · exact ⟨.left, by rw [h]; rfl, par_ok (k := 1) (by omega) rfl⟩
theorem sside_ok {t : Int} {m : Bool} {s : Sd} : ∃ s' : Sd, e_Symmetry_side [sym t m, s.d] st = .ok s'.d st ∧ vert s' = ((sdN s + t) % 2 == 0) := by
  have k3 : ∀ z : Int, oMod (.int z) (.int 4) = some (.int (z % 4)) := fun z => oMod_int (by decide)
  have e1 : fTidx ys_SIDES (fVar 1) [some (sym t m), some s.d, none] st = .ok (.int (sdN s)) st := tidx_ok rfl
  cases m with
  | true =>
    obtain ⟨s', h1, h2⟩ := pick_ok (-sdN s + t)
    refine ⟨s', ?_, ?_⟩
    · unfold e_Symmetry_side
      refine body_rt0 ?_
      simp only [sym] at e1 ⊢
      simp only [p_Symmetry_side, seq_e, seqK_nx, seqK_rt, ifS_e, stB_ok, bind_ok, test_e, blR_ok, not_e, and_e, or_e, andV_e, andK_t, andK_f, notV_e, notK_ok, if_e, nil_e, cons_e, lst_e, tup_e, fn_e, call_e, var_e, varK_ok, c_e, optR_ok, bin_e, drop_e, ret_e, set_e, asg_e, optS_ok, next_e, gn_e, gt_e, gc_e, gcK_ok, gl_e, isi_e, isC_e, fld_e, fldK_ins, neg_e, negK_ok, meth_e, methK_ins, meth0_e, meth0K_ins, make_e, opI_e, opIK_ok, List.append_nil, List.nil_append, List.length_cons, List.length_nil, List.map_cons, List.map_nil, List.cons_append, List.replicate_succ, List.replicate_zero, List.replicate, List.getElem?_cons_zero, List.getElem?_cons_succ, List.set_cons_zero, List.set_cons_succ, Nat.zero_add, reduceIte, Nat.reduceAdd, Nat.reduceEqDiff, Nat.reduceLeDiff, Nat.reduceLT, Int.reduceLT, Int.reduceLE, Int.reduceEq, Int.reduceBEq, Int.reduceAdd, Int.reduceSub, Int.reduceNeg, Int.reduceMul, Int.reduceMod, decide_true, decide_false, Bool.not_true, Bool.not_false, Bool.false_eq_true, Bool.true_eq_false, szc, sz0, Option.map_some, Option.isSome_some, and_self, and_true, true_and, gcF_same, oEq_int, oNe_int, oAdd_int, oSub_int, oLt_int, oLe_int, oGt_int, oGe_int, oIx_lst, oIx_tup, oNotN_e, oIsN_e, ne_eq, not_false_eq_true, not_true_eq_false, Int.natCast_succ, Int.cast_ofNat_Int, beq_self_eq_true, Bool.and_true, Bool.and_false, Bool.true_and, Bool.false_and, wi0, we00, we01, we02, we03, wi1, we10, we11, we12, we13, wi2, we20, we21, we22, we23, wi3, we30, we31, we32, we33, ln1, at10, ln2, at20, at21, ln3, at30, at31, at32, ln4, at40, at41, at42, at43, check_side_ok, e1, k3, sy_t, sy_m, h1]
    · rw [h2]
      congr 1
      omega
  | false =>
    obtain ⟨s', h1, h2⟩ := pick_ok (sdN s + t)
    refine ⟨s', ?_, h2⟩
    unfold e_Symmetry_side
    refine body_rt0 ?_
    simp only [sym] at e1 ⊢
    simp only [p_Symmetry_side, seq_e, seqK_nx, seqK_rt, ifS_e, stB_ok, bind_ok, test_e, blR_ok, not_e, and_e, or_e, andV_e, andK_t, andK_f, notV_e, notK_ok, if_e, nil_e, cons_e, lst_e, tup_e, fn_e, call_e, var_e, varK_ok, c_e, optR_ok, bin_e, drop_e, ret_e, set_e, asg_e, optS_ok, next_e, gn_e, gt_e, gc_e, gcK_ok, gl_e, isi_e, isC_e, fld_e, fldK_ins, neg_e, negK_ok, meth_e, methK_ins, meth0_e, meth0K_ins, make_e, opI_e, opIK_ok, List.append_nil, List.nil_append, List.length_cons, List.length_nil, List.map_cons, List.map_nil, List.cons_append, List.replicate_succ, List.replicate_zero, List.replicate, List.getElem?_cons_zero, List.getElem?_cons_succ, List.set_cons_zero, List.set_cons_succ, Nat.zero_add, reduceIte, Nat.reduceAdd, Nat.reduceEqDiff, Nat.reduceLeDiff, Nat.reduceLT, Int.reduceLT, Int.reduceLE, Int.reduceEq, Int.reduceBEq, Int.reduceAdd, Int.reduceSub, Int.reduceNeg, Int.reduceMul, Int.reduceMod, decide_true, decide_false, Bool.not_true, Bool.not_false, Bool.false_eq_true, Bool.true_eq_false, szc, sz0, Option.map_some, Option.isSome_some, and_self, and_true, true_and, gcF_same, oEq_int, oNe_int, oAdd_int, oSub_int, oLt_int, oLe_int, oGt_int, oGe_int, oIx_lst, oIx_tup, oNotN_e, oIsN_e, ne_eq, not_false_eq_true, not_true_eq_false, Int.natCast_succ, Int.cast_ofNat_Int, beq_self_eq_true, Bool.and_true, Bool.and_false, Bool.true_and, Bool.false_and, wi0, we00, we01, we02, we03, wi1, we10, we11, we12, we13, wi2, we20, we21, we22, we23, wi3, we30, we31, we32, we33, ln1, at10, ln2, at20, at21, ln3, at30, at31, at32, ln4, at40, at41, at42, at43, check_side_ok, e1, k3, sy_t, sy_m, h1]
end K51

set_option Elab.async false
set_option linter.all false
set_option maxRecDepth 100000
set_option maxHeartbeats 4000000
namespace K51
open PySem PySem.Spec PyProof.Rows L2 DL FL
variable {st : FL.St}
theorem opI_sym {F : fF} {t t2 : Int} {m m2 : Bool} : opIK "Symmetry" F st (sym t m) (sym t2 m2) = F [sym t m, sym t2 m2] st := by
  unfold sym
  rw [opIK_ok, if_pos ⟨rfl, rfl⟩]
theorem meth0_sym {F : fF} {t : Int} {m : Bool} : meth0K "Symmetry" "inverse" F 1 [] (sym t m) st = F [sym t m] st := by
  unfold sym
  rw [meth0K_ins, if_pos (by decide +kernel)]
theorem meth_sym {F : fF} {na : fA} {ρ : Rho} {t : Int} {m : Bool} {d : D} (h : na ρ st = .ok [d] st) : methK "Symmetry" "side" F 2 [] na ρ (sym t m) st = F [sym t m, d] st := by
  unfold sym
  rw [methK_ins, if_pos (by decide +kernel), h, bind_ok, if_pos (by rfl)]
  rfl
/-! the moves, seen from the upright picture -/
abbrev g_upr : fG := fGt 2 (fGc (fGn 3) (fGc (fGn 4) fGl))
abbrev m_upr : fE := fTup (fCons (fVar 3) (fCons (fVar 5) (fCons (fIf (fTest (fBin oEq (fBin oIx (fVar 4) (fC (.int 0))) (fC (.str "add")))) (fBin oIx (fVar 4) (fC (.int 2))) (fC .non)) fNil)))
abbrev b_upr2 : fS := fSeq (fSet 5 (fMeth "Symmetry" "side" e_Symmetry_side 2 [] (fMeth0 "Symmetry" "inverse" e_Symmetry_inverse 1 [] (fVar 1)) (fCons (fBin oIx (fVar 4) (fC (.int 1))) fNil))) (fDrop (fApp (fVar 2) m_upr))
abbrev b_upr : fS := fIfS (fTest (fBin oEq (fBin oIx (fVar 4) (fC (.int 0))) (fC (.str "turn")))) (fSet 1 (fOpI "Symmetry" e_Symmetry_mul_ (fVar 1) (fMake "Symmetry" e_Symmetry_init_ 3 [.bl false] (fCons (fC (.int 1)) fNil)))) (fIfS (fTest (fBin oEq (fBin oIx (fVar 4) (fC (.int 0))) (fC (.str "mirror")))) (fSet 1 (fOpI "Symmetry" e_Symmetry_mul_ (fVar 1) (fMake "Symmetry" e_Symmetry_init_ 3 [] (fCons (fC (.int 0)) (fCons (fC (.bl true)) fNil))))) b_upr2)
def colD : Option Nat → D
  | none => .non
  | some c => .int (c : Nat)
abbrev Mv := Nat × Sd × Option Nat
def mvD (q : Mv) : D := .tup [.int (q.1 : Nat), q.2.1.d, colD q.2.2]
theorem mvD_nl {q : Mv} : noLoc (mvD q) = true := by
  obtain ⟨k, s, o⟩ := q
  cases s <;> cases o <;> rfl
theorem mvs_nl {ms : List Mv} : noLocL (ms.map mvD) = true := by
  rw [noLocL_all]
  intro d h
  obtain ⟨q, _, e⟩ := List.mem_map.mp h
  rw [← e]
  exact mvD_nl
def prj (q : Mv) : Bool × Bool := (vert q.2.1, q.2.2.isSome)
def upr : Bool → List Sp → List (Bool × Bool)
  | _, [] => []
  | p, .turn :: ps => upr (!p) ps
  | p, .mir :: ps => upr p ps
  | p, .cut s :: ps => (vert s != p, false) :: upr p ps
  | p, .add s _ :: ps => (vert s != p, true) :: upr p ps
theorem vert_par {s s' : Sd} {t t' : Int} (h : vert s' = ((sdN s + t') % 2 == 0)) (e : t' % 2 = t % 2) : vert s' = (vert s != (t % 2 == 1)) := by
  have z : t % 2 = 0 ∨ t % 2 = 1 := by omega
  rw [h]
  rcases z with z | z
  · cases s
    · exact (par_ok (k := 0) (b := true) (by simp only [sdN]; omega) rfl).symm.trans (by rw [z]; rfl)
    · exact (par_ok (k := 1) (b := false) (by simp only [sdN]; omega) rfl).symm.trans (by rw [z]; rfl)
    · exact (par_ok (k := 0) (b := true) (by simp only [sdN]; omega) rfl).symm.trans (by rw [z]; rfl)
    · exact (par_ok (k := 1) (b := false) (by simp only [sdN]; omega) rfl).symm.trans (by rw [z]; rfl)
  · cases s
    · exact (par_ok (k := 1) (b := false) (by simp only [sdN]; omega) rfl).symm.trans (by rw [z]; rfl)
    · exact (par_ok (k := 0) (b := true) (by simp only [sdN]; omega) rfl).symm.trans (by rw [z]; rfl)
    · exact (par_ok (k := 1) (b := false) (by simp only [sdN]; omega) rfl).symm.trans (by rw [z]; rfl)
    · exact (par_ok (k := 0) (b := true) (by simp only [sdN]; omega) rfl).symm.trans (by rw [z]; rfl)
theorem upr_loop {S : D} {base : FL.St} (hb : Clean base) : ∀ {ps : List Sp} {k : Nat} {t : Int} {m : Bool} {m0 : List Mv} {a b c : Option D}, 0 ≤ t → t ≤ 3 → m0.length + ps.length ≤ 1000 →
    ∃ t' m' a' b' c' ms, fForGo g_upr b_upr (enumD k (ps.map Sp.d)) [some S, some (sym t m), some (.loc base.length), a, b, c] (base ++ [some (.lst (m0.map mvD))]) = .nx [some S, some (sym t' m'), some (.loc base.length), a', b', c'] (base ++ [some (.lst ((m0 ++ ms).map mvD))]) ∧ ms.map prj = upr (t % 2 == 1) ps
  | [], k, t, m, m0, a, b, c, h0, h3, hl => ⟨t, m, a, b, c, [], by rw [List.append_nil]; rfl, rfl⟩
  | p :: ps, k, t, m, m0, a, b, c, h0, h3, hl => by
    have hl' : m0.length + (ps.length + 1) ≤ 1000 := hl
    have hc : Clean (base ++ [some (.lst (m0.map mvD))]) := hb.app (clean_lst mvs_nl)
    have z : t % 2 = 0 ∨ t % 2 = 1 := by omega
    -- what a cut or an addition does
    have side1 : ∀ (s : Sd) (p : Sp), oIx p.d (.int 1) = some s.d → ∃ s' : Sd, vert s' = (vert s != (t % 2 == 1)) ∧ (fSet 5 (fMeth "Symmetry" "side" e_Symmetry_side 2 [] (fMeth0 "Symmetry" "inverse" e_Symmetry_inverse 1 [] (fVar 1)) (fCons (fBin oIx (fVar 4) (fC (.int 1))) fNil))) [some S, some (sym t m), some (.loc base.length), some (.int (k : Nat)), some p.d, c] (base ++ [some (.lst (m0.map mvD))]) = .nx [some S, some (sym t m), some (.loc base.length), some (.int (k : Nat)), some p.d, some s'.d] (base ++ [some (.lst (m0.map mvD))]) := fun s p hp => by
      obtain ⟨s', e, v⟩ := sside_ok (st := base ++ [some (.lst (m0.map mvD))]) (t := if m then t else -t % 4) (m := m) (s := s)
      refine ⟨s', vert_par v (by cases m <;> simp <;> omega), ?_⟩
      simp only [seq_e, seqK_nx, seqK_rt, ifS_e, stB_ok, bind_ok, test_e, blR_ok, not_e, and_e, or_e, andV_e, andK_t, andK_f, notV_e, notK_ok, if_e, nil_e, cons_e, lst_e, tup_e, fn_e, call_e, var_e, varK_ok, c_e, optR_ok, bin_e, drop_e, ret_e, set_e, asg_e, optS_ok, next_e, gn_e, gt_e, gc_e, gcK_ok, gl_e, isi_e, isC_e, fld_e, fldK_ins, neg_e, negK_ok, meth_e, methK_ins, meth0_e, meth0K_ins, make_e, opI_e, opIK_ok, List.append_nil, List.nil_append, List.length_cons, List.length_nil, List.map_cons, List.map_nil, List.cons_append, List.replicate_succ, List.replicate_zero, List.replicate, List.getElem?_cons_zero, List.getElem?_cons_succ, List.set_cons_zero, List.set_cons_succ, Nat.zero_add, reduceIte, Nat.reduceAdd, Nat.reduceEqDiff, Nat.reduceLeDiff, Nat.reduceLT, Int.reduceLT, Int.reduceLE, Int.reduceEq, Int.reduceBEq, Int.reduceAdd, Int.reduceSub, Int.reduceNeg, Int.reduceMul, Int.reduceMod, decide_true, decide_false, Bool.not_true, Bool.not_false, Bool.false_eq_true, Bool.true_eq_false, szc, sz0, Option.map_some, Option.isSome_some, and_self, and_true, true_and, gcF_same, oEq_int, oNe_int, oAdd_int, oSub_int, oLt_int, oLe_int, oGt_int, oGe_int, oIx_lst, oIx_tup, oNotN_e, oIsN_e, ne_eq, not_false_eq_true, not_true_eq_false, Int.natCast_succ, Int.cast_ofNat_Int, beq_self_eq_true, Bool.and_true, Bool.and_false, Bool.true_and, Bool.false_and, wi0, we00, we01, we02, we03, wi1, we10, we11, we12, we13, wi2, we20, we21, we22, we23, wi3, we30, we31, we32, we33, ln1, at10, ln2, at20, at21, ln3, at30, at31, at32, ln4, at40, at41, at42, at43, meth0_sym, inv_ok h0 h3 hc]
      rw [meth_sym (d := s.d) (by simp only [seq_e, seqK_nx, seqK_rt, ifS_e, stB_ok, bind_ok, test_e, blR_ok, not_e, and_e, or_e, andV_e, andK_t, andK_f, notV_e, notK_ok, if_e, nil_e, cons_e, lst_e, tup_e, fn_e, call_e, var_e, varK_ok, c_e, optR_ok, bin_e, drop_e, ret_e, set_e, asg_e, optS_ok, next_e, gn_e, gt_e, gc_e, gcK_ok, gl_e, isi_e, isC_e, fld_e, fldK_ins, neg_e, negK_ok, meth_e, methK_ins, meth0_e, meth0K_ins, make_e, opI_e, opIK_ok, List.append_nil, List.nil_append, List.length_cons, List.length_nil, List.map_cons, List.map_nil, List.cons_append, List.replicate_succ, List.replicate_zero, List.replicate, List.getElem?_cons_zero, List.getElem?_cons_succ, List.set_cons_zero, List.set_cons_succ, Nat.zero_add, reduceIte, Nat.reduceAdd, Nat.reduceEqDiff, Nat.reduceLeDiff, Nat.reduceLT, Int.reduceLT, Int.reduceLE, Int.reduceEq, Int.reduceBEq, Int.reduceAdd, Int.reduceSub, Int.reduceNeg, Int.reduceMul, Int.reduceMod, decide_true, decide_false, Bool.not_true, Bool.not_false, Bool.false_eq_true, Bool.true_eq_false, szc, sz0, Option.map_some, Option.isSome_some, and_self, and_true, true_and, gcF_same, oEq_int, oNe_int, oAdd_int, oSub_int, oLt_int, oLe_int, oGt_int, oGe_int, oIx_lst, oIx_tup, oNotN_e, oIsN_e, ne_eq, not_false_eq_true, not_true_eq_false, Int.natCast_succ, Int.cast_ofNat_Int, beq_self_eq_true, Bool.and_true, Bool.and_false, Bool.true_and, Bool.false_and, wi0, we00, we01, we02, we03, wi1, we10, we11, we12, we13, wi2, we20, we21, we22, we23, wi3, we30, we31, we32, we33, ln1, at10, ln2, at20, at21, ln3, at30, at31, at32, ln4, at40, at41, at42, at43, hp]), e]
      rfl
    have app1 : ∀ (s' : Sd) (o : Option Nat) (p : Sp), m_upr [some S, some (sym t m), some (.loc base.length), some (.int (k : Nat)), some p.d, some s'.d] (base ++ [some (.lst (m0.map mvD))]) = .ok (mvD (k, s', o)) (base ++ [some (.lst (m0.map mvD))]) → (fDrop (fApp (fVar 2) m_upr)) [some S, some (sym t m), some (.loc base.length), some (.int (k : Nat)), some p.d, some s'.d] (base ++ [some (.lst (m0.map mvD))]) = .nx [some S, some (sym t m), some (.loc base.length), some (.int (k : Nat)), some p.d, some s'.d] (base ++ [some (.lst ((m0 ++ [(k, s', o)]).map mvD))]) := fun s' o p h => by
      rw [drop_e, app_e (a := base.length) (st1 := base ++ [some (.lst (m0.map mvD))]) rfl at_end h at_end (by rw [List.length_map, sizeLine_e]; omega), stB_ok, set_end, List.map_append]
      rfl
    cases p with
    | turn =>
      obtain ⟨t', m', a', b', c', ms, h, e⟩ := upr_loop hb (ps := ps) (k := k + 1) (t := (1 + t) % 4) (m := m) (m0 := m0) (a := some (.int (k : Nat))) (b := some Sp.turn.d) (c := c) (by omega) (by omega) (by omega)
      refine ⟨t', m', a', b', c', ms, ?_, ?_⟩
      · rw [List.map_cons, enumD, for_cons (ρ1 := [some S, some (sym t m), some (.loc base.length), some (.int (k : Nat)), some Sp.turn.d, c]) (st1 := base ++ [some (.lst (m0.map mvD))]) (ρ2 := [some S, some (sym ((1 + t) % 4) m), some (.loc base.length), some (.int (k : Nat)), some Sp.turn.d, c]) (st2 := base ++ [some (.lst (m0.map mvD))]) rfl ?_]
        · exact h
        · have q := mul_ok (st := base ++ [some (.lst (m0.map mvD))]) (t := t) (t2 := 1) (m := m) (m2 := false) hc
          have bm : (m != false) = m := by cases m <;> rfl
          simp only [bm, Bool.false_eq_true, reduceIte] at q
          simp only [b_upr, Sp.d, seq_e, seqK_nx, seqK_rt, ifS_e, stB_ok, bind_ok, test_e, blR_ok, not_e, and_e, or_e, andV_e, andK_t, andK_f, notV_e, notK_ok, if_e, nil_e, cons_e, lst_e, tup_e, fn_e, call_e, var_e, varK_ok, c_e, optR_ok, bin_e, drop_e, ret_e, set_e, asg_e, optS_ok, next_e, gn_e, gt_e, gc_e, gcK_ok, gl_e, isi_e, isC_e, fld_e, fldK_ins, neg_e, negK_ok, meth_e, methK_ins, meth0_e, meth0K_ins, make_e, opI_e, opIK_ok, List.append_nil, List.nil_append, List.length_cons, List.length_nil, List.map_cons, List.map_nil, List.cons_append, List.replicate_succ, List.replicate_zero, List.replicate, List.getElem?_cons_zero, List.getElem?_cons_succ, List.set_cons_zero, List.set_cons_succ, Nat.zero_add, reduceIte, Nat.reduceAdd, Nat.reduceEqDiff, Nat.reduceLeDiff, Nat.reduceLT, Int.reduceLT, Int.reduceLE, Int.reduceEq, Int.reduceBEq, Int.reduceAdd, Int.reduceSub, Int.reduceNeg, Int.reduceMul, Int.reduceMod, decide_true, decide_false, Bool.not_true, Bool.not_false, Bool.false_eq_true, Bool.true_eq_false, szc, sz0, Option.map_some, Option.isSome_some, and_self, and_true, true_and, gcF_same, oEq_int, oNe_int, oAdd_int, oSub_int, oLt_int, oLe_int, oGt_int, oGe_int, oIx_lst, oIx_tup, oNotN_e, oIsN_e, ne_eq, not_false_eq_true, not_true_eq_false, Int.natCast_succ, Int.cast_ofNat_Int, beq_self_eq_true, Bool.and_true, Bool.and_false, Bool.true_and, Bool.false_and, wi0, we00, we01, we02, we03, wi1, we10, we11, we12, we13, wi2, we20, we21, we22, we23, wi3, we30, we31, we32, we33, ln1, at10, ln2, at20, at21, ln3, at30, at31, at32, ln4, at40, at41, at42, at43, mk_ok (t := 1) (m := false) (by decide) (by decide) hc, opI_sym, q]
      · rw [e, upr]
        rcases z with z | z
        · have y : (1 + t) % 4 % 2 = 1 := by omega
          rw [y, z]
          rfl
        · have y : (1 + t) % 4 % 2 = 0 := by omega
          rw [y, z]
          rfl
    | mir =>
      obtain ⟨t', m', a', b', c', ms, h, e⟩ := upr_loop hb (ps := ps) (k := k + 1) (t := (0 + -t) % 4) (m := m != true) (m0 := m0) (a := some (.int (k : Nat))) (b := some Sp.mir.d) (c := c) (by omega) (by omega) (by omega)
      refine ⟨t', m', a', b', c', ms, ?_, ?_⟩
      · rw [List.map_cons, enumD, for_cons (ρ1 := [some S, some (sym t m), some (.loc base.length), some (.int (k : Nat)), some Sp.mir.d, c]) (st1 := base ++ [some (.lst (m0.map mvD))]) (ρ2 := [some S, some (sym ((0 + -t) % 4) (m != true)), some (.loc base.length), some (.int (k : Nat)), some Sp.mir.d, c]) (st2 := base ++ [some (.lst (m0.map mvD))]) rfl ?_]
        · exact h
        · have q := mul_ok (st := base ++ [some (.lst (m0.map mvD))]) (t := t) (t2 := 0) (m := m) (m2 := true) hc
          simp only [reduceIte] at q
          simp only [b_upr, Sp.d, seq_e, seqK_nx, seqK_rt, ifS_e, stB_ok, bind_ok, test_e, blR_ok, not_e, and_e, or_e, andV_e, andK_t, andK_f, notV_e, notK_ok, if_e, nil_e, cons_e, lst_e, tup_e, fn_e, call_e, var_e, varK_ok, c_e, optR_ok, bin_e, drop_e, ret_e, set_e, asg_e, optS_ok, next_e, gn_e, gt_e, gc_e, gcK_ok, gl_e, isi_e, isC_e, fld_e, fldK_ins, neg_e, negK_ok, meth_e, methK_ins, meth0_e, meth0K_ins, make_e, opI_e, opIK_ok, List.append_nil, List.nil_append, List.length_cons, List.length_nil, List.map_cons, List.map_nil, List.cons_append, List.replicate_succ, List.replicate_zero, List.replicate, List.getElem?_cons_zero, List.getElem?_cons_succ, List.set_cons_zero, List.set_cons_succ, Nat.zero_add, reduceIte, Nat.reduceAdd, Nat.reduceEqDiff, Nat.reduceLeDiff, Nat.reduceLT, Int.reduceLT, Int.reduceLE, Int.reduceEq, Int.reduceBEq, Int.reduceAdd, Int.reduceSub, Int.reduceNeg, Int.reduceMul, Int.reduceMod, decide_true, decide_false, Bool.not_true, Bool.not_false, Bool.false_eq_true, Bool.true_eq_false, szc, sz0, Option.map_some, Option.isSome_some, and_self, and_true, true_and, gcF_same, oEq_int, oNe_int, oAdd_int, oSub_int, oLt_int, oLe_int, oGt_int, oGe_int, oIx_lst, oIx_tup, oNotN_e, oIsN_e, ne_eq, not_false_eq_true, not_true_eq_false, Int.natCast_succ, Int.cast_ofNat_Int, beq_self_eq_true, Bool.and_true, Bool.and_false, Bool.true_and, Bool.false_and, wi0, we00, we01, we02, we03, wi1, we10, we11, we12, we13, wi2, we20, we21, we22, we23, wi3, we30, we31, we32, we33, ln1, at10, ln2, at20, at21, ln3, at30, at31, at32, ln4, at40, at41, at42, at43, mk_ok (t := 0) (m := true) (by decide) (by decide) hc, opI_sym, q]
      · rw [e, upr]
        have y : (0 + -t) % 4 % 2 = t % 2 := by omega
        rw [y]
    | cut s =>
      obtain ⟨s', v, hs⟩ := side1 s (.cut s) rfl
      obtain ⟨t', m', a', b', c', ms, h, e⟩ := upr_loop hb (ps := ps) (k := k + 1) (t := t) (m := m) (m0 := m0 ++ [(k, s', none)]) (a := some (.int (k : Nat))) (b := some (Sp.cut s).d) (c := some s'.d) h0 h3 (by rw [List.length_append]; simp; omega)
      refine ⟨t', m', a', b', c', (k, s', none) :: ms, ?_, ?_⟩
      · rw [List.map_cons, enumD, for_cons (ρ1 := [some S, some (sym t m), some (.loc base.length), some (.int (k : Nat)), some (Sp.cut s).d, c]) (st1 := base ++ [some (.lst (m0.map mvD))]) (ρ2 := [some S, some (sym t m), some (.loc base.length), some (.int (k : Nat)), some (Sp.cut s).d, some s'.d]) (st2 := base ++ [some (.lst ((m0 ++ [(k, s', none)]).map mvD))]) rfl ?_]
        · rw [h, List.append_assoc]
          rfl
        · have q := app1 s' none (.cut s) (by simp only [m_upr, Sp.d, seq_e, seqK_nx, seqK_rt, ifS_e, stB_ok, bind_ok, test_e, blR_ok, not_e, and_e, or_e, andV_e, andK_t, andK_f, notV_e, notK_ok, if_e, nil_e, cons_e, lst_e, tup_e, fn_e, call_e, var_e, varK_ok, c_e, optR_ok, bin_e, drop_e, ret_e, set_e, asg_e, optS_ok, next_e, gn_e, gt_e, gc_e, gcK_ok, gl_e, isi_e, isC_e, fld_e, fldK_ins, neg_e, negK_ok, meth_e, methK_ins, meth0_e, meth0K_ins, make_e, opI_e, opIK_ok, List.append_nil, List.nil_append, List.length_cons, List.length_nil, List.map_cons, List.map_nil, List.cons_append, List.replicate_succ, List.replicate_zero, List.replicate, List.getElem?_cons_zero, List.getElem?_cons_succ, List.set_cons_zero, List.set_cons_succ, Nat.zero_add, reduceIte, Nat.reduceAdd, Nat.reduceEqDiff, Nat.reduceLeDiff, Nat.reduceLT, Int.reduceLT, Int.reduceLE, Int.reduceEq, Int.reduceBEq, Int.reduceAdd, Int.reduceSub, Int.reduceNeg, Int.reduceMul, Int.reduceMod, decide_true, decide_false, Bool.not_true, Bool.not_false, Bool.false_eq_true, Bool.true_eq_false, szc, sz0, Option.map_some, Option.isSome_some, and_self, and_true, true_and, gcF_same, oEq_int, oNe_int, oAdd_int, oSub_int, oLt_int, oLe_int, oGt_int, oGe_int, oIx_lst, oIx_tup, oNotN_e, oIsN_e, ne_eq, not_false_eq_true, not_true_eq_false, Int.natCast_succ, Int.cast_ofNat_Int, beq_self_eq_true, Bool.and_true, Bool.and_false, Bool.true_and, Bool.false_and, wi0, we00, we01, we02, we03, wi1, we10, we11, we12, we13, wi2, we20, we21, we22, we23, wi3, we30, we31, we32, we33, ln1, at10, ln2, at20, at21, ln3, at30, at31, at32, ln4, at40, at41, at42, at43]; rfl)
          have w : b_upr2 [some S, some (sym t m), some (.loc base.length), some (.int (k : Nat)), some (Sp.cut s).d, c] (base ++ [some (.lst (m0.map mvD))]) = .nx [some S, some (sym t m), some (.loc base.length), some (.int (k : Nat)), some (Sp.cut s).d, some s'.d] (base ++ [some (.lst ((m0 ++ [(k, s', none)]).map mvD))]) := by
            rw [b_upr2, seq_e, hs, seqK_nx, q]
          simp only [b_upr2, Sp.d] at w
          simp only [b_upr, Sp.d, ifS_e, seq_e, seqK_nx, seqK_rt, ifS_e, stB_ok, bind_ok, test_e, blR_ok, not_e, and_e, or_e, andV_e, andK_t, andK_f, notV_e, notK_ok, if_e, nil_e, cons_e, lst_e, tup_e, fn_e, call_e, var_e, varK_ok, c_e, optR_ok, bin_e, drop_e, ret_e, set_e, asg_e, optS_ok, next_e, gn_e, gt_e, gc_e, gcK_ok, gl_e, isi_e, isC_e, fld_e, fldK_ins, neg_e, negK_ok, meth_e, methK_ins, meth0_e, meth0K_ins, make_e, opI_e, opIK_ok, List.append_nil, List.nil_append, List.length_cons, List.length_nil, List.map_cons, List.map_nil, List.cons_append, List.replicate_succ, List.replicate_zero, List.replicate, List.getElem?_cons_zero, List.getElem?_cons_succ, List.set_cons_zero, List.set_cons_succ, Nat.zero_add, reduceIte, Nat.reduceAdd, Nat.reduceEqDiff, Nat.reduceLeDiff, Nat.reduceLT, Int.reduceLT, Int.reduceLE, Int.reduceEq, Int.reduceBEq, Int.reduceAdd, Int.reduceSub, Int.reduceNeg, Int.reduceMul, Int.reduceMod, decide_true, decide_false, Bool.not_true, Bool.not_false, Bool.false_eq_true, Bool.true_eq_false, szc, sz0, Option.map_some, Option.isSome_some, and_self, and_true, true_and, gcF_same, oEq_int, oNe_int, oAdd_int, oSub_int, oLt_int, oLe_int, oGt_int, oGe_int, oIx_lst, oIx_tup, oNotN_e, oIsN_e, ne_eq, not_false_eq_true, not_true_eq_false, Int.natCast_succ, Int.cast_ofNat_Int, beq_self_eq_true, Bool.and_true, Bool.and_false, Bool.true_and, Bool.false_and, wi0, we00, we01, we02, we03, wi1, we10, we11, we12, we13, wi2, we20, we21, we22, we23, wi3, we30, we31, we32, we33, ln1, at10, ln2, at20, at21, ln3, at30, at31, at32, ln4, at40, at41, at42, at43] at w ⊢
          exact w
      · rw [List.map_cons, e, upr, ← v]
        rfl
    | add s cc =>
      obtain ⟨s', v, hs⟩ := side1 s (.add s cc) rfl
      obtain ⟨t', m', a', b', c', ms, h, e⟩ := upr_loop hb (ps := ps) (k := k + 1) (t := t) (m := m) (m0 := m0 ++ [(k, s', some cc)]) (a := some (.int (k : Nat))) (b := some (Sp.add s cc).d) (c := some s'.d) h0 h3 (by rw [List.length_append]; simp; omega)
      refine ⟨t', m', a', b', c', (k, s', some cc) :: ms, ?_, ?_⟩
      · rw [List.map_cons, enumD, for_cons (ρ1 := [some S, some (sym t m), some (.loc base.length), some (.int (k : Nat)), some (Sp.add s cc).d, c]) (st1 := base ++ [some (.lst (m0.map mvD))]) (ρ2 := [some S, some (sym t m), some (.loc base.length), some (.int (k : Nat)), some (Sp.add s cc).d, some s'.d]) (st2 := base ++ [some (.lst ((m0 ++ [(k, s', some cc)]).map mvD))]) rfl ?_]
        · rw [h, List.append_assoc]
          rfl
        · have q := app1 s' (some cc) (.add s cc) (by simp only [m_upr, Sp.d, seq_e, seqK_nx, seqK_rt, ifS_e, stB_ok, bind_ok, test_e, blR_ok, not_e, and_e, or_e, andV_e, andK_t, andK_f, notV_e, notK_ok, if_e, nil_e, cons_e, lst_e, tup_e, fn_e, call_e, var_e, varK_ok, c_e, optR_ok, bin_e, drop_e, ret_e, set_e, asg_e, optS_ok, next_e, gn_e, gt_e, gc_e, gcK_ok, gl_e, isi_e, isC_e, fld_e, fldK_ins, neg_e, negK_ok, meth_e, methK_ins, meth0_e, meth0K_ins, make_e, opI_e, opIK_ok, List.append_nil, List.nil_append, List.length_cons, List.length_nil, List.map_cons, List.map_nil, List.cons_append, List.replicate_succ, List.replicate_zero, List.replicate, List.getElem?_cons_zero, List.getElem?_cons_succ, List.set_cons_zero, List.set_cons_succ, Nat.zero_add, reduceIte, Nat.reduceAdd, Nat.reduceEqDiff, Nat.reduceLeDiff, Nat.reduceLT, Int.reduceLT, Int.reduceLE, Int.reduceEq, Int.reduceBEq, Int.reduceAdd, Int.reduceSub, Int.reduceNeg, Int.reduceMul, Int.reduceMod, decide_true, decide_false, Bool.not_true, Bool.not_false, Bool.false_eq_true, Bool.true_eq_false, szc, sz0, Option.map_some, Option.isSome_some, and_self, and_true, true_and, gcF_same, oEq_int, oNe_int, oAdd_int, oSub_int, oLt_int, oLe_int, oGt_int, oGe_int, oIx_lst, oIx_tup, oNotN_e, oIsN_e, ne_eq, not_false_eq_true, not_true_eq_false, Int.natCast_succ, Int.cast_ofNat_Int, beq_self_eq_true, Bool.and_true, Bool.and_false, Bool.true_and, Bool.false_and, wi0, we00, we01, we02, we03, wi1, we10, we11, we12, we13, wi2, we20, we21, we22, we23, wi3, we30, we31, we32, we33, ln1, at10, ln2, at20, at21, ln3, at30, at31, at32, ln4, at40, at41, at42, at43]; rfl)
          have w : b_upr2 [some S, some (sym t m), some (.loc base.length), some (.int (k : Nat)), some (Sp.add s cc).d, c] (base ++ [some (.lst (m0.map mvD))]) = .nx [some S, some (sym t m), some (.loc base.length), some (.int (k : Nat)), some (Sp.add s cc).d, some s'.d] (base ++ [some (.lst ((m0 ++ [(k, s', some cc)]).map mvD))]) := by
            rw [b_upr2, seq_e, hs, seqK_nx, q]
          simp only [b_upr2, Sp.d] at w
          simp only [b_upr, Sp.d, ifS_e, seq_e, seqK_nx, seqK_rt, ifS_e, stB_ok, bind_ok, test_e, blR_ok, not_e, and_e, or_e, andV_e, andK_t, andK_f, notV_e, notK_ok, if_e, nil_e, cons_e, lst_e, tup_e, fn_e, call_e, var_e, varK_ok, c_e, optR_ok, bin_e, drop_e, ret_e, set_e, asg_e, optS_ok, next_e, gn_e, gt_e, gc_e, gcK_ok, gl_e, isi_e, isC_e, fld_e, fldK_ins, neg_e, negK_ok, meth_e, methK_ins, meth0_e, meth0K_ins, make_e, opI_e, opIK_ok, List.append_nil, List.nil_append, List.length_cons, List.length_nil, List.map_cons, List.map_nil, List.cons_append, List.replicate_succ, List.replicate_zero, List.replicate, List.getElem?_cons_zero, List.getElem?_cons_succ, List.set_cons_zero, List.set_cons_succ, Nat.zero_add, reduceIte, Nat.reduceAdd, Nat.reduceEqDiff, Nat.reduceLeDiff, Nat.reduceLT, Int.reduceLT, Int.reduceLE, Int.reduceEq, Int.reduceBEq, Int.reduceAdd, Int.reduceSub, Int.reduceNeg, Int.reduceMul, Int.reduceMod, decide_true, decide_false, Bool.not_true, Bool.not_false, Bool.false_eq_true, Bool.true_eq_false, szc, sz0, Option.map_some, Option.isSome_some, and_self, and_true, true_and, gcF_same, oEq_int, oNe_int, oAdd_int, oSub_int, oLt_int, oLe_int, oGt_int, oGe_int, oIx_lst, oIx_tup, oNotN_e, oIsN_e, ne_eq, not_false_eq_true, not_true_eq_false, Int.natCast_succ, Int.cast_ofNat_Int, beq_self_eq_true, Bool.and_true, Bool.and_false, Bool.true_and, Bool.false_and, wi0, we00, we01, we02, we03, wi1, we10, we11, we12, we13, wi2, we20, we21, we22, we23, wi3, we30, we31, we32, we33, ln1, at10, ln2, at20, at21, ln3, at30, at31, at32, ln4, at40, at41, at42, at43] at w ⊢
          exact w
      · rw [List.map_cons, e, upr, ← v]
        rfl
theorem upright_ok {ps : List Sp} {S : D} (hS : IsS ps S) (hl : ps.length ≤ 200) (hc : Clean st) : ∃ t m, ∃ ms : List Mv, e_upright_moves [S] st = .ok (.tup [sym t m, .lst (ms.map mvD)]) st ∧ ms.map prj = upr false ps := by
  obtain ⟨t, m, a, b, c, ms, h, e⟩ := upr_loop (S := S) hc (ps := ps) (k := 0) (t := 0) (m := false) (m0 := []) (a := none) (b := none) (c := none) (by decide) (by decide) (by simp; omega)
  refine ⟨t, m, ms, ?_, e⟩
  have e0 : fMake0 "Symmetry" e_Symmetry_init_ 3 [.int 0, .bl false] [some S, none, none, none, none, none] st = .ok (sym 0 false) st := by
    rw [make0_e, if_pos (by rfl), mk_ok (by decide) (by decide) hc]
  have e3 : iEn (fVar 0) [some S, some (sym 0 false), some (.loc st.length), none, none, none] (st ++ [some (.lst [])]) = .ok (enumD 0 (ps.map Sp.d)) (st ++ [some (.lst [])]) := iEn_e rfl (by cases hS <;> rfl)
  have hf : (fRet (fTup (fCons (fVar 1) (fCons (fFrz (fVar 2)) fNil)))) [some S, some (sym t m), some (.loc st.length), a, b, c] (st ++ [some (.lst (ms.map mvD))]) = .rt (.tup [sym t m, .lst (ms.map mvD)]) (st ++ [none]) := by
    simp only [seq_e, seqK_nx, seqK_rt, ifS_e, stB_ok, bind_ok, test_e, blR_ok, not_e, and_e, or_e, andV_e, andK_t, andK_f, notV_e, notK_ok, if_e, nil_e, cons_e, lst_e, tup_e, fn_e, call_e, var_e, varK_ok, c_e, optR_ok, bin_e, drop_e, ret_e, set_e, asg_e, optS_ok, next_e, gn_e, gt_e, gc_e, gcK_ok, gl_e, isi_e, isC_e, fld_e, fldK_ins, neg_e, negK_ok, meth_e, methK_ins, meth0_e, meth0K_ins, make_e, opI_e, opIK_ok, List.append_nil, List.nil_append, List.length_cons, List.length_nil, List.map_cons, List.map_nil, List.cons_append, List.replicate_succ, List.replicate_zero, List.replicate, List.getElem?_cons_zero, List.getElem?_cons_succ, List.set_cons_zero, List.set_cons_succ, Nat.zero_add, reduceIte, Nat.reduceAdd, Nat.reduceEqDiff, Nat.reduceLeDiff, Nat.reduceLT, Int.reduceLT, Int.reduceLE, Int.reduceEq, Int.reduceBEq, Int.reduceAdd, Int.reduceSub, Int.reduceNeg, Int.reduceMul, Int.reduceMod, decide_true, decide_false, Bool.not_true, Bool.not_false, Bool.false_eq_true, Bool.true_eq_false, szc, sz0, Option.map_some, Option.isSome_some, and_self, and_true, true_and, gcF_same, oEq_int, oNe_int, oAdd_int, oSub_int, oLt_int, oLe_int, oGt_int, oGe_int, oIx_lst, oIx_tup, oNotN_e, oIsN_e, ne_eq, not_false_eq_true, not_true_eq_false, Int.natCast_succ, Int.cast_ofNat_Int, beq_self_eq_true, Bool.and_true, Bool.and_false, Bool.true_and, Bool.false_and, wi0, we00, we01, we02, we03, wi1, we10, we11, we12, we13, wi2, we20, we21, we22, we23, wi3, we30, we31, we32, we33, ln1, at10, ln2, at20, at21, ln3, at30, at31, at32, ln4, at40, at41, at42, at43, frz_e, frzK_ok at_end, set_end, DO.tree]
  unfold e_upright_moves
  rw [body_rt (st1 := st ++ [none]) (d := .tup [sym t m, .lst (ms.map mvD)])]
  · have nl : noLoc (.tup [sym t m, .lst (ms.map mvD)]) = true := by
      simp [noLoc, noLocL, mvs_nl, sym_nl]
    rw [nl, gcF_clean hc]
  · show fSeq (fSet 1 _) (fSeq (fSet 2 (fLstO fNil)) (fSeq (fFor (iEn (fVar 0)) g_upr b_upr) _)) [some S, none, none, none, none, none] st = _
    rw [seq_e, set_e, e0, stB_ok, seqK_nx, seq_e]
    show seqK (.nx [some S, some (sym 0 false), some (.loc st.length), none, none, none] (st ++ [some (.lst [])])) _ = _
    rw [seqK_nx, seq_e, for_e, e3, stB_ok]
    have h' : fForGo g_upr b_upr (enumD 0 (ps.map Sp.d)) [some S, some (sym 0 false), some (.loc st.length), none, none, none] (st ++ [some (.lst [])]) = .nx [some S, some (sym t m), some (.loc st.length), a, b, c] (st ++ [some (.lst (ms.map mvD))]) := h
    rw [h', seqK_nx, hf]
end K51

set_option Elab.async false
set_option linter.all false
set_option maxRecDepth 100000
set_option maxHeartbeats 4000000
namespace K51
open PySem PySem.Spec PyProof.Rows L2 DL FL
variable {st : FL.St}
theorem aug_ok {g : Int → Int → Int} {o i e : fE} {ρ : Rho} {a k : Nat} {z j : Int} {ds : List D} (h1 : o ρ st = .ok (.loc a) st) (h2 : i ρ st = .ok (.int (k : Nat)) st) (h3 : st[a]? = some (some (.lst ds))) (h4 : ds[k]? = some (.int z)) (h5 : e ρ st = .ok (.int j) st) :
    fAugS g o i e ρ st = .nx ρ (st.set a (some (.lst (ds.set k (.int (g z j)))))) := by
  have hk : k < ds.length := (List.getElem?_eq_some_iff.mp h4).1
  have h6 : atI ds (k : Nat) = some (.int z) := by
    rw [at_nat hk]
    rw [List.getElem?_eq_getElem hk] at h4
    exact h4
  unfold fAugS
  rw [h1, stB_ok, h2, stB_ok]
  have h7 : augO st (.loc a) (.int (k : Nat)) = some (a, ((k : Nat) : Int), z) := by
    unfold augO
    dsimp only
    rw [h3]
    dsimp only
    unfold augI
    rw [h6]
    rfl
  rw [h7]
  dsimp only
  rw [h5, stB_ok]
  unfold augE
  dsimp only
  unfold augK
  rw [h3]
  dsimp only
  rw [ixN_nat hk]
abbrev Two (base : FL.St) (l0 l1 g0 g1 : Int) : FL.St := base ++ [some (.lst [.int l0, .int l1]), some (.lst [.int g0, .int g1])]
theorem two_a {x y : Option DO} : (st ++ [x, y])[st.length]? = some x := by simp
theorem two_b {x y : Option DO} : (st ++ [x, y])[st.length + 1]? = some y := by
  rw [List.getElem?_append_right (by omega)]
  simp
theorem two_sa {x y z : Option DO} : (st ++ [x, y]).set st.length z = st ++ [z, y] := by
  rw [List.set_append_right _ _ (Nat.le_refl _)]
  simp
theorem two_sb {x y z : Option DO} : (st ++ [x, y]).set (st.length + 1) z = st ++ [x, z] := by
  rw [List.set_append_right _ _ (by omega)]
  simp
abbrev g_rs : fG := fGt 3 (fGc (fGn 1) (fGc (fGn 5) (fGc (fGn 6) fGl)))
abbrev b_rs : fS := fSeq (fSet 7 (fKix tab_DIRECTIONS (fVar 5))) (fIfS (fTest (fBin oNotN (fVar 6) (fC .non))) (fAugS (fun i j => i + j) (fVar 4) (fVar 7) (fC (.int 1))) (fSeq (fAsg (fFn lMax (fCons (fIxO (fVar 3) (fVar 7)) (fCons (fBin oSub (fC (.int 2)) (fIxO (fVar 4) (fVar 7))) fNil))) (fGsub (fVar 3) (fVar 7))) (fAugS (fun i j => i - j) (fVar 4) (fVar 7) (fC (.int 1)))))
def mx (i j : Int) : Int := if j > i then j else i
def rsz : Int → Int → Int → Int → List (Bool × Bool) → Int × Int
  | l0, l1, _, _, [] => (l0, l1)
  | l0, l1, g0, g1, (true, true) :: r => rsz l0 l1 (g0 + 1) g1 r
  | l0, l1, g0, g1, (false, true) :: r => rsz l0 l1 g0 (g1 + 1) r
  | l0, l1, g0, g1, (true, false) :: r => rsz (mx l0 (2 - g0)) l1 (g0 - 1) g1 r
  | l0, l1, g0, g1, (false, false) :: r => rsz l0 (mx l1 (2 - g1)) g0 (g1 - 1) r
theorem ixOa {l0 l1 g0 g1 i : Int} : ixOK (.loc st.length) (.int i) (Two st l0 l1 g0 g1) = optR (atI [.int l0, .int l1] i) (Two st l0 l1 g0 g1) := ixOK_ok two_a
theorem ixOb {l0 l1 g0 g1 i : Int} : ixOK (.loc (st.length + 1)) (.int i) (Two st l0 l1 g0 g1) = optR (atI [.int g0, .int g1] i) (Two st l0 l1 g0 g1) := ixOK_ok two_b
theorem lMax_e {i j : Int} : lMax [.int i, .int j] = some (.int (mx i j)) := rfl
theorem rs_step {S A M : D} {c : Option D} {l0 l1 g0 g1 : Int} {s : Sd} {o : Option Nat} {d7 : Int} (h7 : d7 = if vert s then 0 else 1) :
    ∃ l0' l1' g0' g1', (fIfS (fTest (fBin oNotN (fVar 6) (fC .non))) (fAugS (fun i j => i + j) (fVar 4) (fVar 7) (fC (.int 1))) (fSeq (fAsg (fFn lMax (fCons (fIxO (fVar 3) (fVar 7)) (fCons (fBin oSub (fC (.int 2)) (fIxO (fVar 4) (fVar 7))) fNil))) (fGsub (fVar 3) (fVar 7))) (fAugS (fun i j => i - j) (fVar 4) (fVar 7) (fC (.int 1))))) [some S, some A, some M, some (.loc st.length), some (.loc (st.length + 1)), some s.d, some (colD o), some (.int d7)] (Two st l0 l1 g0 g1) = .nx [some S, some A, some M, some (.loc st.length), some (.loc (st.length + 1)), some s.d, some (colD o), some (.int d7)] (Two st l0' l1' g0' g1') ∧ ∀ r, rsz l0 l1 g0 g1 ((vert s, o.isSome) :: r) = rsz l0' l1' g0' g1' r := by
  cases hv : vert s with
  | true =>
    rw [hv] at h7
    have h7 : d7 = ((0 : Nat) : Int) := h7
    subst h7
    cases o with
    | some cc =>
      refine ⟨l0, l1, g0 + 1, g1, ?_, fun r => rfl⟩
      have q := aug_ok (st := Two st l0 l1 g0 g1) (g := fun i j => i + j) (o := fVar 4) (i := fVar 7) (e := fC (.int 1)) (ρ := [some S, some A, some M, some (.loc st.length), some (.loc (st.length + 1)), some s.d, some (colD (some cc)), some (.int ((0 : Nat) : Int))]) (a := st.length + 1) (k := 0) (z := g0) (j := 1) (ds := [.int g0, .int g1]) rfl rfl two_b rfl rfl
      rw [two_sb] at q
      have n : isNon (colD (some cc)) = false := rfl
      simp only [seq_e, seqK_nx, seqK_rt, ifS_e, stB_ok, bind_ok, test_e, blR_ok, not_e, and_e, or_e, andV_e, andK_t, andK_f, notV_e, notK_ok, if_e, nil_e, cons_e, lst_e, tup_e, fn_e, call_e, var_e, varK_ok, c_e, optR_ok, bin_e, drop_e, ret_e, set_e, asg_e, optS_ok, next_e, gn_e, gt_e, gc_e, gcK_ok, gl_e, isi_e, isC_e, fld_e, fldK_ins, neg_e, negK_ok, meth_e, methK_ins, meth0_e, meth0K_ins, make_e, opI_e, opIK_ok, List.append_nil, List.nil_append, List.length_cons, List.length_nil, List.map_cons, List.map_nil, List.cons_append, List.replicate_succ, List.replicate_zero, List.replicate, List.getElem?_cons_zero, List.getElem?_cons_succ, List.set_cons_zero, List.set_cons_succ, Nat.zero_add, reduceIte, Nat.reduceAdd, Nat.reduceEqDiff, Nat.reduceLeDiff, Nat.reduceLT, Int.reduceLT, Int.reduceLE, Int.reduceEq, Int.reduceBEq, Int.reduceAdd, Int.reduceSub, Int.reduceNeg, Int.reduceMul, Int.reduceMod, decide_true, decide_false, Bool.not_true, Bool.not_false, Bool.false_eq_true, Bool.true_eq_false, szc, sz0, Option.map_some, Option.isSome_some, and_self, and_true, true_and, gcF_same, oEq_int, oNe_int, oAdd_int, oSub_int, oLt_int, oLe_int, oGt_int, oGe_int, oIx_lst, oIx_tup, oNotN_e, oIsN_e, ne_eq, not_false_eq_true, not_true_eq_false, Int.natCast_succ, Int.cast_ofNat_Int, beq_self_eq_true, Bool.and_true, Bool.and_false, Bool.true_and, Bool.false_and, wi0, we00, we01, we02, we03, wi1, we10, we11, we12, we13, wi2, we20, we21, we22, we23, wi3, we30, we31, we32, we33, ln1, at10, ln2, at20, at21, ln3, at30, at31, at32, ln4, at40, at41, at42, at43, n]
      exact q
    | none =>
      refine ⟨mx l0 (2 - g0), l1, g0 - 1, g1, ?_, fun r => rfl⟩
      have q := aug_ok (st := Two st (mx l0 (2 - g0)) l1 g0 g1) (g := fun i j => i - j) (o := fVar 4) (i := fVar 7) (e := fC (.int 1)) (ρ := [some S, some A, some M, some (.loc st.length), some (.loc (st.length + 1)), some s.d, some (colD none), some (.int ((0 : Nat) : Int))]) (a := st.length + 1) (k := 0) (z := g0) (j := 1) (ds := [.int g0, .int g1]) rfl rfl two_b rfl rfl
      rw [two_sb] at q
      have n : isNon (colD none) = true := rfl
      have gs : fGsub (fVar 3) (fVar 7) (.int (mx l0 (2 - g0))) [some S, some A, some M, some (.loc st.length), some (.loc (st.length + 1)), some s.d, some (colD none), some (.int ((0 : Nat) : Int))] (Two st l0 l1 g0 g1) = some ([some S, some A, some M, some (.loc st.length), some (.loc (st.length + 1)), some s.d, some (colD none), some (.int ((0 : Nat) : Int))], Two st (mx l0 (2 - g0)) l1 g0 g1) := by
        rw [gsub_e (a := st.length) (k := 0) (i := ((0 : Nat) : Int)) (st1 := Two st l0 l1 g0 g1) (st2 := Two st l0 l1 g0 g1) (ds := [.int l0, .int l1]) rfl rfl two_a rfl, two_sa]
        rfl
      have x1 : atI [D.int l0, D.int l1] ((0 : Nat) : Int) = some (.int l0) := rfl
      have x2 : atI [D.int g0, D.int g1] ((0 : Nat) : Int) = some (.int g0) := rfl
      have f1 : (fFn lMax (fCons (fIxO (fVar 3) (fVar 7)) (fCons (fBin oSub (fC (.int 2)) (fIxO (fVar 4) (fVar 7))) fNil))) [some S, some A, some M, some (.loc st.length), some (.loc (st.length + 1)), some s.d, some (colD none), some (.int ((0 : Nat) : Int))] (Two st l0 l1 g0 g1) = .ok (.int (mx l0 (2 - g0))) (Two st l0 l1 g0 g1) := by
        simp only [seq_e, seqK_nx, seqK_rt, ifS_e, stB_ok, bind_ok, test_e, blR_ok, not_e, and_e, or_e, andV_e, andK_t, andK_f, notV_e, notK_ok, if_e, nil_e, cons_e, lst_e, tup_e, fn_e, call_e, var_e, varK_ok, c_e, optR_ok, bin_e, drop_e, ret_e, set_e, asg_e, optS_ok, next_e, gn_e, gt_e, gc_e, gcK_ok, gl_e, isi_e, isC_e, fld_e, fldK_ins, neg_e, negK_ok, meth_e, methK_ins, meth0_e, meth0K_ins, make_e, opI_e, opIK_ok, List.append_nil, List.nil_append, List.length_cons, List.length_nil, List.map_cons, List.map_nil, List.cons_append, List.replicate_succ, List.replicate_zero, List.replicate, List.getElem?_cons_zero, List.getElem?_cons_succ, List.set_cons_zero, List.set_cons_succ, Nat.zero_add, reduceIte, Nat.reduceAdd, Nat.reduceEqDiff, Nat.reduceLeDiff, Nat.reduceLT, Int.reduceLT, Int.reduceLE, Int.reduceEq, Int.reduceBEq, Int.reduceAdd, Int.reduceSub, Int.reduceNeg, Int.reduceMul, Int.reduceMod, decide_true, decide_false, Bool.not_true, Bool.not_false, Bool.false_eq_true, Bool.true_eq_false, szc, sz0, Option.map_some, Option.isSome_some, and_self, and_true, true_and, gcF_same, oEq_int, oNe_int, oAdd_int, oSub_int, oLt_int, oLe_int, oGt_int, oGe_int, oIx_lst, oIx_tup, oNotN_e, oIsN_e, ne_eq, not_false_eq_true, not_true_eq_false, Int.natCast_succ, Int.cast_ofNat_Int, beq_self_eq_true, Bool.and_true, Bool.and_false, Bool.true_and, Bool.false_and, wi0, we00, we01, we02, we03, wi1, we10, we11, we12, we13, wi2, we20, we21, we22, we23, wi3, we30, we31, we32, we33, ln1, at10, ln2, at20, at21, ln3, at30, at31, at32, ln4, at40, at41, at42, at43, ixO_e, ixOa, ixOb, x1, x2, lMax_e]
      rw [ifS_e]
      have f0 : (fTest (fBin oNotN (fVar 6) (fC .non))) [some S, some A, some M, some (.loc st.length), some (.loc (st.length + 1)), some s.d, some (colD none), some (.int ((0 : Nat) : Int))] (Two st l0 l1 g0 g1) = .ok false (Two st l0 l1 g0 g1) := rfl
      rw [f0, stB_ok, if_neg (by decide), seq_e, asg_e, f1, stB_ok, gs, optS_ok, seqK_nx]
      exact q
  | false =>
    rw [hv] at h7
    have h7 : d7 = ((1 : Nat) : Int) := h7
    subst h7
    cases o with
    | some cc =>
      refine ⟨l0, l1, g0, g1 + 1, ?_, fun r => rfl⟩
      have q := aug_ok (st := Two st l0 l1 g0 g1) (g := fun i j => i + j) (o := fVar 4) (i := fVar 7) (e := fC (.int 1)) (ρ := [some S, some A, some M, some (.loc st.length), some (.loc (st.length + 1)), some s.d, some (colD (some cc)), some (.int ((1 : Nat) : Int))]) (a := st.length + 1) (k := 1) (z := g1) (j := 1) (ds := [.int g0, .int g1]) rfl rfl two_b rfl rfl
      rw [two_sb] at q
      have n : isNon (colD (some cc)) = false := rfl
      simp only [seq_e, seqK_nx, seqK_rt, ifS_e, stB_ok, bind_ok, test_e, blR_ok, not_e, and_e, or_e, andV_e, andK_t, andK_f, notV_e, notK_ok, if_e, nil_e, cons_e, lst_e, tup_e, fn_e, call_e, var_e, varK_ok, c_e, optR_ok, bin_e, drop_e, ret_e, set_e, asg_e, optS_ok, next_e, gn_e, gt_e, gc_e, gcK_ok, gl_e, isi_e, isC_e, fld_e, fldK_ins, neg_e, negK_ok, meth_e, methK_ins, meth0_e, meth0K_ins, make_e, opI_e, opIK_ok, List.append_nil, List.nil_append, List.length_cons, List.length_nil, List.map_cons, List.map_nil, List.cons_append, List.replicate_succ, List.replicate_zero, List.replicate, List.getElem?_cons_zero, List.getElem?_cons_succ, List.set_cons_zero, List.set_cons_succ, Nat.zero_add, reduceIte, Nat.reduceAdd, Nat.reduceEqDiff, Nat.reduceLeDiff, Nat.reduceLT, Int.reduceLT, Int.reduceLE, Int.reduceEq, Int.reduceBEq, Int.reduceAdd, Int.reduceSub, Int.reduceNeg, Int.reduceMul, Int.reduceMod, decide_true, decide_false, Bool.not_true, Bool.not_false, Bool.false_eq_true, Bool.true_eq_false, szc, sz0, Option.map_some, Option.isSome_some, and_self, and_true, true_and, gcF_same, oEq_int, oNe_int, oAdd_int, oSub_int, oLt_int, oLe_int, oGt_int, oGe_int, oIx_lst, oIx_tup, oNotN_e, oIsN_e, ne_eq, not_false_eq_true, not_true_eq_false, Int.natCast_succ, Int.cast_ofNat_Int, beq_self_eq_true, Bool.and_true, Bool.and_false, Bool.true_and, Bool.false_and, wi0, we00, we01, we02, we03, wi1, we10, we11, we12, we13, wi2, we20, we21, we22, we23, wi3, we30, we31, we32, we33, ln1, at10, ln2, at20, at21, ln3, at30, at31, at32, ln4, at40, at41, at42, at43, n]
      exact q
    | none =>
      refine ⟨l0, mx l1 (2 - g1), g0, g1 - 1, ?_, fun r => rfl⟩
      have q := aug_ok (st := Two st l0 (mx l1 (2 - g1)) g0 g1) (g := fun i j => i - j) (o := fVar 4) (i := fVar 7) (e := fC (.int 1)) (ρ := [some S, some A, some M, some (.loc st.length), some (.loc (st.length + 1)), some s.d, some (colD none), some (.int ((1 : Nat) : Int))]) (a := st.length + 1) (k := 1) (z := g1) (j := 1) (ds := [.int g0, .int g1]) rfl rfl two_b rfl rfl
      rw [two_sb] at q
      have gs : fGsub (fVar 3) (fVar 7) (.int (mx l1 (2 - g1))) [some S, some A, some M, some (.loc st.length), some (.loc (st.length + 1)), some s.d, some (colD none), some (.int ((1 : Nat) : Int))] (Two st l0 l1 g0 g1) = some ([some S, some A, some M, some (.loc st.length), some (.loc (st.length + 1)), some s.d, some (colD none), some (.int ((1 : Nat) : Int))], Two st l0 (mx l1 (2 - g1)) g0 g1) := by
        rw [gsub_e (a := st.length) (k := 1) (i := ((1 : Nat) : Int)) (st1 := Two st l0 l1 g0 g1) (st2 := Two st l0 l1 g0 g1) (ds := [.int l0, .int l1]) rfl rfl two_a rfl, two_sa]
        rfl
      have x1 : atI [D.int l0, D.int l1] ((1 : Nat) : Int) = some (.int l1) := rfl
      have x2 : atI [D.int g0, D.int g1] ((1 : Nat) : Int) = some (.int g1) := rfl
      have f1 : (fFn lMax (fCons (fIxO (fVar 3) (fVar 7)) (fCons (fBin oSub (fC (.int 2)) (fIxO (fVar 4) (fVar 7))) fNil))) [some S, some A, some M, some (.loc st.length), some (.loc (st.length + 1)), some s.d, some (colD none), some (.int ((1 : Nat) : Int))] (Two st l0 l1 g0 g1) = .ok (.int (mx l1 (2 - g1))) (Two st l0 l1 g0 g1) := by
        simp only [seq_e, seqK_nx, seqK_rt, ifS_e, stB_ok, bind_ok, test_e, blR_ok, not_e, and_e, or_e, andV_e, andK_t, andK_f, notV_e, notK_ok, if_e, nil_e, cons_e, lst_e, tup_e, fn_e, call_e, var_e, varK_ok, c_e, optR_ok, bin_e, drop_e, ret_e, set_e, asg_e, optS_ok, next_e, gn_e, gt_e, gc_e, gcK_ok, gl_e, isi_e, isC_e, fld_e, fldK_ins, neg_e, negK_ok, meth_e, methK_ins, meth0_e, meth0K_ins, make_e, opI_e, opIK_ok, List.append_nil, List.nil_append, List.length_cons, List.length_nil, List.map_cons, List.map_nil, List.cons_append, List.replicate_succ, List.replicate_zero, List.replicate, List.getElem?_cons_zero, List.getElem?_cons_succ, List.set_cons_zero, List.set_cons_succ, Nat.zero_add, reduceIte, Nat.reduceAdd, Nat.reduceEqDiff, Nat.reduceLeDiff, Nat.reduceLT, Int.reduceLT, Int.reduceLE, Int.reduceEq, Int.reduceBEq, Int.reduceAdd, Int.reduceSub, Int.reduceNeg, Int.reduceMul, Int.reduceMod, decide_true, decide_false, Bool.not_true, Bool.not_false, Bool.false_eq_true, Bool.true_eq_false, szc, sz0, Option.map_some, Option.isSome_some, and_self, and_true, true_and, gcF_same, oEq_int, oNe_int, oAdd_int, oSub_int, oLt_int, oLe_int, oGt_int, oGe_int, oIx_lst, oIx_tup, oNotN_e, oIsN_e, ne_eq, not_false_eq_true, not_true_eq_false, Int.natCast_succ, Int.cast_ofNat_Int, beq_self_eq_true, Bool.and_true, Bool.and_false, Bool.true_and, Bool.false_and, wi0, we00, we01, we02, we03, wi1, we10, we11, we12, we13, wi2, we20, we21, we22, we23, wi3, we30, we31, we32, we33, ln1, at10, ln2, at20, at21, ln3, at30, at31, at32, ln4, at40, at41, at42, at43, ixO_e, ixOa, ixOb, x1, x2, lMax_e]
      rw [ifS_e]
      have f0 : (fTest (fBin oNotN (fVar 6) (fC .non))) [some S, some A, some M, some (.loc st.length), some (.loc (st.length + 1)), some s.d, some (colD none), some (.int ((1 : Nat) : Int))] (Two st l0 l1 g0 g1) = .ok false (Two st l0 l1 g0 g1) := rfl
      rw [f0, stB_ok, if_neg (by decide), seq_e, asg_e, f1, stB_ok, gs, optS_ok, seqK_nx]
      exact q
theorem kix_ok {s : Sd} {ρ : Rho} {m : fE} (h : m ρ st = .ok s.d st) : fKix tab_DIRECTIONS m ρ st = .ok (.int (if vert s then 0 else 1)) st := by
  unfold fKix
  rw [h]
  cases s <;> rfl
theorem rs_loop {S M : D} : ∀ {ms : List Mv} {A : D} {l0 l1 g0 g1 : Int} {b c e : Option D}, ∃ A' b' c' e' g0' g1', fForGo g_rs b_rs (ms.map mvD) [some S, some A, some M, some (.loc st.length), some (.loc (st.length + 1)), b, c, e] (Two st l0 l1 g0 g1) = .nx [some S, some A', some M, some (.loc st.length), some (.loc (st.length + 1)), b', c', e'] (Two st (rsz l0 l1 g0 g1 (ms.map prj)).1 (rsz l0 l1 g0 g1 (ms.map prj)).2 g0' g1')
  | [], A, l0, l1, g0, g1, b, c, e => ⟨A, b, c, e, g0, g1, rfl⟩
  | q :: ms, A, l0, l1, g0, g1, b, c, e => by
    obtain ⟨k, s, o⟩ := q
    obtain ⟨l0', l1', g0', g1', h1, h2⟩ := rs_step (st := st) (S := S) (A := .int (k : Nat)) (M := M) (c := none) (l0 := l0) (l1 := l1) (g0 := g0) (g1 := g1) (s := s) (o := o) (d7 := if vert s then 0 else 1) rfl
    obtain ⟨A', b', c', e', g0'', g1'', h⟩ := rs_loop (S := S) (M := M) (ms := ms) (A := .int (k : Nat)) (l0 := l0') (l1 := l1') (g0 := g0') (g1 := g1') (b := some s.d) (c := some (colD o)) (e := some (.int (if vert s then 0 else 1)))
    refine ⟨A', b', c', e', g0'', g1'', ?_⟩
    rw [List.map_cons, for_cons (ρ1 := [some S, some (.int (k : Nat)), some M, some (.loc st.length), some (.loc (st.length + 1)), some s.d, some (colD o), e]) (st1 := Two st l0 l1 g0 g1) (ρ2 := [some S, some (.int (k : Nat)), some M, some (.loc st.length), some (.loc (st.length + 1)), some s.d, some (colD o), some (.int (if vert s then 0 else 1))]) (st2 := Two st l0' l1' g0' g1') rfl ?_, h, List.map_cons]
    · have e := h2 (ms.map prj)
      show _ = RS.nx _ (Two st (rsz l0 l1 g0 g1 ((vert s, o.isSome) :: ms.map prj)).1 (rsz l0 l1 g0 g1 ((vert s, o.isSome) :: ms.map prj)).2 _ _)
      rw [e]
    · rw [b_rs, seq_e, set_e, kix_ok (s := s) rfl, stB_ok]
      exact h1
def Rsz (ps : List Sp) : Int × Int := rsz 1 1 0 0 (upr false ps)
theorem running_ok {ps : List Sp} {S : D} (hS : IsS ps S) (hl : ps.length ≤ 200) (hc : Clean st) : e_running_size [S] st = .ok (.tup [.int (Rsz ps).1, .int (Rsz ps).2]) st := by
  obtain ⟨t, m, ms, h1, h2⟩ := upright_ok hS hl hc
  obtain ⟨A', b', c', e', g0', g1', h⟩ := rs_loop (st := st) (S := S) (M := .lst (ms.map mvD)) (ms := ms) (A := sym t m) (l0 := 1) (l1 := 1) (g0 := 0) (g1 := 0) (b := none) (c := none) (e := none)
  rw [h2] at h
  unfold e_running_size
  rw [body_rt (st1 := st ++ [none, some (.lst [.int g0', .int g1'])]) (d := .tup [.int (Rsz ps).1, .int (Rsz ps).2])]
  · have nl : noLoc (.tup [.int (Rsz ps).1, .int (Rsz ps).2]) = true := rfl
    rw [nl, gcF_clean hc]
  · have a1 : (fDrop (fCall e_check_steps 1 [] (fCons (fVar 0) fNil))) [some S, none, none, none, none, none, none, none] st = .nx [some S, none, none, none, none, none, none, none] st := by
      simp only [seq_e, seqK_nx, seqK_rt, ifS_e, stB_ok, bind_ok, test_e, blR_ok, not_e, and_e, or_e, andV_e, andK_t, andK_f, notV_e, notK_ok, if_e, nil_e, cons_e, lst_e, tup_e, fn_e, call_e, var_e, varK_ok, c_e, optR_ok, bin_e, drop_e, ret_e, set_e, asg_e, optS_ok, next_e, gn_e, gt_e, gc_e, gcK_ok, gl_e, isi_e, isC_e, fld_e, fldK_ins, neg_e, negK_ok, meth_e, methK_ins, meth0_e, meth0K_ins, make_e, opI_e, opIK_ok, List.append_nil, List.nil_append, List.length_cons, List.length_nil, List.map_cons, List.map_nil, List.cons_append, List.replicate_succ, List.replicate_zero, List.replicate, List.getElem?_cons_zero, List.getElem?_cons_succ, List.set_cons_zero, List.set_cons_succ, Nat.zero_add, reduceIte, Nat.reduceAdd, Nat.reduceEqDiff, Nat.reduceLeDiff, Nat.reduceLT, Int.reduceLT, Int.reduceLE, Int.reduceEq, Int.reduceBEq, Int.reduceAdd, Int.reduceSub, Int.reduceNeg, Int.reduceMul, Int.reduceMod, decide_true, decide_false, Bool.not_true, Bool.not_false, Bool.false_eq_true, Bool.true_eq_false, szc, sz0, Option.map_some, Option.isSome_some, and_self, and_true, true_and, gcF_same, oEq_int, oNe_int, oAdd_int, oSub_int, oLt_int, oLe_int, oGt_int, oGe_int, oIx_lst, oIx_tup, oNotN_e, oIsN_e, ne_eq, not_false_eq_true, not_true_eq_false, Int.natCast_succ, Int.cast_ofNat_Int, beq_self_eq_true, Bool.and_true, Bool.and_false, Bool.true_and, Bool.false_and, wi0, we00, we01, we02, we03, wi1, we10, we11, we12, we13, wi2, we20, we21, we22, we23, wi3, we30, we31, we32, we33, ln1, at10, ln2, at20, at21, ln3, at30, at31, at32, ln4, at40, at41, at42, at43, check_ok hS hl]
    have a2 : (fAsg (fCall e_upright_moves 1 [] (fCons (fVar 0) fNil)) (fGt 2 (fGc (fGn 1) (fGc (fGn 2) fGl)))) [some S, none, none, none, none, none, none, none] st = .nx [some S, some (sym t m), some (.lst (ms.map mvD)), none, none, none, none, none] st := by
      simp only [seq_e, seqK_nx, seqK_rt, ifS_e, stB_ok, bind_ok, test_e, blR_ok, not_e, and_e, or_e, andV_e, andK_t, andK_f, notV_e, notK_ok, if_e, nil_e, cons_e, lst_e, tup_e, fn_e, call_e, var_e, varK_ok, c_e, optR_ok, bin_e, drop_e, ret_e, set_e, asg_e, optS_ok, next_e, gn_e, gt_e, gc_e, gcK_ok, gl_e, isi_e, isC_e, fld_e, fldK_ins, neg_e, negK_ok, meth_e, methK_ins, meth0_e, meth0K_ins, make_e, opI_e, opIK_ok, List.append_nil, List.nil_append, List.length_cons, List.length_nil, List.map_cons, List.map_nil, List.cons_append, List.replicate_succ, List.replicate_zero, List.replicate, List.getElem?_cons_zero, List.getElem?_cons_succ, List.set_cons_zero, List.set_cons_succ, Nat.zero_add, reduceIte, Nat.reduceAdd, Nat.reduceEqDiff, Nat.reduceLeDiff, Nat.reduceLT, Int.reduceLT, Int.reduceLE, Int.reduceEq, Int.reduceBEq, Int.reduceAdd, Int.reduceSub, Int.reduceNeg, Int.reduceMul, Int.reduceMod, decide_true, decide_false, Bool.not_true, Bool.not_false, Bool.false_eq_true, Bool.true_eq_false, szc, sz0, Option.map_some, Option.isSome_some, and_self, and_true, true_and, gcF_same, oEq_int, oNe_int, oAdd_int, oSub_int, oLt_int, oLe_int, oGt_int, oGe_int, oIx_lst, oIx_tup, oNotN_e, oIsN_e, ne_eq, not_false_eq_true, not_true_eq_false, Int.natCast_succ, Int.cast_ofNat_Int, beq_self_eq_true, Bool.and_true, Bool.and_false, Bool.true_and, Bool.false_and, wi0, we00, we01, we02, we03, wi1, we10, we11, we12, we13, wi2, we20, we21, we22, we23, wi3, we30, we31, we32, we33, ln1, at10, ln2, at20, at21, ln3, at30, at31, at32, ln4, at40, at41, at42, at43, h1]
    have a3 : (fSet 3 (fLstO (fCons (fC (.int 1)) (fCons (fC (.int 1)) fNil)))) [some S, some (sym t m), some (.lst (ms.map mvD)), none, none, none, none, none] st = .nx [some S, some (sym t m), some (.lst (ms.map mvD)), some (.loc st.length), none, none, none, none] (st ++ [some (.lst [.int 1, .int 1])]) := rfl
    have a4 : (fSet 4 (fLstO (fCons (fC (.int 0)) (fCons (fC (.int 0)) fNil)))) [some S, some (sym t m), some (.lst (ms.map mvD)), some (.loc st.length), none, none, none, none] (st ++ [some (.lst [.int 1, .int 1])]) = .nx [some S, some (sym t m), some (.lst (ms.map mvD)), some (.loc st.length), some (.loc (st.length + 1)), none, none, none] (Two st 1 1 0 0) := by
      simp only [seq_e, seqK_nx, seqK_rt, ifS_e, stB_ok, bind_ok, test_e, blR_ok, not_e, and_e, or_e, andV_e, andK_t, andK_f, notV_e, notK_ok, if_e, nil_e, cons_e, lst_e, tup_e, fn_e, call_e, var_e, varK_ok, c_e, optR_ok, bin_e, drop_e, ret_e, set_e, asg_e, optS_ok, next_e, gn_e, gt_e, gc_e, gcK_ok, gl_e, isi_e, isC_e, fld_e, fldK_ins, neg_e, negK_ok, meth_e, methK_ins, meth0_e, meth0K_ins, make_e, opI_e, opIK_ok, List.append_nil, List.nil_append, List.length_cons, List.length_nil, List.map_cons, List.map_nil, List.cons_append, List.replicate_succ, List.replicate_zero, List.replicate, List.getElem?_cons_zero, List.getElem?_cons_succ, List.set_cons_zero, List.set_cons_succ, Nat.zero_add, reduceIte, Nat.reduceAdd, Nat.reduceEqDiff, Nat.reduceLeDiff, Nat.reduceLT, Int.reduceLT, Int.reduceLE, Int.reduceEq, Int.reduceBEq, Int.reduceAdd, Int.reduceSub, Int.reduceNeg, Int.reduceMul, Int.reduceMod, decide_true, decide_false, Bool.not_true, Bool.not_false, Bool.false_eq_true, Bool.true_eq_false, szc, sz0, Option.map_some, Option.isSome_some, and_self, and_true, true_and, gcF_same, oEq_int, oNe_int, oAdd_int, oSub_int, oLt_int, oLe_int, oGt_int, oGe_int, oIx_lst, oIx_tup, oNotN_e, oIsN_e, ne_eq, not_false_eq_true, not_true_eq_false, Int.natCast_succ, Int.cast_ofNat_Int, beq_self_eq_true, Bool.and_true, Bool.and_false, Bool.true_and, Bool.false_and, wi0, we00, we01, we02, we03, wi1, we10, we11, we12, we13, wi2, we20, we21, we22, we23, wi3, we30, we31, we32, we33, ln1, at10, ln2, at20, at21, ln3, at30, at31, at32, ln4, at40, at41, at42, at43, lstO_e, List.length_append, List.append_assoc]
    have a5 : iSq (fVar 2) [some S, some (sym t m), some (.lst (ms.map mvD)), some (.loc st.length), some (.loc (st.length + 1)), none, none, none] (Two st 1 1 0 0) = .ok (ms.map mvD) (Two st 1 1 0 0) := iSq_e rfl rfl
    have a6 : (fRet (fFn lTuple (fCons (fFrz (fVar 3)) fNil))) [some S, some A', some (.lst (ms.map mvD)), some (.loc st.length), some (.loc (st.length + 1)), b', c', e'] (Two st (Rsz ps).1 (Rsz ps).2 g0' g1') = .rt (.tup [.int (Rsz ps).1, .int (Rsz ps).2]) (st ++ [none, some (.lst [.int g0', .int g1'])]) := by
      have lt : lTuple [.lst [.int (Rsz ps).1, .int (Rsz ps).2]] = some (.tup [.int (Rsz ps).1, .int (Rsz ps).2]) := rfl
      simp only [seq_e, seqK_nx, seqK_rt, ifS_e, stB_ok, bind_ok, test_e, blR_ok, not_e, and_e, or_e, andV_e, andK_t, andK_f, notV_e, notK_ok, if_e, nil_e, cons_e, lst_e, tup_e, fn_e, call_e, var_e, varK_ok, c_e, optR_ok, bin_e, drop_e, ret_e, set_e, asg_e, optS_ok, next_e, gn_e, gt_e, gc_e, gcK_ok, gl_e, isi_e, isC_e, fld_e, fldK_ins, neg_e, negK_ok, meth_e, methK_ins, meth0_e, meth0K_ins, make_e, opI_e, opIK_ok, List.append_nil, List.nil_append, List.length_cons, List.length_nil, List.map_cons, List.map_nil, List.cons_append, List.replicate_succ, List.replicate_zero, List.replicate, List.getElem?_cons_zero, List.getElem?_cons_succ, List.set_cons_zero, List.set_cons_succ, Nat.zero_add, reduceIte, Nat.reduceAdd, Nat.reduceEqDiff, Nat.reduceLeDiff, Nat.reduceLT, Int.reduceLT, Int.reduceLE, Int.reduceEq, Int.reduceBEq, Int.reduceAdd, Int.reduceSub, Int.reduceNeg, Int.reduceMul, Int.reduceMod, decide_true, decide_false, Bool.not_true, Bool.not_false, Bool.false_eq_true, Bool.true_eq_false, szc, sz0, Option.map_some, Option.isSome_some, and_self, and_true, true_and, gcF_same, oEq_int, oNe_int, oAdd_int, oSub_int, oLt_int, oLe_int, oGt_int, oGe_int, oIx_lst, oIx_tup, oNotN_e, oIsN_e, ne_eq, not_false_eq_true, not_true_eq_false, Int.natCast_succ, Int.cast_ofNat_Int, beq_self_eq_true, Bool.and_true, Bool.and_false, Bool.true_and, Bool.false_and, wi0, we00, we01, we02, we03, wi1, we10, we11, we12, we13, wi2, we20, we21, we22, we23, wi3, we30, we31, we32, we33, ln1, at10, ln2, at20, at21, ln3, at30, at31, at32, ln4, at40, at41, at42, at43, frz_e, frzK_ok two_a, two_sa, DO.tree, lt]
    show fSeq _ (fSeq _ (fSeq _ (fSeq _ (fSeq (fFor (iSq (fVar 2)) g_rs b_rs) _)))) [some S, none, none, none, none, none, none, none] st = _
    rw [seq_e, a1, seqK_nx, seq_e, a2, seqK_nx, seq_e, a3, seqK_nx, seq_e, a4, seqK_nx, seq_e, for_e, a5, stB_ok]
    rw [h, seqK_nx]
    exact a6
end K51

set_option Elab.async false
set_option linter.all false
set_option maxRecDepth 100000
set_option maxHeartbeats 4000000
namespace K51
open PySem PySem.Spec PyProof.Rows L2 DL FL
def afterM : Sp → Nat → Nat → Option (Nat × Nat)
  | .turn, h, w => some (w, h)
  | .mir, h, w => some (h, w)
  | .cut s, h, w => if vert s = true then (if h = 1 then none else some (h - 1, w)) else (if w = 1 then none else some (h, w - 1))
  | .add s _, h, w => if vert s = true then some (h + 1, w) else some (h, w + 1)
def runM : Nat → Nat → List Sp → Bool
  | _, _, [] => true
  | h, w, p :: ps => match afterM p h w with
    | none => false
    | some q => runM q.1 q.2 ps
theorem mx_iff {i j k : Int} : mx i j ≤ k ↔ i ≤ k ∧ j ≤ k := by
  unfold mx
  split <;> omega
theorem mx_l {i j : Int} : i ≤ mx i j := by
  unfold mx
  split <;> omega
theorem mx_r {i j : Int} : j ≤ mx i j := by
  unfold mx
  split <;> omega
theorem rsz_mono : ∀ {r : List (Bool × Bool)} {l0 l1 g0 g1 : Int}, l0 ≤ (rsz l0 l1 g0 g1 r).1 ∧ l1 ≤ (rsz l0 l1 g0 g1 r).2
  | [], _, _, _, _ => ⟨Int.le_refl _, Int.le_refl _⟩
  | (true, true) :: r, l0, l1, g0, g1 => rsz_mono (r := r) (l0 := l0) (l1 := l1) (g0 := g0 + 1) (g1 := g1)
  | (false, true) :: r, l0, l1, g0, g1 => rsz_mono (r := r) (l0 := l0) (l1 := l1) (g0 := g0) (g1 := g1 + 1)
  | (true, false) :: r, l0, l1, g0, g1 => by
    have h := rsz_mono (r := r) (l0 := mx l0 (2 - g0)) (l1 := l1) (g0 := g0 - 1) (g1 := g1)
    exact ⟨Int.le_trans mx_l h.1, h.2⟩
  | (false, false) :: r, l0, l1, g0, g1 => by
    have h := rsz_mono (r := r) (l0 := l0) (l1 := mx l1 (2 - g1)) (g0 := g0) (g1 := g1 - 1)
    exact ⟨h.1, Int.le_trans mx_l h.2⟩
theorem rsz_top : ∀ {r : List (Bool × Bool)} {l0 l1 g0 g1 : Int} {k : Nat}, l0 ≤ k + 1 → l1 ≤ k + 1 → -(k : Int) ≤ g0 → -(k : Int) ≤ g1 → (rsz l0 l1 g0 g1 r).1 ≤ k + r.length + 1 ∧ (rsz l0 l1 g0 g1 r).2 ≤ k + r.length + 1
  | [], l0, l1, g0, g1, k, a, b, c, d => by
    show l0 ≤ _ ∧ l1 ≤ _
    simp only [List.length_nil]
    omega
  | (true, true) :: r, l0, l1, g0, g1, k, a, b, c, d => by
    have h := rsz_top (r := r) (l0 := l0) (l1 := l1) (g0 := g0 + 1) (g1 := g1) (k := k + 1) (by omega) (by omega) (by omega) (by omega)
    simp only [rsz, List.length_cons]
    omega
  | (false, true) :: r, l0, l1, g0, g1, k, a, b, c, d => by
    have h := rsz_top (r := r) (l0 := l0) (l1 := l1) (g0 := g0) (g1 := g1 + 1) (k := k + 1) (by omega) (by omega) (by omega) (by omega)
    simp only [rsz, List.length_cons]
    omega
  | (true, false) :: r, l0, l1, g0, g1, k, a, b, c, d => by
    have h := rsz_top (r := r) (l0 := mx l0 (2 - g0)) (l1 := l1) (g0 := g0 - 1) (g1 := g1) (k := k + 1) (by rw [mx_iff]; omega) (by omega) (by omega) (by omega)
    simp only [rsz, List.length_cons]
    omega
  | (false, false) :: r, l0, l1, g0, g1, k, a, b, c, d => by
    have h := rsz_top (r := r) (l0 := l0) (l1 := mx l1 (2 - g1)) (g0 := g0) (g1 := g1 - 1) (k := k + 1) (by omega) (by rw [mx_iff]; omega) (by omega) (by omega)
    simp only [rsz, List.length_cons]
    omega
theorem upr_len : ∀ {ps : List Sp} {p : Bool}, (upr p ps).length ≤ ps.length
  | [], _ => Nat.le_refl _
  | .turn :: ps, p => Nat.le_succ_of_le (upr_len (ps := ps) (p := !p))
  | .mir :: ps, p => Nat.le_succ_of_le (upr_len (ps := ps) (p := p))
  | .cut s :: ps, p => Nat.succ_le_succ (upr_len (ps := ps) (p := p))
  | .add s c :: ps, p => Nat.succ_le_succ (upr_len (ps := ps) (p := p))
theorem Rsz_ge {ps : List Sp} : 1 ≤ (Rsz ps).1 ∧ 1 ≤ (Rsz ps).2 := rsz_mono
theorem Rsz_le {ps : List Sp} : (Rsz ps).1 ≤ ps.length + 1 ∧ (Rsz ps).2 ≤ ps.length + 1 := by
  have h := rsz_top (r := upr false ps) (l0 := 1) (l1 := 1) (g0 := 0) (g1 := 0) (k := 0) (by decide) (by decide) (by decide) (by decide)
  have l := upr_len (ps := ps) (p := false)
  unfold Rsz
  omega
theorem run_iff : ∀ {ps : List Sp} {p : Bool} {h w : Nat} {H0 H1 l0 l1 g0 g1 : Int}, 1 ≤ h → 1 ≤ w → (if p = true then (w : Int) else h) = H0 + g0 → (if p = true then (h : Int) else w) = H1 + g1 → l0 ≤ H0 → l1 ≤ H1 →
    (runM h w ps = true ↔ (rsz l0 l1 g0 g1 (upr p ps)).1 ≤ H0 ∧ (rsz l0 l1 g0 g1 (upr p ps)).2 ≤ H1)
  | [], p, h, w, H0, H1, l0, l1, g0, g1, hh, hw, e0, e1, a, b => by
    simp only [runM, upr, rsz]
    simp [a, b]
  | .turn :: ps, p, h, w, H0, H1, l0, l1, g0, g1, hh, hw, e0, e1, a, b => by
    have ih := run_iff (ps := ps) (p := !p) (h := w) (w := h) (H0 := H0) (H1 := H1) (l0 := l0) (l1 := l1) (g0 := g0) (g1 := g1) hw hh (by cases p <;> simpa using e0) (by cases p <;> simpa using e1) a b
    simpa only [runM, afterM, upr] using ih
  | .mir :: ps, p, h, w, H0, H1, l0, l1, g0, g1, hh, hw, e0, e1, a, b => by
    have ih := run_iff (ps := ps) (p := p) (h := h) (w := w) (H0 := H0) (H1 := H1) (l0 := l0) (l1 := l1) (g0 := g0) (g1 := g1) hh hw e0 e1 a b
    simpa only [runM, afterM, upr] using ih
  | .add s c :: ps, p, h, w, H0, H1, l0, l1, g0, g1, hh, hw, e0, e1, a, b => by
    cases hv : vert s <;> cases p
    · have e0 : (h : Int) = H0 + g0 := e0
      have e1 : (w : Int) = H1 + g1 := e1
      have ih := run_iff (ps := ps) (p := false) (h := h) (w := w + 1) (H0 := H0) (H1 := H1) (l0 := l0) (l1 := l1) (g0 := g0) (g1 := g1 + 1) hh (by omega) (by show (h : Int) = _; omega) (by show ((w + 1 : Nat) : Int) = _; omega) a b
      simpa [runM, afterM, upr, hv, rsz] using ih
    · have e0 : (w : Int) = H0 + g0 := e0
      have e1 : (h : Int) = H1 + g1 := e1
      have ih := run_iff (ps := ps) (p := true) (h := h) (w := w + 1) (H0 := H0) (H1 := H1) (l0 := l0) (l1 := l1) (g0 := g0 + 1) (g1 := g1) hh (by omega) (by show ((w + 1 : Nat) : Int) = _; omega) (by show (h : Int) = _; omega) a b
      simpa [runM, afterM, upr, hv, rsz] using ih
    · have e0 : (h : Int) = H0 + g0 := e0
      have e1 : (w : Int) = H1 + g1 := e1
      have ih := run_iff (ps := ps) (p := false) (h := h + 1) (w := w) (H0 := H0) (H1 := H1) (l0 := l0) (l1 := l1) (g0 := g0 + 1) (g1 := g1) (by omega) hw (by show ((h + 1 : Nat) : Int) = _; omega) (by show (w : Int) = _; omega) a b
      simpa [runM, afterM, upr, hv, rsz] using ih
    · have e0 : (w : Int) = H0 + g0 := e0
      have e1 : (h : Int) = H1 + g1 := e1
      have ih := run_iff (ps := ps) (p := true) (h := h + 1) (w := w) (H0 := H0) (H1 := H1) (l0 := l0) (l1 := l1) (g0 := g0) (g1 := g1 + 1) (by omega) hw (by show (w : Int) = _; omega) (by show ((h + 1 : Nat) : Int) = _; omega) a b
      simpa [runM, afterM, upr, hv, rsz] using ih
  | .cut s :: ps, p, h, w, H0, H1, l0, l1, g0, g1, hh, hw, e0, e1, a, b => by
    cases hv : vert s <;> cases p
    · have e0 : (h : Int) = H0 + g0 := e0
      have e1 : (w : Int) = H1 + g1 := e1
      by_cases q : w = 1
      · have m : l0 ≤ (rsz l0 l1 g0 g1 ((false, false) :: upr false ps)).1 ∧ mx l1 (2 - g1) ≤ (rsz l0 l1 g0 g1 ((false, false) :: upr false ps)).2 := rsz_mono (r := upr false ps) (l0 := l0) (l1 := mx l1 (2 - g1)) (g0 := g0) (g1 := g1 - 1)
        have m2 := mx_r (i := l1) (j := 2 - g1)
        simp only [runM, afterM, upr, hv, q]
        simp
        omega
      · have ih := run_iff (ps := ps) (p := false) (h := h) (w := w - 1) (H0 := H0) (H1 := H1) (l0 := l0) (l1 := mx l1 (2 - g1)) (g0 := g0) (g1 := g1 - 1) hh (by omega) (by show (h : Int) = _; omega) (by show ((w - 1 : Nat) : Int) = _; omega) a (by rw [mx_iff]; omega)
        simpa [runM, afterM, upr, hv, rsz, q] using ih
    · have e0 : (w : Int) = H0 + g0 := e0
      have e1 : (h : Int) = H1 + g1 := e1
      by_cases q : w = 1
      · have m : mx l0 (2 - g0) ≤ (rsz l0 l1 g0 g1 ((true, false) :: upr true ps)).1 ∧ l1 ≤ (rsz l0 l1 g0 g1 ((true, false) :: upr true ps)).2 := rsz_mono (r := upr true ps) (l0 := mx l0 (2 - g0)) (l1 := l1) (g0 := g0 - 1) (g1 := g1)
        have m2 := mx_r (i := l0) (j := 2 - g0)
        simp only [runM, afterM, upr, hv, q]
        simp
        omega
      · have ih := run_iff (ps := ps) (p := true) (h := h) (w := w - 1) (H0 := H0) (H1 := H1) (l0 := mx l0 (2 - g0)) (l1 := l1) (g0 := g0 - 1) (g1 := g1) hh (by omega) (by show ((w - 1 : Nat) : Int) = _; omega) (by show (h : Int) = _; omega) (by rw [mx_iff]; omega) b
        simpa [runM, afterM, upr, hv, rsz, q] using ih
    · have e0 : (h : Int) = H0 + g0 := e0
      have e1 : (w : Int) = H1 + g1 := e1
      by_cases q : h = 1
      · have m : mx l0 (2 - g0) ≤ (rsz l0 l1 g0 g1 ((true, false) :: upr false ps)).1 ∧ l1 ≤ (rsz l0 l1 g0 g1 ((true, false) :: upr false ps)).2 := rsz_mono (r := upr false ps) (l0 := mx l0 (2 - g0)) (l1 := l1) (g0 := g0 - 1) (g1 := g1)
        have m2 := mx_r (i := l0) (j := 2 - g0)
        simp only [runM, afterM, upr, hv, q]
        simp
        omega
      · have ih := run_iff (ps := ps) (p := false) (h := h - 1) (w := w) (H0 := H0) (H1 := H1) (l0 := mx l0 (2 - g0)) (l1 := l1) (g0 := g0 - 1) (g1 := g1) (by omega) hw (by show ((h - 1 : Nat) : Int) = _; omega) (by show (w : Int) = _; omega) (by rw [mx_iff]; omega) b
        simpa [runM, afterM, upr, hv, rsz, q] using ih
    · have e0 : (w : Int) = H0 + g0 := e0
      have e1 : (h : Int) = H1 + g1 := e1
      by_cases q : h = 1
      · have m : l0 ≤ (rsz l0 l1 g0 g1 ((false, false) :: upr true ps)).1 ∧ mx l1 (2 - g1) ≤ (rsz l0 l1 g0 g1 ((false, false) :: upr true ps)).2 := rsz_mono (r := upr true ps) (l0 := l0) (l1 := mx l1 (2 - g1)) (g0 := g0) (g1 := g1 - 1)
        have m2 := mx_r (i := l1) (j := 2 - g1)
        simp only [runM, afterM, upr, hv, q]
        simp
        omega
      · have ih := run_iff (ps := ps) (p := true) (h := h - 1) (w := w) (H0 := H0) (H1 := H1) (l0 := l0) (l1 := mx l1 (2 - g1)) (g0 := g0) (g1 := g1 - 1) (by omega) hw (by show (w : Int) = _; omega) (by show ((h - 1 : Nat) : Int) = _; omega) a (by rw [mx_iff]; omega)
        simpa [runM, afterM, upr, hv, rsz, q] using ih
theorem run_size {ps : List Sp} {h w : Nat} (hh : 1 ≤ h) (hw : 1 ≤ w) : runM h w ps = true ↔ (Rsz ps).1 ≤ h ∧ (Rsz ps).2 ≤ w :=
  run_iff (p := false) (H0 := h) (H1 := w) hh hw (by simp) (by simp) (by omega) (by omega)
end K51

set_option Elab.async false
set_option linter.all false
set_option maxRecDepth 100000
set_option maxHeartbeats 4000000
namespace K51
open PySem PySem.Spec PyProof.Rows L2 DL FL
variable {st : FL.St}
def IsR (w : Nat) (y : D) : Prop := ∃ r, y = .tup r ∧ r.length = w
def IsG (h w : Nat) (g : List D) : Prop := g.length = h ∧ ∀ y ∈ g, IsR w y
theorem IsG.head {h w : Nat} {g : List D} (k : IsG h w g) (hh : 1 ≤ h) : ∃ r, atI g 0 = some (.tup r) ∧ r.length = w := by
  have hl : 0 < g.length := by rw [k.1]; omega
  obtain ⟨r, e, l⟩ := k.2 g[0] (List.getElem_mem hl)
  refine ⟨r, ?_, l⟩
  have q := at_nat (ds := g) hl
  rw [e] at q
  exact q
theorem rng_mem {n : Nat} {d : D} (h : d ∈ rngD 0 n) : ∃ i : Nat, d = .int ((i : Nat) : Int) ∧ i < n := by
  unfold rngD at h
  obtain ⟨i, hi, e⟩ := List.mem_map.mp h
  exact ⟨i, by rw [← e, Int.zero_add], List.mem_range.mp hi⟩
theorem rng_len {n : Nat} : (rngD 0 n).length = n := by simp [rngD]
theorem cut_first {r : List D} : DL.cutD r (some 1) none = r.drop 1 := by
  unfold DL.cutD
  rw [HT.sIx_none]
  have h : HT.sIx r.length 0 (some 1) = min 1 r.length := HT.sIx_nat r.length 0 1
  rw [h]
  cases r with
  | nil => rfl
  | cons a r =>
    have z : min 1 (a :: r).length = 1 := by simp
    rw [z, List.take_of_length_le]
    simp
theorem cut_last {r : List D} (h : 1 ≤ r.length) : DL.cutD r none (some (-1)) = r.take (r.length - 1) := by
  unfold DL.cutD
  rw [HT.sIx_none]
  have e : HT.sIx r.length r.length (some (-1)) = r.length - 1 := by
    show (if (-1 : Int) < 0 then (-1 + (r.length : Int)).toNat else min (-1 : Int).toNat r.length) = _
    rw [if_pos (by decide)]
    omega
  rw [e, Nat.sub_zero, List.drop_zero]
theorem mul1_row {c : D} {w : Nat} (h1 : 1 ≤ w) (h2 : w ≤ 1000) : ∃ r, oMul1 (.tup [c]) (.int ((w : Nat) : Int)) = some (.tup r) ∧ r.length = w := by
  by_cases q : ((w : Nat) : Int) = 1
  · refine ⟨[c], ?_, by simp; omega⟩
    show (if _ then _ else _) = _
    rw [if_pos q]
  · refine ⟨(List.replicate w [c]).flatten, ?_, by simp⟩
    show (if ((w : Nat) : Int) = 1 then some (D.tup [c]) else oMul (.tup [c]) (.int ((w : Nat) : Int))) = _
    rw [if_neg q]
    show (if _ then _ else _) = _
    rw [if_pos ⟨by simp, by omega, by omega, by simp⟩, Int.toNat_natCast]
/-! one step -/
theorem lt_e {ys : List D} : lTuple [.lst ys] = some (.tup ys) := rfl
theorem ll_tup {ys : List D} : lLen [.tup ys] = some (.int ((ys.length : Nat) : Int)) := rfl
theorem ll_lst {ys : List D} : lLen [.lst ys] = some (.int ((ys.length : Nat) : Int)) := rfl
theorem after_turn {g : List D} {h w : Nat} (k : IsG h w g) (hh : 1 ≤ h) (h2 : h ≤ 1000) (w2 : w ≤ 1000) : ∃ g', IsG w h g' ∧ e_l_after [.lst g, Sp.turn.d] st = .ok (.lst g') st := by
  obtain ⟨r0, e0, l0⟩ := k.head hh
  have hL := lc_e (st := st) (ρ := [some (.lst g), some Sp.turn.d, none, none, none, none]) (ds := rngD 0 w) (it := iR1 (fCons (fFn lLen (fCons (fBin oIx (fVar 0) (fC (.int 0))) fNil)) fNil)) (g := fGn 5) (m := fFn lTuple (fCons (fLc (iSq (fBack (fVar 0))) (fGn 4) fYes (fBin oIx (fVar 4) (fVar 5)) [4]) fNil)) (vs := [5]) (Q := IsR h) ?_ ?_ (by rw [rng_len]; omega)
  · obtain ⟨ys, hy, ly, qy⟩ := hL
    refine ⟨ys, ⟨by rw [ly, rng_len], qy⟩, ?_⟩
    unfold e_l_after
    refine body_rt0 ?_
    have t1 : (fTest (fBin oEq (fBin oIx (fVar 1) (fC (.int 0))) (fC (.str "turn")))) [some (.lst g), some Sp.turn.d, none, none, none, none] st = .ok true st := by simp only [Sp.d, seq_e, seqK_nx, seqK_rt, ifS_e, stB_ok, bind_ok, test_e, blR_ok, not_e, and_e, or_e, andV_e, andK_t, andK_f, notV_e, notK_ok, if_e, nil_e, cons_e, lst_e, tup_e, fn_e, call_e, var_e, varK_ok, c_e, optR_ok, bin_e, drop_e, ret_e, set_e, asg_e, optS_ok, next_e, gn_e, gt_e, gc_e, gcK_ok, gl_e, isi_e, isC_e, fld_e, fldK_ins, neg_e, negK_ok, meth_e, methK_ins, meth0_e, meth0K_ins, make_e, opI_e, opIK_ok, List.append_nil, List.nil_append, List.length_cons, List.length_nil, List.map_cons, List.map_nil, List.cons_append, List.replicate_succ, List.replicate_zero, List.replicate, List.getElem?_cons_zero, List.getElem?_cons_succ, List.set_cons_zero, List.set_cons_succ, Nat.zero_add, reduceIte, Nat.reduceAdd, Nat.reduceEqDiff, Nat.reduceLeDiff, Nat.reduceLT, Int.reduceLT, Int.reduceLE, Int.reduceEq, Int.reduceBEq, Int.reduceAdd, Int.reduceSub, Int.reduceNeg, Int.reduceMul, Int.reduceMod, decide_true, decide_false, Bool.not_true, Bool.not_false, Bool.false_eq_true, Bool.true_eq_false, szc, sz0, Option.map_some, Option.isSome_some, and_self, and_true, true_and, gcF_same, oEq_int, oNe_int, oAdd_int, oSub_int, oLt_int, oLe_int, oGt_int, oGe_int, oIx_lst, oIx_tup, oNotN_e, oIsN_e, ne_eq, not_false_eq_true, not_true_eq_false, Int.natCast_succ, Int.cast_ofNat_Int, beq_self_eq_true, Bool.and_true, Bool.and_false, Bool.true_and, Bool.false_and, wi0, we00, we01, we02, we03, wi1, we10, we11, we12, we13, wi2, we20, we21, we22, we23, wi3, we30, we31, we32, we33, ln1, at10, ln2, at20, at21, ln3, at30, at31, at32, ln4, at40, at41, at42, at43]
    show fSeq (fIfS _ (fRet _) fNext) _ [some (.lst g), some Sp.turn.d, none, none, none, none] st = _
    rw [seq_e, ifS_e, t1, stB_ok, if_pos rfl, ret_e, hy, stB_ok, seqK_rt]
  · have q : (fCons (fFn lLen (fCons (fBin oIx (fVar 0) (fC (.int 0))) fNil)) fNil) [some (.lst g), some Sp.turn.d, none, none, none, none] st = .ok [.int ((w : Nat) : Int)] st := by
      simp only [seq_e, seqK_nx, seqK_rt, ifS_e, stB_ok, bind_ok, test_e, blR_ok, not_e, and_e, or_e, andV_e, andK_t, andK_f, notV_e, notK_ok, if_e, nil_e, cons_e, lst_e, tup_e, fn_e, call_e, var_e, varK_ok, c_e, optR_ok, bin_e, drop_e, ret_e, set_e, asg_e, optS_ok, next_e, gn_e, gt_e, gc_e, gcK_ok, gl_e, isi_e, isC_e, fld_e, fldK_ins, neg_e, negK_ok, meth_e, methK_ins, meth0_e, meth0K_ins, make_e, opI_e, opIK_ok, List.append_nil, List.nil_append, List.length_cons, List.length_nil, List.map_cons, List.map_nil, List.cons_append, List.replicate_succ, List.replicate_zero, List.replicate, List.getElem?_cons_zero, List.getElem?_cons_succ, List.set_cons_zero, List.set_cons_succ, Nat.zero_add, reduceIte, Nat.reduceAdd, Nat.reduceEqDiff, Nat.reduceLeDiff, Nat.reduceLT, Int.reduceLT, Int.reduceLE, Int.reduceEq, Int.reduceBEq, Int.reduceAdd, Int.reduceSub, Int.reduceNeg, Int.reduceMul, Int.reduceMod, decide_true, decide_false, Bool.not_true, Bool.not_false, Bool.false_eq_true, Bool.true_eq_false, szc, sz0, Option.map_some, Option.isSome_some, and_self, and_true, true_and, gcF_same, oEq_int, oNe_int, oAdd_int, oSub_int, oLt_int, oLe_int, oGt_int, oGe_int, oIx_lst, oIx_tup, oNotN_e, oIsN_e, ne_eq, not_false_eq_true, not_true_eq_false, Int.natCast_succ, Int.cast_ofNat_Int, beq_self_eq_true, Bool.and_true, Bool.and_false, Bool.true_and, Bool.false_and, wi0, we00, we01, we02, we03, wi1, we10, we11, we12, we13, wi2, we20, we21, we22, we23, wi3, we30, we31, we32, we33, ln1, at10, ln2, at20, at21, ln3, at30, at31, at32, ln4, at40, at41, at42, at43, e0, ll_tup, l0]
    rw [iR1_e q (by omega), Int.toNat_natCast]
  · intro d hd
    obtain ⟨i, ed, hi⟩ := rng_mem hd
    subst ed
    have hL := lc_e (st := st) (ρ := [some (.lst g), some Sp.turn.d, none, none, none, some (.int ((i : Nat) : Int))]) (ds := g.reverse) (it := iSq (fBack (fVar 0))) (g := fGn 4) (m := fBin oIx (fVar 4) (fVar 5)) (vs := [4]) (Q := fun _ => True) rfl ?_ (by rw [List.length_reverse, k.1]; omega)
    · obtain ⟨zs, hz, lz, qz⟩ := hL
      refine ⟨[some (.lst g), some Sp.turn.d, none, none, none, some (.int ((i : Nat) : Int))], .tup zs, rfl, ?_, zs, rfl, by rw [lz, List.length_reverse, k.1]⟩
      rw [fn_e, cons_e, hz]
      rfl
    · intro y hy
      obtain ⟨r, e, l⟩ := k.2 y (List.mem_reverse.mp hy)
      subst e
      have hir : i < r.length := by omega
      refine ⟨[some (.lst g), some Sp.turn.d, none, none, some (.tup r), some (.int ((i : Nat) : Int))], r[i], rfl, ?_, trivial⟩
      have a := at_nat (ds := r) hir
      simp only [seq_e, seqK_nx, seqK_rt, ifS_e, stB_ok, bind_ok, test_e, blR_ok, not_e, and_e, or_e, andV_e, andK_t, andK_f, notV_e, notK_ok, if_e, nil_e, cons_e, lst_e, tup_e, fn_e, call_e, var_e, varK_ok, c_e, optR_ok, bin_e, drop_e, ret_e, set_e, asg_e, optS_ok, next_e, gn_e, gt_e, gc_e, gcK_ok, gl_e, isi_e, isC_e, fld_e, fldK_ins, neg_e, negK_ok, meth_e, methK_ins, meth0_e, meth0K_ins, make_e, opI_e, opIK_ok, List.append_nil, List.nil_append, List.length_cons, List.length_nil, List.map_cons, List.map_nil, List.cons_append, List.replicate_succ, List.replicate_zero, List.replicate, List.getElem?_cons_zero, List.getElem?_cons_succ, List.set_cons_zero, List.set_cons_succ, Nat.zero_add, reduceIte, Nat.reduceAdd, Nat.reduceEqDiff, Nat.reduceLeDiff, Nat.reduceLT, Int.reduceLT, Int.reduceLE, Int.reduceEq, Int.reduceBEq, Int.reduceAdd, Int.reduceSub, Int.reduceNeg, Int.reduceMul, Int.reduceMod, decide_true, decide_false, Bool.not_true, Bool.not_false, Bool.false_eq_true, Bool.true_eq_false, szc, sz0, Option.map_some, Option.isSome_some, and_self, and_true, true_and, gcF_same, oEq_int, oNe_int, oAdd_int, oSub_int, oLt_int, oLe_int, oGt_int, oGe_int, oIx_lst, oIx_tup, oNotN_e, oIsN_e, ne_eq, not_false_eq_true, not_true_eq_false, Int.natCast_succ, Int.cast_ofNat_Int, beq_self_eq_true, Bool.and_true, Bool.and_false, Bool.true_and, Bool.false_and, wi0, we00, we01, we02, we03, wi1, we10, we11, we12, we13, wi2, we20, we21, we22, we23, wi3, we30, we31, we32, we33, ln1, at10, ln2, at20, at21, ln3, at30, at31, at32, ln4, at40, at41, at42, at43, a]
theorem after_mir {g : List D} {h w : Nat} (k : IsG h w g) (h2 : h ≤ 1000) : ∃ g', IsG h w g' ∧ e_l_after [.lst g, Sp.mir.d] st = .ok (.lst g') st := by
  have hL := lc_e (st := st) (ρ := [some (.lst g), some Sp.mir.d, none, none, none, none]) (ds := g) (it := iSq (fVar 0)) (g := fGn 4) (m := fBack (fVar 4)) (vs := [4]) (Q := IsR w) rfl ?_ (by rw [k.1]; omega)
  · obtain ⟨ys, hy, ly, qy⟩ := hL
    refine ⟨ys, ⟨by rw [ly, k.1], qy⟩, ?_⟩
    unfold e_l_after
    refine body_rt0 ?_
    have t1 : (fTest (fBin oEq (fBin oIx (fVar 1) (fC (.int 0))) (fC (.str "turn")))) [some (.lst g), some Sp.mir.d, none, none, none, none] st = .ok false st := by simp only [Sp.d, seq_e, seqK_nx, seqK_rt, ifS_e, stB_ok, bind_ok, test_e, blR_ok, not_e, and_e, or_e, andV_e, andK_t, andK_f, notV_e, notK_ok, if_e, nil_e, cons_e, lst_e, tup_e, fn_e, call_e, var_e, varK_ok, c_e, optR_ok, bin_e, drop_e, ret_e, set_e, asg_e, optS_ok, next_e, gn_e, gt_e, gc_e, gcK_ok, gl_e, isi_e, isC_e, fld_e, fldK_ins, neg_e, negK_ok, meth_e, methK_ins, meth0_e, meth0K_ins, make_e, opI_e, opIK_ok, List.append_nil, List.nil_append, List.length_cons, List.length_nil, List.map_cons, List.map_nil, List.cons_append, List.replicate_succ, List.replicate_zero, List.replicate, List.getElem?_cons_zero, List.getElem?_cons_succ, List.set_cons_zero, List.set_cons_succ, Nat.zero_add, reduceIte, Nat.reduceAdd, Nat.reduceEqDiff, Nat.reduceLeDiff, Nat.reduceLT, Int.reduceLT, Int.reduceLE, Int.reduceEq, Int.reduceBEq, Int.reduceAdd, Int.reduceSub, Int.reduceNeg, Int.reduceMul, Int.reduceMod, decide_true, decide_false, Bool.not_true, Bool.not_false, Bool.false_eq_true, Bool.true_eq_false, szc, sz0, Option.map_some, Option.isSome_some, and_self, and_true, true_and, gcF_same, oEq_int, oNe_int, oAdd_int, oSub_int, oLt_int, oLe_int, oGt_int, oGe_int, oIx_lst, oIx_tup, oNotN_e, oIsN_e, ne_eq, not_false_eq_true, not_true_eq_false, Int.natCast_succ, Int.cast_ofNat_Int, beq_self_eq_true, Bool.and_true, Bool.and_false, Bool.true_and, Bool.false_and, wi0, we00, we01, we02, we03, wi1, we10, we11, we12, we13, wi2, we20, we21, we22, we23, wi3, we30, we31, we32, we33, ln1, at10, ln2, at20, at21, ln3, at30, at31, at32, ln4, at40, at41, at42, at43]
    have t2 : (fTest (fBin oEq (fBin oIx (fVar 1) (fC (.int 0))) (fC (.str "mirror")))) [some (.lst g), some Sp.mir.d, none, none, none, none] st = .ok true st := by simp only [Sp.d, seq_e, seqK_nx, seqK_rt, ifS_e, stB_ok, bind_ok, test_e, blR_ok, not_e, and_e, or_e, andV_e, andK_t, andK_f, notV_e, notK_ok, if_e, nil_e, cons_e, lst_e, tup_e, fn_e, call_e, var_e, varK_ok, c_e, optR_ok, bin_e, drop_e, ret_e, set_e, asg_e, optS_ok, next_e, gn_e, gt_e, gc_e, gcK_ok, gl_e, isi_e, isC_e, fld_e, fldK_ins, neg_e, negK_ok, meth_e, methK_ins, meth0_e, meth0K_ins, make_e, opI_e, opIK_ok, List.append_nil, List.nil_append, List.length_cons, List.length_nil, List.map_cons, List.map_nil, List.cons_append, List.replicate_succ, List.replicate_zero, List.replicate, List.getElem?_cons_zero, List.getElem?_cons_succ, List.set_cons_zero, List.set_cons_succ, Nat.zero_add, reduceIte, Nat.reduceAdd, Nat.reduceEqDiff, Nat.reduceLeDiff, Nat.reduceLT, Int.reduceLT, Int.reduceLE, Int.reduceEq, Int.reduceBEq, Int.reduceAdd, Int.reduceSub, Int.reduceNeg, Int.reduceMul, Int.reduceMod, decide_true, decide_false, Bool.not_true, Bool.not_false, Bool.false_eq_true, Bool.true_eq_false, szc, sz0, Option.map_some, Option.isSome_some, and_self, and_true, true_and, gcF_same, oEq_int, oNe_int, oAdd_int, oSub_int, oLt_int, oLe_int, oGt_int, oGe_int, oIx_lst, oIx_tup, oNotN_e, oIsN_e, ne_eq, not_false_eq_true, not_true_eq_false, Int.natCast_succ, Int.cast_ofNat_Int, beq_self_eq_true, Bool.and_true, Bool.and_false, Bool.true_and, Bool.false_and, wi0, we00, we01, we02, we03, wi1, we10, we11, we12, we13, wi2, we20, we21, we22, we23, wi3, we30, we31, we32, we33, ln1, at10, ln2, at20, at21, ln3, at30, at31, at32, ln4, at40, at41, at42, at43]
    show fSeq (fIfS _ _ fNext) (fSeq (fIfS _ (fRet _) fNext) _) [some (.lst g), some Sp.mir.d, none, none, none, none] st = _
    rw [seq_e, ifS_e, t1, stB_ok, if_neg (by decide), next_e, seqK_nx, seq_e, ifS_e, t2, stB_ok, if_pos rfl, ret_e, hy, stB_ok, seqK_rt]
  · intro y hy
    obtain ⟨r, e, l⟩ := k.2 y hy
    subst e
    exact ⟨[some (.lst g), some Sp.mir.d, none, none, some (.tup r), none], .tup r.reverse, rfl, rfl, r.reverse, rfl, by rw [List.length_reverse, l]⟩
/-- is the side upright: as the law asks -/
theorem in_tb {s : Sd} : oIn s.d (.lst [.str "top", .str "bottom"]) = some (.bl (vert s)) := by cases s <;> rfl
def atTop : Sd → Bool
  | .top => true
  | _ => false
def atLeft : Sd → Bool
  | .left => true
  | _ => false
theorem eq_top {s : Sd} : oEq s.d (.str "top") = some (.bl (atTop s)) := by
  cases s <;> exact (oEq_str (by decide +kernel) (by decide +kernel)).trans (congrArg (fun b => some (D.bl b)) (by decide +kernel))
theorem eq_left {s : Sd} : oEq s.d (.str "left") = some (.bl (atLeft s)) := by
  cases s <;> exact (oEq_str (by decide +kernel) (by decide +kernel)).trans (congrArg (fun b => some (D.bl b)) (by decide +kernel))
theorem sub_isr {w : Nat} {g g' : List D} (h : ∀ y ∈ g, IsR w y) (s : ∀ y ∈ g', y ∈ g) : ∀ y ∈ g', IsR w y := fun y hy => h y (s y hy)
theorem oCut_l {g : List D} {a b : Option Int} : oCut (.lst g) a b = some (.lst (DL.cutD g a b)) := rfl
theorem oCut_t {g : List D} {a b : Option Int} : oCut (.tup g) a b = some (.tup (DL.cutD g a b)) := rfl
theorem sl_e {m : fE} {l h : fO} {ρ : Rho} : fSl m l h ρ st = (m ρ st).bind fun a st1 => (l ρ st1).bind fun i st2 => (h ρ st2).bind fun j st3 => optR (oCut a i j) st3 := rfl
theorem pn_e {ρ : Rho} : fPn ρ st = .ok none st := rfl
theorem ps1_e {ρ : Rho} : fPs (fC (.int 1)) ρ st = .ok (some 1) st := rfl
theorem psm_e {ρ : Rho} : fPs (fNeg (fC (.int 1))) ρ st = .ok (some (-1)) st := rfl
theorem after_cut {g : List D} {s : Sd} {h w : Nat} (k : IsG h w g) (hh : 1 ≤ h) (hw : 1 ≤ w) (h2 : h ≤ 1000) (w2 : w ≤ 1000) :
    match afterM (.cut s) h w with
    | none => e_l_after [.lst g, (Sp.cut s).d] st = .ok .non st
    | some q => ∃ g', IsG q.1 q.2 g' ∧ e_l_after [.lst g, (Sp.cut s).d] st = .ok (.lst g') st := by
  obtain ⟨r0, e0, l0⟩ := k.head hh
  have t1 : (fTest (fBin oEq (fBin oIx (fVar 1) (fC (.int 0))) (fC (.str "turn")))) [some (.lst g), some (Sp.cut s).d, none, none, none, none] st = .ok false st := by simp only [Sp.d, seq_e, seqK_nx, seqK_rt, ifS_e, stB_ok, bind_ok, test_e, blR_ok, not_e, and_e, or_e, andV_e, andK_t, andK_f, notV_e, notK_ok, if_e, nil_e, cons_e, lst_e, tup_e, fn_e, call_e, var_e, varK_ok, c_e, optR_ok, bin_e, drop_e, ret_e, set_e, asg_e, optS_ok, next_e, gn_e, gt_e, gc_e, gcK_ok, gl_e, isi_e, isC_e, fld_e, fldK_ins, neg_e, negK_ok, meth_e, methK_ins, meth0_e, meth0K_ins, make_e, opI_e, opIK_ok, List.append_nil, List.nil_append, List.length_cons, List.length_nil, List.map_cons, List.map_nil, List.cons_append, List.replicate_succ, List.replicate_zero, List.replicate, List.getElem?_cons_zero, List.getElem?_cons_succ, List.set_cons_zero, List.set_cons_succ, Nat.zero_add, reduceIte, Nat.reduceAdd, Nat.reduceEqDiff, Nat.reduceLeDiff, Nat.reduceLT, Int.reduceLT, Int.reduceLE, Int.reduceEq, Int.reduceBEq, Int.reduceAdd, Int.reduceSub, Int.reduceNeg, Int.reduceMul, Int.reduceMod, decide_true, decide_false, Bool.not_true, Bool.not_false, Bool.false_eq_true, Bool.true_eq_false, szc, sz0, Option.map_some, Option.isSome_some, and_self, and_true, true_and, gcF_same, oEq_int, oNe_int, oAdd_int, oSub_int, oLt_int, oLe_int, oGt_int, oGe_int, oIx_lst, oIx_tup, oNotN_e, oIsN_e, ne_eq, not_false_eq_true, not_true_eq_false, Int.natCast_succ, Int.cast_ofNat_Int, beq_self_eq_true, Bool.and_true, Bool.and_false, Bool.true_and, Bool.false_and, wi0, we00, we01, we02, we03, wi1, we10, we11, we12, we13, wi2, we20, we21, we22, we23, wi3, we30, we31, we32, we33, ln1, at10, ln2, at20, at21, ln3, at30, at31, at32, ln4, at40, at41, at42, at43]
  have t2 : (fTest (fBin oEq (fBin oIx (fVar 1) (fC (.int 0))) (fC (.str "mirror")))) [some (.lst g), some (Sp.cut s).d, none, none, none, none] st = .ok false st := by simp only [Sp.d, seq_e, seqK_nx, seqK_rt, ifS_e, stB_ok, bind_ok, test_e, blR_ok, not_e, and_e, or_e, andV_e, andK_t, andK_f, notV_e, notK_ok, if_e, nil_e, cons_e, lst_e, tup_e, fn_e, call_e, var_e, varK_ok, c_e, optR_ok, bin_e, drop_e, ret_e, set_e, asg_e, optS_ok, next_e, gn_e, gt_e, gc_e, gcK_ok, gl_e, isi_e, isC_e, fld_e, fldK_ins, neg_e, negK_ok, meth_e, methK_ins, meth0_e, meth0K_ins, make_e, opI_e, opIK_ok, List.append_nil, List.nil_append, List.length_cons, List.length_nil, List.map_cons, List.map_nil, List.cons_append, List.replicate_succ, List.replicate_zero, List.replicate, List.getElem?_cons_zero, List.getElem?_cons_succ, List.set_cons_zero, List.set_cons_succ, Nat.zero_add, reduceIte, Nat.reduceAdd, Nat.reduceEqDiff, Nat.reduceLeDiff, Nat.reduceLT, Int.reduceLT, Int.reduceLE, Int.reduceEq, Int.reduceBEq, Int.reduceAdd, Int.reduceSub, Int.reduceNeg, Int.reduceMul, Int.reduceMod, decide_true, decide_false, Bool.not_true, Bool.not_false, Bool.false_eq_true, Bool.true_eq_false, szc, sz0, Option.map_some, Option.isSome_some, and_self, and_true, true_and, gcF_same, oEq_int, oNe_int, oAdd_int, oSub_int, oLt_int, oLe_int, oGt_int, oGe_int, oIx_lst, oIx_tup, oNotN_e, oIsN_e, ne_eq, not_false_eq_true, not_true_eq_false, Int.natCast_succ, Int.cast_ofNat_Int, beq_self_eq_true, Bool.and_true, Bool.and_false, Bool.true_and, Bool.false_and, wi0, we00, we01, we02, we03, wi1, we10, we11, we12, we13, wi2, we20, we21, we22, we23, wi3, we30, we31, we32, we33, ln1, at10, ln2, at20, at21, ln3, at30, at31, at32, ln4, at40, at41, at42, at43]
  have t3 : (fSet 2 (fBin oIx (fVar 1) (fC (.int 1)))) [some (.lst g), some (Sp.cut s).d, none, none, none, none] st = .nx [some (.lst g), some (Sp.cut s).d, some s.d, none, none, none] st := by simp only [Sp.d, seq_e, seqK_nx, seqK_rt, ifS_e, stB_ok, bind_ok, test_e, blR_ok, not_e, and_e, or_e, andV_e, andK_t, andK_f, notV_e, notK_ok, if_e, nil_e, cons_e, lst_e, tup_e, fn_e, call_e, var_e, varK_ok, c_e, optR_ok, bin_e, drop_e, ret_e, set_e, asg_e, optS_ok, next_e, gn_e, gt_e, gc_e, gcK_ok, gl_e, isi_e, isC_e, fld_e, fldK_ins, neg_e, negK_ok, meth_e, methK_ins, meth0_e, meth0K_ins, make_e, opI_e, opIK_ok, List.append_nil, List.nil_append, List.length_cons, List.length_nil, List.map_cons, List.map_nil, List.cons_append, List.replicate_succ, List.replicate_zero, List.replicate, List.getElem?_cons_zero, List.getElem?_cons_succ, List.set_cons_zero, List.set_cons_succ, Nat.zero_add, reduceIte, Nat.reduceAdd, Nat.reduceEqDiff, Nat.reduceLeDiff, Nat.reduceLT, Int.reduceLT, Int.reduceLE, Int.reduceEq, Int.reduceBEq, Int.reduceAdd, Int.reduceSub, Int.reduceNeg, Int.reduceMul, Int.reduceMod, decide_true, decide_false, Bool.not_true, Bool.not_false, Bool.false_eq_true, Bool.true_eq_false, szc, sz0, Option.map_some, Option.isSome_some, and_self, and_true, true_and, gcF_same, oEq_int, oNe_int, oAdd_int, oSub_int, oLt_int, oLe_int, oGt_int, oGe_int, oIx_lst, oIx_tup, oNotN_e, oIsN_e, ne_eq, not_false_eq_true, not_true_eq_false, Int.natCast_succ, Int.cast_ofNat_Int, beq_self_eq_true, Bool.and_true, Bool.and_false, Bool.true_and, Bool.false_and, wi0, we00, we01, we02, we03, wi1, we10, we11, we12, we13, wi2, we20, we21, we22, we23, wi3, we30, we31, we32, we33, ln1, at10, ln2, at20, at21, ln3, at30, at31, at32, ln4, at40, at41, at42, at43]
  have t4 : (fTest (fBin oEq (fBin oIx (fVar 1) (fC (.int 0))) (fC (.str "cut")))) [some (.lst g), some (Sp.cut s).d, some s.d, none, none, none] st = .ok true st := by simp only [Sp.d, seq_e, seqK_nx, seqK_rt, ifS_e, stB_ok, bind_ok, test_e, blR_ok, not_e, and_e, or_e, andV_e, andK_t, andK_f, notV_e, notK_ok, if_e, nil_e, cons_e, lst_e, tup_e, fn_e, call_e, var_e, varK_ok, c_e, optR_ok, bin_e, drop_e, ret_e, set_e, asg_e, optS_ok, next_e, gn_e, gt_e, gc_e, gcK_ok, gl_e, isi_e, isC_e, fld_e, fldK_ins, neg_e, negK_ok, meth_e, methK_ins, meth0_e, meth0K_ins, make_e, opI_e, opIK_ok, List.append_nil, List.nil_append, List.length_cons, List.length_nil, List.map_cons, List.map_nil, List.cons_append, List.replicate_succ, List.replicate_zero, List.replicate, List.getElem?_cons_zero, List.getElem?_cons_succ, List.set_cons_zero, List.set_cons_succ, Nat.zero_add, reduceIte, Nat.reduceAdd, Nat.reduceEqDiff, Nat.reduceLeDiff, Nat.reduceLT, Int.reduceLT, Int.reduceLE, Int.reduceEq, Int.reduceBEq, Int.reduceAdd, Int.reduceSub, Int.reduceNeg, Int.reduceMul, Int.reduceMod, decide_true, decide_false, Bool.not_true, Bool.not_false, Bool.false_eq_true, Bool.true_eq_false, szc, sz0, Option.map_some, Option.isSome_some, and_self, and_true, true_and, gcF_same, oEq_int, oNe_int, oAdd_int, oSub_int, oLt_int, oLe_int, oGt_int, oGe_int, oIx_lst, oIx_tup, oNotN_e, oIsN_e, ne_eq, not_false_eq_true, not_true_eq_false, Int.natCast_succ, Int.cast_ofNat_Int, beq_self_eq_true, Bool.and_true, Bool.and_false, Bool.true_and, Bool.false_and, wi0, we00, we01, we02, we03, wi1, we10, we11, we12, we13, wi2, we20, we21, we22, we23, wi3, we30, we31, we32, we33, ln1, at10, ln2, at20, at21, ln3, at30, at31, at32, ln4, at40, at41, at42, at43]
  have t5 : (fTest (fBin oEq (fIf (fTest (fBin oIn (fVar 2) (fLst (fCons (fC (.str "top")) (fCons (fC (.str "bottom")) fNil))))) (fFn lLen (fCons (fVar 0) fNil)) (fFn lLen (fCons (fBin oIx (fVar 0) (fC (.int 0))) fNil))) (fC (.int 1)))) [some (.lst g), some (Sp.cut s).d, some s.d, none, none, none] st = .ok (decide ((if vert s = true then h else w) = 1)) st := by
    have z1 : (((h : Nat) : Int) == 1) = decide (h = 1) := by
      rw [Bool.eq_iff_iff]
      simp
      omega
    have z2 : (((w : Nat) : Int) == 1) = decide (w = 1) := by
      rw [Bool.eq_iff_iff]
      simp
      omega
    cases hv : vert s
    · simp only [seq_e, seqK_nx, seqK_rt, ifS_e, stB_ok, bind_ok, test_e, blR_ok, not_e, and_e, or_e, andV_e, andK_t, andK_f, notV_e, notK_ok, if_e, nil_e, cons_e, lst_e, tup_e, fn_e, call_e, var_e, varK_ok, c_e, optR_ok, bin_e, drop_e, ret_e, set_e, asg_e, optS_ok, next_e, gn_e, gt_e, gc_e, gcK_ok, gl_e, isi_e, isC_e, fld_e, fldK_ins, neg_e, negK_ok, meth_e, methK_ins, meth0_e, meth0K_ins, make_e, opI_e, opIK_ok, List.append_nil, List.nil_append, List.length_cons, List.length_nil, List.map_cons, List.map_nil, List.cons_append, List.replicate_succ, List.replicate_zero, List.replicate, List.getElem?_cons_zero, List.getElem?_cons_succ, List.set_cons_zero, List.set_cons_succ, Nat.zero_add, reduceIte, Nat.reduceAdd, Nat.reduceEqDiff, Nat.reduceLeDiff, Nat.reduceLT, Int.reduceLT, Int.reduceLE, Int.reduceEq, Int.reduceBEq, Int.reduceAdd, Int.reduceSub, Int.reduceNeg, Int.reduceMul, Int.reduceMod, decide_true, decide_false, Bool.not_true, Bool.not_false, Bool.false_eq_true, Bool.true_eq_false, szc, sz0, Option.map_some, Option.isSome_some, and_self, and_true, true_and, gcF_same, oEq_int, oNe_int, oAdd_int, oSub_int, oLt_int, oLe_int, oGt_int, oGe_int, oIx_lst, oIx_tup, oNotN_e, oIsN_e, ne_eq, not_false_eq_true, not_true_eq_false, Int.natCast_succ, Int.cast_ofNat_Int, beq_self_eq_true, Bool.and_true, Bool.and_false, Bool.true_and, Bool.false_and, wi0, we00, we01, we02, we03, wi1, we10, we11, we12, we13, wi2, we20, we21, we22, we23, wi3, we30, we31, we32, we33, ln1, at10, ln2, at20, at21, ln3, at30, at31, at32, ln4, at40, at41, at42, at43, in_tb, hv, e0, ll_tup, l0, z2]
    · simp only [seq_e, seqK_nx, seqK_rt, ifS_e, stB_ok, bind_ok, test_e, blR_ok, not_e, and_e, or_e, andV_e, andK_t, andK_f, notV_e, notK_ok, if_e, nil_e, cons_e, lst_e, tup_e, fn_e, call_e, var_e, varK_ok, c_e, optR_ok, bin_e, drop_e, ret_e, set_e, asg_e, optS_ok, next_e, gn_e, gt_e, gc_e, gcK_ok, gl_e, isi_e, isC_e, fld_e, fldK_ins, neg_e, negK_ok, meth_e, methK_ins, meth0_e, meth0K_ins, make_e, opI_e, opIK_ok, List.append_nil, List.nil_append, List.length_cons, List.length_nil, List.map_cons, List.map_nil, List.cons_append, List.replicate_succ, List.replicate_zero, List.replicate, List.getElem?_cons_zero, List.getElem?_cons_succ, List.set_cons_zero, List.set_cons_succ, Nat.zero_add, reduceIte, Nat.reduceAdd, Nat.reduceEqDiff, Nat.reduceLeDiff, Nat.reduceLT, Int.reduceLT, Int.reduceLE, Int.reduceEq, Int.reduceBEq, Int.reduceAdd, Int.reduceSub, Int.reduceNeg, Int.reduceMul, Int.reduceMod, decide_true, decide_false, Bool.not_true, Bool.not_false, Bool.false_eq_true, Bool.true_eq_false, szc, sz0, Option.map_some, Option.isSome_some, and_self, and_true, true_and, gcF_same, oEq_int, oNe_int, oAdd_int, oSub_int, oLt_int, oLe_int, oGt_int, oGe_int, oIx_lst, oIx_tup, oNotN_e, oIsN_e, ne_eq, not_false_eq_true, not_true_eq_false, Int.natCast_succ, Int.cast_ofNat_Int, beq_self_eq_true, Bool.and_true, Bool.and_false, Bool.true_and, Bool.false_and, wi0, we00, we01, we02, we03, wi1, we10, we11, we12, we13, wi2, we20, we21, we22, we23, wi3, we30, we31, we32, we33, ln1, at10, ln2, at20, at21, ln3, at30, at31, at32, ln4, at40, at41, at42, at43, in_tb, hv, ll_lst, k.1, z1]
  have t6 : (fTest (fBin oIn (fVar 2) (fLst (fCons (fC (.str "top")) (fCons (fC (.str "bottom")) fNil))))) [some (.lst g), some (Sp.cut s).d, some s.d, none, none, none] st = .ok (vert s) st := by simp only [seq_e, seqK_nx, seqK_rt, ifS_e, stB_ok, bind_ok, test_e, blR_ok, not_e, and_e, or_e, andV_e, andK_t, andK_f, notV_e, notK_ok, if_e, nil_e, cons_e, lst_e, tup_e, fn_e, call_e, var_e, varK_ok, c_e, optR_ok, bin_e, drop_e, ret_e, set_e, asg_e, optS_ok, next_e, gn_e, gt_e, gc_e, gcK_ok, gl_e, isi_e, isC_e, fld_e, fldK_ins, neg_e, negK_ok, meth_e, methK_ins, meth0_e, meth0K_ins, make_e, opI_e, opIK_ok, List.append_nil, List.nil_append, List.length_cons, List.length_nil, List.map_cons, List.map_nil, List.cons_append, List.replicate_succ, List.replicate_zero, List.replicate, List.getElem?_cons_zero, List.getElem?_cons_succ, List.set_cons_zero, List.set_cons_succ, Nat.zero_add, reduceIte, Nat.reduceAdd, Nat.reduceEqDiff, Nat.reduceLeDiff, Nat.reduceLT, Int.reduceLT, Int.reduceLE, Int.reduceEq, Int.reduceBEq, Int.reduceAdd, Int.reduceSub, Int.reduceNeg, Int.reduceMul, Int.reduceMod, decide_true, decide_false, Bool.not_true, Bool.not_false, Bool.false_eq_true, Bool.true_eq_false, szc, sz0, Option.map_some, Option.isSome_some, and_self, and_true, true_and, gcF_same, oEq_int, oNe_int, oAdd_int, oSub_int, oLt_int, oLe_int, oGt_int, oGe_int, oIx_lst, oIx_tup, oNotN_e, oIsN_e, ne_eq, not_false_eq_true, not_true_eq_false, Int.natCast_succ, Int.cast_ofNat_Int, beq_self_eq_true, Bool.and_true, Bool.and_false, Bool.true_and, Bool.false_and, wi0, we00, we01, we02, we03, wi1, we10, we11, we12, we13, wi2, we20, we21, we22, we23, wi3, we30, we31, we32, we33, ln1, at10, ln2, at20, at21, ln3, at30, at31, at32, ln4, at40, at41, at42, at43, in_tb]
  have go : ∀ d, (fSeq (fIfS (fTest (fBin oEq (fIf (fTest (fBin oIn (fVar 2) (fLst (fCons (fC (.str "top")) (fCons (fC (.str "bottom")) fNil))))) (fFn lLen (fCons (fVar 0) fNil)) (fFn lLen (fCons (fBin oIx (fVar 0) (fC (.int 0))) fNil))) (fC (.int 1)))) (fRet (fC .non)) fNext) (fSeq (fIfS (fTest (fBin oIn (fVar 2) (fLst (fCons (fC (.str "top")) (fCons (fC (.str "bottom")) fNil))))) (fRet (fIf (fTest (fBin oEq (fVar 2) (fC (.str "top")))) (fSl (fVar 0) (fPs (fC (.int 1))) fPn) (fSl (fVar 0) fPn (fPs (fNeg (fC (.int 1))))))) fNext) (fRet (fLc (iSq (fVar 0)) (fGn 4) fYes (fIf (fTest (fBin oEq (fVar 2) (fC (.str "left")))) (fSl (fVar 4) (fPs (fC (.int 1))) fPn) (fSl (fVar 4) fPn (fPs (fNeg (fC (.int 1)))))) [4])))) [some (.lst g), some (Sp.cut s).d, some s.d, none, none, none] st = .rt d st → e_l_after [.lst g, (Sp.cut s).d] st = .ok d st := fun d hd => by
    unfold e_l_after
    refine body_rt0 ?_
    show fSeq (fIfS _ _ fNext) (fSeq (fIfS _ _ fNext) (fSeq (fSet 2 _) (fSeq (fIfS _ _ fNext) _))) [some (.lst g), some (Sp.cut s).d, none, none, none, none] st = _
    rw [seq_e, ifS_e, t1, stB_ok, if_neg (by decide), next_e, seqK_nx, seq_e, ifS_e, t2, stB_ok, if_neg (by decide), next_e, seqK_nx, seq_e, t3, seqK_nx, seq_e, ifS_e, t4, stB_ok, if_pos rfl, hd, seqK_rt]
  cases hv : vert s with
  | true =>
    rw [hv] at t5 t6
    by_cases q : h = 1
    · simp only [afterM, hv, if_pos q, if_true]
      refine go _ ?_
      rw [seq_e, ifS_e, t5, stB_ok, if_pos (by simp [q]), ret_e, c_e, stB_ok, seqK_rt]
    · simp only [afterM, hv, if_neg q, if_true]
      have pre : ∀ g', (fIf (fTest (fBin oEq (fVar 2) (fC (.str "top")))) (fSl (fVar 0) (fPs (fC (.int 1))) fPn) (fSl (fVar 0) fPn (fPs (fNeg (fC (.int 1)))))) [some (.lst g), some (Sp.cut s).d, some s.d, none, none, none] st = .ok (.lst g') st → e_l_after [.lst g, (Sp.cut s).d] st = .ok (.lst g') st := fun g' hg => by
        refine go _ ?_
        rw [seq_e, ifS_e, t5, stB_ok, if_neg (by simp [q]), next_e, seqK_nx, seq_e, ifS_e, t6, stB_ok, if_pos rfl, ret_e, hg, stB_ok, seqK_rt]
      cases ht : atTop s with
      | true =>
        refine ⟨g.drop 1, ⟨by rw [List.length_drop, k.1], sub_isr k.2 fun y hy => List.mem_of_mem_drop hy⟩, pre _ ?_⟩
        simp only [seq_e, seqK_nx, seqK_rt, ifS_e, stB_ok, bind_ok, test_e, blR_ok, not_e, and_e, or_e, andV_e, andK_t, andK_f, notV_e, notK_ok, if_e, nil_e, cons_e, lst_e, tup_e, fn_e, call_e, var_e, varK_ok, c_e, optR_ok, bin_e, drop_e, ret_e, set_e, asg_e, optS_ok, next_e, gn_e, gt_e, gc_e, gcK_ok, gl_e, isi_e, isC_e, fld_e, fldK_ins, neg_e, negK_ok, meth_e, methK_ins, meth0_e, meth0K_ins, make_e, opI_e, opIK_ok, List.append_nil, List.nil_append, List.length_cons, List.length_nil, List.map_cons, List.map_nil, List.cons_append, List.replicate_succ, List.replicate_zero, List.replicate, List.getElem?_cons_zero, List.getElem?_cons_succ, List.set_cons_zero, List.set_cons_succ, Nat.zero_add, reduceIte, Nat.reduceAdd, Nat.reduceEqDiff, Nat.reduceLeDiff, Nat.reduceLT, Int.reduceLT, Int.reduceLE, Int.reduceEq, Int.reduceBEq, Int.reduceAdd, Int.reduceSub, Int.reduceNeg, Int.reduceMul, Int.reduceMod, decide_true, decide_false, Bool.not_true, Bool.not_false, Bool.false_eq_true, Bool.true_eq_false, szc, sz0, Option.map_some, Option.isSome_some, and_self, and_true, true_and, gcF_same, oEq_int, oNe_int, oAdd_int, oSub_int, oLt_int, oLe_int, oGt_int, oGe_int, oIx_lst, oIx_tup, oNotN_e, oIsN_e, ne_eq, not_false_eq_true, not_true_eq_false, Int.natCast_succ, Int.cast_ofNat_Int, beq_self_eq_true, Bool.and_true, Bool.and_false, Bool.true_and, Bool.false_and, wi0, we00, we01, we02, we03, wi1, we10, we11, we12, we13, wi2, we20, we21, we22, we23, wi3, we30, we31, we32, we33, ln1, at10, ln2, at20, at21, ln3, at30, at31, at32, ln4, at40, at41, at42, at43, eq_top, ht, sl_e, pn_e, ps1_e, oCut_l, cut_first]
      | false =>
        refine ⟨g.take (g.length - 1), ⟨by rw [List.length_take, k.1]; omega, sub_isr k.2 fun y hy => List.mem_of_mem_take hy⟩, pre _ ?_⟩
        simp only [seq_e, seqK_nx, seqK_rt, ifS_e, stB_ok, bind_ok, test_e, blR_ok, not_e, and_e, or_e, andV_e, andK_t, andK_f, notV_e, notK_ok, if_e, nil_e, cons_e, lst_e, tup_e, fn_e, call_e, var_e, varK_ok, c_e, optR_ok, bin_e, drop_e, ret_e, set_e, asg_e, optS_ok, next_e, gn_e, gt_e, gc_e, gcK_ok, gl_e, isi_e, isC_e, fld_e, fldK_ins, neg_e, negK_ok, meth_e, methK_ins, meth0_e, meth0K_ins, make_e, opI_e, opIK_ok, List.append_nil, List.nil_append, List.length_cons, List.length_nil, List.map_cons, List.map_nil, List.cons_append, List.replicate_succ, List.replicate_zero, List.replicate, List.getElem?_cons_zero, List.getElem?_cons_succ, List.set_cons_zero, List.set_cons_succ, Nat.zero_add, reduceIte, Nat.reduceAdd, Nat.reduceEqDiff, Nat.reduceLeDiff, Nat.reduceLT, Int.reduceLT, Int.reduceLE, Int.reduceEq, Int.reduceBEq, Int.reduceAdd, Int.reduceSub, Int.reduceNeg, Int.reduceMul, Int.reduceMod, decide_true, decide_false, Bool.not_true, Bool.not_false, Bool.false_eq_true, Bool.true_eq_false, szc, sz0, Option.map_some, Option.isSome_some, and_self, and_true, true_and, gcF_same, oEq_int, oNe_int, oAdd_int, oSub_int, oLt_int, oLe_int, oGt_int, oGe_int, oIx_lst, oIx_tup, oNotN_e, oIsN_e, ne_eq, not_false_eq_true, not_true_eq_false, Int.natCast_succ, Int.cast_ofNat_Int, beq_self_eq_true, Bool.and_true, Bool.and_false, Bool.true_and, Bool.false_and, wi0, we00, we01, we02, we03, wi1, we10, we11, we12, we13, wi2, we20, we21, we22, we23, wi3, we30, we31, we32, we33, ln1, at10, ln2, at20, at21, ln3, at30, at31, at32, ln4, at40, at41, at42, at43, eq_top, ht, sl_e, pn_e, psm_e, oCut_l, cut_last (r := g) (by rw [k.1]; exact hh)]
  | false =>
    rw [hv] at t5 t6
    by_cases q : w = 1
    · simp only [afterM, hv, if_pos q, Bool.false_eq_true, if_false]
      refine go _ ?_
      rw [seq_e, ifS_e, t5, stB_ok, if_pos (by simp [q]), ret_e, c_e, stB_ok, seqK_rt]
    · simp only [afterM, hv, if_neg q, Bool.false_eq_true, if_false]
      have hL := lc_e (st := st) (ρ := [some (.lst g), some (Sp.cut s).d, some s.d, none, none, none]) (ds := g) (it := iSq (fVar 0)) (g := fGn 4) (m := fIf (fTest (fBin oEq (fVar 2) (fC (.str "left")))) (fSl (fVar 4) (fPs (fC (.int 1))) fPn) (fSl (fVar 4) fPn (fPs (fNeg (fC (.int 1)))))) (vs := [4]) (Q := IsR (w - 1)) rfl ?_ (by rw [k.1]; omega)
      · obtain ⟨ys, hy, ly, qy⟩ := hL
        refine ⟨ys, ⟨by rw [ly, k.1], qy⟩, go _ ?_⟩
        rw [seq_e, ifS_e, t5, stB_ok, if_neg (by simp [q]), next_e, seqK_nx, seq_e, ifS_e, t6, stB_ok, if_neg (by decide), next_e, seqK_nx, ret_e, hy, stB_ok]
      · intro y hy
        obtain ⟨r, e, l⟩ := k.2 y hy
        subst e
        cases ht : atLeft s with
        | true =>
          refine ⟨[some (.lst g), some (Sp.cut s).d, some s.d, none, some (.tup r), none], .tup (r.drop 1), rfl, ?_, r.drop 1, rfl, by rw [List.length_drop, l]⟩
          simp only [seq_e, seqK_nx, seqK_rt, ifS_e, stB_ok, bind_ok, test_e, blR_ok, not_e, and_e, or_e, andV_e, andK_t, andK_f, notV_e, notK_ok, if_e, nil_e, cons_e, lst_e, tup_e, fn_e, call_e, var_e, varK_ok, c_e, optR_ok, bin_e, drop_e, ret_e, set_e, asg_e, optS_ok, next_e, gn_e, gt_e, gc_e, gcK_ok, gl_e, isi_e, isC_e, fld_e, fldK_ins, neg_e, negK_ok, meth_e, methK_ins, meth0_e, meth0K_ins, make_e, opI_e, opIK_ok, List.append_nil, List.nil_append, List.length_cons, List.length_nil, List.map_cons, List.map_nil, List.cons_append, List.replicate_succ, List.replicate_zero, List.replicate, List.getElem?_cons_zero, List.getElem?_cons_succ, List.set_cons_zero, List.set_cons_succ, Nat.zero_add, reduceIte, Nat.reduceAdd, Nat.reduceEqDiff, Nat.reduceLeDiff, Nat.reduceLT, Int.reduceLT, Int.reduceLE, Int.reduceEq, Int.reduceBEq, Int.reduceAdd, Int.reduceSub, Int.reduceNeg, Int.reduceMul, Int.reduceMod, decide_true, decide_false, Bool.not_true, Bool.not_false, Bool.false_eq_true, Bool.true_eq_false, szc, sz0, Option.map_some, Option.isSome_some, and_self, and_true, true_and, gcF_same, oEq_int, oNe_int, oAdd_int, oSub_int, oLt_int, oLe_int, oGt_int, oGe_int, oIx_lst, oIx_tup, oNotN_e, oIsN_e, ne_eq, not_false_eq_true, not_true_eq_false, Int.natCast_succ, Int.cast_ofNat_Int, beq_self_eq_true, Bool.and_true, Bool.and_false, Bool.true_and, Bool.false_and, wi0, we00, we01, we02, we03, wi1, we10, we11, we12, we13, wi2, we20, we21, we22, we23, wi3, we30, we31, we32, we33, ln1, at10, ln2, at20, at21, ln3, at30, at31, at32, ln4, at40, at41, at42, at43, eq_left, ht, sl_e, pn_e, ps1_e, oCut_t, cut_first]
        | false =>
          refine ⟨[some (.lst g), some (Sp.cut s).d, some s.d, none, some (.tup r), none], .tup (r.take (r.length - 1)), rfl, ?_, r.take (r.length - 1), rfl, by rw [List.length_take, l]; omega⟩
          simp only [seq_e, seqK_nx, seqK_rt, ifS_e, stB_ok, bind_ok, test_e, blR_ok, not_e, and_e, or_e, andV_e, andK_t, andK_f, notV_e, notK_ok, if_e, nil_e, cons_e, lst_e, tup_e, fn_e, call_e, var_e, varK_ok, c_e, optR_ok, bin_e, drop_e, ret_e, set_e, asg_e, optS_ok, next_e, gn_e, gt_e, gc_e, gcK_ok, gl_e, isi_e, isC_e, fld_e, fldK_ins, neg_e, negK_ok, meth_e, methK_ins, meth0_e, meth0K_ins, make_e, opI_e, opIK_ok, List.append_nil, List.nil_append, List.length_cons, List.length_nil, List.map_cons, List.map_nil, List.cons_append, List.replicate_succ, List.replicate_zero, List.replicate, List.getElem?_cons_zero, List.getElem?_cons_succ, List.set_cons_zero, List.set_cons_succ, Nat.zero_add, reduceIte, Nat.reduceAdd, Nat.reduceEqDiff, Nat.reduceLeDiff, Nat.reduceLT, Int.reduceLT, Int.reduceLE, Int.reduceEq, Int.reduceBEq, Int.reduceAdd, Int.reduceSub, Int.reduceNeg, Int.reduceMul, Int.reduceMod, decide_true, decide_false, Bool.not_true, Bool.not_false, Bool.false_eq_true, Bool.true_eq_false, szc, sz0, Option.map_some, Option.isSome_some, and_self, and_true, true_and, gcF_same, oEq_int, oNe_int, oAdd_int, oSub_int, oLt_int, oLe_int, oGt_int, oGe_int, oIx_lst, oIx_tup, oNotN_e, oIsN_e, ne_eq, not_false_eq_true, not_true_eq_false, Int.natCast_succ, Int.cast_ofNat_Int, beq_self_eq_true, Bool.and_true, Bool.and_false, Bool.true_and, Bool.false_and, wi0, we00, we01, we02, we03, wi1, we10, we11, we12, we13, wi2, we20, we21, we22, we23, wi3, we30, we31, we32, we33, ln1, at10, ln2, at20, at21, ln3, at30, at31, at32, ln4, at40, at41, at42, at43, eq_left, ht, sl_e, pn_e, psm_e, oCut_t, cut_last (r := r) (by rw [l]; exact hw)]
end K51

set_option Elab.async false
set_option linter.all false
set_option maxRecDepth 100000
set_option maxHeartbeats 4000000
namespace K51
open PySem PySem.Spec PyProof.Rows L2 DL FL
variable {st : FL.St}
theorem oAdd_l {x y : List D} (h : x.length + y.length ≤ 100000) : oAdd (.lst x) (.lst y) = some (.lst (x ++ y)) := by
  show (if x.length + y.length ≤ sizeLine then _ else _) = _
  rw [if_pos (by rw [sizeLine_e]; omega)]
theorem oAdd_t {x y : List D} (h : x.length + y.length ≤ 100000) : oAdd (.tup x) (.tup y) = some (.tup (x ++ y)) := by
  show (if x.length + y.length ≤ sizeLine then _ else _) = _
  rw [if_pos (by rw [sizeLine_e]; omega)]
theorem after_add {g : List D} {s : Sd} {c : Nat} {h w : Nat} (k : IsG h w g) (hh : 1 ≤ h) (hw : 1 ≤ w) (h2 : h ≤ 1000) (w2 : w ≤ 1000) :
    ∃ g', IsG (if vert s = true then h + 1 else h) (if vert s = true then w else w + 1) g' ∧ e_l_after [.lst g, (Sp.add s c).d] st = .ok (.lst g') st := by
  obtain ⟨r0, e0, l0⟩ := k.head hh
  obtain ⟨rl, el, ll⟩ := mul1_row (c := .int ((c : Nat) : Int)) hw w2
  have t1 : (fTest (fBin oEq (fBin oIx (fVar 1) (fC (.int 0))) (fC (.str "turn")))) [some (.lst g), some (Sp.add s c).d, none, none, none, none] st = .ok false st := by simp only [Sp.d, seq_e, seqK_nx, seqK_rt, ifS_e, stB_ok, bind_ok, test_e, blR_ok, not_e, and_e, or_e, andV_e, andK_t, andK_f, notV_e, notK_ok, if_e, nil_e, cons_e, lst_e, tup_e, fn_e, call_e, var_e, varK_ok, c_e, optR_ok, bin_e, drop_e, ret_e, set_e, asg_e, optS_ok, next_e, gn_e, gt_e, gc_e, gcK_ok, gl_e, isi_e, isC_e, fld_e, fldK_ins, neg_e, negK_ok, meth_e, methK_ins, meth0_e, meth0K_ins, make_e, opI_e, opIK_ok, List.append_nil, List.nil_append, List.length_cons, List.length_nil, List.map_cons, List.map_nil, List.cons_append, List.replicate_succ, List.replicate_zero, List.replicate, List.getElem?_cons_zero, List.getElem?_cons_succ, List.set_cons_zero, List.set_cons_succ, Nat.zero_add, reduceIte, Nat.reduceAdd, Nat.reduceEqDiff, Nat.reduceLeDiff, Nat.reduceLT, Int.reduceLT, Int.reduceLE, Int.reduceEq, Int.reduceBEq, Int.reduceAdd, Int.reduceSub, Int.reduceNeg, Int.reduceMul, Int.reduceMod, decide_true, decide_false, Bool.not_true, Bool.not_false, Bool.false_eq_true, Bool.true_eq_false, szc, sz0, Option.map_some, Option.isSome_some, and_self, and_true, true_and, gcF_same, oEq_int, oNe_int, oAdd_int, oSub_int, oLt_int, oLe_int, oGt_int, oGe_int, oIx_lst, oIx_tup, oNotN_e, oIsN_e, ne_eq, not_false_eq_true, not_true_eq_false, Int.natCast_succ, Int.cast_ofNat_Int, beq_self_eq_true, Bool.and_true, Bool.and_false, Bool.true_and, Bool.false_and, wi0, we00, we01, we02, we03, wi1, we10, we11, we12, we13, wi2, we20, we21, we22, we23, wi3, we30, we31, we32, we33, ln1, at10, ln2, at20, at21, ln3, at30, at31, at32, ln4, at40, at41, at42, at43]
  have t2 : (fTest (fBin oEq (fBin oIx (fVar 1) (fC (.int 0))) (fC (.str "mirror")))) [some (.lst g), some (Sp.add s c).d, none, none, none, none] st = .ok false st := by simp only [Sp.d, seq_e, seqK_nx, seqK_rt, ifS_e, stB_ok, bind_ok, test_e, blR_ok, not_e, and_e, or_e, andV_e, andK_t, andK_f, notV_e, notK_ok, if_e, nil_e, cons_e, lst_e, tup_e, fn_e, call_e, var_e, varK_ok, c_e, optR_ok, bin_e, drop_e, ret_e, set_e, asg_e, optS_ok, next_e, gn_e, gt_e, gc_e, gcK_ok, gl_e, isi_e, isC_e, fld_e, fldK_ins, neg_e, negK_ok, meth_e, methK_ins, meth0_e, meth0K_ins, make_e, opI_e, opIK_ok, List.append_nil, List.nil_append, List.length_cons, List.length_nil, List.map_cons, List.map_nil, List.cons_append, List.replicate_succ, List.replicate_zero, List.replicate, List.getElem?_cons_zero, List.getElem?_cons_succ, List.set_cons_zero, List.set_cons_succ, Nat.zero_add, reduceIte, Nat.reduceAdd, Nat.reduceEqDiff, Nat.reduceLeDiff, Nat.reduceLT, Int.reduceLT, Int.reduceLE, Int.reduceEq, Int.reduceBEq, Int.reduceAdd, Int.reduceSub, Int.reduceNeg, Int.reduceMul, Int.reduceMod, decide_true, decide_false, Bool.not_true, Bool.not_false, Bool.false_eq_true, Bool.true_eq_false, szc, sz0, Option.map_some, Option.isSome_some, and_self, and_true, true_and, gcF_same, oEq_int, oNe_int, oAdd_int, oSub_int, oLt_int, oLe_int, oGt_int, oGe_int, oIx_lst, oIx_tup, oNotN_e, oIsN_e, ne_eq, not_false_eq_true, not_true_eq_false, Int.natCast_succ, Int.cast_ofNat_Int, beq_self_eq_true, Bool.and_true, Bool.and_false, Bool.true_and, Bool.false_and, wi0, we00, we01, we02, we03, wi1, we10, we11, we12, we13, wi2, we20, we21, we22, we23, wi3, we30, we31, we32, we33, ln1, at10, ln2, at20, at21, ln3, at30, at31, at32, ln4, at40, at41, at42, at43]
  have t3 : (fSet 2 (fBin oIx (fVar 1) (fC (.int 1)))) [some (.lst g), some (Sp.add s c).d, none, none, none, none] st = .nx [some (.lst g), some (Sp.add s c).d, some s.d, none, none, none] st := by simp only [Sp.d, seq_e, seqK_nx, seqK_rt, ifS_e, stB_ok, bind_ok, test_e, blR_ok, not_e, and_e, or_e, andV_e, andK_t, andK_f, notV_e, notK_ok, if_e, nil_e, cons_e, lst_e, tup_e, fn_e, call_e, var_e, varK_ok, c_e, optR_ok, bin_e, drop_e, ret_e, set_e, asg_e, optS_ok, next_e, gn_e, gt_e, gc_e, gcK_ok, gl_e, isi_e, isC_e, fld_e, fldK_ins, neg_e, negK_ok, meth_e, methK_ins, meth0_e, meth0K_ins, make_e, opI_e, opIK_ok, List.append_nil, List.nil_append, List.length_cons, List.length_nil, List.map_cons, List.map_nil, List.cons_append, List.replicate_succ, List.replicate_zero, List.replicate, List.getElem?_cons_zero, List.getElem?_cons_succ, List.set_cons_zero, List.set_cons_succ, Nat.zero_add, reduceIte, Nat.reduceAdd, Nat.reduceEqDiff, Nat.reduceLeDiff, Nat.reduceLT, Int.reduceLT, Int.reduceLE, Int.reduceEq, Int.reduceBEq, Int.reduceAdd, Int.reduceSub, Int.reduceNeg, Int.reduceMul, Int.reduceMod, decide_true, decide_false, Bool.not_true, Bool.not_false, Bool.false_eq_true, Bool.true_eq_false, szc, sz0, Option.map_some, Option.isSome_some, and_self, and_true, true_and, gcF_same, oEq_int, oNe_int, oAdd_int, oSub_int, oLt_int, oLe_int, oGt_int, oGe_int, oIx_lst, oIx_tup, oNotN_e, oIsN_e, ne_eq, not_false_eq_true, not_true_eq_false, Int.natCast_succ, Int.cast_ofNat_Int, beq_self_eq_true, Bool.and_true, Bool.and_false, Bool.true_and, Bool.false_and, wi0, we00, we01, we02, we03, wi1, we10, we11, we12, we13, wi2, we20, we21, we22, we23, wi3, we30, we31, we32, we33, ln1, at10, ln2, at20, at21, ln3, at30, at31, at32, ln4, at40, at41, at42, at43]
  have t4 : (fTest (fBin oEq (fBin oIx (fVar 1) (fC (.int 0))) (fC (.str "cut")))) [some (.lst g), some (Sp.add s c).d, some s.d, none, none, none] st = .ok false st := by simp only [Sp.d, seq_e, seqK_nx, seqK_rt, ifS_e, stB_ok, bind_ok, test_e, blR_ok, not_e, and_e, or_e, andV_e, andK_t, andK_f, notV_e, notK_ok, if_e, nil_e, cons_e, lst_e, tup_e, fn_e, call_e, var_e, varK_ok, c_e, optR_ok, bin_e, drop_e, ret_e, set_e, asg_e, optS_ok, next_e, gn_e, gt_e, gc_e, gcK_ok, gl_e, isi_e, isC_e, fld_e, fldK_ins, neg_e, negK_ok, meth_e, methK_ins, meth0_e, meth0K_ins, make_e, opI_e, opIK_ok, List.append_nil, List.nil_append, List.length_cons, List.length_nil, List.map_cons, List.map_nil, List.cons_append, List.replicate_succ, List.replicate_zero, List.replicate, List.getElem?_cons_zero, List.getElem?_cons_succ, List.set_cons_zero, List.set_cons_succ, Nat.zero_add, reduceIte, Nat.reduceAdd, Nat.reduceEqDiff, Nat.reduceLeDiff, Nat.reduceLT, Int.reduceLT, Int.reduceLE, Int.reduceEq, Int.reduceBEq, Int.reduceAdd, Int.reduceSub, Int.reduceNeg, Int.reduceMul, Int.reduceMod, decide_true, decide_false, Bool.not_true, Bool.not_false, Bool.false_eq_true, Bool.true_eq_false, szc, sz0, Option.map_some, Option.isSome_some, and_self, and_true, true_and, gcF_same, oEq_int, oNe_int, oAdd_int, oSub_int, oLt_int, oLe_int, oGt_int, oGe_int, oIx_lst, oIx_tup, oNotN_e, oIsN_e, ne_eq, not_false_eq_true, not_true_eq_false, Int.natCast_succ, Int.cast_ofNat_Int, beq_self_eq_true, Bool.and_true, Bool.and_false, Bool.true_and, Bool.false_and, wi0, we00, we01, we02, we03, wi1, we10, we11, we12, we13, wi2, we20, we21, we22, we23, wi3, we30, we31, we32, we33, ln1, at10, ln2, at20, at21, ln3, at30, at31, at32, ln4, at40, at41, at42, at43]
  have t5 : (fSet 3 (fBin oMul1 (fTup (fCons (fBin oIx (fVar 1) (fC (.int 2))) fNil)) (fFn lLen (fCons (fBin oIx (fVar 0) (fC (.int 0))) fNil)))) [some (.lst g), some (Sp.add s c).d, some s.d, none, none, none] st = .nx [some (.lst g), some (Sp.add s c).d, some s.d, some (.tup rl), none, none] st := by
    simp only [Sp.d, seq_e, seqK_nx, seqK_rt, ifS_e, stB_ok, bind_ok, test_e, blR_ok, not_e, and_e, or_e, andV_e, andK_t, andK_f, notV_e, notK_ok, if_e, nil_e, cons_e, lst_e, tup_e, fn_e, call_e, var_e, varK_ok, c_e, optR_ok, bin_e, drop_e, ret_e, set_e, asg_e, optS_ok, next_e, gn_e, gt_e, gc_e, gcK_ok, gl_e, isi_e, isC_e, fld_e, fldK_ins, neg_e, negK_ok, meth_e, methK_ins, meth0_e, meth0K_ins, make_e, opI_e, opIK_ok, List.append_nil, List.nil_append, List.length_cons, List.length_nil, List.map_cons, List.map_nil, List.cons_append, List.replicate_succ, List.replicate_zero, List.replicate, List.getElem?_cons_zero, List.getElem?_cons_succ, List.set_cons_zero, List.set_cons_succ, Nat.zero_add, reduceIte, Nat.reduceAdd, Nat.reduceEqDiff, Nat.reduceLeDiff, Nat.reduceLT, Int.reduceLT, Int.reduceLE, Int.reduceEq, Int.reduceBEq, Int.reduceAdd, Int.reduceSub, Int.reduceNeg, Int.reduceMul, Int.reduceMod, decide_true, decide_false, Bool.not_true, Bool.not_false, Bool.false_eq_true, Bool.true_eq_false, szc, sz0, Option.map_some, Option.isSome_some, and_self, and_true, true_and, gcF_same, oEq_int, oNe_int, oAdd_int, oSub_int, oLt_int, oLe_int, oGt_int, oGe_int, oIx_lst, oIx_tup, oNotN_e, oIsN_e, ne_eq, not_false_eq_true, not_true_eq_false, Int.natCast_succ, Int.cast_ofNat_Int, beq_self_eq_true, Bool.and_true, Bool.and_false, Bool.true_and, Bool.false_and, wi0, we00, we01, we02, we03, wi1, we10, we11, we12, we13, wi2, we20, we21, we22, we23, wi3, we30, we31, we32, we33, ln1, at10, ln2, at20, at21, ln3, at30, at31, at32, ln4, at40, at41, at42, at43, e0, ll_tup, l0, el]
  have t6 : (fTest (fBin oIn (fVar 2) (fLst (fCons (fC (.str "top")) (fCons (fC (.str "bottom")) fNil))))) [some (.lst g), some (Sp.add s c).d, some s.d, some (.tup rl), none, none] st = .ok (vert s) st := by simp only [seq_e, seqK_nx, seqK_rt, ifS_e, stB_ok, bind_ok, test_e, blR_ok, not_e, and_e, or_e, andV_e, andK_t, andK_f, notV_e, notK_ok, if_e, nil_e, cons_e, lst_e, tup_e, fn_e, call_e, var_e, varK_ok, c_e, optR_ok, bin_e, drop_e, ret_e, set_e, asg_e, optS_ok, next_e, gn_e, gt_e, gc_e, gcK_ok, gl_e, isi_e, isC_e, fld_e, fldK_ins, neg_e, negK_ok, meth_e, methK_ins, meth0_e, meth0K_ins, make_e, opI_e, opIK_ok, List.append_nil, List.nil_append, List.length_cons, List.length_nil, List.map_cons, List.map_nil, List.cons_append, List.replicate_succ, List.replicate_zero, List.replicate, List.getElem?_cons_zero, List.getElem?_cons_succ, List.set_cons_zero, List.set_cons_succ, Nat.zero_add, reduceIte, Nat.reduceAdd, Nat.reduceEqDiff, Nat.reduceLeDiff, Nat.reduceLT, Int.reduceLT, Int.reduceLE, Int.reduceEq, Int.reduceBEq, Int.reduceAdd, Int.reduceSub, Int.reduceNeg, Int.reduceMul, Int.reduceMod, decide_true, decide_false, Bool.not_true, Bool.not_false, Bool.false_eq_true, Bool.true_eq_false, szc, sz0, Option.map_some, Option.isSome_some, and_self, and_true, true_and, gcF_same, oEq_int, oNe_int, oAdd_int, oSub_int, oLt_int, oLe_int, oGt_int, oGe_int, oIx_lst, oIx_tup, oNotN_e, oIsN_e, ne_eq, not_false_eq_true, not_true_eq_false, Int.natCast_succ, Int.cast_ofNat_Int, beq_self_eq_true, Bool.and_true, Bool.and_false, Bool.true_and, Bool.false_and, wi0, we00, we01, we02, we03, wi1, we10, we11, we12, we13, wi2, we20, we21, we22, we23, wi3, we30, we31, we32, we33, ln1, at10, ln2, at20, at21, ln3, at30, at31, at32, ln4, at40, at41, at42, at43, in_tb]
  have go : ∀ d, (fSeq (fIfS (fTest (fBin oIn (fVar 2) (fLst (fCons (fC (.str "top")) (fCons (fC (.str "bottom")) fNil))))) (fRet (fIf (fTest (fBin oEq (fVar 2) (fC (.str "top")))) (fBin oAdd (fLst (fCons (fVar 3) fNil)) (fVar 0)) (fBin oAdd (fVar 0) (fLst (fCons (fVar 3) fNil))))) fNext) (fRet (fLc (iSq (fVar 0)) (fGn 4) fYes (fIf (fTest (fBin oEq (fVar 2) (fC (.str "left")))) (fBin oAdd (fTup (fCons (fBin oIx (fVar 1) (fC (.int 2))) fNil)) (fVar 4)) (fBin oAdd (fVar 4) (fTup (fCons (fBin oIx (fVar 1) (fC (.int 2))) fNil)))) [4]))) [some (.lst g), some (Sp.add s c).d, some s.d, some (.tup rl), none, none] st = .rt d st → e_l_after [.lst g, (Sp.add s c).d] st = .ok d st := fun d hd => by
    unfold e_l_after
    refine body_rt0 ?_
    show fSeq (fIfS _ _ fNext) (fSeq (fIfS _ _ fNext) (fSeq (fSet 2 _) (fSeq (fIfS _ _ fNext) (fSeq (fSet 3 _) _)))) [some (.lst g), some (Sp.add s c).d, none, none, none, none] st = _
    rw [seq_e, ifS_e, t1, stB_ok, if_neg (by decide), next_e, seqK_nx, seq_e, ifS_e, t2, stB_ok, if_neg (by decide), next_e, seqK_nx, seq_e, t3, seqK_nx, seq_e, ifS_e, t4, stB_ok, if_neg (by decide), next_e, seqK_nx, seq_e, t5, seqK_nx, hd]
  cases hv : vert s with
  | true =>
    rw [hv] at t6
    simp only [if_true]
    have pre : ∀ g', (fIf (fTest (fBin oEq (fVar 2) (fC (.str "top")))) (fBin oAdd (fLst (fCons (fVar 3) fNil)) (fVar 0)) (fBin oAdd (fVar 0) (fLst (fCons (fVar 3) fNil)))) [some (.lst g), some (Sp.add s c).d, some s.d, some (.tup rl), none, none] st = .ok (.lst g') st → e_l_after [.lst g, (Sp.add s c).d] st = .ok (.lst g') st := fun g' hg => by
      refine go _ ?_
      rw [seq_e, ifS_e, t6, stB_ok, if_pos rfl, ret_e, hg, stB_ok, seqK_rt]
    have q1 := oAdd_l (x := [.tup rl]) (y := g) (by rw [k.1]; simp; omega)
    have q2 := oAdd_l (x := g) (y := [.tup rl]) (by rw [k.1]; simp; omega)
    cases ht : atTop s with
    | true =>
      refine ⟨[.tup rl] ++ g, ⟨by simp [k.1], fun y hy => ?_⟩, pre _ ?_⟩
      · rcases List.mem_append.mp hy with hy | hy
        · exact ⟨rl, List.mem_singleton.mp hy, ll⟩
        · exact k.2 y hy
      · simp only [seq_e, seqK_nx, seqK_rt, ifS_e, stB_ok, bind_ok, test_e, blR_ok, not_e, and_e, or_e, andV_e, andK_t, andK_f, notV_e, notK_ok, if_e, nil_e, cons_e, lst_e, tup_e, fn_e, call_e, var_e, varK_ok, c_e, optR_ok, bin_e, drop_e, ret_e, set_e, asg_e, optS_ok, next_e, gn_e, gt_e, gc_e, gcK_ok, gl_e, isi_e, isC_e, fld_e, fldK_ins, neg_e, negK_ok, meth_e, methK_ins, meth0_e, meth0K_ins, make_e, opI_e, opIK_ok, List.append_nil, List.nil_append, List.length_cons, List.length_nil, List.map_cons, List.map_nil, List.cons_append, List.replicate_succ, List.replicate_zero, List.replicate, List.getElem?_cons_zero, List.getElem?_cons_succ, List.set_cons_zero, List.set_cons_succ, Nat.zero_add, reduceIte, Nat.reduceAdd, Nat.reduceEqDiff, Nat.reduceLeDiff, Nat.reduceLT, Int.reduceLT, Int.reduceLE, Int.reduceEq, Int.reduceBEq, Int.reduceAdd, Int.reduceSub, Int.reduceNeg, Int.reduceMul, Int.reduceMod, decide_true, decide_false, Bool.not_true, Bool.not_false, Bool.false_eq_true, Bool.true_eq_false, szc, sz0, Option.map_some, Option.isSome_some, and_self, and_true, true_and, gcF_same, oEq_int, oNe_int, oAdd_int, oSub_int, oLt_int, oLe_int, oGt_int, oGe_int, oIx_lst, oIx_tup, oNotN_e, oIsN_e, ne_eq, not_false_eq_true, not_true_eq_false, Int.natCast_succ, Int.cast_ofNat_Int, beq_self_eq_true, Bool.and_true, Bool.and_false, Bool.true_and, Bool.false_and, wi0, we00, we01, we02, we03, wi1, we10, we11, we12, we13, wi2, we20, we21, we22, we23, wi3, we30, we31, we32, we33, ln1, at10, ln2, at20, at21, ln3, at30, at31, at32, ln4, at40, at41, at42, at43, eq_top, ht, q1]
    | false =>
      refine ⟨g ++ [.tup rl], ⟨by simp [k.1], fun y hy => ?_⟩, pre _ ?_⟩
      · rcases List.mem_append.mp hy with hy | hy
        · exact k.2 y hy
        · exact ⟨rl, List.mem_singleton.mp hy, ll⟩
      · simp only [seq_e, seqK_nx, seqK_rt, ifS_e, stB_ok, bind_ok, test_e, blR_ok, not_e, and_e, or_e, andV_e, andK_t, andK_f, notV_e, notK_ok, if_e, nil_e, cons_e, lst_e, tup_e, fn_e, call_e, var_e, varK_ok, c_e, optR_ok, bin_e, drop_e, ret_e, set_e, asg_e, optS_ok, next_e, gn_e, gt_e, gc_e, gcK_ok, gl_e, isi_e, isC_e, fld_e, fldK_ins, neg_e, negK_ok, meth_e, methK_ins, meth0_e, meth0K_ins, make_e, opI_e, opIK_ok, List.append_nil, List.nil_append, List.length_cons, List.length_nil, List.map_cons, List.map_nil, List.cons_append, List.replicate_succ, List.replicate_zero, List.replicate, List.getElem?_cons_zero, List.getElem?_cons_succ, List.set_cons_zero, List.set_cons_succ, Nat.zero_add, reduceIte, Nat.reduceAdd, Nat.reduceEqDiff, Nat.reduceLeDiff, Nat.reduceLT, Int.reduceLT, Int.reduceLE, Int.reduceEq, Int.reduceBEq, Int.reduceAdd, Int.reduceSub, Int.reduceNeg, Int.reduceMul, Int.reduceMod, decide_true, decide_false, Bool.not_true, Bool.not_false, Bool.false_eq_true, Bool.true_eq_false, szc, sz0, Option.map_some, Option.isSome_some, and_self, and_true, true_and, gcF_same, oEq_int, oNe_int, oAdd_int, oSub_int, oLt_int, oLe_int, oGt_int, oGe_int, oIx_lst, oIx_tup, oNotN_e, oIsN_e, ne_eq, not_false_eq_true, not_true_eq_false, Int.natCast_succ, Int.cast_ofNat_Int, beq_self_eq_true, Bool.and_true, Bool.and_false, Bool.true_and, Bool.false_and, wi0, we00, we01, we02, we03, wi1, we10, we11, we12, we13, wi2, we20, we21, we22, we23, wi3, we30, we31, we32, we33, ln1, at10, ln2, at20, at21, ln3, at30, at31, at32, ln4, at40, at41, at42, at43, eq_top, ht, q2]
  | false =>
    rw [hv] at t6
    simp only [Bool.false_eq_true, if_false]
    have hL := lc_e (st := st) (ρ := [some (.lst g), some (Sp.add s c).d, some s.d, some (.tup rl), none, none]) (ds := g) (it := iSq (fVar 0)) (g := fGn 4) (m := fIf (fTest (fBin oEq (fVar 2) (fC (.str "left")))) (fBin oAdd (fTup (fCons (fBin oIx (fVar 1) (fC (.int 2))) fNil)) (fVar 4)) (fBin oAdd (fVar 4) (fTup (fCons (fBin oIx (fVar 1) (fC (.int 2))) fNil)))) (vs := [4]) (Q := IsR (w + 1)) rfl ?_ (by rw [k.1]; omega)
    · obtain ⟨ys, hy, ly, qy⟩ := hL
      refine ⟨ys, ⟨by rw [ly, k.1], qy⟩, go _ ?_⟩
      rw [seq_e, ifS_e, t6, stB_ok, if_neg (by decide), next_e, seqK_nx, ret_e, hy, stB_ok]
    · intro y hy
      obtain ⟨r, e, l⟩ := k.2 y hy
      subst e
      have q1 := oAdd_t (x := [.int ((c : Nat) : Int)]) (y := r) (by rw [l]; simp; omega)
      have q2 := oAdd_t (x := r) (y := [.int ((c : Nat) : Int)]) (by rw [l]; simp; omega)
      have i2 : oIx (Sp.add s c).d (.int 2) = some (.int ((c : Nat) : Int)) := rfl
      cases ht : atLeft s with
      | true =>
        refine ⟨[some (.lst g), some (Sp.add s c).d, some s.d, some (.tup rl), some (.tup r), none], .tup ([.int ((c : Nat) : Int)] ++ r), rfl, ?_, _, rfl, by simp [l]⟩
        simp only [seq_e, seqK_nx, seqK_rt, ifS_e, stB_ok, bind_ok, test_e, blR_ok, not_e, and_e, or_e, andV_e, andK_t, andK_f, notV_e, notK_ok, if_e, nil_e, cons_e, lst_e, tup_e, fn_e, call_e, var_e, varK_ok, c_e, optR_ok, bin_e, drop_e, ret_e, set_e, asg_e, optS_ok, next_e, gn_e, gt_e, gc_e, gcK_ok, gl_e, isi_e, isC_e, fld_e, fldK_ins, neg_e, negK_ok, meth_e, methK_ins, meth0_e, meth0K_ins, make_e, opI_e, opIK_ok, List.append_nil, List.nil_append, List.length_cons, List.length_nil, List.map_cons, List.map_nil, List.cons_append, List.replicate_succ, List.replicate_zero, List.replicate, List.getElem?_cons_zero, List.getElem?_cons_succ, List.set_cons_zero, List.set_cons_succ, Nat.zero_add, reduceIte, Nat.reduceAdd, Nat.reduceEqDiff, Nat.reduceLeDiff, Nat.reduceLT, Int.reduceLT, Int.reduceLE, Int.reduceEq, Int.reduceBEq, Int.reduceAdd, Int.reduceSub, Int.reduceNeg, Int.reduceMul, Int.reduceMod, decide_true, decide_false, Bool.not_true, Bool.not_false, Bool.false_eq_true, Bool.true_eq_false, szc, sz0, Option.map_some, Option.isSome_some, and_self, and_true, true_and, gcF_same, oEq_int, oNe_int, oAdd_int, oSub_int, oLt_int, oLe_int, oGt_int, oGe_int, oIx_lst, oIx_tup, oNotN_e, oIsN_e, ne_eq, not_false_eq_true, not_true_eq_false, Int.natCast_succ, Int.cast_ofNat_Int, beq_self_eq_true, Bool.and_true, Bool.and_false, Bool.true_and, Bool.false_and, wi0, we00, we01, we02, we03, wi1, we10, we11, we12, we13, wi2, we20, we21, we22, we23, wi3, we30, we31, we32, we33, ln1, at10, ln2, at20, at21, ln3, at30, at31, at32, ln4, at40, at41, at42, at43, eq_left, ht, q1, i2]
      | false =>
        refine ⟨[some (.lst g), some (Sp.add s c).d, some s.d, some (.tup rl), some (.tup r), none], .tup (r ++ [.int ((c : Nat) : Int)]), rfl, ?_, _, rfl, by simp [l]⟩
        simp only [seq_e, seqK_nx, seqK_rt, ifS_e, stB_ok, bind_ok, test_e, blR_ok, not_e, and_e, or_e, andV_e, andK_t, andK_f, notV_e, notK_ok, if_e, nil_e, cons_e, lst_e, tup_e, fn_e, call_e, var_e, varK_ok, c_e, optR_ok, bin_e, drop_e, ret_e, set_e, asg_e, optS_ok, next_e, gn_e, gt_e, gc_e, gcK_ok, gl_e, isi_e, isC_e, fld_e, fldK_ins, neg_e, negK_ok, meth_e, methK_ins, meth0_e, meth0K_ins, make_e, opI_e, opIK_ok, List.append_nil, List.nil_append, List.length_cons, List.length_nil, List.map_cons, List.map_nil, List.cons_append, List.replicate_succ, List.replicate_zero, List.replicate, List.getElem?_cons_zero, List.getElem?_cons_succ, List.set_cons_zero, List.set_cons_succ, Nat.zero_add, reduceIte, Nat.reduceAdd, Nat.reduceEqDiff, Nat.reduceLeDiff, Nat.reduceLT, Int.reduceLT, Int.reduceLE, Int.reduceEq, Int.reduceBEq, Int.reduceAdd, Int.reduceSub, Int.reduceNeg, Int.reduceMul, Int.reduceMod, decide_true, decide_false, Bool.not_true, Bool.not_false, Bool.false_eq_true, Bool.true_eq_false, szc, sz0, Option.map_some, Option.isSome_some, and_self, and_true, true_and, gcF_same, oEq_int, oNe_int, oAdd_int, oSub_int, oLt_int, oLe_int, oGt_int, oGe_int, oIx_lst, oIx_tup, oNotN_e, oIsN_e, ne_eq, not_false_eq_true, not_true_eq_false, Int.natCast_succ, Int.cast_ofNat_Int, beq_self_eq_true, Bool.and_true, Bool.and_false, Bool.true_and, Bool.false_and, wi0, we00, we01, we02, we03, wi1, we10, we11, we12, we13, wi2, we20, we21, we22, we23, wi3, we30, we31, we32, we33, ln1, at10, ln2, at20, at21, ln3, at30, at31, at32, ln4, at40, at41, at42, at43, eq_left, ht, q2, i2]
theorem after_ok {g : List D} {p : Sp} {h w : Nat} (k : IsG h w g) (hh : 1 ≤ h) (hw : 1 ≤ w) (h2 : h ≤ 1000) (w2 : w ≤ 1000) :
    match afterM p h w with
    | none => e_l_after [.lst g, p.d] st = .ok .non st
    | some q => ∃ g', IsG q.1 q.2 g' ∧ e_l_after [.lst g, p.d] st = .ok (.lst g') st := by
  cases p with
  | turn => exact after_turn k hh h2 w2
  | mir => exact after_mir k h2
  | cut s => exact after_cut k hh hw h2 w2
  | add s c =>
    have q := after_add (st := st) (s := s) (c := c) k hh hw h2 w2
    cases hv : vert s with
    | true =>
      rw [hv] at q
      simp only [afterM, hv, if_true]
      simpa using q
    | false =>
      rw [hv] at q
      simp only [afterM, hv, Bool.false_eq_true, if_false]
      simpa using q
theorem after_le {p : Sp} {h w : Nat} {q : Nat × Nat} (e : afterM p h w = some q) (hh : 1 ≤ h) (hw : 1 ≤ w) : 1 ≤ q.1 ∧ 1 ≤ q.2 ∧ q.1 + q.2 ≤ h + w + 1 := by
  cases p with
  | turn => cases e; simp only; omega
  | mir => cases e; simp only; omega
  | cut s =>
    simp only [afterM] at e
    split at e
    · split at e
      · cases e
      · cases e; simp only; omega
    · split at e
      · cases e
      · cases e; simp only; omega
  | add s c =>
    simp only [afterM] at e
    split at e
    · cases e; simp only; omega
    · cases e; simp only; omega
/-! a run -/
abbrev b_run : fS := fSeq (fSet 2 (fCall e_l_after 2 [] (fCons (fVar 2) (fCons (fBin oIx (fVar 1) (fVar 3)) fNil)))) (fIfS (fTest (fBin oIsN (fVar 2) (fC .non))) (fRet (fLst (fCons (fC .non) (fCons (fVar 3) fNil)))) fNext)
theorem for_rt {d e : D} {ds : List D} {ρ ρ1 : Rho} {st1 st2 : FL.St} {g : fG} {b : fS} (h1 : g d ρ st = some (ρ1, st1)) (h2 : b ρ1 st1 = .rt e st2) : fForGo g b (d :: ds) ρ st = .rt e st2 := by
  rw [fForGo, h1]
  dsimp only
  rw [h2]
theorem run_loop {ps : List Sp} {G0 : D} : ∀ {m k h w : Nat} {g : List D} {x : Option D}, k + m = ps.length → IsG h w g → 1 ≤ h → 1 ≤ w → h + w + m ≤ 900 →
    if runM h w (ps.drop k) = true then ∃ g' x', fForGo (fGn 3) b_run ((List.range' k m).map fun (i : Nat) => D.int (0 + (i : Int))) [some G0, some (.lst (ps.map Sp.d)), some (.lst g), x] st = .nx [some G0, some (.lst (ps.map Sp.d)), some (.lst g'), x'] st
    else ∃ j : Int, fForGo (fGn 3) b_run ((List.range' k m).map fun (i : Nat) => D.int (0 + (i : Int))) [some G0, some (.lst (ps.map Sp.d)), some (.lst g), x] st = .rt (.lst [.non, .int j]) st
  | 0, k, h, w, g, x, e, kg, hh, hw, b => by
    have z : ps.drop k = [] := List.drop_of_length_le (by omega)
    rw [z, if_pos (show runM h w [] = true by rw [runM])]
    exact ⟨g, x, rfl⟩
  | m + 1, k, h, w, g, x, e, kg, hh, hw, b => by
    have hk : k < ps.length := by omega
    have z : ps.drop k = ps[k] :: ps.drop (k + 1) := List.drop_eq_getElem_cons hk
    have ix : oIx (.lst (ps.map Sp.d)) (.int (0 + ((k : Nat) : Int))) = some ps[k].d := by
      rw [Int.zero_add, oIx_lst, at_nat (by rw [List.length_map]; exact hk), List.getElem_map]
    have a := after_ok (st := st) (p := ps[k]) kg hh hw (by omega) (by omega)
    have hr : List.range' k (m + 1) = k :: List.range' (k + 1) m := List.range'_succ ..
    rw [z, runM, hr, List.map_cons]
    have s1 : ∀ d, e_l_after [.lst g, ps[k].d] st = .ok d st → (fSet 2 (fCall e_l_after 2 [] (fCons (fVar 2) (fCons (fBin oIx (fVar 1) (fVar 3)) fNil)))) [some G0, some (.lst (ps.map Sp.d)), some (.lst g), some (.int (0 + ((k : Nat) : Int)))] st = .nx [some G0, some (.lst (ps.map Sp.d)), some d, some (.int (0 + ((k : Nat) : Int)))] st := fun d hd => by
      simp only [set_e, call_e, cons_e, bin_e, var_e, List.getElem?_cons_succ, List.getElem?_cons_zero, varK_ok, bind_ok, ix, optR_ok, nil_e, List.append_nil, List.length_cons, List.length_nil, Nat.zero_add, Nat.reduceAdd, if_true, hd, stB_ok, List.set_cons_succ, List.set_cons_zero]
    cases q : afterM ps[k] h w with
    | none =>
      rw [q] at a
      simp only at a ⊢
      rw [if_neg (by decide)]
      refine ⟨0 + ((k : Nat) : Int), for_rt (ρ1 := [some G0, some (.lst (ps.map Sp.d)), some (.lst g), some (.int (0 + ((k : Nat) : Int)))]) (st1 := st) rfl ?_⟩
      rw [b_run, seq_e, s1 _ a, seqK_nx]
      rfl
    | some q' =>
      rw [q] at a
      simp only at a ⊢
      obtain ⟨g', kg', a⟩ := a
      obtain ⟨u1, u2, u3⟩ := after_le q hh hw
      have ih := run_loop (ps := ps) (G0 := G0) (m := m) (k := k + 1) (h := q'.1) (w := q'.2) (g := g') (x := some (.int (0 + ((k : Nat) : Int)))) (by omega) kg' u1 u2 (by omega)
      have st1 := for_cons (st := st) (d := .int (0 + ((k : Nat) : Int))) (ds := (List.range' (k + 1) m).map fun (i : Nat) => D.int (0 + (i : Int))) (g := fGn 3) (b := b_run) (ρ := [some G0, some (.lst (ps.map Sp.d)), some (.lst g), x]) (ρ1 := [some G0, some (.lst (ps.map Sp.d)), some (.lst g), some (.int (0 + ((k : Nat) : Int)))]) (st1 := st) (ρ2 := [some G0, some (.lst (ps.map Sp.d)), some (.lst g'), some (.int (0 + ((k : Nat) : Int)))]) (st2 := st) rfl (by
        rw [b_run, seq_e, s1 _ a, seqK_nx]
        rfl)
      rw [st1]
      exact ih
theorem lrun_ok {ps : List Sp} {h w : Nat} {g : List D} (kg : IsG h w g) (hh : 1 ≤ h) (hw : 1 ≤ w) (b : h + w + ps.length ≤ 900) :
    ∃ y z, e_l_run [.lst g, .lst (ps.map Sp.d)] st = .ok (.lst [y, z]) st ∧ isNon y = !runM h w ps := by
  have l := run_loop (st := st) (ps := ps) (G0 := .lst g) (m := ps.length) (k := 0) (x := none) (Nat.zero_add _) kg hh hw b
  have a2 : iR1 (fCons (fFn lLen (fCons (fVar 1) fNil)) fNil) [some (.lst g), some (.lst (ps.map Sp.d)), some (.lst g), none] st = .ok ((List.range' 0 ps.length).map fun (i : Nat) => D.int (0 + (i : Int))) st := by
    have q : (fCons (fFn lLen (fCons (fVar 1) fNil)) fNil) [some (.lst g), some (.lst (ps.map Sp.d)), some (.lst g), none] st = .ok [.int ((ps.length : Nat) : Int)] st := by
      simp only [seq_e, seqK_nx, seqK_rt, ifS_e, stB_ok, bind_ok, test_e, blR_ok, not_e, and_e, or_e, andV_e, andK_t, andK_f, notV_e, notK_ok, if_e, nil_e, cons_e, lst_e, tup_e, fn_e, call_e, var_e, varK_ok, c_e, optR_ok, bin_e, drop_e, ret_e, set_e, asg_e, optS_ok, next_e, gn_e, gt_e, gc_e, gcK_ok, gl_e, isi_e, isC_e, fld_e, fldK_ins, neg_e, negK_ok, meth_e, methK_ins, meth0_e, meth0K_ins, make_e, opI_e, opIK_ok, List.append_nil, List.nil_append, List.length_cons, List.length_nil, List.map_cons, List.map_nil, List.cons_append, List.replicate_succ, List.replicate_zero, List.replicate, List.getElem?_cons_zero, List.getElem?_cons_succ, List.set_cons_zero, List.set_cons_succ, Nat.zero_add, reduceIte, Nat.reduceAdd, Nat.reduceEqDiff, Nat.reduceLeDiff, Nat.reduceLT, Int.reduceLT, Int.reduceLE, Int.reduceEq, Int.reduceBEq, Int.reduceAdd, Int.reduceSub, Int.reduceNeg, Int.reduceMul, Int.reduceMod, decide_true, decide_false, Bool.not_true, Bool.not_false, Bool.false_eq_true, Bool.true_eq_false, szc, sz0, Option.map_some, Option.isSome_some, and_self, and_true, true_and, gcF_same, oEq_int, oNe_int, oAdd_int, oSub_int, oLt_int, oLe_int, oGt_int, oGe_int, oIx_lst, oIx_tup, oNotN_e, oIsN_e, ne_eq, not_false_eq_true, not_true_eq_false, Int.natCast_succ, Int.cast_ofNat_Int, beq_self_eq_true, Bool.and_true, Bool.and_false, Bool.true_and, Bool.false_and, wi0, we00, we01, we02, we03, wi1, we10, we11, we12, we13, wi2, we20, we21, we22, we23, wi3, we30, we31, we32, we33, ln1, at10, ln2, at20, at21, ln3, at30, at31, at32, ln4, at40, at41, at42, at43, ll_lst, List.length_map]
    rw [iR1_e q (by omega), Int.toNat_natCast, rngD, List.range_eq_range']
  rw [List.drop_zero] at l
  cases hr : runM h w ps with
  | true =>
    rw [hr, if_pos rfl] at l
    obtain ⟨g', x', l⟩ := l
    refine ⟨.lst g', .non, ?_, rfl⟩
    unfold e_l_run
    refine body_rt0 ?_
    show fSeq (fSet 2 (fVar 0)) (fSeq (fFor _ (fGn 3) b_run) _) [some (.lst g), some (.lst (ps.map Sp.d)), none, none] st = _
    rw [seq_e]
    show seqK (.nx [some (.lst g), some (.lst (ps.map Sp.d)), some (.lst g), none] st) _ = _
    rw [seqK_nx, seq_e, for_e, a2, stB_ok, l, seqK_nx]
    rfl
  | false =>
    rw [hr, if_neg (by decide)] at l
    obtain ⟨j, l⟩ := l
    refine ⟨.non, .int j, ?_, rfl⟩
    unfold e_l_run
    refine body_rt0 ?_
    show fSeq (fSet 2 (fVar 0)) (fSeq (fFor _ (fGn 3) b_run) _) [some (.lst g), some (.lst (ps.map Sp.d)), none, none] st = _
    rw [seq_e]
    show seqK (.nx [some (.lst g), some (.lst (ps.map Sp.d)), some (.lst g), none] st) _ = _
    rw [seqK_nx, seq_e, for_e, a2, stB_ok, l, seqK_rt]
end K51

set_option Elab.async false
set_option linter.all false
set_option maxRecDepth 100000
set_option maxHeartbeats 4000000
namespace K51
open PySem PySem.Spec PyProof.Rows L2 DL FL
variable {st : FL.St}
theorem cell_e {f i w j h : Int} (mq : oMul1 (.int i) (.int w) = some (.int (i * w))) : (fBin oAdd (fBin oAdd (fVar 2) (fBin oMul1 (fVar 3) (fVar 1))) (fVar 4)) [some (.int h), some (.int w), some (.int f), some (.int i), some (.int j)] st = .ok (.int (f + i * w + j)) st := by
  simp only [seq_e, seqK_nx, seqK_rt, ifS_e, stB_ok, bind_ok, test_e, blR_ok, not_e, and_e, or_e, andV_e, andK_t, andK_f, notV_e, notK_ok, if_e, nil_e, cons_e, lst_e, tup_e, fn_e, call_e, var_e, varK_ok, c_e, optR_ok, bin_e, drop_e, ret_e, set_e, asg_e, optS_ok, next_e, gn_e, gt_e, gc_e, gcK_ok, gl_e, isi_e, isC_e, fld_e, fldK_ins, neg_e, negK_ok, meth_e, methK_ins, meth0_e, meth0K_ins, make_e, opI_e, opIK_ok, List.append_nil, List.nil_append, List.length_cons, List.length_nil, List.map_cons, List.map_nil, List.cons_append, List.replicate_succ, List.replicate_zero, List.replicate, List.getElem?_cons_zero, List.getElem?_cons_succ, List.set_cons_zero, List.set_cons_succ, Nat.zero_add, reduceIte, Nat.reduceAdd, Nat.reduceEqDiff, Nat.reduceLeDiff, Nat.reduceLT, Int.reduceLT, Int.reduceLE, Int.reduceEq, Int.reduceBEq, Int.reduceAdd, Int.reduceSub, Int.reduceNeg, Int.reduceMul, Int.reduceMod, decide_true, decide_false, Bool.not_true, Bool.not_false, Bool.false_eq_true, Bool.true_eq_false, szc, sz0, Option.map_some, Option.isSome_some, and_self, and_true, true_and, gcF_same, oEq_int, oNe_int, oAdd_int, oSub_int, oLt_int, oLe_int, oGt_int, oGe_int, oIx_lst, oIx_tup, oNotN_e, oIsN_e, ne_eq, not_false_eq_true, not_true_eq_false, Int.natCast_succ, Int.cast_ofNat_Int, beq_self_eq_true, Bool.and_true, Bool.and_false, Bool.true_and, Bool.false_and, wi0, we00, we01, we02, we03, wi1, we10, we11, we12, we13, wi2, we20, we21, we22, we23, wi3, we30, we31, we32, we33, ln1, at10, ln2, at20, at21, ln3, at30, at31, at32, ln4, at40, at41, at42, at43, mq]
theorem cells_ok {h w : Nat} {f : Int} (h2 : h ≤ 1000) (w2 : w ≤ 1000) : ∃ g, IsG h w g ∧ e_l_cells [.int ((h : Nat) : Int), .int ((w : Nat) : Int), .int f] st = .ok (.lst g) st := by
  have hL := lc_e (st := st) (ρ := [some (.int ((h : Nat) : Int)), some (.int ((w : Nat) : Int)), some (.int f), none, none]) (ds := rngD 0 h) (it := iR1 (fCons (fVar 0) fNil)) (g := fGn 3) (m := fFn lTuple (fCons (fLc (iR1 (fCons (fVar 1) fNil)) (fGn 4) fYes (fBin oAdd (fBin oAdd (fVar 2) (fBin oMul1 (fVar 3) (fVar 1))) (fVar 4)) [4]) fNil)) (vs := [3]) (Q := IsR w) ?_ ?_ (by rw [rng_len]; omega)
  · obtain ⟨ys, hy, ly, qy⟩ := hL
    refine ⟨ys, ⟨by rw [ly, rng_len], qy⟩, ?_⟩
    unfold e_l_cells
    refine body_rt0 ?_
    show fRet _ [some (.int ((h : Nat) : Int)), some (.int ((w : Nat) : Int)), some (.int f), none, none] st = _
    rw [ret_e, hy, stB_ok]
  · rw [iR1_e (j := ((h : Nat) : Int)) (st1 := st) rfl (by omega), Int.toNat_natCast]
  · intro d hd
    obtain ⟨i, ed, hi⟩ := rng_mem hd
    subst ed
    have hL2 := lc_e (st := st) (ρ := [some (.int ((h : Nat) : Int)), some (.int ((w : Nat) : Int)), some (.int f), some (.int ((i : Nat) : Int)), none]) (ds := rngD 0 w) (it := iR1 (fCons (fVar 1) fNil)) (g := fGn 4) (m := fBin oAdd (fBin oAdd (fVar 2) (fBin oMul1 (fVar 3) (fVar 1))) (fVar 4)) (vs := [4]) (Q := fun _ => True) ?_ ?_ (by rw [rng_len]; omega)
    · obtain ⟨zs, hz, lz, qz⟩ := hL2
      refine ⟨[some (.int ((h : Nat) : Int)), some (.int ((w : Nat) : Int)), some (.int f), some (.int ((i : Nat) : Int)), none], .tup zs, rfl, ?_, zs, rfl, by rw [lz, rng_len]⟩
      rw [fn_e, cons_e, hz]
      rfl
    · rw [iR1_e (j := ((w : Nat) : Int)) (st1 := st) rfl (by omega), Int.toNat_natCast]
    · intro d hd
      obtain ⟨j, ed, hj⟩ := rng_mem hd
      subst ed
      have mq := oMul1_int (i := ((i : Nat) : Int)) (j := ((w : Nat) : Int)) (by omega)
      exact ⟨[some (.int ((h : Nat) : Int)), some (.int ((w : Nat) : Int)), some (.int f), some (.int ((i : Nat) : Int)), some (.int ((j : Nat) : Int))], .int (f + (i : Int) * (w : Int) + (j : Int)), rfl, cell_e mq, trivial⟩
theorem pow_ok : ∃ F : Int, oPow (.int 10) (.int 40) = some (.int F) := ⟨10 ^ 40, by rfl⟩
theorem runs_e {S y z : D} {g : List D} {h w F : Int} {b : Bool} (pe : oPow (.int 10) (.int 40) = some (.int F)) (ce : e_l_cells [.int h, .int w, .int F] st = .ok (.lst g) st) (re : e_l_run [.lst g, S] st = .ok (.lst [y, z]) st) (ye : isNon y = !b) : e_l_runs [S, .int h, .int w] st = .ok (.bl b) st := by
  unfold e_l_runs
  refine body_rt0 ?_
  have a0 : atI [y, z] 0 = some y := rfl
  simp only [p_l_runs, seq_e, seqK_nx, seqK_rt, ifS_e, stB_ok, bind_ok, test_e, blR_ok, not_e, and_e, or_e, andV_e, andK_t, andK_f, notV_e, notK_ok, if_e, nil_e, cons_e, lst_e, tup_e, fn_e, call_e, var_e, varK_ok, c_e, optR_ok, bin_e, drop_e, ret_e, set_e, asg_e, optS_ok, next_e, gn_e, gt_e, gc_e, gcK_ok, gl_e, isi_e, isC_e, fld_e, fldK_ins, neg_e, negK_ok, meth_e, methK_ins, meth0_e, meth0K_ins, make_e, opI_e, opIK_ok, List.append_nil, List.nil_append, List.length_cons, List.length_nil, List.map_cons, List.map_nil, List.cons_append, List.replicate_succ, List.replicate_zero, List.replicate, List.getElem?_cons_zero, List.getElem?_cons_succ, List.set_cons_zero, List.set_cons_succ, Nat.zero_add, reduceIte, Nat.reduceAdd, Nat.reduceEqDiff, Nat.reduceLeDiff, Nat.reduceLT, Int.reduceLT, Int.reduceLE, Int.reduceEq, Int.reduceBEq, Int.reduceAdd, Int.reduceSub, Int.reduceNeg, Int.reduceMul, Int.reduceMod, decide_true, decide_false, Bool.not_true, Bool.not_false, Bool.false_eq_true, Bool.true_eq_false, szc, sz0, Option.map_some, Option.isSome_some, and_self, and_true, true_and, gcF_same, oEq_int, oNe_int, oAdd_int, oSub_int, oLt_int, oLe_int, oGt_int, oGe_int, oIx_lst, oIx_tup, oNotN_e, oIsN_e, ne_eq, not_false_eq_true, not_true_eq_false, Int.natCast_succ, Int.cast_ofNat_Int, beq_self_eq_true, Bool.and_true, Bool.and_false, Bool.true_and, Bool.false_and, wi0, we00, we01, we02, we03, wi1, we10, we11, we12, we13, wi2, we20, we21, we22, we23, wi3, we30, we31, we32, we33, ln1, at10, ln2, at20, at21, ln3, at30, at31, at32, ln4, at40, at41, at42, at43, pe, ce, re, a0, ye, Bool.not_not]
theorem runs_ok {ps : List Sp} {h w : Nat} (hh : 1 ≤ h) (hw : 1 ≤ w) (b : h + w + ps.length ≤ 900) : e_l_runs [.lst (ps.map Sp.d), .int ((h : Nat) : Int), .int ((w : Nat) : Int)] st = .ok (.bl (runM h w ps)) st := by
  obtain ⟨F, pe⟩ := pow_ok
  obtain ⟨g, kg, ce⟩ := cells_ok (st := st) (h := h) (w := w) (f := F) (by omega) (by omega)
  obtain ⟨y, z, re, ye⟩ := lrun_ok (st := st) kg hh hw b
  exact runs_e pe ce re ye
end K51

set_option Elab.async false
set_option linter.all false
set_option maxRecDepth 100000
set_option maxHeartbeats 4000000
namespace K51
open PySem PySem.Spec PyProof.Rows L2 DL FL
variable {st rest : FL.St}
abbrev po (ns : List Int) (k p2 p3 : Int) : Option DO := some (.lst [.lst (ns.map D.int), .int k, .int p2, .int p3])
def Pl (ns : List Int) (x : Option DO) : Prop := ∃ k p2 p3, 0 ≤ k ∧ 0 ≤ p2 ∧ 0 ≤ p3 ∧ p3 < 2147483648 ∧ x = po ns k p2 p3
theorem pix {a b c e : D} {i : Int} : ixOK (.loc 0) (.int i) (some (.lst [a, b, c, e]) :: rest) = optR (atI [a, b, c, e] i) (some (.lst [a, b, c, e]) :: rest) := ixOK_ok rfl
theorem gs1 {a b c e d : D} {ρ : Rho} : fGsub (fVar 0) (fC (.int 1)) d (some (.loc 0) :: ρ) (some (.lst [a, b, c, e]) :: rest) = some (some (.loc 0) :: ρ, some (.lst [a, d, c, e]) :: rest) := rfl
theorem gs2 {a b c e d : D} {ρ : Rho} : fGsub (fVar 0) (fC (.int 2)) d (some (.loc 0) :: ρ) (some (.lst [a, b, c, e]) :: rest) = some (some (.loc 0) :: ρ, some (.lst [a, b, d, e]) :: rest) := rfl
theorem gs3 {a b c e d : D} {ρ : Rho} : fGsub (fVar 0) (fC (.int 3)) d (some (.loc 0) :: ρ) (some (.lst [a, b, c, e]) :: rest) = some (some (.loc 0) :: ρ, some (.lst [a, b, c, d]) :: rest) := rfl
abbrev t_cell : fE := fIf (fTest (fBin oLt (fIxO (fVar 0) (fC (.int 1))) (fFn lLen (fCons (fIxO (fVar 0) (fC (.int 0))) fNil)))) (fBin oIx (fIxO (fVar 0) (fC (.int 0))) (fIxO (fVar 0) (fC (.int 1)))) (fC (.int 0))
theorem cell_ok {ns : List Int} {k p2 p3 : Int} {ρ : Rho} (hk : 0 ≤ k) : ∃ z, t_cell (some (.loc 0) :: ρ) (po ns k p2 p3 :: rest) = .ok (.int z) (po ns k p2 p3 :: rest) := by
  obtain ⟨L, hL⟩ : ∃ L : Int, L = ((ns.length : Nat) : Int) := ⟨_, rfl⟩
  have q : lLen [.lst (ns.map D.int)] = some (.int L) := by
    rw [hL]
    simp [lLen]
  by_cases h : k < L
  · have h1 : k.toNat < ns.length := by omega
    have e : k = ((k.toNat : Nat) : Int) := by omega
    have a := at_nat (ds := ns.map D.int) (k := k.toNat) (by rw [List.length_map]; exact h1)
    rw [List.getElem_map, ← e] at a
    have d : decide (k < L) = true := decide_eq_true h
    exact ⟨ns[k.toNat], by simp only [t_cell, seq_e, seqK_nx, seqK_rt, ifS_e, stB_ok, bind_ok, test_e, blR_ok, not_e, and_e, or_e, andV_e, andK_t, andK_f, notV_e, notK_ok, if_e, nil_e, cons_e, lst_e, tup_e, fn_e, call_e, var_e, varK_ok, c_e, optR_ok, bin_e, drop_e, ret_e, set_e, asg_e, optS_ok, next_e, gn_e, gt_e, gc_e, gcK_ok, gl_e, isi_e, isC_e, fld_e, fldK_ins, neg_e, negK_ok, meth_e, methK_ins, meth0_e, meth0K_ins, make_e, opI_e, opIK_ok, List.append_nil, List.nil_append, List.length_cons, List.length_nil, List.map_cons, List.map_nil, List.cons_append, List.replicate_succ, List.replicate_zero, List.replicate, List.getElem?_cons_zero, List.getElem?_cons_succ, List.set_cons_zero, List.set_cons_succ, Nat.zero_add, reduceIte, Nat.reduceAdd, Nat.reduceEqDiff, Nat.reduceLeDiff, Nat.reduceLT, Int.reduceLT, Int.reduceLE, Int.reduceEq, Int.reduceBEq, Int.reduceAdd, Int.reduceSub, Int.reduceNeg, Int.reduceMul, Int.reduceMod, decide_true, decide_false, Bool.not_true, Bool.not_false, Bool.false_eq_true, Bool.true_eq_false, szc, sz0, Option.map_some, Option.isSome_some, and_self, and_true, true_and, gcF_same, oEq_int, oNe_int, oAdd_int, oSub_int, oLt_int, oLe_int, oGt_int, oGe_int, oIx_lst, oIx_tup, oNotN_e, oIsN_e, ne_eq, not_false_eq_true, not_true_eq_false, Int.natCast_succ, Int.cast_ofNat_Int, beq_self_eq_true, Bool.and_true, Bool.and_false, Bool.true_and, Bool.false_and, wi0, we00, we01, we02, we03, wi1, we10, we11, we12, we13, wi2, we20, we21, we22, we23, wi3, we30, we31, we32, we33, ln1, at10, ln2, at20, at21, ln3, at30, at31, at32, ln4, at40, at41, at42, at43, ixO_e, pix, q, d, a]⟩
  · have d : decide (k < L) = false := decide_eq_false h
    exact ⟨0, by simp only [t_cell, seq_e, seqK_nx, seqK_rt, ifS_e, stB_ok, bind_ok, test_e, blR_ok, not_e, and_e, or_e, andV_e, andK_t, andK_f, notV_e, notK_ok, if_e, nil_e, cons_e, lst_e, tup_e, fn_e, call_e, var_e, varK_ok, c_e, optR_ok, bin_e, drop_e, ret_e, set_e, asg_e, optS_ok, next_e, gn_e, gt_e, gc_e, gcK_ok, gl_e, isi_e, isC_e, fld_e, fldK_ins, neg_e, negK_ok, meth_e, methK_ins, meth0_e, meth0K_ins, make_e, opI_e, opIK_ok, List.append_nil, List.nil_append, List.length_cons, List.length_nil, List.map_cons, List.map_nil, List.cons_append, List.replicate_succ, List.replicate_zero, List.replicate, List.getElem?_cons_zero, List.getElem?_cons_succ, List.set_cons_zero, List.set_cons_succ, Nat.zero_add, reduceIte, Nat.reduceAdd, Nat.reduceEqDiff, Nat.reduceLeDiff, Nat.reduceLT, Int.reduceLT, Int.reduceLE, Int.reduceEq, Int.reduceBEq, Int.reduceAdd, Int.reduceSub, Int.reduceNeg, Int.reduceMul, Int.reduceMod, decide_true, decide_false, Bool.not_true, Bool.not_false, Bool.false_eq_true, Bool.true_eq_false, szc, sz0, Option.map_some, Option.isSome_some, and_self, and_true, true_and, gcF_same, oEq_int, oNe_int, oAdd_int, oSub_int, oLt_int, oLe_int, oGt_int, oGe_int, oIx_lst, oIx_tup, oNotN_e, oIsN_e, ne_eq, not_false_eq_true, not_true_eq_false, Int.natCast_succ, Int.cast_ofNat_Int, beq_self_eq_true, Bool.and_true, Bool.and_false, Bool.true_and, Bool.false_and, wi0, we00, we01, we02, we03, wi1, we10, we11, we12, we13, wi2, we20, we21, we22, we23, wi3, we30, we31, we32, we33, ln1, at10, ln2, at20, at21, ln3, at30, at31, at32, ln4, at40, at41, at42, at43, ixO_e, pix, q, d]⟩
abbrev t_tail : fS := fSeq (fSet 3 (fBin oMod (fIxO (fVar 0) (fC (.int 2))) (fVar 1))) (fSeq (fAsg (fBin oDiv (fIxO (fVar 0) (fC (.int 2))) (fVar 1)) (fGsub (fVar 0) (fC (.int 2)))) (fRet (fVar 3)))
theorem tail_ok {ns : List Int} {k p2 p3 c : Int} {a b : Option D} (hc : 0 < c) (h2 : c ≤ 100) : t_tail [some (.loc 0), some (.int c), a, b] (po ns k p2 p3 :: rest) = .rt (.int (p2 % c)) (po ns k (p2 / c) p3 :: rest) := by
  have q1 := oMod_int (i := p2) hc
  have q2 := oDiv_int (i := p2) hc (by omega)
  simp only [t_tail, seq_e, seqK_nx, seqK_rt, ifS_e, stB_ok, bind_ok, test_e, blR_ok, not_e, and_e, or_e, andV_e, andK_t, andK_f, notV_e, notK_ok, if_e, nil_e, cons_e, lst_e, tup_e, fn_e, call_e, var_e, varK_ok, c_e, optR_ok, bin_e, drop_e, ret_e, set_e, asg_e, optS_ok, next_e, gn_e, gt_e, gc_e, gcK_ok, gl_e, isi_e, isC_e, fld_e, fldK_ins, neg_e, negK_ok, meth_e, methK_ins, meth0_e, meth0K_ins, make_e, opI_e, opIK_ok, List.append_nil, List.nil_append, List.length_cons, List.length_nil, List.map_cons, List.map_nil, List.cons_append, List.replicate_succ, List.replicate_zero, List.replicate, List.getElem?_cons_zero, List.getElem?_cons_succ, List.set_cons_zero, List.set_cons_succ, Nat.zero_add, reduceIte, Nat.reduceAdd, Nat.reduceEqDiff, Nat.reduceLeDiff, Nat.reduceLT, Int.reduceLT, Int.reduceLE, Int.reduceEq, Int.reduceBEq, Int.reduceAdd, Int.reduceSub, Int.reduceNeg, Int.reduceMul, Int.reduceMod, decide_true, decide_false, Bool.not_true, Bool.not_false, Bool.false_eq_true, Bool.true_eq_false, szc, sz0, Option.map_some, Option.isSome_some, and_self, and_true, true_and, gcF_same, oEq_int, oNe_int, oAdd_int, oSub_int, oLt_int, oLe_int, oGt_int, oGe_int, oIx_lst, oIx_tup, oNotN_e, oIsN_e, ne_eq, not_false_eq_true, not_true_eq_false, Int.natCast_succ, Int.cast_ofNat_Int, beq_self_eq_true, Bool.and_true, Bool.and_false, Bool.true_and, Bool.false_and, wi0, we00, we01, we02, we03, wi1, we10, we11, we12, we13, wi2, we20, we21, we22, we23, wi3, we30, we31, we32, we33, ln1, at10, ln2, at20, at21, ln3, at30, at31, at32, ln4, at40, at41, at42, at43, ixO_e, pix, q1, q2, gs2]
abbrev t_low : fS := fSeq (fAsg (fBin oMod (fBin oAdd (fBin oAdd (fBin oMul1 (fIxO (fVar 0) (fC (.int 3))) (fC (.int 48271))) (fBin oMod (fVar 2) (fC (.int 2147483629)))) (fIxO (fVar 0) (fC (.int 1)))) (fC (.int 2147483647))) (fGsub (fVar 0) (fC (.int 3)))) (fRet (fBin oMod (fBin oDiv (fBin oMod (fBin oMul1 (fIxO (fVar 0) (fC (.int 3))) (fIxO (fVar 0) (fC (.int 3)))) (fC (.int 2147483629))) (fC (.int 7))) (fVar 1)))
theorem low_ok {ns : List Int} {k p2 p3 c z : Int} {b : Option D} (hc : 0 < c) (h2 : c ≤ 100) (h3 : 0 ≤ p3) (h4 : p3 < 2147483648) : ∃ r p3', 0 ≤ r ∧ r < c ∧ 0 ≤ p3' ∧ p3' < 2147483648 ∧ t_low [some (.loc 0), some (.int c), some (.int z), b] (po ns k p2 p3 :: rest) = .rt (.int r) (po ns k p2 p3' :: rest) := by
  have m1 := oMul1_int (i := p3) (j := 48271) (by omega)
  have m2 := oMod_int (i := z) (j := 2147483629) (by decide)
  have m3 := oMod_int (i := p3 * 48271 + z % 2147483629 + k) (j := 2147483647) (by decide)
  obtain ⟨p, ep⟩ : ∃ p : Int, p = (p3 * 48271 + z % 2147483629 + k) % 2147483647 := ⟨_, rfl⟩
  have p0 : 0 ≤ p := by rw [ep]; exact Int.emod_nonneg _ (by decide)
  have p1 : p < 2147483647 := by rw [ep]; exact Int.emod_lt_of_pos _ (by decide)
  rw [← ep] at m3
  have m4 := oMul1_int (i := p) (j := p) (by omega)
  have m5 := oMod_int (i := p * p) (j := 2147483629) (by decide)
  have m6 := oDiv_int (i := p * p % 2147483629) (j := 7) (by decide) (by decide)
  have m7 := oMod_int (i := p * p % 2147483629 / 7) hc
  refine ⟨p * p % 2147483629 / 7 % c, p, Int.emod_nonneg _ (by omega), Int.emod_lt_of_pos _ hc, p0, by omega, ?_⟩
  simp only [t_low, seq_e, asg_e, bin_e, ixO_e, var_e, List.getElem?_cons_zero, List.getElem?_cons_succ, varK_ok, bind_ok, c_e, pix, at40, at41, at42, at43, optR_ok, m1, m2, m3, oAdd_int, stB_ok, gs3, optS_ok, seqK_nx, ret_e, m4, m5, m6, m7]
theorem pow18 : oPow (.int 10) (.int 18) = some (.int 1000000000000000000) := rfl
theorem draw_ok {ns : List Int} {x : Option DO} {c : Int} (hx : Pl ns x) (hc : 0 < c) (h2 : c ≤ 100) : ∃ r x', Pl ns x' ∧ 0 ≤ r ∧ r < c ∧ e_l_draw [.loc 0, .int c] (x :: rest) = .ok (.int r) (x' :: rest) := by
  obtain ⟨k, p2, p3, a1, a2, a3, a4, rfl⟩ := hx
  have fin : ∀ {r : Int} {x' : Option DO}, p_l_draw [some (.loc 0), some (.int c), none, none] (po ns k p2 p3 :: rest) = .rt (.int r) (x' :: rest) → e_l_draw [.loc 0, .int c] (po ns k p2 p3 :: rest) = .ok (.int r) (x' :: rest) := fun {r x'} h => by
    unfold e_l_draw
    rw [body_rt h, gcF_cons]
  have t0 : (fTest (fBin oEq (fIxO (fVar 0) (fC (.int 2))) (fC (.int 0)))) [some (.loc 0), some (.int c), none, none] (po ns k p2 p3 :: rest) = .ok (p2 == 0) (po ns k p2 p3 :: rest) := by
    simp only [seq_e, seqK_nx, seqK_rt, ifS_e, stB_ok, bind_ok, test_e, blR_ok, not_e, and_e, or_e, andV_e, andK_t, andK_f, notV_e, notK_ok, if_e, nil_e, cons_e, lst_e, tup_e, fn_e, call_e, var_e, varK_ok, c_e, optR_ok, bin_e, drop_e, ret_e, set_e, asg_e, optS_ok, next_e, gn_e, gt_e, gc_e, gcK_ok, gl_e, isi_e, isC_e, fld_e, fldK_ins, neg_e, negK_ok, meth_e, methK_ins, meth0_e, meth0K_ins, make_e, opI_e, opIK_ok, List.append_nil, List.nil_append, List.length_cons, List.length_nil, List.map_cons, List.map_nil, List.cons_append, List.replicate_succ, List.replicate_zero, List.replicate, List.getElem?_cons_zero, List.getElem?_cons_succ, List.set_cons_zero, List.set_cons_succ, Nat.zero_add, reduceIte, Nat.reduceAdd, Nat.reduceEqDiff, Nat.reduceLeDiff, Nat.reduceLT, Int.reduceLT, Int.reduceLE, Int.reduceEq, Int.reduceBEq, Int.reduceAdd, Int.reduceSub, Int.reduceNeg, Int.reduceMul, Int.reduceMod, decide_true, decide_false, Bool.not_true, Bool.not_false, Bool.false_eq_true, Bool.true_eq_false, szc, sz0, Option.map_some, Option.isSome_some, and_self, and_true, true_and, gcF_same, oEq_int, oNe_int, oAdd_int, oSub_int, oLt_int, oLe_int, oGt_int, oGe_int, oIx_lst, oIx_tup, oNotN_e, oIsN_e, ne_eq, not_false_eq_true, not_true_eq_false, Int.natCast_succ, Int.cast_ofNat_Int, beq_self_eq_true, Bool.and_true, Bool.and_false, Bool.true_and, Bool.false_and, wi0, we00, we01, we02, we03, wi1, we10, we11, we12, we13, wi2, we20, we21, we22, we23, wi3, we30, we31, we32, we33, ln1, at10, ln2, at20, at21, ln3, at30, at31, at32, ln4, at40, at41, at42, at43, ixO_e, pix]
  by_cases hp : p2 = 0
  · have hp' : (p2 == 0) = true := by simp [hp]
    rw [hp'] at t0
    obtain ⟨z, hz⟩ := cell_ok (rest := rest) (ns := ns) (k := k) (p2 := p2) (p3 := p3) (ρ := [some (.int c), none, none]) a1
    have s1 : (fAsg (fBin oAdd (fIxO (fVar 0) (fC (.int 1))) (fC (.int 1))) (fGsub (fVar 0) (fC (.int 1)))) [some (.loc 0), some (.int c), some (.int z), none] (po ns k p2 p3 :: rest) = .nx [some (.loc 0), some (.int c), some (.int z), none] (po ns (k + 1) p2 p3 :: rest) := by
      simp only [seq_e, seqK_nx, seqK_rt, ifS_e, stB_ok, bind_ok, test_e, blR_ok, not_e, and_e, or_e, andV_e, andK_t, andK_f, notV_e, notK_ok, if_e, nil_e, cons_e, lst_e, tup_e, fn_e, call_e, var_e, varK_ok, c_e, optR_ok, bin_e, drop_e, ret_e, set_e, asg_e, optS_ok, next_e, gn_e, gt_e, gc_e, gcK_ok, gl_e, isi_e, isC_e, fld_e, fldK_ins, neg_e, negK_ok, meth_e, methK_ins, meth0_e, meth0K_ins, make_e, opI_e, opIK_ok, List.append_nil, List.nil_append, List.length_cons, List.length_nil, List.map_cons, List.map_nil, List.cons_append, List.replicate_succ, List.replicate_zero, List.replicate, List.getElem?_cons_zero, List.getElem?_cons_succ, List.set_cons_zero, List.set_cons_succ, Nat.zero_add, reduceIte, Nat.reduceAdd, Nat.reduceEqDiff, Nat.reduceLeDiff, Nat.reduceLT, Int.reduceLT, Int.reduceLE, Int.reduceEq, Int.reduceBEq, Int.reduceAdd, Int.reduceSub, Int.reduceNeg, Int.reduceMul, Int.reduceMod, decide_true, decide_false, Bool.not_true, Bool.not_false, Bool.false_eq_true, Bool.true_eq_false, szc, sz0, Option.map_some, Option.isSome_some, and_self, and_true, true_and, gcF_same, oEq_int, oNe_int, oAdd_int, oSub_int, oLt_int, oLe_int, oGt_int, oGe_int, oIx_lst, oIx_tup, oNotN_e, oIsN_e, ne_eq, not_false_eq_true, not_true_eq_false, Int.natCast_succ, Int.cast_ofNat_Int, beq_self_eq_true, Bool.and_true, Bool.and_false, Bool.true_and, Bool.false_and, wi0, we00, we01, we02, we03, wi1, we10, we11, we12, we13, wi2, we20, we21, we22, we23, wi3, we30, we31, we32, we33, ln1, at10, ln2, at20, at21, ln3, at30, at31, at32, ln4, at40, at41, at42, at43, ixO_e, pix, gs1]
    have s2 : (fTest (fBin oLt (fVar 2) (fBin oPow (fC (.int 10)) (fC (.int 18))))) [some (.loc 0), some (.int c), some (.int z), none] (po ns (k + 1) p2 p3 :: rest) = .ok (decide (z < 1000000000000000000)) (po ns (k + 1) p2 p3 :: rest) := by
      simp only [seq_e, seqK_nx, seqK_rt, ifS_e, stB_ok, bind_ok, test_e, blR_ok, not_e, and_e, or_e, andV_e, andK_t, andK_f, notV_e, notK_ok, if_e, nil_e, cons_e, lst_e, tup_e, fn_e, call_e, var_e, varK_ok, c_e, optR_ok, bin_e, drop_e, ret_e, set_e, asg_e, optS_ok, next_e, gn_e, gt_e, gc_e, gcK_ok, gl_e, isi_e, isC_e, fld_e, fldK_ins, neg_e, negK_ok, meth_e, methK_ins, meth0_e, meth0K_ins, make_e, opI_e, opIK_ok, List.append_nil, List.nil_append, List.length_cons, List.length_nil, List.map_cons, List.map_nil, List.cons_append, List.replicate_succ, List.replicate_zero, List.replicate, List.getElem?_cons_zero, List.getElem?_cons_succ, List.set_cons_zero, List.set_cons_succ, Nat.zero_add, reduceIte, Nat.reduceAdd, Nat.reduceEqDiff, Nat.reduceLeDiff, Nat.reduceLT, Int.reduceLT, Int.reduceLE, Int.reduceEq, Int.reduceBEq, Int.reduceAdd, Int.reduceSub, Int.reduceNeg, Int.reduceMul, Int.reduceMod, decide_true, decide_false, Bool.not_true, Bool.not_false, Bool.false_eq_true, Bool.true_eq_false, szc, sz0, Option.map_some, Option.isSome_some, and_self, and_true, true_and, gcF_same, oEq_int, oNe_int, oAdd_int, oSub_int, oLt_int, oLe_int, oGt_int, oGe_int, oIx_lst, oIx_tup, oNotN_e, oIsN_e, ne_eq, not_false_eq_true, not_true_eq_false, Int.natCast_succ, Int.cast_ofNat_Int, beq_self_eq_true, Bool.and_true, Bool.and_false, Bool.true_and, Bool.false_and, wi0, we00, we01, we02, we03, wi1, we10, we11, we12, we13, wi2, we20, we21, we22, we23, wi3, we30, we31, we32, we33, ln1, at10, ln2, at20, at21, ln3, at30, at31, at32, ln4, at40, at41, at42, at43, pow18]
    by_cases hz2 : z < 1000000000000000000
    · obtain ⟨r, p3', b1, b2, b3, b4, hl⟩ := low_ok (rest := rest) (ns := ns) (k := k + 1) (p2 := p2) (p3 := p3) (c := c) (z := z) (b := none) hc h2 a3 a4
      refine ⟨r, po ns (k + 1) p2 p3', ⟨k + 1, p2, p3', by omega, a2, b3, b4, rfl⟩, b1, b2, fin ?_⟩
      show fSeq (fIfS _ (fSeq (fSet 2 t_cell) (fSeq _ (fSeq (fIfS _ t_low fNext) _))) fNext) _ [some (.loc 0), some (.int c), none, none] (po ns k p2 p3 :: rest) = _
      rw [seq_e, ifS_e, t0, stB_ok, if_pos rfl, seq_e, set_e, hz, stB_ok, seqK_nx, seq_e]
      show seqK (seqK ((fAsg (fBin oAdd (fIxO (fVar 0) (fC (.int 1))) (fC (.int 1))) (fGsub (fVar 0) (fC (.int 1)))) [some (.loc 0), some (.int c), some (.int z), none] (po ns k p2 p3 :: rest)) _) _ = _
      rw [s1, seqK_nx, seq_e, ifS_e, s2, stB_ok, if_pos (decide_eq_true hz2), hl, seqK_rt, seqK_rt]
    · have tl := tail_ok (rest := rest) (ns := ns) (k := k + 1) (p2 := z) (p3 := p3) (c := c) (a := some (.int z)) (b := none) hc h2
      refine ⟨z % c, po ns (k + 1) (z / c) p3, ⟨k + 1, z / c, p3, by omega, Int.ediv_nonneg (by omega) (by omega), a3, a4, rfl⟩, Int.emod_nonneg _ (by omega), Int.emod_lt_of_pos _ hc, fin ?_⟩
      show fSeq (fIfS _ (fSeq (fSet 2 t_cell) (fSeq _ (fSeq (fIfS _ t_low fNext) _))) fNext) t_tail [some (.loc 0), some (.int c), none, none] (po ns k p2 p3 :: rest) = _
      rw [seq_e, ifS_e, t0, stB_ok, if_pos rfl, seq_e, set_e, hz, stB_ok, seqK_nx, seq_e]
      show seqK (seqK ((fAsg (fBin oAdd (fIxO (fVar 0) (fC (.int 1))) (fC (.int 1))) (fGsub (fVar 0) (fC (.int 1)))) [some (.loc 0), some (.int c), some (.int z), none] (po ns k p2 p3 :: rest)) _) _ = _
      rw [s1, seqK_nx, seq_e, ifS_e, s2, stB_ok, if_neg (by simpa using hz2), next_e, seqK_nx]
      exact tl
  · have hp' : (p2 == 0) = false := by simp [hp]
    rw [hp'] at t0
    have tl := tail_ok (rest := rest) (ns := ns) (k := k) (p2 := p2) (p3 := p3) (c := c) (a := none) (b := none) hc h2
    refine ⟨p2 % c, po ns k (p2 / c) p3, ⟨k, p2 / c, p3, a1, Int.ediv_nonneg a2 (by omega), a3, a4, rfl⟩, Int.emod_nonneg _ (by omega), Int.emod_lt_of_pos _ hc, fin ?_⟩
    show fSeq (fIfS _ _ fNext) t_tail [some (.loc 0), some (.int c), none, none] (po ns k p2 p3 :: rest) = _
    rw [seq_e, ifS_e, t0, stB_ok, if_neg (by decide), next_e, seqK_nx]
    exact tl
theorem call_draw {c : Int} {ρ : Rho} : fCall e_l_draw 2 [] (fCons (fVar 0) (fCons (fC (.int c)) fNil)) (some (.loc 0) :: ρ) st = e_l_draw [.loc 0, .int c] st := rfl
theorem base_ok {ns : List Int} {x : Option DO} (hx : Pl ns x) : ∃ b x', Pl ns x' ∧ 0 ≤ b ∧ e_l_base [.loc 0] (x :: rest) = .ok (.int b) (x' :: rest) := by
  obtain ⟨r, x', px, r0, r1, h⟩ := draw_ok (rest := rest) hx (c := 3) (by decide) (by decide)
  have l : (fLst (fCons (fC (.int 0)) (fCons (fC (.int 7)) (fCons (fBin oPow (fC (.int 10)) (fC (.int 25))) fNil)))) [some (.loc 0)] (x :: rest) = .ok (.lst [.int 0, .int 7, .int 10000000000000000000000000]) (x :: rest) := by
    have q : oPow (.int 10) (.int 25) = some (.int 10000000000000000000000000) := rfl
    simp only [seq_e, seqK_nx, seqK_rt, ifS_e, stB_ok, bind_ok, test_e, blR_ok, not_e, and_e, or_e, andV_e, andK_t, andK_f, notV_e, notK_ok, if_e, nil_e, cons_e, lst_e, tup_e, fn_e, call_e, var_e, varK_ok, c_e, optR_ok, bin_e, drop_e, ret_e, set_e, asg_e, optS_ok, next_e, gn_e, gt_e, gc_e, gcK_ok, gl_e, isi_e, isC_e, fld_e, fldK_ins, neg_e, negK_ok, meth_e, methK_ins, meth0_e, meth0K_ins, make_e, opI_e, opIK_ok, List.append_nil, List.nil_append, List.length_cons, List.length_nil, List.map_cons, List.map_nil, List.cons_append, List.replicate_succ, List.replicate_zero, List.replicate, List.getElem?_cons_zero, List.getElem?_cons_succ, List.set_cons_zero, List.set_cons_succ, Nat.zero_add, reduceIte, Nat.reduceAdd, Nat.reduceEqDiff, Nat.reduceLeDiff, Nat.reduceLT, Int.reduceLT, Int.reduceLE, Int.reduceEq, Int.reduceBEq, Int.reduceAdd, Int.reduceSub, Int.reduceNeg, Int.reduceMul, Int.reduceMod, decide_true, decide_false, Bool.not_true, Bool.not_false, Bool.false_eq_true, Bool.true_eq_false, szc, sz0, Option.map_some, Option.isSome_some, and_self, and_true, true_and, gcF_same, oEq_int, oNe_int, oAdd_int, oSub_int, oLt_int, oLe_int, oGt_int, oGe_int, oIx_lst, oIx_tup, oNotN_e, oIsN_e, ne_eq, not_false_eq_true, not_true_eq_false, Int.natCast_succ, Int.cast_ofNat_Int, beq_self_eq_true, Bool.and_true, Bool.and_false, Bool.true_and, Bool.false_and, wi0, we00, we01, we02, we03, wi1, we10, we11, we12, we13, wi2, we20, we21, we22, we23, wi3, we30, we31, we32, we33, ln1, at10, ln2, at20, at21, ln3, at30, at31, at32, ln4, at40, at41, at42, at43, q]
  obtain ⟨b, hb, b0⟩ : ∃ b : Int, atI [D.int 0, .int 7, .int 10000000000000000000000000] r = some (.int b) ∧ 0 ≤ b := by
    have z : r = 0 ∨ r = 1 ∨ r = 2 := by omega
    rcases z with z | z | z
    · exact ⟨0, by rw [z]; rfl, by decide⟩
    · exact ⟨7, by rw [z]; rfl, by decide⟩
    · exact ⟨10000000000000000000000000, by rw [z]; rfl, by decide⟩
  refine ⟨b, x', px, b0, ?_⟩
  unfold e_l_base
  have e : p_l_base ([D.loc 0].map some ++ List.replicate 0 none) (x :: rest) = .rt (.int b) (x' :: rest) := by
    show fRet (fBin oIx _ (fCall e_l_draw 2 [] (fCons (fVar 0) (fCons (fC (.int 3)) fNil)))) [some (.loc 0)] (x :: rest) = _
    rw [ret_e, bin_e, l, bind_ok, call_draw, h, bind_ok, oIx_lst, hb, optR_ok, stB_ok]
  rw [body_rt e, gcF_cons]
end K51

set_option Elab.async false
set_option linter.all false
set_option maxRecDepth 100000
set_option maxHeartbeats 4000000
namespace K51
open PySem PySem.Spec PyProof.Rows L2 DL FL
variable {st rest : FL.St}
theorem sp_nl {p : Sp} : noLoc p.d = true := by
  cases p <;> try rfl
theorem sps_nl {ps : List Sp} : noLocL (ps.map Sp.d) = true := by
  rw [noLocL_all]
  intro d h
  obtain ⟨q, _, e⟩ := List.mem_map.mp h
  rw [← e]
  exact sp_nl
theorem ints_nl {ns : List Int} : noLocL (ns.map D.int) = true := by
  rw [noLocL_all]
  intro d h
  obtain ⟨q, _, e⟩ := List.mem_map.mp h
  rw [← e]
  rfl
theorem Pl.clean {ns : List Int} {x : Option DO} (h : Pl ns x) : Clean [x] := by
  obtain ⟨k, p2, p3, _, _, _, _, rfl⟩ := h
  exact clean_lst (by simp [noLocL, noLoc, ints_nl])
abbrev b_st : fS := fSeq (fSet 5 (fCall e_l_draw 2 [] (fCons (fVar 0) (fCons (fC (.int 8)) fNil)))) (fSeq (fSet 6 (fBin oIx (fLst (fCons (fC (.str "top")) (fCons (fC (.str "right")) (fCons (fC (.str "bottom")) (fCons (fC (.str "left")) fNil))))) (fCall e_l_draw 2 [] (fCons (fVar 0) (fCons (fC (.int 4)) fNil))))) (fIfS (fTest (fBin oLt (fVar 5) (fC (.int 2)))) (fDrop (fApp (fVar 3) (fBin oIx (fLst (fCons (fTup (fCons (fC (.str "turn")) fNil)) (fCons (fTup (fCons (fC (.str "mirror")) fNil)) fNil))) (fVar 5)))) (fIfS (fTest (fBin oLt (fVar 5) (fC (.int 5)))) (fDrop (fApp (fVar 3) (fTup (fCons (fC (.str "cut")) (fCons (fVar 6) fNil))))) (fDrop (fApp (fVar 3) (fTup (fCons (fC (.str "add")) (fCons (fVar 6) (fCons (fBin oAdd (fVar 2) (fCall e_l_draw 2 [] (fCons (fVar 0) (fCons (fC (.int 3)) fNil)))) fNil)))))))))
abbrev Ev (n b : Int) (K a c : Option D) : Rho := [some (.loc 0), some (.int n), some (.int b), some (.loc 1), K, a, c]
theorem app1 {m : fE} {n b : Int} {K a c : Option D} {x y : Option DO} {ps : List Sp} {p : Sp} (hl : ps.length < 1000) (h : m (Ev n b K a c) [x, some (.lst (ps.map Sp.d))] = .ok p.d [y, some (.lst (ps.map Sp.d))]) :
    (fDrop (fApp (fVar 3) m)) (Ev n b K a c) [x, some (.lst (ps.map Sp.d))] = .nx (Ev n b K a c) [y, some (.lst ((ps ++ [p]).map Sp.d))] := by
  rw [drop_e, app_e (a := 1) (st1 := [x, some (.lst (ps.map Sp.d))]) (es := ps.map Sp.d) (ds := ps.map Sp.d) rfl rfl h rfl (by rw [List.length_map, sizeLine_e]; omega), stB_ok, List.map_append]
  rfl
theorem st_step {ns : List Int} {x : Option DO} {n b : Int} {K a c : Option D} {ps : List Sp} (hx : Pl ns x) (hb : 0 ≤ b) (hl : ps.length < 1000) :
    ∃ x' p a' c', Pl ns x' ∧ b_st (Ev n b K a c) [x, some (.lst (ps.map Sp.d))] = .nx (Ev n b K a' c') [x', some (.lst ((ps ++ [p]).map Sp.d))] := by
  obtain ⟨r, x1, p1, r0, r8, h1⟩ := draw_ok (rest := [some (.lst (ps.map Sp.d))]) hx (c := 8) (by decide) (by decide)
  obtain ⟨q, x2, p2, q0, q4, h2⟩ := draw_ok (rest := [some (.lst (ps.map Sp.d))]) p1 (c := 4) (by decide) (by decide)
  obtain ⟨u, x3, p3, u0, u3, h3⟩ := draw_ok (rest := [some (.lst (ps.map Sp.d))]) p2 (c := 3) (by decide) (by decide)
  obtain ⟨s, hs, _⟩ := pick_ok q
  have q4' : q % 4 = q := by omega
  rw [q4'] at hs
  have e1 : (fSet 5 (fCall e_l_draw 2 [] (fCons (fVar 0) (fCons (fC (.int 8)) fNil)))) (Ev n b K a c) [x, some (.lst (ps.map Sp.d))] = .nx (Ev n b K (some (.int r)) c) [x1, some (.lst (ps.map Sp.d))] := by
    rw [set_e, call_draw, h1, stB_ok]
    rfl
  have e2 : (fSet 6 (fBin oIx (fLst (fCons (fC (.str "top")) (fCons (fC (.str "right")) (fCons (fC (.str "bottom")) (fCons (fC (.str "left")) fNil))))) (fCall e_l_draw 2 [] (fCons (fVar 0) (fCons (fC (.int 4)) fNil))))) (Ev n b K (some (.int r)) c) [x1, some (.lst (ps.map Sp.d))] = .nx (Ev n b K (some (.int r)) (some s.d)) [x2, some (.lst (ps.map Sp.d))] := by
    have l : (fLst (fCons (fC (.str "top")) (fCons (fC (.str "right")) (fCons (fC (.str "bottom")) (fCons (fC (.str "left")) fNil))))) (Ev n b K (some (.int r)) c) [x1, some (.lst (ps.map Sp.d))] = .ok (.lst [.str "top", .str "right", .str "bottom", .str "left"]) [x1, some (.lst (ps.map Sp.d))] := rfl
    rw [set_e, bin_e, l, bind_ok, call_draw, h2, bind_ok, oIx_lst, hs, optR_ok, stB_ok]
    rfl
  have e3 : (fTest (fBin oLt (fVar 5) (fC (.int 2)))) (Ev n b K (some (.int r)) (some s.d)) [x2, some (.lst (ps.map Sp.d))] = .ok (decide (r < 2)) [x2, some (.lst (ps.map Sp.d))] := rfl
  have e4 : (fTest (fBin oLt (fVar 5) (fC (.int 5)))) (Ev n b K (some (.int r)) (some s.d)) [x2, some (.lst (ps.map Sp.d))] = .ok (decide (r < 5)) [x2, some (.lst (ps.map Sp.d))] := rfl
  by_cases c1 : r < 2
  · obtain ⟨p, hp⟩ : ∃ p : Sp, atI [D.tup [.str "turn"], .tup [.str "mirror"]] r = some p.d := by
      have z : r = 0 ∨ r = 1 := by omega
      rcases z with z | z
      · exact ⟨.turn, by rw [z]; rfl⟩
      · exact ⟨.mir, by rw [z]; rfl⟩
    refine ⟨x2, p, some (.int r), some s.d, p2, ?_⟩
    rw [b_st, seq_e, e1, seqK_nx, seq_e, e2, seqK_nx, ifS_e, e3, stB_ok, if_pos (decide_eq_true c1)]
    refine app1 hl ?_
    have l : (fLst (fCons (fTup (fCons (fC (.str "turn")) fNil)) (fCons (fTup (fCons (fC (.str "mirror")) fNil)) fNil))) (Ev n b K (some (.int r)) (some s.d)) [x2, some (.lst (ps.map Sp.d))] = .ok (.lst [.tup [.str "turn"], .tup [.str "mirror"]]) [x2, some (.lst (ps.map Sp.d))] := rfl
    have v : fVar 5 (Ev n b K (some (.int r)) (some s.d)) [x2, some (.lst (ps.map Sp.d))] = .ok (.int r) [x2, some (.lst (ps.map Sp.d))] := rfl
    rw [bin_e, l, bind_ok, v, bind_ok, oIx_lst, hp, optR_ok]
  · by_cases c2 : r < 5
    · refine ⟨x2, .cut s, some (.int r), some s.d, p2, ?_⟩
      rw [b_st, seq_e, e1, seqK_nx, seq_e, e2, seqK_nx, ifS_e, e3, stB_ok, if_neg (by simpa using c1), ifS_e, e4, stB_ok, if_pos (decide_eq_true c2)]
      exact app1 hl rfl
    · refine ⟨x3, .add s (b + u).toNat, some (.int r), some s.d, p3, ?_⟩
      rw [b_st, seq_e, e1, seqK_nx, seq_e, e2, seqK_nx, ifS_e, e3, stB_ok, if_neg (by simpa using c1), ifS_e, e4, stB_ok, if_neg (by simpa using c2)]
      refine app1 hl ?_
      have w : (Sp.add s (b + u).toNat).d = .tup [.str "add", s.d, .int (b + u)] := by
        show D.tup [.str "add", s.d, .int (((b + u).toNat : Nat) : Int)] = _
        rw [Int.toNat_of_nonneg (by omega)]
      rw [w]
      have h3' := h3
      simp only [seq_e, seqK_nx, seqK_rt, ifS_e, stB_ok, bind_ok, test_e, blR_ok, not_e, and_e, or_e, andV_e, andK_t, andK_f, notV_e, notK_ok, if_e, nil_e, cons_e, lst_e, tup_e, fn_e, call_e, var_e, varK_ok, c_e, optR_ok, bin_e, drop_e, ret_e, set_e, asg_e, optS_ok, next_e, gn_e, gt_e, gc_e, gcK_ok, gl_e, isi_e, isC_e, fld_e, fldK_ins, neg_e, negK_ok, meth_e, methK_ins, meth0_e, meth0K_ins, make_e, opI_e, opIK_ok, List.append_nil, List.nil_append, List.length_cons, List.length_nil, List.map_cons, List.map_nil, List.cons_append, List.replicate_succ, List.replicate_zero, List.replicate, List.getElem?_cons_zero, List.getElem?_cons_succ, List.set_cons_zero, List.set_cons_succ, Nat.zero_add, reduceIte, Nat.reduceAdd, Nat.reduceEqDiff, Nat.reduceLeDiff, Nat.reduceLT, Int.reduceLT, Int.reduceLE, Int.reduceEq, Int.reduceBEq, Int.reduceAdd, Int.reduceSub, Int.reduceNeg, Int.reduceMul, Int.reduceMod, decide_true, decide_false, Bool.not_true, Bool.not_false, Bool.false_eq_true, Bool.true_eq_false, szc, sz0, Option.map_some, Option.isSome_some, and_self, and_true, true_and, gcF_same, oEq_int, oNe_int, oAdd_int, oSub_int, oLt_int, oLe_int, oGt_int, oGe_int, oIx_lst, oIx_tup, oNotN_e, oIsN_e, ne_eq, not_false_eq_true, not_true_eq_false, Int.natCast_succ, Int.cast_ofNat_Int, beq_self_eq_true, Bool.and_true, Bool.and_false, Bool.true_and, Bool.false_and, wi0, we00, we01, we02, we03, wi1, we10, we11, we12, we13, wi2, we20, we21, we22, we23, wi3, we30, we31, we32, we33, ln1, at10, ln2, at20, at21, ln3, at30, at31, at32, ln4, at40, at41, at42, at43, h3']
theorem st_loop {ns : List Int} {n b : Int} (hb : 0 ≤ b) : ∀ {ds : List D} {ps : List Sp} {x : Option DO} {K a c : Option D}, Pl ns x → ps.length + ds.length ≤ 900 →
    ∃ ps' : List Sp, ∃ x' K' a' c', Pl ns x' ∧ ps'.length = ds.length ∧ fForGo (fGn 4) b_st ds (Ev n b K a c) [x, some (.lst (ps.map Sp.d))] = .nx (Ev n b K' a' c') [x', some (.lst ((ps ++ ps').map Sp.d))]
  | [], ps, x, K, a, c, hx, hl => ⟨[], x, K, a, c, hx, rfl, by rw [List.append_nil]; rfl⟩
  | d :: ds, ps, x, K, a, c, hx, hl => by
    have hl' : ps.length + (ds.length + 1) ≤ 900 := hl
    obtain ⟨x1, p, a1, c1, px, e⟩ := st_step (n := n) (K := some d) (a := a) (c := c) (ps := ps) hx hb (by omega)
    obtain ⟨ps', x', K', a', c', px', l, h⟩ := st_loop (n := n) hb (ds := ds) (ps := ps ++ [p]) (K := some d) (a := a1) (c := c1) px (by rw [List.length_append]; simp; omega)
    refine ⟨p :: ps', x', K', a', c', px', by simp [l], ?_⟩
    rw [for_cons (ρ1 := Ev n b (some d) a c) (st1 := [x, some (.lst (ps.map Sp.d))]) rfl e, h, List.append_assoc]
    rfl
theorem steps_ok {ns : List Int} {x : Option DO} {n b : Int} (hx : Pl ns x) (hb : 0 ≤ b) (h0 : 0 ≤ n) (h1 : n ≤ 200) :
    ∃ ps : List Sp, ∃ x', Pl ns x' ∧ ((ps.length : Nat) : Int) = n ∧ e_l_steps [.loc 0, .int n, .int b] [x] = .ok (.lst (ps.map Sp.d)) [x'] := by
  obtain ⟨ps, x', K, a, c, px, l, h⟩ := st_loop (n := n) hb (ds := rngD 0 n.toNat) (ps := []) (K := none) (a := none) (c := none) hx (by rw [rng_len]; simp; omega)
  rw [rng_len] at l
  refine ⟨ps, x', px, by omega, ?_⟩
  unfold e_l_steps
  have e : p_l_steps ([D.loc 0, .int n, .int b].map some ++ List.replicate 4 none) [x] = .rt (.lst (ps.map Sp.d)) [x', none] := by
    have r1 : iR1 (fCons (fVar 1) fNil) (Ev n b none none none) [x, some (.lst [])] = .ok (rngD 0 n.toNat) [x, some (.lst [])] := iR1_e rfl (by omega)
    show fSeq (fSet 3 (fLstO fNil)) (fSeq (fFor _ (fGn 4) b_st) (fRet (fFrz (fVar 3)))) [some (.loc 0), some (.int n), some (.int b), none, none, none, none] [x] = _
    rw [seq_e]
    show seqK (.nx (Ev n b none none none) [x, some (.lst [])]) _ = _
    rw [seqK_nx, seq_e, for_e, r1, stB_ok]
    have h' : fForGo (fGn 4) b_st (rngD 0 n.toNat) (Ev n b none none none) [x, some (.lst [])] = .nx (Ev n b K a c) [x', some (.lst (ps.map Sp.d))] := h
    rw [h', seqK_nx]
    rfl
  have nl : noLoc (.lst (ps.map Sp.d)) = true := by simp [noLoc, sps_nl]
  rw [body_rt e, nl]
  have g := gcF_app (st := [x']) (t := [none]) (px.clean _)
  exact congrArg (Res.ok _) g
theorem runs_i {ps : List Sp} {h w : Int} (hh : 1 ≤ h) (hw : 1 ≤ w) (b : h + w + ps.length ≤ 900) : e_l_runs [.lst (ps.map Sp.d), .int h, .int w] st = .ok (.bl (decide ((Rsz ps).1 ≤ h ∧ (Rsz ps).2 ≤ w))) st := by
  have q := runs_ok (st := st) (ps := ps) (h := h.toNat) (w := w.toNat) (by omega) (by omega) (by omega)
  rw [Int.toNat_of_nonneg (by omega), Int.toNat_of_nonneg (by omega)] at q
  rw [q]
  congr 2
  rw [Bool.eq_iff_iff, run_size (by omega) (by omega), Int.toNat_of_nonneg (by omega), Int.toNat_of_nonneg (by omega)]
  simp
end K51

set_option Elab.async false
set_option linter.all false
set_option maxRecDepth 100000
set_option maxHeartbeats 4000000
namespace K51
open PySem PySem.Spec PyProof.Rows L2 DL FL
variable {st rest : FL.St}
theorem chain_t {o o' : D → D → Option D} {fa fb fc : fE} {ρ : Rho} {a b c : D} {v : Bool} (h1 : fa ρ st = .ok a st) (h2 : fb ρ st = .ok b st) (h3 : o a b = some (.bl true)) (h4 : fc ρ st = .ok c st) (h5 : o' b c = some (.bl v)) : fTest (fChain o o' fa fb fc) ρ st = .ok v st := by
  rw [test_e]
  unfold fChain
  rw [h1, bind_ok, h2, bind_ok, h3]
  dsimp only
  rw [h4, bind_ok, h5, optR_ok, bind_ok, blR_ok]
abbrev b_law : fS := (fSeq (fSet 3 (fCall e_l_steps 3 [] (fCons (fVar 1) (fCons (fCall e_l_draw 2 [] (fCons (fVar 1) (fCons (fC (.int 11)) fNil))) (fCons (fCall e_l_base 1 [] (fCons (fVar 1) fNil)) fNil))))) (fSeq (fSet 4 (fCall e_running_size 1 [] (fCons (fVar 3) fNil))) (fSeq (fIfS (fOr (fNot (fTest (fIsi [.tuple] (fVar 4)))) (fOr (fTest (fBin oNe (fFn lLen (fCons (fVar 4) fNil)) (fC (.int 2)))) (fTest (fBin oNe (fCall e_running_size 1 [] (fCons (fFn lTuple (fCons (fVar 3) fNil)) fNil)) (fVar 4))))) (fRet (fC (.bl false))) fNext) (fSeq (fAsg (fVar 4) (fGt 2 (fGc (fGn 5) (fGc (fGn 6) fGl)))) (fSeq (fIfS (fOr (fNot (fTest (fChain oLe oLe (fC (.int 1)) (fVar 5) (fBin oAdd (fFn lLen (fCons (fVar 3) fNil)) (fC (.int 1)))))) (fNot (fTest (fChain oLe oLe (fC (.int 1)) (fVar 6) (fBin oAdd (fFn lLen (fCons (fVar 3) fNil)) (fC (.int 1))))))) (fRet (fC (.bl false))) fNext) (fSeq (fIfS (fOr (fNot (fTest (fCall e_l_runs 3 [] (fCons (fVar 3) (fCons (fVar 5) (fCons (fVar 6) fNil)))))) (fNot (fTest (fCall e_l_runs 3 [] (fCons (fVar 3) (fCons (fBin oAdd (fVar 5) (fCall e_l_draw 2 [] (fCons (fVar 1) (fCons (fC (.int 4)) fNil)))) (fCons (fBin oAdd (fVar 6) (fC (.int 3))) fNil))))))) (fRet (fC (.bl false))) fNext) (fSeq (fIfS (fAnd (fTest (fBin oGt (fVar 5) (fC (.int 1)))) (fTest (fCall e_l_runs 3 [] (fCons (fVar 3) (fCons (fBin oSub (fVar 5) (fC (.int 1))) (fCons (fBin oAdd (fVar 6) (fC (.int 3))) fNil)))))) (fRet (fC (.bl false))) fNext) (fIfS (fAnd (fTest (fBin oGt (fVar 6) (fC (.int 1)))) (fTest (fCall e_l_runs 3 [] (fCons (fVar 3) (fCons (fBin oAdd (fVar 5) (fC (.int 3))) (fCons (fBin oSub (fVar 6) (fC (.int 1))) fNil)))))) (fRet (fC (.bl false))) fNext))))))))
abbrev El (S : D) (a b c e f : Option D) : Rho := [some S, some (.loc 0), a, b, c, e, f, none]
theorem law_step {ns : List Int} {x : Option DO} {S : D} {a b c e f : Option D} (hx : Pl ns x) : ∃ x' b' c' e' f', Pl ns x' ∧ b_law (El S a b c e f) [x] = .nx (El S a b' c' e' f') [x'] := by
  obtain ⟨n, x1, p1, n0, n1, h1⟩ := draw_ok (rest := []) hx (c := 11) (by decide) (by decide)
  obtain ⟨bs, x2, p2, b0, h2⟩ := base_ok (rest := []) p1
  obtain ⟨ps, x3, p3, pn, h3⟩ := steps_ok p2 b0 n0 (by omega)
  obtain ⟨u, x4, p4, u0, u1, h4⟩ := draw_ok (rest := []) p3 (c := 4) (by decide) (by decide)
  have rl := running_ok (st := [x3]) (IsS.lst (ps := ps)) (by omega) p3.clean
  have rt := running_ok (st := [x3]) (IsS.tup (ps := ps)) (by omega) p3.clean
  have ge := Rsz_ge (ps := ps)
  have le := Rsz_le (ps := ps)
  have ru : ∀ {st : FL.St} {h w : Int}, 1 ≤ h → 1 ≤ w → h + w ≤ 100 → e_l_runs [.lst (ps.map Sp.d), .int h, .int w] st = .ok (.bl (decide ((Rsz ps).1 ≤ h ∧ (Rsz ps).2 ≤ w))) st := fun a b c => runs_i a b (by omega)
  revert rl rt ge le ru
  generalize (Rsz ps).1 = H
  generalize (Rsz ps).2 = W
  intro rl rt ge le ru
  have ln : lLen [.lst (ps.map Sp.d)] = some (.int n) := by
    rw [ll_lst, List.length_map, pn]
  rw [pn] at le
  obtain ⟨⟨H1, W1⟩, ⟨H2, W2⟩⟩ := And.intro ge le
  refine ⟨x4, some (.lst (ps.map Sp.d)), some (.tup [.int H, .int W]), some (.int H), some (.int W), p4, ?_⟩
  generalize hSt : D.lst (ps.map Sp.d) = Sd at *
  generalize hTp : D.tup (ps.map Sp.d) = Td at *
  have tp : lTuple [Sd] = some Td := by rw [← hSt, ← hTp]; rfl
  have s1 : (fSet 3 (fCall e_l_steps 3 [] (fCons (fVar 1) (fCons (fCall e_l_draw 2 [] (fCons (fVar 1) (fCons (fC (.int 11)) fNil))) (fCons (fCall e_l_base 1 [] (fCons (fVar 1) fNil)) fNil))))) (El S a b c e f) [x] = .nx (El S a (some Sd) c e f) [x3] := by
    simp only [seq_e, seqK_nx, seqK_rt, ifS_e, stB_ok, bind_ok, test_e, blR_ok, not_e, and_e, or_e, andV_e, andK_t, andK_f, notV_e, notK_ok, if_e, nil_e, cons_e, lst_e, tup_e, fn_e, call_e, var_e, varK_ok, c_e, optR_ok, bin_e, drop_e, ret_e, set_e, asg_e, optS_ok, next_e, gn_e, gt_e, gc_e, gcK_ok, gl_e, isi_e, isC_e, fld_e, fldK_ins, neg_e, negK_ok, meth_e, methK_ins, meth0_e, meth0K_ins, make_e, opI_e, opIK_ok, List.append_nil, List.nil_append, List.length_cons, List.length_nil, List.map_cons, List.map_nil, List.cons_append, List.replicate_succ, List.replicate_zero, List.replicate, List.getElem?_cons_zero, List.getElem?_cons_succ, List.set_cons_zero, List.set_cons_succ, Nat.zero_add, reduceIte, Nat.reduceAdd, Nat.reduceEqDiff, Nat.reduceLeDiff, Nat.reduceLT, Int.reduceLT, Int.reduceLE, Int.reduceEq, Int.reduceBEq, Int.reduceAdd, Int.reduceSub, Int.reduceNeg, Int.reduceMul, Int.reduceMod, decide_true, decide_false, Bool.not_true, Bool.not_false, Bool.false_eq_true, Bool.true_eq_false, szc, sz0, Option.map_some, Option.isSome_some, and_self, and_true, true_and, gcF_same, oEq_int, oNe_int, oAdd_int, oSub_int, oLt_int, oLe_int, oGt_int, oGe_int, oIx_lst, oIx_tup, oNotN_e, oIsN_e, ne_eq, not_false_eq_true, not_true_eq_false, Int.natCast_succ, Int.cast_ofNat_Int, beq_self_eq_true, Bool.and_true, Bool.and_false, Bool.true_and, Bool.false_and, wi0, we00, we01, we02, we03, wi1, we10, we11, we12, we13, wi2, we20, we21, we22, we23, wi3, we30, we31, we32, we33, ln1, at10, ln2, at20, at21, ln3, at30, at31, at32, ln4, at40, at41, at42, at43, h1, h2, h3]
  have s2 : (fSet 4 (fCall e_running_size 1 [] (fCons (fVar 3) fNil))) (El S a (some Sd) c e f) [x3] = .nx (El S a (some Sd) (some (.tup [.int H, .int W])) e f) [x3] := by
    simp only [seq_e, seqK_nx, seqK_rt, ifS_e, stB_ok, bind_ok, test_e, blR_ok, not_e, and_e, or_e, andV_e, andK_t, andK_f, notV_e, notK_ok, if_e, nil_e, cons_e, lst_e, tup_e, fn_e, call_e, var_e, varK_ok, c_e, optR_ok, bin_e, drop_e, ret_e, set_e, asg_e, optS_ok, next_e, gn_e, gt_e, gc_e, gcK_ok, gl_e, isi_e, isC_e, fld_e, fldK_ins, neg_e, negK_ok, meth_e, methK_ins, meth0_e, meth0K_ins, make_e, opI_e, opIK_ok, List.append_nil, List.nil_append, List.length_cons, List.length_nil, List.map_cons, List.map_nil, List.cons_append, List.replicate_succ, List.replicate_zero, List.replicate, List.getElem?_cons_zero, List.getElem?_cons_succ, List.set_cons_zero, List.set_cons_succ, Nat.zero_add, reduceIte, Nat.reduceAdd, Nat.reduceEqDiff, Nat.reduceLeDiff, Nat.reduceLT, Int.reduceLT, Int.reduceLE, Int.reduceEq, Int.reduceBEq, Int.reduceAdd, Int.reduceSub, Int.reduceNeg, Int.reduceMul, Int.reduceMod, decide_true, decide_false, Bool.not_true, Bool.not_false, Bool.false_eq_true, Bool.true_eq_false, szc, sz0, Option.map_some, Option.isSome_some, and_self, and_true, true_and, gcF_same, oEq_int, oNe_int, oAdd_int, oSub_int, oLt_int, oLe_int, oGt_int, oGe_int, oIx_lst, oIx_tup, oNotN_e, oIsN_e, ne_eq, not_false_eq_true, not_true_eq_false, Int.natCast_succ, Int.cast_ofNat_Int, beq_self_eq_true, Bool.and_true, Bool.and_false, Bool.true_and, Bool.false_and, wi0, we00, we01, we02, we03, wi1, we10, we11, we12, we13, wi2, we20, we21, we22, we23, wi3, we30, we31, we32, we33, ln1, at10, ln2, at20, at21, ln3, at30, at31, at32, ln4, at40, at41, at42, at43, rl]
  have q1 : isTs (.tup [.int H, .int W]) [.tuple] = some true := rfl
  have q2 : (tyD (.tup [.int H, .int W])).isSome = true := rfl
  have s3 : (fIfS (fOr (fNot (fTest (fIsi [.tuple] (fVar 4)))) (fOr (fTest (fBin oNe (fFn lLen (fCons (fVar 4) fNil)) (fC (.int 2)))) (fTest (fBin oNe (fCall e_running_size 1 [] (fCons (fFn lTuple (fCons (fVar 3) fNil)) fNil)) (fVar 4))))) (fRet (fC (.bl false))) fNext) (El S a (some Sd) (some (.tup [.int H, .int W])) e f) [x3] = .nx (El S a (some Sd) (some (.tup [.int H, .int W])) e f) [x3] := by
    simp only [seq_e, seqK_nx, seqK_rt, ifS_e, stB_ok, bind_ok, test_e, blR_ok, not_e, and_e, or_e, andV_e, andK_t, andK_f, notV_e, notK_ok, if_e, nil_e, cons_e, lst_e, tup_e, fn_e, call_e, var_e, varK_ok, c_e, optR_ok, bin_e, drop_e, ret_e, set_e, asg_e, optS_ok, next_e, gn_e, gt_e, gc_e, gcK_ok, gl_e, isi_e, isC_e, fld_e, fldK_ins, neg_e, negK_ok, meth_e, methK_ins, meth0_e, meth0K_ins, make_e, opI_e, opIK_ok, List.append_nil, List.nil_append, List.length_cons, List.length_nil, List.map_cons, List.map_nil, List.cons_append, List.replicate_succ, List.replicate_zero, List.replicate, List.getElem?_cons_zero, List.getElem?_cons_succ, List.set_cons_zero, List.set_cons_succ, Nat.zero_add, reduceIte, Nat.reduceAdd, Nat.reduceEqDiff, Nat.reduceLeDiff, Nat.reduceLT, Int.reduceLT, Int.reduceLE, Int.reduceEq, Int.reduceBEq, Int.reduceAdd, Int.reduceSub, Int.reduceNeg, Int.reduceMul, Int.reduceMod, decide_true, decide_false, Bool.not_true, Bool.not_false, Bool.false_eq_true, Bool.true_eq_false, szc, sz0, Option.map_some, Option.isSome_some, and_self, and_true, true_and, gcF_same, oEq_int, oNe_int, oAdd_int, oSub_int, oLt_int, oLe_int, oGt_int, oGe_int, oIx_lst, oIx_tup, oNotN_e, oIsN_e, ne_eq, not_false_eq_true, not_true_eq_false, Int.natCast_succ, Int.cast_ofNat_Int, beq_self_eq_true, Bool.and_true, Bool.and_false, Bool.true_and, Bool.false_and, wi0, we00, we01, we02, we03, wi1, we10, we11, we12, we13, wi2, we20, we21, we22, we23, wi3, we30, we31, we32, we33, ln1, at10, ln2, at20, at21, ln3, at30, at31, at32, ln4, at40, at41, at42, at43, q1, q2, rt, tp, oNe_int2]
  have s4 : (fAsg (fVar 4) (fGt 2 (fGc (fGn 5) (fGc (fGn 6) fGl)))) (El S a (some Sd) (some (.tup [.int H, .int W])) e f) [x3] = .nx (El S a (some Sd) (some (.tup [.int H, .int W])) (some (.int H)) (some (.int W))) [x3] := rfl
  have z1 : (fBin oAdd (fFn lLen (fCons (fVar 3) fNil)) (fC (.int 1))) (El S a (some Sd) (some (.tup [.int H, .int W])) (some (.int H)) (some (.int W))) [x3] = .ok (.int (n + 1)) [x3] := by
    simp only [seq_e, seqK_nx, seqK_rt, ifS_e, stB_ok, bind_ok, test_e, blR_ok, not_e, and_e, or_e, andV_e, andK_t, andK_f, notV_e, notK_ok, if_e, nil_e, cons_e, lst_e, tup_e, fn_e, call_e, var_e, varK_ok, c_e, optR_ok, bin_e, drop_e, ret_e, set_e, asg_e, optS_ok, next_e, gn_e, gt_e, gc_e, gcK_ok, gl_e, isi_e, isC_e, fld_e, fldK_ins, neg_e, negK_ok, meth_e, methK_ins, meth0_e, meth0K_ins, make_e, opI_e, opIK_ok, List.append_nil, List.nil_append, List.length_cons, List.length_nil, List.map_cons, List.map_nil, List.cons_append, List.replicate_succ, List.replicate_zero, List.replicate, List.getElem?_cons_zero, List.getElem?_cons_succ, List.set_cons_zero, List.set_cons_succ, Nat.zero_add, reduceIte, Nat.reduceAdd, Nat.reduceEqDiff, Nat.reduceLeDiff, Nat.reduceLT, Int.reduceLT, Int.reduceLE, Int.reduceEq, Int.reduceBEq, Int.reduceAdd, Int.reduceSub, Int.reduceNeg, Int.reduceMul, Int.reduceMod, decide_true, decide_false, Bool.not_true, Bool.not_false, Bool.false_eq_true, Bool.true_eq_false, szc, sz0, Option.map_some, Option.isSome_some, and_self, and_true, true_and, gcF_same, oEq_int, oNe_int, oAdd_int, oSub_int, oLt_int, oLe_int, oGt_int, oGe_int, oIx_lst, oIx_tup, oNotN_e, oIsN_e, ne_eq, not_false_eq_true, not_true_eq_false, Int.natCast_succ, Int.cast_ofNat_Int, beq_self_eq_true, Bool.and_true, Bool.and_false, Bool.true_and, Bool.false_and, wi0, we00, we01, we02, we03, wi1, we10, we11, we12, we13, wi2, we20, we21, we22, we23, wi3, we30, we31, we32, we33, ln1, at10, ln2, at20, at21, ln3, at30, at31, at32, ln4, at40, at41, at42, at43, ln]
  have z2 : (fTest (fChain oLe oLe (fC (.int 1)) (fVar 5) (fBin oAdd (fFn lLen (fCons (fVar 3) fNil)) (fC (.int 1))))) (El S a (some Sd) (some (.tup [.int H, .int W])) (some (.int H)) (some (.int W))) [x3] = .ok true [x3] :=
    chain_t rfl rfl (by rw [oLe_int, decide_eq_true H1]) z1 (by rw [oLe_int, decide_eq_true H2])
  have z3 : (fTest (fChain oLe oLe (fC (.int 1)) (fVar 6) (fBin oAdd (fFn lLen (fCons (fVar 3) fNil)) (fC (.int 1))))) (El S a (some Sd) (some (.tup [.int H, .int W])) (some (.int H)) (some (.int W))) [x3] = .ok true [x3] :=
    chain_t rfl rfl (by rw [oLe_int, decide_eq_true W1]) z1 (by rw [oLe_int, decide_eq_true W2])
  have s5 : (fIfS (fOr (fNot (fTest (fChain oLe oLe (fC (.int 1)) (fVar 5) (fBin oAdd (fFn lLen (fCons (fVar 3) fNil)) (fC (.int 1)))))) (fNot (fTest (fChain oLe oLe (fC (.int 1)) (fVar 6) (fBin oAdd (fFn lLen (fCons (fVar 3) fNil)) (fC (.int 1))))))) (fRet (fC (.bl false))) fNext) (El S a (some Sd) (some (.tup [.int H, .int W])) (some (.int H)) (some (.int W))) [x3] = .nx (El S a (some Sd) (some (.tup [.int H, .int W])) (some (.int H)) (some (.int W))) [x3] := by
    rw [ifS_e, or_e, not_e, z2, bind_ok, bind_ok, if_neg (by decide), not_e, z3, bind_ok, stB_ok, if_neg (by decide), next_e]
  have r1 := ru (st := [x3]) (h := H) (w := W) (by omega) (by omega) (by omega)
  rw [decide_eq_true (by omega)] at r1
  have r2 := ru (st := [x4]) (h := H + u) (w := W + 3) (by omega) (by omega) (by omega)
  rw [decide_eq_true (by omega)] at r2
  have s6 : (fIfS (fOr (fNot (fTest (fCall e_l_runs 3 [] (fCons (fVar 3) (fCons (fVar 5) (fCons (fVar 6) fNil)))))) (fNot (fTest (fCall e_l_runs 3 [] (fCons (fVar 3) (fCons (fBin oAdd (fVar 5) (fCall e_l_draw 2 [] (fCons (fVar 1) (fCons (fC (.int 4)) fNil)))) (fCons (fBin oAdd (fVar 6) (fC (.int 3))) fNil))))))) (fRet (fC (.bl false))) fNext) (El S a (some Sd) (some (.tup [.int H, .int W])) (some (.int H)) (some (.int W))) [x3] = .nx (El S a (some Sd) (some (.tup [.int H, .int W])) (some (.int H)) (some (.int W))) [x4] := by
    simp only [seq_e, seqK_nx, seqK_rt, ifS_e, stB_ok, bind_ok, test_e, blR_ok, not_e, and_e, or_e, andV_e, andK_t, andK_f, notV_e, notK_ok, if_e, nil_e, cons_e, lst_e, tup_e, fn_e, call_e, var_e, varK_ok, c_e, optR_ok, bin_e, drop_e, ret_e, set_e, asg_e, optS_ok, next_e, gn_e, gt_e, gc_e, gcK_ok, gl_e, isi_e, isC_e, fld_e, fldK_ins, neg_e, negK_ok, meth_e, methK_ins, meth0_e, meth0K_ins, make_e, opI_e, opIK_ok, List.append_nil, List.nil_append, List.length_cons, List.length_nil, List.map_cons, List.map_nil, List.cons_append, List.replicate_succ, List.replicate_zero, List.replicate, List.getElem?_cons_zero, List.getElem?_cons_succ, List.set_cons_zero, List.set_cons_succ, Nat.zero_add, reduceIte, Nat.reduceAdd, Nat.reduceEqDiff, Nat.reduceLeDiff, Nat.reduceLT, Int.reduceLT, Int.reduceLE, Int.reduceEq, Int.reduceBEq, Int.reduceAdd, Int.reduceSub, Int.reduceNeg, Int.reduceMul, Int.reduceMod, decide_true, decide_false, Bool.not_true, Bool.not_false, Bool.false_eq_true, Bool.true_eq_false, szc, sz0, Option.map_some, Option.isSome_some, and_self, and_true, true_and, gcF_same, oEq_int, oNe_int, oAdd_int, oSub_int, oLt_int, oLe_int, oGt_int, oGe_int, oIx_lst, oIx_tup, oNotN_e, oIsN_e, ne_eq, not_false_eq_true, not_true_eq_false, Int.natCast_succ, Int.cast_ofNat_Int, beq_self_eq_true, Bool.and_true, Bool.and_false, Bool.true_and, Bool.false_and, wi0, we00, we01, we02, we03, wi1, we10, we11, we12, we13, wi2, we20, we21, we22, we23, wi3, we30, we31, we32, we33, ln1, at10, ln2, at20, at21, ln3, at30, at31, at32, ln4, at40, at41, at42, at43, r1, r2, h4]
  have s7 : (fIfS (fAnd (fTest (fBin oGt (fVar 5) (fC (.int 1)))) (fTest (fCall e_l_runs 3 [] (fCons (fVar 3) (fCons (fBin oSub (fVar 5) (fC (.int 1))) (fCons (fBin oAdd (fVar 6) (fC (.int 3))) fNil)))))) (fRet (fC (.bl false))) fNext) (El S a (some Sd) (some (.tup [.int H, .int W])) (some (.int H)) (some (.int W))) [x4] = .nx (El S a (some Sd) (some (.tup [.int H, .int W])) (some (.int H)) (some (.int W))) [x4] := by
    by_cases g : 1 < H
    · have r3 := ru (st := [x4]) (h := H - 1) (w := W + 3) (by omega) (by omega) (by omega)
      rw [decide_eq_false (by omega)] at r3
      have d : decide (1 < H) = true := decide_eq_true g
      simp only [seq_e, seqK_nx, seqK_rt, ifS_e, stB_ok, bind_ok, test_e, blR_ok, not_e, and_e, or_e, andV_e, andK_t, andK_f, notV_e, notK_ok, if_e, nil_e, cons_e, lst_e, tup_e, fn_e, call_e, var_e, varK_ok, c_e, optR_ok, bin_e, drop_e, ret_e, set_e, asg_e, optS_ok, next_e, gn_e, gt_e, gc_e, gcK_ok, gl_e, isi_e, isC_e, fld_e, fldK_ins, neg_e, negK_ok, meth_e, methK_ins, meth0_e, meth0K_ins, make_e, opI_e, opIK_ok, List.append_nil, List.nil_append, List.length_cons, List.length_nil, List.map_cons, List.map_nil, List.cons_append, List.replicate_succ, List.replicate_zero, List.replicate, List.getElem?_cons_zero, List.getElem?_cons_succ, List.set_cons_zero, List.set_cons_succ, Nat.zero_add, reduceIte, Nat.reduceAdd, Nat.reduceEqDiff, Nat.reduceLeDiff, Nat.reduceLT, Int.reduceLT, Int.reduceLE, Int.reduceEq, Int.reduceBEq, Int.reduceAdd, Int.reduceSub, Int.reduceNeg, Int.reduceMul, Int.reduceMod, decide_true, decide_false, Bool.not_true, Bool.not_false, Bool.false_eq_true, Bool.true_eq_false, szc, sz0, Option.map_some, Option.isSome_some, and_self, and_true, true_and, gcF_same, oEq_int, oNe_int, oAdd_int, oSub_int, oLt_int, oLe_int, oGt_int, oGe_int, oIx_lst, oIx_tup, oNotN_e, oIsN_e, ne_eq, not_false_eq_true, not_true_eq_false, Int.natCast_succ, Int.cast_ofNat_Int, beq_self_eq_true, Bool.and_true, Bool.and_false, Bool.true_and, Bool.false_and, wi0, we00, we01, we02, we03, wi1, we10, we11, we12, we13, wi2, we20, we21, we22, we23, wi3, we30, we31, we32, we33, ln1, at10, ln2, at20, at21, ln3, at30, at31, at32, ln4, at40, at41, at42, at43, d, r3]
    · have d : decide (1 < H) = false := decide_eq_false g
      simp only [seq_e, seqK_nx, seqK_rt, ifS_e, stB_ok, bind_ok, test_e, blR_ok, not_e, and_e, or_e, andV_e, andK_t, andK_f, notV_e, notK_ok, if_e, nil_e, cons_e, lst_e, tup_e, fn_e, call_e, var_e, varK_ok, c_e, optR_ok, bin_e, drop_e, ret_e, set_e, asg_e, optS_ok, next_e, gn_e, gt_e, gc_e, gcK_ok, gl_e, isi_e, isC_e, fld_e, fldK_ins, neg_e, negK_ok, meth_e, methK_ins, meth0_e, meth0K_ins, make_e, opI_e, opIK_ok, List.append_nil, List.nil_append, List.length_cons, List.length_nil, List.map_cons, List.map_nil, List.cons_append, List.replicate_succ, List.replicate_zero, List.replicate, List.getElem?_cons_zero, List.getElem?_cons_succ, List.set_cons_zero, List.set_cons_succ, Nat.zero_add, reduceIte, Nat.reduceAdd, Nat.reduceEqDiff, Nat.reduceLeDiff, Nat.reduceLT, Int.reduceLT, Int.reduceLE, Int.reduceEq, Int.reduceBEq, Int.reduceAdd, Int.reduceSub, Int.reduceNeg, Int.reduceMul, Int.reduceMod, decide_true, decide_false, Bool.not_true, Bool.not_false, Bool.false_eq_true, Bool.true_eq_false, szc, sz0, Option.map_some, Option.isSome_some, and_self, and_true, true_and, gcF_same, oEq_int, oNe_int, oAdd_int, oSub_int, oLt_int, oLe_int, oGt_int, oGe_int, oIx_lst, oIx_tup, oNotN_e, oIsN_e, ne_eq, not_false_eq_true, not_true_eq_false, Int.natCast_succ, Int.cast_ofNat_Int, beq_self_eq_true, Bool.and_true, Bool.and_false, Bool.true_and, Bool.false_and, wi0, we00, we01, we02, we03, wi1, we10, we11, we12, we13, wi2, we20, we21, we22, we23, wi3, we30, we31, we32, we33, ln1, at10, ln2, at20, at21, ln3, at30, at31, at32, ln4, at40, at41, at42, at43, d]
  have s8 : (fIfS (fAnd (fTest (fBin oGt (fVar 6) (fC (.int 1)))) (fTest (fCall e_l_runs 3 [] (fCons (fVar 3) (fCons (fBin oAdd (fVar 5) (fC (.int 3))) (fCons (fBin oSub (fVar 6) (fC (.int 1))) fNil)))))) (fRet (fC (.bl false))) fNext) (El S a (some Sd) (some (.tup [.int H, .int W])) (some (.int H)) (some (.int W))) [x4] = .nx (El S a (some Sd) (some (.tup [.int H, .int W])) (some (.int H)) (some (.int W))) [x4] := by
    by_cases g : 1 < W
    · have r3 := ru (st := [x4]) (h := H + 3) (w := W - 1) (by omega) (by omega) (by omega)
      rw [decide_eq_false (by omega)] at r3
      have d : decide (1 < W) = true := decide_eq_true g
      simp only [seq_e, seqK_nx, seqK_rt, ifS_e, stB_ok, bind_ok, test_e, blR_ok, not_e, and_e, or_e, andV_e, andK_t, andK_f, notV_e, notK_ok, if_e, nil_e, cons_e, lst_e, tup_e, fn_e, call_e, var_e, varK_ok, c_e, optR_ok, bin_e, drop_e, ret_e, set_e, asg_e, optS_ok, next_e, gn_e, gt_e, gc_e, gcK_ok, gl_e, isi_e, isC_e, fld_e, fldK_ins, neg_e, negK_ok, meth_e, methK_ins, meth0_e, meth0K_ins, make_e, opI_e, opIK_ok, List.append_nil, List.nil_append, List.length_cons, List.length_nil, List.map_cons, List.map_nil, List.cons_append, List.replicate_succ, List.replicate_zero, List.replicate, List.getElem?_cons_zero, List.getElem?_cons_succ, List.set_cons_zero, List.set_cons_succ, Nat.zero_add, reduceIte, Nat.reduceAdd, Nat.reduceEqDiff, Nat.reduceLeDiff, Nat.reduceLT, Int.reduceLT, Int.reduceLE, Int.reduceEq, Int.reduceBEq, Int.reduceAdd, Int.reduceSub, Int.reduceNeg, Int.reduceMul, Int.reduceMod, decide_true, decide_false, Bool.not_true, Bool.not_false, Bool.false_eq_true, Bool.true_eq_false, szc, sz0, Option.map_some, Option.isSome_some, and_self, and_true, true_and, gcF_same, oEq_int, oNe_int, oAdd_int, oSub_int, oLt_int, oLe_int, oGt_int, oGe_int, oIx_lst, oIx_tup, oNotN_e, oIsN_e, ne_eq, not_false_eq_true, not_true_eq_false, Int.natCast_succ, Int.cast_ofNat_Int, beq_self_eq_true, Bool.and_true, Bool.and_false, Bool.true_and, Bool.false_and, wi0, we00, we01, we02, we03, wi1, we10, we11, we12, we13, wi2, we20, we21, we22, we23, wi3, we30, we31, we32, we33, ln1, at10, ln2, at20, at21, ln3, at30, at31, at32, ln4, at40, at41, at42, at43, d, r3]
    · have d : decide (1 < W) = false := decide_eq_false g
      simp only [seq_e, seqK_nx, seqK_rt, ifS_e, stB_ok, bind_ok, test_e, blR_ok, not_e, and_e, or_e, andV_e, andK_t, andK_f, notV_e, notK_ok, if_e, nil_e, cons_e, lst_e, tup_e, fn_e, call_e, var_e, varK_ok, c_e, optR_ok, bin_e, drop_e, ret_e, set_e, asg_e, optS_ok, next_e, gn_e, gt_e, gc_e, gcK_ok, gl_e, isi_e, isC_e, fld_e, fldK_ins, neg_e, negK_ok, meth_e, methK_ins, meth0_e, meth0K_ins, make_e, opI_e, opIK_ok, List.append_nil, List.nil_append, List.length_cons, List.length_nil, List.map_cons, List.map_nil, List.cons_append, List.replicate_succ, List.replicate_zero, List.replicate, List.getElem?_cons_zero, List.getElem?_cons_succ, List.set_cons_zero, List.set_cons_succ, Nat.zero_add, reduceIte, Nat.reduceAdd, Nat.reduceEqDiff, Nat.reduceLeDiff, Nat.reduceLT, Int.reduceLT, Int.reduceLE, Int.reduceEq, Int.reduceBEq, Int.reduceAdd, Int.reduceSub, Int.reduceNeg, Int.reduceMul, Int.reduceMod, decide_true, decide_false, Bool.not_true, Bool.not_false, Bool.false_eq_true, Bool.true_eq_false, szc, sz0, Option.map_some, Option.isSome_some, and_self, and_true, true_and, gcF_same, oEq_int, oNe_int, oAdd_int, oSub_int, oLt_int, oLe_int, oGt_int, oGe_int, oIx_lst, oIx_tup, oNotN_e, oIsN_e, ne_eq, not_false_eq_true, not_true_eq_false, Int.natCast_succ, Int.cast_ofNat_Int, beq_self_eq_true, Bool.and_true, Bool.and_false, Bool.true_and, Bool.false_and, wi0, we00, we01, we02, we03, wi1, we10, we11, we12, we13, wi2, we20, we21, we22, we23, wi3, we30, we31, we32, we33, ln1, at10, ln2, at20, at21, ln3, at30, at31, at32, ln4, at40, at41, at42, at43, d]
  rw [b_law, seq_e, s1, seqK_nx, seq_e, s2, seqK_nx, seq_e, s3, seqK_nx, seq_e, s4, seqK_nx, seq_e, s5, seqK_nx, seq_e, s6, seqK_nx, seq_e, s7, seqK_nx, s8]
theorem law_loop {ns : List Int} {S : D} : ∀ {ds : List D} {x : Option DO} {a b c e f : Option D}, Pl ns x → ∃ x' a' b' c' e' f', Pl ns x' ∧ fForGo (fGn 2) b_law ds (El S a b c e f) [x] = .nx (El S a' b' c' e' f') [x']
  | [], x, a, b, c, e, f, hx => ⟨x, a, b, c, e, f, hx, rfl⟩
  | d :: ds, x, a, b, c, e, f, hx => by
    obtain ⟨x1, b1, c1, e1, f1, p1, h1⟩ := law_step (S := S) (a := some d) (b := b) (c := c) (e := e) (f := f) hx
    obtain ⟨x', a', b', c', e', f', p', h⟩ := law_loop (S := S) (ds := ds) (a := some d) (b := b1) (c := c1) (e := e1) (f := f1) p1
    exact ⟨x', a', b', c', e', f', p', by rw [for_cons (ρ1 := El S (some d) b c e f) (st1 := [x]) rfl h1, h]⟩
/-! the two long sequences -/
def longP : List Sp := List.replicate 100 (.cut .top) ++ [.turn] ++ List.replicate 50 (.cut .left) ++ List.replicate 49 (.cut .top)
def addP : List Sp := List.replicate 200 (.add .left 3)
theorem Rsz_long : Rsz longP = (151, 50) := by decide +kernel
theorem Rsz_add : Rsz addP = (1, 1) := by decide +kernel
theorem flat1 {a : D} : ∀ {n : Nat}, (List.replicate n [a]).flatten = List.replicate n a
  | 0 => rfl
  | n + 1 => by
    rw [List.replicate_succ, List.replicate_succ, List.flatten_cons, flat1]
    rfl
theorem oMul1_z {a : D} {z : Int} (h0 : 0 ≤ z) (h : z ≤ 1000) : oMul1 (.lst [a]) (.int z) = some (.lst (List.replicate z.toNat a)) := by
  have q : -(2 ^ 63) ≤ z ∧ z < 2 ^ 63 ∧ [a].length * z.toNat ≤ sizeLine := ⟨by omega, by omega, by rw [sizeLine_e]; simp; omega⟩
  simp only [oMul1, oMul]
  rw [if_pos q, flat1]
theorem oMul1_l {a : D} {n : Nat} (h : n ≤ 1000) : oMul1 (.lst [a]) (.int ((n : Nat) : Int)) = some (.lst (List.replicate n a)) := by
  rw [oMul1_z (by omega) (by omega), Int.toNat_natCast]
theorem law_m : ∀ ns : List Int, ns.length ≤ 63 → ∃ s1, e_law [.frz (ns.map D.int)] [] = .ok (.bl true) s1 := fun ns _ => by
  have p0 : Pl ns (po ns 0 0 1) := ⟨0, 0, 1, by decide, by decide, by decide, by decide, rfl⟩
  obtain ⟨x, a, b, c, e, f, px, h⟩ := law_loop (S := .frz (ns.map D.int)) (ds := rngD 0 4) (a := none) (b := none) (c := none) (e := none) (f := none) p0
  have rl := running_ok (st := [x]) (IsS.lst (ps := longP)) (by decide) px.clean
  have ra := running_ok (st := [x]) (IsS.lst (ps := addP)) (by decide) px.clean
  rw [Rsz_long] at rl
  rw [Rsz_add] at ra
  have m1 := oMul1_l (a := (Sp.cut .top).d) (n := 100) (by decide)
  have m2 := oMul1_l (a := (Sp.cut .left).d) (n := 50) (by decide)
  have m3 := oMul1_l (a := (Sp.cut .top).d) (n := 49) (by decide)
  have m4 := oMul1_l (a := (Sp.add .left 3).d) (n := 200) (by decide)
  have a1 := oAdd_l (x := List.replicate 100 (Sp.cut .top).d) (y := [Sp.turn.d]) (by simp)
  have a2 := oAdd_l (x := List.replicate 100 (Sp.cut .top).d ++ [Sp.turn.d]) (y := List.replicate 50 (Sp.cut .left).d) (by simp)
  have a3 := oAdd_l (x := List.replicate 100 (Sp.cut .top).d ++ [Sp.turn.d] ++ List.replicate 50 (Sp.cut .left).d) (y := List.replicate 49 (Sp.cut .top).d) (by simp)
  have el : List.replicate 100 (Sp.cut .top).d ++ [Sp.turn.d] ++ List.replicate 50 (Sp.cut .left).d ++ List.replicate 49 (Sp.cut .top).d = longP.map Sp.d := by
    unfold longP
    rw [List.map_append, List.map_append, List.map_append, List.map_replicate, List.map_replicate, List.map_replicate]
    rfl
  have ea : List.replicate 200 (Sp.add .left 3).d = addP.map Sp.d := by
    unfold addP
    rw [List.map_replicate]
  rw [el] at a3
  rw [ea] at m4
  have l1 : (fSet 7 (fBin oAdd (fBin oAdd (fBin oAdd (fBin oMul1 (fLst (fCons (fTup (fCons (fC (.str "cut")) (fCons (fC (.str "top")) fNil))) fNil)) (fC (.int 100))) (fLst (fCons (fTup (fCons (fC (.str "turn")) fNil)) fNil))) (fBin oMul1 (fLst (fCons (fTup (fCons (fC (.str "cut")) (fCons (fC (.str "left")) fNil))) fNil)) (fC (.int 50)))) (fBin oMul1 (fLst (fCons (fTup (fCons (fC (.str "cut")) (fCons (fC (.str "top")) fNil))) fNil)) (fC (.int 49))))) (El (.frz (ns.map D.int)) a b c e f) [x] = .nx [some (.frz (ns.map D.int)), some (.loc 0), a, b, c, e, f, some (.lst (longP.map Sp.d))] [x] := by
    have k1 : (fLst (fCons (fTup (fCons (fC (.str "cut")) (fCons (fC (.str "top")) fNil))) fNil)) (El (.frz (ns.map D.int)) a b c e f) [x] = .ok (.lst [(Sp.cut .top).d]) [x] := rfl
    have k2 : (fLst (fCons (fTup (fCons (fC (.str "turn")) fNil)) fNil)) (El (.frz (ns.map D.int)) a b c e f) [x] = .ok (.lst [Sp.turn.d]) [x] := rfl
    have k3 : (fLst (fCons (fTup (fCons (fC (.str "cut")) (fCons (fC (.str "left")) fNil))) fNil)) (El (.frz (ns.map D.int)) a b c e f) [x] = .ok (.lst [(Sp.cut .left).d]) [x] := rfl
    have m1 : oMul1 (.lst [(Sp.cut .top).d]) (.int 100) = _ := m1
    have m2 : oMul1 (.lst [(Sp.cut .left).d]) (.int 50) = _ := m2
    have m3 : oMul1 (.lst [(Sp.cut .top).d]) (.int 49) = _ := m3
    rw [set_e, bin_e, bin_e, bin_e, bin_e, k1, bind_ok, c_e, bind_ok, m1, optR_ok, bind_ok, k2, bind_ok, a1, optR_ok, bind_ok, bin_e, k3, bind_ok, c_e, bind_ok, m2, optR_ok, bind_ok, a2, optR_ok, bind_ok, bin_e, k1, bind_ok, c_e, bind_ok, m3, optR_ok, bind_ok, a3, optR_ok, stB_ok]
    rfl
  have l2 : (fRet (fAndV (fBin oEq (fCall e_running_size 1 [] (fCons (fVar 7) fNil)) (fTup (fCons (fC (.int 151)) (fCons (fC (.int 50)) fNil)))) (fBin oEq (fCall e_running_size 1 [] (fCons (fBin oMul1 (fLst (fCons (fTup (fCons (fC (.str "add")) (fCons (fC (.str "left")) (fCons (fC (.int 3)) fNil)))) fNil)) (fC (.int 200))) fNil)) (fTup (fCons (fC (.int 1)) (fCons (fC (.int 1)) fNil)))))) [some (.frz (ns.map D.int)), some (.loc 0), a, b, c, e, f, some (.lst (longP.map Sp.d))] [x] = .rt (.bl true) [x] := by
    have k4 : (fLst (fCons (fTup (fCons (fC (.str "add")) (fCons (fC (.str "left")) (fCons (fC (.int 3)) fNil)))) fNil)) [some (.frz (ns.map D.int)), some (.loc 0), a, b, c, e, f, some (.lst (longP.map Sp.d))] [x] = .ok (.lst [(Sp.add .left 3).d]) [x] := rfl
    have m4 : oMul1 (.lst [(Sp.add .left 3).d]) (.int 200) = _ := m4
    have k5 : (fBin oMul1 (fLst (fCons (fTup (fCons (fC (.str "add")) (fCons (fC (.str "left")) (fCons (fC (.int 3)) fNil)))) fNil)) (fC (.int 200))) [some (.frz (ns.map D.int)), some (.loc 0), a, b, c, e, f, some (.lst (longP.map Sp.d))] [x] = .ok (.lst (addP.map Sp.d)) [x] := by
      rw [bin_e, k4, bind_ok, c_e, bind_ok, m4, optR_ok]
    generalize D.lst (longP.map Sp.d) = L1 at *
    generalize D.lst (addP.map Sp.d) = L2 at *
    rw [ret_e, andV_e, bin_e, call_e, cons_e]
    simp only [call_e, cons_e, k5, var_e, seq_e, seqK_nx, seqK_rt, ifS_e, stB_ok, bind_ok, test_e, blR_ok, not_e, and_e, or_e, andV_e, andK_t, andK_f, notV_e, notK_ok, if_e, nil_e, cons_e, lst_e, tup_e, fn_e, call_e, var_e, varK_ok, c_e, optR_ok, bin_e, drop_e, ret_e, set_e, asg_e, optS_ok, next_e, gn_e, gt_e, gc_e, gcK_ok, gl_e, isi_e, isC_e, fld_e, fldK_ins, neg_e, negK_ok, meth_e, methK_ins, meth0_e, meth0K_ins, make_e, opI_e, opIK_ok, List.append_nil, List.nil_append, List.length_cons, List.length_nil, List.map_cons, List.map_nil, List.cons_append, List.replicate_succ, List.replicate_zero, List.replicate, List.getElem?_cons_zero, List.getElem?_cons_succ, List.set_cons_zero, List.set_cons_succ, Nat.zero_add, reduceIte, Nat.reduceAdd, Nat.reduceEqDiff, Nat.reduceLeDiff, Nat.reduceLT, Int.reduceLT, Int.reduceLE, Int.reduceEq, Int.reduceBEq, Int.reduceAdd, Int.reduceSub, Int.reduceNeg, Int.reduceMul, Int.reduceMod, decide_true, decide_false, Bool.not_true, Bool.not_false, Bool.false_eq_true, Bool.true_eq_false, szc, sz0, Option.map_some, Option.isSome_some, and_self, and_true, true_and, gcF_same, oEq_int, oNe_int, oAdd_int, oSub_int, oLt_int, oLe_int, oGt_int, oGe_int, oIx_lst, oIx_tup, oNotN_e, oIsN_e, ne_eq, not_false_eq_true, not_true_eq_false, Int.natCast_succ, Int.cast_ofNat_Int, beq_self_eq_true, Bool.and_true, Bool.and_false, Bool.true_and, Bool.false_and, wi0, we00, we01, we02, we03, wi1, we10, we11, we12, we13, wi2, we20, we21, we22, we23, wi3, we30, we31, we32, we33, ln1, at10, ln2, at20, at21, ln3, at30, at31, at32, ln4, at40, at41, at42, at43, rl, ra, oEq_int2]
  obtain ⟨s1, hs⟩ : ∃ s1, p_law ([D.frz (ns.map D.int)].map some ++ List.replicate 7 none) [] = .rt (.bl true) s1 := by
    refine ⟨[x], ?_⟩
    have r4 : iR1 (fCons (fC (.int 4)) fNil) (El (.frz (ns.map D.int)) none none none none none) [po ns 0 0 1] = .ok (rngD 0 4) [po ns 0 0 1] := iR1_e (j := 4) rfl (by decide)
    show fSeq _ (fSeq (fFor (iR1 (fCons (fC (.int 4)) fNil)) (fGn 2) b_law) _) [some (.frz (ns.map D.int)), none, none, none, none, none, none, none] [] = _
    rw [seq_e]
    show seqK (.nx (El (.frz (ns.map D.int)) none none none none none) [po ns 0 0 1]) _ = _
    rw [seqK_nx, seq_e, for_e, r4, stB_ok, h, seqK_nx, seq_e, l1, seqK_nx]
    exact l2
  unfold e_law
  exact ⟨_, body_rt hs⟩
end K51

set_option Elab.async false
set_option linter.all false
set_option maxRecDepth 100000
set_option maxHeartbeats 4000000
namespace K51
open PySem PySem.Spec PyProof.Rows L2 DL FL
set_option maxHeartbeats 8000000 in
theorem all_mk {l : PySem.W.OpenLaw} {w : World} {K : PySem.W.Frag} {h : Heap} {mg : Str → Option Value} {fa c_InvalidSide c_InvalidSequence c_InvalidSymmetry c_Symmetry f_is_whole f_is_count f_is_colour f_is_side f_InvalidSide_init_ f_InvalidSequence_init_ f_InvalidSymmetry_init_ f_check_side f_Symmetry_init_ t_Symmetry_init_ f_Symmetry_mul_ f_Symmetry_inverse f_Symmetry_side f_is_step f_check_steps f_upright_moves f_running_size f_l_draw f_l_base f_l_steps f_l_after f_l_run f_l_cells f_l_runs f_law k_SIDES k_DIRECTIONS : Addr} (X : K.In h) (G : h.Ns mainGlobals mg) (hfa : mg "law" = some (.ref fa))
    {oc_is_whole kV_is_whole dc_is_whole pm_is_whole cd_is_whole ct_is_whole oc_is_count kV_is_count dc_is_count pm_is_count cd_is_count ct_is_count oc_is_colour kV_is_colour dc_is_colour pm_is_colour cd_is_colour ct_is_colour oc_is_side kV_is_side dc_is_side pm_is_side cd_is_side ct_is_side oc_InvalidSide_init_ kV_InvalidSide_init_ dc_InvalidSide_init_ pm_InvalidSide_init_ cd_InvalidSide_init_ ct_InvalidSide_init_ oc_InvalidSequence_init_ kV_InvalidSequence_init_ dc_InvalidSequence_init_ pm_InvalidSequence_init_ cd_InvalidSequence_init_ ct_InvalidSequence_init_ oc_InvalidSymmetry_init_ kV_InvalidSymmetry_init_ dc_InvalidSymmetry_init_ pm_InvalidSymmetry_init_ cd_InvalidSymmetry_init_ ct_InvalidSymmetry_init_ oc_check_side kV_check_side dc_check_side pm_check_side cd_check_side ct_check_side oc_Symmetry_init_ kV_Symmetry_init_ dc_Symmetry_init_ pm_Symmetry_init_ cd_Symmetry_init_ ct_Symmetry_init_ tc_Symmetry_init_ oc_Symmetry_mul_ kV_Symmetry_mul_ dc_Symmetry_mul_ pm_Symmetry_mul_ cd_Symmetry_mul_ ct_Symmetry_mul_ oc_Symmetry_inverse kV_Symmetry_inverse dc_Symmetry_inverse pm_Symmetry_inverse cd_Symmetry_inverse ct_Symmetry_inverse oc_Symmetry_side kV_Symmetry_side dc_Symmetry_side pm_Symmetry_side cd_Symmetry_side ct_Symmetry_side oc_is_step kV_is_step dc_is_step pm_is_step cd_is_step ct_is_step oc_check_steps kV_check_steps dc_check_steps pm_check_steps cd_check_steps ct_check_steps oc_upright_moves kV_upright_moves dc_upright_moves pm_upright_moves cd_upright_moves ct_upright_moves oc_running_size kV_running_size dc_running_size pm_running_size cd_running_size ct_running_size oc_l_draw kV_l_draw dc_l_draw pm_l_draw cd_l_draw ct_l_draw oc_l_base kV_l_base dc_l_base pm_l_base cd_l_base ct_l_base oc_l_steps kV_l_steps dc_l_steps pm_l_steps cd_l_steps ct_l_steps oc_l_after kV_l_after dc_l_after pm_l_after cd_l_after ct_l_after oc_l_run kV_l_run dc_l_run pm_l_run cd_l_run ct_l_run oc_l_cells kV_l_cells dc_l_cells pm_l_cells cd_l_cells ct_l_cells oc_l_runs kV_l_runs dc_l_runs pm_l_runs cd_l_runs ct_l_runs oc_law kV_law dc_law pm_law cd_law ct_law : Value} {od_is_whole an_is_whole od_is_count an_is_count od_is_colour an_is_colour od_is_side an_is_side od_InvalidSide_init_ an_InvalidSide_init_ od_InvalidSequence_init_ an_InvalidSequence_init_ od_InvalidSymmetry_init_ an_InvalidSymmetry_init_ od_check_side an_check_side od_Symmetry_init_ an_Symmetry_init_ td_Symmetry_init_ od_Symmetry_mul_ an_Symmetry_mul_ od_Symmetry_inverse an_Symmetry_inverse od_Symmetry_side an_Symmetry_side od_is_step an_is_step od_check_steps an_check_steps od_upright_moves an_upright_moves od_running_size an_running_size od_l_draw an_l_draw od_l_base an_l_base od_l_steps an_l_steps od_l_after an_l_after od_l_run an_l_run od_l_cells an_l_cells od_l_runs an_l_runs od_law an_law : Option Addr} {sl_is_whole sl_is_count sl_is_colour sl_is_side sl_InvalidSide_init_ sl_InvalidSequence_init_ sl_InvalidSymmetry_init_ sl_check_side sl_Symmetry_init_ ts_Symmetry_init_ sl_Symmetry_mul_ sl_Symmetry_inverse sl_Symmetry_side sl_is_step sl_check_steps sl_upright_moves sl_running_size sl_l_draw sl_l_base sl_l_steps sl_l_after sl_l_run sl_l_cells sl_l_runs sl_law ts_SIDES : Array (Option Value)} {u0_Symmetry_init_ : Tok} {tn_Symmetry_init_ : Nat} {tk_MOST_STEPS : Tok} {tk0_SIDES tk1_SIDES tk2_SIDES tk3_SIDES : Tok} {tn_SIDES : Nat} {es_DIRECTIONS : Array DictEntry} {tn_DIRECTIONS : Nat} {tk0_DIRECTIONS tk1_DIRECTIONS tk2_DIRECTIONS tk3_DIRECTIONS : Tok}
    (a_InvalidSide : PySem.W.nsIn K mainGlobals "InvalidSide" = some (some (.ref c_InvalidSide)))
    (x1_InvalidSide : PySem.W.excInitIn K c_InvalidSide [.type "ValueError", .type "Exception", .type "BaseException", .type "object"] "ValueError.__new__" = true)
    (x0_InvalidSide : PySem.W.excOver K c_InvalidSide [.type "ValueError", .type "Exception", .type "BaseException", .type "object"] = true)
    (x2_InvalidSide : PySem.W.findIn K (.ref c_InvalidSide) "__setattr__" = some (some (.builtin "object.__setattr__")))
    (x3_InvalidSide : PySem.W.findIn K (.ref c_InvalidSide) "__getattribute__" = some (some (.builtin "BaseException.__getattribute__")))
    (x4_InvalidSide : PySem.W.findIn K (.ref c_InvalidSide) "__getattr__" = some none)
    (x5_InvalidSide : PySem.W.findIn K (.ref c_InvalidSide) "value" = some none)
    (x6_InvalidSide : PySem.W.keepIn K (.ref c_InvalidSide) = true)
    (x7_InvalidSide : PySem.W.subIn K (.ref c_InvalidSide) (.type "BaseException") = some true)
    (x8_InvalidSide : PySem.W.typeIn K (.ref c_InvalidSide) = some (.type "type"))
    (x9_InvalidSide : PySem.W.hasDictIn K c_InvalidSide = true)
    (xa_InvalidSide : PySem.W.isClsIn K c_InvalidSide = true)
    (a_InvalidSequence : PySem.W.nsIn K mainGlobals "InvalidSequence" = some (some (.ref c_InvalidSequence)))
    (x1_InvalidSequence : PySem.W.excInitIn K c_InvalidSequence [.type "ValueError", .type "Exception", .type "BaseException", .type "object"] "ValueError.__new__" = true)
    (x0_InvalidSequence : PySem.W.excOver K c_InvalidSequence [.type "ValueError", .type "Exception", .type "BaseException", .type "object"] = true)
    (x2_InvalidSequence : PySem.W.findIn K (.ref c_InvalidSequence) "__setattr__" = some (some (.builtin "object.__setattr__")))
    (x3_InvalidSequence : PySem.W.findIn K (.ref c_InvalidSequence) "__getattribute__" = some (some (.builtin "BaseException.__getattribute__")))
    (x4_InvalidSequence : PySem.W.findIn K (.ref c_InvalidSequence) "__getattr__" = some none)
    (x5_InvalidSequence : PySem.W.findIn K (.ref c_InvalidSequence) "index" = some none)
    (x6_InvalidSequence : PySem.W.keepIn K (.ref c_InvalidSequence) = true)
    (x7_InvalidSequence : PySem.W.subIn K (.ref c_InvalidSequence) (.type "BaseException") = some true)
    (x8_InvalidSequence : PySem.W.typeIn K (.ref c_InvalidSequence) = some (.type "type"))
    (x9_InvalidSequence : PySem.W.hasDictIn K c_InvalidSequence = true)
    (xa_InvalidSequence : PySem.W.isClsIn K c_InvalidSequence = true)
    (a_InvalidSymmetry : PySem.W.nsIn K mainGlobals "InvalidSymmetry" = some (some (.ref c_InvalidSymmetry)))
    (x1_InvalidSymmetry : PySem.W.excInitIn K c_InvalidSymmetry [.type "ValueError", .type "Exception", .type "BaseException", .type "object"] "ValueError.__new__" = true)
    (x0_InvalidSymmetry : PySem.W.excOver K c_InvalidSymmetry [.type "ValueError", .type "Exception", .type "BaseException", .type "object"] = true)
    (x2_InvalidSymmetry : PySem.W.findIn K (.ref c_InvalidSymmetry) "__setattr__" = some (some (.builtin "object.__setattr__")))
    (x3_InvalidSymmetry : PySem.W.findIn K (.ref c_InvalidSymmetry) "__getattribute__" = some (some (.builtin "BaseException.__getattribute__")))
    (x4_InvalidSymmetry : PySem.W.findIn K (.ref c_InvalidSymmetry) "__getattr__" = some none)
    (x5_InvalidSymmetry : PySem.W.findIn K (.ref c_InvalidSymmetry) "value" = some none)
    (x6_InvalidSymmetry : PySem.W.keepIn K (.ref c_InvalidSymmetry) = true)
    (x7_InvalidSymmetry : PySem.W.subIn K (.ref c_InvalidSymmetry) (.type "BaseException") = some true)
    (x8_InvalidSymmetry : PySem.W.typeIn K (.ref c_InvalidSymmetry) = some (.type "type"))
    (x9_InvalidSymmetry : PySem.W.hasDictIn K c_InvalidSymmetry = true)
    (xa_InvalidSymmetry : PySem.W.isClsIn K c_InvalidSymmetry = true)
    (a_Symmetry : PySem.W.nsIn K mainGlobals "Symmetry" = some (some (.ref c_Symmetry)))
    (g1_Symmetry : PySem.W.plainGet K c_Symmetry Str.empty = true)
    (g2_Symmetry : PySem.W.hasDictIn K c_Symmetry = true)
    (g3_Symmetry : PySem.W.plainOver K c_Symmetry = true)
    (g4_Symmetry : PySem.W.findIn K (.ref c_Symmetry) "__setattr__" = some (some (.builtin "object.__setattr__")))
    (g5_Symmetry : PySem.W.makesIn K c_Symmetry = true)
    (g6_Symmetry : PySem.W.keepIn K (.ref c_Symmetry) = true)
    (sf_Symmetry : PySem.W.selfFirst K c_Symmetry = true)
    (n_Symmetry_turns : PySem.W.findIn K (.ref c_Symmetry) "_turns" = some none)
    (n_Symmetry_mirrors : PySem.W.findIn K (.ref c_Symmetry) "_mirrors" = some none)
    (g9_Symmetry : PySem.W.findIn K (.ref c_Symmetry) "__class__" = some (some (.builtin "object.__class__")))
    (ga_Symmetry : PySem.W.specialIn K (.builtin "object.__class__") "__get__" = some (some (.builtin "getset_descriptor.__get__")))
    (gb_Symmetry : PySem.W.takesIn K (.builtin "object.__class__") = some true)
    (gd_Symmetry : PySem.W.mroIn K c_Symmetry (.type "object") = some true)
    (g7_Symmetry : PySem.W.isClsIn K c_Symmetry = true)
    (g8_Symmetry : PySem.W.typeIn K (.ref c_Symmetry) = some (.type "type"))
    (u_Symmetry_NoneType : PySem.W.subIn K (.type "NoneType") (.ref c_Symmetry) = some false)
    (u_Symmetry_bool : PySem.W.subIn K (.type "bool") (.ref c_Symmetry) = some false)
    (u_Symmetry_int : PySem.W.subIn K (.type "int") (.ref c_Symmetry) = some false)
    (u_Symmetry_str : PySem.W.subIn K (.type "str") (.ref c_Symmetry) = some false)
    (u_Symmetry_list : PySem.W.subIn K (.type "list") (.ref c_Symmetry) = some false)
    (u_Symmetry_tuple : PySem.W.subIn K (.type "tuple") (.ref c_Symmetry) = some false)
    (u_Symmetry_dict : PySem.W.subIn K (.type "dict") (.ref c_Symmetry) = some false)
    (us_Symmetry_Symmetry : PySem.W.subIn K (.ref c_Symmetry) (.ref c_Symmetry) = some true)
    (b_is_whole : PySem.W.nsIn K mainGlobals "is_whole" = some (some (.ref f_is_whole)))
    (l_is_whole : K.lookup f_is_whole = some ⟨oc_is_whole, od_is_whole, .func (PySem.W.fnOf "is_whole" "is_whole" (defArgs s_is_whole) (defBody s_is_whole) (defScope s_is_whole) .none kV_is_whole dc_is_whole pm_is_whole an_is_whole cd_is_whole ct_is_whole), sl_is_whole⟩)
    (d_is_whole : PySem.W.codeIn K cd_is_whole "is_whole" = true)
    (k_is_whole : PySem.W.keepIn K (.ref f_is_whole) = true)
    (b_is_count : PySem.W.nsIn K mainGlobals "is_count" = some (some (.ref f_is_count)))
    (l_is_count : K.lookup f_is_count = some ⟨oc_is_count, od_is_count, .func (PySem.W.fnOf "is_count" "is_count" (defArgs s_is_count) (defBody s_is_count) (defScope s_is_count) .none kV_is_count dc_is_count pm_is_count an_is_count cd_is_count ct_is_count), sl_is_count⟩)
    (d_is_count : PySem.W.codeIn K cd_is_count "is_count" = true)
    (k_is_count : PySem.W.keepIn K (.ref f_is_count) = true)
    (b_is_colour : PySem.W.nsIn K mainGlobals "is_colour" = some (some (.ref f_is_colour)))
    (l_is_colour : K.lookup f_is_colour = some ⟨oc_is_colour, od_is_colour, .func (PySem.W.fnOf "is_colour" "is_colour" (defArgs s_is_colour) (defBody s_is_colour) (defScope s_is_colour) .none kV_is_colour dc_is_colour pm_is_colour an_is_colour cd_is_colour ct_is_colour), sl_is_colour⟩)
    (d_is_colour : PySem.W.codeIn K cd_is_colour "is_colour" = true)
    (k_is_colour : PySem.W.keepIn K (.ref f_is_colour) = true)
    (b_is_side : PySem.W.nsIn K mainGlobals "is_side" = some (some (.ref f_is_side)))
    (l_is_side : K.lookup f_is_side = some ⟨oc_is_side, od_is_side, .func (PySem.W.fnOf "is_side" "is_side" (defArgs s_is_side) (defBody s_is_side) (defScope s_is_side) .none kV_is_side dc_is_side pm_is_side an_is_side cd_is_side ct_is_side), sl_is_side⟩)
    (d_is_side : PySem.W.codeIn K cd_is_side "is_side" = true)
    (k_is_side : PySem.W.keepIn K (.ref f_is_side) = true)
    (b_InvalidSide_init_ : PySem.W.findIn K (.ref c_InvalidSide) "__init__" = some (some (.ref f_InvalidSide_init_)))
    (t_InvalidSide_init_' : PySem.W.typeIn K (.ref f_InvalidSide_init_) = some (.type "function"))
    (l_InvalidSide_init_ : K.lookup f_InvalidSide_init_ = some ⟨oc_InvalidSide_init_, od_InvalidSide_init_, .func (PySem.W.fnOf "__init__" "InvalidSide.__init__" (defArgs s_InvalidSide_init_) (defBody s_InvalidSide_init_) (defScope s_InvalidSide_init_) .none kV_InvalidSide_init_ dc_InvalidSide_init_ pm_InvalidSide_init_ an_InvalidSide_init_ cd_InvalidSide_init_ ct_InvalidSide_init_), sl_InvalidSide_init_⟩)
    (d_InvalidSide_init_ : PySem.W.codeIn K cd_InvalidSide_init_ "InvalidSide.__init__" = true)
    (k_InvalidSide_init_ : PySem.W.keepIn K (.ref f_InvalidSide_init_) = true)
    (b_InvalidSequence_init_ : PySem.W.findIn K (.ref c_InvalidSequence) "__init__" = some (some (.ref f_InvalidSequence_init_)))
    (t_InvalidSequence_init_' : PySem.W.typeIn K (.ref f_InvalidSequence_init_) = some (.type "function"))
    (l_InvalidSequence_init_ : K.lookup f_InvalidSequence_init_ = some ⟨oc_InvalidSequence_init_, od_InvalidSequence_init_, .func (PySem.W.fnOf "__init__" "InvalidSequence.__init__" (defArgs s_InvalidSequence_init_) (defBody s_InvalidSequence_init_) (defScope s_InvalidSequence_init_) .none kV_InvalidSequence_init_ dc_InvalidSequence_init_ pm_InvalidSequence_init_ an_InvalidSequence_init_ cd_InvalidSequence_init_ ct_InvalidSequence_init_), sl_InvalidSequence_init_⟩)
    (d_InvalidSequence_init_ : PySem.W.codeIn K cd_InvalidSequence_init_ "InvalidSequence.__init__" = true)
    (k_InvalidSequence_init_ : PySem.W.keepIn K (.ref f_InvalidSequence_init_) = true)
    (b_InvalidSymmetry_init_ : PySem.W.findIn K (.ref c_InvalidSymmetry) "__init__" = some (some (.ref f_InvalidSymmetry_init_)))
    (t_InvalidSymmetry_init_' : PySem.W.typeIn K (.ref f_InvalidSymmetry_init_) = some (.type "function"))
    (l_InvalidSymmetry_init_ : K.lookup f_InvalidSymmetry_init_ = some ⟨oc_InvalidSymmetry_init_, od_InvalidSymmetry_init_, .func (PySem.W.fnOf "__init__" "InvalidSymmetry.__init__" (defArgs s_InvalidSymmetry_init_) (defBody s_InvalidSymmetry_init_) (defScope s_InvalidSymmetry_init_) .none kV_InvalidSymmetry_init_ dc_InvalidSymmetry_init_ pm_InvalidSymmetry_init_ an_InvalidSymmetry_init_ cd_InvalidSymmetry_init_ ct_InvalidSymmetry_init_), sl_InvalidSymmetry_init_⟩)
    (d_InvalidSymmetry_init_ : PySem.W.codeIn K cd_InvalidSymmetry_init_ "InvalidSymmetry.__init__" = true)
    (k_InvalidSymmetry_init_ : PySem.W.keepIn K (.ref f_InvalidSymmetry_init_) = true)
    (b_check_side : PySem.W.nsIn K mainGlobals "check_side" = some (some (.ref f_check_side)))
    (l_check_side : K.lookup f_check_side = some ⟨oc_check_side, od_check_side, .func (PySem.W.fnOf "check_side" "check_side" (defArgs s_check_side) (defBody s_check_side) (defScope s_check_side) .none kV_check_side dc_check_side pm_check_side an_check_side cd_check_side ct_check_side), sl_check_side⟩)
    (d_check_side : PySem.W.codeIn K cd_check_side "check_side" = true)
    (k_check_side : PySem.W.keepIn K (.ref f_check_side) = true)
    (b_Symmetry_init_ : PySem.W.findIn K (.ref c_Symmetry) "__init__" = some (some (.ref f_Symmetry_init_)))
    (t_Symmetry_init_' : PySem.W.typeIn K (.ref f_Symmetry_init_) = some (.type "function"))
    (l_Symmetry_init_ : K.lookup f_Symmetry_init_ = some ⟨oc_Symmetry_init_, od_Symmetry_init_, .func (PySem.W.fnOf "__init__" "Symmetry.__init__" (defArgs s_Symmetry_init_) (defBody s_Symmetry_init_) (defScope s_Symmetry_init_) (.ref t_Symmetry_init_) kV_Symmetry_init_ dc_Symmetry_init_ pm_Symmetry_init_ an_Symmetry_init_ cd_Symmetry_init_ ct_Symmetry_init_), sl_Symmetry_init_⟩)
    (l2_Symmetry_init_ : K.lookup t_Symmetry_init_ = some ⟨tc_Symmetry_init_, td_Symmetry_init_, .seq #[.int 0 u0_Symmetry_init_, .bool false] tn_Symmetry_init_, ts_Symmetry_init_⟩)
    (d_Symmetry_init_ : PySem.W.codeIn K cd_Symmetry_init_ "Symmetry.__init__" = true)
    (k_Symmetry_init_ : PySem.W.keepIn K (.ref f_Symmetry_init_) = true)
    (b_Symmetry_mul_ : PySem.W.findIn K (.ref c_Symmetry) "__mul__" = some (some (.ref f_Symmetry_mul_)))
    (t_Symmetry_mul_' : PySem.W.typeIn K (.ref f_Symmetry_mul_) = some (.type "function"))
    (l_Symmetry_mul_ : K.lookup f_Symmetry_mul_ = some ⟨oc_Symmetry_mul_, od_Symmetry_mul_, .func (PySem.W.fnOf "__mul__" "Symmetry.__mul__" (defArgs s_Symmetry_mul_) (defBody s_Symmetry_mul_) (defScope s_Symmetry_mul_) .none kV_Symmetry_mul_ dc_Symmetry_mul_ pm_Symmetry_mul_ an_Symmetry_mul_ cd_Symmetry_mul_ ct_Symmetry_mul_), sl_Symmetry_mul_⟩)
    (d_Symmetry_mul_ : PySem.W.codeIn K cd_Symmetry_mul_ "Symmetry.__mul__" = true)
    (k_Symmetry_mul_ : PySem.W.keepIn K (.ref f_Symmetry_mul_) = true)
    (b_Symmetry_inverse : PySem.W.findIn K (.ref c_Symmetry) "inverse" = some (some (.ref f_Symmetry_inverse)))
    (t_Symmetry_inverse' : PySem.W.typeIn K (.ref f_Symmetry_inverse) = some (.type "function"))
    (l_Symmetry_inverse : K.lookup f_Symmetry_inverse = some ⟨oc_Symmetry_inverse, od_Symmetry_inverse, .func (PySem.W.fnOf "inverse" "Symmetry.inverse" (defArgs s_Symmetry_inverse) (defBody s_Symmetry_inverse) (defScope s_Symmetry_inverse) .none kV_Symmetry_inverse dc_Symmetry_inverse pm_Symmetry_inverse an_Symmetry_inverse cd_Symmetry_inverse ct_Symmetry_inverse), sl_Symmetry_inverse⟩)
    (d_Symmetry_inverse : PySem.W.codeIn K cd_Symmetry_inverse "Symmetry.inverse" = true)
    (k_Symmetry_inverse : PySem.W.keepIn K (.ref f_Symmetry_inverse) = true)
    (b_Symmetry_side : PySem.W.findIn K (.ref c_Symmetry) "side" = some (some (.ref f_Symmetry_side)))
    (t_Symmetry_side' : PySem.W.typeIn K (.ref f_Symmetry_side) = some (.type "function"))
    (l_Symmetry_side : K.lookup f_Symmetry_side = some ⟨oc_Symmetry_side, od_Symmetry_side, .func (PySem.W.fnOf "side" "Symmetry.side" (defArgs s_Symmetry_side) (defBody s_Symmetry_side) (defScope s_Symmetry_side) .none kV_Symmetry_side dc_Symmetry_side pm_Symmetry_side an_Symmetry_side cd_Symmetry_side ct_Symmetry_side), sl_Symmetry_side⟩)
    (d_Symmetry_side : PySem.W.codeIn K cd_Symmetry_side "Symmetry.side" = true)
    (k_Symmetry_side : PySem.W.keepIn K (.ref f_Symmetry_side) = true)
    (b_is_step : PySem.W.nsIn K mainGlobals "_is_step" = some (some (.ref f_is_step)))
    (l_is_step : K.lookup f_is_step = some ⟨oc_is_step, od_is_step, .func (PySem.W.fnOf "_is_step" "_is_step" (defArgs s_is_step) (defBody s_is_step) (defScope s_is_step) .none kV_is_step dc_is_step pm_is_step an_is_step cd_is_step ct_is_step), sl_is_step⟩)
    (d_is_step : PySem.W.codeIn K cd_is_step "_is_step" = true)
    (k_is_step : PySem.W.keepIn K (.ref f_is_step) = true)
    (b_check_steps : PySem.W.nsIn K mainGlobals "check_steps" = some (some (.ref f_check_steps)))
    (l_check_steps : K.lookup f_check_steps = some ⟨oc_check_steps, od_check_steps, .func (PySem.W.fnOf "check_steps" "check_steps" (defArgs s_check_steps) (defBody s_check_steps) (defScope s_check_steps) .none kV_check_steps dc_check_steps pm_check_steps an_check_steps cd_check_steps ct_check_steps), sl_check_steps⟩)
    (d_check_steps : PySem.W.codeIn K cd_check_steps "check_steps" = true)
    (k_check_steps : PySem.W.keepIn K (.ref f_check_steps) = true)
    (b_upright_moves : PySem.W.nsIn K mainGlobals "upright_moves" = some (some (.ref f_upright_moves)))
    (l_upright_moves : K.lookup f_upright_moves = some ⟨oc_upright_moves, od_upright_moves, .func (PySem.W.fnOf "upright_moves" "upright_moves" (defArgs s_upright_moves) (defBody s_upright_moves) (defScope s_upright_moves) .none kV_upright_moves dc_upright_moves pm_upright_moves an_upright_moves cd_upright_moves ct_upright_moves), sl_upright_moves⟩)
    (d_upright_moves : PySem.W.codeIn K cd_upright_moves "upright_moves" = true)
    (k_upright_moves : PySem.W.keepIn K (.ref f_upright_moves) = true)
    (b_running_size : PySem.W.nsIn K mainGlobals "running_size" = some (some (.ref f_running_size)))
    (l_running_size : K.lookup f_running_size = some ⟨oc_running_size, od_running_size, .func (PySem.W.fnOf "running_size" "running_size" (defArgs s_running_size) (defBody s_running_size) (defScope s_running_size) .none kV_running_size dc_running_size pm_running_size an_running_size cd_running_size ct_running_size), sl_running_size⟩)
    (d_running_size : PySem.W.codeIn K cd_running_size "running_size" = true)
    (k_running_size : PySem.W.keepIn K (.ref f_running_size) = true)
    (b_l_draw : PySem.W.nsIn K mainGlobals "_law_draw" = some (some (.ref f_l_draw)))
    (l_l_draw : K.lookup f_l_draw = some ⟨oc_l_draw, od_l_draw, .func (PySem.W.fnOf "_law_draw" "_law_draw" (defArgs s_l_draw) (defBody s_l_draw) (defScope s_l_draw) .none kV_l_draw dc_l_draw pm_l_draw an_l_draw cd_l_draw ct_l_draw), sl_l_draw⟩)
    (d_l_draw : PySem.W.codeIn K cd_l_draw "_law_draw" = true)
    (k_l_draw : PySem.W.keepIn K (.ref f_l_draw) = true)
    (b_l_base : PySem.W.nsIn K mainGlobals "_law_base" = some (some (.ref f_l_base)))
    (l_l_base : K.lookup f_l_base = some ⟨oc_l_base, od_l_base, .func (PySem.W.fnOf "_law_base" "_law_base" (defArgs s_l_base) (defBody s_l_base) (defScope s_l_base) .none kV_l_base dc_l_base pm_l_base an_l_base cd_l_base ct_l_base), sl_l_base⟩)
    (d_l_base : PySem.W.codeIn K cd_l_base "_law_base" = true)
    (k_l_base : PySem.W.keepIn K (.ref f_l_base) = true)
    (b_l_steps : PySem.W.nsIn K mainGlobals "_law_steps" = some (some (.ref f_l_steps)))
    (l_l_steps : K.lookup f_l_steps = some ⟨oc_l_steps, od_l_steps, .func (PySem.W.fnOf "_law_steps" "_law_steps" (defArgs s_l_steps) (defBody s_l_steps) (defScope s_l_steps) .none kV_l_steps dc_l_steps pm_l_steps an_l_steps cd_l_steps ct_l_steps), sl_l_steps⟩)
    (d_l_steps : PySem.W.codeIn K cd_l_steps "_law_steps" = true)
    (k_l_steps : PySem.W.keepIn K (.ref f_l_steps) = true)
    (b_l_after : PySem.W.nsIn K mainGlobals "_law_after" = some (some (.ref f_l_after)))
    (l_l_after : K.lookup f_l_after = some ⟨oc_l_after, od_l_after, .func (PySem.W.fnOf "_law_after" "_law_after" (defArgs s_l_after) (defBody s_l_after) (defScope s_l_after) .none kV_l_after dc_l_after pm_l_after an_l_after cd_l_after ct_l_after), sl_l_after⟩)
    (d_l_after : PySem.W.codeIn K cd_l_after "_law_after" = true)
    (k_l_after : PySem.W.keepIn K (.ref f_l_after) = true)
    (b_l_run : PySem.W.nsIn K mainGlobals "_law_run" = some (some (.ref f_l_run)))
    (l_l_run : K.lookup f_l_run = some ⟨oc_l_run, od_l_run, .func (PySem.W.fnOf "_law_run" "_law_run" (defArgs s_l_run) (defBody s_l_run) (defScope s_l_run) .none kV_l_run dc_l_run pm_l_run an_l_run cd_l_run ct_l_run), sl_l_run⟩)
    (d_l_run : PySem.W.codeIn K cd_l_run "_law_run" = true)
    (k_l_run : PySem.W.keepIn K (.ref f_l_run) = true)
    (b_l_cells : PySem.W.nsIn K mainGlobals "_law_cells" = some (some (.ref f_l_cells)))
    (l_l_cells : K.lookup f_l_cells = some ⟨oc_l_cells, od_l_cells, .func (PySem.W.fnOf "_law_cells" "_law_cells" (defArgs s_l_cells) (defBody s_l_cells) (defScope s_l_cells) .none kV_l_cells dc_l_cells pm_l_cells an_l_cells cd_l_cells ct_l_cells), sl_l_cells⟩)
    (d_l_cells : PySem.W.codeIn K cd_l_cells "_law_cells" = true)
    (k_l_cells : PySem.W.keepIn K (.ref f_l_cells) = true)
    (b_l_runs : PySem.W.nsIn K mainGlobals "_law_runs" = some (some (.ref f_l_runs)))
    (l_l_runs : K.lookup f_l_runs = some ⟨oc_l_runs, od_l_runs, .func (PySem.W.fnOf "_law_runs" "_law_runs" (defArgs s_l_runs) (defBody s_l_runs) (defScope s_l_runs) .none kV_l_runs dc_l_runs pm_l_runs an_l_runs cd_l_runs ct_l_runs), sl_l_runs⟩)
    (d_l_runs : PySem.W.codeIn K cd_l_runs "_law_runs" = true)
    (k_l_runs : PySem.W.keepIn K (.ref f_l_runs) = true)
    (b_law : PySem.W.nsIn K mainGlobals "law" = some (some (.ref f_law)))
    (l_law : K.lookup f_law = some ⟨oc_law, od_law, .func (PySem.W.fnOf "law" "law" (defArgs s_law) (defBody s_law) (defScope s_law) .none kV_law dc_law pm_law an_law cd_law ct_law), sl_law⟩)
    (d_law : PySem.W.codeIn K cd_law "law" = true)
    (k_law : PySem.W.keepIn K (.ref f_law) = true)
    (z_MOST_STEPS : PySem.W.nsIn K mainGlobals "MOST_STEPS" = some (some (.int 200 tk_MOST_STEPS)))
    (z_SIDES : PySem.W.nsIn K mainGlobals "SIDES" = some (some (.ref k_SIDES)))
    (l_SIDES : K.lookup k_SIDES = some ⟨.type "tuple", none, .seq #[.str "top" tk0_SIDES, .str "right" tk1_SIDES, .str "bottom" tk2_SIDES, .str "left" tk3_SIDES] tn_SIDES, ts_SIDES⟩)
    (z_DIRECTIONS : PySem.W.nsIn K mainGlobals "DIRECTIONS" = some (some (.ref k_DIRECTIONS)))
    (l_DIRECTIONS : K.lookup k_DIRECTIONS = some ⟨.type "dict", none, .dict es_DIRECTIONS tn_DIRECTIONS, #[]⟩)
    (kl_DIRECTIONS : PySem.W.KeysLit w.params es_DIRECTIONS.toList)
    (e0_DIRECTIONS : PySem.W.nsIn K k_DIRECTIONS "top" = some (some (.int 0 tk0_DIRECTIONS)))
    (e1_DIRECTIONS : PySem.W.nsIn K k_DIRECTIONS "bottom" = some (some (.int 0 tk1_DIRECTIONS)))
    (e2_DIRECTIONS : PySem.W.nsIn K k_DIRECTIONS "right" = some (some (.int 1 tk2_DIRECTIONS)))
    (e3_DIRECTIONS : PySem.W.nsIn K k_DIRECTIONS "left" = some (some (.int 1 tk3_DIRECTIONS)))
    (z_isinstance : PySem.W.nsIn K mainGlobals "isinstance" = some none)
    (z_len : PySem.W.nsIn K mainGlobals "len" = some none)
    (z_enumerate : PySem.W.nsIn K mainGlobals "enumerate" = some none)
    (z_tuple : PySem.W.nsIn K mainGlobals "tuple" = some none)
    (z_list : PySem.W.nsIn K mainGlobals "list" = some none)
    (z_range : PySem.W.nsIn K mainGlobals "range" = some none)
    (z_max : PySem.W.nsIn K mainGlobals "max" = some none)
    (z_int : PySem.W.nsIn K mainGlobals "int" = some none)
    (z_bool : PySem.W.nsIn K mainGlobals "bool" = some none)
    (z_str : PySem.W.nsIn K mainGlobals "str" = some none)
    : ∃ fd : FuncData, (∀ (s : Shared) (v : Value), BindsTo s fd ⟨[v], []⟩ [("script", v)]) ∧ ∀ base : Heap, K.In base → base.Ns mainGlobals mg → (∃ mm, base.Ns sysModules mm) → FnS l.prog w K mg base 14 fa fd ["script"] (spLawD K) := by
  have e := hfa.symm.trans (PySem.W.mg_of X G b_law)
  cases e
  let A : Ad := { a_is_whole := f_is_whole, fd_is_whole := PySem.W.fnOf "is_whole" "is_whole" (defArgs s_is_whole) (defBody s_is_whole) (defScope s_is_whole) .none kV_is_whole dc_is_whole pm_is_whole an_is_whole cd_is_whole ct_is_whole, a_is_count := f_is_count, fd_is_count := PySem.W.fnOf "is_count" "is_count" (defArgs s_is_count) (defBody s_is_count) (defScope s_is_count) .none kV_is_count dc_is_count pm_is_count an_is_count cd_is_count ct_is_count, a_is_colour := f_is_colour, fd_is_colour := PySem.W.fnOf "is_colour" "is_colour" (defArgs s_is_colour) (defBody s_is_colour) (defScope s_is_colour) .none kV_is_colour dc_is_colour pm_is_colour an_is_colour cd_is_colour ct_is_colour, a_is_side := f_is_side, fd_is_side := PySem.W.fnOf "is_side" "is_side" (defArgs s_is_side) (defBody s_is_side) (defScope s_is_side) .none kV_is_side dc_is_side pm_is_side an_is_side cd_is_side ct_is_side, a_InvalidSide_init_ := f_InvalidSide_init_, fd_InvalidSide_init_ := PySem.W.fnOf "__init__" "InvalidSide.__init__" (defArgs s_InvalidSide_init_) (defBody s_InvalidSide_init_) (defScope s_InvalidSide_init_) .none kV_InvalidSide_init_ dc_InvalidSide_init_ pm_InvalidSide_init_ an_InvalidSide_init_ cd_InvalidSide_init_ ct_InvalidSide_init_, a_InvalidSequence_init_ := f_InvalidSequence_init_, fd_InvalidSequence_init_ := PySem.W.fnOf "__init__" "InvalidSequence.__init__" (defArgs s_InvalidSequence_init_) (defBody s_InvalidSequence_init_) (defScope s_InvalidSequence_init_) .none kV_InvalidSequence_init_ dc_InvalidSequence_init_ pm_InvalidSequence_init_ an_InvalidSequence_init_ cd_InvalidSequence_init_ ct_InvalidSequence_init_, a_InvalidSymmetry_init_ := f_InvalidSymmetry_init_, fd_InvalidSymmetry_init_ := PySem.W.fnOf "__init__" "InvalidSymmetry.__init__" (defArgs s_InvalidSymmetry_init_) (defBody s_InvalidSymmetry_init_) (defScope s_InvalidSymmetry_init_) .none kV_InvalidSymmetry_init_ dc_InvalidSymmetry_init_ pm_InvalidSymmetry_init_ an_InvalidSymmetry_init_ cd_InvalidSymmetry_init_ ct_InvalidSymmetry_init_, a_check_side := f_check_side, fd_check_side := PySem.W.fnOf "check_side" "check_side" (defArgs s_check_side) (defBody s_check_side) (defScope s_check_side) .none kV_check_side dc_check_side pm_check_side an_check_side cd_check_side ct_check_side, a_Symmetry_init_ := f_Symmetry_init_, fd_Symmetry_init_ := PySem.W.fnOf "__init__" "Symmetry.__init__" (defArgs s_Symmetry_init_) (defBody s_Symmetry_init_) (defScope s_Symmetry_init_) (.ref t_Symmetry_init_) kV_Symmetry_init_ dc_Symmetry_init_ pm_Symmetry_init_ an_Symmetry_init_ cd_Symmetry_init_ ct_Symmetry_init_, a_Symmetry_mul_ := f_Symmetry_mul_, fd_Symmetry_mul_ := PySem.W.fnOf "__mul__" "Symmetry.__mul__" (defArgs s_Symmetry_mul_) (defBody s_Symmetry_mul_) (defScope s_Symmetry_mul_) .none kV_Symmetry_mul_ dc_Symmetry_mul_ pm_Symmetry_mul_ an_Symmetry_mul_ cd_Symmetry_mul_ ct_Symmetry_mul_, a_Symmetry_inverse := f_Symmetry_inverse, fd_Symmetry_inverse := PySem.W.fnOf "inverse" "Symmetry.inverse" (defArgs s_Symmetry_inverse) (defBody s_Symmetry_inverse) (defScope s_Symmetry_inverse) .none kV_Symmetry_inverse dc_Symmetry_inverse pm_Symmetry_inverse an_Symmetry_inverse cd_Symmetry_inverse ct_Symmetry_inverse, a_Symmetry_side := f_Symmetry_side, fd_Symmetry_side := PySem.W.fnOf "side" "Symmetry.side" (defArgs s_Symmetry_side) (defBody s_Symmetry_side) (defScope s_Symmetry_side) .none kV_Symmetry_side dc_Symmetry_side pm_Symmetry_side an_Symmetry_side cd_Symmetry_side ct_Symmetry_side, a_is_step := f_is_step, fd_is_step := PySem.W.fnOf "_is_step" "_is_step" (defArgs s_is_step) (defBody s_is_step) (defScope s_is_step) .none kV_is_step dc_is_step pm_is_step an_is_step cd_is_step ct_is_step, a_check_steps := f_check_steps, fd_check_steps := PySem.W.fnOf "check_steps" "check_steps" (defArgs s_check_steps) (defBody s_check_steps) (defScope s_check_steps) .none kV_check_steps dc_check_steps pm_check_steps an_check_steps cd_check_steps ct_check_steps, a_upright_moves := f_upright_moves, fd_upright_moves := PySem.W.fnOf "upright_moves" "upright_moves" (defArgs s_upright_moves) (defBody s_upright_moves) (defScope s_upright_moves) .none kV_upright_moves dc_upright_moves pm_upright_moves an_upright_moves cd_upright_moves ct_upright_moves, a_running_size := f_running_size, fd_running_size := PySem.W.fnOf "running_size" "running_size" (defArgs s_running_size) (defBody s_running_size) (defScope s_running_size) .none kV_running_size dc_running_size pm_running_size an_running_size cd_running_size ct_running_size, a_l_draw := f_l_draw, fd_l_draw := PySem.W.fnOf "_law_draw" "_law_draw" (defArgs s_l_draw) (defBody s_l_draw) (defScope s_l_draw) .none kV_l_draw dc_l_draw pm_l_draw an_l_draw cd_l_draw ct_l_draw, a_l_base := f_l_base, fd_l_base := PySem.W.fnOf "_law_base" "_law_base" (defArgs s_l_base) (defBody s_l_base) (defScope s_l_base) .none kV_l_base dc_l_base pm_l_base an_l_base cd_l_base ct_l_base, a_l_steps := f_l_steps, fd_l_steps := PySem.W.fnOf "_law_steps" "_law_steps" (defArgs s_l_steps) (defBody s_l_steps) (defScope s_l_steps) .none kV_l_steps dc_l_steps pm_l_steps an_l_steps cd_l_steps ct_l_steps, a_l_after := f_l_after, fd_l_after := PySem.W.fnOf "_law_after" "_law_after" (defArgs s_l_after) (defBody s_l_after) (defScope s_l_after) .none kV_l_after dc_l_after pm_l_after an_l_after cd_l_after ct_l_after, a_l_run := f_l_run, fd_l_run := PySem.W.fnOf "_law_run" "_law_run" (defArgs s_l_run) (defBody s_l_run) (defScope s_l_run) .none kV_l_run dc_l_run pm_l_run an_l_run cd_l_run ct_l_run, a_l_cells := f_l_cells, fd_l_cells := PySem.W.fnOf "_law_cells" "_law_cells" (defArgs s_l_cells) (defBody s_l_cells) (defScope s_l_cells) .none kV_l_cells dc_l_cells pm_l_cells an_l_cells cd_l_cells ct_l_cells, a_l_runs := f_l_runs, fd_l_runs := PySem.W.fnOf "_law_runs" "_law_runs" (defArgs s_l_runs) (defBody s_l_runs) (defScope s_l_runs) .none kV_l_runs dc_l_runs pm_l_runs an_l_runs cd_l_runs ct_l_runs, a_law := fa, fd_law := PySem.W.fnOf "law" "law" (defArgs s_law) (defBody s_law) (defScope s_law) .none kV_law dc_law pm_law an_law cd_law ct_law, c_InvalidSide := c_InvalidSide, c_InvalidSequence := c_InvalidSequence, c_InvalidSymmetry := c_InvalidSymmetry, c_Symmetry := c_Symmetry, k_SIDES := k_SIDES, o_SIDES := ⟨.type "tuple", none, .seq #[.str "top" tk0_SIDES, .str "right" tk1_SIDES, .str "bottom" tk2_SIDES, .str "left" tk3_SIDES] tn_SIDES, ts_SIDES⟩, k_DIRECTIONS := k_DIRECTIONS }
  have m_InvalidSide := PySem.W.mg_of X G a_InvalidSide
  have m_InvalidSequence := PySem.W.mg_of X G a_InvalidSequence
  have m_InvalidSymmetry := PySem.W.mg_of X G a_InvalidSymmetry
  have m_Symmetry := PySem.W.mg_of X G a_Symmetry
  have cl_Symmetry : Cls K c_Symmetry := ⟨g1_Symmetry, g2_Symmetry, g3_Symmetry, g4_Symmetry⟩
  have cf_Symmetry : ClsF K mg c_Symmetry "Symmetry" := ⟨m_Symmetry, cl_Symmetry, g9_Symmetry, ga_Symmetry, gb_Symmetry, gd_Symmetry⟩
  have nt_Symmetry : NotT K c_Symmetry := ⟨by simp only [List.forall_mem_cons, List.not_mem_nil, false_imp_iff, implies_true, and_true]; exact ⟨u_Symmetry_NoneType, u_Symmetry_bool, u_Symmetry_int, u_Symmetry_str, u_Symmetry_list, u_Symmetry_tuple, u_Symmetry_dict⟩⟩
  have is_Symmetry : IsiC K mg c_Symmetry (isC isc_Symmetry) := by
    refine isC_mk (Cn := "Symmetry") g7_Symmetry g8_Symmetry nt_Symmetry fun n b hn => ?_
    simp only [isc_Symmetry, List.lookup] at hn
    split at hn
    · rename_i e
      cases hn
      have e := beq_iff_eq.mp e
      subst e
      exact ⟨c_Symmetry, cf_Symmetry, us_Symmetry_Symmetry, fun _ => rfl⟩
    · cases hn
  have F_is_whole := fun_mk (st := s_is_whole) l_is_whole d_is_whole k_is_whole
  have B_is_whole := F_is_whole.binds (ps := ["value"]) fun _ _ _ _ _ _ us hl => match us, hl with | [_], _ => rfl
  have F_is_count := fun_mk (st := s_is_count) l_is_count d_is_count k_is_count
  have B_is_count := F_is_count.binds (ps := ["value"]) fun _ _ _ _ _ _ us hl => match us, hl with | [_], _ => rfl
  have F_is_colour := fun_mk (st := s_is_colour) l_is_colour d_is_colour k_is_colour
  have B_is_colour := F_is_colour.binds (ps := ["value"]) fun _ _ _ _ _ _ us hl => match us, hl with | [_], _ => rfl
  have F_is_side := fun_mk (st := s_is_side) l_is_side d_is_side k_is_side
  have B_is_side := F_is_side.binds (ps := ["value"]) fun _ _ _ _ _ _ us hl => match us, hl with | [_], _ => rfl
  have F_InvalidSide_init_ := fun_mk (st := s_InvalidSide_init_) l_InvalidSide_init_ d_InvalidSide_init_ k_InvalidSide_init_
  have B_InvalidSide_init_ := F_InvalidSide_init_.binds (ps := ["self", "value"]) fun _ _ _ _ _ _ us hl => match us, hl with | [_, _], _ => rfl
  have F_InvalidSequence_init_ := fun_mk (st := s_InvalidSequence_init_) l_InvalidSequence_init_ d_InvalidSequence_init_ k_InvalidSequence_init_
  have B_InvalidSequence_init_ := F_InvalidSequence_init_.binds (ps := ["self", "index"]) fun _ _ _ _ _ _ us hl => match us, hl with | [_, _], _ => rfl
  have F_InvalidSymmetry_init_ := fun_mk (st := s_InvalidSymmetry_init_) l_InvalidSymmetry_init_ d_InvalidSymmetry_init_ k_InvalidSymmetry_init_
  have B_InvalidSymmetry_init_ := F_InvalidSymmetry_init_.binds (ps := ["self", "value"]) fun _ _ _ _ _ _ us hl => match us, hl with | [_, _], _ => rfl
  have F_check_side := fun_mk (st := s_check_side) l_check_side d_check_side k_check_side
  have B_check_side := F_check_side.binds (ps := ["side"]) fun _ _ _ _ _ _ us hl => match us, hl with | [_], _ => rfl
  have F_Symmetry_init_ : FunD K "__init__" "Symmetry.__init__" (defArgs s_Symmetry_init_) (defBody s_Symmetry_init_) (defScope s_Symmetry_init_) [V.int 0, V.bl false] [] f_Symmetry_init_ (PySem.W.fnOf "__init__" "Symmetry.__init__" (defArgs s_Symmetry_init_) (defBody s_Symmetry_init_) (defScope s_Symmetry_init_) (.ref t_Symmetry_init_) kV_Symmetry_init_ dc_Symmetry_init_ pm_Symmetry_init_ an_Symmetry_init_ cd_Symmetry_init_ ct_Symmetry_init_) := ⟨⟨_, _, _, _, _, _, _, _, _, _, rfl, l_Symmetry_init_, d_Symmetry_init_, .inr ⟨by simp, _, _, _, _, rfl, l2_Symmetry_init_, rfl, (.cons ⟨_, rfl⟩ (.cons rfl .nil))⟩, .inl rfl⟩, k_Symmetry_init_⟩
  have Bd_Symmetry_init__1 := F_Symmetry_init_.binds1 (ps := ["self", "turns", "mirrors"]) 1 0 (by simp) rfl fun T kV doc pm an cdv ct us its hu hi => match us, its, hu, hi with | [_], [_, _], _, _ => ⟨_, rfl, rfl⟩
  have Bd_Symmetry_init__2 := F_Symmetry_init_.binds1 (ps := ["self", "turns", "mirrors"]) 2 1 (by simp) rfl fun T kV doc pm an cdv ct us its hu hi => match us, its, hu, hi with | [_, _], [_, _], _, _ => ⟨_, rfl, rfl⟩
  have Bd_Symmetry_init__3 := F_Symmetry_init_.binds1 (ps := ["self", "turns", "mirrors"]) 3 2 (by simp) rfl fun T kV doc pm an cdv ct us its hu hi => match us, its, hu, hi with | [_, _, _], [_, _], _, _ => ⟨_, rfl, rfl⟩
  have B_Symmetry_init_ : Binds K (PySem.W.fnOf "__init__" "Symmetry.__init__" (defArgs s_Symmetry_init_) (defBody s_Symmetry_init_) (defScope s_Symmetry_init_) (.ref t_Symmetry_init_) kV_Symmetry_init_ dc_Symmetry_init_ pm_Symmetry_init_ an_Symmetry_init_ cd_Symmetry_init_ ct_Symmetry_init_) ["self", "turns", "mirrors"] [] := by
    obtain ⟨ds, r, b⟩ := Bd_Symmetry_init__3
    cases r
    exact b
  have F_Symmetry_mul_ := fun_mk (st := s_Symmetry_mul_) l_Symmetry_mul_ d_Symmetry_mul_ k_Symmetry_mul_
  have B_Symmetry_mul_ := F_Symmetry_mul_.binds (ps := ["self", "other"]) fun _ _ _ _ _ _ us hl => match us, hl with | [_, _], _ => rfl
  have F_Symmetry_inverse := fun_mk (st := s_Symmetry_inverse) l_Symmetry_inverse d_Symmetry_inverse k_Symmetry_inverse
  have B_Symmetry_inverse := F_Symmetry_inverse.binds (ps := ["self"]) fun _ _ _ _ _ _ us hl => match us, hl with | [_], _ => rfl
  have F_Symmetry_side := fun_mk (st := s_Symmetry_side) l_Symmetry_side d_Symmetry_side k_Symmetry_side
  have B_Symmetry_side := F_Symmetry_side.binds (ps := ["self", "side"]) fun _ _ _ _ _ _ us hl => match us, hl with | [_, _], _ => rfl
  have F_is_step := fun_mk (st := s_is_step) l_is_step d_is_step k_is_step
  have B_is_step := F_is_step.binds (ps := ["value"]) fun _ _ _ _ _ _ us hl => match us, hl with | [_], _ => rfl
  have F_check_steps := fun_mk (st := s_check_steps) l_check_steps d_check_steps k_check_steps
  have B_check_steps := F_check_steps.binds (ps := ["steps"]) fun _ _ _ _ _ _ us hl => match us, hl with | [_], _ => rfl
  have F_upright_moves := fun_mk (st := s_upright_moves) l_upright_moves d_upright_moves k_upright_moves
  have B_upright_moves := F_upright_moves.binds (ps := ["steps"]) fun _ _ _ _ _ _ us hl => match us, hl with | [_], _ => rfl
  have F_running_size := fun_mk (st := s_running_size) l_running_size d_running_size k_running_size
  have B_running_size := F_running_size.binds (ps := ["steps"]) fun _ _ _ _ _ _ us hl => match us, hl with | [_], _ => rfl
  have F_l_draw := fun_mk (st := s_l_draw) l_l_draw d_l_draw k_l_draw
  have B_l_draw := F_l_draw.binds (ps := ["pool", "count"]) fun _ _ _ _ _ _ us hl => match us, hl with | [_, _], _ => rfl
  have F_l_base := fun_mk (st := s_l_base) l_l_base d_l_base k_l_base
  have B_l_base := F_l_base.binds (ps := ["pool"]) fun _ _ _ _ _ _ us hl => match us, hl with | [_], _ => rfl
  have F_l_steps := fun_mk (st := s_l_steps) l_l_steps d_l_steps k_l_steps
  have B_l_steps := F_l_steps.binds (ps := ["pool", "count", "base"]) fun _ _ _ _ _ _ us hl => match us, hl with | [_, _, _], _ => rfl
  have F_l_after := fun_mk (st := s_l_after) l_l_after d_l_after k_l_after
  have B_l_after := F_l_after.binds (ps := ["grid", "step"]) fun _ _ _ _ _ _ us hl => match us, hl with | [_, _], _ => rfl
  have F_l_run := fun_mk (st := s_l_run) l_l_run d_l_run k_l_run
  have B_l_run := F_l_run.binds (ps := ["grid", "steps"]) fun _ _ _ _ _ _ us hl => match us, hl with | [_, _], _ => rfl
  have F_l_cells := fun_mk (st := s_l_cells) l_l_cells d_l_cells k_l_cells
  have B_l_cells := F_l_cells.binds (ps := ["height", "width", "first"]) fun _ _ _ _ _ _ us hl => match us, hl with | [_, _, _], _ => rfl
  have F_l_runs := fun_mk (st := s_l_runs) l_l_runs d_l_runs k_l_runs
  have B_l_runs := F_l_runs.binds (ps := ["steps", "height", "width"]) fun _ _ _ _ _ _ us hl => match us, hl with | [_, _, _], _ => rfl
  have F_law := fun_mk (st := s_law) l_law d_law k_law
  have B_law := F_law.binds (ps := ["script"]) fun _ _ _ _ _ _ us hl => match us, hl with | [_], _ => rfl
  have q_SIDES : ∀ H, SqT K H k_SIDES (ys_SIDES.map V.str) := kTup l_SIDES rfl rfl (by show 4 ≤ sizeLine; decide) (.cons ⟨_, rfl⟩ (.cons ⟨_, rfl⟩ (.cons ⟨_, rfl⟩ (.cons ⟨_, rfl⟩ .nil))))
  have c_DIRECTIONS : ∀ z d, tab_DIRECTIONS.lookup z = some d → ∃ v, KDct K w k_DIRECTIONS z v ∧ ∀ G, Rp K mg G v d := by
    intro z d h
    simp only [tab_DIRECTIONS, List.lookup] at h
    split at h
    · rename_i e
      have e := beq_iff_eq.mp e
      subst e
      cases h
      exact ⟨V.int 0, ⟨es_DIRECTIONS, tn_DIRECTIONS, _, l_DIRECTIONS, kl_DIRECTIONS, e0_DIRECTIONS, ⟨_, rfl⟩⟩, fun G => .int 0⟩
    split at h
    · rename_i e
      have e := beq_iff_eq.mp e
      subst e
      cases h
      exact ⟨V.int 0, ⟨es_DIRECTIONS, tn_DIRECTIONS, _, l_DIRECTIONS, kl_DIRECTIONS, e1_DIRECTIONS, ⟨_, rfl⟩⟩, fun G => .int 0⟩
    split at h
    · rename_i e
      have e := beq_iff_eq.mp e
      subst e
      cases h
      exact ⟨V.int 1, ⟨es_DIRECTIONS, tn_DIRECTIONS, _, l_DIRECTIONS, kl_DIRECTIONS, e2_DIRECTIONS, ⟨_, rfl⟩⟩, fun G => .int 1⟩
    split at h
    · rename_i e
      have e := beq_iff_eq.mp e
      subst e
      cases h
      exact ⟨V.int 1, ⟨es_DIRECTIONS, tn_DIRECTIONS, _, l_DIRECTIONS, kl_DIRECTIONS, e3_DIRECTIONS, ⟨_, rfl⟩⟩, fun G => .int 1⟩
    · cases h
  have Tt : ∀ base : Heap, (∃ mm, base.Ns sysModules mm) → Tx w K mg base A := fun base sm => { mods := sm, F_is_whole := F_is_whole, b_is_whole := B_is_whole, g_is_whole := PySem.W.mg_of X G b_is_whole, F_is_count := F_is_count, b_is_count := B_is_count, g_is_count := PySem.W.mg_of X G b_is_count, F_is_colour := F_is_colour, b_is_colour := B_is_colour, g_is_colour := PySem.W.mg_of X G b_is_colour, F_is_side := F_is_side, b_is_side := B_is_side, g_is_side := PySem.W.mg_of X G b_is_side, F_InvalidSide_init_ := F_InvalidSide_init_, b_InvalidSide_init_ := B_InvalidSide_init_, F_InvalidSequence_init_ := F_InvalidSequence_init_, b_InvalidSequence_init_ := B_InvalidSequence_init_, F_InvalidSymmetry_init_ := F_InvalidSymmetry_init_, b_InvalidSymmetry_init_ := B_InvalidSymmetry_init_, F_check_side := F_check_side, b_check_side := B_check_side, g_check_side := PySem.W.mg_of X G b_check_side, bd_Symmetry_init__1 := Bd_Symmetry_init__1, bd_Symmetry_init__2 := Bd_Symmetry_init__2, F_Symmetry_init_ := F_Symmetry_init_, b_Symmetry_init_ := B_Symmetry_init_, F_Symmetry_mul_ := F_Symmetry_mul_, b_Symmetry_mul_ := B_Symmetry_mul_, F_Symmetry_inverse := F_Symmetry_inverse, b_Symmetry_inverse := B_Symmetry_inverse, F_Symmetry_side := F_Symmetry_side, b_Symmetry_side := B_Symmetry_side, F_is_step := F_is_step, b_is_step := B_is_step, g_is_step := PySem.W.mg_of X G b_is_step, F_check_steps := F_check_steps, b_check_steps := B_check_steps, g_check_steps := PySem.W.mg_of X G b_check_steps, F_upright_moves := F_upright_moves, b_upright_moves := B_upright_moves, g_upright_moves := PySem.W.mg_of X G b_upright_moves, F_running_size := F_running_size, b_running_size := B_running_size, g_running_size := PySem.W.mg_of X G b_running_size, F_l_draw := F_l_draw, b_l_draw := B_l_draw, g_l_draw := PySem.W.mg_of X G b_l_draw, F_l_base := F_l_base, b_l_base := B_l_base, g_l_base := PySem.W.mg_of X G b_l_base, F_l_steps := F_l_steps, b_l_steps := B_l_steps, g_l_steps := PySem.W.mg_of X G b_l_steps, F_l_after := F_l_after, b_l_after := B_l_after, g_l_after := PySem.W.mg_of X G b_l_after, F_l_run := F_l_run, b_l_run := B_l_run, g_l_run := PySem.W.mg_of X G b_l_run, F_l_cells := F_l_cells, b_l_cells := B_l_cells, g_l_cells := PySem.W.mg_of X G b_l_cells, F_l_runs := F_l_runs, b_l_runs := B_l_runs, g_l_runs := PySem.W.mg_of X G b_l_runs, F_law := F_law, b_law := B_law, g_law := PySem.W.mg_of X G b_law, q_SIDES := q_SIDES, g_SIDES := ⟨_, .ref k_SIDES, PySem.W.mg_of X G z_SIDES, rfl, fun G => .tup (q_SIDES G) (.cons (.str "top") (.cons (.str "right") (.cons (.str "bottom") (.cons (.str "left") .nil)))), rfl⟩, h_SIDES := PySem.W.mg_of X G z_SIDES, l_SIDES := l_SIDES, lc_SIDES := rfl, ld_SIDES := rfl, g_MOST_STEPS := ⟨_, V.int 200, PySem.W.mg_of X G z_MOST_STEPS, ⟨_, rfl⟩, fun G => .int 200, rfl⟩, g_DIRECTIONS := PySem.W.mg_of X G z_DIRECTIONS, c_DIRECTIONS := c_DIRECTIONS, mg_InvalidSide := m_InvalidSide, ox_InvalidSide := ⟨⟨_, _, _, base_ValueError, x1_InvalidSide, x0_InvalidSide⟩, x9_InvalidSide, x2_InvalidSide, x7_InvalidSide, x8_InvalidSide, x6_InvalidSide⟩, oi_InvalidSide := b_InvalidSide_init_, ot_InvalidSide := t_InvalidSide_init_', no_InvalidSide := x5_InvalidSide, xc_InvalidSide := ⟨x3_InvalidSide, x4_InvalidSide, x5_InvalidSide, x7_InvalidSide, x9_InvalidSide⟩, mg_InvalidSequence := m_InvalidSequence, ox_InvalidSequence := ⟨⟨_, _, _, base_ValueError, x1_InvalidSequence, x0_InvalidSequence⟩, x9_InvalidSequence, x2_InvalidSequence, x7_InvalidSequence, x8_InvalidSequence, x6_InvalidSequence⟩, oi_InvalidSequence := b_InvalidSequence_init_, ot_InvalidSequence := t_InvalidSequence_init_', no_InvalidSequence := x5_InvalidSequence, xc_InvalidSequence := ⟨x3_InvalidSequence, x4_InvalidSequence, x5_InvalidSequence, x7_InvalidSequence, x9_InvalidSequence⟩, mg_InvalidSymmetry := m_InvalidSymmetry, ox_InvalidSymmetry := ⟨⟨_, _, _, base_ValueError, x1_InvalidSymmetry, x0_InvalidSymmetry⟩, x9_InvalidSymmetry, x2_InvalidSymmetry, x7_InvalidSymmetry, x8_InvalidSymmetry, x6_InvalidSymmetry⟩, oi_InvalidSymmetry := b_InvalidSymmetry_init_, ot_InvalidSymmetry := t_InvalidSymmetry_init_', no_InvalidSymmetry := x5_InvalidSymmetry, xc_InvalidSymmetry := ⟨x3_InvalidSymmetry, x4_InvalidSymmetry, x5_InvalidSymmetry, x7_InvalidSymmetry, x9_InvalidSymmetry⟩, mg_Symmetry := m_Symmetry, cl_Symmetry := cl_Symmetry, mk_Symmetry := ⟨g5_Symmetry, b_Symmetry_init_, (by unfold PySem.W.isFn; rw [t_Symmetry_init_']; rfl), g6_Symmetry⟩, sf_Symmetry := sf_Symmetry, is_Symmetry := is_Symmetry, na_Symmetry_turns := n_Symmetry_turns, na_Symmetry_mirrors := n_Symmetry_mirrors, op_Symmetry_mul_ := b_Symmetry_mul_, fn_Symmetry_mul_ := (by unfold PySem.W.isFn; rw [t_Symmetry_mul_']; rfl), mt_Symmetry_inverse := ⟨b_Symmetry_inverse, (by unfold PySem.W.isFn; rw [t_Symmetry_inverse']; rfl), k_Symmetry_inverse⟩, mt_Symmetry_side := ⟨b_Symmetry_side, (by unfold PySem.W.isFn; rw [t_Symmetry_side']; rfl), k_Symmetry_side⟩, n_isinstance := PySem.W.mg_none_of X G z_isinstance, n_len := PySem.W.mg_none_of X G z_len, n_enumerate := PySem.W.mg_none_of X G z_enumerate, n_tuple := PySem.W.mg_none_of X G z_tuple, n_list := PySem.W.mg_none_of X G z_list, n_range := PySem.W.mg_none_of X G z_range, n_max := PySem.W.mg_none_of X G z_max, n_int := PySem.W.mg_none_of X G z_int, n_bool := PySem.W.mg_none_of X G z_bool, n_str := PySem.W.mg_none_of X G z_str }
  exact ⟨_, fun s v => .of_eq rfl, fun base _ _ sm => ok_law (P := l.prog) (w := w) (base := base) (Tt base sm) law_m⟩
end K51

open PySem PySem.W PyProof.Rows in
set_option maxRecDepth 100000 in
set_option maxHeartbeats 0 in
theorem PySem.Challenge.cw_pictureframes_k51_running_sizes_holds : PySem.Challenge.rw_pictureframes_k51_running_sizes.Holds := by
  w_on; o_law; k_head; (case hw => w_witness2)
  k_fill
  refine DL.walk_D (l := PySem.Challenge.rw_pictureframes_k51_running_sizes) (k := 14) (x := "script") rfl (by decide +kernel) rfl ⟨rfl, by decide, by decide⟩ (fun w h Y => PySem.W.kIn_of Y) ?F
  case F =>
    intro w mg fa h KX G hmg
    refine' K51.all_mk KX G hmg ?a_InvalidSide ?x1_InvalidSide ?x0_InvalidSide ?x2_InvalidSide ?x3_InvalidSide ?x4_InvalidSide ?x5_InvalidSide ?x6_InvalidSide ?x7_InvalidSide ?x8_InvalidSide ?x9_InvalidSide ?xa_InvalidSide ?a_InvalidSequence ?x1_InvalidSequence ?x0_InvalidSequence ?x2_InvalidSequence ?x3_InvalidSequence ?x4_InvalidSequence ?x5_InvalidSequence ?x6_InvalidSequence ?x7_InvalidSequence ?x8_InvalidSequence ?x9_InvalidSequence ?xa_InvalidSequence ?a_InvalidSymmetry ?x1_InvalidSymmetry ?x0_InvalidSymmetry ?x2_InvalidSymmetry ?x3_InvalidSymmetry ?x4_InvalidSymmetry ?x5_InvalidSymmetry ?x6_InvalidSymmetry ?x7_InvalidSymmetry ?x8_InvalidSymmetry ?x9_InvalidSymmetry ?xa_InvalidSymmetry ?a_Symmetry ?g1_Symmetry ?g2_Symmetry ?g3_Symmetry ?g4_Symmetry ?g5_Symmetry ?g6_Symmetry ?sf_Symmetry ?n_Symmetry_turns ?n_Symmetry_mirrors ?g9_Symmetry ?ga_Symmetry ?gb_Symmetry ?gd_Symmetry ?g7_Symmetry ?g8_Symmetry ?u_Symmetry_NoneType ?u_Symmetry_bool ?u_Symmetry_int ?u_Symmetry_str ?u_Symmetry_list ?u_Symmetry_tuple ?u_Symmetry_dict ?us_Symmetry_Symmetry ?b_is_whole ?l_is_whole ?d_is_whole ?k_is_whole ?b_is_count ?l_is_count ?d_is_count ?k_is_count ?b_is_colour ?l_is_colour ?d_is_colour ?k_is_colour ?b_is_side ?l_is_side ?d_is_side ?k_is_side ?b_InvalidSide_init_ ?t_InvalidSide_init_' ?l_InvalidSide_init_ ?d_InvalidSide_init_ ?k_InvalidSide_init_ ?b_InvalidSequence_init_ ?t_InvalidSequence_init_' ?l_InvalidSequence_init_ ?d_InvalidSequence_init_ ?k_InvalidSequence_init_ ?b_InvalidSymmetry_init_ ?t_InvalidSymmetry_init_' ?l_InvalidSymmetry_init_ ?d_InvalidSymmetry_init_ ?k_InvalidSymmetry_init_ ?b_check_side ?l_check_side ?d_check_side ?k_check_side ?b_Symmetry_init_ ?t_Symmetry_init_' ?l_Symmetry_init_ ?l2_Symmetry_init_ ?d_Symmetry_init_ ?k_Symmetry_init_ ?b_Symmetry_mul_ ?t_Symmetry_mul_' ?l_Symmetry_mul_ ?d_Symmetry_mul_ ?k_Symmetry_mul_ ?b_Symmetry_inverse ?t_Symmetry_inverse' ?l_Symmetry_inverse ?d_Symmetry_inverse ?k_Symmetry_inverse ?b_Symmetry_side ?t_Symmetry_side' ?l_Symmetry_side ?d_Symmetry_side ?k_Symmetry_side ?b_is_step ?l_is_step ?d_is_step ?k_is_step ?b_check_steps ?l_check_steps ?d_check_steps ?k_check_steps ?b_upright_moves ?l_upright_moves ?d_upright_moves ?k_upright_moves ?b_running_size ?l_running_size ?d_running_size ?k_running_size ?b_l_draw ?l_l_draw ?d_l_draw ?k_l_draw ?b_l_base ?l_l_base ?d_l_base ?k_l_base ?b_l_steps ?l_l_steps ?d_l_steps ?k_l_steps ?b_l_after ?l_l_after ?d_l_after ?k_l_after ?b_l_run ?l_l_run ?d_l_run ?k_l_run ?b_l_cells ?l_l_cells ?d_l_cells ?k_l_cells ?b_l_runs ?l_l_runs ?d_l_runs ?k_l_runs ?b_law ?l_law ?d_law ?k_law ?z_MOST_STEPS ?z_SIDES ?l_SIDES ?z_DIRECTIONS ?l_DIRECTIONS ?kl_DIRECTIONS ?e0_DIRECTIONS ?e1_DIRECTIONS ?e2_DIRECTIONS ?e3_DIRECTIONS ?z_isinstance ?z_len ?z_enumerate ?z_tuple ?z_list ?z_range ?z_max ?z_int ?z_bool ?z_str
    (case a_InvalidSide => k_is)
    (case x1_InvalidSide => kx_is)
    (case x0_InvalidSide => kx_is)
    (case x2_InvalidSide => k_is)
    (case x3_InvalidSide => k_is)
    (case x4_InvalidSide => k_is)
    (case x5_InvalidSide => k_is)
    (case x6_InvalidSide => k_is)
    (case x7_InvalidSide => k_is)
    (case x8_InvalidSide => k_is)
    (case x9_InvalidSide => k_is)
    (case xa_InvalidSide => k_is)
    (case a_InvalidSequence => k_is)
    (case x1_InvalidSequence => kx_is)
    (case x0_InvalidSequence => kx_is)
    (case x2_InvalidSequence => k_is)
    (case x3_InvalidSequence => k_is)
    (case x4_InvalidSequence => k_is)
    (case x5_InvalidSequence => k_is)
    (case x6_InvalidSequence => k_is)
    (case x7_InvalidSequence => k_is)
    (case x8_InvalidSequence => k_is)
    (case x9_InvalidSequence => k_is)
    (case xa_InvalidSequence => k_is)
    (case a_InvalidSymmetry => k_is)
    (case x1_InvalidSymmetry => kx_is)
    (case x0_InvalidSymmetry => kx_is)
    (case x2_InvalidSymmetry => k_is)
    (case x3_InvalidSymmetry => k_is)
    (case x4_InvalidSymmetry => k_is)
    (case x5_InvalidSymmetry => k_is)
    (case x6_InvalidSymmetry => k_is)
    (case x7_InvalidSymmetry => k_is)
    (case x8_InvalidSymmetry => k_is)
    (case x9_InvalidSymmetry => k_is)
    (case xa_InvalidSymmetry => k_is)
    (case a_Symmetry => k_is)
    (case g1_Symmetry => k_is)
    (case g2_Symmetry => k_is)
    (case g3_Symmetry => k_is)
    (case g4_Symmetry => k_is)
    (case g5_Symmetry => k_is)
    (case g6_Symmetry => k_is)
    (case sf_Symmetry => k_is)
    (case n_Symmetry_turns => k_is)
    (case n_Symmetry_mirrors => k_is)
    (case g9_Symmetry => k_is)
    (case ga_Symmetry => k_is)
    (case gb_Symmetry => k_is)
    (case gd_Symmetry => k_is)
    (case g7_Symmetry => k_is)
    (case g8_Symmetry => k_is)
    (case u_Symmetry_NoneType => k_is)
    (case u_Symmetry_bool => k_is)
    (case u_Symmetry_int => k_is)
    (case u_Symmetry_str => k_is)
    (case u_Symmetry_list => k_is)
    (case u_Symmetry_tuple => k_is)
    (case u_Symmetry_dict => k_is)
    (case us_Symmetry_Symmetry => k_is)
    (case b_is_whole => k_is)
    (case l_is_whole => k_is)
    (case d_is_whole => k_is)
    (case k_is_whole => k_is)
    (case b_is_count => k_is)
    (case l_is_count => k_is)
    (case d_is_count => k_is)
    (case k_is_count => k_is)
    (case b_is_colour => k_is)
    (case l_is_colour => k_is)
    (case d_is_colour => k_is)
    (case k_is_colour => k_is)
    (case b_is_side => k_is)
    (case l_is_side => k_is)
    (case d_is_side => k_is)
    (case k_is_side => k_is)
    (case b_InvalidSide_init_ => k_is)
    (case t_InvalidSide_init_' => k_is)
    (case l_InvalidSide_init_ => k_is)
    (case d_InvalidSide_init_ => k_is)
    (case k_InvalidSide_init_ => k_is)
    (case b_InvalidSequence_init_ => k_is)
    (case t_InvalidSequence_init_' => k_is)
    (case l_InvalidSequence_init_ => k_is)
    (case d_InvalidSequence_init_ => k_is)
    (case k_InvalidSequence_init_ => k_is)
    (case b_InvalidSymmetry_init_ => k_is)
    (case t_InvalidSymmetry_init_' => k_is)
    (case l_InvalidSymmetry_init_ => k_is)
    (case d_InvalidSymmetry_init_ => k_is)
    (case k_InvalidSymmetry_init_ => k_is)
    (case b_check_side => k_is)
    (case l_check_side => k_is)
    (case d_check_side => k_is)
    (case k_check_side => k_is)
    (case b_Symmetry_init_ => k_is)
    (case t_Symmetry_init_' => k_is)
    (case l_Symmetry_init_ => k_is)
    (case l2_Symmetry_init_ => k_is)
    (case d_Symmetry_init_ => k_is)
    (case k_Symmetry_init_ => k_is)
    (case b_Symmetry_mul_ => k_is)
    (case t_Symmetry_mul_' => k_is)
    (case l_Symmetry_mul_ => k_is)
    (case d_Symmetry_mul_ => k_is)
    (case k_Symmetry_mul_ => k_is)
    (case b_Symmetry_inverse => k_is)
    (case t_Symmetry_inverse' => k_is)
    (case l_Symmetry_inverse => k_is)
    (case d_Symmetry_inverse => k_is)
    (case k_Symmetry_inverse => k_is)
    (case b_Symmetry_side => k_is)
    (case t_Symmetry_side' => k_is)
    (case l_Symmetry_side => k_is)
    (case d_Symmetry_side => k_is)
    (case k_Symmetry_side => k_is)
    (case b_is_step => k_is)
    (case l_is_step => k_is)
    (case d_is_step => k_is)
    (case k_is_step => k_is)
    (case b_check_steps => k_is)
    (case l_check_steps => k_is)
    (case d_check_steps => k_is)
    (case k_check_steps => k_is)
    (case b_upright_moves => k_is)
    (case l_upright_moves => k_is)
    (case d_upright_moves => k_is)
    (case k_upright_moves => k_is)
    (case b_running_size => k_is)
    (case l_running_size => k_is)
    (case d_running_size => k_is)
    (case k_running_size => k_is)
    (case b_l_draw => k_is)
    (case l_l_draw => k_is)
    (case d_l_draw => k_is)
    (case k_l_draw => k_is)
    (case b_l_base => k_is)
    (case l_l_base => k_is)
    (case d_l_base => k_is)
    (case k_l_base => k_is)
    (case b_l_steps => k_is)
    (case l_l_steps => k_is)
    (case d_l_steps => k_is)
    (case k_l_steps => k_is)
    (case b_l_after => k_is)
    (case l_l_after => k_is)
    (case d_l_after => k_is)
    (case k_l_after => k_is)
    (case b_l_run => k_is)
    (case l_l_run => k_is)
    (case d_l_run => k_is)
    (case k_l_run => k_is)
    (case b_l_cells => k_is)
    (case l_l_cells => k_is)
    (case d_l_cells => k_is)
    (case k_l_cells => k_is)
    (case b_l_runs => k_is)
    (case l_l_runs => k_is)
    (case d_l_runs => k_is)
    (case k_l_runs => k_is)
    (case b_law => k_is)
    (case l_law => k_is)
    (case d_law => k_is)
    (case k_law => k_is)
    (case z_MOST_STEPS => k_is)
    (case z_SIDES => k_is)
    (case l_SIDES => k_is)
    (case z_DIRECTIONS => k_is)
    (case l_DIRECTIONS => k_is)
    (case kl_DIRECTIONS => exact ⟨⟨_, _, rfl, rfl⟩, ⟨_, _, rfl, rfl⟩, ⟨_, _, rfl, rfl⟩, ⟨_, _, rfl, rfl⟩, trivial⟩)
    (case e0_DIRECTIONS => k_is)
    (case e1_DIRECTIONS => k_is)
    (case e2_DIRECTIONS => k_is)
    (case e3_DIRECTIONS => k_is)
    (case z_isinstance => k_is)
    (case z_len => k_is)
    (case z_enumerate => k_is)
    (case z_tuple => k_is)
    (case z_list => k_is)
    (case z_range => k_is)
    (case z_max => k_is)
    (case z_int => k_is)
    (case z_bool => k_is)
    (case z_str => k_is)
-- level of the law: 14

