import PyProof.Rows.All
import Wide.All
import OpenK.AllK
import Wide.FinOn
import HandS.ForMost
import HandS.Exc
import HandS.TryOnly
import HandS.ExcOwn
import HandS.WordsExc
import HandS.Property
import HandS.TupMul
import HandS.TupAny
import HandS.Style
import HandS.Wide
import HandS.IsInst
import HandS.FStr
import HandS.ExcInit
import HandS.ExcIs
import HandS.OwnEq
import PyProof.NeKinds
import PySem.Challenge.RW_pictureframes_k01_valid_pictures
set_option Elab.async false
set_option linter.all false
set_option maxRecDepth 100000
set_option maxHeartbeats 1000000
/-! data trees over the abstract heap, and what code yields of them -/
namespace DL
open PySem PySem.Spec PyProof.Rows L2

abbrev Sig := L2.St
inductive D where
  | non | bl (b : Bool) | int (i : Int) | str (x : Str)
  | lst (xs : List D) | tup (xs : List D)
  | dic (ks : List Key) (xs : List D)
  | ins (C : Str) (ns : List Str) (xs : List D)
  /-- a list that is only read; an object of one's own (see OH) -/
  | frz (xs : List D) | loc (a : Addr)
  /-- a class or a def of the module, a built-in type -/
  | cls (C : Str) | ty (n : String)

/-- a list that nobody changes: a locked one, or one of the written part -/
def SqF (K : PySem.W.Frag) (G : Hp) (a : Addr) (xs : List V) : Prop :=
  (∃ o, G a = some (.frz o (.lst xs))) ∨
    ∃ (o : Obj) (its : Array Value) (n : Nat), K.lookup a = some o ∧ o.cls = .type "list" ∧ o.dict = none ∧ o.data = .seq its n ∧ its.size ≤ sizeLine ∧ Vals xs its.toList
theorem SqF.sql {K : PySem.W.Frag} {G : Hp} {a : Addr} {xs : List V} (h : SqF K G a xs) : SqL K G a xs := h.elim (fun q => .inl (.inr q)) .inr
section
variable (K : PySem.W.Frag) (mg : Str → Option Value)
mutual
/-- v stands for the tree d in G -/
inductive Rp (G : Hp) : V → D → Prop
  | non : Rp G .non .non
  | bl (b : Bool) : Rp G (.bl b) (.bl b)
  | int (i : Int) : Rp G (.int i) (.int i)
  | str (x : Str) : Rp G (.str x) (.str x)
  | lst {a : Addr} {vs : List V} {ds : List D} : G a = some (.lst vs) → RpL G vs ds → Rp G (.ref a) (.lst ds)
  | tup {a : Addr} {vs : List V} {ds : List D} : SqT K G a vs → RpL G vs ds → Rp G (.ref a) (.tup ds)
  | dic {a : Addr} {ks : List Key} {vs : List V} {ds : List D} : G a = some (.dK (ks.zip vs)) → ks.length = vs.length → RpL G vs ds → Rp G (.ref a) (.dic ks ds)
  | ins {a c dx : Addr} {C : Str} {ns : List Str} {vs : List V} {ds : List D} : mg C = some (.ref c) → G a = some (.ins c dx (ns.zip vs)) → ns.length = vs.length → RpL G vs ds → Rp G (.ref a) (.ins C ns ds)
  | frz {a : Addr} {vs : List V} {ds : List D} : SqF K G a vs → RpL G vs ds → Rp G (.ref a) (.frz ds)
  | loc (a : Addr) : Rp G (.ref a) (.loc a)
  | cls {C : Str} {c : Addr} : mg C = some (.ref c) → Rp G (.ref c) (.cls C)
  | ty (n : String) : Rp G (.ty n) (.ty n)
inductive RpL (G : Hp) : List V → List D → Prop
  | nil : RpL G [] []
  | cons {v : V} {vs : List V} {d : D} {ds : List D} : Rp G v d → RpL G vs ds → RpL G (v :: vs) (d :: ds)
end
end

section
variable {K : PySem.W.Frag} {mg : Str → Option Value} {G G' : Hp}
theorem sql_mono {a : Addr} {xs : List V} (e : Same G G') (h : SqL K G a xs) : SqL K G' a xs := Same.seq e h
theorem sqf_mono {a : Addr} {xs : List V} (e : Same G G') (h : SqF K G a xs) : SqF K G' a xs := h.elim (fun ⟨o, q⟩ => .inl ⟨o, e _ _ q⟩) .inr
theorem sqt_mono {a : Addr} {xs : List V} (e : Same G G') (h : SqT K G a xs) : SqT K G' a xs := by
  rcases h with (h | ⟨o, h⟩) | h
  · exact Or.inl (Or.inl (e _ _ h))
  · exact Or.inl (Or.inr ⟨o, e _ _ h⟩)
  · exact Or.inr h
mutual
theorem Rp.mono (e : Same G G') : ∀ {v : V} {d : D}, Rp K mg G v d → Rp K mg G' v d
  | _, _, .non => .non
  | _, _, .bl b => .bl b
  | _, _, .int i => .int i
  | _, _, .str x => .str x
  | _, _, .lst h r => .lst (e _ _ h) (RpL.mono e r)
  | _, _, .tup h r => .tup (sqt_mono e h) (RpL.mono e r)
  | _, _, .dic h l r => .dic (e _ _ h) l (RpL.mono e r)
  | _, _, .ins m h l r => .ins m (e _ _ h) l (RpL.mono e r)
  | _, _, .frz h r => .frz (sqf_mono e h) (RpL.mono e r)
  | _, _, .loc a => .loc a
  | _, _, .cls h => .cls h
  | _, _, .ty n => .ty n
theorem RpL.mono (e : Same G G') : ∀ {vs : List V} {ds : List D}, RpL K mg G vs ds → RpL K mg G' vs ds
  | _, _, .nil => .nil
  | _, _, .cons a b => .cons (Rp.mono e a) (RpL.mono e b)
end
theorem RpL.len : ∀ {vs : List V} {ds : List D}, RpL K mg G vs ds → vs.length = ds.length
  | _, _, .nil => rfl
  | _, _, .cons _ r => by rw [List.length_cons, List.length_cons, RpL.len r]
theorem RpL.at : ∀ {vs : List V} {ds : List D} {i : Nat} {d : D}, RpL K mg G vs ds → ds[i]? = some d → ∃ v, vs[i]? = some v ∧ Rp K mg G v d
  | _, _, _, _, .nil, h => by simp at h
  | _, _, 0, _, .cons a _, h => by
    simp at h
    subst h
    exact ⟨_, rfl, a⟩
  | _, _, i + 1, _, .cons _ r, h => by
    obtain ⟨v, e, q⟩ := RpL.at (i := i) r (by simpa using h)
    exact ⟨v, by simpa using e, q⟩
theorem RpL.atV : ∀ {vs : List V} {ds : List D} {i : Nat} {v : V}, RpL K mg G vs ds → vs[i]? = some v → ∃ d, ds[i]? = some d ∧ Rp K mg G v d
  | _, _, _, _, .nil, h => by simp at h
  | _, _, 0, _, .cons a _, h => by
    simp at h
    subst h
    exact ⟨_, rfl, a⟩
  | _, _, i + 1, _, .cons _ r, h => by
    obtain ⟨v, e, q⟩ := RpL.atV (i := i) r (by simpa using h)
    exact ⟨v, by simpa using e, q⟩
theorem RpL.app : ∀ {vs ws : List V} {ds es : List D}, RpL K mg G vs ds → RpL K mg G ws es → RpL K mg G (vs ++ ws) (ds ++ es)
  | _, _, _, _, .nil, s => s
  | _, _, _, _, .cons a r, s => .cons a (RpL.app r s)
theorem RpL.tk : ∀ {vs : List V} {ds : List D} (n : Nat), RpL K mg G vs ds → RpL K mg G (vs.take n) (ds.take n)
  | _, _, 0, _ => .nil
  | _, _, _ + 1, .nil => .nil
  | _, _, n + 1, .cons a r => .cons a (RpL.tk n r)
theorem RpL.dr : ∀ {vs : List V} {ds : List D} (n : Nat), RpL K mg G vs ds → RpL K mg G (vs.drop n) (ds.drop n)
  | _, _, 0, r => r
  | _, _, _ + 1, .nil => .nil
  | _, _, n + 1, .cons _ r => RpL.dr n r
theorem RpL.rev : ∀ {vs : List V} {ds : List D}, RpL K mg G vs ds → RpL K mg G vs.reverse ds.reverse
  | _, _, .nil => .nil
  | _, _, .cons a r => by
    rw [List.reverse_cons, List.reverse_cons]
    exact (RpL.rev r).app (.cons a .nil)
theorem RpL.flat (n : Nat) {vs : List V} {ds : List D} (r : RpL K mg G vs ds) : RpL K mg G (List.replicate n vs).flatten (List.replicate n ds).flatten := by
  induction n with
  | zero => exact .nil
  | succ n ih =>
    rw [List.replicate_succ, List.replicate_succ, List.flatten_cons, List.flatten_cons]
    exact r.app ih
end

/-- fresh objects are laid in both -/
inductive Ext : Hp → Hp → Hp → Hp → Prop
  | refl {G H : Hp} : Ext G H G H
  | step {G H G' H' : Hp} {a : Addr} {o : HO} : Ext G H G' H' → H' a = none → Ext G H (upd G' a o) (upd H' a o)
theorem Ext.trans {G H G1 H1 G2 H2 : Hp} (a : Ext G H G1 H1) (b : Ext G1 H1 G2 H2) : Ext G H G2 H2 := by
  induction b with
  | refl => exact a
  | step _ n ih => exact .step ih n
theorem Ext.one {G H : Hp} {a : Addr} {o : HO} (n : H a = none) : Ext G H (upd G a o) (upd H a o) := .step .refl n
theorem same_new {H : Hp} {a : Addr} {o : HO} (n : H a = none) : Same H (upd H a o) := fun b u e => by
  rw [upd_ne (ne_of_none e n)]
  exact e
theorem same_both {G H : Hp} {a : Addr} {o : HO} (s : Same G H) (n : H a = none) : Same (upd G a o) (upd H a o) := fun b u e => by
  by_cases hb : b = a
  · subst hb
    rw [upd_same] at e ⊢
    exact e
  · rw [upd_ne hb] at e ⊢
    exact s _ _ e
theorem Ext.out {G H G' H' : Hp} (x : Ext G H G' H') (s : Same G H) : Same G G' ∧ Same H H' ∧ Same G' H' := by
  induction x with
  | refl => exact ⟨Same.refl _, Same.refl _, s⟩
  | step x n ih =>
    obtain ⟨a, b, c⟩ := ih
    exact ⟨a.trans (same_new (c.free n)), b.trans (same_new n), same_both c n⟩

/-- what stands around the trees: it is kept where fresh objects are laid -/
class Frm {S : Type} (Φ : S → Hp → Hp → Prop) : Prop where
  same : ∀ {s G H}, Φ s G H → Same G H
  ext : ∀ {s G H a o}, Φ s G H → H a = none → Φ s (upd G a o) (upd H a o)
theorem Frm.exts {S : Type} {Φ : S → Hp → Hp → Prop} [Frm Φ] {s : S} {G H G' H' : Hp} (x : Ext G H G' H') (h : Φ s G H) : Φ s G' H' := by
  induction x with
  | refl => exact h
  | step _ n ih => exact Frm.ext ih n

abbrev Rho := List (Option D)
def RelE (K : PySem.W.Frag) (mg : Str → Option Value) (G : Hp) (σ : Sig) (ρ : Rho) : Prop :=
  σ.length = ρ.length ∧ ∀ (i : Nat) (d : D), ρ[i]? = some (some d) → ∃ v, σ[i]? = some (some v) ∧ Rp K mg G v d
section
variable {K : PySem.W.Frag} {mg : Str → Option Value} {G G' : Hp} {σ : Sig} {ρ : Rho}
theorem RelE.mono (h : RelE K mg G σ ρ) (e : Same G G') : RelE K mg G' σ ρ := ⟨h.1, fun i d q => by
  obtain ⟨v, a, b⟩ := h.2 i d q
  exact ⟨v, a, b.mono e⟩⟩
theorem RelE.set (h : RelE K mg G σ ρ) (i : Nat) {v : V} {d : D} (r : Rp K mg G v d) : RelE K mg G (σ.set i (some v)) (ρ.set i (some d)) := by
  refine ⟨by rw [List.length_set, List.length_set]; exact h.1, fun j e q => ?_⟩
  by_cases hj : i = j
  · subst hj
    have hl : i < ρ.length := by
      have q' := (List.getElem?_eq_some_iff.mp q).1
      rwa [List.length_set] at q'
    rw [List.getElem?_set_self hl] at q
    cases q
    exact ⟨v, List.getElem?_set_self (by rw [h.1]; exact hl), r⟩
  · rw [List.getElem?_set_ne hj] at q ⊢
    exact h.2 j e q
theorem RelE.drop (h : RelE K mg G σ ρ) (i : Nat) (u : Option V) : RelE K mg G (σ.set i u) (ρ.set i none) := by
  refine ⟨by rw [List.length_set, List.length_set]; exact h.1, fun j e q => ?_⟩
  by_cases hj : i = j
  · subst hj
    have hl : i < ρ.length := by
      have q' := (List.getElem?_eq_some_iff.mp q).1
      rwa [List.length_set] at q'
    rw [List.getElem?_set_self hl] at q
    cases q
  · rw [List.getElem?_set_ne hj] at q ⊢
    exact h.2 j e q
end

structure Exn where
  cls : Str
  fs : Option (List Str × List D)
def ExR (K : PySem.W.Frag) (mg : Str → Option Value) (G : Hp) (cls : Value) (d : Option Addr) (x : Exn) : Prop :=
  mg x.cls = some cls ∧ match x.fs with
    | none => d = none
    | some (ns, ds) => ∃ (a : Addr) (vs : List V), d = some a ∧ G a = some (.xd (ns.zip vs)) ∧ ns.length = vs.length ∧ RpL K mg G vs ds
theorem ExR.mono {K : PySem.W.Frag} {mg : Str → Option Value} {G G' : Hp} {cls : Value} {d : Option Addr} {x : Exn} (h : ExR K mg G cls d x) (e : Same G G') : ExR K mg G' cls d x := by
  obtain ⟨c, h⟩ := h
  refine ⟨c, ?_⟩
  cases q : x.fs with
  | none => rw [q] at h; exact h
  | some p =>
    rw [q] at h
    obtain ⟨a, vs, h1, h2, h3, h4⟩ := h
    exact ⟨a, vs, h1, e _ _ h2, h3, h4.mono e⟩

/-! ### readings over trees -/
abbrev ME (S : Type) := Rho → S → (D → S → Prop) → (Exn → S → Prop) → Prop
abbrev MT (S : Type) := Rho → S → (Bool → S → Prop) → (Exn → S → Prop) → Prop
abbrev MA (S : Type) := Rho → S → (List D → S → Prop) → (Exn → S → Prop) → Prop
structure MEnds (S : Type) where
  nx : Rho → S → Prop
  rt : D → S → Prop
  bk : Rho → S → Prop
  ct : Rho → S → Prop
  ex : Exn → Rho → S → Prop
abbrev MS (S : Type) := MEnds S → Rho → S → Prop
/-- what is wished of errors at the slots σ -/
def Wsh {S : Type} (K : PySem.W.Frag) (mg : Str → Option Value) (Φ : S → Hp → Hp → Prop) (W : WX) (G : Hp) (σ : Sig) (R : Exn → S → Prop) : Prop :=
  ∀ (x : Exn) (s : S) (G' H' : Hp) (cls : Value) (d : Option Addr), Same G G' → Φ s G' H' → ExR K mg G' cls d x → R x s → W cls d σ H'
theorem Wsh.mono {S : Type} {K : PySem.W.Frag} {mg : Str → Option Value} {Φ : S → Hp → Hp → Prop} {W : WX} {G G1 : Hp} {σ : Sig} {R : Exn → S → Prop} (h : Wsh K mg Φ W G σ R) (e : Same G G1) : Wsh K mg Φ W G1 σ R :=
  fun x s G' H' cls d q => h x s G' H' cls d (e.trans q)

section
variable {S : Type} (X : Cx) (Φ : S → Hp → Hp → Prop) (W : WX)
structure DE (e : Expr) (te : TE) (m : ME S) : Prop where
  pe : PE X e te
  sem : ∀ (σ : Sig) (ρ : Rho) (s : S) (G H : Hp) (Q : VK) (P : D → S → Prop) (R : Exn → S → Prop), RelE X.K X.mg G σ ρ → Φ s G H → Wsh X.K X.mg Φ W G σ R → m ρ s P R →
    (∀ (d : D) (s' : S) (v : V) (G' H' : Hp), P d s' → Same G G' → Φ s' G' H' → Rp X.K X.mg G' v d → Q v H') → te σ H Q
structure DT (e : Expr) (tt : TT) (m : MT S) : Prop where
  pt : PT X e tt
  sem : ∀ (σ : Sig) (ρ : Rho) (s : S) (G H : Hp) (Q : Bool → Hp → Prop) (P : Bool → S → Prop) (R : Exn → S → Prop), RelE X.K X.mg G σ ρ → Φ s G H → Wsh X.K X.mg Φ W G σ R → m ρ s P R →
    (∀ (b : Bool) (s' : S) (G' H' : Hp), P b s' → Same G G' → Φ s' G' H' → Q b H') → tt σ H Q
structure DW (e : Expr) (tt : TT) (m : MT S) : Prop where
  pw : PW X e tt
  sem : ∀ (σ : Sig) (ρ : Rho) (s : S) (G H : Hp) (Q : Bool → Hp → Prop) (P : Bool → S → Prop) (R : Exn → S → Prop), RelE X.K X.mg G σ ρ → Φ s G H → Wsh X.K X.mg Φ W G σ R → m ρ s P R →
    (∀ (b : Bool) (s' : S) (G' H' : Hp), P b s' → Same G G' → Φ s' G' H' → Q b H') → tt σ H Q
structure DA (es : List Expr) (ta : TA) (m : MA S) : Prop where
  pa : PA X es ta
  sem : ∀ (σ : Sig) (ρ : Rho) (s : S) (G H : Hp) (Q : List V → Hp → Prop) (P : List D → S → Prop) (R : Exn → S → Prop), RelE X.K X.mg G σ ρ → Φ s G H → Wsh X.K X.mg Φ W G σ R → m ρ s P R →
    (∀ (ds : List D) (s' : S) (vs : List V) (G' H' : Hp), P ds s' → Same G G' → Φ s' G' H' → RpL X.K X.mg G' vs ds → Q vs H') → ta σ H Q
/-- the ends of a statement, met -/
structure EndsOk (K : PySem.W.Frag) (mg : Str → Option Value) (G : Hp) (M : MEnds S) (D : Ends) : Prop where
  nx : ∀ (σ : Sig) (ρ : Rho) (s : S) (G' H' : Hp), M.nx ρ s → Same G G' → RelE K mg G' σ ρ → Φ s G' H' → D.nx σ H'
  rt : ∀ (d : DL.D) (s : S) (v : V) (G' H' : Hp), M.rt d s → Same G G' → Φ s G' H' → Rp K mg G' v d → D.rt v H'
  bk : ∀ (σ : Sig) (ρ : Rho) (s : S) (G' H' : Hp), M.bk ρ s → Same G G' → RelE K mg G' σ ρ → Φ s G' H' → D.bk σ H'
  ct : ∀ (σ : Sig) (ρ : Rho) (s : S) (G' H' : Hp), M.ct ρ s → Same G G' → RelE K mg G' σ ρ → Φ s G' H' → D.ct σ H'
  ex : ∀ (x : Exn) (σ : Sig) (ρ : Rho) (s : S) (G' H' : Hp) (cls : Value) (d : Option Addr), M.ex x ρ s → Same G G' → RelE K mg G' σ ρ → Φ s G' H' → ExR K mg G' cls d x → W cls d σ H'
structure DS (st : Stmt) (ts : TS) (m : MS S) : Prop where
  ps : PS X st ts
  sem : ∀ (σ : Sig) (ρ : Rho) (s : S) (G H : Hp) (D : Ends) (M : MEnds S), RelE X.K X.mg G σ ρ → Φ s G H → m M ρ s → EndsOk Φ W X.K X.mg G M D → ts D σ H
structure DSs (st : List Stmt) (ts : TS) (m : MS S) : Prop where
  pss : PSs X st ts
  sem : ∀ (σ : Sig) (ρ : Rho) (s : S) (G H : Hp) (D : Ends) (M : MEnds S), RelE X.K X.mg G σ ρ → Φ s G H → m M ρ s → EndsOk Φ W X.K X.mg G M D → ts D σ H
end
section
variable {S : Type} {Φ : S → Hp → Hp → Prop} {W : WX} {K : PySem.W.Frag} {mg : Str → Option Value} {G G1 : Hp} {M : MEnds S} {D : Ends}
theorem EndsOk.mono (h : EndsOk Φ W K mg G M D) (e : Same G G1) : EndsOk Φ W K mg G1 M D :=
  ⟨fun σ ρ s G' H' a b => h.nx σ ρ s G' H' a (e.trans b), fun d s v G' H' a b => h.rt d s v G' H' a (e.trans b), fun σ ρ s G' H' a b => h.bk σ ρ s G' H' a (e.trans b),
    fun σ ρ s G' H' a b => h.ct σ ρ s G' H' a (e.trans b), fun x σ ρ s G' H' c d a b => h.ex x σ ρ s G' H' c d a (e.trans b)⟩
/-- an expression's wish within a statement -/
theorem EndsOk.wsh {σ : Sig} {ρ : Rho} (h : EndsOk Φ W K mg G M D) (r : RelE K mg G σ ρ) : Wsh K mg Φ W G σ (fun x s => M.ex x ρ s) :=
  fun x s G' H' cls d e f q z => h.ex x σ ρ s G' H' cls d z e (r.mono e) f q
end
end DL

set_option Elab.async false
set_option linter.all false
set_option maxRecDepth 100000
set_option maxHeartbeats 1000000
namespace DL
open PySem PySem.Spec PyProof.Rows L2

section
variable {S : Type} {X : Cx} {Φ : S → Hp → Hp → Prop} {W : WX} [Frm Φ]

/-! names and constants -/
def mVar (i : Nat) : ME S := fun ρ s P _ => ∃ d, ρ[i]? = some (some d) ∧ P d s
def mC (d : D) : ME S := fun _ s P _ => P d s
theorem de_var (i : Nat) {x : Str} {pos : Pos} (hN : X.N[i]? = some x := by rfl) (hv : Vis X.env.scope x := by first | exact Or.inl rfl | exact Or.inr (Or.inl rfl) | exact Or.inr (Or.inr rfl)) (hd : (x == ("__debug__" : Str)) = false := by decide)
    (hcd : (x == ("__classdict__" : Str)) = false := by decide) : DE X Φ W (.Name x pos) (tVar i) (mVar i) :=
  ⟨pe_var hN hv hd hcd, fun σ ρ s G H Q P R hρ hΦ hW ⟨d, e, p⟩ k => by
    obtain ⟨v, hv, r⟩ := hρ.2 i d e
    exact ⟨v, hv, k d s v G H p (Same.refl _) hΦ r⟩⟩
theorem de_int {i j pos} : DE X Φ W (.Constant (.int i) j pos) (tC (.int i)) (mC (.int i)) := ⟨pe_int, fun _ _ s G H _ _ _ _ f _ p k => k _ s _ G H p (Same.refl _) f (.int i)⟩
theorem de_bl {b j pos} : DE X Φ W (.Constant (.bool b) j pos) (tC (.bl b)) (mC (.bl b)) := ⟨pe_bl, fun _ _ s G H _ _ _ _ f _ p k => k _ s _ G H p (Same.refl _) f (.bl b)⟩
theorem de_non {j pos} : DE X Φ W (.Constant .none j pos) (tC .non) (mC .non) := ⟨pe_non, fun _ _ s G H _ _ _ _ f _ p k => k _ s _ G H p (Same.refl _) f .non⟩
theorem de_str {x j pos} : DE X Φ W (.Constant (.str x) j pos) (tC (.str x)) (mC (.str x)) := ⟨pe_str, fun _ _ s G H _ _ _ _ f _ p k => k _ s _ G H p (Same.refl _) f (.str x)⟩
/-- a module's constant: a tree that stands in the written part -/
theorem de_glob {x : Str} {v : V} {u : Value} {d : D} {pos : Pos} (hg : Gl X x) (hm : X.mg x = some u) (r : RelV v u) (hc : ∀ G, Rp X.K X.mg G v d) (hd : (x == ("__debug__" : Str)) = false := by decide) : DE X Φ W (.Name x pos) (tC v) (mC d) :=
  ⟨pe_glob hg hm r hd, fun _ _ s G H _ _ _ _ f _ p k => k _ s _ G H p (Same.refl _) f (hc G)⟩

/-! operators by values -/
abbrev W2 := D → D → (D → Prop) → Prop
/-- r of the layer serves w over trees -/
structure Op2 (X : Cx) (f : Value → Value → Sem Value) (r : R2) (w : W2) : Prop where
  op : OpR X f r
  sem : ∀ (x y : V) (a b : D) (G H : Hp) (Q : VK) (P : D → Prop), Rp X.K X.mg G x a → Rp X.K X.mg G y b → Same G H → w a b P → (∀ (d : D) (v : V) (G' H' : Hp), P d → Ext G H G' H' → Rp X.K X.mg G' v d → Q v H') → r x y H Q
def mBin (w : W2) (ma mb : ME S) : ME S := fun ρ s P R => ma ρ s (fun a s1 => mb ρ s1 (fun b s2 => w a b fun d => P d s2) R) R
theorem bin_sem {te tb : TE} {r : R2} {f : Value → Value → Sem Value} {w : W2} {a b : Expr} {ma mb : ME S} (o : Op2 X f r w) (ha : DE X Φ W a te ma) (hb : DE X Φ W b tb mb) {σ : Sig} {ρ : Rho} {s : S} {G H : Hp} {Q : VK} {P : D → S → Prop} {R : Exn → S → Prop}
    (hρ : RelE X.K X.mg G σ ρ) (f0 : Φ s G H) (hW : Wsh X.K X.mg Φ W G σ R) (h : mBin w ma mb ρ s P R) (k : ∀ (d : D) (s' : S) (v : V) (G' H' : Hp), P d s' → Same G G' → Φ s' G' H' → Rp X.K X.mg G' v d → Q v H') : tOp r te tb σ H Q := by
  refine ha.sem σ ρ s G H _ _ R hρ f0 hW h fun x s1 u G1 H1 h1 e1 f1 r1 => ?_
  refine hb.sem σ ρ s1 G1 H1 _ _ R (hρ.mono e1) f1 (hW.mono e1) h1 fun y s2 v G2 H2 h2 e2 f2 r2 => ?_
  refine o.sem u v x y G2 H2 _ _ (r1.mono e2) r2 (Frm.same f2) h2 fun d z G3 H3 p x3 r3 => ?_
  exact k d s2 z G3 H3 p ((e1.trans e2).trans (x3.out (Frm.same f2)).1) (Frm.exts x3 f2) r3
theorem de_bin {op : Operator} {te tb : TE} {r : R2} {w : W2} {a b : Expr} {ma mb : ME S} {pos : Pos} (o : Op2 X (binaryOp op) r w) (ha : DE X Φ W a te ma) (hb : DE X Φ W b tb mb) : DE X Φ W (.BinOp a op b pos) (tOp r te tb) (mBin w ma mb) :=
  ⟨pe_op o.op ha.pe hb.pe, fun _ _ _ _ _ _ _ _ hρ f hW h k => bin_sem o ha hb hρ f hW h k⟩
theorem de_cmp {op : CmpOp} {te tb : TE} {r : R2} {w : W2} {a b : Expr} {ma mb : ME S} {pos : Pos} (o : Op2 X (compareOp op) r w) (ha : DE X Φ W a te ma) (hb : DE X Φ W b tb mb) (hm : behindInMarks op b = false := by first | exact nomark _ | rfl) : DE X Φ W (.Compare a [op] [b] pos) (tOp r te tb) (mBin w ma mb) :=
  ⟨pe_cmpR o.op ha.pe hb.pe hm, fun _ _ _ _ _ _ _ _ hρ f hW h k => bin_sem o ha hb hρ f hW h k⟩
/-- a value that is a bool, as a test -/
def mTest (m : ME S) : MT S := fun ρ s P R => m ρ s (fun d s' => ∃ b, d = .bl b ∧ P b s') R
theorem rp_bl {K : PySem.W.Frag} {mg : Str → Option Value} {G : Hp} {v : V} {b : Bool} (r : Rp K mg G v (.bl b)) : v = .bl b := by cases r; rfl
theorem rp_int {K : PySem.W.Frag} {mg : Str → Option Value} {G : Hp} {v : V} {b : Int} (r : Rp K mg G v (.int b)) : v = .int b := by cases r; rfl
theorem rp_str {K : PySem.W.Frag} {mg : Str → Option Value} {G : Hp} {v : V} {b : Str} (r : Rp K mg G v (.str b)) : v = .str b := by cases r; rfl
theorem dt_cmp {op : CmpOp} {te tb : TE} {r : R2} {w : W2} {a b : Expr} {ma mb : ME S} {pos : Pos} (o : Op2 X (compareOp op) r w) (ha : DE X Φ W a te ma) (hb : DE X Φ W b tb mb) (hm : behindInMarks op b = false := by first | exact nomark _ | rfl) : DT X Φ W (.Compare a [op] [b] pos) (tTest (tOp r te tb)) (mTest (mBin w ma mb)) :=
  ⟨pt_cmpR o.op ha.pe hb.pe hm, fun _ _ _ _ _ _ _ _ hρ f hW h k => bin_sem o ha hb hρ f hW h fun d s' v G' H' ⟨c, e, p⟩ q1 q2 q3 => by
    subst e
    exact ⟨c, rp_bl q3, k c s' G' H' p q1 q2⟩⟩
theorem dt_val {e : Expr} {te : TE} {m : ME S} (h : DE X Φ W e te m) (he : ∀ whole, isTrue e X.env whole = (do let v ← whole; standAt e.pos; holding [v] (truthy v)) := by intro _; rfl) : DT X Φ W e (tB te) (mTest m) :=
  ⟨pt_val h.pe he, fun σ ρ s G H _ _ R hρ f hW hm k => h.sem σ ρ s G H _ _ R hρ f hW hm fun d s' v G' H' ⟨c, e, p⟩ q1 q2 q3 => by
    subst e
    exact ⟨c, rp_bl q3, k c s' G' H' p q1 q2⟩⟩
/-! and, or, not as tests -/
def mAnd (t u : MT S) : MT S := fun ρ s P R => t ρ s (fun c s1 => if c = true then u ρ s1 P R else P false s1) R
def mOr (t u : MT S) : MT S := fun ρ s P R => t ρ s (fun c s1 => if c = true then P true s1 else u ρ s1 P R) R
def mNot (t : MT S) : MT S := fun ρ s P R => t ρ s (fun c s1 => P (!c) s1) R
section
variable {a b : Expr} {rest : List Expr} {ta tb : TT} {ma mb : MT S} {pos : Pos}
theorem dw_and1 (h : DT X Φ W a ta ma) : DW X Φ W (.BoolOp .And [a] pos) ta ma := ⟨pw_and1 h.pt, h.sem⟩
theorem dw_or1 (h : DT X Φ W a ta ma) : DW X Φ W (.BoolOp .Or [a] pos) ta ma := ⟨pw_or1 h.pt, h.sem⟩
theorem dw_and (h : DT X Φ W a ta ma) (h' : DW X Φ W (.BoolOp .And (b :: rest) pos) tb mb) : DW X Φ W (.BoolOp .And (a :: b :: rest) pos) (tAnd ta tb) (mAnd ma mb) :=
  ⟨pw_and h.pt h'.pw, fun σ ρ s G H Q P R hρ f hW hm k => h.sem σ ρ s G H _ _ R hρ f hW hm fun c s1 G1 H1 h1 e1 f1 => by
    cases c with
    | true =>
      simp only [if_true] at h1 ⊢
      exact h'.sem σ ρ s1 G1 H1 Q P R (hρ.mono e1) f1 (hW.mono e1) h1 fun b s' G' H' p q => k b s' G' H' p (e1.trans q)
    | false =>
      simp only [Bool.false_eq_true, if_false] at h1 ⊢
      exact k _ s1 G1 H1 h1 e1 f1⟩
theorem dw_or (h : DT X Φ W a ta ma) (h' : DW X Φ W (.BoolOp .Or (b :: rest) pos) tb mb) : DW X Φ W (.BoolOp .Or (a :: b :: rest) pos) (tOr ta tb) (mOr ma mb) :=
  ⟨pw_or h.pt h'.pw, fun σ ρ s G H Q P R hρ f hW hm k => h.sem σ ρ s G H _ _ R hρ f hW hm fun c s1 G1 H1 h1 e1 f1 => by
    cases c with
    | true =>
      simp only [if_true] at h1 ⊢
      exact k _ s1 G1 H1 h1 e1 f1
    | false =>
      simp only [Bool.false_eq_true, if_false] at h1 ⊢
      exact h'.sem σ ρ s1 G1 H1 Q P R (hρ.mono e1) f1 (hW.mono e1) h1 fun b s' G' H' p q => k b s' G' H' p (e1.trans q)⟩
theorem DW.dt {e : Expr} (h : DW X Φ W e ta ma) : DT X Φ W e ta ma := ⟨h.pw.pt, h.sem⟩
theorem dt_not (h : DT X Φ W a ta ma) : DT X Φ W (.UnaryOp .Not a pos) (tNot ta) (mNot ma) :=
  ⟨pt_not h.pt, fun σ ρ s G H _ _ R hρ f hW hm k => h.sem σ ρ s G H _ _ R hρ f hW hm fun c s1 G1 H1 h1 e1 f1 => k _ s1 G1 H1 h1 e1 f1⟩
end
/-! .. as values -/
def mAndV (m n : ME S) : ME S := fun ρ s P R => m ρ s (fun d s1 => ∃ c, d = .bl c ∧ if c = true then n ρ s1 P R else P (.bl false) s1) R
def mOrV (m n : ME S) : ME S := fun ρ s P R => m ρ s (fun d s1 => ∃ c, d = .bl c ∧ if c = true then P (.bl true) s1 else n ρ s1 P R) R
def mNotV (m : ME S) : ME S := fun ρ s P R => m ρ s (fun d s1 => ∃ c, d = .bl c ∧ P (.bl (!c)) s1) R
section
variable {a b : Expr} {rest : List Expr} {ta tb : TE} {ma mb : ME S} {pos : Pos}
theorem de_one {op} (h : DE X Φ W a ta ma) : DE X Φ W (.BoolOp op [a] pos) ta ma := ⟨pe_one h.pe, h.sem⟩
theorem de_and (h : DE X Φ W a ta ma) (h' : DE X Φ W (.BoolOp .And (b :: rest) pos) tb mb) : DE X Φ W (.BoolOp .And (a :: b :: rest) pos) (tAndV ta tb) (mAndV ma mb) :=
  ⟨pe_and h.pe h'.pe, fun σ ρ s G H Q P R hρ f hW hm k => h.sem σ ρ s G H _ _ R hρ f hW hm fun d s1 v G1 H1 ⟨c, ed, h1⟩ e1 f1 r1 => by
    subst ed
    refine ⟨c, rp_bl r1, ?_⟩
    cases c with
    | true =>
      simp only [if_true] at h1 ⊢
      exact h'.sem σ ρ s1 G1 H1 Q P R (hρ.mono e1) f1 (hW.mono e1) h1 fun b s' v G' H' p q => k b s' v G' H' p (e1.trans q)
    | false =>
      simp only [Bool.false_eq_true, if_false] at h1 ⊢
      exact k _ s1 _ G1 H1 h1 e1 f1 (.bl false)⟩
theorem de_or (h : DE X Φ W a ta ma) (h' : DE X Φ W (.BoolOp .Or (b :: rest) pos) tb mb) : DE X Φ W (.BoolOp .Or (a :: b :: rest) pos) (tOrV ta tb) (mOrV ma mb) :=
  ⟨pe_or h.pe h'.pe, fun σ ρ s G H Q P R hρ f hW hm k => h.sem σ ρ s G H _ _ R hρ f hW hm fun d s1 v G1 H1 ⟨c, ed, h1⟩ e1 f1 r1 => by
    subst ed
    refine ⟨c, rp_bl r1, ?_⟩
    cases c with
    | true =>
      simp only [if_true] at h1 ⊢
      exact k _ s1 _ G1 H1 h1 e1 f1 (.bl true)
    | false =>
      simp only [Bool.false_eq_true, if_false] at h1 ⊢
      exact h'.sem σ ρ s1 G1 H1 Q P R (hρ.mono e1) f1 (hW.mono e1) h1 fun b s' v G' H' p q => k b s' v G' H' p (e1.trans q)⟩
theorem de_not (h : DE X Φ W a ta ma) : DE X Φ W (.UnaryOp .Not a pos) (tNotV ta) (mNotV ma) :=
  ⟨pe_not h.pe, fun σ ρ s G H Q P R hρ f hW hm k => h.sem σ ρ s G H _ _ R hρ f hW hm fun d s1 v G1 H1 ⟨c, ed, h1⟩ e1 f1 r1 => by
    subst ed
    exact ⟨c, rp_bl r1, k _ s1 _ G1 H1 h1 e1 f1 (.bl _)⟩⟩
def mIf (t : MT S) (m n : ME S) : ME S := fun ρ s P R => t ρ s (fun c s1 => if c = true then m ρ s1 P R else n ρ s1 P R) R
theorem de_if {c : Expr} {tc : TT} {mc : MT S} (hc : DT X Φ W c tc mc) (h : DE X Φ W a ta ma) (h' : DE X Φ W b tb mb) : DE X Φ W (.IfExp c a b pos) (tIf tc ta tb) (mIf mc ma mb) :=
  ⟨pe_ifExp hc.pt h.pe h'.pe, fun σ ρ s G H Q P R hρ f hW hm k => hc.sem σ ρ s G H _ _ R hρ f hW hm fun c s1 G1 H1 h1 e1 f1 => by
    cases c with
    | true =>
      simp only [if_true] at h1 ⊢
      exact h.sem σ ρ s1 G1 H1 Q P R (hρ.mono e1) f1 (hW.mono e1) h1 fun b s' v G' H' p q => k b s' v G' H' p (e1.trans q)
    | false =>
      simp only [Bool.false_eq_true, if_false] at h1 ⊢
      exact h'.sem σ ρ s1 G1 H1 Q P R (hρ.mono e1) f1 (hW.mono e1) h1 fun b s' v G' H' p q => k b s' v G' H' p (e1.trans q)⟩
end
/-! lists of arguments, displays -/
def mNil : MA S := fun _ s P _ => P [] s
def mCons (m : ME S) (n : MA S) : MA S := fun ρ s P R => m ρ s (fun d s1 => n ρ s1 (fun ds s2 => P (d :: ds) s2) R) R
section
variable {e : Expr} {es : List Expr} {te : TE} {ta : TA} {m : ME S} {n : MA S} {pos : Pos}
theorem da_nil : DA X Φ W [] tNil (mNil : MA S) := ⟨pa_nil, fun _ _ s G H _ _ _ _ f _ p k => k _ s _ G H p (Same.refl _) f .nil⟩
theorem da_cons (h : DE X Φ W e te m) (h' : DA X Φ W es ta n) (hs : starEach (e :: es) X.env = (false, eval e X.env) :: starEach es X.env := by rfl) : DA X Φ W (e :: es) (tCons te ta) (mCons m n) :=
  ⟨pa_cons h.pe h'.pa hs, fun σ ρ s G H Q P R hρ f hW hm k => h.sem σ ρ s G H _ _ R hρ f hW hm fun d s1 v G1 H1 h1 e1 f1 r1 =>
    h'.sem σ ρ s1 G1 H1 _ _ R (hρ.mono e1) f1 (hW.mono e1) h1 fun ds s2 vs G2 H2 h2 e2 f2 r2 => k _ s2 _ G2 H2 h2 (e1.trans e2) f2 (.cons (r1.mono e2) r2)⟩
def mLst (n : MA S) : ME S := fun ρ s P R => n ρ s (fun ds s1 => ds.length ≤ sizeLine ∧ P (.lst ds) s1) R
def mTup (n : MA S) : ME S := fun ρ s P R => n ρ s (fun ds s1 => ds.length ≤ sizeLine ∧ P (.tup ds) s1) R
theorem de_lst (h : DA X Φ W es ta n) : DE X Φ W (.List es pos) (tLst ta) (mLst n) :=
  ⟨pe_lst h.pa, fun σ ρ s G H Q P R hρ f hW hm k => h.sem σ ρ s G H _ _ R hρ f hW hm fun ds s1 vs G1 H1 ⟨hl, h1⟩ e1 f1 r1 =>
    ⟨by rw [r1.len]; exact hl, fun p np => k _ s1 _ _ _ h1 (e1.trans (same_new ((Frm.same f1).free np))) (Frm.ext f1 np) (.lst upd_same (r1.mono (same_new ((Frm.same f1).free np))))⟩⟩
theorem de_tup {x1} (h : DA X Φ W es ta n) : DE X Φ W (.Tuple es x1 pos) (tTup ta) (mTup n) :=
  ⟨pe_tup h.pa, fun σ ρ s G H Q P R hρ f hW hm k => h.sem σ ρ s G H _ _ R hρ f hW hm fun ds s1 vs G1 H1 ⟨hl, h1⟩ e1 f1 r1 =>
    ⟨by rw [r1.len]; exact hl, fun p np => k _ s1 _ _ _ h1 (e1.trans (same_new ((Frm.same f1).free np))) (Frm.ext f1 np) (.tup (SqT.of upd_same) (r1.mono (same_new ((Frm.same f1).free np))))⟩⟩
end
/-! built-ins called -/
abbrev WL := List D → (D → Prop) → Prop
structure Fn1 (X : Cx) (f : Value) (r : List V → Hp → VK → Prop) (w : WL) : Prop where
  cr : CallR X f r
  sem : ∀ (vs : List V) (ds : List D) (G H : Hp) (Q : VK) (P : D → Prop), RpL X.K X.mg G vs ds → Same G H → w ds P → (∀ (d : D) (v : V) (G' H' : Hp), P d → Ext G H G' H' → Rp X.K X.mg G' v d → Q v H') → r vs H Q
def mFn (w : WL) (n : MA S) : ME S := fun ρ s P R => n ρ s (fun ds s1 => w ds fun d => P d s1) R
section
variable {x : Str} {p pos : Pos} {e : Expr} {es : List Expr} {ta : TA} {n : MA S} {id T : String} {r : List V → Hp → VK → Prop} {w : WL}
theorem de_callB (c : Fn1 X (.builtin id) r w) (hg : Gl X x) (hm : X.mg x = none) (hv : bootBuiltins x = some (.builtin id)) (ha : DA X Φ W (e :: es) ta n) (hn : x ≠ "__name__" := by decide) (hdb : (x == ("__debug__" : Str)) = false := by decide)
    (he : starEach (e :: es) X.env = (false, eval e X.env) :: starEach es X.env := by rfl) (hpl : (backTo pos (starEach es X.env)).any (·.1) = false := by rfl) : DE X Φ W (.Call (.Name x p) (e :: es) [] pos) (tCB r ta) (mFn w n) :=
  ⟨pe_callB c.cr hg hm hv ha.pa hn hdb he hpl, fun σ ρ s G H Q P R hρ f hW h k => ha.sem σ ρ s G H _ _ R hρ f hW h fun ds s1 vs G1 H1 h1 e1 f1 r1 =>
    c.sem vs ds G1 H1 _ _ r1 (Frm.same f1) h1 fun d v G2 H2 p x2 r2 => k d s1 v G2 H2 p (e1.trans (x2.out (Frm.same f1)).1) (Frm.exts x2 f1) r2⟩
theorem de_callTy (c : Fn1 X (.type T) r w) (hg : Gl X x) (hm : X.mg x = none) (hv : bootBuiltins x = some (.type T)) (ha : DA X Φ W (e :: es) ta n) (hn : x ≠ "__name__" := by decide) (hdb : (x == ("__debug__" : Str)) = false := by decide)
    (he : starEach (e :: es) X.env = (false, eval e X.env) :: starEach es X.env := by rfl) (hpl : (backTo pos (starEach es X.env)).any (·.1) = false := by rfl) : DE X Φ W (.Call (.Name x p) (e :: es) [] pos) (tCB r ta) (mFn w n) :=
  ⟨pe_callTy c.cr hg hm hv ha.pa hn hdb he hpl, fun σ ρ s G H Q P R hρ f hW h k => ha.sem σ ρ s G H _ _ R hρ f hW h fun ds s1 vs G1 H1 h1 e1 f1 r1 =>
    c.sem vs ds G1 H1 _ _ r1 (Frm.same f1) h1 fun d v G2 H2 p x2 r2 => k d s1 v G2 H2 p (e1.trans (x2.out (Frm.same f1)).1) (Frm.exts x2 f1) r2⟩
end
end
end DL

set_option Elab.async false
set_option linter.all false
set_option maxRecDepth 100000
set_option maxHeartbeats 1000000
namespace DL
open PySem PySem.Spec PyProof.Rows L2

section
variable {S : Type} {X : Cx} {Φ : S → Hp → Hp → Prop} {W : WX} [Frm Φ]
/-! ### statements -/
def sNil : MS S := fun M ρ s => M.nx ρ s
def sSeq (t u : MS S) : MS S := fun M ρ s => t { M with nx := u M } ρ s
section
variable {st : Stmt} {rest : List Stmt} {ts us : TS} {m n : MS S} {pos : Pos}
theorem dss_nil : DSs X Φ W [] tNext (sNil : MS S) := ⟨pss_nil, fun σ ρ s G H D M hρ f h E => E.nx σ ρ s G H h (Same.refl _) hρ f⟩
theorem dss_one (h : DS X Φ W st ts m) : DSs X Φ W [st] ts m := ⟨pss_one h.ps, h.sem⟩
theorem dss_cons (h : DS X Φ W st ts m) (h' : DSs X Φ W rest us n) : DSs X Φ W (st :: rest) (tSeq ts us) (sSeq m n) :=
  ⟨pss_cons h.ps h'.pss, fun σ ρ s G H D M hρ f hm E => h.sem σ ρ s G H { D with nx := us D } { M with nx := n M } hρ f hm
    ⟨fun σ' ρ' s' G' H' p e r f' => h'.sem σ' ρ' s' G' H' D M r f' p (E.mono e), E.rt, E.bk, E.ct, E.ex⟩⟩
theorem ds_pass : DS X Φ W (.Pass pos) tNext (sNil : MS S) := ⟨ps_pass, fun σ ρ s G H D M hρ f h E => E.nx σ ρ s G H h (Same.refl _) hρ f⟩
def sBrk : MS S := fun M ρ s => M.bk ρ s
def sCt : MS S := fun M ρ s => M.ct ρ s
theorem ds_break : DS X Φ W (.Break pos) tBreak (sBrk : MS S) := ⟨ps_break, fun σ ρ s G H D M hρ f h E => E.bk σ ρ s G H h (Same.refl _) hρ f⟩
theorem ds_continue : DS X Φ W (.Continue pos) tCont (sCt : MS S) := ⟨ps_continue, fun σ ρ s G H D M hρ f h E => E.ct σ ρ s G H h (Same.refl _) hρ f⟩
theorem ds_doc {x j pos pos'} : DS X Φ W (.Expr (.Constant (.str x) j pos) pos') tNext (sNil : MS S) := ⟨ps_doc, fun σ ρ s G H D M hρ f h E => E.nx σ ρ s G H h (Same.refl _) hρ f⟩
end
section
variable {e : Expr} {te : TE} {m : ME S} {pos : Pos}
def sDrop (m : ME S) : MS S := fun M ρ s => m ρ s (fun _ s1 => M.nx ρ s1) (fun x s1 => M.ex x ρ s1)
theorem ds_expr (h : DE X Φ W e te m) (hs : swapsWith e none pos.line X.env = pure false := by rfl) : DS X Φ W (.Expr e pos) (tDrop te) (sDrop m) :=
  ⟨ps_expr h.pe hs, fun σ ρ s G H D M hρ f hm E => h.sem σ ρ s G H _ _ _ hρ f (E.wsh hρ) hm fun d s1 v G1 H1 p e1 f1 _ => E.nx σ ρ s1 G1 H1 p e1 (hρ.mono e1) f1⟩
def sRet (m : ME S) : MS S := fun M ρ s => m ρ s M.rt (fun x s1 => M.ex x ρ s1)
theorem ds_ret (h : DE X Φ W e te m) : DS X Φ W (.Return (some e) pos) (tRet te) (sRet m) :=
  ⟨ps_ret h.pe, fun σ ρ s G H D M hρ f hm E => h.sem σ ρ s G H _ _ _ hρ f (E.wsh hρ) hm fun d s1 v G1 H1 p e1 f1 r1 => E.rt d s1 v G1 H1 p e1 f1 r1⟩
def sRetN : MS S := fun M _ s => M.rt .non s
theorem ds_retN : DS X Φ W (.Return none pos) tRetN (sRetN : MS S) := ⟨ps_retN, fun σ ρ s G H D M hρ f h E => E.rt .non s .non G H h (Same.refl _) f .non⟩
def sSet (i : Nat) (m : ME S) : MS S := fun M ρ s => m ρ s (fun d s1 => M.nx (ρ.set i (some d)) s1) (fun x s1 => M.ex x ρ s1)
theorem ds_set {i : Nat} {x : Str} {pos' : Pos} (hN : X.N.Nodup) (hi : X.N[i]? = some x) (hx : Loc X.env.scope x) (h : DE X Φ W e te m) (hs : swapsWith e (some (.Name x pos')) pos.line X.env = pure false := by rfl) (hf : X.fn x = true ∨ X.env.scope.names.lookup x = some .local := by first | exact .inl rfl | exact .inr rfl | assumption) :
    DS X Φ W (.Assign [.Name x pos'] e pos) (tAsg te (gName i)) (sSet i m) :=
  ⟨ps_set hN hi hx h.pe hs hf, fun σ ρ s G H D M hρ f hm E => h.sem σ ρ s G H _ _ _ hρ f (E.wsh hρ) hm fun d s1 v G1 H1 p e1 f1 r1 => E.nx _ _ s1 G1 H1 p e1 ((hρ.mono e1).set i r1) f1⟩
end
def sIf (t : MT S) (m n : MS S) : MS S := fun M ρ s => t ρ s (fun c s1 => if c = true then m M ρ s1 else n M ρ s1) (fun x s1 => M.ex x ρ s1)
theorem ds_if {c : Expr} {a b : List Stmt} {tc : TT} {ts us : TS} {mc : MT S} {m n : MS S} {pos : Pos} (hc : DT X Φ W c tc mc) (ha : DSs X Φ W a ts m) (hb : DSs X Φ W b us n) : DS X Φ W (.If c a b pos) (tIfS tc ts us) (sIf mc m n) :=
  ⟨ps_if hc.pt ha.pss hb.pss, fun σ ρ s G H D M hρ f hm E => hc.sem σ ρ s G H _ _ _ hρ f (E.wsh hρ) hm fun c s1 G1 H1 h1 e1 f1 => by
    cases c with
    | true =>
      simp only [if_true] at h1 ⊢
      exact ha.sem σ ρ s1 G1 H1 D M (hρ.mono e1) f1 h1 (E.mono e1)
    | false =>
      simp only [Bool.false_eq_true, if_false] at h1 ⊢
      exact hb.sem σ ρ s1 G1 H1 D M (hρ.mono e1) f1 h1 (E.mono e1)⟩
/-! two names at once, x, y = a, b -/
def sPar (i j : Nat) (n : MA S) : MS S := fun M ρ s => n ρ s (fun ds s1 => ∃ a b, ds = [a, b] ∧ M.nx ((ρ.set i (some a)).set j (some b)) s1) (fun x s1 => M.ex x ρ s1)
theorem ds_par {i j : Nat} {x y : Str} {a b : Expr} {ta : TA} {n : MA S} {px py pt pos : Pos} {kt k2 pt2} (hc : X.calm = true) (hN : X.N.Nodup) (hi : X.N[i]? = some x) (hj : X.N[j]? = some y) (hij : i ≠ j)
    (hx : X.env.scope.names.lookup x = some .local) (hy : X.env.scope.names.lookup y = some .local) (ha : DA X Φ W [a, b] ta n)
    (hw : swappedStores [.Tuple [.Name x px, .Name y py] kt pt] (.Tuple [a, b] k2 pt2) X.env = pure (some [x, y]) := by rfl)
    (hs : swapsWithSole [.Tuple [.Name x px, .Name y py] kt pt] (.Tuple [a, b] k2 pt2) pos.line X.env = pure false := by rfl) :
    DS X Φ W (.Assign [.Tuple [.Name x px, .Name y py] kt pt] (.Tuple [a, b] k2 pt2) pos) (tPar i j ta) (sPar i j n) :=
  ⟨ps_par hc hN hi hj hij hx hy ha.pa hw hs, fun σ ρ s G H D M hρ f hm E => ha.sem σ ρ s G H _ _ _ hρ f (E.wsh hρ) hm fun ds s1 vs G1 H1 ⟨a, b, ed, p⟩ e1 f1 r1 => by
    subst ed
    cases r1 with
    | cons ra r1 =>
      cases r1 with
      | cons rb r1 =>
        cases r1
        exact ⟨_, _, rfl, E.nx _ _ s1 G1 H1 p e1 (((hρ.mono e1).set i ra).set j rb) f1⟩⟩

/-! ### targets -/
abbrev MG (S : Type) := D → Rho → S → (Rho → S → Prop) → Prop
abbrev MGs (S : Type) := List D → Rho → S → (Rho → S → Prop) → Prop
structure DG (X : Cx) (Φ : S → Hp → Hp → Prop) (tg : Expr) (g : TG) (m : MG S) (il : List Nat) : Prop where
  pg : PG X tg g
  sem : ∀ (σ : Sig) (ρ : Rho) (s : S) (G H : Hp) (v : V) (d : D) (Q : Sig → Hp → Prop) (P : Rho → S → Prop), RelE X.K X.mg G σ ρ → Φ s G H → Rp X.K X.mg G v d → m d ρ s P →
    (∀ (σ' : Sig) (ρ' : Rho) (s' : S) (G' H' : Hp), P ρ' s' → Same G G' → RelE X.K X.mg G' σ' ρ' → Φ s' G' H' → (∀ vs : List Nat, (∀ i ∈ il, i ∈ vs) → wipe σ' vs = wipe σ vs) → Q σ' H') → g v σ H Q
structure DGs (X : Cx) (Φ : S → Hp → Hp → Prop) (tg : List Expr) (g : TGs) (m : MGs S) (il : List Nat) : Prop where
  pg : PGs X tg g
  sem : ∀ (σ : Sig) (ρ : Rho) (s : S) (G H : Hp) (vs : List V) (ds : List D) (Q : Sig → Hp → Prop) (P : Rho → S → Prop), RelE X.K X.mg G σ ρ → Φ s G H → RpL X.K X.mg G vs ds → m ds ρ s P →
    (∀ (σ' : Sig) (ρ' : Rho) (s' : S) (G' H' : Hp), P ρ' s' → Same G G' → RelE X.K X.mg G' σ' ρ' → Φ s' G' H' → (∀ vs : List Nat, (∀ i ∈ il, i ∈ vs) → wipe σ' vs = wipe σ vs) → Q σ' H') → g vs σ H Q
def gNm (i : Nat) : MG S := fun d ρ s P => P (ρ.set i (some d)) s
theorem wipe_out' {σ : Sig} {u : Option V} {i : Nat} : ∀ {vs : List Nat}, i ∉ vs → wipe (σ.set i u) vs = (wipe σ vs).set i u
  | [], _ => rfl
  | v :: vs, h => by
    unfold wipe
    rw [wipe_out' fun q => h (List.mem_cons_of_mem _ q), List.set_comm _ _ fun q => h (by rw [q]; exact List.mem_cons_self)]
theorem wipe_set {σ : Sig} {u : Option V} {i : Nat} : ∀ {vs : List Nat}, i ∈ vs → wipe (σ.set i u) vs = wipe σ vs
  | v :: vs, h => by
    unfold wipe
    by_cases q : i ∈ vs
    · rw [wipe_set q]
    · have e : i = v := by
        rcases List.mem_cons.mp h with e | e
        · exact e
        · exact absurd e q
      subst e
      rw [wipe_out' q, List.set_set]
theorem dg_name {i : Nat} {x : Str} {pos : Pos} (hN : X.N.Nodup) (hi : X.N[i]? = some x) (hx : Loc X.env.scope x) (hf : X.fn x = true ∨ X.env.scope.names.lookup x = some .local := by first | exact .inl rfl | exact .inr rfl | assumption) : DG X Φ (.Name x pos) (gName i) (gNm i : MG S) [i] :=
  ⟨pg_name hN hi hx hf, fun σ ρ s G H v d Q P hρ f r h k => k _ _ s G H h (Same.refl _) (hρ.set i r) f fun vs hv => wipe_set (hv i (List.mem_singleton.mpr rfl))⟩
def gNl : MGs S := fun ds ρ s P => ds = [] ∧ P ρ s
def gCn (m : MG S) (n : MGs S) : MGs S := fun ds ρ s P => ∃ d es, ds = d :: es ∧ m d ρ s fun ρ' s' => n es ρ' s' P
theorem dgs_nil : DGs X Φ [] gNil (gNl : MGs S) [] := ⟨pgs_nil, fun σ ρ s G H vs ds Q P hρ f r ⟨e, h⟩ k => by
  subst e
  cases r
  exact ⟨rfl, k _ _ s G H h (Same.refl _) hρ f fun _ _ => rfl⟩⟩
theorem dgs_cons {e : Expr} {es : List Expr} {g : TG} {gs : TGs} {m : MG S} {n : MGs S} {il jl : List Nat} (h : DG X Φ e g m il) (h' : DGs X Φ es gs n jl)
    (hs : (assignEach (e :: es) X.env).map (·.2) = assign e X.env :: (assignEach es X.env).map (·.2) := by rfl) : DGs X Φ (e :: es) (gCons g gs) (gCn m n) (il ++ jl) :=
  ⟨pgs_cons h.pg h'.pg hs, fun σ ρ s G H vs ds Q P hρ f r ⟨d, es, e, hm⟩ k => by
    subst e
    cases r with
    | cons r1 r2 => exact ⟨_, _, rfl, h.sem σ ρ s G H _ _ _ _ hρ f r1 hm fun σ1 ρ1 s1 G1 H1 p e1 h1 f1 z1 => h'.sem σ1 ρ1 s1 G1 H1 _ _ _ _ h1 f1 (r2.mono e1) p fun σ2 ρ2 s2 G2 H2 p2 e2 h2 f2 z2 => k σ2 ρ2 s2 G2 H2 p2 (e1.trans e2) h2 f2 fun vs hv => (z2 vs fun i hi => hv i (List.mem_append_right _ hi)).trans (z1 vs fun i hi => hv i (List.mem_append_left _ hi))⟩⟩
def gTp (n : Nat) (m : MGs S) : MG S := fun d ρ s P => ∃ ds, d = .tup ds ∧ ds.length = n ∧ m ds ρ s P
theorem dg_tup {es : List Expr} {k n : Nat} {pos : Pos} {g : TGs} {m : MGs S} {il : List Nat} (hc : X.calm = true) (h : DGs X Φ es g m il)
    (hn : (assignEach es X.env).length = n := by rfl) (hst : (assignEach es X.env).findIdx? (·.1) = none := by rfl) : DG X Φ (.Tuple es k pos) (gTup X.K n g) (gTp n m) il :=
  ⟨pg_tup hc h.pg hn hst, fun σ ρ s G H v d Q P hρ f r ⟨ds, e, hl, hm⟩ k => by
    subst e
    cases r with
    | tup q rl => exact ⟨_, _, rfl, sqt_mono (Frm.same f) q, by rw [rl.len]; exact hl, h.sem σ ρ s G H _ _ _ _ hρ f rl hm k⟩⟩
def sAsg (m : ME S) (g : MG S) : MS S := fun M ρ s => m ρ s (fun d s1 => g d ρ s1 M.nx) (fun x s1 => M.ex x ρ s1)
theorem ds_asg {tg e : Expr} {te : TE} {g : TG} {m : ME S} {mg : MG S} {pos : Pos} {il : List Nat} (h : DE X Φ W e te m) (hg : DG X Φ tg g mg il) (hs : swapsWithSole [tg] e pos.line X.env = pure false := by rfl) (hw : swappedStores [tg] e X.env = pure none := by rfl)
    (h1 : (assignEach [tg] X.env).map (·.2) = [assign tg X.env] := by rfl) : DS X Φ W (.Assign [tg] e pos) (tAsg te g) (sAsg m mg) :=
  ⟨ps_asg h.pe hg.pg hs hw h1, fun σ ρ s G H D M hρ f hm E => h.sem σ ρ s G H _ _ _ hρ f (E.wsh hρ) hm fun d s1 v G1 H1 p e1 f1 r1 =>
    hg.sem σ ρ s1 G1 H1 v d _ _ (hρ.mono e1) f1 r1 p fun σ2 ρ2 s2 G2 H2 p2 e2 r2 f2 _ => E.nx σ2 ρ2 s2 G2 H2 p2 (e1.trans e2) r2 f2⟩

/-! ### what is walked: a list of trees -/
abbrev MI (S : Type) := Rho → S → (List D → S → Prop) → (Exn → S → Prop) → Prop
/-- the turns of J yield the trees ds -/
def Yields (K : PySem.W.Frag) (mg : Str → Option Value) (J : It) (G : Hp) (ds : List D) : Prop :=
  ∀ G' H, Same G G' → Same G' H → (∀ i, i < ds.length → J.go i H) ∧ J.stop ds.length H ∧ ∀ i x H', i < ds.length → J.yld i H x H' → ∃ G2, Ext G' H G2 H' ∧ ∃ d, ds[i]? = some d ∧ Rp K mg G2 x d
structure DI (X : Cx) (Φ : S → Hp → Hp → Prop) (W : WX) (tg iter : Expr) (wi : TI) (m : MI S) : Prop where
  pi : PI X tg iter wi
  sem : ∀ (σ : Sig) (ρ : Rho) (s : S) (G H : Hp) (Q : It → Hp → Prop) (P : List D → S → Prop) (R : Exn → S → Prop), RelE X.K X.mg G σ ρ → Φ s G H → Wsh X.K X.mg Φ W G σ R → m ρ s P R →
    (∀ (ds : List D) (s' : S) (J : It) (G' H' : Hp), P ds s' → Same G G' → Φ s' G' H' → Yields X.K X.mg J G' ds → Q J H') → wi σ H Q
section
variable {K : PySem.W.Frag} {mg : Str → Option Value} {G : Hp}
theorem y_list {a : Addr} {vs : List V} {ds : List D} (h : G a = some (.lst vs)) (r : RpL K mg G vs ds) : Yields K mg (Itl K a) G ds := fun G' H e e' => by
  have hq : SqL K H a vs := SqL.of (e' _ _ (e _ _ h))
  have hl := r.len
  refine ⟨fun i hi => ⟨vs, vs[i]'(by omega), hq, by simp [hl, hi]⟩, ⟨vs, hq, by omega⟩, fun i x H' hi ⟨e1, y⟩ => ?_⟩
  subst e1
  obtain ⟨d, h1, h2⟩ := r.atV (y vs hq)
  exact ⟨G', .refl, d, h1, h2.mono e⟩
theorem y_tup {a : Addr} {vs : List V} {ds : List D} (h : SqT K G a vs) (r : RpL K mg G vs ds) : Yields K mg (Itt K a) G ds := fun G' H e e' => by
  have hq : SqT K H a vs := sqt_mono (e.trans e') h
  have hl := r.len
  refine ⟨fun i hi => ⟨vs, vs[i]'(by omega), hq, by simp [hl, hi]⟩, ⟨vs, hq, by omega⟩, fun i x H' hi ⟨e1, y⟩ => ?_⟩
  subst e1
  obtain ⟨d, h1, h2⟩ := r.atV (y vs hq)
  exact ⟨G', .refl, d, h1, h2.mono e⟩
def rngD (lo : Int) (n : Nat) : List D := (List.range n).map fun (i : Nat) => D.int (lo + i)
theorem y_rng (lo : Int) (n : Nat) : Yields K mg (Itr lo n) G (rngD lo n) := fun G' H e e' => by
  have hl : (rngD lo n).length = n := by simp [rngD]
  rw [hl]
  refine ⟨fun i hi => hi, Nat.le_refl _, fun i x H' hi ⟨e1, y⟩ => ?_⟩
  subst e1 y
  refine ⟨G', .refl, .int (lo + i), ?_, .int _⟩
  unfold rngD
  rw [List.getElem?_map, List.getElem?_range hi]
  rfl
end
end
end DL

set_option Elab.async false
set_option linter.all false
set_option maxRecDepth 100000
set_option maxHeartbeats 1000000
namespace DL
open PySem PySem.Spec PyProof.Rows L2

section
variable {S : Type} {X : Cx} {Φ : S → Hp → Hp → Prop} {W : WX} [Frm Φ]
/-! ### for -/
def wFor (g : MG S) (b : MS S) : List D → MS S
  | [] => fun M ρ s => M.nx ρ s
  | d :: ds => fun M ρ s => g d ρ s fun ρ1 s1 => b { M with nx := wFor g b ds M, ct := wFor g b ds M, bk := M.nx } ρ1 s1
def sFor (mi : MI S) (g : MG S) (b : MS S) : MS S := fun M ρ s => mi ρ s (fun ds s1 => wFor g b ds M ρ s1) (fun x s1 => M.ex x ρ s1)
theorem ds_for {tg iter : Expr} {body : List Stmt} {wi : TI} {gt : TG} {tb : TS} {pos : Pos} {mi : MI S} {g : MG S} {b : MS S} {il : List Nat} (hp : PassesOwn (model X.prog X.w) X.A X.env X.xe) (hc : X.calm = true) (hi : DI X Φ W tg iter wi mi) (hg : DG X Φ tg gt g il) (hb : DSs X Φ W body tb b)
    (hs : ∀ x, foldedSetIterable iter X.env x = pure x := by intro _; rfl) : DS X Φ W (.For tg iter body [] pos) (tFor wi gt tb) (sFor mi g b) := by
  refine ⟨ps_for hp hc hi.pi hg.pg hb.pss hs, fun σ ρ s G H D M hρ f hm E => ?_⟩
  refine hi.sem σ ρ s G H _ _ _ hρ f (E.wsh hρ) hm fun ds s1 J G1 H1 p e1 f1 y => ?_
  refine ⟨fun i m σ H => m = ds.length - i ∧ i ≤ ds.length ∧ ∃ ρ s G', Same G1 G' ∧ RelE X.K X.mg G' σ ρ ∧ Φ s G' H ∧ wFor g b (ds.drop i) M ρ s, ⟨_, rfl, Nat.zero_le _, ρ, s1, G1, Same.refl _, hρ.mono e1, f1, p⟩, ?_⟩
  rintro i m σ2 H2 ⟨rfl, hi', ρ2, s2, G2, e2, r2, f2, q⟩
  obtain ⟨go, st, yl⟩ := y G2 H2 e2 (Frm.same f2)
  by_cases hlt : i < ds.length
  · refine .inr ⟨go i hlt, fun σ' H' => ∃ ρ s G', Same G1 G' ∧ RelE X.K X.mg G' σ' ρ ∧ Φ s G' H' ∧ wFor g b (ds.drop (i + 1)) M ρ s, fun σ' H' h => ⟨ds.length - (i + 1), by omega, rfl, hlt, h⟩, fun x H' hx => ?_⟩
    obtain ⟨G3, x3, d, hd, rd⟩ := yl i x H' hlt hx
    have ed : ds.drop i = d :: ds.drop (i + 1) := by
      rw [List.drop_eq_getElem_cons hlt]
      congr 1
      have := List.getElem?_eq_getElem hlt
      rw [hd] at this
      exact (Option.some.inj this).symm
    rw [ed] at q
    have s23 := (x3.out (Frm.same f2)).1
    have f3 := Frm.exts x3 f2
    refine hg.sem σ2 ρ2 s2 G3 H' x d _ _ (r2.mono s23) f3 rd q fun σ4 ρ4 s4 G4 H4 h4 e4 r4 f4 _ => ?_
    have e14 : Same G1 G4 := (e2.trans s23).trans e4
    refine hb.sem σ4 ρ4 s4 G4 H4 _ _ r4 f4 h4 ⟨fun σ5 ρ5 s5 G5 H5 h5 e5 r5 f5 => ⟨ρ5, s5, G5, e14.trans e5, r5, f5, h5⟩, fun d s5 v G5 H5 h5 e5 f5 r5 => E.rt d s5 v G5 H5 h5 ((e1.trans e14).trans e5) f5 r5,
      fun σ5 ρ5 s5 G5 H5 h5 e5 r5 f5 => E.nx σ5 ρ5 s5 G5 H5 h5 ((e1.trans e14).trans e5) r5 f5, fun σ5 ρ5 s5 G5 H5 h5 e5 r5 f5 => ⟨ρ5, s5, G5, e14.trans e5, r5, f5, h5⟩,
      fun x σ5 ρ5 s5 G5 H5 cls d h5 e5 r5 f5 z => E.ex x σ5 ρ5 s5 G5 H5 cls d h5 ((e1.trans e14).trans e5) r5 f5 z⟩
  · have ei : i = ds.length := by omega
    subst ei
    rw [List.drop_length] at q
    exact .inl ⟨st, E.nx σ2 ρ2 s2 G2 H2 q (e1.trans e2) r2 f2⟩
/-! sources -/
def iLst (m : ME S) : MI S := fun ρ s P R => m ρ s (fun d s1 => ∃ ds, d = .lst ds ∧ P ds s1) R
def iTpl (m : ME S) : MI S := fun ρ s P R => m ρ s (fun d s1 => ∃ ds, d = .tup ds ∧ P ds s1) R
theorem di_list {tg l : Expr} {tl : TE} {m : ME S} (h : DE X Φ W l tl m) : DI X Φ W tg l (iList X.K tl) (iLst m) :=
  ⟨pi_list h.pe, fun σ ρ s G H Q P R hρ f hW hm k => h.sem σ ρ s G H _ _ R hρ f hW hm fun d s1 v G1 H1 ⟨ds, ed, p⟩ e1 f1 r1 => by
    subst ed
    cases r1 with
    | lst q rl => exact ⟨_, rfl, ⟨_, SqL.of (Frm.same f1 _ _ q)⟩, k ds s1 _ G1 H1 p e1 f1 (y_list q rl)⟩⟩
theorem di_tup {tg l : Expr} {tl : TE} {m : ME S} (h : DE X Φ W l tl m) : DI X Φ W tg l (iTup X.K tl) (iTpl m) :=
  ⟨pi_tup h.pe, fun σ ρ s G H Q P R hρ f hW hm k => h.sem σ ρ s G H _ _ R hρ f hW hm fun d s1 v G1 H1 ⟨ds, ed, p⟩ e1 f1 r1 => by
    subst ed
    cases r1 with
    | tup q rl => exact ⟨_, rfl, ⟨_, sqt_mono (Frm.same f1) q⟩, k ds s1 _ G1 H1 p e1 f1 (y_tup q rl)⟩⟩
def iRg1 (n : MA S) : MI S := fun ρ s P R => n ρ s (fun ds s1 => ∃ j : Int, ds = [.int j] ∧ (-(2 ^ 62) ≤ j ∧ j < 2 ^ 62) ∧ P (rngD 0 j.toNat) s1) R
def iRg2 (n : MA S) : MI S := fun ρ s P R => n ρ s (fun ds s1 => ∃ i j : Int, ds = [.int i, .int j] ∧ (-(2 ^ 62) ≤ i ∧ i < 2 ^ 62 ∧ -(2 ^ 62) ≤ j ∧ j < 2 ^ 62) ∧ P (rngD i (j - i).toNat) s1) R
theorem rpl1 {K : PySem.W.Frag} {mg : Str → Option Value} {G : Hp} {vs : List V} {a : D} (r : RpL K mg G vs [a]) : ∃ v, vs = [v] ∧ Rp K mg G v a := by
  cases r with
  | cons ra r =>
    cases r
    exact ⟨_, rfl, ra⟩
theorem rpl2 {K : PySem.W.Frag} {mg : Str → Option Value} {G : Hp} {vs : List V} {a b : D} (r : RpL K mg G vs [a, b]) : ∃ v u, vs = [v, u] ∧ Rp K mg G v a ∧ Rp K mg G u b := by
  cases r with
  | cons ra r =>
    obtain ⟨u, rfl, rb⟩ := rpl1 r
    exact ⟨_, _, rfl, ra, rb⟩
theorem di_range1 {tg a : Expr} {ta : TA} {n : MA S} {p pos : Pos} (hg : Gl X "range") (hm : X.mg "range" = none) (ha : DA X Φ W [a] ta n) (hs : starEach [a] X.env = [(false, eval a X.env)] := by rfl) : DI X Φ W tg (.Call (.Name "range" p) [a] [] pos) (iRng1 ta) (iRg1 n) :=
  ⟨pi_range1 hg hm ha.pa hs, fun σ ρ s G H Q P R hρ f hW h k => ha.sem σ ρ s G H _ _ R hρ f hW h fun ds s1 vs G1 H1 ⟨j, ed, hb, p⟩ e1 f1 r1 => by
    subst ed
    obtain ⟨v, rfl, r⟩ := rpl1 r1
    cases rp_int r
    exact ⟨j, rfl, hb.1, hb.2, k _ s1 _ G1 H1 p e1 f1 (y_rng 0 _)⟩⟩
theorem di_range2 {tg a b : Expr} {ta : TA} {n : MA S} {p pos : Pos} (hg : Gl X "range") (hm : X.mg "range" = none) (ha : DA X Φ W [a, b] ta n) (hs : starEach [a, b] X.env = [(false, eval a X.env), (false, eval b X.env)] := by rfl) (hs2 : starEach [b] X.env = [(false, eval b X.env)] := by rfl) : DI X Φ W tg (.Call (.Name "range" p) [a, b] [] pos) (iRng2 ta) (iRg2 n) :=
  ⟨pi_range2 hg hm ha.pa hs hs2, fun σ ρ s G H Q P R hρ f hW h k => ha.sem σ ρ s G H _ _ R hρ f hW h fun ds s1 vs G1 H1 ⟨i, j, ed, hb, p⟩ e1 f1 r1 => by
    subst ed
    obtain ⟨v, u, rfl, r, q⟩ := rpl2 r1
    cases rp_int r
    cases rp_int q
    exact ⟨i, j, rfl, hb, k _ s1 _ G1 H1 p e1 f1 (y_rng i _)⟩⟩
end

/-! ### objects of one's own: what one name holds, and what is changed -/
inductive DO where
  | lst (ds : List D)
  | dic (ks : List Key) (ds : List D)
  | ins (C : Str) (ns : List Str) (ds : List D)
def DO.tree : DO → D
  | .lst ds => .lst ds
  | .dic ks ds => .dic ks ds
  | .ins C ns ds => .ins C ns ds
inductive RpO (K : PySem.W.Frag) (mg : Str → Option Value) (G : Hp) : HO → DO → Prop
  | lst {vs : List V} {ds : List D} : RpL K mg G vs ds → RpO K mg G (.lst vs) (.lst ds)
  | dic {ks : List Key} {vs : List V} {ds : List D} : ks.length = vs.length → RpL K mg G vs ds → RpO K mg G (.dK (ks.zip vs)) (.dic ks ds)
  | ins {C : Str} {c dx : Addr} {ns : List Str} {vs : List V} {ds : List D} : mg C = some (.ref c) → ns.length = vs.length → RpL K mg G vs ds → RpO K mg G (.ins c dx (ns.zip vs)) (.ins C ns ds)
theorem RpO.mono {K : PySem.W.Frag} {mg : Str → Option Value} {G G' : Hp} {o : HO} {d : DO} (h : RpO K mg G o d) (e : Same G G') : RpO K mg G' o d := by
  cases h with
  | lst r => exact .lst (r.mono e)
  | dic l r => exact .dic l (r.mono e)
  | ins c l r => exact .ins c l (r.mono e)
theorem RpO.rp {K : PySem.W.Frag} {mg : Str → Option Value} {G : Hp} {o : HO} {d : DO} {a : Addr} (h : RpO K mg G o d) (g : G a = some o) : Rp K mg G (.ref a) d.tree := by
  cases h with
  | lst r => exact .lst g r
  | dic l r => exact .dic g l r
  | ins c l r => exact .ins c g l r
abbrev OH := Addr → Option DO
def OH.put (O : OH) (a : Addr) (x : DO) : OH := fun b => if b = a then some x else O b
def OH.del (O : OH) (a : Addr) : OH := fun b => if b = a then none else O b
theorem OH.put_same {O : OH} {a : Addr} {x : DO} : O.put a x a = some x := by unfold OH.put; rw [if_pos rfl]
theorem OH.put_ne {O : OH} {a b : Addr} {x : DO} (h : b ≠ a) : O.put a x b = O b := by unfold OH.put; rw [if_neg h]
theorem OH.del_same {O : OH} {a : Addr} : O.del a a = none := by unfold OH.del; rw [if_pos rfl]
theorem OH.del_ne {O : OH} {a b : Addr} (h : b ≠ a) : O.del a b = O b := by unfold OH.del; rw [if_neg h]
theorem OH.del_put {O : OH} {a : Addr} {x : DO} (h : O a = none) : (O.put a x).del a = O := by
  funext b
  by_cases e : b = a
  · subst e
    rw [OH.del_same, h]
  · rw [OH.del_ne e, OH.put_ne e]
theorem OH.put_put {O : OH} {a : Addr} {x y : DO} : (O.put a x).put a y = O.put a y := by
  funext b
  by_cases e : b = a
  · subst e
    rw [OH.put_same, OH.put_same]
  · rw [OH.put_ne e, OH.put_ne e, OH.put_ne e]
structure Phi (K : PySem.W.Frag) (mg : Str → Option Value) (O : OH) (G H : Hp) : Prop where
  same : Same G H
  own : ∀ a x, O a = some x → G a = none ∧ ∃ o, H a = some o ∧ RpO K mg G o x
instance {K : PySem.W.Frag} {mg : Str → Option Value} : Frm (Phi K mg) where
  same := fun h => h.same
  ext := fun {O G H a o} h n => ⟨same_both h.same n, fun b x e => by
    obtain ⟨h1, u, h2, h3⟩ := h.own b x e
    have nb := ne_of_none h2 n
    exact ⟨by rw [upd_ne nb]; exact h1, u, by rw [upd_ne nb]; exact h2, h3.mono (same_new (h.same.free n))⟩⟩
section
variable {K : PySem.W.Frag} {mg : Str → Option Value} {O : OH} {G H : Hp} {a : Addr} {o : HO} {x y : DO}
/-- a new one -/
theorem Phi.new (h : Phi K mg O G H) (n : H a = none) (r : RpO K mg G o x) : Phi K mg (O.put a x) G (upd H a o) := by
  refine ⟨h.same.trans (same_new n), fun b y e => ?_⟩
  by_cases q : b = a
  · subst q
    rw [OH.put_same] at e
    cases e
    exact ⟨h.same.free n, o, upd_same, r⟩
  · rw [OH.put_ne q] at e
    obtain ⟨h1, u, h2, h3⟩ := h.own b y e
    exact ⟨h1, u, by rw [upd_ne q]; exact h2, h3⟩
/-- .. changed -/
theorem Phi.put (h : Phi K mg O G H) (e : O a = some y) (r : RpO K mg G o x) : Phi K mg (O.put a x) G (upd H a o) := by
  obtain ⟨g0, u, h2, _⟩ := h.own a y e
  refine ⟨fun b u e => ?_, fun b y e => ?_⟩
  · have nb : b ≠ a := fun q => by
      rw [q, g0] at e
      cases e
    rw [upd_ne nb]
    exact h.same _ _ e
  · by_cases q : b = a
    · subst q
      rw [OH.put_same] at e
      cases e
      exact ⟨g0, o, upd_same, r⟩
    · rw [OH.put_ne q] at e
      obtain ⟨h1, u, h2, h3⟩ := h.own b y e
      exact ⟨h1, u, by rw [upd_ne q]; exact h2, h3⟩
/-- .. handed on as a tree: it changes no more -/
theorem Phi.frz (h : Phi K mg O G H) (e : O a = some x) : ∃ G', Same G G' ∧ Phi K mg (O.del a) G' H ∧ Rp K mg G' (.ref a) x.tree := by
  obtain ⟨g0, u, h2, h3⟩ := h.own a x e
  have sg := same_new (o := u) g0
  refine ⟨upd G a u, sg, ⟨fun b v e => ?_, fun b y e => ?_⟩, (h3.mono sg).rp upd_same⟩
  · by_cases q : b = a
    · subst q
      rw [upd_same] at e
      cases e
      exact h2
    · rw [upd_ne q] at e
      exact h.same _ _ e
  · by_cases q : b = a
    · subst q
      rw [OH.del_same] at e
      cases e
    · rw [OH.del_ne q] at e
      obtain ⟨h1, v, h4, h5⟩ := h.own b y e
      exact ⟨by rw [upd_ne q]; exact h1, v, h4, h5.mono sg⟩
/-- .. forgotten -/
theorem Phi.less {O' : OH} (h : Phi K mg O G H) (l : ∀ b x, O' b = some x → O b = some x) : Phi K mg O' G H := ⟨h.same, fun b x e => h.own b x (l b x e)⟩
end
/-- what stands around, one's own objects among it -/
class OFrm (K : PySem.W.Frag) (mg : Str → Option Value) (Φ : OH → Hp → Hp → Prop) : Prop extends Frm Φ where
  own : ∀ {O G H a x}, Φ O G H → O a = some x → G a = none ∧ ∃ o, H a = some o ∧ RpO K mg G o x
  new : ∀ {O G H a o x}, Φ O G H → H a = none → RpO K mg G o x → Φ (O.put a x) G (upd H a o)
  put : ∀ {O G H a o x y}, Φ O G H → O a = some y → RpO K mg G o x → Φ (O.put a x) G (upd H a o)
  frz : ∀ {O G H a x}, Φ O G H → O a = some x → ∃ G', Same G G' ∧ Φ (O.del a) G' H ∧ Rp K mg G' (.ref a) x.tree
  less : ∀ {O O' G H}, Φ O G H → (∀ b x, O' b = some x → O b = some x) → Φ O' G H
instance {K : PySem.W.Frag} {mg : Str → Option Value} : OFrm K mg (Phi K mg) where
  own := fun h o => h.own _ _ o
  new := fun h n r => h.new n r
  put := fun h o r => h.put o r
  frz := fun h o => h.frz o
  less := fun h l => h.less l
def delH (H : Hp) (a : Addr) : Hp := fun b => if b = a then none else H b
theorem delH_same {H : Hp} {a : Addr} : delH H a a = none := by unfold delH; rw [if_pos rfl]
theorem delH_ne {H : Hp} {a b : Addr} (h : b ≠ a) : delH H a b = H b := by unfold delH; rw [if_neg h]
theorem delH_upd {H : Hp} {a b : Addr} {o : HO} (h : b ≠ a) : delH (upd H b o) a = upd (delH H a) b o := by
  funext c
  by_cases e : c = a
  · subst e
    rw [delH_same, upd_ne h.symm, delH_same]
  · rw [delH_ne e]
    by_cases e2 : c = b
    · subst e2
      rw [upd_same, upd_same]
    · rw [upd_ne e2, upd_ne e2, delH_ne e]
theorem delH_self {H : Hp} {a : Addr} {o : HO} : delH (upd H a o) a = delH H a := by
  funext c
  by_cases e : c = a
  · subst e
    rw [delH_same, delH_same]
  · rw [delH_ne e, delH_ne e, upd_ne e]
theorem delH_new {H : Hp} {a : Addr} {o : HO} (n : H a = none) : delH (upd H a o) a = H := by
  rw [delH_self]
  funext c
  by_cases e : c = a
  · subst e
    rw [delH_same, n]
  · rw [delH_ne e]
theorem delH_some {H : Hp} {a b : Addr} {o : HO} (h : delH H a b = some o) : b ≠ a ∧ H b = some o := by
  by_cases e : b = a
  · subst e
    rw [delH_same] at h
    cases h
  · rw [delH_ne e] at h
    exact ⟨e, h⟩
theorem delH_none {H : Hp} {a b : Addr} (h : H b = none) : delH H a b = none := by
  by_cases e : b = a
  · subst e
    exact delH_same
  · rw [delH_ne e]
    exact h
/-- besides, at a stands the list vs: nobody's -/
def Own (Φ : OH → Hp → Hp → Prop) (a : Addr) (vs : List V) : OH → Hp → Hp → Prop := fun O G H => H a = some (.lst vs) ∧ Φ O G (delH H a)
instance {K : PySem.W.Frag} {mg : Str → Option Value} {Φ : OH → Hp → Hp → Prop} [F : OFrm K mg Φ] {a : Addr} {vs : List V} : OFrm K mg (Own Φ a vs) where
  same := fun h b o e => (delH_some (F.same h.2 b o e)).2
  ext := fun {O G H b o} h n => by
    have nb : a ≠ b := ne_of_none h.1 n
    refine ⟨by rw [upd_ne nb]; exact h.1, ?_⟩
    rw [delH_upd nb.symm]
    exact F.ext h.2 (delH_none n)
  own := fun h o => by
    obtain ⟨h1, ws, h2, h3⟩ := F.own h.2 o
    exact ⟨h1, ws, (delH_some h2).2, h3⟩
  new := fun {O G H b o x} h n r => by
    have nb : a ≠ b := ne_of_none h.1 n
    refine ⟨by rw [upd_ne nb]; exact h.1, ?_⟩
    rw [delH_upd nb.symm]
    exact F.new h.2 (delH_none n) r
  put := fun {O G H b u x y} h o r => by
    obtain ⟨h1, us, h2, h3⟩ := F.own h.2 o
    have nb := (delH_some h2).1
    refine ⟨by rw [upd_ne nb.symm]; exact h.1, ?_⟩
    rw [delH_upd nb]
    exact F.put h.2 o r
  frz := fun h o => by
    obtain ⟨G', s, p, r⟩ := F.frz h.2 o
    exact ⟨G', s, ⟨h.1, p⟩, r⟩
  less := fun h l => ⟨h.1, F.less h.2 l⟩
end DL

set_option Elab.async false
set_option linter.all false
set_option maxRecDepth 100000
set_option maxHeartbeats 1000000
namespace DL
open PySem PySem.Spec PyProof.Rows L2

/-! ### comprehensions -/
def wipeD (ρ : Rho) : List Nat → Rho
  | [] => ρ
  | v :: vs => (wipeD ρ vs).set v none
theorem RelE.wipe {K : PySem.W.Frag} {mg : Str → Option Value} {G : Hp} {σ : Sig} {ρ : Rho} (h : RelE K mg G σ ρ) : ∀ vs : List Nat, RelE K mg G (L2.wipe σ vs) (wipeD ρ vs)
  | [] => h
  | v :: vs => (h.wipe vs).drop v none
section
variable {X : Cx} {Φ : OH → Hp → Hp → Prop} {W : WX} [F : OFrm X.K X.mg Φ]
def W0 : WX := fun _ _ _ _ => False
def R0 {S : Type} : Exn → S → Prop := fun _ _ => False
/-- a reading taken as a rule's need: it speaks of no block -/
def cE (K : PySem.W.Frag) (mg : Str → Option Value) (F : Addr → List V → OH → Hp → Hp → Prop) (m : ME OH) : TE := fun σ H Q =>
  ∃ (D : Addr) (vs : List V) (ρ : Rho) (O : OH) (G : Hp) (P : DL.D → OH → Prop) (R : Exn → OH → Prop), RelE K mg G σ ρ ∧ F D vs O G H ∧ Wsh K mg (F D vs) W0 G σ R ∧ m ρ O P R ∧
    ∀ (d : DL.D) (O' : OH) (v : V) (G' H' : Hp), P d O' → Same G G' → F D vs O' G' H' → Rp K mg G' v d → Q v H'
def cT (K : PySem.W.Frag) (mg : Str → Option Value) (F : Addr → List V → OH → Hp → Hp → Prop) (m : MT OH) : TT := fun σ H Q =>
  ∃ (D : Addr) (vs : List V) (ρ : Rho) (O : OH) (G : Hp) (P : Bool → OH → Prop) (R : Exn → OH → Prop), RelE K mg G σ ρ ∧ F D vs O G H ∧ Wsh K mg (F D vs) W0 G σ R ∧ m ρ O P R ∧
    ∀ (b : Bool) (O' : OH) (G' H' : Hp), P b O' → Same G G' → F D vs O' G' H' → Q b H'
structure DTs {S : Type} (X : Cx) (Φ : S → Hp → Hp → Prop) (W : WX) (ifs : List Expr) (tt : TT) (m : MT S) : Prop where
  pts : PTs X ifs tt
  sem : ∀ (σ : Sig) (ρ : Rho) (s : S) (G H : Hp) (Q : Bool → Hp → Prop) (P : Bool → S → Prop) (R : Exn → S → Prop), RelE X.K X.mg G σ ρ → Φ s G H → Wsh X.K X.mg Φ W G σ R → m ρ s P R →
    (∀ (b : Bool) (s' : S) (G' H' : Hp), P b s' → Same G G' → Φ s' G' H' → Q b H') → tt σ H Q
def mYes {S : Type} : MT S := fun _ s P _ => P true s
theorem dts_nil {S : Type} {X : Cx} {Φ : S → Hp → Hp → Prop} {W : WX} : DTs X Φ W [] tYes (mYes : MT S) := ⟨pts_nil, fun σ ρ s G H Q P R hρ f hW h k => k true s G H h (Same.refl _) f⟩
theorem dts_one {S : Type} {X : Cx} {Φ : S → Hp → Hp → Prop} {W : WX} {c : Expr} {t : TT} {m : MT S} (h : DT X Φ W c t m) : DTs X Φ W [c] t m := ⟨pts_one h.pt, h.sem⟩
/-- the list that the turns make -/
def wLc (g : MG OH) (t : MT OH) (m : ME OH) (vs : List Nat) (ρ : Rho) (P : List D → OH → Prop) : List D → List D → OH → Prop
  | [], acc, O => P acc O
  | d :: ds, acc, O => g d (wipeD ρ vs) O fun ρ1 O1 => t ρ1 O1 (fun b O2 => if b = true then m ρ1 O2 (fun y O3 => acc.length < sizeLine ∧ wLc g t m vs ρ P ds (acc ++ [y]) O3) R0 else wLc g t m vs ρ P ds acc O2) R0
def mLc (mi : MI OH) (g : MG OH) (t : MT OH) (m : ME OH) (vs : List Nat) : ME OH := fun ρ O P R => mi ρ O (fun ds O1 => wLc g t m vs ρ (fun acc O2 => P (.lst acc) O2) ds [] O1) R
section
variable {elt tg iter : Expr} {ifs : List Expr} {scope : Scope} {own : List (Str × Nat)} {pos : Pos} {wi : TI} {g : TG} {tt : TT} {te : TE} {mi : MI OH} {mg : MG OH} {mt : MT OH} {me : ME OH} {il : List Nat}
theorem lc_sem (hi : DI X Φ W tg iter wi mi)
    (hg : ∀ (D : Addr) (vs : List V) (s : Shared) (H : Hp) (C : Addr) (cl : List (Str × Addr)) (fp : List Addr), DG (X.blk s H scope (compEnvC scope cl C X.env) fp) (Own Φ D vs) tg g mg il) (hil : ∀ i ∈ il, i ∈ own.map (·.2))
    (ht : ∀ (D : Addr) (vs : List V) (s : Shared) (H : Hp) (C : Addr) (cl : List (Str × Addr)) (fp : List Addr), DTs (X.blk s H scope (compEnvC scope cl C X.env) fp) (Own Φ D vs) W0 ifs tt mt)
    (he : ∀ (D : Addr) (vs : List V) (s : Shared) (H : Hp) (C : Addr) (cl : List (Str × Addr)) (fp : List Addr), DE (X.blk s H scope (compEnvC scope cl C X.env) fp) (Own Φ D vs) W0 elt te me)
    {σ : Sig} {ρ : Rho} {O : OH} {G H : Hp} {Q : VK} {R : Exn → OH → Prop} (hρ : RelE X.K X.mg G σ ρ) (f : Φ O G H) (hW : Wsh X.K X.mg Φ W G σ R) {PP : List D → OH → Prop} (h : mi ρ O (fun ds O1 => wLc mg mt me (own.map (·.2)) ρ PP ds [] O1) R)
    (k : ∀ (acc : List D) (vs : List V) (D : Addr) (s' : OH) (G' H' : Hp), PP acc s' → Same G G' → Own Φ D vs s' G' H' → RpL X.K X.mg G' vs acc → Q (.ref D) H') : tLc wi g tt te (own.map (·.2)) σ H Q := by
  refine hi.sem σ ρ O G H _ _ R hρ f hW h fun ds O1 J G1 H1 p e1 f1 y => ?_
  intro D nD
  refine ⟨fun i m H => m = ds.length - i ∧ i ≤ ds.length ∧ ∃ acc vs O G', Same G1 G' ∧ Own Φ D vs O G' H ∧ RpL X.K X.mg G' vs acc ∧ wLc mg mt me (own.map (·.2)) ρ PP (ds.drop i) acc O,
    ⟨_, rfl, Nat.zero_le _, [], [], O1, G1, Same.refl _, ⟨upd_same, by rw [delH_new nD]; exact f1⟩, .nil, p⟩, ?_⟩
  rintro i m H2 ⟨rfl, hi', acc, vs, O2, G2, e2, f2, racc, q⟩
  obtain ⟨go, st, yl⟩ := y G2 H2 e2 (Frm.same f2)
  by_cases hlt : i < ds.length
  · refine .inr ⟨go i hlt, fun H => ∃ acc vs O G', Same G1 G' ∧ Own Φ D vs O G' H ∧ RpL X.K X.mg G' vs acc ∧ wLc mg mt me (own.map (·.2)) ρ PP (ds.drop (i + 1)) acc O,
      fun H' h => ⟨ds.length - (i + 1), by omega, rfl, hlt, h⟩, fun x H' hx => ?_⟩
    obtain ⟨G3, x3, d, hd, rd⟩ := yl i x H' hlt hx
    have ed : ds.drop i = d :: ds.drop (i + 1) := by
      rw [List.drop_eq_getElem_cons hlt]
      congr 1
      have := List.getElem?_eq_getElem hlt
      rw [hd] at this
      exact (Option.some.inj this).symm
    rw [ed] at q
    have s23 := (x3.out (Frm.same f2)).1
    have f3 : Own Φ D vs O2 G3 H' := Frm.exts x3 f2
    refine (hg D vs X.s_0 H 0 [] []).sem _ _ O2 G3 H' x d _ _ (((hρ.mono e1).mono (e2.trans s23)).wipe (own.map fun p => p.2)) f3 rd q fun σ4 ρ4 O4 G4 H4 h4 e4 r4 f4 z4 => ?_
    refine ⟨?_, ?_⟩
    · have z := z4 (own.map (·.2)) hil
      rw [z]
      exact wipe_wipe
    refine (ht D vs X.s_0 H 0 [] []).sem σ4 ρ4 O4 G4 H4 _ _ R0 r4 f4 (fun _ _ _ _ _ _ _ _ _ z => z.elim) h4 fun b O5 G5 H5 h5 e5 f5 => ?_
    have e15 : Same G1 G5 := ((e2.trans s23).trans e4).trans e5
    cases b with
    | false =>
      simp only [Bool.false_eq_true, if_false] at h5 ⊢
      exact ⟨acc, vs, O5, G5, e15, f5, racc.mono ((s23.trans e4).trans e5), h5⟩
    | true =>
      simp only [if_true] at h5 ⊢
      refine (he D vs X.s_0 H 0 [] []).sem σ4 ρ4 O5 G5 H5 _ _ R0 (r4.mono e5) f5 (fun _ _ _ _ _ _ _ _ _ z => z.elim) h5 fun y O6 v6 G6 H6 ⟨hl, h6⟩ e6 f6 r6 => ?_
      have ra := racc.mono (((s23.trans e4).trans e5).trans e6)
      refine ⟨vs, f6.1, by rw [ra.len]; exact hl, acc ++ [y], vs ++ [v6], O6, G6, e15.trans e6, ⟨upd_same, ?_⟩, ra.app (.cons r6 .nil), h6⟩
      rw [delH_self]
      exact f6.2
  · have ei : i = ds.length := by omega
    subst ei
    rw [List.drop_length] at q
    exact .inl ⟨st, k acc vs D O2 G2 H2 q (e1.trans e2) f2 racc⟩
where
  wipe_wipe {σ : Sig} {vs : List Nat} : L2.wipe (L2.wipe σ vs) vs = L2.wipe σ vs := by
    have key : ∀ (us ws : List Nat) (τ : Sig), (∀ i ∈ us, i ∈ ws) → L2.wipe (L2.wipe τ us) ws = L2.wipe τ ws := by
      intro us
      induction us with
      | nil => intro ws τ _; rfl
      | cons u us ih =>
        intro ws τ h
        show L2.wipe ((L2.wipe τ us).set u none) ws = _
        rw [wipe_set (h u List.mem_cons_self)]
        exact ih ws τ fun i hi => h i (List.mem_cons_of_mem _ hi)
    exact key vs vs σ fun _ h => h
def relS (sc sc0 : Scope) : Scope := relabel sc ⟨sc0, 0, 0, [], .empty, none, .none, none, 0⟩
theorem blkOk_in {N : List Str} {sc0 sc scope : Scope} {own : List (Str × Nat)} {cl : List (Str × Addr)} {C : Addr} {env : Env} (h : blkC N (relS sc sc0) scope own = true) (he : env.scope = sc0 := by rfl) : BlkOk N (compEnvC sc cl C env).scope scope own := by
  subst he
  exact blkOk_by h
theorem cE_de {X : Cx} {F : Addr → List V → OH → Hp → Hp → Prop} {e : Expr} {m : ME OH} (h : ∀ D vs, ∃ te, DE X (F D vs) W0 e te m) (D : Addr) (vs : List V) : DE X (F D vs) W0 e (cE X.K X.mg F m) m := by
  refine ⟨⟨fun pins s σ H Q I ⟨D, vs, ρ, O, G, P, R, hρ, f, hW, hm, k⟩ => ?_⟩, fun σ ρ O G H Q P R hρ f hW hm k => ⟨D, vs, ρ, O, G, P, R, hρ, f, hW, hm, k⟩⟩
  obtain ⟨te, d⟩ := h D vs
  exact d.pe.run pins s σ H Q I (d.sem σ ρ O G H Q P R hρ f hW hm k)
theorem cT_dt {X : Cx} {F : Addr → List V → OH → Hp → Hp → Prop} {ifs : List Expr} {m : MT OH} (h : ∀ D vs, ∃ tt, DTs X (F D vs) W0 ifs tt m) (D : Addr) (vs : List V) : DTs X (F D vs) W0 ifs (cT X.K X.mg F m) m := by
  refine ⟨⟨fun pins s σ H Q I ⟨D, vs, ρ, O, G, P, R, hρ, f, hW, hm, k⟩ => ?_⟩, fun σ ρ O G H Q P R hρ f hW hm k => ⟨D, vs, ρ, O, G, P, R, hρ, f, hW, hm, k⟩⟩
  obtain ⟨tt, d⟩ := h D vs
  exact d.pts.run pins s σ H Q I (d.sem σ ρ O G H Q P R hρ f hW hm k)
theorem own_up {D : Addr} {vs : List V} {acc : List DL.D} {O : OH} {G H : Hp} (f2 : Own Φ D vs O G H) (racc : RpL X.K X.mg G vs acc) : ∃ G', Same G G' ∧ Φ O G' H ∧ Rp X.K X.mg G' (.ref D) (.lst acc) := by
  have g0 : G D = none := by
    cases z : G D with
    | none => rfl
    | some o => exact absurd rfl (delH_some (F.same f2.2 D o z)).1
  have sg := same_new (o := .lst vs) g0
  have eqH : upd (delH H D) D (.lst vs) = H := by
    funext c
    by_cases e : c = D
    · subst e
      rw [upd_same, f2.1]
    · rw [upd_ne e, delH_ne e]
  have z := F.ext (o := .lst vs) f2.2 (delH_same (H := H) (a := D))
  rw [eqH] at z
  exact ⟨_, sg, z, .lst upd_same (racc.mono sg)⟩
theorem own_own {D : Addr} {vs : List V} {acc : List DL.D} {O : OH} {G H : Hp} (f2 : Own Φ D vs O G H) (racc : RpL X.K X.mg G vs acc) : O D = none ∧ Φ (O.put D (.lst acc)) G H := by
  have eqH : upd (delH H D) D (.lst vs) = H := by
    funext c
    by_cases e : c = D
    · subst e
      rw [upd_same, f2.1]
    · rw [upd_ne e, delH_ne e]
  have z := F.new f2.2 (delH_same (H := H) (a := D)) (.lst racc)
  rw [eqH] at z
  refine ⟨?_, z⟩
  cases q : O D with
  | none => rfl
  | some y =>
    obtain ⟨_, o, h1, _⟩ := F.own f2.2 q
    rw [delH_same] at h1
    cases h1
/-- .. the list one's own -/
def mLcO (mi : MI OH) (g : MG OH) (t : MT OH) (m : ME OH) (vs : List Nat) : ME OH := fun ρ O P R => mi ρ O (fun ds O1 => wLc g t m vs ρ (fun acc O2 => ∀ p, O2 p = none → P (.loc p) (O2.put p (.lst acc))) ds [] O1) R
theorem de_lc (hc : X.calm = true) (hN : X.N.Nodup) (hi : DI X Φ W tg iter wi mi) (ok : BlkOk X.N X.env.scope scope own)
    (hg : ∀ (D : Addr) (vs : List V) (s : Shared) (H : Hp) (C : Addr) (cl : List (Str × Addr)) (fp : List Addr), DG (X.blk s H scope (compEnvC scope cl C X.env) fp) (Own Φ D vs) tg g mg il)
    (ht : ∀ (D : Addr) (vs : List V) (s : Shared) (H : Hp) (C : Addr) (cl : List (Str × Addr)) (fp : List Addr), DTs (X.blk s H scope (compEnvC scope cl C X.env) fp) (Own Φ D vs) W0 ifs tt mt)
    (he : ∀ (D : Addr) (vs : List V) (s : Shared) (H : Hp) (C : Addr) (cl : List (Str × Addr)) (fp : List Addr), DE (X.blk s H scope (compEnvC scope cl C X.env) fp) (Own Φ D vs) W0 elt te me)
    (hil : ∀ i ∈ il, i ∈ own.map (·.2) := by decide) (hs : ∀ x, foldedSetIterable iter X.env x = pure x := by intro _; rfl) :
    DE X Φ W (.ListComp elt [⟨tg, iter, ifs, 0⟩] scope pos) (tLc wi g tt te (own.map (·.2))) (mLc mi mg mt me (own.map (·.2))) :=
  ⟨pe_lc hc hN hi.pi ok (fun s H C cl fp => (hg 0 [] s H C cl fp).pg) (fun s H C cl fp => (ht 0 [] s H C cl fp).pts) (fun s H C cl fp => (he 0 [] s H C cl fp).pe) hs,
    fun σ ρ O G H Q P R hρ f hW h k => lc_sem hi hg hil ht he hρ f hW h fun acc vs D O2 G2 H2 p e f2 r => by
      obtain ⟨G3, s3, f3, r3⟩ := own_up f2 r
      exact k _ O2 _ G3 H2 p (e.trans s3) f3 r3⟩
theorem de_lcO (hc : X.calm = true) (hN : X.N.Nodup) (hi : DI X Φ W tg iter wi mi) (ok : BlkOk X.N X.env.scope scope own)
    (hg : ∀ (D : Addr) (vs : List V) (s : Shared) (H : Hp) (C : Addr) (cl : List (Str × Addr)) (fp : List Addr), DG (X.blk s H scope (compEnvC scope cl C X.env) fp) (Own Φ D vs) tg g mg il)
    (ht : ∀ (D : Addr) (vs : List V) (s : Shared) (H : Hp) (C : Addr) (cl : List (Str × Addr)) (fp : List Addr), DTs (X.blk s H scope (compEnvC scope cl C X.env) fp) (Own Φ D vs) W0 ifs tt mt)
    (he : ∀ (D : Addr) (vs : List V) (s : Shared) (H : Hp) (C : Addr) (cl : List (Str × Addr)) (fp : List Addr), DE (X.blk s H scope (compEnvC scope cl C X.env) fp) (Own Φ D vs) W0 elt te me)
    (hil : ∀ i ∈ il, i ∈ own.map (·.2) := by decide) (hs : ∀ x, foldedSetIterable iter X.env x = pure x := by intro _; rfl) :
    DE X Φ W (.ListComp elt [⟨tg, iter, ifs, 0⟩] scope pos) (tLc wi g tt te (own.map (·.2))) (mLcO mi mg mt me (own.map (·.2))) :=
  ⟨pe_lc hc hN hi.pi ok (fun s H C cl fp => (hg 0 [] s H C cl fp).pg) (fun s H C cl fp => (ht 0 [] s H C cl fp).pts) (fun s H C cl fp => (he 0 [] s H C cl fp).pe) hs,
    fun σ ρ O G H Q P R hρ f hW h k => lc_sem hi hg hil ht he hρ f hW h fun acc vs D O2 G2 H2 p e f2 r => by
      obtain ⟨o3, f3⟩ := own_own f2 r
      exact k _ _ _ G2 H2 (p D o3) e f3 (.loc D)⟩
/-- name = [..] -/
theorem ds_setLc {i : Nat} {y : Str} {py spos : Pos} (hc : X.calm = true) (hN : X.N.Nodup) (hy : X.N[i]? = some y) (hyl : X.env.scope.names.lookup y = some .local)
    (hsw : swapsWith (.ListComp elt [⟨tg, iter, ifs, 0⟩] scope pos) (some (.Name y py)) spos.line X.env = pure true) (hi : DI X Φ W tg iter wi mi) (ok : BlkOk X.N X.env.scope scope own)
    (hg : ∀ (D : Addr) (vs : List V) (s : Shared) (H : Hp) (C : Addr) (cl : List (Str × Addr)) (fp : List Addr), DG (X.blk s H scope (compEnvC scope cl C X.env) fp) (Own Φ D vs) tg g mg il)
    (ht : ∀ (D : Addr) (vs : List V) (s : Shared) (H : Hp) (C : Addr) (cl : List (Str × Addr)) (fp : List Addr), DTs (X.blk s H scope (compEnvC scope cl C X.env) fp) (Own Φ D vs) W0 ifs tt mt)
    (he : ∀ (D : Addr) (vs : List V) (s : Shared) (H : Hp) (C : Addr) (cl : List (Str × Addr)) (fp : List Addr), DE (X.blk s H scope (compEnvC scope cl C X.env) fp) (Own Φ D vs) W0 elt te me)
    (hil : ∀ i ∈ il, i ∈ own.map (·.2) := by decide) (hs : ∀ x, foldedSetIterable iter X.env x = pure x := by intro _; rfl) :
    DS X Φ W (.Assign [.Name y py] (.ListComp elt [⟨tg, iter, ifs, 0⟩] scope pos) spos) (tAsg (tLc wi g tt te (own.map (·.2))) (gName i)) (sSet i (mLc mi mg mt me (own.map (·.2)))) :=
  ⟨ps_setLc hc hN hy hyl hsw hi.pi ok (fun s H C cl fp => (hg 0 [] s H C cl fp).pg) (fun s H C cl fp => (ht 0 [] s H C cl fp).pts) (fun s H C cl fp => (he 0 [] s H C cl fp).pe) hs,
    fun σ ρ O G H D M hρ f hm E => lc_sem hi hg hil ht he hρ f (E.wsh hρ) hm fun acc vs D O2 G2 H2 p e f2 r => by
      obtain ⟨G3, s3, f3, r3⟩ := own_up f2 r
      exact E.nx _ _ O2 G3 H2 p (e.trans s3) ((hρ.mono (e.trans s3)).set i r3) f3⟩
/-! the same, where the rules of the element and the test may speak of the block -/
theorem de_lcE (hc : X.calm = true) (hN : X.N.Nodup) (hi : DI X Φ W tg iter wi mi) (ok : BlkOk X.N X.env.scope scope own)
    (hg : ∀ (D : Addr) (vs : List V) (s : Shared) (H : Hp) (C : Addr) (cl : List (Str × Addr)) (fp : List Addr), DG (X.blk s H scope (compEnvC scope cl C X.env) fp) (Own Φ D vs) tg g mg il)
    (ht : ∀ (D : Addr) (vs : List V) (s : Shared) (H : Hp) (C : Addr) (cl : List (Str × Addr)) (fp : List Addr), ∃ tt, DTs (X.blk s H scope (compEnvC scope cl C X.env) fp) (Own Φ D vs) W0 ifs tt mt)
    (he : ∀ (D : Addr) (vs : List V) (s : Shared) (H : Hp) (C : Addr) (cl : List (Str × Addr)) (fp : List Addr), ∃ te, DE (X.blk s H scope (compEnvC scope cl C X.env) fp) (Own Φ D vs) W0 elt te me)
    (hil : ∀ i ∈ il, i ∈ own.map (·.2) := by decide) (hs : ∀ x, foldedSetIterable iter X.env x = pure x := by intro _; rfl) :
    DE X Φ W (.ListComp elt [⟨tg, iter, ifs, 0⟩] scope pos) (tLc wi g (cT X.K X.mg (Own Φ) mt) (cE X.K X.mg (Own Φ) me) (own.map (·.2))) (mLc mi mg mt me (own.map (·.2))) :=
  de_lc hc hN hi ok hg (fun D vs s H C cl fp => cT_dt (fun D vs => ht D vs s H C cl fp) D vs) (fun D vs s H C cl fp => cE_de (fun D vs => he D vs s H C cl fp) D vs) hil hs
theorem de_lcOE (hc : X.calm = true) (hN : X.N.Nodup) (hi : DI X Φ W tg iter wi mi) (ok : BlkOk X.N X.env.scope scope own)
    (hg : ∀ (D : Addr) (vs : List V) (s : Shared) (H : Hp) (C : Addr) (cl : List (Str × Addr)) (fp : List Addr), DG (X.blk s H scope (compEnvC scope cl C X.env) fp) (Own Φ D vs) tg g mg il)
    (ht : ∀ (D : Addr) (vs : List V) (s : Shared) (H : Hp) (C : Addr) (cl : List (Str × Addr)) (fp : List Addr), ∃ tt, DTs (X.blk s H scope (compEnvC scope cl C X.env) fp) (Own Φ D vs) W0 ifs tt mt)
    (he : ∀ (D : Addr) (vs : List V) (s : Shared) (H : Hp) (C : Addr) (cl : List (Str × Addr)) (fp : List Addr), ∃ te, DE (X.blk s H scope (compEnvC scope cl C X.env) fp) (Own Φ D vs) W0 elt te me)
    (hil : ∀ i ∈ il, i ∈ own.map (·.2) := by decide) (hs : ∀ x, foldedSetIterable iter X.env x = pure x := by intro _; rfl) :
    DE X Φ W (.ListComp elt [⟨tg, iter, ifs, 0⟩] scope pos) (tLc wi g (cT X.K X.mg (Own Φ) mt) (cE X.K X.mg (Own Φ) me) (own.map (·.2))) (mLcO mi mg mt me (own.map (·.2))) :=
  de_lcO hc hN hi ok hg (fun D vs s H C cl fp => cT_dt (fun D vs => ht D vs s H C cl fp) D vs) (fun D vs s H C cl fp => cE_de (fun D vs => he D vs s H C cl fp) D vs) hil hs
theorem ds_setLcE {i : Nat} {y : Str} {py spos : Pos} (hc : X.calm = true) (hN : X.N.Nodup) (hy : X.N[i]? = some y) (hyl : X.env.scope.names.lookup y = some .local)
    (hsw : swapsWith (.ListComp elt [⟨tg, iter, ifs, 0⟩] scope pos) (some (.Name y py)) spos.line X.env = pure true) (hi : DI X Φ W tg iter wi mi) (ok : BlkOk X.N X.env.scope scope own)
    (hg : ∀ (D : Addr) (vs : List V) (s : Shared) (H : Hp) (C : Addr) (cl : List (Str × Addr)) (fp : List Addr), DG (X.blk s H scope (compEnvC scope cl C X.env) fp) (Own Φ D vs) tg g mg il)
    (ht : ∀ (D : Addr) (vs : List V) (s : Shared) (H : Hp) (C : Addr) (cl : List (Str × Addr)) (fp : List Addr), ∃ tt, DTs (X.blk s H scope (compEnvC scope cl C X.env) fp) (Own Φ D vs) W0 ifs tt mt)
    (he : ∀ (D : Addr) (vs : List V) (s : Shared) (H : Hp) (C : Addr) (cl : List (Str × Addr)) (fp : List Addr), ∃ te, DE (X.blk s H scope (compEnvC scope cl C X.env) fp) (Own Φ D vs) W0 elt te me)
    (hil : ∀ i ∈ il, i ∈ own.map (·.2) := by decide) (hs : ∀ x, foldedSetIterable iter X.env x = pure x := by intro _; rfl) :
    DS X Φ W (.Assign [.Name y py] (.ListComp elt [⟨tg, iter, ifs, 0⟩] scope pos) spos) (tAsg (tLc wi g (cT X.K X.mg (Own Φ) mt) (cE X.K X.mg (Own Φ) me) (own.map (·.2))) (gName i)) (sSet i (mLc mi mg mt me (own.map (·.2)))) :=
  ds_setLc hc hN hy hyl hsw hi ok hg (fun D vs s H C cl fp => cT_dt (fun D vs => ht D vs s H C cl fp) D vs) (fun D vs s H C cl fp => cE_de (fun D vs => he D vs s H C cl fp) D vs) hil hs
end
end
end DL

set_option Elab.async false
set_option linter.all false
set_option maxRecDepth 100000
set_option maxHeartbeats 1000000
namespace DL
open PySem PySem.Spec PyProof.Rows L2

/-! ### defs and their contracts -/
abbrev WF := List D → OH → (D → OH → Prop) → (Exn → OH → Prop) → Prop
/-- the contract of a def over trees -/
def spO (K : PySem.W.Frag) (mg : Str → Option Value) (n : Nat) (g : WF) : Sp := fun vs H Q E =>
  ∃ (Φ : OH → Hp → Hp → Prop) (_ : OFrm K mg Φ) (G : Hp) (O : OH) (ds : List D) (P : D → OH → Prop) (R : Exn → OH → Prop), Φ O G H ∧ RpL K mg G vs ds ∧ ds.length = n ∧ g ds O P R ∧
    (∀ (d : D) (O' : OH) (v : V) (G' H' : Hp), P d O' → Same G G' → Φ O' G' H' → Rp K mg G' v d → Q v H') ∧
    (∀ (x : Exn) (O' : OH) (G' H' : Hp) (cls : Value) (d : Option Addr), R x O' → Same G G' → Φ O' G' H' → ExR K mg G' cls d x → E cls d H')
section
variable (P : Program) (w : World) (K : PySem.W.Frag) (mg : Str → Option Value) (base : Heap)
/-- as the layer's FnOk, where no repr is under way -/
structure FnS (k : Nat) (f : Addr) (fd : FuncData) (ps : List Str) (sp : Sp) : Prop where
  len : ∀ vs H Q E, sp vs H Q E → vs.length = ps.length
  run : ∀ (A : Around) (outer : List Env) (s : Shared) (H : Hp) (args : Args) (us : List Value) (vs : List V) (Q : VK) (E : XK), Room k A → A.guards = some [] → Env0 P w K mg base A outer s H →
    BindsTo s fd args (ps.zip us) → Vals vs us → sp vs H Q E → codeAny (model P w) A (.call (.ref f) args) (CR (L2.CX P w) outer P w H s Q E) s
abbrev FnG (k : Nat) (f : Addr) (fd : FuncData) (ps : List Str) (g : WF) : Prop := FnS P w K mg base k f fd ps (spO K mg ps.length g)
end
section
variable {P : Program} {w : World} {K : PySem.W.Frag} {mg : Str → Option Value} {base : Heap}
theorem fnS_of {k : Nat} {f : Addr} {name qual : Str} {params : Arguments} {body : List Stmt} {scope : Scope} {dV kV doc pm cdv ct oc : Value} {an od : Option Addr} {osl : Array (Option Value)} {N ps : List Str} {sp : Sp}
    (lk : K.lookup f = some ⟨oc, od, .func (PySem.W.fnOf name qual params body scope dV kV doc pm an cdv ct), osl⟩) (hcd : PySem.W.codeIn K cdv qual = true) (Sc : FnScope N ps scope) (len : ∀ vs H Q E, sp vs H Q E → vs.length = ps.length)
    (hbody : ∀ (A : Around) (outer : List Env) (s : Shared) (H : Hp) (vs : List V) (Q : VK) (E : XK), Room k (A.deeper (envOfC qual scope s.heap.objs.size f cdv)) → A.guards = some [] → sp vs H Q E →
      ∃ t, PSs (cxOf (L2.CX P w) P w K mg base N qual scope f cdv A outer s H E) body t ∧ t { nx := fun _ H' => Q .non H', rt := Q } (L2.start N vs) H) :
    FnS P w K mg base (k + 1) f (PySem.W.fnOf name qual params body scope dV kV doc pm an cdv ct) ps sp := by
  refine ⟨len, fun A outer s H args us vs Q E hr hg e0 hb r hsp => ?_⟩
  have hl : vs.length = ps.length := len vs H Q E hsp
  have kin : K.In s.heap := e0.mod.kin.keeps (fun b o e => (e0.bs b o e).1)
  have nolim : s.heap.NoLimit := e0.mod.nolimit.keeps (fun b o e => (e0.bs b o e).1)
  have kinds : ∀ y ∈ ps.zip us, scope.names.lookup y.1 = some .local ∨ (scope.names.lookup y.1 = some .cell ∧ ((cellsFrom (s.heap.objs.size + 1) scope.names []).lookup y.1).isSome = true) := by
    intro ⟨n, v⟩ hy
    exact (Sc.par n (List.of_mem_zip hy).1).elim Or.inl fun q => .inr ⟨q, PySem.W.cellsFrom_some _ _ _ (.inl q)⟩
  refine codeAny_call_function hr.depth (kin _ _ lk) rfl Sc.co Sc.gen rfl (PySem.W.codeRec_of kin hcd) (hb _ _ _ _ ?_)
  refine wpAny_newFunctionEnv_cells Sc.kind kinds fun env he s1 x => ?_
  subst he
  obtain ⟨t, ht, hq⟩ := hbody A outer s H vs Q E (hr.deeper _) hg hsp
  refine ⟨nolim.keeps x.toInCall.keep, codeAny_func ?_⟩
  have I := inv_start (CX := L2.CX P w) (E := E) Sc hr.hd e0 hl r x
  refine wpAny_mono (ht.run [] s1 (L2.start N vs) H _ I hq) (fun fl s' hs => ?_) fun e s' hs => hs
  have fin : ∀ {σ' : Sig} {H' : Hp} {v : V} {u : Value}, Inv (cxOf (L2.CX P w) P w K mg base N qual scope f cdv A outer s H E) [] σ' H' s' → RelV v u → Q v H' → CE outer P w H s Q u s' := by
    intro σ' H' v u J rv q
    exact ⟨v, H', J.os, J.bare, J.base, J.hok, rv, q⟩
  match fl, hs with
  | .ret u, ⟨v, σ', H', J, rv, q⟩ => exact fin J rv q
  | .next, ⟨σ', H', J, q⟩ => exact fin (v := V.non) (u := Value.none) J rfl q
  | .brk, ⟨_, _, _, q⟩ => exact q.elim
  | .cont, ⟨_, _, _, q⟩ => exact q.elim
theorem spO_len {n : Nat} {g : WF} {vs : List V} {H : Hp} {Q : VK} {E : XK} (h : spO K mg n g vs H Q E) : vs.length = n := by
  obtain ⟨_, _, _, _, ds, _, _, _, r, l, _⟩ := h
  rw [r.len, l]
/-- the tree reading of a body, from the arguments on -/
def bodyF (m : MS OH) (k : Nat) : WF := fun ds O P R => m { nx := fun _ O' => P .non O', rt := P, bk := fun _ _ => False, ct := fun _ _ => False, ex := fun x _ O' => R x O' } (ds.map some ++ List.replicate k none) O
theorem start_rel {N : List Str} {G : Hp} {vs : List V} {ds : List D} (r : RpL K mg G vs ds) : RelE K mg G (L2.start N vs) (ds.map some ++ List.replicate (N.length - ds.length) none) := by
  have hl := r.len
  refine ⟨by unfold L2.start; simp [hl], fun i d h => ?_⟩
  have hi : i < ds.length := by
    by_cases q : i < ds.length
    · exact q
    · rw [List.getElem?_append_right (by simpa using q), List.getElem?_replicate] at h
      split at h <;> cases h
  rw [List.getElem?_append_left (by simpa using hi), List.getElem?_map] at h
  cases e : ds[i]? with
  | none => rw [e] at h; cases h
  | some d' =>
    rw [e] at h
    cases h
    obtain ⟨v, hv, rv⟩ := r.at e
    refine ⟨v, ?_, rv⟩
    unfold L2.start
    rw [List.getElem?_append_left (by simp [hl, hi]), List.getElem?_map, hv]
    rfl
/-- where a def may be called -/
structure Rm (k : Nat) (X : Cx) : Prop where
  room : Room k X.A
  gd : X.A.guards = some []
theorem Rm.mono {j k : Nat} {X : Cx} (h : Rm k X) (l : j ≤ k) : Rm j X := ⟨h.room.mono l, h.gd⟩
theorem rmB {k : Nat} {X : Cx} {s : Shared} {H : Hp} {sc : Scope} {ce : Env} {fp : List Addr} (h : Rm k X) : Rm k (X.blk s H sc ce fp) := ⟨h.room, h.gd⟩
theorem rmT {k : Nat} {X : Cx} {pn : List (Addr × Obj)} {xe : Value → Shared → Prop} (h : Rm k X) : Rm k (X.tr pn xe) := ⟨h.room, h.gd⟩
theorem sgd {k : Nat} {X : Cx} {a : Addr} {pn : List (Addr × Obj)} (h : Rm k X) : (X.suite a pn).A.guards = some [] := h.gd
theorem sun {k : Nat} {X : Cx} {a : Addr} {pn : List (Addr × Obj)} (h : Rm k X) : (X.suite a pn).A.units + 64 < cLine := h.room.units
theorem Rm.units {k : Nat} {X : Cx} (h : Rm k X) : X.A.units + 64 < cLine := h.room.units
/-- THE RULE of a def -/
theorem fnG_mk {x qual : Str} {st : Stmt} {f : Addr} {fd : FuncData} {N ps : List Str} {k : Nat} {g : WF} (F : Fun K x qual st f fd) (Sc : FnScope N ps (defScope st)) {m : MS OH}
    (hb : ∀ (Φ : OH → Hp → Hp → Prop) (cdv : Value) (A : Around) (outer : List Env) (s : Shared) (H : Hp) (E : XK), OFrm (cxOf (L2.CX P w) P w K mg base N qual (defScope st) f cdv A outer s H E).K (cxOf (L2.CX P w) P w K mg base N qual (defScope st) f cdv A outer s H E).mg Φ → Rm k (cxOf (L2.CX P w) P w K mg base N qual (defScope st) f cdv A outer s H E) →
      ∃ ts, DSs (cxOf (L2.CX P w) P w K mg base N qual (defScope st) f cdv A outer s H E) Φ (fun cls d _ H' => E cls d H') (defBody st) ts m)
    (hg : ∀ ds O Pd R, ds.length = ps.length → g ds O Pd R → bodyF m (N.length - ps.length) ds O Pd R) : FnG P w K mg base (k + 1) f fd ps g := by
  obtain ⟨oc, od, kV, doc, pm, an, cdv, ct, osl, rfl, lk, hcd⟩ := F.ex
  refine fnS_of lk hcd Sc (fun vs H Q E h => spO_len h) fun A outer s H vs Q E hr hgd hsp => ?_
  obtain ⟨Φ, iΦ, G, O, ds, Pd, R, f0, r, hl, hgs, hP, hR⟩ := hsp
  obtain ⟨ts, d⟩ := hb Φ cdv A outer s H E iΦ ⟨hr, hgd⟩
  refine ⟨ts, d.pss, ?_⟩
  have r0 := start_rel (N := N) r
  rw [hl] at r0
  refine d.sem _ _ O G H _ _ r0 f0 (hg ds O Pd R hl hgs) ⟨fun σ ρ s G' H' p e _ q => hP .non s .non G' H' p e q .non, fun d s v G' H' p e q r => hP d s v G' H' p e q r, fun _ _ _ _ _ p => p.elim, fun _ _ _ _ _ p => p.elim,
    fun x σ ρ s G' H' cls d p e _ q z => hR x s G' H' cls d p e q z⟩
end

/-! ### calls -/
section
variable {X : Cx} {Φ : OH → Hp → Hp → Prop} {W : WX} [FΦ : OFrm X.K X.mg Φ]
theorem runS {k : Nat} {f : Addr} {fd : FuncData} {ps : List Str} {sp : Sp} {dvs : List V} {dflt : List Value} {E : XK} {pins : List (Addr × Obj)} {σ : Sig} {H : Hp} {s : Shared} {Q : VK} {us : List Value} {vs : List V}
    (F : FnS X.prog X.w X.K X.mg X.base k f fd ps sp) (hr : Rm k X) (hb : Binds X.K fd ps dflt) (hd : Vals dvs dflt) (hx : PassesAt (L2.CX X.prog X.w) X σ E) (I : Inv X pins σ H s) (r : Vals vs us) (h : sp (vs ++ dvs) H Q E) :
    wpAny (model X.prog X.w) X.A (call (.ref f) us) (EP X pins σ Q) X.xe s := by
  have r2 : Vals (vs ++ dvs) (us ++ dflt) := Vals.append r hd
  have hl : (us ++ dflt).length = ps.length := r2.length.symm.trans (F.len _ _ _ _ h)
  have go := F.run X.A X.stack s H ⟨us, []⟩ (us ++ dflt) (vs ++ dvs) Q E hr.room hr.gd I.env0 (hb s us I.kIn hl) r2 h
  refine wpAny_call (codeAny_mono go fun r s' hq => ?_)
  match r, hq with
  | .error e, hq => exact hx pins H s e s' I hq
  | .ok (.ret u), hq => exact I.after hq
  | .ok .next, hq => exact hq.elim
  | .ok .brk, hq => exact hq.elim
  | .ok .cont, hq => exact hq.elim
/-- f(e, ..) -/
theorem pe_callG {k : Nat} {f : Addr} {fd : FuncData} {ps : List Str} {sp : Sp} {dvs : List V} {dflt : List Value} {x : Str} {p pos : Pos} {e : Expr} {es : List Expr} {t : TA} (F : FnS X.prog X.w X.K X.mg X.base k f fd ps sp) (hr : Rm k X) (hg : Gl X x)
    (hm : X.mg x = some (.ref f)) (hk : PySem.W.keepIn X.K (.ref f) = true) (hb : Binds X.K fd ps dflt) (hd : Vals dvs dflt) (tk : Takes X W) (ha : PA X (e :: es) t) (hdb : (x == ("__debug__" : Str)) = false)
    (he : starEach (e :: es) X.env = (false, eval e X.env) :: starEach es X.env) (hpl : (backTo pos (starEach es X.env)).any (·.1) = false) :
    PE X (.Call (.Name x p) (e :: es) [] pos) (fun σ H Q => t σ H fun vs H1 => sp (vs ++ dvs) H1 Q (WE W σ)) := by
  refine ⟨fun pins s σ H Q I h => wpAny_Call_Name_kw (ld_glob I hg hm ?_ hdb)⟩
  have arg := ha.run pos pins s σ H _ I h
  refine PySem.W.callWith_K (h₀ := X.base) I.ok.mod.kin hk (thn arg fun us s1 ⟨vs, H1, I1, r, q⟩ => ⟨I1.kIn, ?_⟩) he hpl
  exact runS F hr hb hd (passAt tk σ) I1 r q
theorem pe_callG0 {k : Nat} {f : Addr} {fd : FuncData} {ps : List Str} {sp : Sp} {dvs : List V} {dflt : List Value} {x : Str} {p pos : Pos} (F : FnS X.prog X.w X.K X.mg X.base k f fd ps sp) (hr : Rm k X) (hg : Gl X x)
    (hm : X.mg x = some (.ref f)) (hk : PySem.W.keepIn X.K (.ref f) = true) (hb : Binds X.K fd ps dflt) (hd : Vals dvs dflt) (tk : Takes X W) (hdb : (x == ("__debug__" : Str)) = false) :
    PE X (.Call (.Name x p) [] [] pos) (fun σ H Q => sp dvs H Q (WE W σ)) := by
  refine ⟨fun pins s σ H Q I h => wpAny_Call_Name_kw (ld_glob I hg hm ?_ hdb)⟩
  exact PySem.W.callWith_K0 I.kIn hk (runS (us := []) (vs := []) F hr hb hd (passAt tk σ) I .nil h)
/-- o.m(e, ..) -/
theorem pe_methG {k : Nat} {f C : Addr} {fd : FuncData} {ps : List Str} {sp : Sp} {dvs : List V} {dflt : List Value} {m : Str} {apos pos : Pos} {o e : Expr} {es : List Expr} {ta : TE} {t : TA} {pl : Sem Bool} (he : PE X o ta) (c : Cls X.K C) (hm : Meth X.K C m f)
    (F : FnS X.prog X.w X.K X.mg X.base k f fd ps sp) (hr : Rm k X) (hb : Binds X.K fd ps dflt) (hd : Vals dvs dflt) (tk : Takes X W) (ha : PA X (e :: es) t)
    (h1 : starEach (e :: es) X.env = (false, eval e X.env) :: starEach es X.env) (h2 : (backTo pos (starEach es X.env)).any (·.1) = false)
    (ht : eval (.Call (.Attribute o m apos) (e :: es) [] pos) X.env = (do
      let ov ← eval o X.env
      standAt apos.atName
      let (f, first) ← holding [ov] (getMethod ov m pl)
      callWith pos f first (backTo pos (starEach (e :: es) X.env)) (backToKw pos (keywordEach [] X.env)))) :
    PE X (.Call (.Attribute o m apos) (e :: es) [] pos) (fun σ H Q => ta σ H fun x H1 => ∃ a dx fs, x = .ref a ∧ H1 a = some (.ins C dx fs) ∧ fs.lookup m = none ∧ t σ H1 fun vs H2 => sp (x :: (vs ++ dvs)) H2 Q (WE W σ)) := by
  refine ⟨fun pins s σ H Q I h => PySem.W.methodCall_KW (pl := pl) (thn (he.run pins s σ H _ I h) fun u s1 ⟨x, H1, I1, rx, a, dx, fs, ex, ea, l, q⟩ => ?_) ht⟩
  subst ex
  cases (show u = Value.ref a from rx)
  refine getmeth_ok I1 ea c hm l ?_
  have arg := ha.run pos pins s1 σ H1 _ I1 q
  refine PySem.W.callWith_K (first := [.ref a]) (h₀ := X.base) I.ok.mod.kin hm.kp (thn arg fun us s2 ⟨vs, H2, I2, r, q2⟩ => ⟨I2.kIn, ?_⟩) h1 h2
  exact runS (us := .ref a :: us) (vs := .ref a :: vs) F hr hb hd (passAt tk σ) I2 (.cons rfl r) q2
theorem pe_methG0 {k : Nat} {f C : Addr} {fd : FuncData} {ps : List Str} {sp : Sp} {dvs : List V} {dflt : List Value} {m : Str} {apos pos : Pos} {o : Expr} {ta : TE} {pl : Sem Bool} (he : PE X o ta) (c : Cls X.K C) (hm : Meth X.K C m f)
    (F : FnS X.prog X.w X.K X.mg X.base k f fd ps sp) (hr : Rm k X) (hb : Binds X.K fd ps dflt) (hd : Vals dvs dflt) (tk : Takes X W)
    (ht : eval (.Call (.Attribute o m apos) [] [] pos) X.env = (do
      let ov ← eval o X.env
      standAt apos.atName
      let (f, first) ← holding [ov] (getMethod ov m pl)
      callWith pos f first (backTo pos (starEach [] X.env)) (backToKw pos (keywordEach [] X.env)))) :
    PE X (.Call (.Attribute o m apos) [] [] pos) (fun σ H Q => ta σ H fun x H1 => ∃ a dx fs, x = .ref a ∧ H1 a = some (.ins C dx fs) ∧ fs.lookup m = none ∧ sp (x :: dvs) H1 Q (WE W σ)) := by
  refine ⟨fun pins s σ H Q I h => PySem.W.methodCall_KW (pl := pl) (thn (he.run pins s σ H _ I h) fun u s1 ⟨x, H1, I1, rx, a, dx, fs, ex, ea, l, q⟩ => ?_) ht⟩
  subst ex
  cases (show u = Value.ref a from rx)
  refine getmeth_ok I1 ea c hm l ?_
  exact PySem.W.callWith_K0 (first := [.ref a]) I1.kIn hm.kp (runS (us := [.ref a]) (vs := [.ref a]) F hr hb hd (passAt tk σ) I1 (.cons rfl .nil) q)
/-- C(e, ..): a new instance, then its __init__ -/
theorem runMk {k : Nat} {f C : Addr} {fd : FuncData} {ps : List Str} {sp : Sp} {dvs : List V} {dflt : List Value} {E : XK} {pins : List (Addr × Obj)} {σ : Sig} {H : Hp} {s : Shared} {Q : VK} {us : List Value} {vs : List V} (M : Mk X.K C f)
    (F : FnS X.prog X.w X.K X.mg X.base k f fd ps sp) (hr : Rm (k + 1) X) (hb : Binds X.K fd ps dflt) (hd : Vals dvs dflt) (hx : PassesAt (L2.CX X.prog X.w) X σ E) (I : Inv X pins σ H s) (r : Vals vs us)
    (gm : (X.A.under (.builtin "type.__call__" ⟨.ref C :: us, []⟩)).guards = some [])
    (h : ∀ x dx, H x = none → H dx = none → dx ≠ x → sp (.ref x :: (vs ++ dvs)) (upd (upd H dx (.own x)) x (.ins C dx [])) (fun v H2 => v = .non ∧ Q (.ref x) H2) E) :
    wpAny (model X.prog X.w) X.A (call (.ref C) us) (EP X pins σ Q) X.xe s := by
  have q0 := h (s.heap.objs.size + 1) s.heap.objs.size (I.hok.fresh (Nat.le_succ _)) (I.hok.fresh (Nat.le_refl _)) (Nat.ne_of_lt (Nat.lt_succ_self _))
  have I2 := Inv.made (C := C) I
  have r2 : Vals (V.ref (s.heap.objs.size + 1) :: (vs ++ dvs)) (Value.ref (s.heap.objs.size + 1) :: (us ++ dflt)) := Paired.cons rfl (Vals.append r hd)
  have hl : (Value.ref (s.heap.objs.size + 1) :: us ++ dflt).length = ps.length := r2.length.symm.trans (F.len _ _ _ _ q0)
  have go := F.run _ X.stack _ _ ⟨Value.ref (s.heap.objs.size + 1) :: us, []⟩ (Value.ref (s.heap.objs.size + 1) :: (us ++ dflt)) _ _ E (hr.room.make C us []) gm (I2.env0.make C us []) (hb _ (Value.ref (s.heap.objs.size + 1) :: us) I2.kIn hl) r2 q0
  refine wpAny_call (make_map (f := f) I.kIn M.makes M.init (beq_iff_eq.mp M.fn) (codeAny_mono go fun r s' hq => ?_))
  match r, hq with
  | .error e, hq => exact hx pins _ _ e s' I2 hq
  | .ok (.ret u), hq =>
    obtain ⟨v, H', I3, rv, ev, q3⟩ := I2.after hq
    subst ev
    exact ⟨rv, V.ref (s.heap.objs.size + 1), H', I3, rfl, q3⟩
  | .ok .next, hq => exact hq.elim
  | .ok .brk, hq => exact hq.elim
  | .ok .cont, hq => exact hq.elim
theorem make_guards {A : Around} {C : Addr} {us : List Value} (h : A.guards = some []) : (A.under (.builtin "type.__call__" ⟨.ref C :: us, []⟩)).guards = some [] := by
  first
    | exact h
    | (simp [Around.under, Code.isGuard, guardIds, h])
theorem pe_makeG {k : Nat} {f C : Addr} {fd : FuncData} {ps : List Str} {sp : Sp} {dvs : List V} {dflt : List Value} {x : Str} {p pos : Pos} {e : Expr} {es : List Expr} {t : TA} (M : Mk X.K C f) (F : FnS X.prog X.w X.K X.mg X.base k f fd ps sp) (hr : Rm (k + 1) X)
    (hg : Gl X x) (hm : X.mg x = some (.ref C)) (hb : Binds X.K fd ps dflt) (hd : Vals dvs dflt) (tk : Takes X W) (ha : PA X (e :: es) t) (hdb : (x == ("__debug__" : Str)) = false)
    (he : starEach (e :: es) X.env = (false, eval e X.env) :: starEach es X.env) (hpl : (backTo pos (starEach es X.env)).any (·.1) = false) :
    PE X (.Call (.Name x p) (e :: es) [] pos) (fun σ H Q => t σ H fun vs H1 => ∀ x dx, H1 x = none → H1 dx = none → dx ≠ x → sp (.ref x :: (vs ++ dvs)) (upd (upd H1 dx (.own x)) x (.ins C dx [])) (fun v H2 => v = .non ∧ Q (.ref x) H2) (WE W σ)) := by
  refine ⟨fun pins s σ H Q I h => wpAny_Call_Name_kw (ld_glob I hg hm ?_ hdb)⟩
  have arg := ha.run pos pins s σ H _ I h
  refine PySem.W.callWith_K (h₀ := X.base) I.ok.mod.kin M.kp (thn arg fun us s1 ⟨vs, H1, I1, r, q⟩ => ⟨I1.kIn, ?_⟩) he hpl
  exact runMk M F hr hb hd (passAt tk σ) I1 r (make_guards hr.gd) q
theorem pe_makeG0 {k : Nat} {f C : Addr} {fd : FuncData} {ps : List Str} {sp : Sp} {dvs : List V} {dflt : List Value} {x : Str} {p pos : Pos} (M : Mk X.K C f) (F : FnS X.prog X.w X.K X.mg X.base k f fd ps sp) (hr : Rm (k + 1) X)
    (hg : Gl X x) (hm : X.mg x = some (.ref C)) (hb : Binds X.K fd ps dflt) (hd : Vals dvs dflt) (tk : Takes X W) (hdb : (x == ("__debug__" : Str)) = false) :
    PE X (.Call (.Name x p) [] [] pos) (fun σ H Q => ∀ x dx, H x = none → H dx = none → dx ≠ x → sp (.ref x :: dvs) (upd (upd H dx (.own x)) x (.ins C dx [])) (fun v H2 => v = .non ∧ Q (.ref x) H2) (WE W σ)) := by
  refine ⟨fun pins s σ H Q I h => wpAny_Call_Name_kw (ld_glob I hg hm ?_ hdb)⟩
  exact PySem.W.callWith_K0 I.kIn M.kp (runMk (us := []) (vs := []) M F hr hb hd (passAt tk σ) I .nil (make_guards hr.gd) h)
end
end DL

set_option Elab.async false
set_option linter.all false
set_option maxRecDepth 100000
set_option maxHeartbeats 1000000
namespace DL
open PySem PySem.Spec PyProof.Rows L2

section
variable {X : Cx} {Φ : OH → Hp → Hp → Prop} {W : WX} [FΦ : OFrm X.K X.mg Φ]
/-! ### calls, over trees -/
/-- what a contract asks, from the arguments' trees -/
theorem spO_of {n : Nat} {g : WF} {O : OH} {G H : Hp} {vs : List V} {ds : List D} {Q : VK} {P : D → OH → Prop} {R : Exn → OH → Prop} {E : XK} (f : Φ O G H) (r : RpL X.K X.mg G vs ds) (l : ds.length = n) (h : g ds O P R)
    (k : ∀ (d : D) (s' : OH) (v : V) (G' H' : Hp), P d s' → Same G G' → Φ s' G' H' → Rp X.K X.mg G' v d → Q v H') (hE : ∀ (x : Exn) (s : OH) (G' H' : Hp) (cls : Value) (d : Option Addr), Same G G' → Φ s G' H' → ExR X.K X.mg G' cls d x → R x s → E cls d H') :
    spO X.K X.mg n g vs H Q E := ⟨Φ, FΦ, G, O, ds, P, R, f, r, l, h, k, fun x O' G' H' cls d a b c e => hE x O' G' H' cls d b c e a⟩
def mCall (g : WF) (k : Nat) (dd : List D) (n : MA OH) : ME OH := fun ρ O P R => n ρ O (fun ds O1 => (ds ++ dd).length = k ∧ g (ds ++ dd) O1 P R) R
section
variable {k : Nat} {f C : Addr} {fd : FuncData} {ps : List Str} {g : WF} {dvs : List V} {dd : List D} {dflt : List Value} {x m : Str} {p pos apos : Pos} {e o : Expr} {es : List Expr} {ta : TA} {n : MA OH} {te : TE} {me : ME OH}
theorem de_call (F : FnG X.prog X.w X.K X.mg X.base k f fd ps g) (hr : Rm k X) (hg : Gl X x) (hm : X.mg x = some (.ref f)) (hk : PySem.W.keepIn X.K (.ref f) = true) (hb : Binds X.K fd ps dflt) (hd : Vals dvs dflt) (hdd : ∀ G, RpL X.K X.mg G dvs dd) (tk : Takes X W)
    (ha : DA X Φ W (e :: es) ta n) (hdb : (x == ("__debug__" : Str)) = false := by decide) (he : starEach (e :: es) X.env = (false, eval e X.env) :: starEach es X.env := by rfl) (hpl : (backTo pos (starEach es X.env)).any (·.1) = false := by rfl) :
    DE X Φ W (.Call (.Name x p) (e :: es) [] pos) (fun σ H Q => ta σ H fun vs H1 => spO X.K X.mg ps.length g (vs ++ dvs) H1 Q (WE W σ)) (mCall g ps.length dd n) :=
  ⟨pe_callG F hr hg hm hk hb hd tk ha.pa hdb he hpl, fun σ ρ s G H Q P R hρ f hW h k => ha.sem σ ρ s G H _ _ R hρ f hW h fun ds s1 vs G1 H1 ⟨hl, h1⟩ e1 f1 r1 =>
    spO_of f1 (r1.app (hdd G1)) hl h1 (fun d s' v G' H' p q => k d s' v G' H' p (e1.trans q)) (hW.mono e1)⟩
def mCall0 (g : WF) (k : Nat) (dd : List D) : ME OH := fun _ O P R => dd.length = k ∧ g dd O P R
theorem de_call0 (F : FnG X.prog X.w X.K X.mg X.base k f fd ps g) (hr : Rm k X) (hg : Gl X x) (hm : X.mg x = some (.ref f)) (hk : PySem.W.keepIn X.K (.ref f) = true) (hb : Binds X.K fd ps dflt) (hd : Vals dvs dflt) (hdd : ∀ G, RpL X.K X.mg G dvs dd) (tk : Takes X W) (hdb : (x == ("__debug__" : Str)) = false := by decide) :
    DE X Φ W (.Call (.Name x p) [] [] pos) (fun σ H Q => spO X.K X.mg ps.length g dvs H Q (WE W σ)) (mCall0 g ps.length dd) :=
  ⟨pe_callG0 F hr hg hm hk hb hd tk hdb, fun σ ρ s G H Q P R hρ f hW ⟨hl, h⟩ k => spO_of f (hdd G) hl h k hW⟩
/-- o.m(e, ..) of a tree that is an instance of C -/
def mMeth (C : Str) (m : Str) (g : WF) (k : Nat) (dd : List D) (me : ME OH) (n : MA OH) : ME OH := fun ρ O P R => me ρ O (fun x O1 => ∃ ns fs, x = .ins C ns fs ∧ m ∉ ns ∧ n ρ O1 (fun ds O2 => (x :: (ds ++ dd)).length = k ∧ g (x :: (ds ++ dd)) O2 P R) R) R
theorem zip_none {ns : List Str} {vs : List V} {m : Str} (h : m ∉ ns) : (ns.zip vs).lookup m = none := by
  induction ns generalizing vs with
  | nil => rfl
  | cons a ns ih =>
    cases vs with
    | nil => rfl
    | cons v vs =>
      rw [List.zip_cons_cons, List.lookup_cons]
      have q : (m == a) = false := beq_eq_false_iff_ne.mpr fun z => h (by rw [z]; exact List.mem_cons_self)
      rw [q]
      exact ih fun z => h (List.mem_cons_of_mem _ z)
theorem de_meth {Cn : Str} {pl : Sem Bool} (ho : DE X Φ W o te me) (c : Cls X.K C) (hC : X.mg Cn = some (.ref C)) (hm : Meth X.K C m f) (F : FnG X.prog X.w X.K X.mg X.base k f fd ps g) (hr : Rm k X) (hb : Binds X.K fd ps dflt) (hd : Vals dvs dflt) (hdd : ∀ G, RpL X.K X.mg G dvs dd) (tk : Takes X W)
    (ha : DA X Φ W (e :: es) ta n) (h1 : starEach (e :: es) X.env = (false, eval e X.env) :: starEach es X.env := by rfl) (h2 : (backTo pos (starEach es X.env)).any (·.1) = false := by rfl)
    (ht : eval (.Call (.Attribute o m apos) (e :: es) [] pos) X.env = (do
      let ov ← eval o X.env
      standAt apos.atName
      let (f, first) ← holding [ov] (getMethod ov m pl)
      callWith pos f first (backTo pos (starEach (e :: es) X.env)) (backToKw pos (keywordEach [] X.env))) := by rfl) :
    DE X Φ W (.Call (.Attribute o m apos) (e :: es) [] pos) (fun σ H Q => te σ H fun x H1 => ∃ a dx fs, x = .ref a ∧ H1 a = some (.ins C dx fs) ∧ fs.lookup m = none ∧ ta σ H1 fun vs H2 => spO X.K X.mg ps.length g (x :: (vs ++ dvs)) H2 Q (WE W σ)) (mMeth Cn m g ps.length dd me n) :=
  ⟨pe_methG ho.pe c hm F hr hb hd tk ha.pa h1 h2 ht, fun σ ρ s G H Q P R hρ f hW h k => ho.sem σ ρ s G H _ _ R hρ f hW h fun d s1 v G1 H1 ⟨ns, fs, ed, hn, h1⟩ e1 f1 r1 => by
    subst ed
    have r1' := r1
    cases r1 with
    | ins mC hG hl rl =>
      rw [hC] at mC
      cases mC
      refine ⟨_, _, _, rfl, Frm.same f1 _ _ hG, zip_none hn, ha.sem σ ρ s1 G1 H1 _ _ R (hρ.mono e1) f1 (hW.mono e1) h1 fun ds s2 vs G2 H2 ⟨hl2, h2⟩ e2 f2 r2 => ?_⟩
      exact spO_of f2 (.cons (r1'.mono e2) (r2.app (hdd G2))) hl2 h2 (fun d s' v G' H' p q => k d s' v G' H' p ((e1.trans e2).trans q)) (hW.mono (e1.trans e2))⟩
def mMeth0 (C : Str) (m : Str) (g : WF) (k : Nat) (dd : List D) (me : ME OH) : ME OH := fun ρ O P R => me ρ O (fun x O1 => ∃ ns fs, x = .ins C ns fs ∧ m ∉ ns ∧ (x :: dd).length = k ∧ g (x :: dd) O1 P R) R
theorem de_meth0 {Cn : Str} {pl : Sem Bool} (ho : DE X Φ W o te me) (c : Cls X.K C) (hC : X.mg Cn = some (.ref C)) (hm : Meth X.K C m f) (F : FnG X.prog X.w X.K X.mg X.base k f fd ps g) (hr : Rm k X) (hb : Binds X.K fd ps dflt) (hd : Vals dvs dflt) (hdd : ∀ G, RpL X.K X.mg G dvs dd) (tk : Takes X W)
    (ht : eval (.Call (.Attribute o m apos) [] [] pos) X.env = (do
      let ov ← eval o X.env
      standAt apos.atName
      let (f, first) ← holding [ov] (getMethod ov m pl)
      callWith pos f first (backTo pos (starEach [] X.env)) (backToKw pos (keywordEach [] X.env))) := by rfl) :
    DE X Φ W (.Call (.Attribute o m apos) [] [] pos) (fun σ H Q => te σ H fun x H1 => ∃ a dx fs, x = .ref a ∧ H1 a = some (.ins C dx fs) ∧ fs.lookup m = none ∧ spO X.K X.mg ps.length g (x :: dvs) H1 Q (WE W σ)) (mMeth0 Cn m g ps.length dd me) :=
  ⟨pe_methG0 ho.pe c hm F hr hb hd tk ht, fun σ ρ s G H Q P R hρ f hW h k => ho.sem σ ρ s G H _ _ R hρ f hW h fun d s1 v G1 H1 ⟨ns, fs, ed, hn, hl2, h1⟩ e1 f1 r1 => by
    subst ed
    have r1' := r1
    cases r1 with
    | ins mC hG hl rl =>
      rw [hC] at mC
      cases mC
      exact ⟨_, _, _, rfl, Frm.same f1 _ _ hG, zip_none hn, spO_of f1 (.cons r1' (hdd G1)) hl2 h1 (fun d s' v G' H' p q => k d s' v G' H' p (e1.trans q)) (hW.mono e1)⟩⟩
/-- C(e, ..): the instance as a tree, behind its __init__ -/
def kMake (P : D → OH → Prop) (x : Addr) : D → OH → Prop := fun d O2 => d = .non ∧ ∃ y, O2 x = some y ∧ P y.tree (O2.del x)
def mMake (C : Str) (g : WF) (k : Nat) (dd : List D) (n : MA OH) : ME OH := fun ρ O P R => n ρ O (fun ds O1 => (ds ++ dd).length + 1 = k ∧ ∀ x, O1 x = none → g (.loc x :: (ds ++ dd)) (O1.put x (.ins C [] [])) (kMake P x) R) R
theorem make_sem {Cn : Str} (hC : X.mg Cn = some (.ref C)) {O : OH} {G H : Hp} {vs : List V} {ds : List D} {Q : VK} {P : D → OH → Prop} {R : Exn → OH → Prop} {E : XK} (f : Φ O G H) (r : RpL X.K X.mg G vs ds) (l : ds.length + 1 = ps.length)
    (h : ∀ x, O x = none → g (.loc x :: ds) (O.put x (.ins Cn [] [])) (kMake P x) R)
    (k : ∀ (d : D) (s' : OH) (v : V) (G' H' : Hp), P d s' → Same G G' → Φ s' G' H' → Rp X.K X.mg G' v d → Q v H') (hE : ∀ (x : Exn) (s : OH) (G' H' : Hp) (cls : Value) (d : Option Addr), Same G G' → Φ s G' H' → ExR X.K X.mg G' cls d x → R x s → E cls d H') :
    ∀ x dx, H x = none → H dx = none → dx ≠ x → spO X.K X.mg ps.length g (.ref x :: vs) (upd (upd H dx (.own x)) x (.ins C dx [])) (fun v H2 => v = .non ∧ Q (.ref x) H2) E := fun x dx nx nd ne => by
  have gx : O x = none := by
    cases z : O x with
    | none => rfl
    | some y =>
      obtain ⟨_, o, q, _⟩ := FΦ.own f z
      rw [nx] at q
      cases q
  have s1 := same_new (o := HO.own x) ((Frm.same f).free nd)
  have f1 : Φ O (upd G dx (.own x)) (upd H dx (.own x)) := Frm.ext f nd
  have nx1 : upd H dx (.own x) x = none := by rw [upd_ne ne.symm]; exact nx
  have f2 := FΦ.new (o := .ins C dx []) f1 nx1 (.ins (vs := []) (ns := []) hC rfl .nil)
  refine spO_of f2 (.cons (.loc x) (r.mono s1)) (by rw [List.length_cons]; exact l) (h x gx) (fun d s' v G' H' ⟨ed, y, oy, p⟩ e2 f3 r3 => ?_) fun z s' G' H' cls d e2 f3 => hE z s' G' H' cls d (s1.trans e2) f3
  subst ed
  cases r3
  obtain ⟨G4, e4, f4, r4⟩ := FΦ.frz f3 oy
  exact ⟨rfl, k _ _ _ G4 H' p ((s1.trans e2).trans e4) f4 r4⟩
theorem de_make (M : Mk X.K C f) (hC : X.mg x = some (.ref C)) (F : FnG X.prog X.w X.K X.mg X.base k f fd ps g) (hr : Rm (k + 1) X) (hg : Gl X x) (hb : Binds X.K fd ps dflt) (hd : Vals dvs dflt) (hdd : ∀ G, RpL X.K X.mg G dvs dd) (tk : Takes X W)
    (ha : DA X Φ W (e :: es) ta n) (hdb : (x == ("__debug__" : Str)) = false := by decide) (he : starEach (e :: es) X.env = (false, eval e X.env) :: starEach es X.env := by rfl) (hpl : (backTo pos (starEach es X.env)).any (·.1) = false := by rfl) :
    DE X Φ W (.Call (.Name x p) (e :: es) [] pos) (fun σ H Q => ta σ H fun vs H1 => ∀ x dx, H1 x = none → H1 dx = none → dx ≠ x → spO X.K X.mg ps.length g (.ref x :: (vs ++ dvs)) (upd (upd H1 dx (.own x)) x (.ins C dx [])) (fun v H2 => v = .non ∧ Q (.ref x) H2) (WE W σ)) (mMake x g ps.length dd n) :=
  ⟨pe_makeG M F hr hg hC hb hd tk ha.pa hdb he hpl, fun σ ρ s G H Q P R hρ f hW h k => ha.sem σ ρ s G H _ _ R hρ f hW h fun ds s1 vs G1 H1 ⟨hl, h1⟩ e1 f1 r1 =>
    make_sem hC f1 (r1.app (hdd G1)) hl h1 (fun d s' v G' H' p q => k d s' v G' H' p (e1.trans q)) (hW.mono e1)⟩
end

/-! ### fields -/
def lookD (f : Str) : List Str → List D → Option D
  | n :: ns, d :: ds => if f = n then some d else lookD f ns ds
  | _, _ => none
theorem lookD_rp {K : PySem.W.Frag} {mg : Str → Option Value} {G : Hp} {f : Str} {d : D} : ∀ {ns : List Str} {vs : List V} {ds : List D}, RpL K mg G vs ds → lookD f ns ds = some d → ∃ v, (ns.zip vs).lookup f = some v ∧ Rp K mg G v d
  | [], _, _, _, h => by simp [lookD] at h
  | n :: ns, _, _, .nil, h => by simp [lookD] at h
  | n :: ns, _, _, .cons (v := v) r rl, h => by
    rw [List.zip_cons_cons, List.lookup_cons]
    unfold lookD at h
    by_cases q : f = n
    · rw [if_pos q] at h
      cases h
      have e : (f == n) = true := beq_iff_eq.mpr q
      rw [e]
      exact ⟨v, rfl, r⟩
    · rw [if_neg q] at h
      have e : (f == n) = false := beq_eq_false_iff_ne.mpr q
      rw [e]
      exact lookD_rp rl h
def mFld (C f : Str) (m : ME OH) : ME OH := fun ρ O P R => m ρ O (fun x O1 => ∃ ns ds d, x = .ins C ns ds ∧ lookD f ns ds = some d ∧ P d O1) R
/-- .. of an object of one's own -/
def mFldO (C f : Str) (m : ME OH) : ME OH := fun ρ O P R => m ρ O (fun x O1 => ∃ a ns ds d, x = .loc a ∧ O1 a = some (.ins C ns ds) ∧ lookD f ns ds = some d ∧ P d O1) R
section
variable {C : Addr} {Cn f : Str} {e : Expr} {te : TE} {m : ME OH} {pos : Pos}
theorem de_fld (c : Cls X.K C) (hC : X.mg Cn = some (.ref C)) (n : NoAttr X.K C f) (h : DE X Φ W e te m) (hb : attributeBase e f X.env (eval e X.env) = eval e X.env := by rfl) : DE X Φ W (.Attribute e f pos) (tFld X.K te f) (mFld Cn f m) :=
  ⟨pe_fld h.pe hb, fun σ ρ s G H Q P R hρ f0 hW hm k => h.sem σ ρ s G H _ _ R hρ f0 hW hm fun x s1 v G1 H1 ⟨ns, ds, d, ex, l, p⟩ e1 f1 r1 => by
    subst ex
    cases r1 with
    | ins mC hG hl rl =>
      rw [hC] at mC
      cases mC
      obtain ⟨u, hu, ru⟩ := lookD_rp rl l
      exact ⟨_, C, _, _, u, rfl, Frm.same f1 _ _ hG, c, n, hu, k d s1 u G1 H1 p e1 f1 ru⟩⟩
theorem de_fldO (c : Cls X.K C) (hC : X.mg Cn = some (.ref C)) (n : NoAttr X.K C f) (h : DE X Φ W e te m) (hb : attributeBase e f X.env (eval e X.env) = eval e X.env := by rfl) : DE X Φ W (.Attribute e f pos) (tFld X.K te f) (mFldO Cn f m) :=
  ⟨pe_fld h.pe hb, fun σ ρ s G H Q P R hρ f0 hW hm k => h.sem σ ρ s G H _ _ R hρ f0 hW hm fun x s1 v G1 H1 ⟨a, ns, ds, d, ex, oa, l, p⟩ e1 f1 r1 => by
    subst ex
    cases r1
    obtain ⟨_, o, ho, ro⟩ := FΦ.own f1 oa
    cases ro with
    | ins mC hl rl =>
      rw [hC] at mC
      cases mC
      obtain ⟨u, hu, ru⟩ := lookD_rp rl l
      exact ⟨_, C, _, _, u, rfl, ho, c, n, hu, k d s1 u G1 H1 p e1 f1 ru⟩⟩
/-- e.f = value, of an object of one's own -/
def putN (f : Str) : List Str → List Str
  | [] => [f]
  | n :: ns => if n = f then n :: ns else n :: putN f ns
def putD (f : Str) (y : D) : List Str → List D → List D
  | [], _ => [y]
  | n :: ns, d :: ds => if n = f then y :: ds else d :: putD f y ns ds
  | _ :: _, [] => []
theorem put_zip {K : PySem.W.Frag} {mg : Str → Option Value} {G : Hp} {f : Str} {v : V} {y : D} (r : Rp K mg G v y) : ∀ {ns : List Str} {vs : List V} {ds : List D}, ns.length = vs.length → RpL K mg G vs ds →
    ∃ us, putF f v (ns.zip vs) = (putN f ns).zip us ∧ (putN f ns).length = us.length ∧ RpL K mg G us (putD f y ns ds)
  | [], [], _, _, .nil => ⟨[v], rfl, rfl, .cons r .nil⟩
  | n :: ns, u :: vs, _, hl, .cons (d := d) a b => by
    unfold putN putD
    rw [List.zip_cons_cons]
    unfold putF
    by_cases q : n = f
    · rw [if_pos q, if_pos q, if_pos q]
      exact ⟨v :: vs, rfl, by simpa using hl, .cons r b⟩
    · rw [if_neg q, if_neg q, if_neg q]
      obtain ⟨us, h1, h2, h3⟩ := put_zip r (ns := ns) (by simpa using hl) b
      exact ⟨u :: us, by rw [h1]; rfl, by simpa using h2, .cons a h3⟩
def sFldD (C f : Str) (mo mv : ME OH) : MS OH := fun M ρ O => mv ρ O (fun y O1 => mo ρ O1 (fun x O2 => ∃ a ns ds, x = .loc a ∧ O2 a = some (.ins C ns ds) ∧ ns.length < 1000 ∧ M.nx ρ (O2.put a (.ins C (putN f ns) (putD f y ns ds)))) (fun x O2 => M.ex x ρ O2)) (fun x O1 => M.ex x ρ O1)
theorem ds_fld {o value : Expr} {pos' : Pos} {to tv : TE} {mo mv : ME OH} (c : Cls X.K C) (hC : X.mg Cn = some (.ref C)) (n : NoAttr X.K C f) (ho : DE X Φ W o to mo) (hv : DE X Φ W value tv mv) (hs : swapsWith value (some (.Attribute o f pos')) pos.line X.env = pure false := by rfl) :
    DS X Φ W (.Assign [.Attribute o f pos'] value pos) (sFld X.K to tv f) (sFldD Cn f mo mv) :=
  ⟨ps_fld ho.pe hv.pe hs, fun σ ρ s G H D M hρ f0 hm E => hv.sem σ ρ s G H _ _ _ hρ f0 (E.wsh hρ) hm fun y s1 v G1 H1 h1 e1 f1 r1 =>
    ho.sem σ ρ s1 G1 H1 _ _ _ (hρ.mono e1) f1 ((E.mono e1).wsh (hρ.mono e1)) h1 fun x s2 u G2 H2 ⟨a, ns, ds, ex, oa, hl, p⟩ e2 f2 r2 => by
      subst ex
      cases r2
      obtain ⟨_, ob, hob, ro⟩ := FΦ.own f2 oa
      cases ro with
      | ins mC hl2 rl =>
        rw [hC] at mC
        cases mC
        rename_i dx vs
        obtain ⟨us, q1, q2, q3⟩ := put_zip (f := f) (r1.mono e2) hl2 rl
        refine ⟨a, C, dx, _, rfl, hob, c, n, by rw [List.length_zip]; omega, ?_⟩
        rw [q1]
        exact E.nx σ ρ _ G2 _ p (e1.trans e2) ((hρ.mono e1).mono e2) (FΦ.put f2 oa (.ins hC q2 q3))⟩
end
end
end DL

set_option Elab.async false
set_option linter.all false
set_option maxRecDepth 100000
set_option maxHeartbeats 1000000
namespace DL
open PySem PySem.Spec PyProof.Rows L2

section
variable {K : PySem.W.Frag} {mg : Str → Option Value} {G H : Hp}
theorem rp_cut {lo hi : Option Int} {vs : List V} {ds : List D} (r : RpL K mg G vs ds) : RpL K mg G (cutV vs lo hi) ((ds.drop (HT.sIx ds.length 0 lo)).take (HT.sIx ds.length ds.length hi - HT.sIx ds.length 0 lo)) := by
  unfold cutV
  rw [r.len]
  exact (r.dr _).tk _
theorem rp_at {i : Int} {vs : List V} {ds : List D} {d : D} (r : RpL K mg G vs ds) (h : atI ds i = some d) : ∃ v, atI vs i = some v ∧ Rp K mg G v d := by
  unfold atI at h ⊢
  rw [r.len]
  cases e : ixN ds.length i with
  | none =>
    rw [e] at h
    cases h
  | some j =>
    rw [e] at h
    obtain ⟨v, a, b⟩ := r.at (i := j) h
    exact ⟨v, a, b⟩
end

section
variable {X : Cx}
/-! ### a + b -/
def wAdd : W2 := fun a b P => match a, b with
  | .int i, .int j => P (.int (i + j))
  | .str x, .str y => x.length + y.length ≤ sizeLine ∧ P (.str (x ++ y))
  | .lst x, .lst y => x.length + y.length ≤ sizeLine ∧ P (.lst (x ++ y))
  | .tup x, .tup y => x.length + y.length ≤ sizeLine ∧ P (.tup (x ++ y))
  | _, _ => False
theorem o_add : Op2 X (binaryOp .Add) (fun x y H Q => (∃ i j, x = .int i ∧ y = .int j ∧ Q (.int (i + j)) H) ∨ (∃ i j, x = .str i ∧ y = .str j ∧ i.length + j.length ≤ sizeLine ∧ Q (.str (i ++ j)) H) ∨ rCat x y H Q ∨ rCatA X.K x y H Q) wAdd := by
  refine ⟨op_add.or (op_add_str.or (op_cat.or op_catA)), fun x y a b G H Q P ra rb sm h k => ?_⟩
  cases a with
  | int i =>
    cases b with
    | int j =>
      cases ra
      cases rb
      exact .inl ⟨i, j, rfl, rfl, k _ _ G H h .refl (.int _)⟩
    | _ => exact h.elim
  | str i =>
    cases b with
    | str j =>
      cases ra
      cases rb
      exact .inr (.inl ⟨i, j, rfl, rfl, h.1, k _ _ G H h.2 .refl (.str _)⟩)
    | _ => exact h.elim
  | lst i =>
    cases b with
    | lst j =>
      cases ra with
      | lst ha la =>
        cases rb with
        | lst hb lb =>
          refine .inr (.inr (.inl ⟨_, _, _, _, rfl, rfl, sm _ _ ha, sm _ _ hb, by rw [la.len, lb.len]; exact h.1, fun p np => ?_⟩))
          exact k _ _ _ _ h.2 (.one np) (.lst upd_same ((la.app lb).mono (same_new (sm.free np))))
    | _ => exact h.elim
  | tup i =>
    cases b with
    | tup j =>
      have ra' := ra
      have rb' := rb
      cases ra with
      | tup ha la =>
        cases rb with
        | tup hb lb =>
          have l1 := la.len
          have l2 := lb.len
          refine .inr (.inr (.inr ⟨_, _, _, _, rfl, rfl, sqt_mono sm ha, sqt_mono sm hb, by rw [l1, l2]; exact h.1, fun e => ?_, fun _ e => ?_, fun _ _ p np => ?_⟩))
          · subst e
            cases la
            exact k _ _ G H h.2 .refl rb'
          · subst e
            cases lb
            refine k _ _ G H h.2 .refl ?_
            rw [List.append_nil]
            exact ra'
          · exact k _ _ _ _ h.2 (.one np) (.tup (SqT.of upd_same) ((la.app lb).mono (same_new (sm.free np))))
    | _ => exact h.elim
  | _ => exact h.elim
/-! ### ints -/
def wI (C : Int → Int → Prop) (g : Int → Int → D) : W2 := fun a b P => match a, b with
  | .int i, .int j => C i j ∧ P (g i j)
  | _, _ => False
theorem wI_sem {C : Int → Int → Prop} {gv : Int → Int → V} {g : Int → Int → D} (hg : ∀ G i j, Rp X.K X.mg G (gv i j) (g i j)) {f : Value → Value → Sem Value} (o : OpR X f (rI C gv)) : Op2 X f (rI C gv) (wI C g) := by
  refine ⟨o, fun x y a b G H Q P ra rb sm h k => ?_⟩
  cases a with
  | int i =>
    cases b with
    | int j =>
      cases ra
      cases rb
      exact ⟨i, j, rfl, rfl, h.1, k _ _ G H h.2 .refl (hg G i j)⟩
    | _ => exact h.elim
  | _ => exact h.elim
def wI0 (g : Int → Int → D) : W2 := fun a b P => match a, b with
  | .int i, .int j => P (g i j)
  | _, _ => False
theorem wI0_sem {gv : Int → Int → V} {g : Int → Int → D} (hg : ∀ G i j, Rp X.K X.mg G (gv i j) (g i j)) {f : Value → Value → Sem Value} (o : OpR X f (rI0 gv)) : Op2 X f (rI0 gv) (wI0 g) := by
  refine ⟨o, fun x y a b G H Q P ra rb sm h k => ?_⟩
  cases a with
  | int i =>
    cases b with
    | int j =>
      cases ra
      cases rb
      exact ⟨i, j, rfl, rfl, k _ _ G H h .refl (hg G i j)⟩
    | _ => exact h.elim
  | _ => exact h.elim
def wSub : W2 := wI0 fun i j => .int (i - j)
theorem o_sub : Op2 X (binaryOp .Sub) (rI0 fun i j => .int (i - j)) wSub := wI0_sem (fun G i j => .int _) op_sub
def wMod : W2 := wI (fun _ j => 0 < j) fun i j => .int (i % j)
theorem o_mod : Op2 X (binaryOp .Mod) (rI (fun _ j => 0 < j) fun i j => .int (i % j)) wMod := wI_sem (fun G i j => .int _) op_mod
def wDiv : W2 := wI CDivW fun i j => .int (i / j)
theorem o_div : Op2 X (binaryOp .FloorDiv) (rI CDivW fun i j => .int (i / j)) wDiv := wI_sem (fun G i j => .int _) op_fdivW
def wLt : W2 := wI0 fun i j => .bl (decide (i < j))
def wLe : W2 := wI0 fun i j => .bl (decide (i ≤ j))
def wGt : W2 := wI0 fun i j => .bl (decide (j < i))
def wGe : W2 := wI0 fun i j => .bl (decide (j ≤ i))
theorem o_lt : Op2 X (compareOp .Lt) (rI0 fun i j => .bl (decide (i < j))) wLt := wI0_sem (fun G i j => .bl _) op_lt
theorem o_le : Op2 X (compareOp .LtE) (rI0 fun i j => .bl (decide (i ≤ j))) wLe := wI0_sem (fun G i j => .bl _) op_le
theorem o_gt : Op2 X (compareOp .Gt) (rI0 fun i j => .bl (decide (j < i))) wGt := wI0_sem (fun G i j => .bl _) op_gt
theorem o_ge : Op2 X (compareOp .GtE) (rI0 fun i j => .bl (decide (j ≤ i))) wGe := wI0_sem (fun G i j => .bl _) op_ge
/-! ### a * b -/
def wMul : W2 := fun a b P => match a, b with
  | .int i, .int j => (CMul i j ∨ CMulW i j) ∧ P (.int (i * j))
  | .lst x, .int k => (-(2 ^ 63) ≤ k ∧ k < 2 ^ 63 ∧ x.length * k.toNat ≤ sizeLine) ∧ P (.lst (List.replicate k.toNat x).flatten)
  | .tup x, .int k => (x ≠ [] ∧ 2 ≤ k ∧ k ≤ 1000 ∧ x.length ≤ 1000) ∧ P (.tup (List.replicate k.toNat x).flatten)
  | _, _ => False
theorem o_mul : Op2 X (binaryOp .Mult) (fun x y H Q => rI CMul (fun i j => .int (i * j)) x y H Q ∨ rI CMulW (fun i j => .int (i * j)) x y H Q ∨ rRep x y H Q ∨ rRepT X.K x y H Q) wMul := by
  refine ⟨op_mul.or (op_mulW.or (op_rep.or op_repT)), fun x y a b G H Q P ra rb sm h k => ?_⟩
  cases a with
  | int i =>
    cases b with
    | int j =>
      cases ra
      cases rb
      rcases h.1 with c | c
      · exact .inl ⟨i, j, rfl, rfl, c, k _ _ G H h.2 .refl (.int _)⟩
      · exact .inr (.inl ⟨i, j, rfl, rfl, c, k _ _ G H h.2 .refl (.int _)⟩)
    | _ => exact h.elim
  | lst i =>
    cases b with
    | int j =>
      cases rb
      cases ra with
      | lst ha la =>
        refine .inr (.inr (.inl ⟨_, _, _, rfl, rfl, sm _ _ ha, h.1.1, h.1.2.1, by rw [la.len]; exact h.1.2.2, fun p np => ?_⟩))
        exact k _ _ _ _ h.2 (.one np) (.lst upd_same ((la.flat _).mono (same_new (sm.free np))))
    | _ => exact h.elim
  | tup i =>
    cases b with
    | int j =>
      cases rb
      cases ra with
      | tup ha la =>
        have l1 := la.len
        refine .inr (.inr (.inr ⟨_, _, _, rfl, rfl, sqt_mono sm ha, fun e => h.1.1 (by subst e; cases la; rfl), h.1.2.1, h.1.2.2.1, by rw [l1]; exact h.1.2.2.2, fun p np => ?_⟩))
        exact k _ _ _ _ h.2 (.one np) (.tup (SqT.of upd_same) ((la.flat _).mono (same_new (sm.free np))))
    | _ => exact h.elim
  | _ => exact h.elim
/-! ### == over trees without instances -/
mutual
def toPy : D → Option PyData
  | .non => some .none
  | .bl b => some (.bool b)
  | .int i => some (.int i)
  | .str x => some (.str x)
  | .lst ds => (toPyL ds).map .list
  | .tup ds => (toPyL ds).map .tuple
  | _ => none
def toPyL : List D → Option (List PyData)
  | [] => some []
  | d :: ds => match toPy d, toPyL ds with
    | some p, some ps => some (p :: ps)
    | _, _ => none
end
mutual
theorem rp_dp {K : PySem.W.Frag} {mg : Str → Option Value} {G H : Hp} (sm : Same G H) : ∀ {v : V} {d : D} {p : PyData}, Rp K mg G v d → toPy d = some p → Dp K H v p
  | _, _, _, .non, h => by
    simp only [toPy] at h
    cases h
    exact .non
  | _, _, _, .bl b, h => by
    simp only [toPy] at h
    cases h
    exact .bl b
  | _, _, _, .int b, h => by
    simp only [toPy] at h
    cases h
    exact .int b
  | _, _, _, .str b, h => by
    simp only [toPy] at h
    cases h
    exact .str b
  | _, _, _, .lst q r, h => by
    simp only [toPy, Option.map_eq_some_iff] at h
    obtain ⟨ps, h, rfl⟩ := h
    exact .lst (SqL.of (sm _ _ q)) (rpl_dp sm r h)
  | _, _, _, .tup q r, h => by
    simp only [toPy, Option.map_eq_some_iff] at h
    obtain ⟨ps, h, rfl⟩ := h
    exact .tup (sqt_mono sm q) (rpl_dp sm r h)
  | _, _, _, .dic _ _ _, h => by simp [toPy] at h
  | _, _, _, .ins _ _ _ _, h => by simp [toPy] at h
  | _, _, _, .frz _ _, h => by simp [toPy] at h
  | _, _, _, .loc _, h => by simp [toPy] at h
  | _, _, _, .cls _, h => by simp [toPy] at h
  | _, _, _, .ty _, h => by simp [toPy] at h
theorem rpl_dp {K : PySem.W.Frag} {mg : Str → Option Value} {G H : Hp} (sm : Same G H) : ∀ {vs : List V} {ds : List D} {ps : List PyData}, RpL K mg G vs ds → toPyL ds = some ps → DpAll K H vs ps
  | _, _, _, .nil, h => by
    simp only [toPyL] at h
    cases h
    exact .nil
  | _, _, _, .cons (d := d) (ds := ds) a b, h => by
    simp only [toPyL] at h
    cases e1 : toPy d with
    | none => simp [e1] at h
    | some p =>
      cases e2 : toPyL ds with
      | none => simp [e1, e2] at h
      | some ps =>
        simp [e1, e2] at h
        subst h
        exact .cons (rp_dp sm a e1) (rpl_dp sm b e2)
end
def wEq : W2 := fun a b P => ∃ p q, toPy a = some p ∧ toPy b = some q ∧ SeqAt.shaped p = true ∧ SeqAt.shaped q = true ∧ P (.bl (PyData.eqv p q))
def wNe : W2 := fun a b P => ∃ p q, toPy a = some p ∧ toPy b = some q ∧ SeqAt.shaped p = true ∧ SeqAt.shaped q = true ∧ P (.bl (!PyData.eqv p q))
theorem o_eq (hu : X.A.units + 64 < cLine) : Op2 X (compareOp .Eq) (rEqD X.K) wEq := by
  refine ⟨op_eqD hu, fun x y a b G H Q P ra rb sm ⟨p, q, h1, h2, h3, h4, h⟩ k => ?_⟩
  exact ⟨p, q, rp_dp sm ra h1, rp_dp sm rb h2, h3, h4, k _ _ G H h .refl (.bl _)⟩
theorem o_ne (hu : X.A.units + 64 < cLine) : Op2 X (compareOp .NotEq) (rNeD X.K) wNe := by
  refine ⟨op_neD hu, fun x y a b G H Q P ra rb sm ⟨p, q, h1, h2, h3, h4, h⟩ k => ?_⟩
  exact ⟨p, q, rp_dp sm ra h1, rp_dp sm rb h2, h3, h4, k _ _ G H h .refl (.bl _)⟩
/-! ### is None -/
def isNon : D → Bool
  | .non => true
  | _ => false
theorem rp_isNon {K : PySem.W.Frag} {mg : Str → Option Value} {G : Hp} {v : V} {d : D} (r : Rp K mg G v d) : decide (v = .non) = isNon d := by
  cases r <;> first | rfl | exact decide_eq_false (fun z => nomatch z)
def wIsN : W2 := fun a b P => b = .non ∧ P (.bl (isNon a))
def wNotN : W2 := fun a b P => b = .non ∧ P (.bl (!isNon a))
theorem o_isN : Op2 X (compareOp .Is) (fun x y H Q => y = .non ∧ Q (.bl (decide (x = .non))) H) wIsN := by
  refine ⟨op_isN, fun x y a b G H Q P ra rb sm ⟨e, h⟩ k => ?_⟩
  subst e
  cases rb
  exact ⟨rfl, by rw [rp_isNon ra]; exact k _ _ G H h .refl (.bl _)⟩
theorem o_notN : Op2 X (compareOp .IsNot) (fun x y H Q => y = .non ∧ Q (.bl (!decide (x = .non))) H) wNotN := by
  refine ⟨op_notN, fun x y a b G H Q P ra rb sm ⟨e, h⟩ k => ?_⟩
  subst e
  cases rb
  exact ⟨rfl, by rw [rp_isNon ra]; exact k _ _ G H h .refl (.bl _)⟩
end
end DL

set_option Elab.async false
set_option linter.all false
set_option maxRecDepth 100000
set_option maxHeartbeats 1000000
namespace DL
open PySem PySem.Spec PyProof.Rows L2

section
variable {X : Cx}
/-! ### built-ins -/
def wLen : WL := fun ds P => ∃ d, ds = [d] ∧ match d with
  | .lst x => P (.int x.length)
  | .tup x => P (.int x.length)
  | .frz x => P (.int x.length)
  | .str x => x.length ≤ sizeLine ∧ P (.int x.length)
  | _ => False
theorem f_len : Fn1 X (.builtin "len") (fun xs H Q => ∃ x n, xs = [x] ∧ LenV X.K x H n ∧ Q (.int n) H) wLen := by
  refine ⟨call_len, fun vs ds G H Q P r sm ⟨d, ed, h⟩ k => ?_⟩
  subst ed
  obtain ⟨v, rfl, r1⟩ := rpl1 r
  cases r1 with
  | lst a b => exact ⟨_, _, rfl, .inl ⟨_, SqL.of (sm _ _ a), b.len.symm⟩, k _ _ G H h .refl (.int _)⟩
  | tup a b => exact ⟨_, _, rfl, .inr ⟨_, sqt_mono sm a, b.len.symm⟩, k _ _ G H h .refl (.int _)⟩
  | frz a b => exact ⟨_, _, rfl, .inl ⟨_, sql_mono sm a.sql, b.len.symm⟩, k _ _ G H h .refl (.int _)⟩
  | str x => exact ⟨_, _, rfl, ⟨h.1, rfl⟩, k _ _ G H h.2 .refl (.int _)⟩
  | _ => exact h.elim
def wTuple : WL := fun ds P => (∃ x, ds = [.lst x] ∧ P (.tup x)) ∨ (∃ x, ds = [.tup x] ∧ P (.tup x))
theorem f_tuple : Fn1 X (.type "tuple") (fun xs H Q => ∃ p ys, xs = [.ref p] ∧ ((SqL X.K H p ys ∧ ∀ l, H l = none → Q (.ref l) (upd H l (.tup ys))) ∨ (SqT X.K H p ys ∧ Q (.ref p) H))) wTuple := by
  refine ⟨call_tuple_of, fun vs ds G H Q P r sm h k => ?_⟩
  rcases h with ⟨x, ed, h⟩ | ⟨x, ed, h⟩
  · subst ed
    obtain ⟨v, rfl, r1⟩ := rpl1 r
    cases r1 with
    | lst a b => exact ⟨_, _, rfl, .inl ⟨SqL.of (sm _ _ a), fun l nl => k _ _ _ _ h (.one nl) (.tup (SqT.of upd_same) (b.mono (same_new (sm.free nl))))⟩⟩
  · subst ed
    obtain ⟨v, rfl, r1⟩ := rpl1 r
    have r' := r1
    cases r1 with
    | tup a b => exact ⟨_, _, rfl, .inr ⟨sqt_mono sm a, k _ _ G H h .refl r'⟩⟩
def wList : WL := fun ds P => (∃ x, ds = [.lst x] ∧ P (.lst x)) ∨ (∃ x, ds = [.tup x] ∧ P (.lst x))
theorem f_list : Fn1 X (.type "list") (fun xs H Q => ∃ p ys, xs = [.ref p] ∧ (SqL X.K H p ys ∨ SqT X.K H p ys) ∧ ∀ l, H l = none → Q (.ref l) (upd H l (.lst ys))) wList := by
  refine ⟨call_list_of, fun vs ds G H Q P r sm h k => ?_⟩
  rcases h with ⟨x, ed, h⟩ | ⟨x, ed, h⟩
  · subst ed
    obtain ⟨v, rfl, r1⟩ := rpl1 r
    cases r1 with
    | lst a b => exact ⟨_, _, rfl, .inl (SqL.of (sm _ _ a)), fun l nl => k _ _ _ _ h (.one nl) (.lst upd_same (b.mono (same_new (sm.free nl))))⟩
  · subst ed
    obtain ⟨v, rfl, r1⟩ := rpl1 r
    cases r1 with
    | tup a b => exact ⟨_, _, rfl, .inr (sqt_mono sm a), fun l nl => k _ _ _ _ h (.one nl) (.lst upd_same (b.mono (same_new (sm.free nl))))⟩
def wAbs : WL := fun ds P => ∃ i, ds = [.int i] ∧ P (.int (if i < 0 then -i else i))
theorem f_abs : Fn1 X (.builtin "abs") (fun xs H Q => ∃ i, xs = [.int i] ∧ Q (.int (if i < 0 then -i else i)) H) wAbs := by
  refine ⟨call_abs, fun vs ds G H Q P r sm ⟨i, ed, h⟩ k => ?_⟩
  subst ed
  obtain ⟨v, rfl, r1⟩ := rpl1 r
  cases r1
  exact ⟨i, rfl, k _ _ G H h .refl (.int _)⟩
def wInt : WL := fun ds P => (∃ i, ds = [.int i] ∧ P (.int i)) ∨ ∃ b, ds = [.bl b] ∧ P (.int (if b then 1 else 0))
theorem f_int : Fn1 X (.type "int") (fun xs H Q => (∃ i, xs = [.int i] ∧ Q (.int i) H) ∨ ∃ k, xs = [.bl k] ∧ Q (.int (if k then 1 else 0)) H) wInt := by
  refine ⟨call_int1, fun vs ds G H Q P r sm h k => ?_⟩
  rcases h with ⟨i, ed, h⟩ | ⟨i, ed, h⟩
  · subst ed
    obtain ⟨v, rfl, r1⟩ := rpl1 r
    cases r1
    exact .inl ⟨i, rfl, k _ _ G H h .refl (.int _)⟩
  · subst ed
    obtain ⟨v, rfl, r1⟩ := rpl1 r
    cases r1
    exact .inr ⟨i, rfl, k _ _ G H h .refl (.int _)⟩
def wMax : WL := fun ds P => ∃ i j : Int, ds = [.int i, .int j] ∧ P (.int (if j > i then j else i))
def wMin : WL := fun ds P => ∃ i j : Int, ds = [.int i, .int j] ∧ P (.int (if j < i then j else i))
theorem f_max (hc : X.calm = true) : Fn1 X (.builtin "max") (fun xs H Q => ∃ i j, xs = [.int i, .int j] ∧ Q (.int (if j > i then j else i)) H) wMax := by
  refine ⟨call_max2 hc, fun vs ds G H Q P r sm ⟨i, j, ed, h⟩ k => ?_⟩
  subst ed
  obtain ⟨v, u, rfl, r1, q⟩ := rpl2 r
  cases r1
  cases q
  exact ⟨i, j, rfl, k _ _ G H h .refl (.int _)⟩
theorem f_min (hc : X.calm = true) : Fn1 X (.builtin "min") (fun xs H Q => ∃ i j, xs = [.int i, .int j] ∧ Q (.int (if j < i then j else i)) H) wMin := by
  refine ⟨call_min2 hc, fun vs ds G H Q P r sm ⟨i, j, ed, h⟩ k => ?_⟩
  subst ed
  obtain ⟨v, u, rfl, r1, q⟩ := rpl2 r
  cases r1
  cases q
  exact ⟨i, j, rfl, k _ _ G H h .refl (.int _)⟩
theorem rpl_bls {K : PySem.W.Frag} {mg : Str → Option Value} {G : Hp} : ∀ {bs : List Bool} {vs : List V}, RpL K mg G vs (bs.map D.bl) → vs = bs.map V.bl
  | [], _, .nil => rfl
  | b :: bs, _, .cons a r => by
    cases a
    rw [rpl_bls r]
    rfl
theorem rpl_ints {K : PySem.W.Frag} {mg : Str → Option Value} {G : Hp} : ∀ {bs : List Int} {vs : List V}, RpL K mg G vs (bs.map D.int) → vs = bs.map V.int
  | [], _, .nil => rfl
  | b :: bs, _, .cons a r => by
    cases a
    rw [rpl_ints r]
    rfl
def wAll : WL := fun ds P => ∃ bs : List Bool, ds = [.lst (bs.map D.bl)] ∧ P (.bl (bs.all id))
def wAny : WL := fun ds P => ∃ bs : List Bool, ds = [.lst (bs.map D.bl)] ∧ P (.bl (bs.any id))
def wSum : WL := fun ds P => ∃ ns : List Int, (ds = [.lst (ns.map D.int)] ∨ ds = [.frz (ns.map D.int)]) ∧ P (.int ns.sum)
theorem f_all (hc : X.calm = true) : Fn1 X (.builtin "all") (rAll X.K) wAll := by
  refine ⟨cr_all hc, fun vs ds G H Q P r sm ⟨bs, ed, h⟩ k => ?_⟩
  subst ed
  obtain ⟨v, rfl, r1⟩ := rpl1 r
  cases r1 with
  | lst a b =>
    cases rpl_bls b
    exact ⟨_, bs, rfl, SqL.of (sm _ _ a), k _ _ G H h .refl (.bl _)⟩
theorem f_any (hc : X.calm = true) : Fn1 X (.builtin "any") (rAny X.K) wAny := by
  refine ⟨cr_any hc, fun vs ds G H Q P r sm ⟨bs, ed, h⟩ k => ?_⟩
  subst ed
  obtain ⟨v, rfl, r1⟩ := rpl1 r
  cases r1 with
  | lst a b =>
    cases rpl_bls b
    exact ⟨_, bs, rfl, SqL.of (sm _ _ a), k _ _ G H h .refl (.bl _)⟩
theorem f_sum (hc : X.calm = true) : Fn1 X (.builtin "sum") (rSum X.K) wSum := by
  refine ⟨cr_sum hc, fun vs ds G H Q P r sm ⟨bs, ed, h⟩ k => ?_⟩
  rcases ed with ed | ed
  · subst ed
    obtain ⟨v, rfl, r1⟩ := rpl1 r
    cases r1 with
    | lst a b =>
      cases rpl_ints b
      exact ⟨_, bs, rfl, SqL.of (sm _ _ a), k _ _ G H h .refl (.int _)⟩
  · subst ed
    obtain ⟨v, rfl, r1⟩ := rpl1 r
    cases r1 with
    | frz a b =>
      cases rpl_ints b
      exact ⟨_, bs, rfl, sql_mono sm a.sql, k _ _ G H h .refl (.int _)⟩
/-! ### isinstance -/
def tyD : D → Option String
  | .non => some "NoneType"
  | .bl _ => some "bool"
  | .int _ => some "int"
  | .str _ => some "str"
  | .lst _ => some "list"
  | .tup _ => some "tuple"
  | .dic _ _ => some "dict"
  | .frz _ => some "list"
  | _ => none
theorem rp_tyX {K : PySem.W.Frag} {mg : Str → Option Value} {G H : Hp} (sm : Same G H) {v : V} {d : D} {n : String} (r : Rp K mg G v d) (h : tyD d = some n) : TyX K H v (.type n) := by
  cases r with
  | non => cases h; exact .base .non
  | bl b => cases h; exact .base (.bl b)
  | int b => cases h; exact .base (.int b)
  | str b => cases h; exact .base (.str b)
  | lst a b => cases h; exact .base (.lst (sm _ _ a))
  | tup a b =>
    cases h
    rcases sqt_mono sm a with (q | ⟨o, q⟩) | ⟨o, its, n, hk, hc, _⟩
    · exact .base (.tup q)
    · exact .fTuple q
    · exact .kTuple hk hc
  | dic a _ b => cases h; exact .base (.dK (sm _ _ a))
  | frz a b =>
    cases h
    rcases sql_mono sm a.sql with (q | ⟨o, q⟩) | ⟨o, its, n, hk, hc, _⟩
    · exact .base (.lst q)
    · exact .base (.frz q)
    · exact .kList hk hc
  | _ => cases h
/-- is a built-in type's value an instance of another: a table -/
def kitL (a : String) : List String → Option Bool
  | [] => some false
  | b :: bs => match kitB a b with
    | some true => some true
    | some false => kitL a bs
    | none => none
theorem kit_all {K : PySem.W.Frag} {a : String} : ∀ {l : List String} {r : Bool}, kitL a l = some r → PySem.W.kitAny K (.type a) (l.map Value.type) = some r
  | [], r, h => by
    simp only [kitL] at h
    cases h
    exact kitAny_nil
  | b :: bs, r, h => by
    simp only [kitL] at h
    cases e : kitB a b with
    | none => rw [e] at h; cases h
    | some q =>
      rw [e] at h
      refine kitAny_cons (b := q) (kit_ty e) (fun z => ?_) fun z => ?_
      · subst z
        exact kit_all h
      · subst z
        cases h
        rfl
/-- isinstance(x, T), isinstance(x, (T, U, ..)), the types built-in -/
def wIsi (l : List String) (d : D) (P : D → Prop) : Prop := ∃ n b, tyD d = some n ∧ kitL n l = some b ∧ P (.bl b)
theorem clsV_tys : ∀ l : List String, Paired ClsV (l.map V.ty) (l.map Value.type)
  | [] => .nil
  | t :: l => .cons (.ty t) (clsV_tys l)
def mIsi {S : Type} (l : List String) (m : ME S) : ME S := fun ρ s P R => m ρ s (fun d s1 => wIsi l d fun b => P b s1) R
section
variable {S : Type} {Φ : S → Hp → Hp → Prop} {W : WX} [Frm Φ]
theorem de_isiT {l : List String} {ts : List Expr} {tt : TA} {e : Expr} {te : TE} {m : ME S} {p p2 pos : Pos} {k : Nat} (hg : Gl X "isinstance") (hm : X.mg "isinstance" = none) (h : DE X Φ W e te m) (ht : PA X ts tt) (hl : ∀ (σ : Sig) (H : Hp) (Q : List V → Hp → Prop), Q (l.map V.ty) H → tt σ H Q)
    (hz : l.length ≤ sizeLine) (h1 : starEach [e, .Tuple ts k p2] X.env = (false, eval e X.env) :: starEach [.Tuple ts k p2] X.env := by rfl) (h2 : starEach [.Tuple ts k p2] X.env = (false, eval (.Tuple ts k p2) X.env) :: starEach [] X.env := by rfl) (hpl : (backTo pos (starEach [.Tuple ts k p2] X.env)).any (·.1) = false := by rfl) :
    DE X Φ W (.Call (.Name "isinstance" p) [e, .Tuple ts k p2] [] pos) (tCB (rIsiT X.K) (tCons te (tCons (tTup tt) tNil))) (mIsi l m) :=
  ⟨pe_callB call_isiT hg hm (by decide +kernel) (pa_cons h.pe (pa_cons (pe_tup ht) pa_nil h2) h1) (by decide) (by decide) h1 hpl, fun σ ρ s G H Q P R hρ f hW hmm k => by
    refine h.sem σ ρ s G H _ _ R hρ f hW hmm fun d s1 v G1 H1 ⟨n, b, h1, h2, h3⟩ e1 f1 r1 => ?_
    refine hl _ _ _ ⟨by rw [List.length_map]; exact hz, fun tp np => ?_⟩
    have r2 := r1.mono (same_new (o := .tup (l.map V.ty)) ((Frm.same f1).free np))
    refine ⟨v, tp, _, _, _, b, rfl, upd_same, clsV_tys l, rp_tyX (same_both (Frm.same f1) np) r2 h1, kit_all h2, ?_⟩
    exact k _ s1 _ _ _ h3 (e1.trans (same_new ((Frm.same f1).free np))) (Frm.ext f1 np) (.bl b)⟩
theorem de_isi {T : String} {e : Expr} {te : TE} {m : ME S} {p p2 pos : Pos} {x : Str} (hg : Gl X "isinstance") (hm : X.mg "isinstance" = none) (h : DE X Φ W e te m) (hT : PE X (.Name x p2) (tC (.ty T)))
    (h1 : starEach [e, .Name x p2] X.env = (false, eval e X.env) :: starEach [.Name x p2] X.env := by rfl) (h2 : starEach [.Name x p2] X.env = (false, eval (.Name x p2) X.env) :: starEach [] X.env := by rfl) (hpl : (backTo pos (starEach [.Name x p2] X.env)).any (·.1) = false := by rfl) :
    DE X Φ W (.Call (.Name "isinstance" p) [e, .Name x p2] [] pos) (tCB (rIsi X.K) (tCons te (tCons (tC (.ty T)) tNil))) (mIsi [T] m) :=
  ⟨pe_callB call_isi hg hm (by decide +kernel) (pa_cons h.pe (pa_cons hT pa_nil h2) h1) (by decide) (by decide) h1 hpl, fun σ ρ s G H Q P R hρ f hW hmm k => by
    refine h.sem σ ρ s G H _ _ R hρ f hW hmm fun d s1 v G1 H1 ⟨n, b, q1, q2, q3⟩ e1 f1 r1 => ?_
    refine ⟨v, _, _, _, b, rfl, .ty T, rp_tyX (Frm.same f1) r1 q1, ?_, k _ s1 _ G1 H1 q3 e1 f1 (.bl b)⟩
    simp only [kitL] at q2
    cases e : kitB n T with
    | none => rw [e] at q2; cases q2
    | some q =>
      rw [e] at q2
      cases q <;> (cases q2; exact kit_ty e)⟩
/-- a built-in type's name -/
theorem pe_tyn {x : Str} {T : String} {pos : Pos} (hg : Gl X x) (hm : X.mg x = none) (hv : bootBuiltins x = some (.type T)) (hn : x ≠ "__name__" := by decide) (hd : (x == ("__debug__" : Str)) = false := by decide) : PE X (.Name x pos) (tC (.ty T)) := pe_bltn hg hm hv rfl hn hd
end
/-- isinstance(x, C), C an own class: what it answers is told by the table -/
structure IsiC (K : PySem.W.Frag) (mg : Str → Option Value) (c : Addr) (tb : D → Option Bool) : Prop where
  yes : ∀ (G H : Hp) (v : V) (d : D) (b : Bool), Same G H → Rp K mg G v d → tb d = some b → ∃ t, TyX K H v t ∧ PySem.W.kitOne K t (.ref c) = some b
def mIsiC {S : Type} (tb : D → Option Bool) (m : ME S) : ME S := fun ρ s P R => m ρ s (fun d s1 => ∃ b, tb d = some b ∧ P (.bl b) s1) R
theorem de_isiC {S : Type} {Φ : S → Hp → Hp → Prop} {W : WX} [Frm Φ] {c : Addr} {tb : D → Option Bool} {e : Expr} {te : TE} {m : ME S} {p p2 pos : Pos} {x : Str} (T : IsiC X.K X.mg c tb) (hg : Gl X "isinstance") (hm : X.mg "isinstance" = none) (hgx : Gl X x) (hx : X.mg x = some (.ref c)) (h : DE X Φ W e te m) (hd : (x == ("__debug__" : Str)) = false := by decide)
    (h1 : starEach [e, .Name x p2] X.env = (false, eval e X.env) :: starEach [.Name x p2] X.env := by rfl) (h2 : starEach [.Name x p2] X.env = (false, eval (.Name x p2) X.env) :: starEach [] X.env := by rfl) (hpl : (backTo pos (starEach [.Name x p2] X.env)).any (·.1) = false := by rfl) :
    DE X Φ W (.Call (.Name "isinstance" p) [e, .Name x p2] [] pos) (tCB (rIsi X.K) (tCons te (tCons (tC (.ref c)) tNil))) (mIsiC tb m) :=
  ⟨pe_callB call_isi hg hm (by decide +kernel) (pa_cons h.pe (pa_cons (pe_glob hgx hx rfl hd) pa_nil h2) h1) (by decide) (by decide) h1 hpl, fun σ ρ s G H Q P R hρ f hW hmm k => by
    refine h.sem σ ρ s G H _ _ R hρ f hW hmm fun d s1 v G1 H1 ⟨b, q1, q3⟩ e1 f1 r1 => ?_
    obtain ⟨t, ty, kt⟩ := T.yes G1 H1 v d b (Frm.same f1) r1 q1
    exact ⟨v, _, t, _, b, rfl, .own c, ty, kt, k _ s1 _ G1 H1 q3 e1 f1 (.bl b)⟩⟩
/-! ### places and cuts -/
def wIx : W2 := fun a b P => ∃ i : Int, b = .int i ∧ match a with
  | .lst x => ∃ d, atI x i = some d ∧ P d
  | .tup x => ∃ d, atI x i = some d ∧ P d
  | .frz x => ∃ d, atI x i = some d ∧ P d
  | _ => False
structure Ix2 (X : Cx) (r : R2) (w : W2) : Prop where
  ix : IxR X r
  sem : ∀ (x y : V) (a b : D) (G H : Hp) (Q : VK) (P : D → Prop), Rp X.K X.mg G x a → Rp X.K X.mg G y b → Same G H → w a b P → (∀ (d : D) (v : V) (G' H' : Hp), P d → Ext G H G' H' → Rp X.K X.mg G' v d → Q v H') → r x y H Q
theorem x_seq : Ix2 X (rIx X.K) wIx := by
  refine ⟨ix_seq, fun x y a b G H Q P ra rb sm ⟨i, eb, h⟩ k => ?_⟩
  subst eb
  cases rb
  cases ra with
  | lst p q =>
    obtain ⟨d, e, h⟩ := h
    obtain ⟨v, hv, rv⟩ := rp_at q e
    exact .inl ⟨_, _, i, v, rfl, rfl, SqL.of (sm _ _ p), hv, k _ _ G H h .refl rv⟩
  | tup p q =>
    obtain ⟨d, e, h⟩ := h
    obtain ⟨v, hv, rv⟩ := rp_at q e
    exact .inr (.inl ⟨_, _, i, v, rfl, rfl, sqt_mono sm p, hv, k _ _ G H h .refl rv⟩)
  | frz p q =>
    obtain ⟨d, e, h⟩ := h
    obtain ⟨v, hv, rv⟩ := rp_at q e
    exact .inl ⟨_, _, i, v, rfl, rfl, sql_mono sm p.sql, hv, k _ _ G H h .refl rv⟩
  | _ => exact h.elim
theorem de_ix {S : Type} {Φ : S → Hp → Hp → Prop} {W : WX} [Frm Φ] {te tb : TE} {r : R2} {w : W2} {a b : Expr} {ma mb : ME S} {pos : Pos} (o : Ix2 X r w) (ha : DE X Φ W a te ma) (hb : DE X Φ W b tb mb) (hs : PlainIx b := by exact fun _ _ => rfl) : DE X Φ W (.Subscript a b pos) (tOp r te tb) (mBin w ma mb) :=
  ⟨pe_ix o.ix ha.pe hb.pe hs, fun σ ρ s G H Q P R hρ f hW h k => by
    refine ha.sem σ ρ s G H _ _ R hρ f hW h fun x s1 u G1 H1 h1 e1 f1 r1 => ?_
    refine hb.sem σ ρ s1 G1 H1 _ _ R (hρ.mono e1) f1 (hW.mono e1) h1 fun y s2 v G2 H2 h2 e2 f2 r2 => ?_
    refine o.sem u v x y G2 H2 _ _ (r1.mono e2) r2 (Frm.same f2) h2 fun d z G3 H3 p x3 r3 => ?_
    exact k d s2 z G3 H3 p ((e1.trans e2).trans (x3.out (Frm.same f2)).1) (Frm.exts x3 f2) r3⟩
abbrev MO (S : Type) := Rho → S → (Option Int → S → Prop) → (Exn → S → Prop) → Prop
structure DO1 {S : Type} (X : Cx) (Φ : S → Hp → Hp → Prop) (W : WX) (e : Option Expr) (t : TO) (m : MO S) : Prop where
  po : PO X e t
  sem : ∀ (σ : Sig) (ρ : Rho) (s : S) (G H : Hp) (Q : Option Int → Hp → Prop) (P : Option Int → S → Prop) (R : Exn → S → Prop), RelE X.K X.mg G σ ρ → Φ s G H → Wsh X.K X.mg Φ W G σ R → m ρ s P R →
    (∀ (i : Option Int) (s' : S) (G' H' : Hp), P i s' → Same G G' → Φ s' G' H' → Q i H') → t σ H Q
section
variable {S : Type} {Φ : S → Hp → Hp → Prop} {W : WX} [Frm Φ]
def mPn : MO S := fun _ s P _ => P none s
def mPs (m : ME S) : MO S := fun ρ s P R => m ρ s (fun d s1 => ∃ i, d = .int i ∧ P (some i) s1) R
theorem do_none : DO1 X Φ W none tNoPart (mPn : MO S) := ⟨po_none, fun σ ρ s G H Q P R hρ f hW h k => k none s G H h (Same.refl _) f⟩
theorem do_some {e : Expr} {te : TE} {m : ME S} (h : DE X Φ W e te m) : DO1 X Φ W (some e) (tPart te) (mPs m) :=
  ⟨po_some h.pe, fun σ ρ s G H Q P R hρ f hW hm k => h.sem σ ρ s G H _ _ R hρ f hW hm fun d s1 v G1 H1 ⟨i, ed, p⟩ e1 f1 r1 => by
    subst ed
    cases r1
    exact ⟨i, rfl, k _ s1 G1 H1 p e1 f1⟩⟩
def cutD (ds : List D) (lo hi : Option Int) : List D := (ds.drop (HT.sIx ds.length 0 lo)).take (HT.sIx ds.length ds.length hi - HT.sIx ds.length 0 lo)
def wCut (a : D) (lo hi : Option Int) (P : D → Prop) : Prop := match a with
  | .lst x => P (.lst (cutD x lo hi))
  | .tup x => P (.tup (cutD x lo hi))
  | .frz x => P (.lst (cutD x lo hi))
  | _ => False
def mSl (m : ME S) (l h : MO S) : ME S := fun ρ s P R => m ρ s (fun a s1 => l ρ s1 (fun i s2 => h ρ s2 (fun j s3 => wCut a i j fun d => P d s3) R) R) R
theorem cut_whole {ds : List D} {lo hi : Option Int} (h : HT.sIx ds.length 0 lo = 0 ∧ HT.sIx ds.length ds.length hi = ds.length) : cutD ds lo hi = ds := by
  unfold cutD
  rw [h.1, h.2]
  simp
theorem de_sl {e : Expr} {lo hi : Option Expr} {te : TE} {tl th : TO} {m : ME S} {l h : MO S} {pos p2 : Pos} (he : DE X Φ W e te m) (hl : DO1 X Φ W lo tl l) (hh : DO1 X Φ W hi th h) :
    DE X Φ W (.Subscript e (.Slice lo hi none p2) pos) (tSl (fun x lo hi H Q => rSlL X.K x lo hi H Q ∨ rSlA X.K x lo hi H Q) te tl th) (mSl m l h) :=
  ⟨pe_slice (SlR.or sl_list sl_tupA) he.pe hl.po hh.po, fun σ ρ s G H Q P R hρ f hW hm k => by
    refine he.sem σ ρ s G H _ _ R hρ f hW hm fun a s1 v G1 H1 h1 e1 f1 r1 => ?_
    refine hl.sem σ ρ s1 G1 H1 _ _ R (hρ.mono e1) f1 (hW.mono e1) h1 fun i s2 G2 H2 h2 e2 f2 => ?_
    refine hh.sem σ ρ s2 G2 H2 _ _ R ((hρ.mono e1).mono e2) f2 (hW.mono (e1.trans e2)) h2 fun j s3 G3 H3 h3 e3 f3 => ?_
    have sm := Frm.same f3
    have r3 := r1.mono (e2.trans e3)
    have e13 := (e1.trans e2).trans e3
    cases r1 with
    | lst p q =>
      cases r3 with
      | lst p q => exact .inl ⟨_, _, rfl, SqL.of (sm _ _ p), fun z nz => k _ s3 _ _ _ h3 (e13.trans (same_new (sm.free nz))) (Frm.ext f3 nz) (.lst upd_same ((rp_cut q).mono (same_new (sm.free nz))))⟩
    | frz p q =>
      cases r3 with
      | frz p q => exact .inl ⟨_, _, rfl, sql_mono sm p.sql, fun z nz => k _ s3 _ _ _ h3 (e13.trans (same_new (sm.free nz))) (Frm.ext f3 nz) (.lst upd_same ((rp_cut q).mono (same_new (sm.free nz))))⟩
    | tup p q =>
      have r4 := r3
      cases r3 with
      | tup p q =>
        have hlen := q.len
        refine .inr ⟨_, _, rfl, sqt_mono sm p, fun hw => ?_, fun hw z nz => k _ s3 _ _ _ h3 (e13.trans (same_new (sm.free nz))) (Frm.ext f3 nz) (.tup (SqT.of upd_same) ((rp_cut q).mono (same_new (sm.free nz))))⟩
        rw [hlen] at hw
        have ew := cut_whole hw
        refine k _ s3 _ G3 H3 h3 e13 f3 ?_
        rw [ew]
        exact r4
    | _ => exact h3.elim⟩
end
end
end DL

set_option Elab.async false
set_option linter.all false
set_option maxRecDepth 100000
set_option maxHeartbeats 1000000
namespace DL
open PySem PySem.Spec PyProof.Rows L2

/-! ### repr -/
mutual
/-- a tree's datum, an empty dict too -/
def toPd : D → Option PyData
  | .non => some .none
  | .bl b => some (.bool b)
  | .int i => some (.int i)
  | .str x => some (.str x)
  | .lst ds => (toPdL ds).map .list
  | .tup ds => (toPdL ds).map .tuple
  | .dic [] [] => some (.dict [])
  | _ => none
def toPdL : List D → Option (List PyData)
  | [] => some []
  | d :: ds => match toPd d, toPdL ds with
    | some p, some ps => some (p :: ps)
    | _, _ => none
end
section
variable {X : Cx} {pins : List (Addr × Obj)} {σ : Sig} {G H : Hp} {s : Shared} {mg : Str → Option Value}
theorem not_mods (hk : ∃ mm, X.base.Ns sysModules mm) (I : Inv X pins σ H s) {a : Addr} {o : HO} (h : H a = some o) : a ≠ sysModules := fun e => by
  obtain ⟨mm, ob, es, ep, hk, _⟩ := hk
  have q := (I.bs _ _ hk).2
  rw [e] at h
  rw [h] at q
  cases q
mutual
theorem rp_reads (hk : ∃ mm, X.base.Ns sysModules mm) (I : Inv X pins σ H s) (sm : Same G H) : ∀ {v : V} {d : D} {p : PyData} {u : Value}, Rp X.K mg G v d → toPd d = some p → RelV v u → ∃ as, Reads s.heap u p as ∧ sysModules ∉ as
  | _, _, _, _, .non, h, r => by
    simp only [toPd] at h
    cases h
    cases r
    exact ⟨_, .none, by simp⟩
  | _, _, _, _, .bl b, h, r => by
    simp only [toPd] at h
    cases h
    cases r
    exact ⟨_, .bool b, by simp⟩
  | _, _, _, _, .int b, h, r => by
    simp only [toPd] at h
    cases h
    obtain ⟨t, rfl⟩ := r
    exact ⟨_, .int b t, by simp⟩
  | _, _, _, _, .str b, h, r => by
    simp only [toPd] at h
    cases h
    obtain ⟨t, rfl⟩ := r
    exact ⟨_, .str b t, by simp⟩
  | _, _, _, _, .lst q rl, h, r => by
    simp only [toPd, Option.map_eq_some_iff] at h
    obtain ⟨ps, h, rfl⟩ := h
    cases r
    obtain ⟨its, rv, ⟨o, n, ho, hc, _, hd⟩, _⟩ := I.list (SqL.of (sm _ _ q))
    obtain ⟨as, hr, hn⟩ := rpl_reads hk I sm rl h rv
    exact ⟨_, .list ho hc hd hr, by simp only [List.mem_cons, not_or]; exact ⟨fun e => not_mods hk I (sm _ _ q) e.symm, hn⟩⟩
  | _, _, _, _, .tup q rl, h, r => by
    simp only [toPd, Option.map_eq_some_iff] at h
    obtain ⟨ps, h, rfl⟩ := h
    cases r
    obtain ⟨its, rv, ⟨o, ho, hc, n, hd⟩, _⟩ := I.tuple (sqt_mono sm q)
    obtain ⟨as, hr, hn⟩ := rpl_reads hk I sm rl h rv
    exact ⟨_, .tuple ho hc hd hr, hn⟩
  | _, _, _, _, .dic (ks := ks) (vs := vs) (ds := ds) q l rl, h, r => by
    cases ks with
    | cons _ _ => simp [toPd] at h
    | nil =>
      cases ds with
      | cons _ _ => simp [toPd] at h
      | nil =>
        simp only [toPd] at h
        cases h
        cases r
        obtain ⟨_, hm, vs', hkv, o, es, ep, ho, hex, hd, _, hpr, _⟩ := I.hok _ _ (sm _ _ q)
        cases vs with
        | cons _ _ => exact absurd l (by simp)
        | nil =>
          cases hkv
          have e0 : es.toList = [] := by
            generalize es.toList = l at hpr
            cases hpr
            rfl
          have ra : ReadsAll s.heap (es.toList.map fun x => x.key) (([] : List (PyData × PyData)).map fun x => x.1) [] := by
            rw [e0]
            exact .nil
          have rb : ReadsAll s.heap (es.toList.map fun x => x.val) (([] : List (PyData × PyData)).map fun x => x.2) [] := by
            rw [e0]
            exact .nil
          refine ⟨_, Reads.dict (kvs := []) ho hex.1 hd ra rb, fun hx => ?_⟩
          have hx := List.mem_singleton.mp hx
          rw [← hx] at hm
          simp at hm
  | _, _, _, _, .ins _ _ _ _, h, _ => by simp [toPd] at h
  | _, _, _, _, .frz _ _, h, _ => by simp [toPd] at h
  | _, _, _, _, .loc _, h, _ => by simp [toPd] at h
  | _, _, _, _, .cls _, h, _ => by simp [toPd] at h
  | _, _, _, _, .ty _, h, _ => by simp [toPd] at h
theorem rpl_reads (hk : ∃ mm, X.base.Ns sysModules mm) (I : Inv X pins σ H s) (sm : Same G H) : ∀ {vs : List V} {ds : List D} {ps : List PyData} {us : List Value}, RpL X.K mg G vs ds → toPdL ds = some ps → Vals vs us → ∃ as, ReadsAll s.heap us ps as ∧ sysModules ∉ as
  | _, _, _, _, .nil, h, r => by
    simp only [toPdL] at h
    cases h
    cases r
    exact ⟨_, .nil, by simp⟩
  | _, _, _, _, .cons (d := d) (ds := ds) a b, h, r => by
    simp only [toPdL] at h
    cases e1 : toPd d with
    | none => simp [e1] at h
    | some p =>
      cases e2 : toPdL ds with
      | none => simp [e1, e2] at h
      | some ps =>
        simp [e1, e2] at h
        subst h
        cases r with
        | cons r1 r2 =>
          obtain ⟨as, h1, n1⟩ := rp_reads hk I sm a e1 r1
          obtain ⟨bs, h2, n2⟩ := rpl_reads hk I sm b e2 r2
          exact ⟨_, .cons h1 h2, by simp only [List.mem_append, not_or]; exact ⟨n1, n2⟩⟩
end
end
def wRepr : WL := fun ds P => ∃ d p, ds = [d] ∧ toPd d = some p ∧ p.showable = true ∧ p.depth ≤ 60 ∧ p.shown.length ≤ sizeLine ∧ P (.str p.shown)
/-- repr by values: any datum -/
def rRepr (K : PySem.W.Frag) (mg : Str → Option Value) : List V → Hp → VK → Prop := fun vs H Q => ∃ (v : V) (d : D) (p : PyData) (G : Hp), vs = [v] ∧ Same G H ∧ Rp K mg G v d ∧ toPd d = some p ∧ p.showable = true ∧ p.depth ≤ 60 ∧ p.shown.length ≤ sizeLine ∧ Q (.str p.shown) H
section
variable {X : Cx}
theorem reprObj_any {pins : List (Addr × Obj)} {σ : Sig} {H : Hp} {s : Shared} {v : V} {u : Value} {d : D} {p : PyData} {G : Hp} {Q : Value → Shared → Prop} (hk : ∃ mm, X.base.Ns sysModules mm) (hg : X.A.guards = some []) (hu : X.A.units + 64 < cLine) (I : Inv X pins σ H s) (ru : RelV v u) (sm : Same G H) (r : Rp X.K X.mg G v d) (hp : toPd d = some p)
    (hs : p.showable = true) (hd : p.depth ≤ 60) (hz : p.shown.length ≤ sizeLine) (q : ∀ t s', Inv X pins σ H s' → Q (.str p.shown t) s') : wpAny (model X.prog X.w) X.A (pyReprObj u) Q X.xe s := by
  obtain ⟨as, rd, hn⟩ := rp_reads hk I sm r hp ru
  cases rd with
  | none => exact pyReprObj_none (q _ _ (I.tok _))
  | bool b => exact pyReprObj_bool (q _ _ (I.tok _))
  | int i t => exact pyReprObj_int (by simpa [PyData.showable] using hs) (q _ _ (I.tok _))
  | str x t => exact pyReprObj_str (q _ _ (I.tok _)) (by simpa [PyData.shown] using hz)
  | list a b c e =>
    exact pyReprObj_of_reads (.list a b c e) hs (fun _ => hn) hg (by omega) (fun _ _ h => h) (fun h' t tk k => q t _ (I.kept k)) hz
  | tuple a b c e =>
    exact pyReprObj_of_reads (.tuple a b c e) hs (fun _ => hn) hg (by omega) (fun _ _ h => h) (fun h' t tk k => q t _ (I.kept k)) hz
  | dict a b c e f =>
    exact pyReprObj_of_reads (.dict a b c e f) hs (fun _ => hn) hg (by omega) (fun _ _ h => h) (fun h' t tk k => q t _ (I.kept k)) hz
theorem cr_repr (hk : ∃ mm, X.base.Ns sysModules mm) (hg : X.A.guards = some []) (hu : X.A.units + 64 < cLine) : CallR X (.builtin "repr") (rRepr X.K X.mg) := by
  intro pins s σ H vs us Q I r h
  obtain ⟨v, d, p, G, rfl, sm, rd, hp, hs, hd, hz, q⟩ := h
  obtain ⟨u, rfl, ru⟩ := vals1 r
  obtain ⟨as, rr, hn⟩ := rp_reads hk I sm rd hp ru
  have fin : ∀ (t : Tok) (h' : Heap) (tk : Nat), (∀ b o, s.heap.get? b = some o → h'.get? b = some o) → EP X pins σ Q (.str p.shown t) { s with heap := h', toks := tk } := fun t h' tk k => ⟨.str p.shown, H, I.kept k, ⟨t, rfl⟩, q⟩
  cases rr with
  | none => exact P.repr_of_none (fin _ _ _ fun _ _ h => h)
  | bool b => exact P.repr_of_bool (fin _ _ _ fun _ _ h => h)
  | int i t => exact P.repr_of_int (by simpa [PyData.showable] using hs) (fin _ _ _ fun _ _ h => h)
  | str x t => exact P.repr_of_str (fin _ _ _ fun _ _ h => h) (by simpa [PyData.shown] using hz)
  | list a b c e => exact repr_of_reads' (.list a b c e) hs (fun _ => hn) hg (by omega) (fun _ _ h => h) (fun h' t tk k => fin t h' tk k) hz
  | tuple a b c e => exact repr_of_reads' (.tuple a b c e) hs (fun _ => hn) hg (by omega) (fun _ _ h => h) (fun h' t tk k => fin t h' tk k) hz
  | dict a b c e f => exact repr_of_reads' (.dict a b c e f) hs (fun _ => hn) hg (by omega) (fun _ _ h => h) (fun h' t tk k => fin t h' tk k) hz
theorem f_repr (hk : ∃ mm, X.base.Ns sysModules mm) (hg : X.A.guards = some []) (hu : X.A.units + 64 < cLine) : Fn1 X (.builtin "repr") (rRepr X.K X.mg) wRepr := by
  refine ⟨cr_repr hk hg hu, fun vs ds G H Q P r sm ⟨d, p, ed, h1, h2, h3, h4, h⟩ k => ?_⟩
  subst ed
  obtain ⟨v, rfl, r1⟩ := rpl1 r
  exact ⟨v, d, p, G, rfl, sm, r1, h1, h2, h3, h4, k _ _ G H h .refl (.str _)⟩
end
end DL

set_option Elab.async false
set_option linter.all false
set_option maxRecDepth 100000
set_option maxHeartbeats 1000000
namespace DL
open PySem PySem.Spec PyProof.Rows L2

/-! ### f-strings -/
section
variable {S : Type} {X : Cx} {Φ : S → Hp → Hp → Prop} {W : WX} [Frm Φ]
/-- {x!r} -/
def tShow (K : PySem.W.Frag) (mg : Str → Option Value) (te : TE) : TE := fun σ H Q => te σ H fun v H1 => ∃ (d : D) (p : PyData) (G : Hp), Same G H1 ∧ Rp K mg G v d ∧ toPd d = some p ∧ p.showable = true ∧ p.depth ≤ 60 ∧ p.shown.length ≤ sizeLine ∧ Q (.str p.shown) H1
def mShow (m : ME S) : ME S := fun ρ s P R => m ρ s (fun d s1 => ∃ p, toPd d = some p ∧ p.showable = true ∧ p.depth ≤ 60 ∧ p.shown.length ≤ sizeLine ∧ P (.str p.shown) s1) R
theorem de_show {e : Expr} {te : TE} {m : ME S} {pos : Pos} (hk : ∃ mm, X.base.Ns sysModules mm) (hg : X.A.guards = some []) (hu : X.A.units + 64 < cLine) (h : DE X Φ W e te m) : DE X Φ W (.FormattedValue e 114 none pos) (tShow X.K X.mg te) (mShow m) := by
  refine ⟨⟨fun pins s σ H Q I hh => ?_⟩, fun σ ρ s G H Q P R hρ f hW hm k => h.sem σ ρ s G H _ _ R hρ f hW hm fun d s1 v G1 H1 ⟨p, h1, h2, h3, h4, h5⟩ e1 f1 r1 => ⟨d, p, G1, Frm.same f1, r1, h1, h2, h3, h4, k _ s1 _ G1 H1 h5 e1 f1 (.str _)⟩⟩
  refine wpAny_FormattedValue_repr (thn (h.pe.run pins s σ H _ I hh) fun u s1 ⟨v, H1, I1, rv, d, p, G, sm, rd, hp, hs, hd, hz, q⟩ => ?_)
  refine reprObj_any hk hg hu I1 rv sm rd hp hs hd hz fun t s' I' => ?_
  exact wpAny_formatField_str ⟨.str p.shown, H1, I', ⟨_, rfl⟩, q⟩ ⟨.str p.shown, H1, I'.tok _, ⟨_, rfl⟩, q⟩ hz
inductive DJ (X : Cx) (Φ : S → Hp → Hp → Prop) (W : WX) : List Expr → List TE → List (ME S) → Prop
  | nil : DJ X Φ W [] [] []
  | cons {e : Expr} {te : TE} {m : ME S} {es : List Expr} {ts : List TE} {ms : List (ME S)} : DE X Φ W e te m → DJ X Φ W es ts ms → DJ X Φ W (e :: es) (te :: ts) (m :: ms)
theorem DJ.pj {es : List Expr} {ts : List TE} {ms : List (ME S)} (h : DJ X Φ W es ts ms) : PJ X es ts := by
  induction h with
  | nil => exact .nil
  | cons a _ ih => exact .cons a.pe ih
def mJs : List (ME S) → Str → Rho → S → (Str → S → Prop) → (Exn → S → Prop) → Prop
  | [], acc, _, s, P, _ => P acc s
  | m :: ms, acc, ρ, s, P, R => m ρ s (fun d s1 => ∃ y, d = .str y ∧ (acc ++ y).length ≤ sizeLine ∧ mJs ms (acc ++ y) ρ s1 P R) R
theorem js_sem {es : List Expr} {ts : List TE} {ms : List (ME S)} (h : DJ X Φ W es ts ms) : ∀ (acc : Str) (σ : Sig) (ρ : Rho) (s : S) (G H : Hp) (Q : Str → Hp → Prop) (P : Str → S → Prop) (R : Exn → S → Prop), RelE X.K X.mg G σ ρ → Φ s G H → Wsh X.K X.mg Φ W G σ R → mJs ms acc ρ s P R →
    (∀ (y : Str) (s' : S) (G' H' : Hp), P y s' → Same G G' → Φ s' G' H' → Q y H') → tJs ts acc σ H Q := by
  induction h with
  | nil => exact fun acc σ ρ s G H Q P R hρ f hW h k => k acc s G H h (Same.refl _) f
  | cons a _ ih =>
    intro acc σ ρ s G H Q P R hρ f hW h k
    refine a.sem σ ρ s G H _ _ R hρ f hW h fun d s1 v G1 H1 ⟨y, ed, hl, h1⟩ e1 f1 r1 => ?_
    subst ed
    cases r1
    exact ⟨y, rfl, hl, ih _ σ ρ s1 G1 H1 Q P R (hρ.mono e1) f1 (hW.mono e1) h1 fun z s' G' H' p q => k z s' G' H' p (e1.trans q)⟩
def mJoin (ms : List (ME S)) : ME S := fun ρ s P R => mJs ms Str.empty ρ s (fun y s1 => P (.str y) s1) R
theorem de_join {v1 v2 : Expr} {rest : List Expr} {ts : List TE} {ms : List (ME S)} {pos : Pos} (h : DJ X Φ W (v1 :: v2 :: rest) ts ms) : DE X Φ W (.JoinedStr (v1 :: v2 :: rest) pos) (fun σ H Q => tJs ts Str.empty σ H fun out H1 => Q (.str out) H1) (mJoin ms) :=
  ⟨pe_joined h.pj, fun σ ρ s G H Q P R hρ f hW hm k => js_sem h Str.empty σ ρ s G H _ _ R hρ f hW hm fun y s' G' H' p q f' => k _ s' _ G' H' p q f' (.str y)⟩
end

section
variable {X : Cx} {Φ : OH → Hp → Hp → Prop} {W : WX} [FΦ : OFrm X.K X.mg Φ]
/-! ### one's own lists -/
def mLstO (n : MA OH) : ME OH := fun ρ O P R => n ρ O (fun ds O1 => ds.length ≤ sizeLine ∧ ∀ p, O1 p = none → P (.loc p) (O1.put p (.lst ds))) R
include FΦ in
theorem own_free {O : OH} {G H : Hp} {p : Addr} (f : Φ O G H) (n : H p = none) : O p = none := by
  cases z : O p with
  | none => rfl
  | some y =>
    obtain ⟨_, o, q, _⟩ := FΦ.own f z
    rw [n] at q
    cases q
theorem de_lstO {es : List Expr} {ta : TA} {n : MA OH} {pos : Pos} (h : DA X Φ W es ta n) : DE X Φ W (.List es pos) (tLst ta) (mLstO n) :=
  ⟨pe_lst h.pa, fun σ ρ s G H Q P R hρ f hW hm k => h.sem σ ρ s G H _ _ R hρ f hW hm fun ds s1 vs G1 H1 ⟨hl, h1⟩ e1 f1 r1 =>
    ⟨by rw [r1.len]; exact hl, fun p np => k _ _ _ G1 _ (h1 p (own_free (X := X) f1 np)) e1 (FΦ.new f1 np (.lst r1)) (.loc p)⟩⟩
/-- one's own object, handed on as a tree -/
def mFrz (m : ME OH) : ME OH := fun ρ O P R => m ρ O (fun x O1 => ∃ a y, x = .loc a ∧ O1 a = some y ∧ P y.tree (O1.del a)) R
theorem de_frz {e : Expr} {te : TE} {m : ME OH} (h : DE X Φ W e te m) : DE X Φ W e te (mFrz m) :=
  ⟨h.pe, fun σ ρ s G H Q P R hρ f hW hm k => h.sem σ ρ s G H _ _ R hρ f hW hm fun d s1 v G1 H1 ⟨a, y, ed, oa, p⟩ e1 f1 r1 => by
    subst ed
    cases r1
    obtain ⟨G2, e2, f2, r2⟩ := FΦ.frz f1 oa
    exact k _ _ _ G2 H1 p (e1.trans e2) f2 r2⟩
/-- xs.append(e) -/
def mApp (m : ME OH) (n : ME OH) : ME OH := fun ρ O P R => m ρ O (fun x O1 => ∃ a, x = .loc a ∧ (∃ ds, O1 a = some (.lst ds)) ∧ n ρ O1 (fun y O2 => ∃ ds, O2 a = some (.lst ds) ∧ ds.length < sizeLine ∧ P .non (O2.put a (.lst (ds ++ [y])))) R) R
theorem de_app {o e : Expr} {te tv : TE} {m n : ME OH} {apos pos : Pos} (h : DE X Φ W o te m) (h' : DE X Φ W e tv n) (hp : PE X (.Call (.Attribute o "append" apos) [e] [] pos) (tBM X.K "list" rAppend te (tCons tv tNil))) :
    DE X Φ W (.Call (.Attribute o "append" apos) [e] [] pos) (tBM X.K "list" rAppend te (tCons tv tNil)) (mApp m n) :=
  ⟨hp, fun σ ρ s G H Q P R hρ f hW hm k => h.sem σ ρ s G H _ _ R hρ f hW hm fun x s1 v G1 H1 ⟨a, ex, ⟨ds0, oa⟩, h1⟩ e1 f1 r1 => by
    subst ex
    cases r1
    obtain ⟨_, o, ho, ro⟩ := FΦ.own f1 oa
    cases ro
    refine ⟨.inl ⟨rfl, _, SqL.of ho⟩, ?_⟩
    refine h'.sem σ ρ s1 G1 H1 _ _ R (hρ.mono e1) f1 (hW.mono e1) h1 fun y s2 u G2 H2 ⟨ds, ob, hl, p⟩ e2 f2 r2 => ?_
    obtain ⟨_, o2, ho2, ro2⟩ := FΦ.own f2 ob
    cases ro2 with
    | lst rl => exact ⟨a, _, u, rfl, rfl, ho2, by rw [rl.len]; exact hl, k _ _ _ G2 _ p (e1.trans e2) (FΦ.put f2 ob (.lst (rl.app (.cons r2 .nil)))) .non⟩⟩
theorem de_appD {o e : Expr} {te tv : TE} {m n : ME OH} {apos pos : Pos} (h : DE X Φ W o te m) (h' : DE X Φ W e tv n)
    (h1 : attributeBase o "append" X.env (eval o X.env) = eval o X.env := by rfl)
    (h2 : ((backTo pos (starEach [e] X.env)).all (fun x => !x.1) && (backToKw pos (keywordEach [] X.env)).all (fun x => x.1.isSome) && decide ([e].length + ([] : List Keyword).length + (if ([] : List Keyword).isEmpty then 0 else 1) < 30)) = true := by rfl)
    (h3 : (apos.endLine == pos.line) = true := by rfl) (h4 : starEach [e] X.env = (false, eval e X.env) :: starEach [] X.env := by rfl) (h5 : (backTo pos (starEach [] X.env)).any (·.1) = false := by rfl) :
    DE X Φ W (.Call (.Attribute o "append" apos) [e] [] pos) (tBM X.K "list" rAppend te (tCons tv tNil)) (mApp m n) :=
  de_app h h' (pe_bm PySem.F.plainAttrs_list PySem.F.slot_list_append PySem.F.type_list_append mt_append h.pe (pa_cons h'.pe pa_nil h4) h1 h2 h3 h4 h5)
/-- xs[i] of one's own list -/
def mIxO (m n : ME OH) : ME OH := fun ρ O P R => m ρ O (fun x O1 => n ρ O1 (fun y O2 => ∃ a i ds d, x = .loc a ∧ y = .int i ∧ O2 a = some (.lst ds) ∧ atI ds i = some d ∧ P d O2) R) R
theorem de_ixO {a b : Expr} {te tb : TE} {ma mb : ME OH} {pos : Pos} (ha : DE X Φ W a te ma) (hb : DE X Φ W b tb mb) (hs : PlainIx b := by exact fun _ _ => rfl) : DE X Φ W (.Subscript a b pos) (tOp (rIxL X.K) te tb) (mIxO ma mb) :=
  ⟨pe_ix ix_list ha.pe hb.pe hs, fun σ ρ s G H Q P R hρ f hW h k => by
    refine ha.sem σ ρ s G H _ _ R hρ f hW h fun x s1 u G1 H1 h1 e1 f1 r1 => ?_
    refine hb.sem σ ρ s1 G1 H1 _ _ R (hρ.mono e1) f1 (hW.mono e1) h1 fun y s2 v G2 H2 ⟨c, i, ds, d, ex, ey, oc, hi, p⟩ e2 f2 r2 => ?_
    subst ex ey
    cases r1
    cases r2
    obtain ⟨_, o, ho, ro⟩ := FΦ.own f2 oc
    cases ro with
    | lst rl =>
      obtain ⟨z, hz, rz⟩ := rp_at rl hi
      exact ⟨c, _, i, z, rfl, rfl, SqL.of ho, hz, k d s2 z G2 H2 p (e1.trans e2) f2 rz⟩⟩
/-- xs[i] = e -/
def gSubO (m n : ME OH) : MG OH := fun d ρ O P => m ρ O (fun x O1 => n ρ O1 (fun y O2 => ∃ a i ds j, x = .loc a ∧ y = .int i ∧ O2 a = some (.lst ds) ∧ ixN ds.length i = some j ∧ P ρ (O2.put a (.lst (ds.set j d)))) R0) R0
theorem rpl_set {K : PySem.W.Frag} {mg : Str → Option Value} {G : Hp} {v : V} {d : D} (r : Rp K mg G v d) : ∀ {vs : List V} {ds : List D} (j : Nat), RpL K mg G vs ds → RpL K mg G (vs.set j v) (ds.set j d)
  | _, _, _, .nil => .nil
  | _, _, 0, .cons _ b => .cons r b
  | _, _, j + 1, .cons a b => .cons a (rpl_set r j b)
theorem dg_subO {o i : Expr} {to ti : TE} {m n : ME OH} {pos : Pos} (ho : DE X Φ W0 o to m) (hi : DE X Φ W0 i ti n)
    (ha : ∀ v, assign (.Subscript o i pos) X.env v = (do
      let ov ← holding [v] (eval o X.env)
      let iv ← holding [v, ov] (eval i X.env)
      standAt pos
      holding [v, ov, iv] (setItem ov iv v)
      release [v, ov, iv] []) := by intro _; rfl) : DG X Φ (.Subscript o i pos) (gSub to ti rSetL) (gSubO m n) [] :=
  ⟨pg_sub ho.pe hi.pe set_list ha, fun σ ρ s G H v d Q P hρ f r h k => by
    refine ho.sem σ ρ s G H _ _ R0 hρ f (fun _ _ _ _ _ _ _ _ _ z => z.elim) h fun x s1 u G1 H1 h1 e1 f1 r1 => ?_
    refine hi.sem σ ρ s1 G1 H1 _ _ R0 (hρ.mono e1) f1 (fun _ _ _ _ _ _ _ _ _ z => z.elim) h1 fun y s2 z G2 H2 ⟨a, i, ds, j, ex, ey, oa, hj, p⟩ e2 f2 r2 => ?_
    subst ex ey
    cases r1
    cases r2
    obtain ⟨_, o, hob, ro⟩ := FΦ.own f2 oa
    cases ro with
    | lst rl => exact ⟨a, _, i, j, rfl, rfl, hob, by rw [rl.len]; exact hj, k σ ρ _ G2 _ p (e1.trans e2) ((hρ.mono e1).mono e2) (FΦ.put f2 oa (.lst (rpl_set ((r.mono e1).mono e2) j rl))) fun _ _ => rfl⟩⟩
/-! ### properties -/
theorem pe_propG {k : Nat} {C p g : Addr} {f : Str} {fd : FuncData} {ps : List Str} {sp : Sp} {e : Expr} {pos : Pos} {ta : TE} (he : PE X e ta) (c : Cls X.K C) (hp : PropOf X.K C f p g) (F : FnS X.prog X.w X.K X.mg X.base k g fd ps sp) (hr : Rm (k + 1) X) (hb : Binds X.K fd ps [])
    (hab : attributeBase e f X.env (eval e X.env) = eval e X.env) : PE X (.Attribute e f pos) (fun σ H Q => ta σ H fun x H1 => ∃ a dx fs, x = .ref a ∧ H1 a = some (.ins C dx fs) ∧ sp [.ref a] H1 Q E0) := by
  refine ⟨fun pins s σ H Q I h => attr_of hab (thn (he.run pins s σ H _ I h) fun u s1 ⟨x, H1, I1, rx, a, dx, fs, ex, ea, q⟩ => ?_)⟩
  subst ex
  cases (show u = Value.ref a from rx)
  obtain ⟨mA, O, _⟩ := ins_get I1.hok ea
  obtain ⟨od, J, _⟩ := O.look
  obtain ⟨rest, hrec⟩ := hp.rec_
  have I2 := I1.tok (s1.toks + 1)
  have hl : ([Value.ref a] ++ []).length = ps.length := (F.len _ _ _ _ q)
  have hc : (PySem.W.clsIn X.K C).isSome = true := by
    obtain ⟨cd, hc, _⟩ := PySem.W.any_some c.hd
    rw [hc]
    rfl
  have go := F.run X.A.in1 X.stack { s1 with toks := s1.toks + 1 } H1 ⟨[.ref a], []⟩ [.ref a] [.ref a] Q E0 hr.room.in1 hr.gd I2.env0.in1 (hb _ [.ref a] I2.kIn hl) (.cons rfl .nil) q
  refine PySem.W.get_bind I1.kIn J (PySem.W.plainGet_of (c.get f)).1 (PySem.W.findObj_data hc hp.at_ hp.get hp.tak) (PySem.W.plainGet_of (c.get f)).2 (wpAny_call (PySem.W.prop_get (s := { s1 with toks := s1.toks + 1 }) I1.kIn hrec (codeAny_mono go fun r s' hq => ?_)))
  match r, hq with
  | .error er, hq => exact (passL (X := X.nox) pins σ H1 { s1 with toks := s1.toks + 1 } er s' (I2.wish _) hq).elim
  | .ok (.ret u), hq =>
    obtain ⟨v, H', I3, rv, q3⟩ := I2.after hq
    show wpAny _ _ (handedOut u) _ _ _
    rw [PySem.W.handedOut_of (handed_of rv)]
    exact wpAny_pure ⟨v, H', I3, rv, q3⟩
  | .ok .next, hq => exact hq.elim
  | .ok .brk, hq => exact hq.elim
  | .ok .cont, hq => exact hq.elim
def mProp (C : Str) (g : WF) (m : ME OH) : ME OH := fun ρ O P R => m ρ O (fun x O1 => ∃ ns ds, x = .ins C ns ds ∧ g [x] O1 P R0) R
theorem de_prop {k : Nat} {C p q : Addr} {Cn f : Str} {fd : FuncData} {n : Str} {g : WF} {e : Expr} {pos : Pos} {te : TE} {m : ME OH} (h : DE X Φ W e te m) (c : Cls X.K C) (hC : X.mg Cn = some (.ref C)) (hp : PropOf X.K C f p q) (F : FnG X.prog X.w X.K X.mg X.base k q fd [n] g) (hr : Rm (k + 1) X) (hb : Binds X.K fd [n] [])
    (hab : attributeBase e f X.env (eval e X.env) = eval e X.env := by rfl) : DE X Φ W (.Attribute e f pos) (fun σ H Q => te σ H fun x H1 => ∃ a dx fs, x = .ref a ∧ H1 a = some (.ins C dx fs) ∧ spO X.K X.mg 1 g [.ref a] H1 Q E0) (mProp Cn g m) :=
  ⟨pe_propG h.pe c hp F hr hb hab, fun σ ρ s G H Q P R hρ f hW hm k => h.sem σ ρ s G H _ _ R hρ f hW hm fun x s1 v G1 H1 ⟨ns, ds, ex, h1⟩ e1 f1 r1 => by
    subst ex
    have r2 := r1
    cases r1 with
    | ins mC hG hl rl =>
      rw [hC] at mC
      cases mC
      exact ⟨_, _, _, rfl, Frm.same f1 _ _ hG, spO_of f1 (.cons r2 .nil) rfl h1 (fun d s' v G' H' p q => k d s' v G' H' p (e1.trans q)) fun _ _ _ _ _ _ _ _ _ z => z.elim⟩⟩
end
end DL

set_option Elab.async false
set_option linter.all false
set_option maxRecDepth 100000
set_option maxHeartbeats 2000000
namespace DL
open PySem PySem.Spec PyProof.Rows L2

/-! ### raise C(e): C an own class over ValueError whose __init__ stores its one argument -/
def spXI (C : Addr) (fld : Str) : Sp := fun vs H Q _ => ∃ (a : Addr) (y : V), vs = [.ref a, y] ∧ H a = some (exo a C none) ∧ ∀ dx, H dx = none → dx ≠ a → Q .non (upd (upd H dx (exd dx [(fld, y)])) a (exo a C (some dx)))
section
variable {P : Program} {w : World} {K : PySem.W.Frag} {mg : Str → Option Value} {base : Heap}
theorem ok_xinit {x qual fld ar : Str} {st : Stmt} {f C : Addr} {fd : FuncData} (F : Fun K x qual st f fd) (Sc : FnScope [("self" : Str), ar] [("self" : Str), ar] (defScope st)) (T : OexC K C) (no : PySem.W.findIn K (.ref C) fld = some none)
    (hb : ∀ X : Cx, X.K = K → X.N = [("self" : Str), ar] → X.env.scope = defScope st → ∃ to te : TE, PSs X (defBody st) (tOst K fld to te) ∧ (∀ (u y : V) (H : Hp) (Q : VK), Q y H → te [some u, some y] H Q) ∧ ∀ (u y : V) (H : Hp) (Q : VK), Q u H → to [some u, some y] H Q) :
    FnOk P w K mg base CX0 1 f fd [("self" : Str), ar] (spXI C fld) := by
  refine F.ok Sc (fun vs H Q E h => ?_) fun cdv A outer s H vs Q E hr h => ?_
  · obtain ⟨a, y, rfl, _⟩ := h
    rfl
  · obtain ⟨a, y, rfl, ea, k⟩ := h
    obtain ⟨to, te, hp, h1, h2⟩ := hb (cxOf CX0 P w K mg base [("self" : Str), ar] qual (defScope st) f cdv A outer s H E).nox rfl rfl rfl
    exact ⟨_, hp, h1 _ _ _ _ (h2 _ _ _ _ ⟨a, C, rfl, T, no, .inl ⟨ea, fun dx n ne => k dx n ne⟩⟩)⟩
end
section
variable {X : Cx} {Φ : OH → Hp → Hp → Prop} {W : WX} [FΦ : OFrm X.K X.mg Φ]
def sRaise (C fld : Str) (n : MA OH) : MS OH := fun M ρ O => n ρ O (fun ds O1 => ∃ d, ds = [d] ∧ M.ex ⟨C, some ([fld], [d])⟩ ρ O1) (fun x O1 => M.ex x ρ O1)
theorem exo_end {H : Hp} {a dx : Addr} {u v : HO} {o : HO} (na : H a = none) (nd : dx ≠ a) : upd (L2.del (upd (upd (upd H a u) dx v) a o) a) dx (.xd [(fld, y)]) = upd H dx (.xd [(fld, y)]) := by
  funext b
  by_cases e : b = dx
  · subst e
    rw [upd_same, upd_same]
  · rw [upd_ne e, upd_ne e]
    by_cases e2 : b = a
    · subst e2
      rw [del_same, na]
    · rw [del_ne e2, upd_ne e2, upd_ne e, upd_ne e2]
theorem ds_raise {C fI : Addr} {x fld ar : Str} {fd : FuncData} {e : Expr} {ta : TA} {n : MA OH} {p pos pos2 : Pos} (T : OexC X.K C) (iC : PySem.W.findIn X.K (.ref C) "__init__" = some (some (.ref fI))) (tI : PySem.W.typeIn X.K (.ref fI) = some (.type "function"))
    (F : FnOk X.prog X.w X.K X.mg X.base CX0 1 fI fd [("self" : Str), ar] (spXI C fld)) (hr : Rm 2 X) (hb : Binds X.K fd [("self" : Str), ar] []) (hg : Gl X x) (hm : X.mg x = some (.ref C)) (hc : X.calm = true) (tk : Takes X W) (ha : DA X Φ W [e] ta n)
    (hdb : (x == ("__debug__" : Str)) = false := by decide) (he : starEach [e] X.env = (false, eval e X.env) :: starEach [] X.env := by rfl) (hpl : (backTo pos (starEach [] X.env)).any (·.1) = false := by rfl) :
    DS X Φ W (.Raise (some (.Call (.Name x p) [e] [] pos)) none pos2) (fun _ σ H => tMkO C (spXI C fld) [] ta σ H fun cls d H' => W cls d σ H') (sRaise x fld n) := by
  refine ⟨ps_raise hc tk (pmk_oex T iC tI F hr.room hb .nil pass0 hg hm ha.pa hdb he hpl), fun σ ρ s G H D M hρ f hmm E => ?_⟩
  refine ha.sem σ ρ s G H _ _ _ hρ f (E.wsh hρ) hmm fun ds s1 vs G1 H1 ⟨d, ed, h1⟩ e1 f1 r1 => ?_
  subst ed
  obtain ⟨v, rfl, rv⟩ := rpl1 r1
  refine ⟨by show 1 ≤ 1000; decide, fun a na => ⟨a, v, rfl, upd_same, fun dx ndx ne => ⟨rfl, dx, [(fld, v)], upd_same, ?_, ?_, ?_⟩⟩⟩
  · rw [upd_ne ne, upd_same]
  · rw [upd_ne ne] at ndx
    exact ndx
  · have nd1 : H1 dx = none := by
      rw [upd_ne ne] at ndx
      exact ndx
    rw [exo_end na ne]
    have sg := same_new (o := HO.xd [(fld, v)]) ((Frm.same f1).free nd1)
    exact E.ex ⟨x, some ([fld], [d])⟩ σ ρ s1 _ _ (.ref C) (some dx) h1 (e1.trans sg) ((hρ.mono e1).mono sg) (Frm.ext f1 nd1) ⟨hm, dx, [v], rfl, upd_same, rfl, .cons (rv.mono sg) .nil⟩
/-! ### try: .. except C as n: .. -/
/-- within the suite: the error that it holds -/
def ExF (K : PySem.W.Frag) (mg : Str → Option Value) (Φ : OH → Hp → Hp → Prop) (cls : Value) (d : Option Addr) (x : Exn) : OH → Hp → Hp → Prop := fun O G H => Φ O G H ∧ ExR K mg G cls d x
instance {K : PySem.W.Frag} {mg : Str → Option Value} {Φ : OH → Hp → Hp → Prop} [F : OFrm K mg Φ] {cls : Value} {d : Option Addr} {x : Exn} : OFrm K mg (ExF K mg Φ cls d x) where
  same := fun h => F.same h.1
  ext := fun h n => ⟨F.ext h.1 n, h.2.mono (same_new ((F.same h.1).free n))⟩
  own := fun h o => F.own h.1 o
  new := fun h n r => ⟨F.new h.1 n r, h.2⟩
  put := fun h o r => ⟨F.put h.1 o r, h.2⟩
  frz := fun h o => by
    obtain ⟨G', s, p, r⟩ := F.frz h.1 o
    exact ⟨G', s, ⟨p, h.2.mono s⟩, r⟩
  less := fun h l => ⟨F.less h.1 l, h.2⟩
def sTry (cl : Exn → Option Bool) (i : Nat) (mb : MS OH) (ms : Addr → Exn → MS OH) : MS OH := fun M ρ O =>
  mb { M with ex := fun x ρ' O' => ∃ b, cl x = some b ∧ (b = true → ∀ a, ms a x { nx := fun ρ2 O2 => M.nx (ρ2.set i none) O2, rt := M.rt, bk := fun ρ2 O2 => M.bk (ρ2.set i none) O2, ct := fun ρ2 O2 => M.ct (ρ2.set i none) O2, ex := fun _ _ _ => False } (ρ'.set i (some (.loc a))) O') ∧ (b = false → M.ex x ρ' O') } ρ O
theorem ds_try {x n : Str} {c : Value} {cl : Exn → Option Bool} {i : Nat} {body suite : List Stmt} {b₀ : Stmt} {np pos pos' : Pos} {tb : WX → TS} {ts : Addr → Value → Option Addr → TS} {mb : MS OH} {ms : Addr → Exn → MS OH}
    (hs : X.stack = X.env :: X.outer) (hf : X.env.frame = some X.env.locals) (hN : X.N.Nodup) (hi : X.N[i]? = some n) (hln : X.env.kindOf n = some .local) (hc : Names X x c) (tk : Takes X W)
    (hcl : ∀ (x : Exn) (b : Bool) (cls : Value), X.mg x.cls = some cls → cl x = some b → PySem.W.exmOne X.K cls c = some b)
    (hb : ∀ (W' : WX) (pn : List (Addr × Obj)) (xe : Value → Shared → Prop), Takes (X.tr pn xe) W' → PassesOwn (model X.prog X.w) X.A X.env xe → DSs (X.tr pn xe) Φ W' body (tb W') mb)
    (hsu : ∀ (a : Addr) (oe : Obj) (cls : Value) (d : Option Addr) (pn : List (Addr × Obj)) (x : Exn), Zc cls d oe → (∃ vs, oe.data = .fields vs) → DSs (X.suite a ((a, oe) :: pn)) (ExF X.K X.mg Φ cls d x) W0 (b₀ :: suite) (ts a cls d) (ms a x)) :
    DS X Φ W (.Try body [.ExceptHandler (some (.Name x np)) (some n) (b₀ :: suite) pos'] [] [] pos) (fun D σ H => tb (wAs X.K c i ts W D) D σ H) (sTry cl i mb ms) := by
  refine ⟨ps_try_as hs hf hN hi hln hc tk (fun W' pn xe t p => (hb W' pn xe t p).pss) (fun a oe cls d pn hz hd => (hsu a oe cls d pn ⟨x, none⟩ hz hd).pss), fun σ ρ s G H D M hρ f hm E => ?_⟩
  have tk0 : Takes (X.tr [] fun e s₁ => wpAny (model X.prog X.w) X.A (noteFrame e X.env) (fun _ s₂ => wpAny (model X.prog X.w) X.A (setFlight e none) (fun _ _ => True) (fun _ _ => True) s₂) (fun _ _ => True) s₁) (wAs X.K c i ts W D) := by
    intro u s' ⟨a, B, sI, pins, σ', H', cls, d, eu, J, nb, up, sky, rest⟩
    subst eu
    have hfr : X.A.frames = some (X.env :: X.outer) := (show X.A.frames = some X.stack from J.ok.frames).trans (by rw [hs])
    have sky' : Sky B (X.env :: X.outer) a (Zc cls d) X.env.locals s'.heap := by
      rw [← hs]
      exact sky
    exact Sky.land (Q := fun _ _ => True) Zc.steady hfr hf sky' fun _ _ _ => trivial
  refine (hb (wAs X.K c i ts W D) [] _ tk0 PassesOwn.looking).sem σ ρ s G H D _ hρ f hm ⟨E.nx, E.rt, E.bk, E.ct, fun z σ1 ρ1 O1 G1 H1 cls d ⟨b, hb1, hyes, hno⟩ e1 r1 f1 xr => ?_⟩
  refine ⟨b, hcl z b cls xr.1 hb1, fun e a na => ?_, fun e => E.ex z σ1 ρ1 O1 G1 H1 cls d (hno e) e1 r1 f1 xr⟩
  have su := hsu a ⟨cls, d, .fields #[], #[]⟩ cls d [] z ⟨rfl, rfl⟩ ⟨_, rfl⟩
  exact su.sem _ _ O1 G1 H1 _ _ (r1.set i (.loc a)) ⟨f1, xr⟩ (hyes e a)
    ⟨fun σ2 ρ2 O2 G2 H2 p e2 r2 f2 => E.nx _ _ O2 G2 H2 p (e1.trans e2) (r2.drop i none) f2.1, fun d O2 v G2 H2 p e2 f2 => E.rt d O2 v G2 H2 p (e1.trans e2) f2.1,
      fun σ2 ρ2 O2 G2 H2 p e2 r2 f2 => E.bk _ _ O2 G2 H2 p (e1.trans e2) (r2.drop i none) f2.1, fun σ2 ρ2 O2 G2 H2 p e2 r2 f2 => E.ct _ _ O2 G2 H2 p (e1.trans e2) (r2.drop i none) f2.1, fun _ _ _ _ _ _ _ _ p => p.elim⟩
/-- a body's reading as its need -/
def cS (K : PySem.W.Frag) (mg : Str → Option Value) (Φ : OH → Hp → Hp → Prop) (W : WX) (m : MS OH) : TS := fun D σ H => ∃ (ρ : Rho) (O : OH) (G : Hp) (M : MEnds OH), RelE K mg G σ ρ ∧ Φ O G H ∧ m M ρ O ∧ EndsOk Φ W K mg G M D
def cSx (K : PySem.W.Frag) (mg : Str → Option Value) (Φ : OH → Hp → Hp → Prop) (ms : Addr → Exn → MS OH) (a : Addr) (cls : Value) (d : Option Addr) : TS := fun D σ H => ∃ x, cS K mg (ExF K mg Φ cls d x) W0 (ms a x) D σ H
theorem ds_tryE {x n : Str} {c : Value} {cl : Exn → Option Bool} {i : Nat} {body suite : List Stmt} {b₀ : Stmt} {np pos pos' : Pos} {mb : MS OH} {ms : Addr → Exn → MS OH}
    (hs : X.stack = X.env :: X.outer) (hf : X.env.frame = some X.env.locals) (hN : X.N.Nodup) (hi : X.N[i]? = some n) (hln : X.env.kindOf n = some .local) (hc : Names X x c) (tk : Takes X W)
    (hcl : ∀ (x : Exn) (b : Bool) (cls : Value), X.mg x.cls = some cls → cl x = some b → PySem.W.exmOne X.K cls c = some b)
    (hb : ∀ (W' : WX) (pn : List (Addr × Obj)) (xe : Value → Shared → Prop), Takes (X.tr pn xe) W' → PassesOwn (model X.prog X.w) X.A X.env xe → ∃ tb, DSs (X.tr pn xe) Φ W' body tb mb)
    (hsu : ∀ (a : Addr) (oe : Obj) (cls : Value) (d : Option Addr) (pn : List (Addr × Obj)) (x : Exn), Zc cls d oe → (∃ vs, oe.data = .fields vs) → ∃ ts, DSs (X.suite a ((a, oe) :: pn)) (ExF X.K X.mg Φ cls d x) W0 (b₀ :: suite) ts (ms a x)) :
    DS X Φ W (.Try body [.ExceptHandler (some (.Name x np)) (some n) (b₀ :: suite) pos'] [] [] pos) (fun D σ H => cS X.K X.mg Φ (wAs X.K c i (cSx X.K X.mg Φ ms) W D) mb D σ H) (sTry cl i mb ms) := by
  refine ds_try (tb := fun W' => cS X.K X.mg Φ W' mb) (ts := cSx X.K X.mg Φ ms) hs hf hN hi hln hc tk hcl (fun W' pn xe t p => ?_) (fun a oe cls d pn x hz hd => ?_)
  · obtain ⟨tb, h⟩ := hb W' pn xe t p
    exact ⟨⟨fun pins s σ H D I ⟨ρ, O, G, M, r, f, hm, E⟩ => h.pss.run pins s σ H D I (h.sem σ ρ O G H D M r f hm E)⟩, fun σ ρ O G H D M r f hm E => ⟨ρ, O, G, M, r, f, hm, E⟩⟩
  · refine ⟨⟨fun pins s σ H D I ⟨x, ρ, O, G, M, r, f, hm, E⟩ => ?_⟩, fun σ ρ O G H D M r f hm E => ⟨x, ρ, O, G, M, r, f, hm, E⟩⟩
    obtain ⟨ts, h⟩ := hsu a oe cls d pn x hz hd
    exact h.pss.run pins s σ H D I (h.sem σ ρ O G H D M r f hm E)
end
end DL

set_option Elab.async false
set_option linter.all false
set_option maxRecDepth 100000
set_option maxHeartbeats 2000000
namespace DL
open PySem PySem.Spec PyProof.Rows L2

end DL
namespace PySem.W
open PySem PySem.Spec PySem.Calls PyProof.Rows
section
variable {prog : Program} {w : World} {A : Around} {E : Value → Shared → Prop} {s : Shared} {K : Frag} {x D : Addr} {ox od : Obj}
/-- an error's class, read off the error: also where it has fields -/
theorem dl_classE {Q : Option Value → Shared → Prop} (hga : findIn K (.ref D) "__getattribute__" = some (some (.builtin "BaseException.__getattribute__"))) (hgt : findIn K (.ref D) "__getattr__" = some none) (hsub : subIn K (.ref D) (.type "BaseException") = some true) (hdct : hasDictIn K D = true)
    (ha : findIn K (.ref D) "__class__" = some (some (.builtin "object.__class__"))) (hn : specialIn K (.builtin "object.__class__") "__get__" = some (some (.builtin "getset_descriptor.__get__"))) (htk : takesIn K (.builtin "object.__class__") = some true) (hm : mroIn K D (.type "object") = some true)
    (X : K.In s.heap) (I : InstAt s.heap x ox D (some od)) (h : Q (some (.ref D)) { s with toks := s.toks + 1 }) : wpAny (model prog w) A (getAttr? (.ref x) "__class__") Q E s := by
  have hc : (clsIn K D).isSome = true := by
    obtain ⟨cd, hc, _⟩ := any_some hdct
    rw [hc]
    rfl
  have hf : findObj K D (some od) "__class__" = some (.bind (.builtin "getset_descriptor.__get__") (.builtin "object.__class__")) := findObj_data hc ha hn htk
  obtain ⟨hp, g, d, t, os⟩ := s
  have La := I.type (M := model prog w)
  have Lb := looks_findIn (M := model prog w) X hga
  have Lc := looks_findIn (M := model prog w) X hgt
  have Ld := looks_find (M := model prog w) X I hf
  have isB : Looks (model prog w) hp (isInstance (.ref x) (.type "BaseException")) true := La.andThen (looks_subIn X hsub)
  have u2 : (Value.builtin "BaseException.__getattribute__" == Value.builtin "object.__getattribute__") = false := by decide +kernel
  have u1 : (onTheHeap (Value.ref D) && Value.builtin "BaseException.__getattribute__" == Value.builtin "object.__getattribute__") = false := by rw [u2] <;> rfl
  unfold getAttr? getAttrBy? getAttrBy
  refine wpAny_bind (wpAny_mkText (wpAny_bind (wpAny_attempt (wpAny_holding (wpAny_bind (La.at (wpAny_bind (Lb.at ?_))))))))
  show wpAny _ _ (if (onTheHeap (Value.ref D) && Value.builtin "BaseException.__getattribute__" == Value.builtin "object.__getattribute__") = true then _ else _) _ _ _
  rw [u1, if_neg Bool.false_ne_true]
  unfold getAttrByItsOwn hookBefore
  rw [if_pos (show onTheHeap (Value.ref D) = true from rfl)]
  refine wpAny_bind (Lc.at (wpAny_bind (wpAny_attempt (wpAny_holding ?_))))
  unfold callGetattribute
  rw [show (false && onTheHeap (Value.builtin "BaseException.__getattribute__")) = false from rfl, if_neg Bool.false_ne_true]
  unfold boundAndCalled
  rw [PySem.F.excAttr_ValueError.ga.bind (.ref x)]
  refine wpAny_bind (wpAny_pure ?_)
  show wpAny _ _ (call (.builtin "BaseException.__getattribute__") [.ref x, .str "__class__" t]) _ _ _
  refine wpAny_call (codeAny_call_builtin PySem.F.excAttr_ValueError.ga.plain PySem.F.entry_bexc_ga
    (@check_slot (model prog w) _ _ ⟨hp, g, d, t + 1, os⟩ "BaseException.__getattribute__" "BaseException" "__getattribute__" (.ref x) [.str "__class__" t] [] _
      (by decide +kernel) (by decide +kernel) isB (PySem.F.args_bexc_ga (.ref x) (.str "__class__" t)) ?_))
  unfold Builtin.«object.__getattribute__»
  refine wpAny_bind (wpAny_of_eq (a := ((Value.ref x : Value), [Value.str "__class__" t])) (by first | rfl | (simp only [slotArgs]; rfl)) ?_)
  refine wpAny_bind (wpAny_pure (wpAny_bind (La.at (wpAny_bind (Ld.at ?_)))))
  show wpAny _ _ (holding [Value.builtin "object.__class__"] (call (.builtin "getset_descriptor.__get__") [.builtin "object.__class__", .ref x, .ref D]) >>= ret) _ _ _
  refine wpAny_bind (wpAny_holding (wpAny_call (class_get (s := ⟨hp, g, d, t + 1, os⟩) (ox := ox) (od := some od) X I hm ?_)))
  refine wpAny_pure ?_
  show wpAny _ _ (handedOut (.ref D)) _ _ _
  rw [handedOut_of (v := .ref D) rfl]
  first
    | exact wpAny_pure (wpAny_pure h)
    | exact wpAny_pure h
    | exact wpAny_pure (wpAny_bind (wpAny_pure (wpAny_pure h)))
theorem dl_kitE (hga : findIn K (.ref D) "__getattribute__" = some (some (.builtin "BaseException.__getattribute__"))) (hgt : findIn K (.ref D) "__getattr__" = some none) (hsub : subIn K (.ref D) (.type "BaseException") = some true) (hdct : hasDictIn K D = true) (ha : findIn K (.ref D) "__class__" = some (some (.builtin "object.__class__")))
    (hn : specialIn K (.builtin "object.__class__") "__get__" = some (some (.builtin "getset_descriptor.__get__"))) (htk : takesIn K (.builtin "object.__class__") = some true) (hm : mroIn K D (.type "object") = some true) :
    KitX K (.ref x) (.ref D) (fun h => InstAt h x ox D (some od)) := by
  have key : ∀ h : Heap, K.In h → ∃ o cd, h.get? D = some o ∧ o.data = .cls cd := fun h X => by
    obtain ⟨cdD, hcD, _⟩ := any_some hdct
    unfold clsIn at hcD
    split at hcD
    · rename_i c' d' cd' sl' ho
      exact ⟨_, cd', X _ _ ho, rfl⟩
    · cases hcD
  refine ⟨fun _ _ _ I => I.type, fun _ _ X _ => ?_, fun h tp dd its n sl X htp => ?_, fun X I k => dl_classE hga hgt hsub hdct ha hn htk hm X I k⟩
  · obtain ⟨o, cd, ho, hd⟩ := key _ X
    intro A' Q' E' s' k q
    unfold isType loadHead
    refine wpAny_bind (wpAny_loadPart (k _ _ ho) ?_)
    rw [hd]
    exact wpAny_pure q
  · refine Bool.eq_false_iff.mpr fun q => ?_
    have e : D = tp := Value.ref.inj (beq_iff_eq.mp q)
    subst e
    obtain ⟨o, cd, ho, hd⟩ := key _ X
    rw [ho] at htp
    cases htp
    cases hd
end
end PySem.W
namespace DL
open PySem PySem.Spec PyProof.Rows L2
/-- isinstance(e, c), e the error that the suite holds -/
theorem call_isX {X : Cx} {a D : Addr} {d : Option Addr} {oe : Obj} {pn : List (Addr × Obj)} (C : ExcC X.K D) (hz : Zc (.ref D) d oe) (hf : ∃ vs, oe.data = .fields vs) :
    CallR (X.suite a ((a, oe) :: pn)) (.builtin "isinstance") (fun xs H Q => ∃ (c : V) (cv : Value) (b : Bool), xs = [.ref a, c] ∧ (∀ u, RelV c u → u = cv) ∧ (∃ dd fs, d = some dd ∧ H dd = some (.xd fs)) ∧ PySem.W.kitOne X.K (.ref D) cv = some b ∧ Q (.bl b) H) := by
  intro pins s σ H xs us Q I r ⟨c, cv, b, ex, hcv, hd, e, q⟩
  subst ex
  obtain ⟨u1, u2, rfl, r1, r2⟩ := vals2 r
  cases r1
  have ec := hcv _ r2
  subst ec
  have hget := (I.pin (a, oe) (List.mem_append.mpr (.inl List.mem_cons_self))).1
  obtain ⟨vs, hv⟩ := hf
  have J : ∃ od, PySem.W.InstAt s.heap a oe D (some od) := by
    obtain ⟨oc, odd, oda, osl⟩ := oe
    obtain ⟨h1, h2⟩ := hz
    dsimp only at h1 h2 hv
    subst h1 h2 hv
    obtain ⟨dd, fs, ed, hH⟩ := hd
    subst ed
    obtain ⟨mA, hns, _⟩ := (show ObjOk X.prog X.w H s.heap dd (.xd fs) from I.hok dd _ hH)
    obtain ⟨od, ho, _⟩ := lookIn_ns hns
    exact ⟨od, hget, rfl, rfl, ho⟩
  obtain ⟨od, J⟩ := J
  exact PySem.W.kia_one (PySem.W.dl_kitE C.hg C.hk C.hs C.hd C.ha C.hn C.ht C.hm) I.kIn J e (fun z => nomatch z) fun tk => ⟨.bl b, H, I.kept (t' := tk) fun _ _ z => z, rfl, q⟩
/-- what is told of an error's class, for its fields -/
structure XcT (K : PySem.W.Frag) (C : Addr) (f : Str) : Prop where
  ga : PySem.W.findIn K (.ref C) "__getattribute__" = some (some (.builtin "BaseException.__getattribute__"))
  gg : PySem.W.findIn K (.ref C) "__getattr__" = some none
  noN : PySem.W.findIn K (.ref C) f = some none
  exC : PySem.W.subIn K (.ref C) (.type "BaseException") = some true
  hdC : PySem.W.hasDictIn K C = true
section
variable {X : Cx} {Φ : OH → Hp → Hp → Prop} [FΦ : OFrm X.K X.mg Φ]
def mXf (C f : Str) (a : Addr) (x : Exn) (m : ME OH) : ME OH := fun ρ O P R => m ρ O (fun y O1 => y = .loc a ∧ x.cls = C ∧ ∃ ns ds d, x.fs = some (ns, ds) ∧ lookD f ns ds = some d ∧ P d O1) R
theorem de_xfld {a C : Addr} {oe : Obj} {cls : Value} {d : Option Addr} {pn : List (Addr × Obj)} {x : Exn} {Cn f : Str} {e : Expr} {te : TE} {m : ME OH} {W : WX} {pos : Pos} (T : XcT X.K C f) (hC : X.mg Cn = some (.ref C)) (hz : Zc cls d oe) (hf : ∃ vs, oe.data = .fields vs)
    (h : DE (X.suite a ((a, oe) :: pn)) (ExF X.K X.mg Φ cls d x) W e te m) (hb : attributeBase e f X.env (eval e X.env) = eval e X.env := by rfl) :
    DE (X.suite a ((a, oe) :: pn)) (ExF X.K X.mg Φ cls d x) W (.Attribute e f pos) (fun σ H Q => te σ H fun v H1 => v = .ref a ∧ cls = .ref C ∧ ∃ dd fs u, d = some dd ∧ H1 dd = some (.xd fs) ∧ fs.lookup f = some u ∧ Q u H1) (mXf Cn f a x m) := by
  refine ⟨⟨fun pins s σ H Q I hh => attr_of hb (thn (h.pe.run pins s σ H _ I hh) fun u s1 ⟨v, H1, I1, rv, ev, ec, dd, fs, y, ed, hH, hl, q⟩ => ?_)⟩, fun σ ρ O G H Q P R hρ f0 hW hm k => h.sem σ ρ O G H _ _ R hρ f0 hW hm fun y O1 v G1 H1 ⟨ey, ex, ns, ds, dt, efs, hl, p⟩ e1 f1 r1 => ?_⟩
  · subst ev
    cases (show u = Value.ref a from rv)
    subst ec
    subst ed
    have ha := (I1.pin (a, oe) (List.mem_append_left _ List.mem_cons_self)).1
    obtain ⟨vs, hdat⟩ := hf
    obtain ⟨mA, hns, hr⟩ := (show ObjOk X.prog X.w H1 s1.heap dd (.xd fs) from I1.hok dd _ hH)
    obtain ⟨od, ho, hlk⟩ := lookIn_ns hns
    obtain ⟨z, hz2, rz⟩ := RelO.some_of (v := y) (o := mA f) (by rw [← hl]; exact hr f)
    have J : PySem.W.InstAt s1.heap a oe C (some od) := ⟨ha, hz.1, by unfold PySem.W.notCls; rw [hdat] <;> rfl, by rw [hz.2]; exact ho⟩
    exact HandSPX.exc_get I1.kIn J T.ga T.gg T.exC (PySem.W.findObj_own T.hdC T.noN rfl (by rw [hlk, hz2])) (handed_of rz) ⟨y, H1, I1.tok _, rz, q⟩
  · subst ey
    have f1' := f1
    cases r1
    obtain ⟨f1, xc, xf⟩ := f1
    rw [efs] at xf
    obtain ⟨dd, vs, ed, hG, hlen, rl⟩ := xf
    rw [ex] at xc
    have xc' : X.mg Cn = some cls := xc
    rw [hC] at xc'
    cases xc'
    obtain ⟨u, hu, ru⟩ := lookD_rp rl hl
    exact ⟨rfl, rfl, dd, _, u, ed, FΦ.same f1 _ _ hG, hu, k _ O1 u G1 H1 p e1 f1' ru⟩
/-- isinstance(e, C) of the error that the suite holds -/
def mIsX (C : Str) (tb : Exn → Option Bool) (a : Addr) (x : Exn) (m : ME OH) : ME OH := fun ρ O P R => x.cls = C ∧ m ρ O (fun y O1 => y = .loc a ∧ (∃ z, x.fs = some z) ∧ ∃ b, tb x = some b ∧ P (.bl b) O1) R
theorem de_isX {a c : Addr} {oe : Obj} {cls : Value} {d : Option Addr} {pn : List (Addr × Obj)} {x : Exn} {D : Addr} {Dn : Str} {tb : Exn → Option Bool} {e : Expr} {te : TE} {m : ME OH} {W : WX} {p p2 pos : Pos} {xn : Str} (T : ExcC X.K D) (hD : X.mg Dn = some (.ref D))
    (htb : ∀ b, tb x = some b → PySem.W.kitOne X.K (.ref D) (.ref c) = some b) (hz : Zc cls d oe) (hf : ∃ vs, oe.data = .fields vs) (hg : Gl X "isinstance") (hm : X.mg "isinstance" = none) (hgx : Gl X xn) (hx : X.mg xn = some (.ref c))
    (h : DE (X.suite a ((a, oe) :: pn)) (ExF X.K X.mg Φ cls d x) W e te m) (hd : (xn == ("__debug__" : Str)) = false := by decide)
    (h1 : starEach [e, .Name xn p2] X.env = (false, eval e X.env) :: starEach [.Name xn p2] X.env := by rfl) (h2 : starEach [.Name xn p2] X.env = (false, eval (.Name xn p2) X.env) :: starEach [] X.env := by rfl) (hpl : (backTo pos (starEach [.Name xn p2] X.env)).any (·.1) = false := by rfl) :
    DE (X.suite a ((a, oe) :: pn)) (ExF X.K X.mg Φ cls d x) W (.Call (.Name "isinstance" p) [e, .Name xn p2] [] pos) (fun σ H Q => cls = .ref D ∧ (tCB (fun xs H Q => ∃ (c : V) (cv : Value) (b : Bool), xs = [.ref a, c] ∧ (∀ u, RelV c u → u = cv) ∧ (∃ dd fs, d = some dd ∧ H dd = some (.xd fs)) ∧ PySem.W.kitOne X.K (.ref D) cv = some b ∧ Q (.bl b) H) (tCons te (tCons (tC (.ref c)) tNil))) σ H Q) (mIsX Dn tb a x m) := by
  refine ⟨⟨fun pins s σ H Q I ⟨ec, hh⟩ => ?_⟩, fun σ ρ O G H Q P R hρ f0 hW ⟨ex, hm⟩ k => ?_⟩
  · subst ec
    exact (pe_callB (X := X.suite a ((a, oe) :: pn)) (call_isX T hz hf) hg hm (by decide +kernel) (pa_cons h.pe (pa_cons (show PE (X.suite a ((a, oe) :: pn)) (.Name xn p2) (tC (.ref c)) from pe_glob (X := X.suite a ((a, oe) :: pn)) hgx hx rfl hd) pa_nil h2) h1) (by decide) (by decide) h1 hpl).run pins s σ H Q I hh
  have xc0 : X.mg x.cls = some cls := f0.2.1
  rw [ex, hD] at xc0
  cases xc0
  refine ⟨rfl, h.sem σ ρ O G H _ _ R hρ f0 hW hm fun y O1 v G1 H1 ⟨ey, hfs, b, hb, p⟩ e1 f1 r1 => ?_⟩
  subst ey
  cases r1
  refine ⟨.ref c, .ref c, b, rfl, fun u hu => hu, ?_, htb b hb, k _ O1 _ G1 H1 p e1 f1 (.bl b)⟩
  obtain ⟨f1, xc, xf⟩ := f1
  obtain ⟨z, q⟩ := hfs
  rw [q] at xf
  obtain ⟨d2, vs, ed2, hG, _⟩ := xf
  exact ⟨d2, _, ed2, FΦ.same f1 _ _ hG⟩
end
/-! ### a == b by an own __eq__ -/
section
variable {X : Cx} {Φ : OH → Hp → Hp → Prop} {W : WX} [FΦ : OFrm X.K X.mg Φ]
/-- the other's type, as == looks at it -/
structure EqT (K : PySem.W.Frag) (mg : Str → Option Value) (C : Addr) (ok : D → Prop) : Prop where
  tb : ∀ (G H : Hp) (v : V) (d : D), Same G H → Rp K mg G v d → ok d → ∃ t, TyX K H v t ∧ PySem.W.notFirst K C t = true
def mEqI (C : Str) (g : WF) (ok : D → Prop) (ma mb : ME OH) : ME OH := fun ρ O P R => ma ρ O (fun a O1 => mb ρ O1 (fun b O2 => ∃ ns ds, a = .ins C ns ds ∧ ok b ∧ g [a, b] O2 (fun d O3 => ∃ k, d = .bl k ∧ P d O3) R) R) R
theorem de_eqI {k : Nat} {C f : Addr} {Cn : Str} {fd : FuncData} {n1 n2 : Str} {g : WF} {ok : D → Prop} {a b : Expr} {ta tb : TE} {ma mb : ME OH} {pos : Pos} (hC : X.mg Cn = some (.ref C)) (hs : PySem.W.findIn X.K (.ref C) "__eq__" = some (some (.ref f))) (hf : PySem.W.isFn X.K (.ref f) = true)
    (T : EqT X.K X.mg C ok) (F : FnG X.prog X.w X.K X.mg X.base k f fd [n1, n2] g) (hr : Rm k X) (hb : Binds X.K fd [n1, n2] []) (tk : Takes X W) (ha : DE X Φ W a ta ma) (hb' : DE X Φ W b tb mb) :
    DE X Φ W (.Compare a [.Eq] [b] pos) (fun σ H Q => ta σ H fun x H1 => tb σ H1 fun y H2 => ∃ p dx fs t, x = .ref p ∧ H2 p = some (.ins C dx fs) ∧ TyX X.K H2 y t ∧ PySem.W.notFirst X.K C t = true ∧ spO X.K X.mg 2 g [x, y] H2 (fun v H3 => ∃ k, v = .bl k ∧ Q v H3) (WE W σ)) (mEqI Cn g ok ma mb) := by
  refine ⟨⟨fun pins s σ H Q I h => ?_⟩, fun σ ρ O G H Q P R hρ f0 hW hm k => ?_⟩
  · refine wpAny_Compare1 (binT ha.pe hb'.pe I h fun u v s2 x y H2 I2 ru rv ⟨p, dx, fs, t, ex, hp, ty, nf, q⟩ => ?_) (nomark _)
    subst ex
    cases (show u = Value.ref p from ru)
    obtain ⟨mA, J, _⟩ := ins_get I2.hok hp
    obtain ⟨od, J, _⟩ := J.look
    obtain ⟨Pk, Z, pz, hx⟩ := kit_of I2 rv ty
    obtain ⟨m, hF⟩ := I2.fr
    show wpAny (model X.prog X.w) X.A (richCompare .Eq (.ref p) v) (EP X pins σ Q) X.xe s2
    refine PySem.W.cmp_K (op := .Eq) (tb := t) hr.room.units0 hF I2.ok.mod.kin J (Z.ty _ _ I2.kIn pz) nf hs hf ?_
    have go := runS (us := [.ref p, v]) (vs := [.ref p, y]) (dvs := []) (dflt := []) F hr hb .nil (passAt tk σ) I2 (.cons rfl (.cons rv .nil)) q
    refine thn go fun r s3 ⟨z, H3, I3, rz, kk, ez, q3⟩ => ?_
    subst ez
    cases rz
    exact ⟨.bl kk, H3, I3, rfl, q3⟩
  · refine ha.sem σ ρ O G H _ _ R hρ f0 hW hm fun x s1 u G1 H1 h1 e1 f1 r1 => ?_
    refine hb'.sem σ ρ s1 G1 H1 _ _ R (hρ.mono e1) f1 (hW.mono e1) h1 fun y s2 v G2 H2 ⟨ns, ds, ex, oky, hg⟩ e2 f2 r2 => ?_
    subst ex
    have r3 := r1.mono e2
    have r4 := r3
    obtain ⟨t, ty, nf⟩ := T.tb G2 H2 v y (Frm.same f2) r2 oky
    cases r3 with
    | ins mC hG hl rl =>
      rw [hC] at mC
      cases mC
      refine ⟨_, _, _, t, rfl, Frm.same f2 _ _ hG, ty, nf, spO_of f2 (.cons r4 (.cons r2 .nil)) rfl hg (fun d s' z G' H' ⟨kk, ed, p⟩ q f' rz => ?_) (hW.mono (e1.trans e2))⟩
      subst ed
      cases rz
      exact ⟨kk, rfl, k _ s' _ G' H' p ((e1.trans e2).trans q) f' (.bl kk)⟩
end
end DL

set_option Elab.async false
set_option linter.all false
set_option maxRecDepth 100000
set_option maxHeartbeats 2000000
namespace DL
open PySem PySem.Spec PyProof.Rows L2

section
variable {X : Cx}
/-! ### == where a list is empty, or of another length: whatever the items are -/
def wEqL : W2 := fun a b P => ∃ x y, a = .lst x ∧ b = .lst y ∧ (x.length ≠ y.length ∨ x = []) ∧ P (.bl (decide (x.length = y.length)))
def rEqL (neg : Bool) : R2 := fun x y H Q => ∃ a b xs ys, x = .ref a ∧ y = .ref b ∧ H a = some (.lst xs) ∧ H b = some (.lst ys) ∧ (xs.length ≠ ys.length ∨ xs = []) ∧ Q (.bl (neg != decide (xs.length = ys.length))) H
theorem op_eqL (hu : X.A.units + 64 < cLine) : OpR X (compareOp .Eq) (rEqL false) := by
  intro pins s σ H x y v u Q I rx ry ⟨a, b, xs, ys, ex, ey, ha, hb, hl, q⟩
  subst ex ey
  cases rx
  cases ry
  obtain ⟨i1, r1, p1, _⟩ := I.list (SqL.of ha)
  obtain ⟨i2, r2, p2, _⟩ := I.list (SqL.of hb)
  have l1 := Vals.length r1
  have l2 := Vals.length r2
  by_cases e : xs.length = ys.length
  · have hx : xs = [] := hl.elim (fun z => absurd e z) id
    subst hx
    have e1 : i1 = [] := List.eq_nil_of_length_eq_zero l1.symm
    have e2 : i2 = [] := List.eq_nil_of_length_eq_zero (by rw [← l2, ← e]; rfl)
    subst e1 e2
    refine SeqAt.eq_listAt (e := fun _ => true) p1.isList p2.isList rfl (by omega) (fun j h1 _ => absurd h1 (by simp)) ⟨.bl true, H, I, rfl, ?_⟩
    rw [decide_eq_true e] at q
    exact q
  · refine SeqAt.eq_list_lengthsAt p1.isList p2.isList (by simpa [← l1, ← l2] using e) (by omega) ⟨.bl false, H, I, rfl, ?_⟩
    rw [decide_eq_false e] at q
    exact q
theorem op_neL (hu : X.A.units + 64 < cLine) : OpR X (compareOp .NotEq) (rEqL true) := by
  intro pins s σ H x y v u Q I rx ry ⟨a, b, xs, ys, ex, ey, ha, hb, hl, q⟩
  subst ex ey
  cases rx
  cases ry
  obtain ⟨i1, r1, p1, _⟩ := I.list (SqL.of ha)
  obtain ⟨i2, r2, p2, _⟩ := I.list (SqL.of hb)
  have l1 := Vals.length r1
  have l2 := Vals.length r2
  by_cases e : xs.length = ys.length
  · have hx : xs = [] := hl.elim (fun z => absurd e z) id
    subst hx
    have e1 : i1 = [] := List.eq_nil_of_length_eq_zero l1.symm
    have e2 : i2 = [] := List.eq_nil_of_length_eq_zero (by rw [← l2, ← e]; rfl)
    subst e1 e2
    rw [decide_eq_true e] at q
    exact SeqAt.RcNeAt.lists (A := X.A) (s := s) (e := fun _ => true) p1.isList p2.isList rfl (by omega) (fun j h1 _ => absurd h1 (by simp)) X.prog X.w X.xe _ ⟨.bl false, H, I, rfl, q⟩
  · rw [decide_eq_false e] at q
    exact SeqAt.RcNeAt.lists_lengths (A := X.A) (s := s) p1.isList p2.isList (by simpa [← l1, ← l2] using e) (by omega) X.prog X.w X.xe _ ⟨.bl true, H, I, rfl, q⟩
theorem eqL_sem {neg : Bool} {x y : V} {a b : D} {G H : Hp} {Q : VK} {P : D → Prop} (ra : Rp X.K X.mg G x a) (rb : Rp X.K X.mg G y b) (sm : Same G H) {u w : List D} (e1 : a = .lst u) (e2 : b = .lst w) (hl : u.length ≠ w.length ∨ u = []) (h : P (.bl (neg != decide (u.length = w.length))))
    (k : ∀ (d : D) (v : V) (G' H' : Hp), P d → L2.Ext G G → True → Rp X.K X.mg G' v d → G' = G → H' = H → Q v H') : rEqL neg x y H Q := by
  subst e1 e2
  cases ra with
  | lst p q =>
    cases rb with
    | lst p' q' =>
      have l1 := q.len
      have l2 := q'.len
      refine ⟨_, _, _, _, rfl, rfl, sm _ _ p, sm _ _ p', hl.elim (fun z => .inl (by rw [l1, l2]; exact z)) (fun z => .inr ?_), ?_⟩
      · subst z
        cases q
        rfl
      · rw [l1, l2]
        exact k _ _ G H h (fun _ _ z => z) trivial (.bl _) rfl rfl
/-- == of data, or of two lists of which one is empty or that are of unlike length -/
def wEq' : W2 := fun a b P => wEq a b P ∨ ∃ x y, a = .lst x ∧ b = .lst y ∧ (x.length ≠ y.length ∨ x = []) ∧ P (.bl (decide (x.length = y.length)))
def wNe' : W2 := fun a b P => wNe a b P ∨ ∃ x y, a = .lst x ∧ b = .lst y ∧ (x.length ≠ y.length ∨ x = []) ∧ P (.bl (!decide (x.length = y.length)))
theorem o_eq' (hu : X.A.units + 64 < cLine) : Op2 X (compareOp .Eq) (fun x y H Q => rEqD X.K x y H Q ∨ rEqL false x y H Q) wEq' := by
  refine ⟨(op_eqD hu).or (op_eqL hu), fun x y a b G H Q P ra rb sm h k => ?_⟩
  rcases h with h | ⟨u, w, e1, e2, hl, h⟩
  · exact .inl ((o_eq hu).sem x y a b G H Q P ra rb sm h k)
  · exact .inr (eqL_sem (P := P) ra rb sm e1 e2 hl (by simpa using h) fun d v G' H' p _ _ r eG eH => by subst eG eH; exact k d v _ _ p .refl r)
theorem o_ne' (hu : X.A.units + 64 < cLine) : Op2 X (compareOp .NotEq) (fun x y H Q => rNeD X.K x y H Q ∨ rEqL true x y H Q) wNe' := by
  refine ⟨(op_neD hu).or (op_neL hu), fun x y a b G H Q P ra rb sm h k => ?_⟩
  rcases h with h | ⟨u, w, e1, e2, hl, h⟩
  · exact .inl ((o_ne hu).sem x y a b G H Q P ra rb sm h k)
  · exact .inr (eqL_sem (P := P) ra rb sm e1 e2 hl (by simpa using h) fun d v G' H' p _ _ r eG eH => by subst eG eH; exact k d v _ _ p .refl r)
/-! ### -a, a ** b -/
def mNeg {S : Type} (m : ME S) : ME S := fun ρ s P R => m ρ s (fun d s1 => ∃ i, d = .int i ∧ P (.int (-i)) s1) R
theorem de_neg {S : Type} {Φ : S → Hp → Hp → Prop} {W : WX} [Frm Φ] {e : Expr} {te : TE} {m : ME S} {pos : Pos} (h : DE X Φ W e te m) : DE X Φ W (.UnaryOp .USub e pos) (tUn (rU fun i => .int (-i)) te) (mNeg m) :=
  ⟨pe_un un_neg h.pe, fun σ ρ s G H Q P R hρ f hW hm k => h.sem σ ρ s G H _ _ R hρ f hW hm fun d s1 v G1 H1 ⟨i, ed, p⟩ e1 f1 r1 => by
    subst ed
    cases r1
    exact ⟨i, rfl, k _ s1 _ G1 H1 p e1 f1 (.int _)⟩⟩
def wPow : W2 := wI CPow fun i j => .int (i ^ j.toNat)
theorem o_pow : Op2 X (binaryOp .Pow) (rI CPow fun i j => .int (i ^ j.toNat)) wPow := wI_sem (fun G i j => .int _) op_pow
/-! ### {} -/
theorem de_dnew {S : Type} {Φ : S → Hp → Hp → Prop} {W : WX} [Frm Φ] {pos : Pos} : DE X Φ W (.Dict [] [] pos) tDNewK (mC (.dic [] []) : ME S) :=
  ⟨pe_dnewK, fun σ ρ s G H Q P R hρ f hW hm k => fun d hd => k _ s _ _ _ hm (same_new ((Frm.same f).free hd)) (Frm.ext f hd) (.dic (vs := []) upd_same rfl .nil)⟩
/-! ### a list or a tuple walked -/
def iSeq (K : PySem.W.Frag) (tl : TE) : TI := fun σ H R => tl σ H fun x H1 => ∃ a, x = .ref a ∧ (((∃ xs, SqL K H1 a xs) ∧ R (Itl K a) H1) ∨ ((∃ xs, SqT K H1 a xs) ∧ R (Itt K a) H1))
theorem pi_seq {tg l : Expr} {tl : TE} (hl : PE X l tl) : PI X tg l (iSeq X.K tl) := by
  refine ⟨fun pins s σ H R I h => thn (hl.run pins s σ H _ I h) fun v s1 ⟨x, H1, I1, r1, a, e, q⟩ => ?_⟩
  subst e
  have one : ∀ (t : TI) (b : V), PI X tg l t → True := fun _ _ _ => trivial
  cases r1
  have nw : ∀ (b : Addr), b ∈ [s1.heap.objs.size] → FpOk X pins H1 b := fun b hb => by
    cases List.mem_singleton.mp hb
    exact I1.fpOk (Nat.le_refl _) (I1.hok.fresh (Nat.le_refl _))
  rcases q with ⟨⟨xs, hq⟩, q⟩ | ⟨⟨xs, hq⟩, q⟩
  · obtain ⟨its, rv, p, hz⟩ := I1.list hq
    exact wpAny_pyIter_list p.isList ⟨s1.heap.objs.size, _, _, _, H1, rfl, I1.kept (t' := s1.toks) (fun b o e => Heap.get?_push_of_some _ e), turn_list a _, ⟨_, Heap.get?_push_size _ rfl, rfl, rfl⟩, nw, q⟩
  · obtain ⟨its, rv, p, hz⟩ := I1.tuple hq
    exact wpAny_pyIter_tuple (show s1.heap.IsTuple a its.toArray from p) ⟨s1.heap.objs.size, _, _, _, H1, rfl, I1.kept (t' := s1.toks) (fun b o e => Heap.get?_push_of_some _ e), turn_tuple a _, ⟨_, Heap.get?_push_size _ rfl, rfl, rfl⟩, nw, q⟩
def mSeq {S : Type} (m : ME S) : MI S := fun ρ s P R => m ρ s (fun d s1 => (∃ ds, d = .lst ds ∧ P ds s1) ∨ (∃ ds, d = .tup ds ∧ P ds s1) ∨ ∃ ds, d = .frz ds ∧ P ds s1) R
theorem y_frz {K : PySem.W.Frag} {mg : Str → Option Value} {G : Hp} {a : Addr} {vs : List V} {ds : List D} (h : SqF K G a vs) (r : RpL K mg G vs ds) : Yields K mg (Itl K a) G ds := fun G' H e e' => by
  have hq : SqL K H a vs := (sqf_mono (e.trans e') h).sql
  have hl := r.len
  refine ⟨fun i hi => ⟨vs, vs[i]'(by omega), hq, by simp [hl, hi]⟩, ⟨vs, hq, by omega⟩, fun i x H' hi ⟨e1, y⟩ => ?_⟩
  subst e1
  obtain ⟨d, h1, h2⟩ := r.atV (y vs hq)
  exact ⟨G', .refl, d, h1, h2.mono e⟩
theorem di_seq {S : Type} {Φ : S → Hp → Hp → Prop} {W : WX} [Frm Φ] {tg l : Expr} {tl : TE} {m : ME S} (h : DE X Φ W l tl m) : DI X Φ W tg l (iSeq X.K tl) (mSeq m) :=
  ⟨pi_seq h.pe, fun σ ρ s G H Q P R hρ f hW hm k => h.sem σ ρ s G H _ _ R hρ f hW hm fun d s1 v G1 H1 hd e1 f1 r1 => by
    rcases hd with ⟨ds, ed, p⟩ | ⟨ds, ed, p⟩ | ⟨ds, ed, p⟩
    · subst ed
      cases r1 with
      | lst q rl => exact ⟨_, rfl, .inl ⟨⟨_, SqL.of (Frm.same f1 _ _ q)⟩, k ds s1 _ G1 H1 p e1 f1 (y_list q rl)⟩⟩
    · subst ed
      cases r1 with
      | tup q rl => exact ⟨_, rfl, .inr ⟨⟨_, sqt_mono (Frm.same f1) q⟩, k ds s1 _ G1 H1 p e1 f1 (y_tup q rl)⟩⟩
    · subst ed
      cases r1 with
      | frz q rl => exact ⟨_, rfl, .inl ⟨⟨_, (sqf_mono (Frm.same f1) q).sql⟩, k ds s1 _ G1 H1 p e1 f1 (y_frz q rl)⟩⟩⟩
section
variable {Φ : OH → Hp → Hp → Prop} {W : WX} [FΦ : OFrm X.K X.mg Φ]
/-- a == b by an own __eq__, as a test -/
theorem dt_eqI {k : Nat} {C f : Addr} {Cn : Str} {fd : FuncData} {n1 n2 : Str} {g : WF} {ok : D → Prop} {a b : Expr} {ta tb : TE} {ma mb : ME OH} {pos : Pos} (hC : X.mg Cn = some (.ref C)) (hs : PySem.W.findIn X.K (.ref C) "__eq__" = some (some (.ref f))) (hf : PySem.W.isFn X.K (.ref f) = true)
    (T : EqT X.K X.mg C ok) (F : FnG X.prog X.w X.K X.mg X.base k f fd [n1, n2] g) (hr : Rm k X) (hb : Binds X.K fd [n1, n2] []) (tk : Takes X W) (ha : DE X Φ W a ta ma) (hb' : DE X Φ W b tb mb) :
    DT X Φ W (.Compare a [.Eq] [b] pos) (tTest (fun σ H Q => ta σ H fun x H1 => tb σ H1 fun y H2 => ∃ p dx fs t, x = .ref p ∧ H2 p = some (.ins C dx fs) ∧ TyX X.K H2 y t ∧ PySem.W.notFirst X.K C t = true ∧ spO X.K X.mg 2 g [x, y] H2 (fun v H3 => ∃ k, v = .bl k ∧ Q v H3) (WE W σ))) (mTest (mEqI Cn g ok ma mb)) := by
  have d := de_eqI (pos := pos) hC hs hf T F hr hb tk ha hb'
  refine ⟨⟨fun pins s σ H Q I h => ?_⟩, fun σ ρ s G H _ _ R hρ f hW hm k => d.sem σ ρ s G H _ _ R hρ f hW hm fun y s' v G' H' ⟨c, e, p⟩ q1 q2 q3 => by
    subst e
    exact ⟨c, rp_bl q3, k c s' G' H' p q1 q2⟩⟩
  refine wpAny_isTrue_Compare1 (binT ha.pe hb'.pe I h fun u v s2 x y H2 I2 ru rv ⟨p, dx, fs, t, ex, hp, ty, nf, q⟩ => ?_) (nomark _)
  subst ex
  cases (show u = Value.ref p from ru)
  obtain ⟨mA, J, _⟩ := ins_get I2.hok hp
  obtain ⟨od, J, _⟩ := J.look
  obtain ⟨Pk, Z, pz, hx⟩ := kit_of I2 rv ty
  obtain ⟨m, hF⟩ := I2.fr
  show wpAny (model X.prog X.w) X.A (richCompare .Eq (.ref p) v) _ X.xe s2
  refine PySem.W.cmp_K (op := .Eq) (tb := t) hr.room.units0 hF I2.ok.mod.kin J (Z.ty _ _ I2.kIn pz) nf hs hf ?_
  have go := runS (us := [.ref p, v]) (vs := [.ref p, y]) (dvs := []) (dflt := []) F hr hb .nil (passAt tk σ) I2 (.cons rfl (.cons rv .nil)) q
  refine thn go fun r s3 ⟨z, H3, I3, rz, kk, ez, c, ec, q3⟩ => ?_
  subst ez
  cases ec
  cases rz
  exact wpAny_truthy_bool ⟨H3, I3, q3⟩
end
/-! ### a list of lists, made one's own: whatever held it as a tree is forgotten -/
/-! ### repr of an instance, by its own __repr__ -/
section
variable {Φ : OH → Hp → Hp → Prop} {W : WX} [FΦ : OFrm X.K X.mg Φ]
def mReprI (C : Str) (g : WF) (m : ME OH) : ME OH := fun ρ O P R => m ρ O (fun x O1 => ∃ ns ds, x = .ins C ns ds ∧ g [x] O1 (fun d O2 => ∃ y, d = .str y ∧ P d O2) R0) R
theorem cr_reprI {k : Nat} {C f : Addr} {fd : FuncData} {n : Str} {g : WF} (c : Cls X.K C) (hs : PySem.W.findIn X.K (.ref C) "__repr__" = some (some (.ref f))) (hf : PySem.W.isFn X.K (.ref f) = true) (F : FnG X.prog X.w X.K X.mg X.base k f fd [n] g) (hr : Rm (k + 1) X) (hb : Binds X.K fd [n] []) :
    CallR X (.builtin "repr") (fun vs H Q => ∃ a dx fs, vs = [.ref a] ∧ H a = some (.ins C dx fs) ∧ spO X.K X.mg 1 g [.ref a] H (fun v H' => ∃ y, v = .str y ∧ Q v H') E0) := by
  intro pins s σ H vs us Q I r ⟨a, dx, fs, ev, ha, q⟩
  subst ev
  obtain ⟨u, rfl, ru⟩ := vals1 r
  cases (show u = Value.ref a from ru)
  obtain ⟨mA, J, _⟩ := ins_get I.hok ha
  obtain ⟨od, J, _⟩ := J.look
  obtain ⟨m, hF⟩ := I.fr
  have hl : ([Value.ref a] ++ []).length = [n].length := rfl
  have go := F.run X.A.in1 X.stack s H ⟨[.ref a], []⟩ [.ref a] [.ref a] _ E0 hr.room.in1 hr.gd I.env0.in1 (hb s [.ref a] I.kIn hl) (.cons rfl .nil) q
  refine PySem.W.repr_K (by have := hr.room.units; show X.A.units + 1 < _; omega) hF I.ok.mod.kin J hs hf (wpAny_call (codeAny_mono go fun r s' hq => ?_))
  match r, hq with
  | .error er, hq => exact (passL (X := X.nox) pins σ H s er s' (I.wish _) hq).elim
  | .ok (.ret u), hq =>
    obtain ⟨v, H', I3, rv, y, ev, q3⟩ := I.after hq
    subst ev
    obtain ⟨t, rfl⟩ := rv
    exact ⟨.str y, H', I3, ⟨t, rfl⟩, q3⟩
  | .ok .next, hq => exact hq.elim
  | .ok .brk, hq => exact hq.elim
  | .ok .cont, hq => exact hq.elim
theorem de_reprI {k : Nat} {C f : Addr} {Cn : Str} {fd : FuncData} {n : Str} {g : WF} {e : Expr} {te : TE} {m : ME OH} {p pos : Pos} (c : Cls X.K C) (hC : X.mg Cn = some (.ref C)) (hs : PySem.W.findIn X.K (.ref C) "__repr__" = some (some (.ref f))) (hf : PySem.W.isFn X.K (.ref f) = true)
    (F : FnG X.prog X.w X.K X.mg X.base k f fd [n] g) (hr : Rm (k + 1) X) (hb : Binds X.K fd [n] []) (hg : Gl X "repr") (hm : X.mg "repr" = none) (h : DE X Φ W e te m)
    (he : starEach [e] X.env = (false, eval e X.env) :: starEach [] X.env := by rfl) (hpl : (backTo pos (starEach [] X.env)).any (·.1) = false := by rfl) :
    DE X Φ W (.Call (.Name "repr" p) [e] [] pos) (tCB (fun vs H Q => ∃ a dx fs, vs = [.ref a] ∧ H a = some (.ins C dx fs) ∧ spO X.K X.mg 1 g [.ref a] H (fun v H' => ∃ y, v = .str y ∧ Q v H') E0) (tCons te tNil)) (mReprI Cn g m) :=
  ⟨pe_callB (cr_reprI c hs hf F hr hb) hg hm (by decide +kernel) (pa_cons h.pe pa_nil he) (by decide) (by decide) he hpl, fun σ ρ O G H Q P R hρ f0 hW hmm k => h.sem σ ρ O G H _ _ R hρ f0 hW hmm fun x O1 v G1 H1 ⟨ns, ds, ex, hgx⟩ e1 f1 r1 => by
    subst ex
    have r2 := r1
    cases r1 with
    | ins mC hG hl rl =>
      rw [hC] at mC
      cases mC
      refine ⟨_, _, _, rfl, Frm.same f1 _ _ hG, spO_of (R := R0) f1 (.cons r2 .nil) rfl hgx (fun d s' z G' H' ⟨y, ed, p⟩ q f' rz => ?_) fun _ _ _ _ _ _ _ _ _ z => z.elim⟩
      subst ed
      cases rz
      exact ⟨y, rfl, k _ s' _ G' H' p (e1.trans q) f' (.str y)⟩⟩
end
end
end DL

set_option Elab.async false
set_option linter.all false
set_option maxRecDepth 100000
set_option maxHeartbeats 2000000
namespace DL
open PySem PySem.Spec PyProof.Rows L2

/-! ### a list of lists, made one's own: whatever held lists as trees is forgotten -/
mutual
def noLst : D → Bool
  | .lst _ => false
  | .dic _ _ => false
  | .tup ds => noLstL ds
  | .ins _ _ ds => noLstL ds
  | .frz ds => noLstL ds
  | _ => true
def noLstL : List D → Bool
  | [] => true
  | d :: ds => noLst d && noLstL ds
end
section
variable {K : PySem.W.Frag} {mg : Str → Option Value} {G : Hp}
/-- G without the lists at A -/
def offG (G : Hp) (A : Addr → Bool) : Hp := fun b => if A b = true then none else G b
theorem offG_keep {A : Addr → Bool} (hA : ∀ b, A b = true → ∃ vs, G b = some (.lst vs)) {b : Addr} {o : HO} (h : G b = some o) (n : ∀ vs, o ≠ .lst vs) : offG G A b = some o := by
  unfold offG
  by_cases e : A b = true
  · obtain ⟨vs, q⟩ := hA b e
    rw [h] at q
    cases q
    exact absurd rfl (n vs)
  · rw [if_neg e]
    exact h
mutual
theorem rp_off {A : Addr → Bool} (hA : ∀ b, A b = true → ∃ vs, G b = some (.lst vs)) : ∀ {v : V} {d : D}, Rp K mg G v d → noLst d = true → Rp K mg (offG G A) v d
  | _, _, .non, _ => .non
  | _, _, .bl b, _ => .bl b
  | _, _, .int i, _ => .int i
  | _, _, .str x, _ => .str x
  | _, _, .lst _ _, h => by simp [noLst] at h
  | _, _, .tup q r, h => by
    simp only [noLst] at h
    refine .tup ?_ (rpl_off hA r h)
    rcases q with (q | ⟨o, q⟩) | q
    · exact .inl (.inl (offG_keep hA q fun _ z => nomatch z))
    · exact .inl (.inr ⟨o, offG_keep hA q fun _ z => nomatch z⟩)
    · exact .inr q
  | _, _, .dic _ _ _, h => by simp [noLst] at h
  | _, _, .ins m q l r, h => by
    simp only [noLst] at h
    exact .ins m (offG_keep hA q fun _ z => nomatch z) l (rpl_off hA r h)
  | _, _, .frz q r, h => by
    simp only [noLst] at h
    refine .frz ?_ (rpl_off hA r h)
    rcases q with ⟨o, q⟩ | q
    · exact .inl ⟨o, offG_keep hA q fun _ z => nomatch z⟩
    · exact .inr q
  | _, _, .loc a, _ => .loc a
  | _, _, .cls h, _ => .cls h
  | _, _, .ty n, _ => .ty n
theorem rpl_off {A : Addr → Bool} (hA : ∀ b, A b = true → ∃ vs, G b = some (.lst vs)) : ∀ {vs : List V} {ds : List D}, RpL K mg G vs ds → noLstL ds = true → RpL K mg (offG G A) vs ds
  | _, _, .nil, _ => .nil
  | _, _, .cons a r, h => by
    simp only [noLstL, Bool.and_eq_true] at h
    exact .cons (rp_off hA a h.1) (rpl_off hA r h.2)
end
/-- without any object -/
def flatL : List D → Bool
  | [] => true
  | d :: ds => (match d with
    | .non | .bl _ | .int _ | .str _ | .loc _ => true
    | _ => false) && flatL ds
theorem rpl_flat {G' : Hp} : ∀ {vs : List V} {ds : List D}, RpL K mg G vs ds → flatL ds = true → RpL K mg G' vs ds
  | _, _, .nil, _ => .nil
  | _, _, .cons a r, h => by
    simp only [flatL, Bool.and_eq_true] at h
    refine .cons ?_ (rpl_flat r h.2)
    cases a <;> first | exact .non | exact .bl _ | exact .int _ | exact .str _ | exact .loc _ | simp at h
def flatO : DO → Bool
  | .lst ds => flatL ds
  | .ins _ _ ds => flatL ds
  | _ => false
theorem rpo_flat {G' : Hp} {o : HO} {x : DO} (r : RpO K mg G o x) (h : flatO x = true) : RpO K mg G' o x := by
  cases r with
  | lst r => exact .lst (rpl_flat r h)
  | dic _ _ => simp [flatO] at h
  | ins a b r => exact .ins a b (rpl_flat r h)
end
/-! a list of lists of ints that is one's own, lent as a tree while an expression is evaluated -/
structure Rws (O : OH) (a : Addr) (as : List Addr) (xss : List (List Int)) : Prop where
  top : O a = some (.lst (as.map D.loc))
  len : as.length = xss.length
  row : ∀ (j : Nat) (b : Addr) (xs : List Int), as[j]? = some b → xss[j]? = some xs → O b = some (.lst (xs.map D.int))
def rowsD (xss : List (List Int)) : D := .lst (xss.map fun xs => .lst (xs.map D.int))
def offO (O : OH) (A : Addr → Bool) : OH := fun b => if A b = true then none else O b
def onO (O O2 : OH) (A : Addr → Bool) : OH := fun b => if A b = true then O b else O2 b
def inA (a : Addr) (as : List Addr) : Addr → Bool := fun b => decide (b = a ∨ b ∈ as)
section
variable {K : PySem.W.Frag} {mg : Str → Option Value} {O : OH} {G H : Hp} {a : Addr} {as : List Addr} {xss : List (List Int)}
theorem rpl_locs : ∀ {bs : List Addr} {vs : List V}, RpL K mg G vs (bs.map D.loc) → vs = bs.map V.ref
  | [], _, .nil => rfl
  | b :: bs, _, .cons r rl => by
    cases r
    rw [rpl_locs rl]
    rfl
theorem rI (G2 : Hp) (ns : List Int) : RpL K mg G2 (ns.map V.int) (ns.map D.int) := by
  induction ns with
  | nil => exact .nil
  | cons n ns ih => exact .cons (.int n) ih
theorem rA (G2 : Hp) (bs : List Addr) : RpL K mg G2 (bs.map V.ref) (bs.map D.loc) := by
  induction bs with
  | nil => exact .nil
  | cons n ns ih => exact .cons (.loc n) ih
theorem Rws.at (w : Rws O a as xss) (f : Phi K mg O G H) : H a = some (.lst (as.map V.ref)) ∧ ∀ (j : Nat) (b : Addr) (xs : List Int), as[j]? = some b → xss[j]? = some xs → H b = some (.lst (xs.map V.int)) := by
  obtain ⟨_, o, h1, h2⟩ := f.own _ _ w.top
  refine ⟨?_, fun j b xs q1 q2 => ?_⟩
  · cases h2 with
    | lst r => rw [h1, rpl_locs r]
  · obtain ⟨_, o, h3, h4⟩ := f.own _ _ (w.row j b xs q1 q2)
    cases h4 with
    | lst r => rw [h3, rpl_ints r]
/-- lent -/
theorem lend (w : Rws O a as xss) (f : Phi K mg O G H) : ∃ G1, Same G G1 ∧ Phi K mg (offO O (inA a as)) G1 H ∧ Rp K mg G1 (.ref a) (rowsD xss) ∧ ∀ b, inA a as b = true → G1 b = H b ∧ G b = none ∧ ∃ vs, H b = some (.lst vs) ∧ ∃ y, O b = some y ∧ flatO y = true ∧ ∀ G2, RpO K mg G2 (.lst vs) y := by
  obtain ⟨hT, hR⟩ := w.at f
  have flatI : ∀ ns : List Int, flatL (ns.map D.int) = true := fun ns => by
    induction ns with
    | nil => rfl
    | cons n ns ih => simp [flatL, ih]
  have flatA : ∀ bs : List Addr, flatL (bs.map D.loc) = true := fun bs => by
    induction bs with
    | nil => rfl
    | cons n ns ih => simp [flatL, ih]
  have key : ∀ b, inA a as b = true → G b = none ∧ ∃ vs, H b = some (.lst vs) ∧ ∃ y, O b = some y ∧ flatO y = true ∧ ∀ G2, RpO K mg G2 (.lst vs) y := fun b hb => by
    rcases of_decide_eq_true hb with e | e
    · subst e
      exact ⟨(f.own _ _ w.top).1, _, hT, _, w.top, flatA as, fun G2 => .lst (rA G2 as)⟩
    · obtain ⟨j, hj⟩ := List.getElem?_of_mem e
      have hjl : j < xss.length := by rw [← w.len]; exact (List.getElem?_eq_some_iff.mp hj).1
      have q := w.row j b _ hj (List.getElem?_eq_getElem hjl)
      exact ⟨(f.own _ _ q).1, _, hR j b _ hj (List.getElem?_eq_getElem hjl), _, q, flatI _, fun G2 => .lst (rI G2 _)⟩
  let G1 : Hp := fun b => if inA a as b = true then H b else G b
  have g1 : ∀ b, inA a as b = true → G1 b = H b := fun b hb => if_pos hb
  have s1 : Same G G1 := fun b o e => by
    show (if inA a as b = true then H b else G b) = some o
    by_cases hb : inA a as b = true
    · rw [(key b hb).1] at e
      cases e
    · rw [if_neg hb]
      exact e
  refine ⟨G1, s1, ⟨fun b o e => ?_, fun b y e => ?_⟩, ?_, fun b hb => ⟨g1 b hb, key b hb⟩⟩
  · by_cases hb : inA a as b = true
    · rw [g1 b hb] at e
      exact e
    · have e' : G b = some o := by
        have z : G1 b = G b := if_neg hb
        rw [← z]
        exact e
      exact f.same _ _ e'
  · unfold offO at e
    by_cases hb : inA a as b = true
    · rw [if_pos hb] at e
      cases e
    · rw [if_neg hb] at e
      obtain ⟨g0, o, h1, h2⟩ := f.own b y e
      exact ⟨(if_neg hb : G1 b = G b).trans g0, o, h1, h2.mono s1⟩
  · refine .lst ((g1 a (decide_eq_true (.inl rfl))).trans hT) ?_
    have go : ∀ (bs : List Addr) (yss : List (List Int)), bs.length = yss.length → (∀ (j : Nat) (b : Addr) (xs : List Int), bs[j]? = some b → yss[j]? = some xs → G1 b = some (.lst (xs.map V.int))) → RpL K mg G1 (bs.map V.ref) (yss.map fun xs => .lst (xs.map D.int)) := by
      intro bs
      induction bs with
      | nil =>
        intro yss h1 _
        cases yss with
        | nil => exact .nil
        | cons _ _ => cases h1
      | cons b bs ih =>
        intro yss h1 h2
        cases yss with
        | nil => cases h1
        | cons ys yss => exact .cons (.lst (h2 0 b ys rfl rfl) (rI G1 ys)) (ih yss (by simpa using h1) fun j c xs q1 q2 => h2 (j + 1) c xs (by simpa using q1) (by simpa using q2))
    refine go as xss w.len fun j b xs q1 q2 => ?_
    rw [g1 b (decide_eq_true (.inr (List.mem_of_getElem? q1)))]
    exact hR j b xs q1 q2
/-- .. and taken back -/
theorem back {O2 : OH} {G1 G2 H2 : Hp} (s1 : Same G G1) (hA : ∀ b, inA a as b = true → G1 b = H b ∧ G b = none ∧ ∃ vs, H b = some (.lst vs) ∧ ∃ y, O b = some y ∧ flatO y = true ∧ ∀ G2, RpO K mg G2 (.lst vs) y) (e2 : Same G1 G2) (f2 : Phi K mg O2 G2 H2)
    (hO : ∀ b y, O2 b = some y → flatO y = true) : Same G (offG G2 (inA a as)) ∧ Phi K mg (onO O O2 (inA a as)) (offG G2 (inA a as)) H2 ∧ ∀ b, inA a as b = true → ∃ vs, G2 b = some (.lst vs) := by
  have hl : ∀ b, inA a as b = true → ∃ vs, G2 b = some (.lst vs) ∧ H2 b = some (.lst vs) ∧ ∃ y, O b = some y ∧ ∀ G2, RpO K mg G2 (.lst vs) y := fun b hb => by
    obtain ⟨h1, _, vs, h2, y, h3, _, h4⟩ := hA b hb
    have q : G2 b = some (.lst vs) := e2 _ _ (h1.trans h2)
    exact ⟨vs, q, f2.same _ _ q, y, h3, h4⟩
  refine ⟨fun b o e => ?_, ⟨fun b o e => ?_, fun b y e => ?_⟩, fun b hb => let ⟨vs, q, _⟩ := hl b hb; ⟨vs, q⟩⟩
  · unfold offG
    by_cases hb : inA a as b = true
    · rw [(hA b hb).2.1] at e
      cases e
    · rw [if_neg hb]
      exact e2 _ _ (s1 _ _ e)
  · unfold offG at e
    split at e
    · cases e
    · exact f2.same _ _ e
  · unfold onO at e
    by_cases hb : inA a as b = true
    · rw [if_pos hb] at e
      obtain ⟨vs, _, h2, y', h3, h4⟩ := hl b hb
      rw [h3] at e
      cases e
      exact ⟨if_pos hb, _, h2, h4 _⟩
    · rw [if_neg hb] at e
      obtain ⟨g0, o, h1, h2⟩ := f2.own b y e
      exact ⟨(if_neg hb).trans g0, o, h1, rpo_flat h2 (hO b y e)⟩
end
/-- the state behind the loan -/
def retO (O : OH) (a : Addr) (as : List Addr) (Q : OH → Prop) (O2 : OH) : Prop := (∀ b y, O2 b = some y → flatO y = true) ∧ Q (onO O O2 (inA a as))
def mBorT (i : Nat) (m : MT OH) : MT OH := fun ρ O P R => ∃ a as xss, ρ[i]? = some (some (.loc a)) ∧ Rws O a as xss ∧ m (ρ.set i (some (rowsD xss))) (offO O (inA a as)) (fun c O2 => retO O a as (P c) O2) R0
def mBor (i : Nat) (m : ME OH) : ME OH := fun ρ O P R => ∃ a as xss, ρ[i]? = some (some (.loc a)) ∧ Rws O a as xss ∧ m (ρ.set i (some (rowsD xss))) (offO O (inA a as)) (fun d O2 => noLst d = true ∧ retO O a as (P d) O2) R0
theorem rel_lend {K : PySem.W.Frag} {mg : Str → Option Value} {G G1 : Hp} {σ : Sig} {ρ : Rho} {i : Nat} {a : Addr} {d : D} (hρ : RelE K mg G σ ρ) (s1 : Same G G1) (hi : ρ[i]? = some (some (.loc a))) (r : Rp K mg G1 (.ref a) d) : RelE K mg G1 σ (ρ.set i (some d)) := by
  obtain ⟨v, hv, rv⟩ := hρ.2 i _ hi
  cases rv
  refine ⟨by rw [List.length_set]; exact hρ.1, fun j e hj => ?_⟩
  by_cases q : i = j
  · subst q
    have hlt : i < ρ.length := (List.getElem?_eq_some_iff.mp hi).1
    rw [List.getElem?_set_self hlt] at hj
    cases hj
    exact ⟨_, hv, r⟩
  · rw [List.getElem?_set_ne q] at hj
    obtain ⟨u, h1, h2⟩ := hρ.2 j e hj
    exact ⟨u, h1, h2.mono s1⟩
section
variable {X : Cx} {W : WX}
theorem dt_bor {e : Expr} {tt : TT} {m : MT OH} (i : Nat) (h : DT X (Phi X.K X.mg) W e tt m) : DT X (Phi X.K X.mg) W e tt (mBorT i m) :=
  ⟨h.pt, fun σ ρ O G H Q P R hρ f hW ⟨a, as, xss, hi, w, hm⟩ k => by
    obtain ⟨G1, s1, f1, r1, hA⟩ := lend w f
    refine h.sem σ _ _ G1 H Q _ R0 (rel_lend hρ s1 hi r1) f1 (fun _ _ _ _ _ _ _ _ _ z => z.elim) hm fun c O2 G2 H2 ⟨hO, p⟩ e2 f2 => ?_
    obtain ⟨h1, h2, _⟩ := back s1 hA e2 f2 hO
    exact k c _ _ H2 p h1 h2⟩
theorem de_bor {e : Expr} {te : TE} {m : ME OH} (i : Nat) (h : DE X (Phi X.K X.mg) W e te m) : DE X (Phi X.K X.mg) W e te (mBor i m) :=
  ⟨h.pe, fun σ ρ O G H Q P R hρ f hW ⟨a, as, xss, hi, w, hm⟩ k => by
    obtain ⟨G1, s1, f1, r1, hA⟩ := lend w f
    refine h.sem σ _ _ G1 H Q _ R0 (rel_lend hρ s1 hi r1) f1 (fun _ _ _ _ _ _ _ _ _ z => z.elim) hm fun d O2 v G2 H2 ⟨hd, hO, p⟩ e2 f2 r2 => ?_
    obtain ⟨h1, h2, h3⟩ := back s1 hA e2 f2 hO
    exact k d _ v _ H2 p h1 h2 (rp_off h3 r2 hd)⟩
end
end DL

set_option Elab.async false
set_option linter.all false
set_option maxRecDepth 100000
set_option maxHeartbeats 2000000
namespace DL
open PySem PySem.Spec PyProof.Rows L2

/-! ### the end: the law's own call -/
/-- what a law's def promises of the script -/
def spLawD (K : PySem.W.Frag) : Sp := fun vs H Q _ => ∃ (a : Addr) (ns : List Int), vs = [.ref a] ∧ SqF K H a (ns.map V.int) ∧ ns.length ≤ 63 ∧ ∀ H', Q (.bl true) H'
theorem law_callD {P : Program} {w : World} {K : PySem.W.Frag} {mg mb : Str → Option Value} {k : Nat} {fa a : Addr} {fd : FuncData} {x : Str} {s₁ : Shared} {vs : List Value} {ns : List Int}
    (KX : K.In s₁.heap) (hns : s₁.heap.Ns mainGlobals mg) (hb : s₁.heap.Ns builtinsNs mb) (hbb : ∀ x : Str, x ≠ "__name__" → mb x = bootBuiltins x) (hlim : s₁.heap.NoLimit) (hg : s₁.gens = #[])
    (ha : s₁.heap.get? a = some { cls := .type "list", data := .seq vs.toArray }) (hi : IntsAre vs ns) (hl : ns.length ≤ 63) (hr : Room k callerA)
    (hsm : ∃ mm, s₁.heap.Ns sysModules mm) (F : ∀ base : Heap, K.In base → base.Ns mainGlobals mg → (∃ mm, base.Ns sysModules mm) → FnS P w K mg base k fa fd [x] (spLawD K)) (hbind : ∀ (s : Shared) (u : Value), BindsTo s fd ⟨[u], []⟩ [(x, u)]) :
    codeAny (model P w) callerA (.call (.ref fa) ⟨[.ref a], []⟩) (fun r s' => r = .ok (.ret (.bool true)) ∧ OldK s₁.heap s'.heap ∧ s'.os = s₁.os ∧ AllBare s'.gens) s₁ := by
  have rv := vals_ints hi
  have lenV := hi.length
  have hline : ns.length ≤ sizeLine := Nat.le_trans hl (by decide)
  have core : ∀ H : Hp, Only H → SqF K H a (ns.map V.int) → HOk P w H s₁.heap → (∀ b, H b ≠ none → b = a) → (H a ≠ none → K.lookup a = none) →
      codeAny (model P w) callerA (.call (.ref fa) ⟨[.ref a], []⟩) (fun r s' => r = .ok (.ret (.bool true)) ∧ OldK s₁.heap s'.heap ∧ s'.os = s₁.os ∧ AllBare s'.gens) s₁ := by
    intro H hO hS hok hA hK
    have at_a : ∀ {b : Addr}, H b ≠ none → b = a := fun {b} z => hA b z
    have noA : ∀ {b : Addr} {o : Obj} {es : Array DictEntry} {ep : Nat}, s₁.heap.get? b = some o → o.data = .dict es ep → H b = none := by
      intro b o es ep e d
      match q : H b with
      | none => rfl
      | some u =>
        have e' : b = a := at_a (by rw [q]; simp)
        subst e'
        rw [ha] at e
        cases e
        exact (nomatch (show Data.seq vs.toArray _ = Data.dict es ep from d))
    have nsK : ∀ {b : Addr} {m : Str → Option Value}, s₁.heap.Ns b m → (hidT s₁.heap H).Ns b m := by
      intro b m ⟨o, es, ep, e, d, r⟩
      exact ⟨o, es, ep, hidT_get e (noA e d), d, r⟩
    have hKb : K.In (hidT s₁.heap H) := by
      intro b o e
      refine hidT_get (KX b o e) ?_
      match q : H b with
      | none => rfl
      | some u =>
        have e' : b = a := at_a (by rw [q]; simp)
        subst e'
        rw [hK (by rw [q]; simp)] at e
        cases e
    have hM : Mod K mg (hidT s₁.heap H) := by
      obtain ⟨mc, h1, h2⟩ := hlim
      exact ⟨hKb, nsK hns, ⟨mb, nsK hb, hbb⟩, ⟨mc, nsK h1, h2⟩⟩
    have e0 : Env0 P w K mg (hidT s₁.heap H) callerA [] s₁ H :=
      ⟨rfl, hM, fun b o e => of_hidT e, Nat.le_of_eq (hidT_size _ _), trivial, fun b hb => absurd hb (by simp [frs]), hok, .of_eq hg⟩
    have go := (F _ hKb (nsK hns) (hsm.imp fun _ => nsK)).run callerA [] s₁ H ⟨[.ref a], []⟩ [.ref a] [.ref a] (fun v _ => v = .bl true) (fun _ _ _ => False) hr rfl e0 (hbind s₁ (.ref a)) (.cons rfl .nil) ⟨a, ns, rfl, hS, hl, fun _ => rfl⟩
    refine codeAny_mono go fun r s' h => ?_
    match r, h with
    | .error e, h =>
      obtain ⟨_, _, _, _, _, _, _, _, _, _, _, _, z⟩ := h
      exact z.elim
    | .ok .next, h => exact h.elim
    | .ok .brk, h => exact h.elim
    | .ok .cont, h => exact h.elim
    | .ok (.ret u), ⟨v, H', os, bare, un, hok', r', q⟩ =>
      have q' : v = .bl true := q
      subst q'
      cases (show u = Value.bool true from r')
      refine ⟨rfl, OldK.of_keep fun b o e => ?_, os, bare⟩
      match q : H b with
      | none => exact un.keep b o e q (by simp [frs]) (by simp)
      | some u =>
        rcases hO b with z | ⟨ob, xs, z⟩
        · rw [q] at z
          cases z
        · obtain ⟨e1, _⟩ := hok b _ z
          obtain ⟨e2, _⟩ := hok' b _ (un.frzs b ob _ z)
          rw [e] at e1
          cases e1
          exact e2
  cases hk : K.lookup a with
  | some o =>
    have e := KX a o hk
    rw [ha] at e
    cases e
    refine core (fun _ => none) (fun _ => .inl rfl) (.inr ⟨_, vs.toArray, _, hk, rfl, rfl, rfl, by rw [List.size_toArray, lenV]; exact hline, by simpa using rv⟩) (fun b u z => nomatch (show (none : Option HO) = some u from z)) (fun b z => absurd rfl z) fun z => absurd rfl z
  | none =>
    let o0 : Obj := { cls := .type "list", data := .seq vs.toArray }
    let H0 : Hp := fun b => if b = a then some (HO.frz o0 (.lst (ns.map V.int))) else none
    have eq1 : ∀ b, b = a → H0 b = some (.frz o0 (.lst (ns.map V.int))) := fun b h => if_pos h
    have eq2 : ∀ b, b ≠ a → H0 b = none := fun b h => if_neg h
    refine core H0 (fun b => ?_) (.inl ⟨_, eq1 a rfl⟩) (fun b u z => ?_) (fun b z => ?_) fun _ => hk
    · by_cases hb : b = a
      · exact .inr ⟨_, _, eq1 b hb⟩
      · exact .inl (eq2 b hb)
    · by_cases hb : b = a
      · have z' := (eq1 b hb).symm.trans z
        cases z'
        subst hb
        exact ⟨ha, by rw [List.length_map]; exact hline, vs, _, rv, ha⟩
      · have z' := (eq2 b hb).symm.trans z
        cases z'
    · by_cases hb : b = a
      · exact hb
      · exact absurd (eq2 b hb) z
theorem walk_D {l : PySem.W.OpenLaw} {k : Nat} {q : Program} {loose : List Str} {XP : (Str → Option Value) → Heap → Prop} {YP : World → Heap → Prop} {d : DefRec} {K : Params → PySem.W.Frag} {x : Str}
    (hn : l.most = some 63) (hi : importsNone q = true) (hdf : d.params.defaults = []) (hr : Room k callerA) (hY : ∀ (w : World) (h : Heap), YP w h → (K w.params).In h)
    (F : ∀ (w : World) (mg : Str → Option Value) (fa : Addr) (h : Heap), (K w.params).In h → h.Ns mainGlobals mg → mg d.name = some (.ref fa) →
      ∃ fd : FuncData, (∀ (s : Shared) (u : Value), BindsTo s fd ⟨[u], []⟩ [(x, u)]) ∧ ∀ base : Heap, (K w.params).In base → base.Ns mainGlobals mg → (∃ mm, base.Ns sysModules mm) → FnS l.prog w (K w.params) mg base k fa fd [x] (spLawD (K w.params))) :
    PySem.W.WalkO q loose XP YP l.row.toRowW d [] (fun f vs => PySem.call f vs) := by
  refine Att.attach_call hn hdf fun w s₀ s₁ mg mb fa o pm cd doc a vs ns G Y ho hd hcd hmg hobj hints hlen hg => ?_
  obtain ⟨fd, hb, hF⟩ := F w mg fa _ (hY w _ Y) G.T.g hmg
  exact law_callD (hY w _ Y) G.T.g G.T.b G.T.builtins G.T.nolimit hg hobj hints hlen hr ((G.T.seer hi).mods.imp fun _ h => h.1) hF hb
/-- the law's def, from its body's reading: Φ is the plain one -/
theorem law_mk {P : Program} {w : World} {K : PySem.W.Frag} {mg : Str → Option Value} {base : Heap} {x qual : Str} {st : Stmt} {f : Addr} {fd : FuncData} {N : List Str} {p : Str} {k : Nat} (F : Fun K x qual st f fd) (Sc : FnScope N [p] (defScope st)) {m : MS OH}
    (hb : ∀ (cdv : Value) (A : Around) (outer : List Env) (s : Shared) (H : Hp) (E : XK), OFrm (cxOf (L2.CX P w) P w K mg base N qual (defScope st) f cdv A outer s H E).K (cxOf (L2.CX P w) P w K mg base N qual (defScope st) f cdv A outer s H E).mg (Phi K mg) → Rm k (cxOf (L2.CX P w) P w K mg base N qual (defScope st) f cdv A outer s H E) →
      ∃ ts, DSs (cxOf (L2.CX P w) P w K mg base N qual (defScope st) f cdv A outer s H E) (Phi K mg) (fun cls d _ H' => E cls d H') (defBody st) ts m)
    (hm : ∀ ns : List Int, ns.length ≤ 63 → bodyF m (N.length - 1) [.frz (ns.map D.int)] (fun _ => none) (fun d _ => d = .bl true) R0) : FnS P w K mg base (k + 1) f fd [p] (spLawD K) := by
  obtain ⟨oc, od, kV, doc, pm, an, cdv, ct, osl, rfl, lk, hcd⟩ := F.ex
  refine fnS_of lk hcd Sc (fun vs H Q E ⟨a, ns, e, _⟩ => by rw [e]; rfl) fun A outer s H vs Q E hr hgd ⟨a, ns, ev, hS, hl, hQ⟩ => ?_
  subst ev
  obtain ⟨ts, d⟩ := hb cdv A outer s H E (inferInstance : OFrm K mg (Phi K mg)) ⟨hr, hgd⟩
  refine ⟨ts, d.pss, ?_⟩
  have f0 : Phi K mg (fun _ => none) H H := ⟨Same.refl H, fun a x e => nomatch e⟩
  have r : RpL K mg H [V.ref a] [.frz (ns.map D.int)] := .cons (.frz hS (rI H ns)) .nil
  have r0 := start_rel (N := N) r
  refine d.sem _ _ _ H H _ _ r0 f0 (hm ns hl) ⟨fun σ ρ s G' H' p _ _ _ => ?_, fun d s v G' H' p e q r => ?_, fun _ _ _ _ _ p => p.elim, fun _ _ _ _ _ p => p.elim, fun _ _ _ _ _ _ _ _ p => p.elim⟩
  · cases p
  · subst p
    cases r
    exact hQ H'
end DL

set_option Elab.async false
set_option linter.all false
set_option maxRecDepth 100000
set_option maxHeartbeats 4000000
namespace K01
open PySem PySem.Spec PyProof.Rows L2 DL
def top (i : Nat) : Stmt := PySem.Challenge.pw_pictureframes_k01_valid_pictures.main.body.getD i (.Pass ⟨0, 0, 0, 0⟩)
abbrev s_is_whole : Stmt := top 6
theorem sc_is_whole : FnScope ["value"] ["value"] (defScope s_is_whole) := ⟨rfl, rfl, rfl, by decide +kernel, rfl, by decide +kernel, by decide +kernel⟩
abbrev s_is_count : Stmt := top 7
theorem sc_is_count : FnScope ["value"] ["value"] (defScope s_is_count) := ⟨rfl, rfl, rfl, by decide +kernel, rfl, by decide +kernel, by decide +kernel⟩
abbrev s_is_colour : Stmt := top 8
theorem sc_is_colour : FnScope ["value"] ["value"] (defScope s_is_colour) := ⟨rfl, rfl, rfl, by decide +kernel, rfl, by decide +kernel, by decide +kernel⟩
abbrev s_is_row : Stmt := top 10
theorem sc_is_row : FnScope ["value", "cell"] ["value"] (defScope s_is_row) := ⟨rfl, rfl, rfl, by decide +kernel, rfl, by decide +kernel, by decide +kernel⟩
abbrev s_is_grid : Stmt := top 11
theorem sc_is_grid : FnScope ["value", "row"] ["value"] (defScope s_is_grid) := ⟨rfl, rfl, rfl, by decide +kernel, rfl, by decide +kernel, by decide +kernel⟩
abbrev s_InvalidPicture_init_ : Stmt := inClass (top 3) 0
theorem sc_InvalidPicture_init_ : FnScope ["self", "value"] ["self", "value"] (defScope s_InvalidPicture_init_) := ⟨rfl, rfl, rfl, by decide +kernel, rfl, by decide +kernel, by decide +kernel⟩
abbrev s_Picture_init_ : Stmt := inClass (top 12) 0
theorem sc_Picture_init_ : FnScope ["self", "rows", "row"] ["self", "rows"] (defScope s_Picture_init_) := ⟨rfl, rfl, rfl, by decide +kernel, rfl, by decide +kernel, by decide +kernel⟩
abbrev s_Picture_rows : Stmt := inClass (top 12) 3
theorem sc_Picture_rows : FnScope ["self"] ["self"] (defScope s_Picture_rows) := ⟨rfl, rfl, rfl, by decide +kernel, rfl, by decide +kernel, by decide +kernel⟩
abbrev s_Picture_height : Stmt := inClass (top 12) 4
theorem sc_Picture_height : FnScope ["self"] ["self"] (defScope s_Picture_height) := ⟨rfl, rfl, rfl, by decide +kernel, rfl, by decide +kernel, by decide +kernel⟩
abbrev s_Picture_width : Stmt := inClass (top 12) 5
theorem sc_Picture_width : FnScope ["self"] ["self"] (defScope s_Picture_width) := ⟨rfl, rfl, rfl, by decide +kernel, rfl, by decide +kernel, by decide +kernel⟩
abbrev s_Picture_eq_ : Stmt := inClass (top 12) 14
theorem sc_Picture_eq_ : FnScope ["self", "other"] ["self", "other"] (defScope s_Picture_eq_) := ⟨rfl, rfl, rfl, by decide +kernel, rfl, by decide +kernel, by decide +kernel⟩
abbrev s_Picture_repr_ : Stmt := inClass (top 12) 15
theorem sc_Picture_repr_ : FnScope ["self"] ["self"] (defScope s_Picture_repr_) := ⟨rfl, rfl, rfl, by decide +kernel, rfl, by decide +kernel, by decide +kernel⟩
abbrev s_l_pool : Stmt := top 14
theorem sc_l_pool : FnScope ["script", "k", "cell", "great", "mixed"] ["script", "k"] (defScope s_l_pool) := ⟨rfl, rfl, rfl, by decide +kernel, rfl, by decide +kernel, by decide +kernel⟩
abbrev s_l_draw : Stmt := top 15
theorem sc_l_draw : FnScope ["pool", "many", "found"] ["pool", "many"] (defScope s_l_draw) := ⟨rfl, rfl, rfl, by decide +kernel, rfl, by decide +kernel, by decide +kernel⟩
abbrev s_l_random_picture : Stmt := top 16
theorem sc_l_random_picture : FnScope ["pool", "most", "colours", "height", "width", "row", "column"] ["pool", "most", "colours"] (defScope s_l_random_picture) := ⟨rfl, rfl, rfl, by decide +kernel, rfl, by decide +kernel, by decide +kernel⟩
abbrev s_l_tuples : Stmt := top 17
theorem sc_l_tuples : FnScope ["rows", "row"] ["rows"] (defScope s_l_tuples) := ⟨rfl, rfl, rfl, by decide +kernel, rfl, by decide +kernel, by decide +kernel⟩
abbrev s_l_colour : Stmt := top 18
theorem sc_l_colour : FnScope ["thing"] ["thing"] (defScope s_l_colour) := ⟨rfl, rfl, rfl, by decide +kernel, rfl, by decide +kernel, by decide +kernel⟩
abbrev s_l_line : Stmt := top 19
theorem sc_l_line : FnScope ["thing", "one"] ["thing"] (defScope s_l_line) := ⟨rfl, rfl, rfl, by decide +kernel, rfl, by decide +kernel, by decide +kernel⟩
abbrev s_l_grid : Stmt := top 20
theorem sc_l_grid : FnScope ["thing", "row"] ["thing"] (defScope s_l_grid) := ⟨rfl, rfl, rfl, by decide +kernel, rfl, by decide +kernel, by decide +kernel⟩
abbrev s_l_mutated : Stmt := top 21
theorem sc_l_mutated : FnScope ["pool", "rows", "at", "place", "strange", "choice", "row", "changed"] ["pool", "rows"] (defScope s_l_mutated) := ⟨rfl, rfl, rfl, by decide +kernel, rfl, by decide +kernel, by decide +kernel⟩
abbrev s_l_outcome : Stmt := top 22
theorem sc_l_outcome : FnScope ["thing", "e", "picture"] ["thing"] (defScope s_l_outcome) := ⟨rfl, rfl, rfl, by decide +kernel, rfl, by decide +kernel, by decide +kernel⟩
abbrev s_l_holds : Stmt := top 23
theorem sc_l_holds : FnScope ["thing", "found", "rows"] ["thing"] (defScope s_l_holds) := ⟨rfl, rfl, rfl, by decide +kernel, rfl, by decide +kernel, by decide +kernel⟩
abbrev s_law : Stmt := top 24
theorem sc_law : FnScope ["script", "some", "thing", "k", "pool", "rows", "turn", "picture", "kept"] ["script"] (defScope s_law) := ⟨rfl, rfl, rfl, by decide +kernel, rfl, by decide +kernel, by decide +kernel⟩
structure Ad where
  a_is_whole : Addr
  fd_is_whole : FuncData
  a_is_count : Addr
  fd_is_count : FuncData
  a_is_colour : Addr
  fd_is_colour : FuncData
  a_is_row : Addr
  fd_is_row : FuncData
  a_is_grid : Addr
  fd_is_grid : FuncData
  a_InvalidPicture_init_ : Addr
  fd_InvalidPicture_init_ : FuncData
  a_Picture_init_ : Addr
  fd_Picture_init_ : FuncData
  a_Picture_rows : Addr
  fd_Picture_rows : FuncData
  a_Picture_height : Addr
  fd_Picture_height : FuncData
  a_Picture_width : Addr
  fd_Picture_width : FuncData
  a_Picture_eq_ : Addr
  fd_Picture_eq_ : FuncData
  a_Picture_repr_ : Addr
  fd_Picture_repr_ : FuncData
  a_l_pool : Addr
  fd_l_pool : FuncData
  a_l_draw : Addr
  fd_l_draw : FuncData
  a_l_random_picture : Addr
  fd_l_random_picture : FuncData
  a_l_tuples : Addr
  fd_l_tuples : FuncData
  a_l_colour : Addr
  fd_l_colour : FuncData
  a_l_line : Addr
  fd_l_line : FuncData
  a_l_grid : Addr
  fd_l_grid : FuncData
  a_l_mutated : Addr
  fd_l_mutated : FuncData
  a_l_outcome : Addr
  fd_l_outcome : FuncData
  a_l_holds : Addr
  fd_l_holds : FuncData
  a_law : Addr
  fd_law : FuncData
  c_PictureError : Addr
  c_InvalidPicture : Addr
  c_Picture : Addr
  p_Picture_rows : Addr
  p_Picture_height : Addr
  p_Picture_width : Addr
def is_Picture : D → Option Bool
  | .ins C _ _ => if C = "Picture" then some true else none
  | .tup _ => some false
  | _ => none
def ok_Picture : D → Prop
  | .ins C _ _ => C = "Picture"
  | .tup _ => True
  | _ => False
def cl_InvalidPicture (x : Exn) : Option Bool := if x.cls = "InvalidPicture" then some true else none
def xk_InvalidPicture_PictureError (x : Exn) : Option Bool := if x.cls = "InvalidPicture" then some true else none
structure Tx (K : PySem.W.Frag) (mg : Str → Option Value) (base : Heap) (A : Ad) : Prop where
  mods : ∃ mm, base.Ns sysModules mm
  F_is_whole : Fun K "is_whole" "is_whole" s_is_whole A.a_is_whole A.fd_is_whole
  b_is_whole : Binds K A.fd_is_whole ["value"] []
  g_is_whole : mg "is_whole" = some (.ref A.a_is_whole)
  F_is_count : Fun K "is_count" "is_count" s_is_count A.a_is_count A.fd_is_count
  b_is_count : Binds K A.fd_is_count ["value"] []
  g_is_count : mg "is_count" = some (.ref A.a_is_count)
  F_is_colour : Fun K "is_colour" "is_colour" s_is_colour A.a_is_colour A.fd_is_colour
  b_is_colour : Binds K A.fd_is_colour ["value"] []
  g_is_colour : mg "is_colour" = some (.ref A.a_is_colour)
  F_is_row : Fun K "_is_row" "_is_row" s_is_row A.a_is_row A.fd_is_row
  b_is_row : Binds K A.fd_is_row ["value"] []
  g_is_row : mg "_is_row" = some (.ref A.a_is_row)
  F_is_grid : Fun K "_is_grid" "_is_grid" s_is_grid A.a_is_grid A.fd_is_grid
  b_is_grid : Binds K A.fd_is_grid ["value"] []
  g_is_grid : mg "_is_grid" = some (.ref A.a_is_grid)
  F_InvalidPicture_init_ : Fun K "__init__" "InvalidPicture.__init__" s_InvalidPicture_init_ A.a_InvalidPicture_init_ A.fd_InvalidPicture_init_
  b_InvalidPicture_init_ : Binds K A.fd_InvalidPicture_init_ ["self", "value"] []
  F_Picture_init_ : Fun K "__init__" "Picture.__init__" s_Picture_init_ A.a_Picture_init_ A.fd_Picture_init_
  b_Picture_init_ : Binds K A.fd_Picture_init_ ["self", "rows"] []
  F_Picture_rows : Fun K "rows" "Picture.rows" s_Picture_rows A.a_Picture_rows A.fd_Picture_rows
  b_Picture_rows : Binds K A.fd_Picture_rows ["self"] []
  F_Picture_height : Fun K "height" "Picture.height" s_Picture_height A.a_Picture_height A.fd_Picture_height
  b_Picture_height : Binds K A.fd_Picture_height ["self"] []
  F_Picture_width : Fun K "width" "Picture.width" s_Picture_width A.a_Picture_width A.fd_Picture_width
  b_Picture_width : Binds K A.fd_Picture_width ["self"] []
  F_Picture_eq_ : Fun K "__eq__" "Picture.__eq__" s_Picture_eq_ A.a_Picture_eq_ A.fd_Picture_eq_
  b_Picture_eq_ : Binds K A.fd_Picture_eq_ ["self", "other"] []
  F_Picture_repr_ : Fun K "__repr__" "Picture.__repr__" s_Picture_repr_ A.a_Picture_repr_ A.fd_Picture_repr_
  b_Picture_repr_ : Binds K A.fd_Picture_repr_ ["self"] []
  F_l_pool : Fun K "_law_pool" "_law_pool" s_l_pool A.a_l_pool A.fd_l_pool
  b_l_pool : Binds K A.fd_l_pool ["script", "k"] []
  g_l_pool : mg "_law_pool" = some (.ref A.a_l_pool)
  F_l_draw : Fun K "_law_draw" "_law_draw" s_l_draw A.a_l_draw A.fd_l_draw
  b_l_draw : Binds K A.fd_l_draw ["pool", "many"] []
  g_l_draw : mg "_law_draw" = some (.ref A.a_l_draw)
  F_l_random_picture : Fun K "_law_random_picture" "_law_random_picture" s_l_random_picture A.a_l_random_picture A.fd_l_random_picture
  b_l_random_picture : Binds K A.fd_l_random_picture ["pool", "most", "colours"] []
  g_l_random_picture : mg "_law_random_picture" = some (.ref A.a_l_random_picture)
  F_l_tuples : Fun K "_law_tuples" "_law_tuples" s_l_tuples A.a_l_tuples A.fd_l_tuples
  b_l_tuples : Binds K A.fd_l_tuples ["rows"] []
  g_l_tuples : mg "_law_tuples" = some (.ref A.a_l_tuples)
  F_l_colour : Fun K "_law_colour" "_law_colour" s_l_colour A.a_l_colour A.fd_l_colour
  b_l_colour : Binds K A.fd_l_colour ["thing"] []
  g_l_colour : mg "_law_colour" = some (.ref A.a_l_colour)
  F_l_line : Fun K "_law_line" "_law_line" s_l_line A.a_l_line A.fd_l_line
  b_l_line : Binds K A.fd_l_line ["thing"] []
  g_l_line : mg "_law_line" = some (.ref A.a_l_line)
  F_l_grid : Fun K "_law_grid" "_law_grid" s_l_grid A.a_l_grid A.fd_l_grid
  b_l_grid : Binds K A.fd_l_grid ["thing"] []
  g_l_grid : mg "_law_grid" = some (.ref A.a_l_grid)
  F_l_mutated : Fun K "_law_mutated" "_law_mutated" s_l_mutated A.a_l_mutated A.fd_l_mutated
  b_l_mutated : Binds K A.fd_l_mutated ["pool", "rows"] []
  g_l_mutated : mg "_law_mutated" = some (.ref A.a_l_mutated)
  F_l_outcome : Fun K "_law_outcome" "_law_outcome" s_l_outcome A.a_l_outcome A.fd_l_outcome
  b_l_outcome : Binds K A.fd_l_outcome ["thing"] []
  g_l_outcome : mg "_law_outcome" = some (.ref A.a_l_outcome)
  F_l_holds : Fun K "_law_holds" "_law_holds" s_l_holds A.a_l_holds A.fd_l_holds
  b_l_holds : Binds K A.fd_l_holds ["thing"] []
  g_l_holds : mg "_law_holds" = some (.ref A.a_l_holds)
  F_law : Fun K "law" "law" s_law A.a_law A.fd_law
  b_law : Binds K A.fd_law ["script"] []
  g_law : mg "law" = some (.ref A.a_law)
  mg_PictureError : mg "PictureError" = some (.ref A.c_PictureError)
  mg_InvalidPicture : mg "InvalidPicture" = some (.ref A.c_InvalidPicture)
  ox_InvalidPicture : OexC K A.c_InvalidPicture
  oi_InvalidPicture : PySem.W.findIn K (.ref A.c_InvalidPicture) "__init__" = some (some (.ref A.a_InvalidPicture_init_))
  ot_InvalidPicture : PySem.W.typeIn K (.ref A.a_InvalidPicture_init_) = some (.type "function")
  no_InvalidPicture : PySem.W.findIn K (.ref A.c_InvalidPicture) "value" = some none
  xc_InvalidPicture : XcT K A.c_InvalidPicture "value"
  xi_InvalidPicture : ExcC K A.c_InvalidPicture
  cl'_InvalidPicture : ∀ (x : Exn) (b : Bool) (cls : Value), mg x.cls = some cls → cl_InvalidPicture x = some b → PySem.W.exmOne K cls (.ref A.c_InvalidPicture) = some b
  xk_InvalidPicture_PictureError : ∀ (x : Exn) (b : Bool), xk_InvalidPicture_PictureError x = some b → PySem.W.kitOne K (.ref A.c_InvalidPicture) (.ref A.c_PictureError) = some b
  mg_Picture : mg "Picture" = some (.ref A.c_Picture)
  cl_Picture : Cls K A.c_Picture
  mk_Picture : Mk K A.c_Picture A.a_Picture_init_
  na_Picture_rows : NoAttr K A.c_Picture "_rows"
  pr_Picture_rows : PropOf K A.c_Picture "rows" A.p_Picture_rows A.a_Picture_rows
  pr_Picture_height : PropOf K A.c_Picture "height" A.p_Picture_height A.a_Picture_height
  pr_Picture_width : PropOf K A.c_Picture "width" A.p_Picture_width A.a_Picture_width
  eq_Picture : PySem.W.findIn K (.ref A.c_Picture) "__eq__" = some (some (.ref A.a_Picture_eq_))
  fn_Picture_eq_ : PySem.W.isFn K (.ref A.a_Picture_eq_) = true
  ty_Picture : EqT K mg A.c_Picture ok_Picture
  is_Picture : IsiC K mg A.c_Picture is_Picture
  re_Picture : PySem.W.findIn K (.ref A.c_Picture) "__repr__" = some (some (.ref A.a_Picture_repr_))
  fn_Picture_repr_ : PySem.W.isFn K (.ref A.a_Picture_repr_) = true
  n_isinstance : mg "isinstance" = none
  n_len : mg "len" = none
  n_all : mg "all" = none
  n_tuple : mg "tuple" = none
  n_repr : mg "repr" = none
  n_abs : mg "abs" = none
  n_int : mg "int" = none
  n_bool : mg "bool" = none
  n_list : mg "list" = none
  n_sum : mg "sum" = none
  n_range : mg "range" = none
  n_max : mg "max" = none
  n_min : mg "min" = none
section
variable {P : Program} {w : World} {K : PySem.W.Frag} {mg : Str → Option Value} {base : Heap} {A : Ad}
def m_is_whole : MS OH := (sRet (mAndV (mIsi ["int"] (mVar 0)) (mNotV (mIsi ["bool"] (mVar 0)))))
def g_is_whole : WF := bodyF m_is_whole 0
theorem ok_is_whole (T : Tx K mg base A) : FnG P w K mg base 2 A.a_is_whole A.fd_is_whole ["value"] g_is_whole := by
  refine fnG_mk (m := m_is_whole) T.F_is_whole sc_is_whole (fun Φ cdv A' outer s H E iΦ hr => ?_) (fun ds O Pd R hl h => h)
  exact ⟨_, (dss_one (ds_ret (de_and (de_isi (by rfl) T.n_isinstance (de_var 0) (pe_tyn (T := "int") (by rfl) T.n_int (by decide +kernel))) (de_one (de_not (de_isi (by rfl) T.n_isinstance (de_var 0) (pe_tyn (T := "bool") (by rfl) T.n_bool (by decide +kernel))))))))⟩
def m_is_count : MS OH := (sRet (mAndV (mCall g_is_whole 1 [] (mCons (mVar 0) mNil)) (mBin wGe (mVar 0) (mC (.int 0)))))
def g_is_count : WF := bodyF m_is_count 0
theorem ok_is_count (T : Tx K mg base A) : FnG P w K mg base 3 A.a_is_count A.fd_is_count ["value"] g_is_count := by
  refine fnG_mk (m := m_is_count) T.F_is_count sc_is_count (fun Φ cdv A' outer s H E iΦ hr => ?_) (fun ds O Pd R hl h => h)
  exact ⟨_, (dss_one (ds_ret (de_and (de_call (ok_is_whole T) (hr.mono (by decide)) (by rfl) T.g_is_whole T.F_is_whole.kp T.b_is_whole .nil (fun _ => .nil) (takes_of rfl rfl rfl rfl) (da_cons (de_var 0) da_nil)) (de_one (de_cmp o_ge (de_var 0) de_int)))))⟩
def m_is_colour : MS OH := (sRet (mCall g_is_count 1 [] (mCons (mVar 0) mNil)))
def g_is_colour : WF := bodyF m_is_colour 0
theorem ok_is_colour (T : Tx K mg base A) : FnG P w K mg base 4 A.a_is_colour A.fd_is_colour ["value"] g_is_colour := by
  refine fnG_mk (m := m_is_colour) T.F_is_colour sc_is_colour (fun Φ cdv A' outer s H E iΦ hr => ?_) (fun ds O Pd R hl h => h)
  exact ⟨_, (dss_one (ds_ret (de_call (ok_is_count T) (hr.mono (by decide)) (by rfl) T.g_is_count T.F_is_count.kp T.b_is_count .nil (fun _ => .nil) (takes_of rfl rfl rfl rfl) (da_cons (de_var 0) da_nil))))⟩
def m_is_row : MS OH := (sSeq (sIf (mOr (mNot (mTest (mIsi ["list", "tuple"] (mVar 0)))) (mTest (mBin wEq' (mFn wLen (mCons (mVar 0) mNil)) (mC (.int 0))))) (sRet (mC (.bl false))) sNil) (sRet (mFn wAll (mCons (mLc (mSeq (mVar 0)) (gNm 1) mYes (mCall g_is_colour 1 [] (mCons (mVar 1) mNil)) [1]) mNil))))
def g_is_row : WF := bodyF m_is_row 1
theorem ok_is_row (T : Tx K mg base A) : FnG P w K mg base 5 A.a_is_row A.fd_is_row ["value"] g_is_row := by
  refine fnG_mk (m := m_is_row) T.F_is_row sc_is_row (fun Φ cdv A' outer s H E iΦ hr => ?_) (fun ds O Pd R hl h => h)
  exact ⟨_, (dss_cons (ds_if (DW.dt (dw_or (dt_not (dt_val (de_isiT (l := ["list", "tuple"]) (by rfl) T.n_isinstance (de_var 0) (pa_cons (pe_tyn (by rfl) T.n_list (by decide +kernel)) (pa_cons (pe_tyn (by rfl) T.n_tuple (by decide +kernel)) pa_nil)) (fun _ _ _ h => h) (by decide)))) (dw_or1 (dt_cmp (o_eq' hr.units) (de_callB (f_len) (by rfl) T.n_len (by decide +kernel) (da_cons (de_var 0) da_nil)) de_int)))) (dss_one (ds_ret de_bl)) dss_nil) (dss_one (ds_ret (de_callB (f_all rfl) (by rfl) T.n_all (by decide +kernel) (da_cons (de_lcE rfl sc_is_row.nd (own := [("cell", 1)]) (di_seq (de_var 0)) (blkOk_by (N := ["value", "cell"]) (sc := defScope s_is_row) (by decide +kernel)) (fun _ _ _ _ _ _ _ => (dg_name (i := 1) sc_is_row.nd rfl (by first | exact Or.inl rfl | exact Or.inr rfl))) (fun _ _ _ _ _ _ _ => ⟨_, dts_nil⟩) (fun _ _ _ _ _ _ _ => ⟨_, (de_call (ok_is_colour T) ((rmB hr).mono (by decide)) (by rfl) T.g_is_colour T.F_is_colour.kp T.b_is_colour .nil (fun _ => .nil) takes0 (da_cons (de_var 1) da_nil))⟩)) da_nil)))))⟩
def m_is_grid : MS OH := (sSeq (sIf (mOr (mNot (mTest (mIsi ["list", "tuple"] (mVar 0)))) (mTest (mBin wEq' (mFn wLen (mCons (mVar 0) mNil)) (mC (.int 0))))) (sRet (mC (.bl false))) sNil) (sSeq (sIf (mNot (mTest (mFn wAll (mCons (mLc (mSeq (mVar 0)) (gNm 1) mYes (mCall g_is_row 1 [] (mCons (mVar 1) mNil)) [1]) mNil)))) (sRet (mC (.bl false))) sNil) (sRet (mFn wAll (mCons (mLc (mSeq (mVar 0)) (gNm 1) mYes (mBin wEq' (mFn wLen (mCons (mVar 1) mNil)) (mFn wLen (mCons (mBin wIx (mVar 0) (mC (.int 0))) mNil))) [1]) mNil)))))
def g_is_grid : WF := bodyF m_is_grid 1
theorem ok_is_grid (T : Tx K mg base A) : FnG P w K mg base 6 A.a_is_grid A.fd_is_grid ["value"] g_is_grid := by
  refine fnG_mk (m := m_is_grid) T.F_is_grid sc_is_grid (fun Φ cdv A' outer s H E iΦ hr => ?_) (fun ds O Pd R hl h => h)
  exact ⟨_, (dss_cons (ds_if (DW.dt (dw_or (dt_not (dt_val (de_isiT (l := ["list", "tuple"]) (by rfl) T.n_isinstance (de_var 0) (pa_cons (pe_tyn (by rfl) T.n_list (by decide +kernel)) (pa_cons (pe_tyn (by rfl) T.n_tuple (by decide +kernel)) pa_nil)) (fun _ _ _ h => h) (by decide)))) (dw_or1 (dt_cmp (o_eq' hr.units) (de_callB (f_len) (by rfl) T.n_len (by decide +kernel) (da_cons (de_var 0) da_nil)) de_int)))) (dss_one (ds_ret de_bl)) dss_nil) (dss_cons (ds_if (dt_not (dt_val (de_callB (f_all rfl) (by rfl) T.n_all (by decide +kernel) (da_cons (de_lcE rfl sc_is_grid.nd (own := [("row", 1)]) (di_seq (de_var 0)) (blkOk_by (N := ["value", "row"]) (sc := defScope s_is_grid) (by decide +kernel)) (fun _ _ _ _ _ _ _ => (dg_name (i := 1) sc_is_grid.nd rfl (by first | exact Or.inl rfl | exact Or.inr rfl))) (fun _ _ _ _ _ _ _ => ⟨_, dts_nil⟩) (fun _ _ _ _ _ _ _ => ⟨_, (de_call (ok_is_row T) ((rmB hr).mono (by decide)) (by rfl) T.g_is_row T.F_is_row.kp T.b_is_row .nil (fun _ => .nil) takes0 (da_cons (de_var 1) da_nil))⟩)) da_nil)))) (dss_one (ds_ret de_bl)) dss_nil) (dss_one (ds_ret (de_callB (f_all rfl) (by rfl) T.n_all (by decide +kernel) (da_cons (de_lcE rfl sc_is_grid.nd (own := [("row", 1)]) (di_seq (de_var 0)) (blkOk_by (N := ["value", "row"]) (sc := defScope s_is_grid) (by decide +kernel)) (fun _ _ _ _ _ _ _ => (dg_name (i := 1) sc_is_grid.nd rfl (by first | exact Or.inl rfl | exact Or.inr rfl))) (fun _ _ _ _ _ _ _ => ⟨_, dts_nil⟩) (fun _ _ _ _ _ _ _ => ⟨_, (de_cmp (o_eq' (rmB hr).units) (de_callB (f_len) (by rfl) T.n_len (by decide +kernel) (da_cons (de_var 1) da_nil)) (de_callB (f_len) (by rfl) T.n_len (by decide +kernel) (da_cons (de_ix x_seq (de_var 0) de_int) da_nil)))⟩)) da_nil))))))⟩
theorem ok_InvalidPicture_init_ (T : Tx K mg base A) : FnOk P w K mg base CX0 1 A.a_InvalidPicture_init_ A.fd_InvalidPicture_init_ ["self", "value"] (spXI A.c_InvalidPicture "value") := by
  refine ok_xinit T.F_InvalidPicture_init_ sc_InvalidPicture_init_ T.ox_InvalidPicture T.no_InvalidPicture fun X eK eN eS => ⟨tVar 0, tVar 1, pss_one ?_, fun u y H Q h => ⟨y, rfl, h⟩, fun u y H Q h => ⟨u, rfl, h⟩⟩
  subst eK
  exact ps_ost (pe_var (by rw [eN]; rfl) (by rw [eS]; exact Or.inl rfl)) (pe_var (by rw [eN]; rfl) (by rw [eS]; exact Or.inl rfl)) (by first | rfl | (simp [swapsWith]))
def m_Picture_init_ : MS OH := (sSeq (sIf (mNot (mTest (mCall g_is_grid 1 [] (mCons (mVar 1) mNil)))) (sRaise "InvalidPicture" "value" (mCons (mVar 1) mNil)) sNil) (sFldD "Picture" "_rows" (mVar 0) (mFn wTuple (mCons (mLc (mSeq (mVar 1)) (gNm 2) mYes (mFn wTuple (mCons (mVar 2) mNil)) [2]) mNil))))
def g_Picture_init_ : WF := bodyF m_Picture_init_ 1
theorem ok_Picture_init_ (T : Tx K mg base A) : FnG P w K mg base 7 A.a_Picture_init_ A.fd_Picture_init_ ["self", "rows"] g_Picture_init_ := by
  refine fnG_mk (m := m_Picture_init_) T.F_Picture_init_ sc_Picture_init_ (fun Φ cdv A' outer s H E iΦ hr => ?_) (fun ds O Pd R hl h => h)
  exact ⟨_, (dss_cons (ds_if (dt_not (dt_val (de_call (ok_is_grid T) (hr.mono (by decide)) (by rfl) T.g_is_grid T.F_is_grid.kp T.b_is_grid .nil (fun _ => .nil) (takes_of rfl rfl rfl rfl) (da_cons (de_var 1) da_nil)))) (dss_one (ds_raise T.ox_InvalidPicture T.oi_InvalidPicture T.ot_InvalidPicture (ok_InvalidPicture_init_ T) (hr.mono (by decide : 2 ≤ _)) T.b_InvalidPicture_init_ (by rfl) T.mg_InvalidPicture rfl (takes_of rfl rfl rfl rfl) (da_cons (de_var 1) da_nil))) dss_nil) (dss_one (ds_fld T.cl_Picture T.mg_Picture T.na_Picture_rows (de_var 0) (de_callTy f_tuple (by rfl) T.n_tuple (by decide +kernel) (da_cons (de_lcE rfl sc_Picture_init_.nd (own := [("row", 2)]) (di_seq (de_var 1)) (blkOk_by (N := ["self", "rows", "row"]) (sc := defScope s_Picture_init_) (by decide +kernel)) (fun _ _ _ _ _ _ _ => (dg_name (i := 2) sc_Picture_init_.nd rfl (by first | exact Or.inl rfl | exact Or.inr rfl))) (fun _ _ _ _ _ _ _ => ⟨_, dts_nil⟩) (fun _ _ _ _ _ _ _ => ⟨_, (de_callTy f_tuple (by rfl) T.n_tuple (by decide +kernel) (da_cons (de_var 2) da_nil))⟩)) da_nil)))))⟩
def m_Picture_rows : MS OH := (sRet (mFld "Picture" "_rows" (mVar 0)))
def g_Picture_rows : WF := bodyF m_Picture_rows 0
theorem ok_Picture_rows (T : Tx K mg base A) : FnG P w K mg base 2 A.a_Picture_rows A.fd_Picture_rows ["self"] g_Picture_rows := by
  refine fnG_mk (m := m_Picture_rows) T.F_Picture_rows sc_Picture_rows (fun Φ cdv A' outer s H E iΦ hr => ?_) (fun ds O Pd R hl h => h)
  exact ⟨_, (dss_one (ds_ret (de_fld T.cl_Picture T.mg_Picture T.na_Picture_rows (de_var 0))))⟩
def m_Picture_height : MS OH := (sRet (mFn wLen (mCons (mFld "Picture" "_rows" (mVar 0)) mNil)))
def g_Picture_height : WF := bodyF m_Picture_height 0
theorem ok_Picture_height (T : Tx K mg base A) : FnG P w K mg base 2 A.a_Picture_height A.fd_Picture_height ["self"] g_Picture_height := by
  refine fnG_mk (m := m_Picture_height) T.F_Picture_height sc_Picture_height (fun Φ cdv A' outer s H E iΦ hr => ?_) (fun ds O Pd R hl h => h)
  exact ⟨_, (dss_one (ds_ret (de_callB (f_len) (by rfl) T.n_len (by decide +kernel) (da_cons (de_fld T.cl_Picture T.mg_Picture T.na_Picture_rows (de_var 0)) da_nil))))⟩
def m_Picture_width : MS OH := (sRet (mFn wLen (mCons (mBin wIx (mFld "Picture" "_rows" (mVar 0)) (mC (.int 0))) mNil)))
def g_Picture_width : WF := bodyF m_Picture_width 0
theorem ok_Picture_width (T : Tx K mg base A) : FnG P w K mg base 2 A.a_Picture_width A.fd_Picture_width ["self"] g_Picture_width := by
  refine fnG_mk (m := m_Picture_width) T.F_Picture_width sc_Picture_width (fun Φ cdv A' outer s H E iΦ hr => ?_) (fun ds O Pd R hl h => h)
  exact ⟨_, (dss_one (ds_ret (de_callB (f_len) (by rfl) T.n_len (by decide +kernel) (da_cons (de_ix x_seq (de_fld T.cl_Picture T.mg_Picture T.na_Picture_rows (de_var 0)) de_int) da_nil))))⟩
def m_Picture_eq_ : MS OH := (sRet (mAndV (mIsiC is_Picture (mVar 1)) (mBin wEq' (mFld "Picture" "_rows" (mVar 0)) (mFld "Picture" "_rows" (mVar 1)))))
def g_Picture_eq_ : WF := bodyF m_Picture_eq_ 0
theorem ok_Picture_eq_ (T : Tx K mg base A) : FnG P w K mg base 2 A.a_Picture_eq_ A.fd_Picture_eq_ ["self", "other"] g_Picture_eq_ := by
  refine fnG_mk (m := m_Picture_eq_) T.F_Picture_eq_ sc_Picture_eq_ (fun Φ cdv A' outer s H E iΦ hr => ?_) (fun ds O Pd R hl h => h)
  exact ⟨_, (dss_one (ds_ret (de_and (de_isiC T.is_Picture (by rfl) T.n_isinstance (by rfl) T.mg_Picture (de_var 1)) (de_one (de_cmp (o_eq' hr.units) (de_fld T.cl_Picture T.mg_Picture T.na_Picture_rows (de_var 0)) (de_fld T.cl_Picture T.mg_Picture T.na_Picture_rows (de_var 1)))))))⟩
def m_Picture_repr_ : MS OH := (sRet (mJoin ((mC (.str "Picture(")) :: ((mShow (mFld "Picture" "_rows" (mVar 0))) :: ((mC (.str ")")) :: [])))))
def g_Picture_repr_ : WF := bodyF m_Picture_repr_ 0
theorem ok_Picture_repr_ (T : Tx K mg base A) : FnG P w K mg base 2 A.a_Picture_repr_ A.fd_Picture_repr_ ["self"] g_Picture_repr_ := by
  refine fnG_mk (m := m_Picture_repr_) T.F_Picture_repr_ sc_Picture_repr_ (fun Φ cdv A' outer s H E iΦ hr => ?_) (fun ds O Pd R hl h => h)
  exact ⟨_, (dss_one (ds_ret (de_join (DJ.cons de_str (DJ.cons (de_show T.mods hr.gd hr.units (de_fld T.cl_Picture T.mg_Picture T.na_Picture_rows (de_var 0))) (DJ.cons de_str DJ.nil))))))⟩
def m_l_pool : MS OH := (sSeq (sSet 2 (mBin wAdd (mBin wMul (mC (.int 11)) (mFn wSum (mCons (mSl (mVar 0) mPn (mPs (mC (.int 63)))) mNil))) (mVar 1))) (sSeq (sIf (mTest (mBin wLt (mVar 1) (mFn wLen (mCons (mVar 0) mNil)))) (sSet 2 (mBin wIx (mVar 0) (mVar 1))) sNil) (sSeq (sSet 3 (mFn wAbs (mCons (mVar 2) mNil))) (sSeq (sSet 4 (mBin wMod (mBin wMul (mBin wAdd (mBin wAdd (mBin wAdd (mBin wMod (mVar 3) (mC (.int 2147483629))) (mBin wMul (mBin wMul (mC (.int 7919)) (mVar 1)) (mVar 1))) (mBin wMul (mC (.int 31)) (mVar 1))) (mC (.int 17))) (mC (.int 48271))) (mC (.int 2147483647)))) (sRet (mLstO (mCons (mBin wMul (mVar 3) (mFn wInt (mCons (mBin wGe (mVar 3) (mBin wPow (mC (.int 10)) (mC (.int 18)))) mNil))) (mCons (mBin wMod (mBin wMul (mVar 4) (mVar 4)) (mC (.int 2147483629))) mNil))))))))
def g_l_pool : WF := bodyF m_l_pool 3
theorem ok_l_pool (T : Tx K mg base A) : FnG P w K mg base 2 A.a_l_pool A.fd_l_pool ["script", "k"] g_l_pool := by
  refine fnG_mk (m := m_l_pool) T.F_l_pool sc_l_pool (fun Φ cdv A' outer s H E iΦ hr => ?_) (fun ds O Pd R hl h => h)
  exact ⟨_, (dss_cons (ds_set (i := 2) sc_l_pool.nd rfl (by first | exact Or.inl rfl | exact Or.inr rfl) (de_bin o_add (de_bin o_mul de_int (de_callB (f_sum rfl) (by rfl) T.n_sum (by decide +kernel) (da_cons (de_sl (de_var 0) do_none (do_some de_int)) da_nil))) (de_var 1))) (dss_cons (ds_if (dt_cmp o_lt (de_var 1) (de_callB (f_len) (by rfl) T.n_len (by decide +kernel) (da_cons (de_var 0) da_nil))) (dss_one (ds_set (i := 2) sc_l_pool.nd rfl (by first | exact Or.inl rfl | exact Or.inr rfl) (de_ix x_seq (de_var 0) (de_var 1)))) dss_nil) (dss_cons (ds_set (i := 3) sc_l_pool.nd rfl (by first | exact Or.inl rfl | exact Or.inr rfl) (de_callB (f_abs) (by rfl) T.n_abs (by decide +kernel) (da_cons (de_var 2) da_nil))) (dss_cons (ds_set (i := 4) sc_l_pool.nd rfl (by first | exact Or.inl rfl | exact Or.inr rfl) (de_bin o_mod (de_bin o_mul (de_bin o_add (de_bin o_add (de_bin o_add (de_bin o_mod (de_var 3) de_int) (de_bin o_mul (de_bin o_mul de_int (de_var 1)) (de_var 1))) (de_bin o_mul de_int (de_var 1))) de_int) de_int) de_int)) (dss_one (ds_ret (de_lstO (da_cons (de_bin o_mul (de_var 3) (de_callTy f_int (by rfl) T.n_int (by decide +kernel) (da_cons (de_cmp o_ge (de_var 3) (de_bin o_pow de_int de_int)) da_nil))) (da_cons (de_bin o_mod (de_bin o_mul (de_var 4) (de_var 4)) de_int) da_nil)))))))))⟩
def m_l_draw : MS OH := (sSeq (sIf (mTest (mBin wGt (mIxO (mVar 0) (mC (.int 0))) (mC (.int 0)))) (sSeq (sSet 2 (mBin wMod (mIxO (mVar 0) (mC (.int 0))) (mVar 1))) (sSeq (sAsg (mBin wDiv (mIxO (mVar 0) (mC (.int 0))) (mVar 1)) (gSubO (mVar 0) (mC (.int 0)))) (sRet (mVar 2)))) sNil) (sSeq (sAsg (mBin wMod (mBin wAdd (mBin wMul (mIxO (mVar 0) (mC (.int 1))) (mC (.int 48271))) (mC (.int 11))) (mC (.int 2147483647))) (gSubO (mVar 0) (mC (.int 1)))) (sRet (mBin wMod (mBin wDiv (mBin wMod (mBin wMul (mIxO (mVar 0) (mC (.int 1))) (mIxO (mVar 0) (mC (.int 1)))) (mC (.int 2147483629))) (mC (.int 16))) (mVar 1)))))
def g_l_draw : WF := bodyF m_l_draw 1
theorem ok_l_draw (T : Tx K mg base A) : FnG P w K mg base 2 A.a_l_draw A.fd_l_draw ["pool", "many"] g_l_draw := by
  refine fnG_mk (m := m_l_draw) T.F_l_draw sc_l_draw (fun Φ cdv A' outer s H E iΦ hr => ?_) (fun ds O Pd R hl h => h)
  exact ⟨_, (dss_cons (ds_if (dt_cmp o_gt (de_ixO (de_var 0) de_int) de_int) (dss_cons (ds_set (i := 2) sc_l_draw.nd rfl (by first | exact Or.inl rfl | exact Or.inr rfl) (de_bin o_mod (de_ixO (de_var 0) de_int) (de_var 1))) (dss_cons (ds_asg (de_bin o_div (de_ixO (de_var 0) de_int) (de_var 1)) (dg_subO (de_var 0) de_int)) (dss_one (ds_ret (de_var 2))))) dss_nil) (dss_cons (ds_asg (de_bin o_mod (de_bin o_add (de_bin o_mul (de_ixO (de_var 0) de_int) de_int) de_int) de_int) (dg_subO (de_var 0) de_int)) (dss_one (ds_ret (de_bin o_mod (de_bin o_div (de_bin o_mod (de_bin o_mul (de_ixO (de_var 0) de_int) (de_ixO (de_var 0) de_int)) de_int) de_int) (de_var 1))))))⟩
def m_l_random_picture : MS OH := (sSeq (sAsg (mTup (mCons (mBin wAdd (mC (.int 1)) (mCall g_l_draw 2 [] (mCons (mVar 0) (mCons (mVar 1) mNil)))) (mCons (mBin wAdd (mC (.int 1)) (mCall g_l_draw 2 [] (mCons (mVar 0) (mCons (mVar 1) mNil)))) mNil))) (gTp 2 (gCn (gNm 3) (gCn (gNm 4) gNl)))) (sRet (mLcO (iRg1 (mCons (mVar 3) mNil)) (gNm 5) mYes (mLcO (iRg1 (mCons (mVar 4) mNil)) (gNm 6) mYes (mCall g_l_draw 2 [] (mCons (mVar 0) (mCons (mVar 2) mNil))) [6]) [5])))
def g_l_random_picture : WF := bodyF m_l_random_picture 4
theorem ok_l_random_picture (T : Tx K mg base A) : FnG P w K mg base 3 A.a_l_random_picture A.fd_l_random_picture ["pool", "most", "colours"] g_l_random_picture := by
  refine fnG_mk (m := m_l_random_picture) T.F_l_random_picture sc_l_random_picture (fun Φ cdv A' outer s H E iΦ hr => ?_) (fun ds O Pd R hl h => h)
  exact ⟨_, (dss_cons (ds_asg (de_tup (da_cons (de_bin o_add de_int (de_call (ok_l_draw T) (hr.mono (by decide)) (by rfl) T.g_l_draw T.F_l_draw.kp T.b_l_draw .nil (fun _ => .nil) (takes_of rfl rfl rfl rfl) (da_cons (de_var 0) (da_cons (de_var 1) da_nil)))) (da_cons (de_bin o_add de_int (de_call (ok_l_draw T) (hr.mono (by decide)) (by rfl) T.g_l_draw T.F_l_draw.kp T.b_l_draw .nil (fun _ => .nil) (takes_of rfl rfl rfl rfl) (da_cons (de_var 0) (da_cons (de_var 1) da_nil)))) da_nil))) (dg_tup rfl (dgs_cons (dg_name (i := 3) sc_l_random_picture.nd rfl (by first | exact Or.inl rfl | exact Or.inr rfl)) (dgs_cons (dg_name (i := 4) sc_l_random_picture.nd rfl (by first | exact Or.inl rfl | exact Or.inr rfl)) dgs_nil)))) (dss_one (ds_ret (de_lcOE rfl sc_l_random_picture.nd (own := [("row", 5)]) (di_range1 (by rfl) T.n_range (da_cons (de_var 3) da_nil)) (blkOk_by (N := ["pool", "most", "colours", "height", "width", "row", "column"]) (sc := defScope s_l_random_picture) (by decide +kernel)) (fun _ _ _ _ _ _ _ => (dg_name (i := 5) sc_l_random_picture.nd rfl (by first | exact Or.inl rfl | exact Or.inr rfl))) (fun _ _ _ _ _ _ _ => ⟨_, dts_nil⟩) (fun _ _ _ _ _ _ _ => ⟨_, (de_lcOE rfl sc_l_random_picture.nd (own := [("column", 6)]) (di_range1 (by rfl) T.n_range (da_cons (de_var 4) da_nil)) (blkOk_in (N := ["pool", "most", "colours", "height", "width", "row", "column"]) (sc0 := defScope s_l_random_picture) (by decide +kernel)) (fun _ _ _ _ _ _ _ => (dg_name (i := 6) sc_l_random_picture.nd rfl (by first | exact Or.inl rfl | exact Or.inr rfl))) (fun _ _ _ _ _ _ _ => ⟨_, dts_nil⟩) (fun _ _ _ _ _ _ _ => ⟨_, (de_call (ok_l_draw T) ((rmB (rmB hr)).mono (by decide)) (by rfl) T.g_l_draw T.F_l_draw.kp T.b_l_draw .nil (fun _ => .nil) takes0 (da_cons (de_var 0) (da_cons (de_var 2) da_nil)))⟩))⟩)))))⟩
def m_l_tuples : MS OH := (sRet (mFn wTuple (mCons (mLc (mSeq (mVar 0)) (gNm 1) mYes (mFn wTuple (mCons (mVar 1) mNil)) [1]) mNil)))
def g_l_tuples : WF := bodyF m_l_tuples 1
theorem ok_l_tuples (T : Tx K mg base A) : FnG P w K mg base 2 A.a_l_tuples A.fd_l_tuples ["rows"] g_l_tuples := by
  refine fnG_mk (m := m_l_tuples) T.F_l_tuples sc_l_tuples (fun Φ cdv A' outer s H E iΦ hr => ?_) (fun ds O Pd R hl h => h)
  exact ⟨_, (dss_one (ds_ret (de_callTy f_tuple (by rfl) T.n_tuple (by decide +kernel) (da_cons (de_lcE rfl sc_l_tuples.nd (own := [("row", 1)]) (di_seq (de_var 0)) (blkOk_by (N := ["rows", "row"]) (sc := defScope s_l_tuples) (by decide +kernel)) (fun _ _ _ _ _ _ _ => (dg_name (i := 1) sc_l_tuples.nd rfl (by first | exact Or.inl rfl | exact Or.inr rfl))) (fun _ _ _ _ _ _ _ => ⟨_, dts_nil⟩) (fun _ _ _ _ _ _ _ => ⟨_, (de_callTy f_tuple (by rfl) T.n_tuple (by decide +kernel) (da_cons (de_var 1) da_nil))⟩)) da_nil))))⟩
def m_l_colour : MS OH := (sRet (mAndV (mIsi ["int"] (mVar 0)) (mAndV (mNotV (mIsi ["bool"] (mVar 0))) (mBin wGe (mVar 0) (mC (.int 0))))))
def g_l_colour : WF := bodyF m_l_colour 0
theorem ok_l_colour (T : Tx K mg base A) : FnG P w K mg base 2 A.a_l_colour A.fd_l_colour ["thing"] g_l_colour := by
  refine fnG_mk (m := m_l_colour) T.F_l_colour sc_l_colour (fun Φ cdv A' outer s H E iΦ hr => ?_) (fun ds O Pd R hl h => h)
  exact ⟨_, (dss_one (ds_ret (de_and (de_isi (by rfl) T.n_isinstance (de_var 0) (pe_tyn (T := "int") (by rfl) T.n_int (by decide +kernel))) (de_and (de_not (de_isi (by rfl) T.n_isinstance (de_var 0) (pe_tyn (T := "bool") (by rfl) T.n_bool (by decide +kernel)))) (de_one (de_cmp o_ge (de_var 0) de_int))))))⟩
def m_l_line : MS OH := (sSeq (sIf (mOr (mNot (mTest (mIsi ["list", "tuple"] (mVar 0)))) (mTest (mBin wEq' (mFn wLen (mCons (mVar 0) mNil)) (mC (.int 0))))) (sRet (mC (.bl false))) sNil) (sRet (mBin wEq' (mLc (mSeq (mVar 0)) (gNm 1) (mNot (mTest (mCall g_l_colour 1 [] (mCons (mVar 1) mNil)))) (mVar 1) [1]) (mLst mNil))))
def g_l_line : WF := bodyF m_l_line 1
theorem ok_l_line (T : Tx K mg base A) : FnG P w K mg base 3 A.a_l_line A.fd_l_line ["thing"] g_l_line := by
  refine fnG_mk (m := m_l_line) T.F_l_line sc_l_line (fun Φ cdv A' outer s H E iΦ hr => ?_) (fun ds O Pd R hl h => h)
  exact ⟨_, (dss_cons (ds_if (DW.dt (dw_or (dt_not (dt_val (de_isiT (l := ["list", "tuple"]) (by rfl) T.n_isinstance (de_var 0) (pa_cons (pe_tyn (by rfl) T.n_list (by decide +kernel)) (pa_cons (pe_tyn (by rfl) T.n_tuple (by decide +kernel)) pa_nil)) (fun _ _ _ h => h) (by decide)))) (dw_or1 (dt_cmp (o_eq' hr.units) (de_callB (f_len) (by rfl) T.n_len (by decide +kernel) (da_cons (de_var 0) da_nil)) de_int)))) (dss_one (ds_ret de_bl)) dss_nil) (dss_one (ds_ret (de_cmp (o_eq' hr.units) (de_lcE rfl sc_l_line.nd (own := [("one", 1)]) (di_seq (de_var 0)) (blkOk_by (N := ["thing", "one"]) (sc := defScope s_l_line) (by decide +kernel)) (fun _ _ _ _ _ _ _ => (dg_name (i := 1) sc_l_line.nd rfl (by first | exact Or.inl rfl | exact Or.inr rfl))) (fun _ _ _ _ _ _ _ => ⟨_, (dts_one (dt_not (dt_val (de_call (ok_l_colour T) ((rmB hr).mono (by decide)) (by rfl) T.g_l_colour T.F_l_colour.kp T.b_l_colour .nil (fun _ => .nil) takes0 (da_cons (de_var 1) da_nil)))))⟩) (fun _ _ _ _ _ _ _ => ⟨_, (de_var 1)⟩)) (de_lst da_nil)))))⟩
def m_l_grid : MS OH := (sSeq (sIf (mOr (mNot (mTest (mIsi ["list", "tuple"] (mVar 0)))) (mTest (mBin wEq' (mFn wLen (mCons (mVar 0) mNil)) (mC (.int 0))))) (sRet (mC (.bl false))) sNil) (sSeq (sIf (mTest (mBin wNe' (mLc (mSeq (mVar 0)) (gNm 1) (mNot (mTest (mCall g_l_line 1 [] (mCons (mVar 1) mNil)))) (mVar 1) [1]) (mLst mNil))) (sRet (mC (.bl false))) sNil) (sRet (mBin wEq' (mLc (mSeq (mVar 0)) (gNm 1) (mTest (mBin wNe' (mFn wLen (mCons (mVar 1) mNil)) (mFn wLen (mCons (mBin wIx (mVar 0) (mC (.int 0))) mNil)))) (mVar 1) [1]) (mLst mNil)))))
def g_l_grid : WF := bodyF m_l_grid 1
theorem ok_l_grid (T : Tx K mg base A) : FnG P w K mg base 4 A.a_l_grid A.fd_l_grid ["thing"] g_l_grid := by
  refine fnG_mk (m := m_l_grid) T.F_l_grid sc_l_grid (fun Φ cdv A' outer s H E iΦ hr => ?_) (fun ds O Pd R hl h => h)
  exact ⟨_, (dss_cons (ds_if (DW.dt (dw_or (dt_not (dt_val (de_isiT (l := ["list", "tuple"]) (by rfl) T.n_isinstance (de_var 0) (pa_cons (pe_tyn (by rfl) T.n_list (by decide +kernel)) (pa_cons (pe_tyn (by rfl) T.n_tuple (by decide +kernel)) pa_nil)) (fun _ _ _ h => h) (by decide)))) (dw_or1 (dt_cmp (o_eq' hr.units) (de_callB (f_len) (by rfl) T.n_len (by decide +kernel) (da_cons (de_var 0) da_nil)) de_int)))) (dss_one (ds_ret de_bl)) dss_nil) (dss_cons (ds_if (dt_cmp (o_ne' hr.units) (de_lcE rfl sc_l_grid.nd (own := [("row", 1)]) (di_seq (de_var 0)) (blkOk_by (N := ["thing", "row"]) (sc := defScope s_l_grid) (by decide +kernel)) (fun _ _ _ _ _ _ _ => (dg_name (i := 1) sc_l_grid.nd rfl (by first | exact Or.inl rfl | exact Or.inr rfl))) (fun _ _ _ _ _ _ _ => ⟨_, (dts_one (dt_not (dt_val (de_call (ok_l_line T) ((rmB hr).mono (by decide)) (by rfl) T.g_l_line T.F_l_line.kp T.b_l_line .nil (fun _ => .nil) takes0 (da_cons (de_var 1) da_nil)))))⟩) (fun _ _ _ _ _ _ _ => ⟨_, (de_var 1)⟩)) (de_lst da_nil)) (dss_one (ds_ret de_bl)) dss_nil) (dss_one (ds_ret (de_cmp (o_eq' hr.units) (de_lcE rfl sc_l_grid.nd (own := [("row", 1)]) (di_seq (de_var 0)) (blkOk_by (N := ["thing", "row"]) (sc := defScope s_l_grid) (by decide +kernel)) (fun _ _ _ _ _ _ _ => (dg_name (i := 1) sc_l_grid.nd rfl (by first | exact Or.inl rfl | exact Or.inr rfl))) (fun _ _ _ _ _ _ _ => ⟨_, (dts_one (dt_cmp (o_ne' (rmB hr).units) (de_callB (f_len) (by rfl) T.n_len (by decide +kernel) (da_cons (de_var 1) da_nil)) (de_callB (f_len) (by rfl) T.n_len (by decide +kernel) (da_cons (de_ix x_seq (de_var 0) de_int) da_nil))))⟩) (fun _ _ _ _ _ _ _ => ⟨_, (de_var 1)⟩)) (de_lst da_nil))))))⟩
def m_l_mutated : MS OH := (sSeq (sPar 2 3 (mCons (mCall g_l_draw 2 [] (mCons (mVar 0) (mCons (mFn wLen (mCons (mVar 1) mNil)) mNil))) (mCons (mCall g_l_draw 2 [] (mCons (mVar 0) (mCons (mFn wLen (mCons (mBin wIx (mVar 1) (mC (.int 0))) mNil)) mNil))) mNil))) (sSeq (sSet 4 (mBin wIx (mLst (mCons (mC .non) (mCons (mC (.bl true)) (mCons (mNeg (mC (.int 1))) (mCons (mC (.str "1")) (mCons (mLst (mCons (mC (.int 1)) mNil)) (mCons (mTup mNil) (mCons (mLst mNil) (mCons (mC (.dic [] [])) (mCons (mC (.int 5)) (mCons (mLst (mCons (mC .non) mNil)) (mCons (mBin wPow (mC (.int 10)) (mC (.int 50))) (mCons (mC (.str "11")) mNil))))))))))))) (mCall g_l_draw 2 [] (mCons (mVar 0) (mCons (mC (.int 12)) mNil))))) (sSeq (sPar 5 6 (mCons (mCall g_l_draw 2 [] (mCons (mVar 0) (mCons (mC (.int 4)) mNil))) (mCons (mBin wIx (mVar 1) (mVar 2)) mNil))) (sSeq (sSet 7 (mBin wAdd (mSl (mVar 6) mPn (mPs (mVar 3))) (mSl (mVar 6) (mPs (mBin wAdd (mVar 3) (mC (.int 1)))) mPn))) (sSeq (sIf (mTest (mBin wEq' (mVar 5) (mC (.int 0)))) (sSet 7 (mVar 4)) (sIf (mTest (mBin wEq' (mVar 5) (mC (.int 1)))) (sSet 7 (mBin wAdd (mBin wAdd (mSl (mVar 6) mPn (mPs (mVar 3))) (mLst (mCons (mVar 4) mNil))) (mSl (mVar 6) (mPs (mBin wAdd (mVar 3) (mC (.int 1)))) mPn))) (sIf (mTest (mBin wEq' (mVar 5) (mC (.int 2)))) (sSet 7 (mBin wAdd (mVar 6) (mLst (mCons (mCall g_l_draw 2 [] (mCons (mVar 0) (mCons (mC (.int 3)) mNil))) mNil)))) sNil))) (sRet (mBin wAdd (mBin wAdd (mSl (mVar 1) mPn (mPs (mVar 2))) (mLst (mCons (mVar 7) mNil))) (mSl (mVar 1) (mPs (mBin wAdd (mVar 2) (mC (.int 1)))) mPn))))))))
def g_l_mutated : WF := bodyF m_l_mutated 6
theorem ok_l_mutated (T : Tx K mg base A) : FnG P w K mg base 3 A.a_l_mutated A.fd_l_mutated ["pool", "rows"] g_l_mutated := by
  refine fnG_mk (m := m_l_mutated) T.F_l_mutated sc_l_mutated (fun Φ cdv A' outer s H E iΦ hr => ?_) (fun ds O Pd R hl h => h)
  exact ⟨_, (dss_cons (ds_par (i := 2) (j := 3) rfl sc_l_mutated.nd rfl rfl (by decide) rfl rfl (da_cons (de_call (ok_l_draw T) (hr.mono (by decide)) (by rfl) T.g_l_draw T.F_l_draw.kp T.b_l_draw .nil (fun _ => .nil) (takes_of rfl rfl rfl rfl) (da_cons (de_var 0) (da_cons (de_callB (f_len) (by rfl) T.n_len (by decide +kernel) (da_cons (de_var 1) da_nil)) da_nil))) (da_cons (de_call (ok_l_draw T) (hr.mono (by decide)) (by rfl) T.g_l_draw T.F_l_draw.kp T.b_l_draw .nil (fun _ => .nil) (takes_of rfl rfl rfl rfl) (da_cons (de_var 0) (da_cons (de_callB (f_len) (by rfl) T.n_len (by decide +kernel) (da_cons (de_ix x_seq (de_var 1) de_int) da_nil)) da_nil))) da_nil))) (dss_cons (ds_set (i := 4) sc_l_mutated.nd rfl (by first | exact Or.inl rfl | exact Or.inr rfl) (de_ix x_seq (de_lst (da_cons de_non (da_cons de_bl (da_cons (de_neg de_int) (da_cons de_str (da_cons (de_lst (da_cons de_int da_nil)) (da_cons (de_tup da_nil) (da_cons (de_lst da_nil) (da_cons de_dnew (da_cons de_int (da_cons (de_lst (da_cons de_non da_nil)) (da_cons (de_bin o_pow de_int de_int) (da_cons de_str da_nil))))))))))))) (de_call (ok_l_draw T) (hr.mono (by decide)) (by rfl) T.g_l_draw T.F_l_draw.kp T.b_l_draw .nil (fun _ => .nil) (takes_of rfl rfl rfl rfl) (da_cons (de_var 0) (da_cons de_int da_nil))))) (dss_cons (ds_par (i := 5) (j := 6) rfl sc_l_mutated.nd rfl rfl (by decide) rfl rfl (da_cons (de_call (ok_l_draw T) (hr.mono (by decide)) (by rfl) T.g_l_draw T.F_l_draw.kp T.b_l_draw .nil (fun _ => .nil) (takes_of rfl rfl rfl rfl) (da_cons (de_var 0) (da_cons de_int da_nil))) (da_cons (de_ix x_seq (de_var 1) (de_var 2)) da_nil))) (dss_cons (ds_set (i := 7) sc_l_mutated.nd rfl (by first | exact Or.inl rfl | exact Or.inr rfl) (de_bin o_add (de_sl (de_var 6) do_none (do_some (de_var 3))) (de_sl (de_var 6) (do_some (de_bin o_add (de_var 3) de_int)) do_none))) (dss_cons (ds_if (dt_cmp (o_eq' hr.units) (de_var 5) de_int) (dss_one (ds_set (i := 7) sc_l_mutated.nd rfl (by first | exact Or.inl rfl | exact Or.inr rfl) (de_var 4))) (dss_one (ds_if (dt_cmp (o_eq' hr.units) (de_var 5) de_int) (dss_one (ds_set (i := 7) sc_l_mutated.nd rfl (by first | exact Or.inl rfl | exact Or.inr rfl) (de_bin o_add (de_bin o_add (de_sl (de_var 6) do_none (do_some (de_var 3))) (de_lst (da_cons (de_var 4) da_nil))) (de_sl (de_var 6) (do_some (de_bin o_add (de_var 3) de_int)) do_none)))) (dss_one (ds_if (dt_cmp (o_eq' hr.units) (de_var 5) de_int) (dss_one (ds_set (i := 7) sc_l_mutated.nd rfl (by first | exact Or.inl rfl | exact Or.inr rfl) (de_bin o_add (de_var 6) (de_lst (da_cons (de_call (ok_l_draw T) (hr.mono (by decide)) (by rfl) T.g_l_draw T.F_l_draw.kp T.b_l_draw .nil (fun _ => .nil) (takes_of rfl rfl rfl rfl) (da_cons (de_var 0) (da_cons de_int da_nil))) da_nil))))) dss_nil))))) (dss_one (ds_ret (de_bin o_add (de_bin o_add (de_sl (de_var 1) do_none (do_some (de_var 2))) (de_lst (da_cons (de_var 7) da_nil))) (de_sl (de_var 1) (do_some (de_bin o_add (de_var 2) de_int)) do_none)))))))))⟩
def m_l_outcome : MS OH := (sSeq (sTry cl_InvalidPicture 1 (sSet 2 (mMake "Picture" g_Picture_init_ 2 [] (mCons (mVar 0) mNil))) fun a x => (sRet (mLst (mCons (mC (.str "invalid")) (mCons (mFn wRepr (mCons (mXf "InvalidPicture" "value" a x (mVar 1)) mNil)) (mCons (mIsX "InvalidPicture" xk_InvalidPicture_PictureError a x (mVar 1)) mNil)))))) (sRet (mLst (mCons (mProp "Picture" g_Picture_rows (mVar 2)) (mCons (mProp "Picture" g_Picture_height (mVar 2)) (mCons (mProp "Picture" g_Picture_width (mVar 2)) (mCons (mReprI "Picture" g_Picture_repr_ (mVar 2)) mNil)))))))
def g_l_outcome : WF := bodyF m_l_outcome 2
theorem ok_l_outcome (T : Tx K mg base A) : FnG P w K mg base 9 A.a_l_outcome A.fd_l_outcome ["thing"] g_l_outcome := by
  refine fnG_mk (m := m_l_outcome) T.F_l_outcome sc_l_outcome (fun Φ cdv A' outer s H E iΦ hr => ?_) (fun ds O Pd R hl h => h)
  exact ⟨_, (dss_cons (ds_tryE (i := 1) (cl := cl_InvalidPicture) rfl rfl sc_l_outcome.nd rfl rfl ⟨by rfl, by decide, Or.inl T.mg_InvalidPicture⟩ (takes_of rfl rfl rfl rfl) T.cl'_InvalidPicture (fun W' pn xe tk' pw' => ⟨_, (dss_one (ds_set (i := 2) sc_l_outcome.nd rfl (by first | exact Or.inl rfl | exact Or.inr rfl) (de_make T.mk_Picture T.mg_Picture (ok_Picture_init_ T) ((rmT hr).mono (by decide)) (by rfl) T.b_Picture_init_ .nil (fun _ => .nil) tk' (da_cons (de_var 0) da_nil))))⟩) (fun a oe cls d pn x hz hf => ⟨_, (dss_one (ds_ret (de_lst (da_cons de_str (da_cons (de_callB (f_repr T.mods (sgd hr) (sun hr)) (by rfl) T.n_repr (by decide +kernel) (da_cons (de_xfld T.xc_InvalidPicture T.mg_InvalidPicture hz hf (de_var 1)) da_nil)) (da_cons (de_isX T.xi_InvalidPicture T.mg_InvalidPicture (fun b hb => T.xk_InvalidPicture_PictureError x b hb) hz hf (by rfl) T.n_isinstance (by rfl) T.mg_PictureError (de_var 1)) da_nil))))))⟩)) (dss_one (ds_ret (de_lst (da_cons (de_prop (de_var 2) T.cl_Picture T.mg_Picture T.pr_Picture_rows (ok_Picture_rows T) (hr.mono (by decide)) T.b_Picture_rows) (da_cons (de_prop (de_var 2) T.cl_Picture T.mg_Picture T.pr_Picture_height (ok_Picture_height T) (hr.mono (by decide)) T.b_Picture_height) (da_cons (de_prop (de_var 2) T.cl_Picture T.mg_Picture T.pr_Picture_width (ok_Picture_width T) (hr.mono (by decide)) T.b_Picture_width) (da_cons (de_reprI T.cl_Picture T.mg_Picture T.re_Picture T.fn_Picture_repr_ (ok_Picture_repr_ T) (hr.mono (by decide)) T.b_Picture_repr_ (by rfl) T.n_repr (de_var 2)) da_nil))))))))⟩
def m_l_holds : MS OH := (sSeq (sSet 1 (mCall g_l_outcome 1 [] (mCons (mVar 0) mNil))) (sSeq (sIf (mNot (mTest (mCall g_l_grid 1 [] (mCons (mVar 0) mNil)))) (sRet (mBin wEq' (mVar 1) (mLst (mCons (mC (.str "invalid")) (mCons (mFn wRepr (mCons (mVar 0) mNil)) (mCons (mC (.bl true)) mNil)))))) sNil) (sSeq (sSet 2 (mCall g_l_tuples 1 [] (mCons (mVar 0) mNil))) (sRet (mBin wEq' (mVar 1) (mLst (mCons (mVar 2) (mCons (mFn wLen (mCons (mVar 2) mNil)) (mCons (mFn wLen (mCons (mBin wIx (mVar 2) (mC (.int 0))) mNil)) (mCons (mBin wAdd (mBin wAdd (mC (.str "Picture(")) (mFn wRepr (mCons (mVar 2) mNil))) (mC (.str ")"))) mNil))))))))))
def g_l_holds : WF := bodyF m_l_holds 2
theorem ok_l_holds (T : Tx K mg base A) : FnG P w K mg base 10 A.a_l_holds A.fd_l_holds ["thing"] g_l_holds := by
  refine fnG_mk (m := m_l_holds) T.F_l_holds sc_l_holds (fun Φ cdv A' outer s H E iΦ hr => ?_) (fun ds O Pd R hl h => h)
  exact ⟨_, (dss_cons (ds_set (i := 1) sc_l_holds.nd rfl (by first | exact Or.inl rfl | exact Or.inr rfl) (de_call (ok_l_outcome T) (hr.mono (by decide)) (by rfl) T.g_l_outcome T.F_l_outcome.kp T.b_l_outcome .nil (fun _ => .nil) (takes_of rfl rfl rfl rfl) (da_cons (de_var 0) da_nil))) (dss_cons (ds_if (dt_not (dt_val (de_call (ok_l_grid T) (hr.mono (by decide)) (by rfl) T.g_l_grid T.F_l_grid.kp T.b_l_grid .nil (fun _ => .nil) (takes_of rfl rfl rfl rfl) (da_cons (de_var 0) da_nil)))) (dss_one (ds_ret (de_cmp (o_eq' hr.units) (de_var 1) (de_lst (da_cons de_str (da_cons (de_callB (f_repr T.mods hr.gd hr.units) (by rfl) T.n_repr (by decide +kernel) (da_cons (de_var 0) da_nil)) (da_cons de_bl da_nil))))))) dss_nil) (dss_cons (ds_set (i := 2) sc_l_holds.nd rfl (by first | exact Or.inl rfl | exact Or.inr rfl) (de_call (ok_l_tuples T) (hr.mono (by decide)) (by rfl) T.g_l_tuples T.F_l_tuples.kp T.b_l_tuples .nil (fun _ => .nil) (takes_of rfl rfl rfl rfl) (da_cons (de_var 0) da_nil))) (dss_one (ds_ret (de_cmp (o_eq' hr.units) (de_var 1) (de_lst (da_cons (de_var 2) (da_cons (de_callB (f_len) (by rfl) T.n_len (by decide +kernel) (da_cons (de_var 2) da_nil)) (da_cons (de_callB (f_len) (by rfl) T.n_len (by decide +kernel) (da_cons (de_ix x_seq (de_var 2) de_int) da_nil)) (da_cons (de_bin o_add (de_bin o_add de_str (de_callB (f_repr T.mods hr.gd hr.units) (by rfl) T.n_repr (by decide +kernel) (da_cons (de_var 2) da_nil))) de_str) da_nil)))))))))))⟩
def m_law : MS OH := (sSeq (sSet 1 (mLst (mCons (mC .non) (mCons (mLst mNil) (mCons (mTup mNil) (mCons (mLst (mCons (mLst mNil) mNil)) (mCons (mLst (mCons (mTup mNil) mNil)) (mCons (mC (.str "")) (mCons (mC (.str "12")) (mCons (mC (.int 5)) (mCons (mC (.dic [] [])) (mCons (mLst (mCons (mLst (mCons (mC (.int 1)) mNil)) (mCons (mLst mNil) mNil))) (mCons (mLst (mCons (mLst (mCons (mC (.int 1)) mNil)) (mCons (mLst (mCons (mC (.int 1)) (mCons (mC (.int 2)) mNil))) mNil))) (mCons (mLst (mCons (mC (.int 1)) (mCons (mC (.int 2)) mNil))) (mCons (mTup (mCons (mTup (mCons (mC (.bl true)) mNil)) mNil)) mNil))))))))))))))) (sSeq (sFor (mSeq (mBin wAdd (mVar 1) (mLst (mCons (mTup (mCons (mTup (mCons (mC (.int 0)) mNil)) mNil)) (mCons (mLst (mCons (mC (.int 5)) (mCons (mLst (mCons (mC (.int 1)) mNil)) mNil))) (mCons (mLst (mCons (mC .non) (mCons (mLst (mCons (mC (.int 1)) mNil)) mNil))) (mCons (mLst (mCons (mC (.bl true)) (mCons (mTup (mCons (mC (.int 1)) mNil)) mNil))) (mCons (mLst (mCons (mLst (mCons (mC (.int 1)) mNil)) (mCons (mC (.int 5)) mNil))) mNil)))))))) (gNm 2) (sIf (mNot (mTest (mCall g_l_holds 1 [] (mCons (mVar 2) mNil)))) (sRet (mC (.bl false))) sNil)) (sSeq (sFor (iRg1 (mCons (mFn wMax (mCons (mC (.int 1)) (mCons (mFn wMin (mCons (mFn wLen (mCons (mVar 0) mNil)) (mCons (mC (.int 8)) mNil))) mNil))) mNil)) (gNm 3) (sSeq (sSet 4 (mCall g_l_pool 2 [] (mCons (mVar 0) (mCons (mVar 3) mNil)))) (sSeq (sSet 5 (mCall g_l_random_picture 3 [] (mCons (mVar 4) (mCons (mC (.int 4)) (mCons (mC (.int 5)) mNil))))) (sSeq (sIf (mBorT 5 (mOr (mNot (mTest (mCall g_l_holds 1 [] (mCons (mVar 5) mNil)))) (mNot (mTest (mCall g_l_holds 1 [] (mCons (mCall g_l_tuples 1 [] (mCons (mVar 5) mNil)) mNil)))))) (sRet (mC (.bl false))) sNil) (sSeq (sFor (iRg1 (mCons (mC (.int 6)) mNil)) (gNm 6) (sIf (mBorT 5 (mNot (mTest (mCall g_l_holds 1 [] (mCons (mCall g_l_mutated 2 [] (mCons (mVar 4) (mCons (mVar 5) mNil))) mNil))))) (sRet (mC (.bl false))) sNil)) (sSeq (sPar 7 8 (mCons (mBor 5 (mMake "Picture" g_Picture_init_ 2 [] (mCons (mVar 5) mNil))) (mCons (mBor 5 (mCall g_l_tuples 1 [] (mCons (mVar 5) mNil))) mNil))) (sSeq (sAsg (mC .non) (gSubO (mIxO (mVar 5) (mC (.int 0))) (mC (.int 0)))) (sSeq (sDrop (mApp (mVar 5) (mC .non))) (sIf (mOr (mTest (mBin wNe' (mProp "Picture" g_Picture_rows (mVar 7)) (mVar 8))) (mOr (mNot (mTest (mEqI "Picture" g_Picture_eq_ ok_Picture (mVar 7) (mMake "Picture" g_Picture_init_ 2 [] (mCons (mVar 8) mNil))))) (mTest (mEqI "Picture" g_Picture_eq_ ok_Picture (mVar 7) (mVar 8))))) (sRet (mC (.bl false))) sNil))))))))) (sRet (mC (.bl true))))))
theorem ok_law (T : Tx K mg base A) (hm : ∀ ns : List Int, ns.length ≤ 63 → bodyF m_law 8 [.frz (ns.map D.int)] (fun _ => none) (fun d _ => d = .bl true) R0) : FnS P w K mg base 11 A.a_law A.fd_law ["script"] (spLawD K) := by
  refine law_mk (m := m_law) T.F_law sc_law (fun cdv A' outer s H E iΦ hr => ?_) hm
  exact ⟨_, (dss_cons (ds_set (i := 1) sc_law.nd rfl (by first | exact Or.inl rfl | exact Or.inr rfl) (de_lst (da_cons de_non (da_cons (de_lst da_nil) (da_cons (de_tup da_nil) (da_cons (de_lst (da_cons (de_lst da_nil) da_nil)) (da_cons (de_lst (da_cons (de_tup da_nil) da_nil)) (da_cons de_str (da_cons de_str (da_cons de_int (da_cons de_dnew (da_cons (de_lst (da_cons (de_lst (da_cons de_int da_nil)) (da_cons (de_lst da_nil) da_nil))) (da_cons (de_lst (da_cons (de_lst (da_cons de_int da_nil)) (da_cons (de_lst (da_cons de_int (da_cons de_int da_nil))) da_nil))) (da_cons (de_lst (da_cons de_int (da_cons de_int da_nil))) (da_cons (de_tup (da_cons (de_tup (da_cons de_bl da_nil)) da_nil)) da_nil))))))))))))))) (dss_cons (ds_for (passes_of rfl) rfl (di_seq (de_bin o_add (de_var 1) (de_lst (da_cons (de_tup (da_cons (de_tup (da_cons de_int da_nil)) da_nil)) (da_cons (de_lst (da_cons de_int (da_cons (de_lst (da_cons de_int da_nil)) da_nil))) (da_cons (de_lst (da_cons de_non (da_cons (de_lst (da_cons de_int da_nil)) da_nil))) (da_cons (de_lst (da_cons de_bl (da_cons (de_tup (da_cons de_int da_nil)) da_nil))) (da_cons (de_lst (da_cons (de_lst (da_cons de_int da_nil)) (da_cons de_int da_nil))) da_nil)))))))) (dg_name (i := 2) sc_law.nd rfl (by first | exact Or.inl rfl | exact Or.inr rfl)) (dss_one (ds_if (dt_not (dt_val (de_call (ok_l_holds T) (hr.mono (by decide)) (by rfl) T.g_l_holds T.F_l_holds.kp T.b_l_holds .nil (fun _ => .nil) (takes_of rfl rfl rfl rfl) (da_cons (de_var 2) da_nil)))) (dss_one (ds_ret de_bl)) dss_nil))) (dss_cons (ds_for (passes_of rfl) rfl (di_range1 (by rfl) T.n_range (da_cons (de_callB (f_max rfl) (by rfl) T.n_max (by decide +kernel) (da_cons de_int (da_cons (de_callB (f_min rfl) (by rfl) T.n_min (by decide +kernel) (da_cons (de_callB (f_len) (by rfl) T.n_len (by decide +kernel) (da_cons (de_var 0) da_nil)) (da_cons de_int da_nil))) da_nil))) da_nil)) (dg_name (i := 3) sc_law.nd rfl (by first | exact Or.inl rfl | exact Or.inr rfl)) (dss_cons (ds_set (i := 4) sc_law.nd rfl (by first | exact Or.inl rfl | exact Or.inr rfl) (de_call (ok_l_pool T) (hr.mono (by decide)) (by rfl) T.g_l_pool T.F_l_pool.kp T.b_l_pool .nil (fun _ => .nil) (takes_of rfl rfl rfl rfl) (da_cons (de_var 0) (da_cons (de_var 3) da_nil)))) (dss_cons (ds_set (i := 5) sc_law.nd rfl (by first | exact Or.inl rfl | exact Or.inr rfl) (de_call (ok_l_random_picture T) (hr.mono (by decide)) (by rfl) T.g_l_random_picture T.F_l_random_picture.kp T.b_l_random_picture .nil (fun _ => .nil) (takes_of rfl rfl rfl rfl) (da_cons (de_var 4) (da_cons de_int (da_cons de_int da_nil))))) (dss_cons (ds_if (dt_bor 5 (DW.dt (dw_or (dt_not (dt_val (de_call (ok_l_holds T) (hr.mono (by decide)) (by rfl) T.g_l_holds T.F_l_holds.kp T.b_l_holds .nil (fun _ => .nil) (takes_of rfl rfl rfl rfl) (da_cons (de_var 5) da_nil)))) (dw_or1 (dt_not (dt_val (de_call (ok_l_holds T) (hr.mono (by decide)) (by rfl) T.g_l_holds T.F_l_holds.kp T.b_l_holds .nil (fun _ => .nil) (takes_of rfl rfl rfl rfl) (da_cons (de_call (ok_l_tuples T) (hr.mono (by decide)) (by rfl) T.g_l_tuples T.F_l_tuples.kp T.b_l_tuples .nil (fun _ => .nil) (takes_of rfl rfl rfl rfl) (da_cons (de_var 5) da_nil)) da_nil)))))))) (dss_one (ds_ret de_bl)) dss_nil) (dss_cons (ds_for (passes_of rfl) rfl (di_range1 (by rfl) T.n_range (da_cons de_int da_nil)) (dg_name (i := 6) sc_law.nd rfl (by first | exact Or.inl rfl | exact Or.inr rfl)) (dss_one (ds_if (dt_bor 5 (dt_not (dt_val (de_call (ok_l_holds T) (hr.mono (by decide)) (by rfl) T.g_l_holds T.F_l_holds.kp T.b_l_holds .nil (fun _ => .nil) (takes_of rfl rfl rfl rfl) (da_cons (de_call (ok_l_mutated T) (hr.mono (by decide)) (by rfl) T.g_l_mutated T.F_l_mutated.kp T.b_l_mutated .nil (fun _ => .nil) (takes_of rfl rfl rfl rfl) (da_cons (de_var 4) (da_cons (de_var 5) da_nil))) da_nil))))) (dss_one (ds_ret de_bl)) dss_nil))) (dss_cons (ds_par (i := 7) (j := 8) rfl sc_law.nd rfl rfl (by decide) rfl rfl (da_cons (de_bor 5 (de_make T.mk_Picture T.mg_Picture (ok_Picture_init_ T) (hr.mono (by decide)) (by rfl) T.b_Picture_init_ .nil (fun _ => .nil) (takes_of rfl rfl rfl rfl) (da_cons (de_var 5) da_nil))) (da_cons (de_bor 5 (de_call (ok_l_tuples T) (hr.mono (by decide)) (by rfl) T.g_l_tuples T.F_l_tuples.kp T.b_l_tuples .nil (fun _ => .nil) (takes_of rfl rfl rfl rfl) (da_cons (de_var 5) da_nil))) da_nil))) (dss_cons (ds_asg de_non (dg_subO (de_ixO (de_var 5) de_int) de_int)) (dss_cons (ds_expr (de_appD (de_var 5) de_non)) (dss_one (ds_if (DW.dt (dw_or (dt_cmp (o_ne' hr.units) (de_prop (de_var 7) T.cl_Picture T.mg_Picture T.pr_Picture_rows (ok_Picture_rows T) (hr.mono (by decide)) T.b_Picture_rows) (de_var 8)) (dw_or (dt_not (dt_eqI T.mg_Picture T.eq_Picture T.fn_Picture_eq_ T.ty_Picture (ok_Picture_eq_ T) (hr.mono (by decide)) T.b_Picture_eq_ (takes_of rfl rfl rfl rfl) (de_var 7) (de_make T.mk_Picture T.mg_Picture (ok_Picture_init_ T) (hr.mono (by decide)) (by rfl) T.b_Picture_init_ .nil (fun _ => .nil) (takes_of rfl rfl rfl rfl) (da_cons (de_var 8) da_nil)))) (dw_or1 (dt_eqI T.mg_Picture T.eq_Picture T.fn_Picture_eq_ T.ty_Picture (ok_Picture_eq_ T) (hr.mono (by decide)) T.b_Picture_eq_ (takes_of rfl rfl rfl rfl) (de_var 7) (de_var 8)))))) (dss_one (ds_ret de_bl)) dss_nil)))))))))) (dss_one (ds_ret de_bl)))))⟩
end
end K01

set_option Elab.async false
set_option linter.all false
set_option maxRecDepth 100000
set_option maxHeartbeats 4000000
namespace K01
open PySem PySem.Spec PyProof.Rows L2 DL

def isCnt : D → Bool
  | .int i => decide (0 ≤ i)
  | _ => false
theorem kit1 : kitL "int" ["int"] = some true := by decide +kernel
theorem kit2 : kitL "bool" ["int"] = some true := by decide +kernel
theorem kit3 : kitL "int" ["bool"] = some false := by decide +kernel
theorem kit4 : kitL "bool" ["bool"] = some true := by decide +kernel
theorem kit5 : kitL "NoneType" ["int"] = some false := by decide +kernel
theorem kit6 : kitL "str" ["int"] = some false := by decide +kernel
theorem kit7 : kitL "list" ["int"] = some false := by decide +kernel
theorem kit8 : kitL "tuple" ["int"] = some false := by decide +kernel
theorem kit9 : kitL "dict" ["int"] = some false := by decide +kernel
theorem kita : kitL "NoneType" ["list", "tuple"] = some false := by decide +kernel
theorem kitb : kitL "bool" ["list", "tuple"] = some false := by decide +kernel
theorem kitc : kitL "int" ["list", "tuple"] = some false := by decide +kernel
theorem kitd : kitL "str" ["list", "tuple"] = some false := by decide +kernel
theorem kite : kitL "dict" ["list", "tuple"] = some false := by decide +kernel
theorem kitf : kitL "list" ["list", "tuple"] = some true := by decide +kernel
theorem kitg : kitL "tuple" ["list", "tuple"] = some true := by decide +kernel
def isWh : D → Bool
  | .int _ => true
  | _ => false
theorem w_whole {d : D} (h1 : tyD d ≠ none) {O : OH} {P : D → OH → Prop} {R : Exn → OH → Prop} (h : P (.bl (isWh d)) O) : g_is_whole [d] O P R := by
  unfold g_is_whole m_is_whole
  cases d <;> (simp only [bodyF, sRet, sSeq, sIf, sSet, sNil, mAndV, mOrV, mNotV, mIsi, mVar, mC, mBin, mTest, mNot, mAnd, mOr, mFn, mCons, mNil, mTup, mLst, mCall, mIsiC, mIf, wIsi, tyD, Option.some.injEq, exists_eq_left', List.map_cons, List.map_nil, List.append_nil, List.replicate, List.cons_append, List.nil_append, List.getElem?_cons_zero, List.getElem?_cons_succ, List.length_cons, List.length_nil, List.set_cons_zero, List.set_cons_succ, D.bl.injEq, D.lst.injEq, D.tup.injEq, D.int.injEq, D.loc.injEq, reduceCtorEq, false_and, and_false, true_and, and_true, exists_false, or_false, false_or, exists_and_left, exists_eq_left, wGe, wLen, wI0, mSeq, mLc, gNm, wipeD, if_true, if_false, Bool.not_true, Bool.not_false, Bool.false_eq_true, List.cons.injEq]) <;> (try (simp only [kit1, kit2, kit3, kit4, kit5, kit6, kit7, kit8, kit9, kita, kitb, kitc, kitd, kite, kitf, kitg, exists_eq_left', exists_eq_left, Option.some.injEq, if_true, Bool.not_true, Bool.not_false, Bool.false_eq_true, if_false, reduceCtorEq])) <;> first | exact h | exact absurd rfl h1
theorem w_count {d : D} (h1 : tyD d ≠ none) {O : OH} {P : D → OH → Prop} {R : Exn → OH → Prop} (h : P (.bl (isCnt d)) O) : g_is_count [d] O P R := by
  unfold g_is_count m_is_count
  (simp only [bodyF, sRet, sSeq, sIf, sSet, sNil, mAndV, mOrV, mNotV, mIsi, mVar, mC, mBin, mTest, mNot, mAnd, mOr, mFn, mCons, mNil, mTup, mLst, mCall, mIsiC, mIf, wIsi, tyD, Option.some.injEq, exists_eq_left', List.map_cons, List.map_nil, List.append_nil, List.replicate, List.cons_append, List.nil_append, List.getElem?_cons_zero, List.getElem?_cons_succ, List.length_cons, List.length_nil, List.set_cons_zero, List.set_cons_succ, D.bl.injEq, D.lst.injEq, D.tup.injEq, D.int.injEq, D.loc.injEq, reduceCtorEq, false_and, and_false, true_and, and_true, exists_false, or_false, false_or, exists_and_left, exists_eq_left, wGe, wLen, wI0, mSeq, mLc, gNm, wipeD, if_true, if_false, Bool.not_true, Bool.not_false, Bool.false_eq_true, List.cons.injEq])
  refine w_whole h1 ?_
  cases d <;> first | exact ⟨_, rfl, h⟩ | exact absurd rfl h1
theorem w_colour {d : D} (h1 : tyD d ≠ none) {O : OH} {P : D → OH → Prop} {R : Exn → OH → Prop} (h : P (.bl (isCnt d)) O) : g_is_colour [d] O P R := by
  unfold g_is_colour m_is_colour
  (simp only [bodyF, sRet, sSeq, sIf, sSet, sNil, mAndV, mOrV, mNotV, mIsi, mVar, mC, mBin, mTest, mNot, mAnd, mOr, mFn, mCons, mNil, mTup, mLst, mCall, mIsiC, mIf, wIsi, tyD, Option.some.injEq, exists_eq_left', List.map_cons, List.map_nil, List.append_nil, List.replicate, List.cons_append, List.nil_append, List.getElem?_cons_zero, List.getElem?_cons_succ, List.length_cons, List.length_nil, List.set_cons_zero, List.set_cons_succ, D.bl.injEq, D.lst.injEq, D.tup.injEq, D.int.injEq, D.loc.injEq, reduceCtorEq, false_and, and_false, true_and, and_true, exists_false, or_false, false_or, exists_and_left, exists_eq_left, wGe, wLen, wI0, mSeq, mLc, gNm, wipeD, if_true, if_false, Bool.not_true, Bool.not_false, Bool.false_eq_true, List.cons.injEq])
  exact w_count h1 h
theorem w_lcolour {d : D} (h1 : tyD d ≠ none) {O : OH} {P : D → OH → Prop} {R : Exn → OH → Prop} (h : P (.bl (isCnt d)) O) : g_l_colour [d] O P R := by
  unfold g_l_colour m_l_colour
  cases d <;> (simp only [bodyF, sRet, sSeq, sIf, sSet, sNil, mAndV, mOrV, mNotV, mIsi, mVar, mC, mBin, mTest, mNot, mAnd, mOr, mFn, mCons, mNil, mTup, mLst, mCall, mIsiC, mIf, wIsi, tyD, Option.some.injEq, exists_eq_left', List.map_cons, List.map_nil, List.append_nil, List.replicate, List.cons_append, List.nil_append, List.getElem?_cons_zero, List.getElem?_cons_succ, List.length_cons, List.length_nil, List.set_cons_zero, List.set_cons_succ, D.bl.injEq, D.lst.injEq, D.tup.injEq, D.int.injEq, D.loc.injEq, reduceCtorEq, false_and, and_false, true_and, and_true, exists_false, or_false, false_or, exists_and_left, exists_eq_left, wGe, wLen, wI0, mSeq, mLc, gNm, wipeD, if_true, if_false, Bool.not_true, Bool.not_false, Bool.false_eq_true, List.cons.injEq]) <;> (try (simp only [kit1, kit2, kit3, kit4, kit5, kit6, kit7, kit8, kit9, kita, kitb, kitc, kitd, kite, kitf, kitg, exists_eq_left', exists_eq_left, Option.some.injEq, if_true, Bool.not_true, Bool.not_false, Bool.false_eq_true, if_false, reduceCtorEq])) <;> first | exact h | exact absurd rfl h1
theorem beq_eq_decide {a b : Int} : (a == b) = decide (a = b) := by
  by_cases h : a = b <;> simp [h]
theorem wlc {g : MG OH} {t : MT OH} {m : ME OH} {vs : List Nat} {ρ : Rho} {P : List D → OH → Prop} {c : D → Bool} {f : D → D} {O : OH} : ∀ (ds acc : List D),
    (∀ d ∈ ds, ∀ (K1 : D → OH → Prop) (K2 : OH → Prop), (if c d = true then K1 (f d) O else K2 O) → g d (wipeD ρ vs) O fun ρ1 O1 => t ρ1 O1 (fun b O2 => if b = true then m ρ1 O2 K1 R0 else K2 O2) R0) →
    acc.length + ds.length ≤ sizeLine → P (acc ++ (ds.filter c).map f) O → wLc g t m vs ρ P ds acc O
  | [], acc, _, _, h => by simpa [wLc] using h
  | d :: ds, acc, hs, hl, h => by
    unfold wLc
    refine hs d List.mem_cons_self _ _ ?_
    have hl' : acc.length + (ds.length + 1) ≤ sizeLine := hl
    by_cases hc : c d = true
    · rw [if_pos hc]
      refine ⟨by omega, wlc ds _ (fun x hx => hs x (List.mem_cons_of_mem _ hx)) (by simp; omega) ?_⟩
      rw [List.filter_cons_of_pos hc] at h
      simpa using h
    · rw [if_neg hc]
      refine wlc ds _ (fun x hx => hs x (List.mem_cons_of_mem _ hx)) (by omega) ?_
      rw [List.filter_cons_of_neg hc] at h
      exact h
def Sh (d : D) : Prop := ∃ p, toPd d = some p
theorem Sh.ty {d : D} (h : Sh d) : tyD d ≠ none := by
  obtain ⟨p, h⟩ := h
  cases d <;> simp [tyD, toPd] at h ⊢
theorem shL : ∀ {xs : List D} {ps : List PyData}, toPdL xs = some ps → ∀ x ∈ xs, Sh x
  | [], _, _, x, hx => by cases hx
  | y :: ys, ps, h, x, hx => by
    simp only [toPdL] at h
    split at h
    · rename_i p q e1 e2
      cases hx with
      | head => exact ⟨_, e1⟩
      | tail _ hx => exact shL e2 x hx
    · cases h
theorem Sh.lst {xs : List D} (h : Sh (.lst xs)) : ∀ x ∈ xs, Sh x := by
  obtain ⟨p, h⟩ := h
  simp only [toPd, Option.map_eq_some_iff] at h
  obtain ⟨ps, h, _⟩ := h
  exact shL h
theorem Sh.tup {xs : List D} (h : Sh (.tup xs)) : ∀ x ∈ xs, Sh x := by
  obtain ⟨p, h⟩ := h
  simp only [toPd, Option.map_eq_some_iff] at h
  obtain ⟨ps, h, _⟩ := h
  exact shL h
theorem w_eqi {a b : Int} {P : D → Prop} (h : P (.bl (decide (a = b)))) : wEq' (.int a) (.int b) P := by
  refine .inl ⟨.int a, .int b, rfl, rfl, rfl, rfl, ?_⟩
  have e : PyData.eqv (.int a) (.int b) = decide (a = b) := by
    rw [PyData.eqv]; exact beq_eq_decide
  rw [e]
  exact h
def rowL (xs : List D) : Bool := !xs.isEmpty && xs.all isCnt
def isRow : D → Bool
  | .lst xs => rowL xs
  | .tup xs => rowL xs
  | _ => false
theorem len0 {xs : List D} : (((xs.length : Nat) : Int) = 0) ↔ xs = [] := by
  cases xs <;> simp <;> omega
theorem w_all {xs : List D} {f : D → Bool} {P : D → Prop} (h : P (.bl (xs.all f))) : wAll [.lst ([] ++ (xs.filter fun _ => true).map fun d => .bl (f d))] P := by
  refine ⟨xs.map f, by rw [List.filter_eq_self.mpr (fun _ _ => rfl)]; simp, ?_⟩
  rw [List.all_map]
  exact h
theorem w_rowL {xs : List D} (hx : ∀ x ∈ xs, Sh x) (hl : xs.length ≤ sizeLine) {d : D} (hd : d = .lst xs ∨ d = .tup xs) {O : OH} {P : D → OH → Prop} {R : Exn → OH → Prop} (h : P (.bl (rowL xs)) O) : g_is_row [d] O P R := by
  unfold g_is_row m_is_row
  rcases hd with rfl | rfl <;> (simp only [bodyF, sRet, sSeq, sIf, sSet, sNil, mAndV, mOrV, mNotV, mIsi, mVar, mC, mBin, mTest, mNot, mAnd, mOr, mFn, mCons, mNil, mTup, mLst, mCall, mIsiC, mIf, wIsi, tyD, Option.some.injEq, exists_eq_left', List.map_cons, List.map_nil, List.append_nil, List.replicate, List.cons_append, List.nil_append, List.getElem?_cons_zero, List.getElem?_cons_succ, List.length_cons, List.length_nil, List.set_cons_zero, List.set_cons_succ, D.bl.injEq, D.lst.injEq, D.tup.injEq, D.int.injEq, D.loc.injEq, reduceCtorEq, false_and, and_false, true_and, and_true, exists_false, or_false, false_or, exists_and_left, exists_eq_left, wGe, wLen, wI0, mSeq, mLc, gNm, wipeD, if_true, if_false, Bool.not_true, Bool.not_false, Bool.false_eq_true, List.cons.injEq]) <;> (simp only [kit1, kit2, kit3, kit4, kit5, kit6, kit7, kit8, kit9, kita, kitb, kitc, kitd, kite, kitf, kitg, exists_eq_left', exists_eq_left, Option.some.injEq, if_true, Bool.not_true, Bool.not_false, Bool.false_eq_true, if_false, reduceCtorEq]) <;> refine w_eqi ⟨_, rfl, ?_⟩ <;> simp only [len0] <;>
  · by_cases e : xs = []
    · subst e
      exact h
    · rw [if_neg (by simpa using e)]
      refine wlc (c := fun _ => true) (f := fun d => .bl (isCnt d)) _ _ (fun y hy K1 K2 k => ?_) (by simpa using hl) (w_all (f := isCnt) ?_)
      · ((unfold mYes; simp only [gNm, wipeD, if_true, List.set_cons_succ, List.set_cons_zero, mCall, mCons, mNil, mVar, mNot, mTest, mBin, mFn, wLen, List.getElem?_cons_succ, List.getElem?_cons_zero, Option.some.injEq, exists_eq_left', List.cons_append, List.nil_append, List.append_nil, List.length_cons, List.length_nil, Nat.zero_add, true_and, List.cons.injEq, and_true]))
        exact w_colour (hx y hy).ty k
      · have : rowL xs = xs.all isCnt := by
          cases xs with
          | nil => exact absurd rfl e
          | cons => rfl
        rw [← this]
        exact h
theorem w_row {d : D} (hs : Sh d) (hl : ∀ xs, d = .lst xs ∨ d = .tup xs → xs.length ≤ sizeLine) {O : OH} {P : D → OH → Prop} {R : Exn → OH → Prop} (h : P (.bl (isRow d)) O) : g_is_row [d] O P R := by
  cases d with
  | lst xs => exact w_rowL hs.lst (hl _ (.inl rfl)) (.inl rfl) h
  | tup xs => exact w_rowL hs.tup (hl _ (.inr rfl)) (.inr rfl) h
  | _ =>
    unfold g_is_row m_is_row
    first
    | exact absurd rfl hs.ty
    | (exfalso; obtain ⟨p, h0⟩ := hs; simp [toPd] at h0; done)
    | ((simp only [bodyF, sRet, sSeq, sIf, sSet, sNil, mAndV, mOrV, mNotV, mIsi, mVar, mC, mBin, mTest, mNot, mAnd, mOr, mFn, mCons, mNil, mTup, mLst, mCall, mIsiC, mIf, wIsi, tyD, Option.some.injEq, exists_eq_left', List.map_cons, List.map_nil, List.append_nil, List.replicate, List.cons_append, List.nil_append, List.getElem?_cons_zero, List.getElem?_cons_succ, List.length_cons, List.length_nil, List.set_cons_zero, List.set_cons_succ, D.bl.injEq, D.lst.injEq, D.tup.injEq, D.int.injEq, D.loc.injEq, reduceCtorEq, false_and, and_false, true_and, and_true, exists_false, or_false, false_or, exists_and_left, exists_eq_left, wGe, wLen, wI0, mSeq, mLc, gNm, wipeD, if_true, if_false, Bool.not_true, Bool.not_false, Bool.false_eq_true, List.cons.injEq]); (simp only [kit1, kit2, kit3, kit4, kit5, kit6, kit7, kit8, kit9, kita, kitb, kitc, kitd, kite, kitf, kitg, exists_eq_left', exists_eq_left, Option.some.injEq, if_true, Bool.not_true, Bool.not_false, Bool.false_eq_true, if_false, reduceCtorEq]); exact h)
theorem w_lines {xs : List D} {c : D → Bool} {P : D → Prop} (h : P (.bl (decide (∀ x ∈ xs, c x = false)))) : wEq' (.lst ([] ++ (xs.filter c).map fun x => x)) (.lst []) P := by
  refine .inr ⟨_, _, rfl, rfl, ?_, ?_⟩
  · by_cases e : (xs.filter c) = []
    · right; simp [e]
    · left; simpa using e
  · have e : decide (∀ x ∈ xs, c x = false) = decide (([] ++ (xs.filter c).map fun x => x).length = ([] : List D).length) := by
      apply decide_eq_decide.mpr
      simp [List.length_eq_zero_iff]
    rw [← e]
    exact h
theorem all_dec {xs : List D} {f : D → Bool} : decide (∀ x ∈ xs, (!f x) = false) = xs.all f := by
  rw [Bool.eq_iff_iff]
  simp
theorem w_lrowL {xs : List D} (hx : ∀ x ∈ xs, Sh x) (hl : xs.length ≤ sizeLine) {d : D} (hd : d = .lst xs ∨ d = .tup xs) {O : OH} {P : D → OH → Prop} {R : Exn → OH → Prop} (h : P (.bl (rowL xs)) O) : g_l_line [d] O P R := by
  unfold g_l_line m_l_line
  rcases hd with rfl | rfl <;> (simp only [bodyF, sRet, sSeq, sIf, sSet, sNil, mAndV, mOrV, mNotV, mIsi, mVar, mC, mBin, mTest, mNot, mAnd, mOr, mFn, mCons, mNil, mTup, mLst, mCall, mIsiC, mIf, wIsi, tyD, Option.some.injEq, exists_eq_left', List.map_cons, List.map_nil, List.append_nil, List.replicate, List.cons_append, List.nil_append, List.getElem?_cons_zero, List.getElem?_cons_succ, List.length_cons, List.length_nil, List.set_cons_zero, List.set_cons_succ, D.bl.injEq, D.lst.injEq, D.tup.injEq, D.int.injEq, D.loc.injEq, reduceCtorEq, false_and, and_false, true_and, and_true, exists_false, or_false, false_or, exists_and_left, exists_eq_left, wGe, wLen, wI0, mSeq, mLc, gNm, wipeD, if_true, if_false, Bool.not_true, Bool.not_false, Bool.false_eq_true, List.cons.injEq]) <;> (simp only [kit1, kit2, kit3, kit4, kit5, kit6, kit7, kit8, kit9, kita, kitb, kitc, kitd, kite, kitf, kitg, exists_eq_left', exists_eq_left, Option.some.injEq, if_true, Bool.not_true, Bool.not_false, Bool.false_eq_true, if_false, reduceCtorEq]) <;> refine w_eqi ⟨_, rfl, ?_⟩ <;> simp only [len0] <;>
  · by_cases e : xs = []
    · subst e
      exact h
    · rw [if_neg (by simpa using e)]
      refine wlc (c := fun d => !isCnt d) (f := fun d => d) _ _ (fun y hy K1 K2 k => ?_) (by simpa using hl) ⟨by simp, w_lines ?_⟩
      · ((simp only [gNm, wipeD, if_true, List.set_cons_succ, List.set_cons_zero, mCall, mCons, mNil, mVar, mNot, mTest, mBin, mFn, wLen, List.getElem?_cons_succ, List.getElem?_cons_zero, Option.some.injEq, exists_eq_left', List.cons_append, List.nil_append, List.append_nil, List.length_cons, List.length_nil, Nat.zero_add, true_and, List.cons.injEq, and_true]))
        refine w_lcolour (hx y hy).ty ⟨_, rfl, k⟩
      · rw [all_dec]
        have : rowL xs = xs.all isCnt := by
          cases xs with
          | nil => exact absurd rfl e
          | cons => rfl
        rw [← this]
        exact h
theorem w_lrow {d : D} (hs : Sh d) (hl : ∀ xs, d = .lst xs ∨ d = .tup xs → xs.length ≤ sizeLine) {O : OH} {P : D → OH → Prop} {R : Exn → OH → Prop} (h : P (.bl (isRow d)) O) : g_l_line [d] O P R := by
  cases d with
  | lst xs => exact w_lrowL hs.lst (hl _ (.inl rfl)) (.inl rfl) h
  | tup xs => exact w_lrowL hs.tup (hl _ (.inr rfl)) (.inr rfl) h
  | _ =>
    unfold g_l_line m_l_line
    first
    | exact absurd rfl hs.ty
    | (exfalso; obtain ⟨p, h0⟩ := hs; simp [toPd] at h0; done)
    | ((simp only [bodyF, sRet, sSeq, sIf, sSet, sNil, mAndV, mOrV, mNotV, mIsi, mVar, mC, mBin, mTest, mNot, mAnd, mOr, mFn, mCons, mNil, mTup, mLst, mCall, mIsiC, mIf, wIsi, tyD, Option.some.injEq, exists_eq_left', List.map_cons, List.map_nil, List.append_nil, List.replicate, List.cons_append, List.nil_append, List.getElem?_cons_zero, List.getElem?_cons_succ, List.length_cons, List.length_nil, List.set_cons_zero, List.set_cons_succ, D.bl.injEq, D.lst.injEq, D.tup.injEq, D.int.injEq, D.loc.injEq, reduceCtorEq, false_and, and_false, true_and, and_true, exists_false, or_false, false_or, exists_and_left, exists_eq_left, wGe, wLen, wI0, mSeq, mLc, gNm, wipeD, if_true, if_false, Bool.not_true, Bool.not_false, Bool.false_eq_true, List.cons.injEq]); (simp only [kit1, kit2, kit3, kit4, kit5, kit6, kit7, kit8, kit9, kita, kitb, kitc, kitd, kite, kitf, kitg, exists_eq_left', exists_eq_left, Option.some.injEq, if_true, Bool.not_true, Bool.not_false, Bool.false_eq_true, if_false, reduceCtorEq]); exact h)
def lenD : D → Nat
  | .lst xs => xs.length
  | .tup xs => xs.length
  | _ => 0
def gridL (xs : List D) : Bool := !xs.isEmpty && (xs.all isRow && xs.all fun r => decide ((lenD r : Int) = lenD (xs.headD .non)))
def isGrid : D → Bool
  | .lst xs => gridL xs
  | .tup xs => gridL xs
  | _ => false
def Sz (d : D) : Prop := ∀ xs, d = .lst xs ∨ d = .tup xs → xs.length ≤ sizeLine
structure Gd (d : D) : Prop where
  sh : Sh d
  sz : Sz d
  el : ∀ xs, d = .lst xs ∨ d = .tup xs → ∀ x ∈ xs, Sz x
theorem w_lenR {d : D} (h : isRow d = true) {P : D → Prop} (k : P (.int (lenD d))) : wLen [d] P := by
  cases d with
  | lst => exact ⟨_, rfl, k⟩
  | tup => exact ⟨_, rfl, k⟩
  | _ => cases h
theorem ix0 {x : D} {xs : List D} : atI (x :: xs) 0 = some x := by
  unfold atI ixN
  simp
theorem gl_cons {x : D} {xs : List D} : gridL (x :: xs) = ((x :: xs).all isRow && (x :: xs).all fun r => decide ((lenD r : Int) = lenD x)) := rfl
theorem w_gridL {xs : List D} (hx : ∀ x ∈ xs, Sh x) (hz : ∀ x ∈ xs, Sz x) (hl : xs.length ≤ sizeLine) {d : D} (hd : d = .lst xs ∨ d = .tup xs) {O : OH} {P : D → OH → Prop} {R : Exn → OH → Prop} (h : P (.bl (gridL xs)) O) : g_is_grid [d] O P R := by
  unfold g_is_grid m_is_grid
  rcases hd with rfl | rfl <;> (simp only [bodyF, sRet, sSeq, sIf, sSet, sNil, mAndV, mOrV, mNotV, mIsi, mVar, mC, mBin, mTest, mNot, mAnd, mOr, mFn, mCons, mNil, mTup, mLst, mCall, mIsiC, mIf, wIsi, tyD, Option.some.injEq, exists_eq_left', List.map_cons, List.map_nil, List.append_nil, List.replicate, List.cons_append, List.nil_append, List.getElem?_cons_zero, List.getElem?_cons_succ, List.length_cons, List.length_nil, List.set_cons_zero, List.set_cons_succ, D.bl.injEq, D.lst.injEq, D.tup.injEq, D.int.injEq, D.loc.injEq, reduceCtorEq, false_and, and_false, true_and, and_true, exists_false, or_false, false_or, exists_and_left, exists_eq_left, wGe, wLen, wI0, mSeq, mLc, gNm, wipeD, if_true, if_false, Bool.not_true, Bool.not_false, Bool.false_eq_true, List.cons.injEq]) <;> (simp only [kit1, kit2, kit3, kit4, kit5, kit6, kit7, kit8, kit9, kita, kitb, kitc, kitd, kite, kitf, kitg, exists_eq_left', exists_eq_left, Option.some.injEq, if_true, Bool.not_true, Bool.not_false, Bool.false_eq_true, if_false, reduceCtorEq]) <;> refine w_eqi ⟨_, rfl, ?_⟩ <;> simp only [len0] <;>
  · cases xs with
    | nil => exact h
    | cons x xs =>
      rw [if_neg (by simp)]
      refine wlc (c := fun _ => true) (f := fun d => .bl (isRow d)) _ _ (fun y hy K1 K2 k => ?_) (by simpa using hl) (w_all (f := isRow) ⟨_, rfl, ?_⟩)
      · ((unfold mYes; simp only [gNm, wipeD, if_true, List.set_cons_succ, List.set_cons_zero, mCall, mCons, mNil, mVar, mNot, mTest, mBin, mFn, wLen, List.getElem?_cons_succ, List.getElem?_cons_zero, Option.some.injEq, exists_eq_left', List.cons_append, List.nil_append, List.append_nil, List.length_cons, List.length_nil, Nat.zero_add, true_and, List.cons.injEq, and_true]))
        exact w_row (hx y hy) (hz y hy) k
      · rw [gl_cons] at h
        cases e : (x :: xs).all isRow with
        | false =>
          rw [e] at h
          exact h
        | true =>
          rw [e] at h
          have e' := List.all_eq_true.mp e
          simp only [Bool.not_true, Bool.false_eq_true, if_false]
          refine wlc (c := fun _ => true) (f := fun d => .bl (decide ((lenD d : Int) = lenD x))) _ _ (fun y hy K1 K2 k => ?_) (by simpa using hl) (w_all (f := fun r => decide ((lenD r : Int) = lenD x)) ?_)
          · unfold mYes
            ((simp only [gNm, wipeD, List.map_cons, List.map_nil, List.replicate, if_true, List.set_cons_succ, List.set_cons_zero, mCall, mCons, mNil, mVar, mC, mNot, mTest, mBin, mFn, List.getElem?_cons_succ, List.getElem?_cons_zero, Option.some.injEq, exists_eq_left', List.cons_append, List.nil_append, List.append_nil, List.length_cons, List.length_nil, Nat.zero_add, true_and, List.cons.injEq, and_true]))
            exact w_lenR (e' y hy) ⟨0, rfl, x, ix0, w_lenR (e' x List.mem_cons_self) (w_eqi k)⟩
          · exact h
theorem w_grid {d : D} (g : Gd d) {O : OH} {P : D → OH → Prop} {R : Exn → OH → Prop} (h : P (.bl (isGrid d)) O) : g_is_grid [d] O P R := by
  obtain ⟨hs, hz, hel⟩ := g
  cases d with
  | lst xs => exact w_gridL hs.lst (hel _ (.inl rfl)) (hz _ (.inl rfl)) (.inl rfl) h
  | tup xs => exact w_gridL hs.tup (hel _ (.inr rfl)) (hz _ (.inr rfl)) (.inr rfl) h
  | _ =>
    unfold g_is_grid m_is_grid
    first
    | exact absurd rfl hs.ty
    | (exfalso; obtain ⟨p, h0⟩ := hs; simp [toPd] at h0; done)
    | ((simp only [bodyF, sRet, sSeq, sIf, sSet, sNil, mAndV, mOrV, mNotV, mIsi, mVar, mC, mBin, mTest, mNot, mAnd, mOr, mFn, mCons, mNil, mTup, mLst, mCall, mIsiC, mIf, wIsi, tyD, Option.some.injEq, exists_eq_left', List.map_cons, List.map_nil, List.append_nil, List.replicate, List.cons_append, List.nil_append, List.getElem?_cons_zero, List.getElem?_cons_succ, List.length_cons, List.length_nil, List.set_cons_zero, List.set_cons_succ, D.bl.injEq, D.lst.injEq, D.tup.injEq, D.int.injEq, D.loc.injEq, reduceCtorEq, false_and, and_false, true_and, and_true, exists_false, or_false, false_or, exists_and_left, exists_eq_left, wGe, wLen, wI0, mSeq, mLc, gNm, wipeD, if_true, if_false, Bool.not_true, Bool.not_false, Bool.false_eq_true, List.cons.injEq]); (simp only [kit1, kit2, kit3, kit4, kit5, kit6, kit7, kit8, kit9, kita, kitb, kitc, kitd, kite, kitf, kitg, exists_eq_left', exists_eq_left, Option.some.injEq, if_true, Bool.not_true, Bool.not_false, Bool.false_eq_true, if_false, reduceCtorEq]); exact h)
theorem w_nei {a b : Int} {P : D → Prop} (h : P (.bl (!decide (a = b)))) : wNe' (.int a) (.int b) P := by
  refine .inl ⟨.int a, .int b, rfl, rfl, rfl, rfl, ?_⟩
  have e : PyData.eqv (.int a) (.int b) = decide (a = b) := by
    rw [PyData.eqv]; exact beq_eq_decide
  rw [e]
  exact h
theorem w_linesN {xs : List D} {c : D → Bool} {P : D → Prop} (h : P (.bl (!decide (∀ x ∈ xs, c x = false)))) : wNe' (.lst ([] ++ (xs.filter c).map fun x => x)) (.lst []) P := by
  refine .inr ⟨_, _, rfl, rfl, ?_, ?_⟩
  · by_cases e : (xs.filter c) = []
    · right; simp [e]
    · left; simpa using e
  · have e : decide (∀ x ∈ xs, c x = false) = decide (([] ++ (xs.filter c).map fun x => x).length = ([] : List D).length) := by
      apply decide_eq_decide.mpr
      simp [List.length_eq_zero_iff]
    rw [← e]
    exact h
theorem w_lgridL {xs : List D} (hx : ∀ x ∈ xs, Sh x) (hz : ∀ x ∈ xs, Sz x) (hl : xs.length ≤ sizeLine) {d : D} (hd : d = .lst xs ∨ d = .tup xs) {O : OH} {P : D → OH → Prop} {R : Exn → OH → Prop} (h : P (.bl (gridL xs)) O) : g_l_grid [d] O P R := by
  unfold g_l_grid m_l_grid
  rcases hd with rfl | rfl <;> (simp only [bodyF, sRet, sSeq, sIf, sSet, sNil, mAndV, mOrV, mNotV, mIsi, mVar, mC, mBin, mTest, mNot, mAnd, mOr, mFn, mCons, mNil, mTup, mLst, mCall, mIsiC, mIf, wIsi, tyD, Option.some.injEq, exists_eq_left', List.map_cons, List.map_nil, List.append_nil, List.replicate, List.cons_append, List.nil_append, List.getElem?_cons_zero, List.getElem?_cons_succ, List.length_cons, List.length_nil, List.set_cons_zero, List.set_cons_succ, D.bl.injEq, D.lst.injEq, D.tup.injEq, D.int.injEq, D.loc.injEq, reduceCtorEq, false_and, and_false, true_and, and_true, exists_false, or_false, false_or, exists_and_left, exists_eq_left, wGe, wLen, wI0, mSeq, mLc, gNm, wipeD, if_true, if_false, Bool.not_true, Bool.not_false, Bool.false_eq_true, List.cons.injEq]) <;> (simp only [kit1, kit2, kit3, kit4, kit5, kit6, kit7, kit8, kit9, kita, kitb, kitc, kitd, kite, kitf, kitg, exists_eq_left', exists_eq_left, Option.some.injEq, if_true, Bool.not_true, Bool.not_false, Bool.false_eq_true, if_false, reduceCtorEq]) <;> refine w_eqi ⟨_, rfl, ?_⟩ <;> simp only [len0] <;>
  · cases xs with
    | nil => exact h
    | cons x xs =>
      rw [if_neg (by simp)]
      refine wlc (c := fun d => !isRow d) (f := fun d => d) _ _ (fun y hy K1 K2 k => ?_) (by simpa using hl) ⟨by simp, w_linesN ⟨_, rfl, ?_⟩⟩
      · ((simp only [gNm, wipeD, List.map_cons, List.map_nil, List.replicate, if_true, List.set_cons_succ, List.set_cons_zero, mCall, mCons, mNil, mVar, mC, mNot, mTest, mBin, mFn, List.getElem?_cons_succ, List.getElem?_cons_zero, Option.some.injEq, exists_eq_left', List.cons_append, List.nil_append, List.append_nil, List.length_cons, List.length_nil, Nat.zero_add, true_and, List.cons.injEq, and_true]))
        exact w_lrow (hx y hy) (hz y hy) ⟨_, rfl, k⟩
      · rw [gl_cons] at h
        rw [all_dec]
        cases e : (x :: xs).all isRow with
        | false =>
          rw [e] at h
          exact h
        | true =>
          rw [e] at h
          have e' := List.all_eq_true.mp e
          simp only [Bool.not_true, Bool.false_eq_true, if_false]
          refine wlc (c := fun r => !decide ((lenD r : Int) = lenD x)) (f := fun d => d) _ _ (fun y hy K1 K2 k => ?_) (by simpa using hl) ⟨by simp, w_lines ?_⟩
          · ((simp only [gNm, wipeD, List.map_cons, List.map_nil, List.replicate, if_true, List.set_cons_succ, List.set_cons_zero, mCall, mCons, mNil, mVar, mC, mNot, mTest, mBin, mFn, List.getElem?_cons_succ, List.getElem?_cons_zero, Option.some.injEq, exists_eq_left', List.cons_append, List.nil_append, List.append_nil, List.length_cons, List.length_nil, Nat.zero_add, true_and, List.cons.injEq, and_true]))
            exact w_lenR (e' y hy) ⟨0, rfl, x, ix0, w_lenR (e' x List.mem_cons_self) (w_nei ⟨_, rfl, k⟩)⟩
          · rw [all_dec]
            exact h
theorem w_lgrid {d : D} (g : Gd d) {O : OH} {P : D → OH → Prop} {R : Exn → OH → Prop} (h : P (.bl (isGrid d)) O) : g_l_grid [d] O P R := by
  obtain ⟨hs, hz, hel⟩ := g
  cases d with
  | lst xs => exact w_lgridL hs.lst (hel _ (.inl rfl)) (hz _ (.inl rfl)) (.inl rfl) h
  | tup xs => exact w_lgridL hs.tup (hel _ (.inr rfl)) (hz _ (.inr rfl)) (.inr rfl) h
  | _ =>
    unfold g_l_grid m_l_grid
    first
    | exact absurd rfl hs.ty
    | (exfalso; obtain ⟨p, h0⟩ := hs; simp [toPd] at h0; done)
    | ((simp only [bodyF, sRet, sSeq, sIf, sSet, sNil, mAndV, mOrV, mNotV, mIsi, mVar, mC, mBin, mTest, mNot, mAnd, mOr, mFn, mCons, mNil, mTup, mLst, mCall, mIsiC, mIf, wIsi, tyD, Option.some.injEq, exists_eq_left', List.map_cons, List.map_nil, List.append_nil, List.replicate, List.cons_append, List.nil_append, List.getElem?_cons_zero, List.getElem?_cons_succ, List.length_cons, List.length_nil, List.set_cons_zero, List.set_cons_succ, D.bl.injEq, D.lst.injEq, D.tup.injEq, D.int.injEq, D.loc.injEq, reduceCtorEq, false_and, and_false, true_and, and_true, exists_false, or_false, false_or, exists_and_left, exists_eq_left, wGe, wLen, wI0, mSeq, mLc, gNm, wipeD, if_true, if_false, Bool.not_true, Bool.not_false, Bool.false_eq_true, List.cons.injEq]); (simp only [kit1, kit2, kit3, kit4, kit5, kit6, kit7, kit8, kit9, kita, kitb, kitc, kitd, kite, kitf, kitg, exists_eq_left', exists_eq_left, Option.some.injEq, if_true, Bool.not_true, Bool.not_false, Bool.false_eq_true, if_false, reduceCtorEq]); exact h)
/-! ### the picture of a grid -/
def toT : D → D
  | .lst xs => .tup xs
  | d => d
def elD : D → List D
  | .lst xs => xs
  | .tup xs => xs
  | _ => []
def rowsT (d : D) : D := .tup ((elD d).map toT)
def picD (d : D) : D := .ins "Picture" ["_rows"] [rowsT d]
theorem grid_el {d : D} (h : isGrid d = true) : (d = .lst (elD d) ∨ d = .tup (elD d)) ∧ gridL (elD d) = true := by
  cases d with
  | lst => exact ⟨.inl rfl, h⟩
  | tup => exact ⟨.inr rfl, h⟩
  | _ => cases h
theorem gridL_row {xs : List D} (h : gridL xs = true) : ∀ x ∈ xs, isRow x = true := by
  unfold gridL at h
  simp only [Bool.and_eq_true, List.all_eq_true] at h
  exact h.2.1
theorem w_tupR {d : D} (h : isRow d = true) {P : D → Prop} (k : P (toT d)) : wTuple [d] P := by
  cases d with
  | lst => exact .inl ⟨_, rfl, k⟩
  | tup => exact .inr ⟨_, rfl, k⟩
  | _ => cases h
theorem w_init_no {d : D} (g : Gd d) (hn : isGrid d = false) {a : Addr} {O : OH} {P : D → OH → Prop} {R : Exn → OH → Prop} (h : R ⟨"InvalidPicture", some (["value"], [d])⟩ O) : g_Picture_init_ [.loc a, d] O P R := by
  unfold g_Picture_init_ m_Picture_init_
  simp only [bodyF, sSeq, sIf]
  ((simp only [gNm, wipeD, List.map_cons, List.map_nil, List.replicate, if_true, List.set_cons_succ, List.set_cons_zero, mCall, mCons, mNil, mVar, mC, mNot, mTest, mBin, mFn, List.getElem?_cons_succ, List.getElem?_cons_zero, Option.some.injEq, exists_eq_left', List.cons_append, List.nil_append, List.append_nil, List.length_cons, List.length_nil, Nat.zero_add, true_and, List.cons.injEq, and_true]))
  refine w_grid g ⟨_, rfl, ?_⟩
  rw [hn]
  simp only [Bool.not_false, if_true, sRaise]
  ((simp only [gNm, wipeD, List.map_cons, List.map_nil, List.replicate, if_true, List.set_cons_succ, List.set_cons_zero, mCall, mCons, mNil, mVar, mC, mNot, mTest, mBin, mFn, List.getElem?_cons_succ, List.getElem?_cons_zero, Option.some.injEq, exists_eq_left', List.cons_append, List.nil_append, List.append_nil, List.length_cons, List.length_nil, Nat.zero_add, true_and, List.cons.injEq, and_true]))
  exact h
theorem filter_yes {xs : List D} : xs.filter (fun _ => true) = xs := List.filter_eq_self.mpr fun _ _ => rfl
theorem w_init {d : D} (g : Gd d) (hy : isGrid d = true) {a : Addr} {O : OH} {P : D → OH → Prop} {R : Exn → OH → Prop} (ho : O a = some (.ins "Picture" [] [])) (h : P .non (O.put a (.ins "Picture" ["_rows"] [rowsT d]))) : g_Picture_init_ [.loc a, d] O P R := by
  unfold g_Picture_init_ m_Picture_init_
  simp only [bodyF, sSeq, sIf]
  ((simp only [gNm, wipeD, List.map_cons, List.map_nil, List.replicate, if_true, List.set_cons_succ, List.set_cons_zero, mCall, mCons, mNil, mVar, mC, mNot, mTest, mBin, mFn, List.getElem?_cons_succ, List.getElem?_cons_zero, Option.some.injEq, exists_eq_left', List.cons_append, List.nil_append, List.append_nil, List.length_cons, List.length_nil, Nat.zero_add, true_and, List.cons.injEq, and_true]))
  refine w_grid g ⟨_, rfl, ?_⟩
  rw [hy]
  obtain ⟨e, hg⟩ := grid_el hy
  have hr := gridL_row hg
  simp only [Bool.not_true, Bool.false_eq_true, if_false, sNil, sFldD]
  ((simp only [gNm, wipeD, List.map_cons, List.map_nil, List.replicate, if_true, List.set_cons_succ, List.set_cons_zero, mCall, mCons, mNil, mVar, mC, mNot, mTest, mBin, mFn, List.getElem?_cons_succ, List.getElem?_cons_zero, Option.some.injEq, exists_eq_left', List.cons_append, List.nil_append, List.append_nil, List.length_cons, List.length_nil, Nat.zero_add, true_and, List.cons.injEq, and_true]))
  have fin : ∀ {m : D}, wLc (gNm 2) mYes (mFn wTuple (mCons (mVar 2) mNil)) [2] [some (D.loc a), some d, none]
      (fun acc O2 => wTuple [D.lst acc] fun d => ∃ a_1 ns ds, D.loc a = D.loc a_1 ∧ O2 a_1 = some (DO.ins "Picture" ns ds) ∧ ns.length < 1000 ∧
        P .non (O2.put a_1 (DO.ins "Picture" (putN "_rows" ns) (putD "_rows" d ns ds)))) (elD d) [] O := fun {_} => by
    refine wlc (c := fun _ => true) (f := toT) _ _ (fun y hy K1 K2 k => ?_) ?_ (.inl ⟨_, rfl, a, [], [], rfl, ho, by decide, ?_⟩)
    · unfold mYes
      ((simp only [gNm, wipeD, List.map_cons, List.map_nil, List.replicate, if_true, List.set_cons_succ, List.set_cons_zero, mCall, mCons, mNil, mVar, mC, mNot, mTest, mBin, mFn, List.getElem?_cons_succ, List.getElem?_cons_zero, Option.some.injEq, exists_eq_left', List.cons_append, List.nil_append, List.append_nil, List.length_cons, List.length_nil, Nat.zero_add, true_and, List.cons.injEq, and_true]))
      exact w_tupR (hr y hy) k
    · simp only [List.length_nil, Nat.zero_add]
      rcases e with e | e
      · exact g.sz _ (.inl e)
      · exact g.sz _ (.inr e)
    · rw [filter_yes]
      exact h
  unfold mLc mSeq
  ((simp only [gNm, wipeD, List.map_cons, List.map_nil, List.replicate, if_true, List.set_cons_succ, List.set_cons_zero, mCall, mCons, mNil, mVar, mC, mNot, mTest, mBin, mFn, List.getElem?_cons_succ, List.getElem?_cons_zero, Option.some.injEq, exists_eq_left', List.cons_append, List.nil_append, List.append_nil, List.length_cons, List.length_nil, Nat.zero_add, true_and, List.cons.injEq, and_true]))
  rcases e with e | e
  · exact .inl ⟨_, e, fin (m := .non)⟩
  · exact .inr (.inl ⟨_, e, fin (m := .non)⟩)
theorem w_make {d : D} (g : Gd d) (hy : isGrid d = true) {a : Addr} {O : OH} {P : D → OH → Prop} {R : Exn → OH → Prop} (ho : O a = none) (h : P (picD d) O) : g_Picture_init_ [.loc a, d] (O.put a (.ins "Picture" [] [])) (kMake P a) R := by
  refine w_init g hy OH.put_same ⟨rfl, _, OH.put_same, ?_⟩
  rw [OH.put_put, OH.del_put ho]
  exact h
end K01

set_option Elab.async false
set_option linter.all false
set_option maxRecDepth 100000
set_option maxHeartbeats 4000000
namespace K01
open PySem PySem.Spec PyProof.Rows L2 DL

mutual
/-- leaves of a fair size -/
def okD : D → Bool
  | .non => true
  | .bl _ => true
  | .int i => decide (i.natAbs < 10 ^ 55)
  | .str x => decide (x = "" ∨ x = "1" ∨ x = "11" ∨ x = "12")
  | .lst xs => okL xs
  | .tup xs => okL xs
  | .dic [] [] => true
  | _ => false
def okL : List D → Bool
  | [] => true
  | x :: xs => okD x && okL xs
end
mutual
def wgD : D → Nat
  | .int _ => 190
  | .str x => x.cps.size
  | .lst xs => wgL xs
  | .tup xs => wgL xs
  | _ => 0
def wgL : List D → Nat
  | [] => 0
  | x :: xs => wgD x + 1 + wgL xs
end
mutual
def dpD : D → Nat
  | .lst xs => dpL xs + 1
  | .tup xs => dpL xs + 1
  | .dic _ _ => 1
  | _ => 0
def dpL : List D → Nat
  | [] => 0
  | x :: xs => max (dpD x) (dpL xs)
end
mutual
def ndD : D → Bool
  | .dic _ _ => false
  | .lst xs => ndL xs
  | .tup xs => ndL xs
  | _ => true
def ndL : List D → Bool
  | [] => true
  | x :: xs => ndD x && ndL xs
end
structure Pd (d : D) (p : PyData) : Prop where
  pd : toPd d = some p
  sh : p.showable = true
  lv : p.leavesShort 60 = true
  wg : p.weight ≤ wgD d
  dp : p.depth ≤ dpD d
  py : ndD d = true → toPy d = some p ∧ p.canLay0 = true
  tx : PyData.strOk p.shown = true
structure PdL (ds : List D) (ps : List PyData) : Prop where
  pd : toPdL ds = some ps
  sh : PyData.showableAll ps = true
  lv : PyData.leavesShortAll 60 ps = true
  wg : PyData.weightAll ps ≤ wgL ds
  dp : PyData.depthAll ps ≤ dpL ds
  py : ndL ds = true → toPyL ds = some ps ∧ PyData.canLayAll0 ps = true
  tx : ∀ y ∈ PyData.shownAll ps, PyData.strOk y = true
theorem sk_of (s : String) : PyData.strOk (Str.ofString s) = true := by
  rw [Str.ofString_eq_toList]
  unfold PyData.strOk
  rw [Array.all_eq_true_iff_forall_mem]
  intro c hc
  simp only [List.mem_toArray, List.mem_map] at hc
  obtain ⟨a, _, rfl⟩ := hc
  have v := a.valid
  have : a.toNat < 0x110000 := by
    rcases v with v | v
    · exact Nat.lt_trans v (by decide)
    · exact v.2
  simpa using this
theorem sk_app {a b : Str} (h1 : PyData.strOk a = true) (h2 : PyData.strOk b = true) : PyData.strOk (a ++ b) = true := by
  show (a.cps ++ b.cps).all _ = true
  rw [Array.all_append]
  unfold PyData.strOk at h1 h2
  rw [h1, h2]
  rfl
theorem sk_from : ∀ (ts : List Str) (k : Nat) (acc : Str), PyData.strOk acc = true → (∀ t ∈ ts, PyData.strOk t = true) → PyData.strOk (textFrom k acc ts) = true
  | [], k, acc, h, _ => h
  | t :: ts, k, acc, h, ht => sk_from ts _ _ (sk_app (sk_app h (sk_of _)) (ht t List.mem_cons_self)) fun y hy => ht y (List.mem_cons_of_mem _ hy)
theorem sk_join : ∀ ts : List Str, (∀ t ∈ ts, PyData.strOk t = true) → PyData.strOk (Str.join ", " ts) = true
  | [], _ => by decide +kernel
  | [x], h => h x List.mem_cons_self
  | x :: y :: r, h => by
    show PyData.strOk (x ++ ", " ++ Str.join ", " (y :: r)) = true
    exact sk_app (sk_app (h x List.mem_cons_self) (sk_of _)) (sk_join (y :: r) fun z hz => h z (List.mem_cons_of_mem _ hz))
theorem sk_list {ts : List Str} (h : ∀ t ∈ ts, PyData.strOk t = true) : PyData.strOk (listText ts) = true := sk_app (sk_from ts 0 _ (sk_of _) h) (sk_of _)
theorem sk_tuple {ts : List Str} (h : ∀ t ∈ ts, PyData.strOk t = true) : PyData.strOk (tupleText ts) = true := sk_app (sk_app (sk_of _) (sk_join ts h)) (sk_of _)
theorem int_pd {i : Int} (h : i.natAbs < 10 ^ 55) : Pd (.int i) (.int i) := by
  have l : i.natAbs.log2 < 190 := by
    by_cases z : i.natAbs = 0
    · rw [z]; decide
    · exact (Nat.log2_lt z).mpr (Nat.lt_of_lt_of_le h (by decide))
  refine ⟨rfl, ?_, ?_, ?_, Nat.le_refl _, fun _ => ⟨rfl, rfl⟩, sk_of _⟩
  · simp only [PyData.showable, decide_eq_true_eq]; omega
  · have e := int_text_length_le10 (k := 55) (by decide) h
    simp only [PyData.leavesShort, decide_eq_true_eq]
    show (Str.ofString (toString i)).length ≤ 60
    rw [PySem.ofString_length]
    omega
  · show (if i == 0 then 0 else i.natAbs.log2 + 1) ≤ 190
    split <;> omega
theorem str_pd {x : Str} (h : x = "" ∨ x = "1" ∨ x = "11" ∨ x = "12") : Pd (.str x) (.str x) := by
  have hs : PyData.strOk x = true := by rcases h with rfl | rfl | rfl | rfl <;> decide +kernel
  have ht : PyData.strOk (PyData.str x).shown = true := by rcases h with rfl | rfl | rfl | rfl <;> decide +kernel
  have c : (PyData.str x).canLay0 = true := by simpa only [PyData.canLay0] using hs
  exact ⟨rfl, rfl, PyData.leavesShort_of_canLay0 60 _ c rfl, Nat.le_refl _, Nat.le_refl _, fun _ => ⟨rfl, c⟩, ht⟩
mutual
theorem ok_pd : ∀ {d : D}, okD d = true → ∃ p, Pd d p
  | .non, _ => ⟨.none, rfl, rfl, rfl, Nat.le_refl _, Nat.le_refl _, fun _ => ⟨rfl, rfl⟩, sk_of "None"⟩
  | .bl b, _ => ⟨.bool b, rfl, rfl, rfl, Nat.le_refl _, Nat.le_refl _, fun _ => ⟨rfl, rfl⟩, by cases b <;> decide +kernel⟩
  | .int i, h => ⟨_, int_pd (by simpa only [okD, decide_eq_true_eq] using h)⟩
  | .str x, h => ⟨_, str_pd (by simpa only [okD, decide_eq_true_eq] using h)⟩
  | .lst xs, h => by
    obtain ⟨ps, a⟩ := ok_pdL (ds := xs) (by simpa only [okD] using h)
    refine ⟨.list ps, ?_, ?_, ?_, ?_, ?_, fun n => ?_, ?_⟩
    · simp only [toPd, a.pd, Option.map_some]
    · simpa only [PyData.showable] using a.sh
    · simpa only [PyData.leavesShort] using a.lv
    · simpa only [PyData.weight, wgD] using a.wg
    · simpa only [PyData.depth, dpD] using Nat.add_le_add_right a.dp 1
    · have q := a.py (by simpa only [ndD] using n)
      exact ⟨by simp only [toPy, q.1, Option.map_some], by simpa only [PyData.canLay0] using q.2⟩
    · simp only [PyData.shown]; exact sk_list a.tx
  | .tup xs, h => by
    obtain ⟨ps, a⟩ := ok_pdL (ds := xs) (by simpa only [okD] using h)
    refine ⟨.tuple ps, ?_, ?_, ?_, ?_, ?_, fun n => ?_, ?_⟩
    · simp only [toPd, a.pd, Option.map_some]
    · simpa only [PyData.showable] using a.sh
    · simpa only [PyData.leavesShort] using a.lv
    · simpa only [PyData.weight, wgD] using a.wg
    · simpa only [PyData.depth, dpD] using Nat.add_le_add_right a.dp 1
    · have q := a.py (by simpa only [ndD] using n)
      exact ⟨by simp only [toPy, q.1, Option.map_some], by simpa only [PyData.canLay0] using q.2⟩
    · simp only [PyData.shown]; exact sk_tuple a.tx
  | .dic [] [], _ => ⟨.dict [], rfl, rfl, rfl, Nat.le_refl _, Nat.le_refl _, fun n => by simp [ndD] at n, by decide +kernel⟩
  | .dic [] (_ :: _), h => by simp [okD] at h
  | .dic (_ :: _) _, h => by simp [okD] at h
  | .ins _ _ _, h => by simp [okD] at h
  | .frz _, h => by simp [okD] at h
  | .loc _, h => by simp [okD] at h
  | .cls _, h => by simp [okD] at h
  | .ty _, h => by simp [okD] at h
theorem ok_pdL : ∀ {ds : List D}, okL ds = true → ∃ ps, PdL ds ps
  | [], _ => ⟨[], rfl, rfl, rfl, Nat.le_refl _, Nat.le_refl _, fun _ => ⟨rfl, rfl⟩, fun _ h => by cases h⟩
  | d :: ds, h => by
    have h' : okD d = true ∧ okL ds = true := by simpa only [okL, Bool.and_eq_true] using h
    obtain ⟨p, a⟩ := ok_pd h'.1
    obtain ⟨ps, b⟩ := ok_pdL h'.2
    refine ⟨p :: ps, ?_, ?_, ?_, ?_, ?_, fun n => ?_, fun y hy => ?_⟩
    · simp only [toPdL, a.pd, b.pd]
    · simp only [PyData.showableAll, a.sh, b.sh, Bool.and_self]
    · simp only [PyData.leavesShortAll, a.lv, b.lv, Bool.and_self]
    · have h1 := a.wg
      have h2 := b.wg
      simp only [PyData.weightAll, wgL]
      omega
    · have h1 := a.dp
      have h2 := b.dp
      simp only [PyData.depthAll, dpL]
      omega
    · have n' : ndD d = true ∧ ndL ds = true := by simpa only [ndL, Bool.and_eq_true] using n
      have q1 := a.py n'.1
      have q2 := b.py n'.2
      exact ⟨by simp only [toPyL, q1.1, q2.1], by simp only [PyData.canLayAll0, q1.2, q2.2, Bool.and_self]⟩
    · simp only [PyData.shownAll, List.mem_cons] at hy
      rcases hy with rfl | hy
      · exact a.tx
      · exact b.tx y hy
end
structure Th (d : D) : Prop where
  ok : okD d = true
  wg : wgD d ≤ 100000
  dp : dpD d ≤ 50
theorem len_wgL : ∀ xs : List D, xs.length ≤ wgL xs
  | [] => Nat.le_refl _
  | x :: xs => by
    have := len_wgL xs
    simp only [wgL, List.length_cons]
    omega
theorem wg_mem : ∀ {xs : List D} {x : D}, x ∈ xs → wgD x ≤ wgL xs
  | y :: ys, x, h => by
    cases h with
    | head => simp only [wgL]; omega
    | tail _ h =>
      have := wg_mem h
      simp only [wgL]
      omega
theorem sizeE : 100000 ≤ sizeLine := by rw [sizeLine_eq]; decide
theorem sz_of {d : D} (h : wgD d ≤ 100000) : Sz d := fun xs e => by
  have l := len_wgL xs
  have s := sizeE
  rcases e with rfl | rfl <;> simp only [wgD] at h <;> omega
theorem Th.gd {d : D} (t : Th d) : Gd d := by
  obtain ⟨p, a⟩ := ok_pd t.ok
  refine ⟨⟨p, a.pd⟩, sz_of t.wg, fun xs e x hx => sz_of ?_⟩
  have m := wg_mem hx
  have w := t.wg
  rcases e with rfl | rfl <;> simp only [wgD] at w <;> omega
theorem Pd.len {d : D} {p : PyData} (a : Pd d p) (h : wgD d ≤ 100000) : p.shown.length + 100 ≤ sizeLine := by
  have l := PyData.shown_le 60 (by decide) p a.lv
  have w := a.wg
  rw [sizeLine_eq]
  omega
theorem Pd.shaped {d : D} {p : PyData} (a : Pd d p) (n : ndD d = true) (h : dpD d ≤ 50) : SeqAt.shaped p = true := by
  have q := a.dp
  unfold SeqAt.shaped
  rw [(a.py n).2]
  simp
  omega
end K01

set_option Elab.async false
set_option linter.all false
set_option maxRecDepth 100000
set_option maxHeartbeats 4000000
namespace K01
open PySem PySem.Spec PyProof.Rows L2 DL

/-- what may have been left lying about -/
structure Le (O O' : OH) : Prop where
  up : ∀ b y, O b = some y → O' b = some y
  dn : ∀ b y, O' b = some y → O b = some y ∨ flatO y = true
theorem Le.rfl {O : OH} : Le O O := ⟨fun _ _ h => h, fun _ _ h => .inl h⟩
theorem Le.put {O : OH} {a : Addr} {y : DO} (h : O a = none) (f : flatO y = true) : Le O (O.put a y) := by
  refine ⟨fun b z e => ?_, fun b z e => ?_⟩
  · have n : b ≠ a := fun q => by subst q; rw [h] at e; cases e
    rw [OH.put_ne n]; exact e
  · by_cases q : b = a
    · subst q
      rw [OH.put_same] at e
      cases e
      exact .inr f
    · rw [OH.put_ne q] at e
      exact .inl e
theorem w_repr {d : D} {p : PyData} (a : Pd d p) (t : Th d) {P : D → Prop} (h : P (.str p.shown)) : wRepr [d] P := by
  have l := a.len t.wg
  have q := a.dp
  have w := t.dp
  exact ⟨d, p, rfl, a.pd, a.sh, by omega, by omega, h⟩
theorem w_outcome_no {d : D} {p : PyData} (a : Pd d p) (t : Th d) (hn : isGrid d = false) {O : OH} {P : D → OH → Prop} {R : Exn → OH → Prop}
    (h : ∀ O', Le O O' → P (.lst [.str "invalid", .str p.shown, .bl true]) O') : g_l_outcome [d] O P R := by
  unfold g_l_outcome m_l_outcome
  simp only [bodyF, sSeq, sTry, sSet, mMake]
  ((simp only [gNm, wipeD, List.map_cons, List.map_nil, List.replicate, if_true, List.set_cons_succ, List.set_cons_zero, mCall, mCons, mNil, mVar, mC, mNot, mTest, mBin, mFn, List.getElem?_cons_succ, List.getElem?_cons_zero, Option.some.injEq, exists_eq_left', List.cons_append, List.nil_append, List.append_nil, List.length_cons, List.length_nil, Nat.zero_add, true_and, List.cons.injEq, and_true]))
  intro x hx
  refine w_init_no t.gd hn ⟨true, rfl, fun _ c => ?_, fun z => nomatch z⟩
  simp only [sRet, mLst, mXf, mIsX]
  ((simp only [gNm, wipeD, List.map_cons, List.map_nil, List.replicate, if_true, List.set_cons_succ, List.set_cons_zero, mCall, mCons, mNil, mVar, mC, mNot, mTest, mBin, mFn, List.getElem?_cons_succ, List.getElem?_cons_zero, Option.some.injEq, exists_eq_left', List.cons_append, List.nil_append, List.append_nil, List.length_cons, List.length_nil, Nat.zero_add, true_and, List.cons.injEq, and_true]))
  exact ⟨_, rfl, rfl, rfl, ["value"], [d], d, rfl, if_pos rfl, w_repr a t ⟨rfl, _, rfl, rfl, ⟨_, rfl⟩, true, if_pos rfl, by rw [sizeLine_eq]; decide, h _ (Le.put hx rfl)⟩⟩
theorem okL_all : ∀ {xs : List D}, okL xs = true ↔ ∀ x ∈ xs, okD x = true
  | [] => by simp [okL]
  | x :: xs => by
    simp only [okL, Bool.and_eq_true, okL_all (xs := xs), List.mem_cons, forall_eq_or_imp]
theorem ndL_all : ∀ {xs : List D}, ndL xs = true ↔ ∀ x ∈ xs, ndD x = true
  | [] => by simp [ndL]
  | x :: xs => by
    simp only [ndL, Bool.and_eq_true, ndL_all (xs := xs), List.mem_cons, forall_eq_or_imp]
theorem toT_ok {x : D} : okD (toT x) = okD x := by cases x <;> first | rfl | simp only [toT, okD]
theorem toT_wg {x : D} : wgD (toT x) = wgD x := by cases x <;> simp [toT, wgD]
theorem toT_dp {x : D} : dpD (toT x) = dpD x := by cases x <;> simp [toT, dpD]
theorem toT_wgL : ∀ {xs : List D}, wgL (xs.map toT) = wgL xs
  | [] => rfl
  | x :: xs => by simp only [List.map_cons, wgL, toT_wg, toT_wgL (xs := xs)]
theorem toT_dpL : ∀ {xs : List D}, dpL (xs.map toT) = dpL xs
  | [] => rfl
  | x :: xs => by simp only [List.map_cons, dpL, toT_dp, toT_dpL (xs := xs)]
theorem cnt_nd {x : D} (h : isCnt x = true) : ndD x = true := by cases x <;> simp [isCnt, ndD] at h ⊢
theorem row_nd {x : D} (h : isRow x = true) : ndD (toT x) = true := by
  cases x with
  | lst xs =>
    have h' : rowL xs = true := h
    simp only [rowL, Bool.and_eq_true, List.all_eq_true] at h'
    simp only [toT, ndD, ndL_all]
    exact fun y hy => cnt_nd (h'.2 y hy)
  | tup xs =>
    have h' : rowL xs = true := h
    simp only [rowL, Bool.and_eq_true, List.all_eq_true] at h'
    simp only [toT, ndD, ndL_all]
    exact fun y hy => cnt_nd (h'.2 y hy)
  | _ => cases h
theorem rows_th {d : D} (t : Th d) (h : isGrid d = true) : Th (rowsT d) ∧ ndD (rowsT d) = true := by
  obtain ⟨e, g⟩ := grid_el h
  have hr := gridL_row g
  obtain ⟨h1, h2, h3⟩ := t
  have hh : okL (elD d) = true ∧ wgL (elD d) ≤ 100000 ∧ dpL (elD d) + 1 ≤ 50 := by
    cases d with
    | lst => simpa only [okD, wgD, dpD, elD] using And.intro h1 (And.intro h2 h3)
    | tup => simpa only [okD, wgD, dpD, elD] using And.intro h1 (And.intro h2 h3)
    | _ => cases h
  refine ⟨⟨?_, ?_, ?_⟩, ?_⟩
  · simp only [rowsT, okD, okL_all]
    intro y hy
    obtain ⟨x, hx, rfl⟩ := List.mem_map.mp hy
    rw [toT_ok]
    exact okL_all.mp hh.1 x hx
  · simp only [rowsT, wgD, toT_wgL]
    exact hh.2.1
  · simp only [rowsT, dpD, toT_dpL]
    exact hh.2.2
  · simp only [rowsT, ndD, ndL_all]
    intro y hy
    obtain ⟨x, hx, rfl⟩ := List.mem_map.mp hy
    exact row_nd (hr x hx)
theorem rows_pos {d : D} (h : isGrid d = true) : ∃ x xs, elD d = x :: xs ∧ isRow x = true := by
  obtain ⟨e, g⟩ := grid_el h
  have hr := gridL_row g
  cases e2 : elD d with
  | nil => rw [e2] at g; cases g
  | cons x xs => exact ⟨x, xs, rfl, hr x (by rw [e2]; exact List.mem_cons_self)⟩
theorem w_prows {d : D} {O : OH} {P : D → OH → Prop} {R : Exn → OH → Prop} (h : P (rowsT d) O) : g_Picture_rows [picD d] O P R := by
  unfold g_Picture_rows m_Picture_rows picD
  simp only [bodyF, sRet, mFld]
  ((simp only [gNm, wipeD, List.map_cons, List.map_nil, List.replicate, if_true, List.set_cons_succ, List.set_cons_zero, mCall, mCons, mNil, mVar, mC, mNot, mTest, mBin, mFn, List.getElem?_cons_succ, List.getElem?_cons_zero, Option.some.injEq, exists_eq_left', List.cons_append, List.nil_append, List.append_nil, List.length_cons, List.length_nil, Nat.zero_add, true_and, List.cons.injEq, and_true]))
  exact ⟨_, _, _, rfl, if_pos rfl, h⟩
theorem w_pheight {d : D} {O : OH} {P : D → OH → Prop} {R : Exn → OH → Prop} (h : P (.int (elD d).length) O) : g_Picture_height [picD d] O P R := by
  unfold g_Picture_height m_Picture_height picD
  simp only [bodyF, sRet, mFld]
  ((simp only [gNm, wipeD, List.map_cons, List.map_nil, List.replicate, if_true, List.set_cons_succ, List.set_cons_zero, mCall, mCons, mNil, mVar, mC, mNot, mTest, mBin, mFn, List.getElem?_cons_succ, List.getElem?_cons_zero, Option.some.injEq, exists_eq_left', List.cons_append, List.nil_append, List.append_nil, List.length_cons, List.length_nil, Nat.zero_add, true_and, List.cons.injEq, and_true]))
  refine ⟨_, rfl, _, _, _, rfl, if_pos rfl, _, rfl, ?_⟩
  simp only [rowsT, List.length_map]
  exact h
theorem len_toT {x : D} (h : isRow x = true) {P : D → Prop} (k : P (.int (lenD x))) : wLen [toT x] P := by
  cases x with
  | lst => exact ⟨_, rfl, k⟩
  | tup => exact ⟨_, rfl, k⟩
  | _ => cases h
theorem w_pwidth {d x : D} {xs : List D} (e : elD d = x :: xs) (hx : isRow x = true) {O : OH} {P : D → OH → Prop} {R : Exn → OH → Prop} (h : P (.int (lenD x)) O) : g_Picture_width [picD d] O P R := by
  unfold g_Picture_width m_Picture_width picD rowsT
  simp only [bodyF, sRet, mFld]
  ((simp only [gNm, wipeD, List.map_cons, List.map_nil, List.replicate, if_true, List.set_cons_succ, List.set_cons_zero, mCall, mCons, mNil, mVar, mC, mNot, mTest, mBin, mFn, List.getElem?_cons_succ, List.getElem?_cons_zero, Option.some.injEq, exists_eq_left', List.cons_append, List.nil_append, List.append_nil, List.length_cons, List.length_nil, Nat.zero_add, true_and, List.cons.injEq, and_true]))
  refine ⟨_, rfl, _, _, _, rfl, if_pos rfl, 0, rfl, toT x, ?_, len_toT hx h⟩
  rw [e]
  exact ix0
theorem w_prepr {d : D} {q : PyData} (a : Pd (rowsT d) q) (t : Th (rowsT d)) {O : OH} {P : D → OH → Prop} {R : Exn → OH → Prop} (h : P (.str ("Picture(" ++ q.shown ++ ")")) O) : g_Picture_repr_ [picD d] O P R := by
  have l := a.len t.wg
  have q1 := a.dp
  have w := t.dp
  unfold g_Picture_repr_ m_Picture_repr_ picD
  simp only [bodyF, sRet, mJoin, mJs, mShow, mFld]
  ((simp only [gNm, wipeD, List.map_cons, List.map_nil, List.replicate, if_true, List.set_cons_succ, List.set_cons_zero, mCall, mCons, mNil, mVar, mC, mNot, mTest, mBin, mFn, List.getElem?_cons_succ, List.getElem?_cons_zero, Option.some.injEq, exists_eq_left', List.cons_append, List.nil_append, List.append_nil, List.length_cons, List.length_nil, Nat.zero_add, true_and, List.cons.injEq, and_true]))
  have e1 : (Str.empty ++ ("Picture(" : Str)) = ("Picture(" : Str) := rfl
  have e2 : ("Picture(" : Str).length = 8 := rfl
  have e3 : (")" : Str).length = 1 := rfl
  refine ⟨_, rfl, by rw [e1, e2, sizeLine_eq]; decide, _, _, _, rfl, if_pos rfl, q, a.pd, a.sh, by omega, by omega, _, rfl, ?_, _, rfl, ?_, ?_⟩
  · rw [e1, strLen_append, e2]; omega
  · rw [e1, strLen_append, strLen_append, e2, e3]; omega
  · rw [e1]; exact h
theorem w_outcome {d : D} {q : PyData} (t : Th d) (hy : isGrid d = true) (a : Pd (rowsT d) q) {O : OH} {P : D → OH → Prop} {R : Exn → OH → Prop}
    (h : P (.lst [rowsT d, .int (elD d).length, .int (lenD ((elD d).headD .non)), .str ("Picture(" ++ q.shown ++ ")")]) O) : g_l_outcome [d] O P R := by
  obtain ⟨x, xs, ee, hx⟩ := rows_pos hy
  obtain ⟨t2, n2⟩ := rows_th t hy
  have l2 := a.len t2.wg
  unfold g_l_outcome m_l_outcome
  simp only [bodyF, sSeq, sTry, sSet, mMake]
  ((simp only [gNm, wipeD, List.map_cons, List.map_nil, List.replicate, if_true, List.set_cons_succ, List.set_cons_zero, mCall, mCons, mNil, mVar, mC, mNot, mTest, mBin, mFn, List.getElem?_cons_succ, List.getElem?_cons_zero, Option.some.injEq, exists_eq_left', List.cons_append, List.nil_append, List.append_nil, List.length_cons, List.length_nil, Nat.zero_add, true_and, List.cons.injEq, and_true]))
  intro y hy0
  refine w_make t.gd hy hy0 ?_
  simp only [sRet, mLst, mProp, mReprI]
  ((simp only [gNm, wipeD, List.map_cons, List.map_nil, List.replicate, if_true, List.set_cons_succ, List.set_cons_zero, mCall, mCons, mNil, mVar, mC, mNot, mTest, mBin, mFn, List.getElem?_cons_succ, List.getElem?_cons_zero, Option.some.injEq, exists_eq_left', List.cons_append, List.nil_append, List.append_nil, List.length_cons, List.length_nil, Nat.zero_add, true_and, List.cons.injEq, and_true]))
  refine ⟨_, rfl, _, _, rfl, w_prows ⟨_, rfl, _, _, rfl, w_pheight ⟨_, rfl, _, _, rfl, w_pwidth ee hx ⟨_, rfl, _, _, rfl, w_prepr a t2 ⟨_, rfl, by rw [sizeLine_eq]; decide, ?_⟩⟩⟩⟩⟩
  have e : (elD d).headD .non = x := by rw [ee]; rfl
  rw [e] at h
  exact h
theorem eqvR (p : PyData) (c : p.canLay0 = true) : PyData.eqv p p = true := by
  exact SeqAt.eqv_refl p c
theorem eq_self {d : D} {p : PyData} (e : toPy d = some p) (c : p.canLay0 = true) (l : p.depth ≤ 64) {P : D → Prop} (h : P (.bl true)) : wEq' d d P := by
  refine .inl ⟨p, p, e, e, ?_, ?_, ?_⟩
  · unfold SeqAt.shaped; rw [c]; simp; exact l
  · unfold SeqAt.shaped; rw [c]; simp; exact l
  · rw [eqvR p c]
    exact h
theorem w_tuples {d : D} (t : Th d) (hy : isGrid d = true) {O : OH} {P : D → OH → Prop} {R : Exn → OH → Prop} (h : P (rowsT d) O) : g_l_tuples [d] O P R := by
  obtain ⟨e, hg⟩ := grid_el hy
  have hr := gridL_row hg
  have g := t.gd
  unfold g_l_tuples m_l_tuples
  simp only [bodyF, sRet]
  ((simp only [gNm, wipeD, List.map_cons, List.map_nil, List.replicate, if_true, List.set_cons_succ, List.set_cons_zero, mCall, mCons, mNil, mVar, mC, mNot, mTest, mBin, mFn, List.getElem?_cons_succ, List.getElem?_cons_zero, Option.some.injEq, exists_eq_left', List.cons_append, List.nil_append, List.append_nil, List.length_cons, List.length_nil, Nat.zero_add, true_and, List.cons.injEq, and_true]))
  have fin : wLc (gNm 1) mYes (mFn wTuple (mCons (mVar 1) mNil)) [1] [some d, none] (fun acc O2 => wTuple [D.lst acc] fun d => P d O2) (elD d) [] O := by
    refine wlc (c := fun _ => true) (f := toT) _ _ (fun y hy K1 K2 k => ?_) ?_ (.inl ⟨_, rfl, ?_⟩)
    · unfold mYes
      ((simp only [gNm, wipeD, List.map_cons, List.map_nil, List.replicate, if_true, List.set_cons_succ, List.set_cons_zero, mCall, mCons, mNil, mVar, mC, mNot, mTest, mBin, mFn, List.getElem?_cons_succ, List.getElem?_cons_zero, Option.some.injEq, exists_eq_left', List.cons_append, List.nil_append, List.append_nil, List.length_cons, List.length_nil, Nat.zero_add, true_and, List.cons.injEq, and_true]))
      exact w_tupR (hr y hy) k
    · simp only [List.length_nil, Nat.zero_add]
      rcases e with e | e
      · exact g.sz _ (.inl e)
      · exact g.sz _ (.inr e)
    · rw [filter_yes]
      exact h
  unfold mLc mSeq
  ((simp only [gNm, wipeD, List.map_cons, List.map_nil, List.replicate, if_true, List.set_cons_succ, List.set_cons_zero, mCall, mCons, mNil, mVar, mC, mNot, mTest, mBin, mFn, List.getElem?_cons_succ, List.getElem?_cons_zero, Option.some.injEq, exists_eq_left', List.cons_append, List.nil_append, List.append_nil, List.length_cons, List.length_nil, Nat.zero_add, true_and, List.cons.injEq, and_true]))
  rcases e with e | e
  · exact .inl ⟨_, e, fin⟩
  · exact .inr (.inl ⟨_, e, fin⟩)
theorem w_holds_no {d : D} (t : Th d) (hn : isGrid d = false) {O : OH} {P : D → OH → Prop} {R : Exn → OH → Prop} (h : ∀ O', Le O O' → P (.bl true) O') : g_l_holds [d] O P R := by
  obtain ⟨p, a⟩ := ok_pd t.ok
  unfold g_l_holds m_l_holds
  simp only [bodyF, sSeq, sSet, sIf, sRet, mLst]
  ((simp only [gNm, wipeD, List.map_cons, List.map_nil, List.replicate, if_true, List.set_cons_succ, List.set_cons_zero, mCall, mCons, mNil, mVar, mC, mNot, mTest, mBin, mFn, List.getElem?_cons_succ, List.getElem?_cons_zero, Option.some.injEq, exists_eq_left', List.cons_append, List.nil_append, List.append_nil, List.length_cons, List.length_nil, Nat.zero_add, true_and, List.cons.injEq, and_true]))
  refine w_outcome_no a t hn fun O' le => ?_
  refine w_lgrid t.gd ⟨_, rfl, ?_⟩
  rw [hn]
  simp only [Bool.not_false, if_true]
  unfold mLst
  ((simp only [gNm, wipeD, List.map_cons, List.map_nil, List.replicate, if_true, List.set_cons_succ, List.set_cons_zero, mCall, mCons, mNil, mVar, mC, mNot, mTest, mBin, mFn, List.getElem?_cons_succ, List.getElem?_cons_zero, Option.some.injEq, exists_eq_left', List.cons_append, List.nil_append, List.append_nil, List.length_cons, List.length_nil, Nat.zero_add, true_and, List.cons.injEq, and_true]))
  refine w_repr a t ⟨by rw [sizeLine_eq]; decide, eq_self (p := .list [.str "invalid", .str p.shown, .bool true]) rfl ?_ (by simp [PyData.depth, PyData.depthAll]) (h O' le)⟩
  simp only [PyData.canLay0, PyData.canLayAll0, a.tx, sk_of, Bool.and_self]
theorem w_holds_yes {d : D} (t : Th d) (hy : isGrid d = true) {O : OH} {P : D → OH → Prop} {R : Exn → OH → Prop} (h : P (.bl true) O) : g_l_holds [d] O P R := by
  obtain ⟨t2, n2⟩ := rows_th t hy
  obtain ⟨q, a⟩ := ok_pd t2.ok
  obtain ⟨x, xs, ee, hx⟩ := rows_pos hy
  have hd : (elD d).headD .non = x := by rw [ee]; rfl
  have l := a.len t2.wg
  have e2 : ("Picture(" : Str).length = 8 := rfl
  have e3 : (")" : Str).length = 1 := rfl
  obtain ⟨py, cl⟩ := a.py n2
  have dq := a.dp
  have dt := t2.dp
  unfold g_l_holds m_l_holds
  simp only [bodyF, sSeq, sSet, sIf, sRet, mLst]
  ((simp only [gNm, wipeD, List.map_cons, List.map_nil, List.replicate, if_true, List.set_cons_succ, List.set_cons_zero, mCall, mCons, mNil, mVar, mC, mNot, mTest, mBin, mFn, List.getElem?_cons_succ, List.getElem?_cons_zero, Option.some.injEq, exists_eq_left', List.cons_append, List.nil_append, List.append_nil, List.length_cons, List.length_nil, Nat.zero_add, true_and, List.cons.injEq, and_true]))
  refine w_outcome t hy a ?_
  refine w_lgrid t.gd ⟨_, rfl, ?_⟩
  rw [hy]
  simp only [Bool.not_true, Bool.false_eq_true, if_false, sNil]
  simp only [sSeq, sSet, sRet]
  ((simp only [gNm, wipeD, List.map_cons, List.map_nil, List.replicate, if_true, List.set_cons_succ, List.set_cons_zero, mCall, mCons, mNil, mVar, mC, mNot, mTest, mBin, mFn, List.getElem?_cons_succ, List.getElem?_cons_zero, Option.some.injEq, exists_eq_left', List.cons_append, List.nil_append, List.append_nil, List.length_cons, List.length_nil, Nat.zero_add, true_and, List.cons.injEq, and_true]))
  refine w_tuples t hy ?_
  unfold mLst
  ((simp only [gNm, wipeD, List.map_cons, List.map_nil, List.replicate, if_true, List.set_cons_succ, List.set_cons_zero, mCall, mCons, mNil, mVar, mC, mNot, mTest, mBin, mFn, List.getElem?_cons_succ, List.getElem?_cons_zero, Option.some.injEq, exists_eq_left', List.cons_append, List.nil_append, List.append_nil, List.length_cons, List.length_nil, Nat.zero_add, true_and, List.cons.injEq, and_true]))
  have ix : atI ((elD d).map toT) 0 = some (toT x) := by
    rw [ee]
    exact ix0
  have ep : toPy (.lst [rowsT d, .int (elD d).length, .int (lenD x), .str ("Picture(" ++ q.shown ++ ")")]) = some (.list [q, .int (elD d).length, .int (lenD x), .str ("Picture(" ++ q.shown ++ ")")]) := by
    simp only [toPy, toPyL, py, Option.map_some]
  have ec : (PyData.list [q, .int (elD d).length, .int (lenD x), .str ("Picture(" ++ q.shown ++ ")")]).canLay0 = true := by
    simp only [PyData.canLay0, PyData.canLayAll0, cl, sk_app (sk_app (sk_of "Picture(") a.tx) (sk_of ")"), Bool.and_self]
  have ed : (PyData.list [q, .int (elD d).length, .int (lenD x), .str ("Picture(" ++ q.shown ++ ")")]).depth ≤ 64 := by
    simp only [PyData.depth, PyData.depthAll]
    omega
  refine ⟨_, rfl, 0, rfl, toT x, ix, len_toT hx (w_repr a t2 ⟨?_, ?_, by rw [sizeLine_eq]; decide, ?_⟩)⟩
  · rw [e2]; omega
  · rw [strLen_append, e2, e3]; omega
  · rw [hd, List.length_map]
    exact eq_self ep ec ed h
theorem w_holds {d : D} (t : Th d) {O : OH} {P : D → OH → Prop} {R : Exn → OH → Prop} (h : ∀ O', Le O O' → P (.bl true) O') : g_l_holds [d] O P R := by
  cases e : isGrid d with
  | false => exact w_holds_no t e h
  | true => exact w_holds_yes t e (h O .rfl)
end K01

set_option Elab.async false
set_option linter.all false
set_option maxRecDepth 100000
set_option maxHeartbeats 4000000
namespace K01
open PySem PySem.Spec PyProof.Rows L2 DL

def PoolAt (O : OH) (p : Addr) : Prop := ∃ a b : Int, O p = some (.lst [.int a, .int b])
theorem at0 {x y : D} : atI [x, y] 0 = some x := rfl
theorem at1 {x y : D} : atI [x, y] 1 = some y := rfl
theorem cdiv {m : Int} (h : 0 < m) (h2 : m < 1000) : CDivW 0 m := ⟨h, by
  have : m.natAbs < 2 ^ 10 := by omega
  by_cases z : m.natAbs = 0
  · rw [z]; decide
  · have := (Nat.log2_lt z).mpr this
    omega⟩
theorem ixO {i : Nat} {p : Addr} {k : Int} {ρ : Rho} {O : OH} {ds : List D} {d : D} {P : D → OH → Prop} {R : Exn → OH → Prop} (hρ : ρ[i]? = some (some (.loc p))) (ho : O p = some (.lst ds)) (ha : atI ds k = some d) (h : P d O) : mIxO (mVar i) (mC (.int k)) ρ O P R :=
  ⟨_, hρ, p, k, ds, d, rfl, rfl, ho, ha, h⟩
theorem mulL {i j : Int} (h : 0 ≤ i ∧ i < 2 ^ 64) : CMul i j := .inl ⟨by omega, h.2⟩
theorem mulR {i j : Int} (h : 0 ≤ j ∧ j < 2 ^ 64) : CMul i j := .inr ⟨by omega, h.2⟩
theorem b01 (b : Bool) : (0 : Int) ≤ (if b = true then 1 else 0) ∧ (if b = true then (1 : Int) else 0) < 2 ^ 64 := by cases b <;> decide
theorem cdv {b m : Int} (h : 0 < m) (h2 : m < 1000) : CDivW b m := cdiv h h2
theorem w_draw {p : Addr} {m : Int} {O : OH} (ho : PoolAt O p) (hm : 0 < m) (h2 : m < 1000) {P : D → OH → Prop} {R : Exn → OH → Prop}
    (h : ∀ (r a b : Int), 0 ≤ r → r < m → P (.int r) (O.put p (.lst [.int a, .int b]))) : g_l_draw [.loc p, .int m] O P R := by
  obtain ⟨a, b, ho⟩ := ho
  have e0 : ∀ {b}, CDivW b m := fun {_} => cdiv hm h2
  unfold g_l_draw m_l_draw
  simp only [bodyF, sSeq, sIf, sSet, sRet, sAsg, gSubO]
  ((simp only [gNm, wipeD, List.map_cons, List.map_nil, List.replicate, if_true, List.set_cons_succ, List.set_cons_zero, mCall, mCons, mNil, mVar, mC, mNot, mTest, mBin, mFn, List.getElem?_cons_succ, List.getElem?_cons_zero, Option.some.injEq, exists_eq_left', List.cons_append, List.nil_append, List.append_nil, List.length_cons, List.length_nil, Nat.zero_add, true_and, List.cons.injEq, and_true]))
  refine ixO rfl ho at0 ⟨_, rfl, ?_⟩
  by_cases c : (0 : Int) < a
  · rw [if_pos (by simpa using c)]
    refine ixO rfl ho at0 ⟨hm, ixO rfl ho at0 ⟨e0, p, 0, _, 0, rfl, rfl, ho, rfl, ?_⟩⟩
    exact h _ _ _ (Int.emod_nonneg _ (by omega)) (Int.emod_lt_of_pos _ hm)
  · rw [if_neg (by simpa using c)]
    simp only [sNil, sSeq, sAsg, sRet]
    ((simp only [gNm, wipeD, List.map_cons, List.map_nil, List.replicate, if_true, List.set_cons_succ, List.set_cons_zero, mCall, mCons, mNil, mVar, mC, mNot, mTest, mBin, mFn, List.getElem?_cons_succ, List.getElem?_cons_zero, Option.some.injEq, exists_eq_left', List.cons_append, List.nil_append, List.append_nil, List.length_cons, List.length_nil, Nat.zero_add, true_and, List.cons.injEq, and_true]))
    refine ixO rfl ho at1 ⟨.inl (mulR (by decide)), (show (0 : Int) < 2147483647 by decide), _, rfl, p, 1, _, 1, rfl, rfl, ho, rfl, ?_⟩
    have l1 := Int.emod_nonneg (b * 48271 + 11) (b := 2147483647) (by decide)
    have l2 := Int.emod_lt_of_pos (b * 48271 + 11) (b := 2147483647) (by decide)
    refine ixO rfl OH.put_same at1 (ixO rfl OH.put_same at1 ⟨.inl (mulR ⟨l1, by omega⟩), (show (0 : Int) < 2147483629 by decide), cdv (by decide) (by decide), _, rfl, hm, ?_⟩)
    exact h _ _ _ (Int.emod_nonneg _ (by omega)) (Int.emod_lt_of_pos _ hm)
theorem w_pool {ns : List Int} {k : Int} (hk : 0 ≤ k) (hk2 : k < 100) {O : OH} {P : D → OH → Prop} {R : Exn → OH → Prop}
    (h : ∀ (p : Addr) (a b : Int), O p = none → P (.loc p) (O.put p (.lst [.int a, .int b]))) : g_l_pool [.frz (ns.map D.int), .int k] O P R := by
  have cut : DL.cutD (ns.map D.int) none (some 63) = (((ns.drop (HT.sIx ns.length 0 none)).take (HT.sIx ns.length ns.length (some 63) - HT.sIx ns.length 0 none))).map D.int := by
    unfold DL.cutD
    rw [List.map_take, List.map_drop, List.length_map]
  unfold g_l_pool m_l_pool
  simp only [bodyF, sSeq, sIf, sSet, sRet, sNil, mSl, mPn, mPs, wCut, mLstO]
  ((simp only [gNm, wipeD, List.map_cons, List.map_nil, List.replicate, if_true, List.set_cons_succ, List.set_cons_zero, mCall, mCons, mNil, mVar, mC, mNot, mTest, mBin, mFn, List.getElem?_cons_succ, List.getElem?_cons_zero, Option.some.injEq, exists_eq_left', List.cons_append, List.nil_append, List.append_nil, List.length_cons, List.length_nil, Nat.zero_add, true_and, List.cons.injEq, and_true]))
  have tail : ∀ c : Int, wAbs [D.int c] fun d => wMod d (D.int 2147483629) fun d_3 => wMul (D.int 7919) (D.int k) fun d_4 => wMul d_4 (D.int k) fun d_5 => wAdd d_3 d_5 fun d_6 => wMul (D.int 31) (D.int k) fun d_7 =>
      wAdd d_6 d_7 fun d_8 => wAdd d_8 (D.int 17) fun d_9 => wMul d_9 (D.int 48271) fun d_10 => wMod d_10 (D.int 2147483647) fun d_11 => wPow (D.int 10) (D.int 18) fun d_12 => wGe d d_12 fun d_13 => wInt [d_13] fun d_14 =>
      wMul d d_14 fun d => wMul d_11 d_11 fun d_15 => wMod d_15 (D.int 2147483629) fun d_16 => 1 + 1 ≤ sizeLine ∧ ∀ (p : Addr), O p = none → P (D.loc p) (O.put p (DO.lst [d, d_16])) := by
    intro c
    refine ⟨c, rfl, (show (0 : Int) < 2147483629 by decide), .inl (mulR ⟨hk, by omega⟩), .inl (mulR ⟨hk, by omega⟩), .inl (mulR ⟨hk, by omega⟩), .inl (mulR (by decide)), (show (0 : Int) < 2147483647 by decide), ⟨by decide, by decide, by decide⟩, ?_⟩
    refine .inr ⟨_, rfl, ?_⟩
    refine ⟨.inl (mulR (b01 _)), .inl (mulR ⟨Int.emod_nonneg _ (by decide), Int.lt_trans (Int.emod_lt_of_pos _ (by decide)) (by decide)⟩), (show (0 : Int) < 2147483629 by decide), by rw [sizeLine_eq]; decide, fun p hp => h p _ _ hp⟩
  refine ⟨_, rfl, _, rfl, _, .inl (by rw [cut]), .inl (mulL (by decide)), ?_⟩
  refine ⟨_, rfl, _, rfl, ?_⟩
  by_cases c : k < ns.length
  · rw [if_pos (by simpa using c)]
    have hi : atI (ns.map D.int) k = some (.int (ns.getD k.toNat 0)) := by
      unfold atI ixN
      have : k.toNat < ns.length := by omega
      simp [hk, c, this]
    exact ⟨k, rfl, _, hi, tail _⟩
  · rw [if_neg (by simpa using c)]
    exact tail _
/-! ### comprehensions with a state -/
theorem wlcI {g : MG OH} {m : ME OH} {vs : List Nat} {ρ : Rho} {P : List D → OH → Prop} {I : List D → OH → Prop} : ∀ (ds acc : List D) (O : OH), I acc O →
    (∀ d ∈ ds, ∀ acc O, I acc O → ∀ K : D → OH → Prop, (∀ y O3, I (acc ++ [y]) O3 → K y O3) → g d (wipeD ρ vs) O fun ρ1 O1 => m ρ1 O1 K R0) →
    acc.length + ds.length ≤ sizeLine → (∀ acc' O', acc'.length = acc.length + ds.length → I acc' O' → P acc' O') → wLc g mYes m vs ρ P ds acc O
  | [], acc, O, hI, _, _, h => h acc O (by simp) hI
  | d :: ds, acc, O, hI, hs, hl, h => by
    have hl' : acc.length + (ds.length + 1) ≤ sizeLine := hl
    unfold wLc mYes
    simp only [if_true]
    refine hs d List.mem_cons_self acc O hI _ fun y O3 h3 => ⟨by omega, ?_⟩
    refine wlcI ds _ O3 h3 (fun x hx => hs x (List.mem_cons_of_mem _ hx)) (by simp; omega) fun acc' O' e hh => h acc' O' ?_ hh
    simp at e ⊢
    omega
def Flat (O : OH) : Prop := ∀ b y, O b = some y → flatO y = true
theorem Flat.put {O : OH} {a : Addr} {y : DO} (f : Flat O) (h : flatO y = true) : Flat (O.put a y) := fun b z e => by
  by_cases q : b = a
  · subst q
    rw [OH.put_same] at e
    cases e
    exact h
  · rw [OH.put_ne q] at e
    exact f b z e
theorem flat_ints : ∀ ns : List Int, flatL (ns.map D.int) = true
  | [] => rfl
  | n :: ns => by simp only [List.map_cons, flatL, flat_ints ns, Bool.and_self]
theorem flat_locs : ∀ ns : List Addr, flatL (ns.map D.loc) = true
  | [] => rfl
  | n :: ns => by simp only [List.map_cons, flatL, flat_locs ns, Bool.and_self]
/-- a row under way: the pool changes alone -/
def Draws (p : Addr) (O O' : OH) : Prop := PoolAt O' p ∧ ∀ b, b ≠ p → O' b = O b
theorem Draws.put {p : Addr} {O O' : OH} (h : Draws p O O') (a b : Int) : Draws p O (O'.put p (.lst [.int a, .int b])) :=
  ⟨⟨a, b, OH.put_same⟩, fun c n => by rw [OH.put_ne n]; exact h.2 c n⟩
theorem Draws.flat {p : Addr} {O O' : OH} (h : Draws p O O') (f : Flat O) : Flat O' := fun b y e => by
  by_cases q : b = p
  · subst q
    obtain ⟨a, c, z⟩ := h.1
    rw [z] at e
    cases e
    rfl
  · rw [h.2 b q] at e
    exact f b y e
/-- rows under way -/
structure Under (p : Addr) (w : Nat) (acc : List D) (O : OH) : Prop where
  ex : ∃ (as : List Addr) (xss : List (List Int)), acc = as.map D.loc ∧ as.length = xss.length ∧ (∀ (j : Nat) (b : Addr) (xs : List Int), as[j]? = some b → xss[j]? = some xs → O b = some (.lst (xs.map D.int))) ∧
    (∀ b ∈ as, b ≠ p) ∧ ∀ xs ∈ xss, xs.length = w ∧ ∀ i ∈ xs, 0 ≤ i ∧ i < 5
  pool : PoolAt O p
  flat : Flat O
theorem w_random {p : Addr} {O : OH} (ho : PoolAt O p) (hf : Flat O) {P : D → OH → Prop} {R : Exn → OH → Prop}
    (h : ∀ (h w : Nat) (r : Addr) (as : List Addr) (xss : List (List Int)) (O' : OH), 0 < h → h ≤ 4 → 0 < w → w ≤ 4 → xss.length = h → Rws O' r as xss → (∀ xs ∈ xss, xs.length = w ∧ ∀ i ∈ xs, 0 ≤ i ∧ i < 5) →
      (∀ b, inA r as b = true → b ≠ p) → PoolAt O' p → Flat O' → P (.loc r) O') : g_l_random_picture [.loc p, .int 4, .int 5] O P R := by
  unfold g_l_random_picture m_l_random_picture
  simp only [bodyF, sSeq, sRet, sAsg, gTp, gCn, gNl, mLcO, iRg1]
  ((simp only [gNm, wipeD, List.map_cons, List.map_nil, List.replicate, if_true, List.set_cons_succ, List.set_cons_zero, mCall, mCons, mNil, mVar, mC, mNot, mTest, mBin, mFn, List.getElem?_cons_succ, List.getElem?_cons_zero, Option.some.injEq, exists_eq_left', List.cons_append, List.nil_append, List.append_nil, List.length_cons, List.length_nil, Nat.zero_add, true_and, List.cons.injEq, and_true]))
  refine ⟨_, rfl, _, rfl, ?_⟩
  ((simp only [gNm, wipeD, List.map_cons, List.map_nil, List.replicate, if_true, List.set_cons_succ, List.set_cons_zero, mCall, mCons, mNil, mVar, mC, mNot, mTest, mBin, mFn, List.getElem?_cons_succ, List.getElem?_cons_zero, Option.some.injEq, exists_eq_left', List.cons_append, List.nil_append, List.append_nil, List.length_cons, List.length_nil, Nat.zero_add, true_and, List.cons.injEq, and_true]))
  refine w_draw (m := 4) ho (by decide) (by decide) fun r a b r0 r1 => ?_
  refine w_draw (m := 4) ⟨a, b, OH.put_same⟩ (by decide) (by decide) fun r2 a2 b2 r20 r21 => ?_
  rw [OH.put_put]
  refine ⟨by rw [sizeLine_eq]; decide, [.int (1 + r), .int (1 + r2)], rfl, rfl, _, _, rfl, _, _, rfl, rfl, _, rfl, ⟨by omega, by omega⟩, ?_⟩
  have sz := sizeLine_eq
  have f1 : Flat (O.put p (.lst [.int a2, .int b2])) := hf.put rfl
  refine wlcI (I := Under p (1 + r2).toNat) _ _ _ ⟨⟨[], [], rfl, rfl, fun j b xs e => by simp at e, fun b hb => by simp at hb, fun xs hx => by simp at hx⟩, ⟨a2, b2, OH.put_same⟩, f1⟩ (fun d _ acc O1 hI K hK => ?_) (by simp [rngD]; omega) (fun acc' O' hl hI q hq => ?_)
  · simp only [gNm, mLcO, iRg1]
    ((simp only [gNm, wipeD, List.map_cons, List.map_nil, List.replicate, if_true, List.set_cons_succ, List.set_cons_zero, mCall, mCons, mNil, mVar, mC, mNot, mTest, mBin, mFn, List.getElem?_cons_succ, List.getElem?_cons_zero, Option.some.injEq, exists_eq_left', List.cons_append, List.nil_append, List.append_nil, List.length_cons, List.length_nil, Nat.zero_add, true_and, List.cons.injEq, and_true]))
    refine ⟨_, rfl, ⟨by omega, by omega⟩, ?_⟩
    refine wlcI (I := fun acc O2 => ∃ ns : List Int, acc = ns.map D.int ∧ (∀ i ∈ ns, 0 ≤ i ∧ i < 5) ∧ Draws p O1 O2) _ _ _ ⟨[], rfl, fun i hi => by simp at hi, hI.pool, fun _ _ => rfl⟩ (fun d2 _ acc2 O2 ⟨ns, e, hr, hd⟩ K2 hK2 => ?_) (by simp [rngD]; omega) (fun acc' O3 hl ⟨ns, e, hr, hd⟩ q hq => ?_)
    · ((simp only [gNm, wipeD, List.map_cons, List.map_nil, List.replicate, if_true, List.set_cons_succ, List.set_cons_zero, mCall, mCons, mNil, mVar, mC, mNot, mTest, mBin, mFn, List.getElem?_cons_succ, List.getElem?_cons_zero, Option.some.injEq, exists_eq_left', List.cons_append, List.nil_append, List.append_nil, List.length_cons, List.length_nil, Nat.zero_add, true_and, List.cons.injEq, and_true]))
      refine w_draw (m := 5) hd.1 (by decide) (by decide) fun r3 a3 b3 r30 r31 => hK2 _ _ ⟨ns ++ [r3], by rw [e]; simp, fun i hi => ?_, hd.put a3 b3⟩
      rcases List.mem_append.mp hi with hi | hi
      · exact hr i hi
      · simp at hi; omega
    · have fl : Flat O3 := hd.flat hI.flat
      have qp : q ≠ p := fun z => by
        obtain ⟨a, b, z2⟩ := hd.1
        rw [z, z2] at hq
        cases hq
      obtain ⟨⟨as, xss, e1, e2, e3, e4, e5⟩, _, _⟩ := hI
      have hw : ns.length = (1 + r2).toNat := by
        rw [e] at hl
        simpa [rngD] using hl
      refine hK _ _ ⟨⟨as ++ [q], xss ++ [ns], by rw [e1]; simp, by simp [e2], fun j b xs h1 h2 => ?_, fun b hb => ?_, fun xs hx => ?_⟩, ?_, ?_⟩
      · by_cases c : j < as.length
        · rw [List.getElem?_append_left c] at h1
          rw [List.getElem?_append_left (by omega)] at h2
          have z := e3 j b xs h1 h2
          have bp := e4 b (List.mem_of_getElem? h1)
          have bq : b ≠ q := fun y => by
            rw [← y, hd.2 b bp, z] at hq
            cases hq
          rw [OH.put_ne bq, hd.2 b bp]
          exact z
        · have jl : j = as.length := by
            have := (List.getElem?_eq_some_iff.mp h1).1
            simp at this
            omega
          subst jl
          rw [List.getElem?_append_right (Nat.le_refl _)] at h1
          rw [e2, List.getElem?_append_right (Nat.le_refl _)] at h2
          simp at h1 h2
          subst h1 h2
          rw [OH.put_same, e]
      · rcases List.mem_append.mp hb with hb | hb
        · exact e4 b hb
        · simp at hb
          rw [hb]
          exact qp
      · rcases List.mem_append.mp hx with hx | hx
        · exact e5 xs hx
        · simp at hx
          rw [hx]
          exact ⟨hw, hr⟩
      · obtain ⟨a, b, z⟩ := hd.1
        exact ⟨a, b, by rw [OH.put_ne (Ne.symm qp)]; exact z⟩
      · refine fl.put ?_
        rw [e]
        exact flat_ints ns
  · obtain ⟨⟨as, xss, e1, e2, e3, e4, e5⟩, pl, fl⟩ := hI
    have qp : q ≠ p := fun z => by
      obtain ⟨a, b, z2⟩ := pl
      rw [z, z2] at hq
      cases hq
    have qa : q ∉ as := fun m => by
      obtain ⟨j, hj, ej⟩ := List.mem_iff_getElem.mp m
      have h1 : as[j]? = some q := by rw [List.getElem?_eq_getElem hj, ej]
      have h2 : xss[j]? = some (xss[j]'(by omega)) := List.getElem?_eq_getElem _
      rw [e3 j q _ h1 h2] at hq
      cases hq
    have hl2 : xss.length = (1 + r).toNat := by
      rw [e1] at hl
      simp [rngD] at hl
      omega
    refine h (1 + r).toNat (1 + r2).toNat q as xss _ (by omega) (by omega) (by omega) (by omega) hl2 ⟨by rw [OH.put_same, e1], e2, fun j b xs h1 h2 => ?_⟩ e5 (fun b hb => ?_) ?_ ?_
    · have bq : b ≠ q := fun y => qa (y ▸ List.mem_of_getElem? h1)
      rw [OH.put_ne bq]
      exact e3 j b xs h1 h2
    · simp [inA] at hb
      rcases hb with rfl | hb
      · exact qp
      · exact e4 b hb
    · obtain ⟨a, b, z⟩ := pl
      exact ⟨a, b, by rw [OH.put_ne (Ne.symm qp)]; exact z⟩
    · refine fl.put ?_
      rw [e1]
      exact flat_locs as
end K01

set_option Elab.async false
set_option linter.all false
set_option maxRecDepth 100000
set_option maxHeartbeats 4000000
namespace K01
open PySem PySem.Spec PyProof.Rows L2 DL

structure SmL (n k : Nat) (xs : List D) : Prop where
  ok : okL xs = true
  wg : wgL xs ≤ n
  dp : dpL xs ≤ k
theorem wgL_app : ∀ {xs ys : List D}, wgL (xs ++ ys) = wgL xs + wgL ys
  | [], ys => by simp [wgL]
  | x :: xs, ys => by simp only [List.cons_append, wgL, wgL_app (xs := xs)]; omega
theorem dpL_app : ∀ {xs ys : List D}, dpL (xs ++ ys) = max (dpL xs) (dpL ys)
  | [], ys => by simp [dpL]
  | x :: xs, ys => by simp only [List.cons_append, dpL, dpL_app (xs := xs)]; omega
theorem SmL.app {n m k : Nat} {xs ys : List D} (a : SmL n k xs) (b : SmL m k ys) : SmL (n + m) k (xs ++ ys) := by
  refine ⟨?_, ?_, ?_⟩
  · rw [okL_all]
    intro x hx
    rcases List.mem_append.mp hx with hx | hx
    · exact okL_all.mp a.ok x hx
    · exact okL_all.mp b.ok x hx
  · rw [wgL_app]; have := a.wg; have := b.wg; omega
  · rw [dpL_app]; have := a.dp; have := b.dp; omega
theorem SmL.sub {n k : Nat} {xs ys : List D} (s : ys.Sublist xs) (a : SmL n k xs) : SmL n k ys := by
  have w : wgL ys ≤ wgL xs ∧ dpL ys ≤ dpL xs := by
    clear a
    induction s with
    | slnil => exact ⟨Nat.le_refl _, Nat.le_refl _⟩
    | cons x _ ih => simp only [wgL, dpL]; omega
    | cons_cons x _ ih => simp only [wgL, dpL]; omega
  refine ⟨okL_all.mpr fun x hx => okL_all.mp a.ok x (s.mem hx), Nat.le_trans w.1 a.wg, Nat.le_trans w.2 a.dp⟩
theorem SmL.cut {n k : Nat} {xs : List D} (a : SmL n k xs) (lo hi : Option Int) : SmL n k (DL.cutD xs lo hi) := a.sub ((List.take_sublist _ _).trans (List.drop_sublist _ _))
theorem SmL.len {n k : Nat} {xs : List D} (a : SmL n k xs) : xs.length ≤ n := Nat.le_trans (len_wgL xs) a.wg
theorem sm_ints : ∀ {ns : List Int}, (∀ i ∈ ns, 0 ≤ i ∧ i < 5) → SmL (191 * ns.length) 0 (ns.map D.int)
  | [], _ => ⟨rfl, Nat.le_refl _, Nat.le_refl _⟩
  | n :: ns, h => by
    have a := sm_ints (ns := ns) fun i hi => h i (List.mem_cons_of_mem _ hi)
    have b := h n List.mem_cons_self
    refine ⟨?_, ?_, ?_⟩
    · simp only [List.map_cons, okL, okD, a.ok, Bool.and_true, decide_eq_true_eq]
      omega
    · have := a.wg
      simp only [List.map_cons, wgL, wgD, List.length_cons]
      omega
    · have := a.dp
      simp only [List.map_cons, dpL, dpD]
      omega
theorem sm_rows {w : Nat} : ∀ {xss : List (List Int)}, (∀ xs ∈ xss, xs.length = w ∧ ∀ i ∈ xs, 0 ≤ i ∧ i < 5) → SmL ((191 * w + 1) * xss.length) 1 (xss.map fun xs => .lst (xs.map D.int))
  | [], _ => ⟨rfl, Nat.le_refl _, Nat.zero_le _⟩
  | x :: xss, h => by
    have a := sm_rows (xss := xss) fun i hi => h i (List.mem_cons_of_mem _ hi)
    obtain ⟨hw, hr⟩ := h x List.mem_cons_self
    have b := sm_ints hr
    rw [hw] at b
    refine ⟨?_, ?_, ?_⟩
    · simp only [List.map_cons, okL, okD, a.ok, b.ok, Bool.and_self]
    · have := a.wg
      have := b.wg
      have e : (191 * w + 1) * (x :: xss).length = (191 * w + 1) * xss.length + (191 * w + 1) := by rw [List.length_cons, Nat.mul_add, Nat.mul_one]
      simp only [List.map_cons, wgL, wgD]
      omega
    · have := a.dp
      have := b.dp
      simp only [List.map_cons, dpL, dpD]
      omega
theorem SmL.th {n k : Nat} {xs : List D} (a : SmL n k xs) (h1 : n ≤ 100000) (h2 : k ≤ 49) : Th (.lst xs) := by
  refine ⟨by simpa only [okD] using a.ok, ?_, ?_⟩
  · have := a.wg
    simp only [wgD]; omega
  · have := a.dp
    simp only [dpD]; omega
theorem SmL.one {n k : Nat} {x : D} (h1 : okD x = true) (h2 : wgD x ≤ n) (h3 : dpD x ≤ k) : SmL (n + 1) k [x] := by
  refine ⟨by simp only [okL, h1, Bool.and_self], ?_, ?_⟩
  · simp only [wgL]; omega
  · simp only [dpL]; omega
theorem SmL.up {n m k j : Nat} {xs : List D} (a : SmL n k xs) (h1 : n ≤ m) (h2 : k ≤ j) : SmL m j xs := ⟨a.ok, Nat.le_trans a.wg h1, Nat.le_trans a.dp h2⟩
def oddD : List D := [.non, .bl true, .int (-1), .str "1", .lst [.int 1], .tup [], .lst [], .dic [] [], .int 5, .lst [.non], .int (10 ^ Int.toNat 50), .str "11"]
theorem odd_at {r : Int} (h0 : 0 ≤ r) (h1 : r < 12) : ∃ s, atI oddD r = some s ∧ okD s = true ∧ wgD s ≤ 191 ∧ dpD s ≤ 1 := by
  have e : r = 0 ∨ r = 1 ∨ r = 2 ∨ r = 3 ∨ r = 4 ∨ r = 5 ∨ r = 6 ∨ r = 7 ∨ r = 8 ∨ r = 9 ∨ r = 10 ∨ r = 11 := by omega
  rcases e with rfl | rfl | rfl | rfl | rfl | rfl | rfl | rfl | rfl | rfl | rfl | rfl <;> exact ⟨_, rfl, by decide +kernel, by decide +kernel, by decide +kernel⟩
theorem at_map {α : Type} {f : α → D} {xs : List α} {r : Int} (h0 : 0 ≤ r) (h1 : r < xs.length) : ∃ x ∈ xs, atI (xs.map f) r = some (f x) := by
  have l : r.toNat < xs.length := by omega
  refine ⟨xs[r.toNat], List.getElem_mem _, ?_⟩
  unfold atI ixN
  simp [h0, h1, l]
theorem SmL.d {n k : Nat} {xs : List D} (a : SmL n k xs) : okD (.lst xs) = true ∧ wgD (.lst xs) ≤ n ∧ dpD (.lst xs) ≤ k + 1 := by
  refine ⟨by simpa only [okD] using a.ok, by simpa only [wgD] using a.wg, ?_⟩
  have := a.dp
  simp only [dpD]; omega
theorem slA {i j : Nat} {ρ : Rho} {O : OH} {xs : List D} {k : Int} {P : D → OH → Prop} {R : Exn → OH → Prop} (h1 : ρ[i]? = some (some (.lst xs))) (h2 : ρ[j]? = some (some (.int k))) (h : P (.lst (DL.cutD xs none (some k))) O) : mSl (mVar i) mPn (mPs (mVar j)) ρ O P R :=
  ⟨_, h1, _, h2, k, rfl, h⟩
theorem slB {i j : Nat} {ρ : Rho} {O : OH} {xs : List D} {k : Int} {P : D → OH → Prop} {R : Exn → OH → Prop} (h1 : ρ[i]? = some (some (.lst xs))) (h2 : ρ[j]? = some (some (.int k))) (h : P (.lst (DL.cutD xs (some (k + 1)) none)) O) : mSl (mVar i) (mPs (mBin wAdd (mVar j) (mC (.int 1)))) mPn ρ O P R :=
  ⟨_, h1, _, h2, k + 1, rfl, h⟩
theorem fin_mut {ρ : Rho} {O : OH} {rs : List D} {k : Int} {c : D} {P : D → OH → Prop} {R : Exn → OH → Prop} (h1 : ρ[1]? = some (some (.lst rs))) (h2 : ρ[2]? = some (some (.int k))) (h7 : ρ[7]? = some (some c)) (hr : SmL 3060 1 rs) (ok : okD c = true) (wg : wgD c ≤ 4000) (dp : dpD c ≤ 2)
    (h : ∀ d, Th d → P d O) : mBin wAdd (mBin wAdd (mSl (mVar 1) mPn (mPs (mVar 2))) (mLst (mCons (mVar 7) mNil))) (mSl (mVar 1) (mPs (mBin wAdd (mVar 2) (mC (D.int 1)))) mPn) ρ O P R := by
  have sz := sizeLine_eq
  have a := (hr.cut none (some k)).up (Nat.le_refl _) (show 1 ≤ 2 by decide)
  have b := SmL.one ok wg dp
  have c := (hr.cut (some (k + 1)) none).up (Nat.le_refl _) (show 1 ≤ 2 by decide)
  have l1 := (a.app b).len
  have l2 := c.len
  rw [List.length_append] at l1
  refine slA h1 h2 ⟨_, h7, by rw [sz]; simp, ⟨by omega, slB h1 h2 ⟨by rw [List.length_append]; omega, h _ (((a.app b).app c).th (by decide) (by decide))⟩⟩⟩
theorem w_mutated {p : Addr} {O : OH} {w : Nat} {xss : List (List Int)} (ho : PoolAt O p) (h0 : 0 < xss.length) (h4 : xss.length ≤ 4) (w0 : 0 < w) (w4 : w ≤ 4) (hx : ∀ xs ∈ xss, xs.length = w ∧ ∀ i ∈ xs, 0 ≤ i ∧ i < 5)
    {P : D → OH → Prop} {R : Exn → OH → Prop} (h : ∀ (d : D) (a b : Int), Th d → P d (O.put p (.lst [.int a, .int b]))) : g_l_mutated [.loc p, rowsD xss] O P R := by
  have sz := sizeLine_eq
  have sr := sm_rows hx
  have sr4 : SmL 3060 1 (xss.map fun xs => .lst (xs.map D.int)) := sr.up (by
    have : (191 * w + 1) * xss.length ≤ (191 * 4 + 1) * 4 := Nat.mul_le_mul (by omega) h4
    omega) (Nat.le_refl _)
  unfold g_l_mutated m_l_mutated
  simp only [bodyF, sSeq, sRet, sPar, sSet, sIf, sNil, mSl, mPn, mPs, mLst, rowsD]
  ((simp only [gNm, wipeD, List.map_cons, List.map_nil, List.replicate, if_true, List.set_cons_succ, List.set_cons_zero, mCall, mCons, mNil, mVar, mC, mNot, mTest, mBin, mFn, List.getElem?_cons_succ, List.getElem?_cons_zero, Option.some.injEq, exists_eq_left', List.cons_append, List.nil_append, List.append_nil, List.length_cons, List.length_nil, Nat.zero_add, true_and, List.cons.injEq, and_true]))
  have l0 : wLen [D.lst (xss.map fun xs => D.lst (xs.map D.int))] = fun P => wLen [D.lst (xss.map fun xs => D.lst (xs.map D.int))] P := rfl
  refine ⟨_, rfl, ?_⟩
  refine w_draw ho (by simp; omega) (by simp; omega) fun r a b r0 r1 => ?_
  obtain ⟨x0, m0, e0⟩ := at_map (f := fun xs : List Int => D.lst (xs.map D.int)) (xs := xss) (Int.le_refl 0) (by omega)
  refine ⟨0, rfl, _, e0, _, rfl, ?_⟩
  have hw0 := (hx x0 m0).1
  refine w_draw ⟨a, b, OH.put_same⟩ (by simp; omega) (by simp; omega) fun r2 a2 b2 r20 r21 => ?_
  refine ⟨_, _, ⟨rfl, rfl⟩, ?_⟩
  have go : ∀ P0 : D → OH → Prop, ∀ O2 ρ R0, P0 (.lst oddD) O2 → mLst (mCons (mC D.non) (mCons (mC (D.bl true)) (mCons (mNeg (mC (D.int 1))) (mCons (mC (D.str "1")) (mCons (mLst (mCons (mC (D.int 1)) mNil)) (mCons (mTup mNil) (mCons (mLst mNil) (mCons (mC (D.dic [] [])) (mCons (mC (D.int 5)) (mCons (mLst (mCons (mC D.non) mNil))
      (mCons (mBin wPow (mC (D.int 10)) (mC (D.int 50))) (mCons (mC (D.str "11")) mNil)))))))))))) ρ O2 P0 R0 := fun P0 O2 ρ R0 h0 =>
    ⟨1, rfl, by rw [sz]; decide, by rw [sz]; decide, by rw [sz]; decide, by rw [sz]; decide, ⟨by decide, by decide, by decide⟩, by rw [sz]; decide, h0⟩
  refine go _ _ _ _ ?_
  refine w_draw (m := 12) ⟨a2, b2, by rw [OH.put_put, OH.put_same]⟩ (by decide) (by decide) fun r3 a3 b3 r30 r31 => ?_
  obtain ⟨s, es, s1, s2, s3⟩ := odd_at r30 r31
  refine ⟨r3, rfl, s, es, ?_⟩
  refine w_draw (m := 4) ⟨a3, b3, by rw [OH.put_same]⟩ (by decide) (by decide) fun r4 a4 b4 r40 r41 => ?_
  have r1' : r < xss.length := by simpa using r1
  obtain ⟨x1, m1, e1⟩ := at_map (f := fun xs : List Int => D.lst (xs.map D.int)) r0 r1'
  refine ⟨r, rfl, _, e1, ?_⟩
  refine ⟨_, _, ⟨rfl, rfl⟩, ?_⟩
  have sx : SmL 764 0 (x1.map D.int) := (sm_ints (hx x1 m1).2).up (by have := (hx x1 m1).1; omega) (Nat.le_refl _)
  rw [OH.put_put, OH.put_put, OH.put_put]
  refine slA rfl rfl (slB rfl rfl ⟨?_, ?_⟩)
  · have l1 := (sx.cut none (some r2)).len
    have l2 := (sx.cut (some (r2 + 1)) none).len
    omega
  have q1 := sx.cut none (some r2)
  have q2 := sx.cut (some (r2 + 1)) none
  have l1 := q1.len
  have l2 := q2.len
  have q0 := (q1.app q2).d
  have l3 := sx.len
  refine w_eqi ⟨_, rfl, ?_⟩
  by_cases c0 : r4 = 0
  · rw [if_pos (by simpa using c0)]
    exact fin_mut rfl rfl rfl sr4 s1 (by omega) (by omega) fun d t => h d a4 b4 t
  rw [if_neg (by simpa using c0)]
  refine w_eqi ⟨_, rfl, ?_⟩
  by_cases c1 : r4 = 1
  · rw [if_pos (by simpa using c1)]
    have b := SmL.one s1 s2 s3
    have q3 := (((q1.up (Nat.le_refl _) (show 0 ≤ 1 by decide)).app b).app (q2.up (Nat.le_refl _) (show 0 ≤ 1 by decide))).d
    refine slA rfl rfl ⟨_, rfl, by rw [sz]; simp, ⟨by simp; omega, slB rfl rfl ⟨by rw [List.length_append]; simp; omega, ?_⟩⟩⟩
    exact fin_mut rfl rfl rfl sr4 q3.1 (by omega) q3.2.2 fun d t => h d a4 b4 t
  rw [if_neg (by simpa using c1)]
  refine w_eqi ⟨_, rfl, ?_⟩
  by_cases c2 : r4 = 2
  · rw [if_pos (by simpa using c2)]
    refine ⟨_, rfl, rfl, ?_⟩
    refine w_draw (m := 3) ⟨a4, b4, by rw [OH.put_same]⟩ (by decide) (by decide) fun r5 a5 b5 r50 r51 => ?_
    rw [OH.put_put]
    have b := sm_ints (ns := [r5]) (fun i hi => by simp at hi; omega)
    have q3 := (sx.app b).d
    refine ⟨by rw [sz]; simp, ⟨by simp at l3 ⊢; omega, ?_⟩⟩
    exact fin_mut (c := .lst (x1.map D.int ++ [r5].map D.int)) rfl rfl rfl sr4 q3.1 (by have e : ([r5] : List Int).length = 1 := rfl; have := q3.2.1; omega) (by omega) fun d t => h d a5 b5 t
  rw [if_neg (by simpa using c2)]
  exact fin_mut rfl rfl rfl sr4 q0.1 (by omega) (by omega) fun d t => h d a4 b4 t
end K01

set_option Elab.async false
set_option linter.all false
set_option maxRecDepth 100000
set_option maxHeartbeats 4000000
namespace K01
open PySem PySem.Spec PyProof.Rows L2 DL

theorem wforI {g : MG OH} {b : MS OH} {I : Rho → OH → Prop} {M : MEnds OH} : ∀ (ds : List D) (ρ : Rho) (O : OH), I ρ O →
    (∀ d ∈ ds, ∀ ρ O, I ρ O → ∀ M' : MEnds OH, (∀ ρ' O', I ρ' O' → M'.nx ρ' O') → g d ρ O fun ρ1 O1 => b M' ρ1 O1) → (∀ ρ O, I ρ O → M.nx ρ O) → wFor g b ds M ρ O
  | [], ρ, O, hI, _, h => h ρ O hI
  | d :: ds, ρ, O, hI, hs, h => by
    unfold wFor
    exact hs d List.mem_cons_self ρ O hI _ fun ρ' O' hI' => wforI ds ρ' O' hI' (fun x hx => hs x (List.mem_cons_of_mem _ hx)) h
structure Held (p r : Addr) (as : List Addr) (xss : List (List Int)) (w : Nat) (O : OH) : Prop where
  rws : Rws O r as xss
  np : ∀ b, inA r as b = true → b ≠ p
  pool : PoolAt O p
  flat : Flat O
structure Small (xss : List (List Int)) (w : Nat) : Prop where
  h0 : 0 < xss.length
  h4 : xss.length ≤ 4
  w0 : 0 < w
  w4 : w ≤ 4
  el : ∀ xs ∈ xss, xs.length = w ∧ ∀ i ∈ xs, 0 ≤ i ∧ i < 5
section
variable {p r : Addr} {as : List Addr} {xss : List (List Int)} {w : Nat} {O : OH}
theorem Held.off (H : Held p r as xss w O) : Flat (offO O (inA r as)) ∧ PoolAt (offO O (inA r as)) p := by
  refine ⟨fun b y e => ?_, ?_⟩
  · unfold offO at e
    split at e
    · cases e
    · exact H.flat b y e
  · obtain ⟨a, b, z⟩ := H.pool
    refine ⟨a, b, ?_⟩
    unfold offO
    rw [if_neg (fun q => H.np p q rfl)]
    exact z
theorem Held.on (H : Held p r as xss w O) {O2 : OH} (f : Flat O2) (q : PoolAt O2 p) : Held p r as xss w (onO O O2 (inA r as)) := by
  have inn : ∀ b, inA r as b = true → onO O O2 (inA r as) b = O b := fun b e => by unfold onO; rw [if_pos e]
  refine ⟨⟨?_, H.rws.len, fun j b xs h1 h2 => ?_⟩, H.np, ?_, fun b y e => ?_⟩
  · rw [inn r (by simp [inA])]; exact H.rws.top
  · rw [inn b (by have := List.mem_of_getElem? h1; simp [inA, this])]; exact H.rws.row j b xs h1 h2
  · obtain ⟨a, b, z⟩ := q
    refine ⟨a, b, ?_⟩
    unfold onO
    rw [if_neg (fun q => H.np p q rfl)]
    exact z
  · unfold onO at e
    split at e
    · exact H.flat b y e
    · exact f b y e
theorem w_borT {m : MT OH} {ρ : Rho} {c : Bool} {P : Bool → OH → Prop} {R : Exn → OH → Prop} (H : Held p r as xss w O) (hρ : ρ[5]? = some (some (.loc r)))
    (hm : ∀ (O1 : OH), Flat O1 → PoolAt O1 p → ∀ K : Bool → OH → Prop, (∀ O2, Flat O2 → PoolAt O2 p → K c O2) → m (ρ.set 5 (some (rowsD xss))) O1 K R0) (k : ∀ O', Held p r as xss w O' → P c O') : mBorT 5 m ρ O P R :=
  ⟨r, as, xss, hρ, H.rws, hm _ H.off.1 H.off.2 _ fun O2 f2 q2 => ⟨f2, k _ (H.on f2 q2)⟩⟩
theorem w_bor {m : ME OH} {ρ : Rho} {d : D} {P : D → OH → Prop} {R : Exn → OH → Prop} (H : Held p r as xss w O) (hρ : ρ[5]? = some (some (.loc r))) (hd : noLst d = true)
    (hm : ∀ (O1 : OH), Flat O1 → PoolAt O1 p → ∀ K : D → OH → Prop, (∀ O2, Flat O2 → PoolAt O2 p → K d O2) → m (ρ.set 5 (some (rowsD xss))) O1 K R0) (k : ∀ O', Held p r as xss w O' → P d O') : mBor 5 m ρ O P R :=
  ⟨r, as, xss, hρ, H.rws, hm _ H.off.1 H.off.2 _ fun O2 f2 q2 => ⟨hd, f2, k _ (H.on f2 q2)⟩⟩
theorem Le.flat {O O' : OH} (l : Le O O') (f : Flat O) : Flat O' := fun b y e => (l.dn b y e).elim (f b y) id
theorem Le.pool {O O' : OH} (l : Le O O') (f : PoolAt O p) : PoolAt O' p := by
  obtain ⟨a, b, z⟩ := f
  exact ⟨a, b, l.up _ _ z⟩
theorem Small.th (s : Small xss w) : Th (rowsD xss) := by
  have a := sm_rows s.el
  refine a.th ?_ (by decide)
  have : (191 * w + 1) * xss.length ≤ (191 * 4 + 1) * 4 := Nat.mul_le_mul (by have := s.w4; omega) s.h4
  omega
theorem row_ints {xs : List Int} (h : 0 < xs.length) (h2 : ∀ i ∈ xs, 0 ≤ i ∧ i < 5) : isRow (.lst (xs.map D.int)) = true := by
  show rowL _ = true
  unfold rowL
  simp only [Bool.and_eq_true, List.all_eq_true, List.mem_map]
  refine ⟨by cases xs <;> simp at h ⊢, fun x ⟨i, hi, e⟩ => ?_⟩
  subst e
  simpa [isCnt] using (h2 i hi).1
theorem Small.grid (s : Small xss w) : isGrid (rowsD xss) = true := by
  show gridL _ = true
  have w0 := s.w0
  cases xss with
  | nil => exact absurd s.h0 (by simp)
  | cons x xss =>
    rw [List.map_cons, gl_cons]
    simp only [Bool.and_eq_true, List.all_eq_true]
    refine ⟨fun y hy => ?_, fun y hy => ?_⟩
    · rw [← List.map_cons (f := fun xs : List Int => D.lst (xs.map D.int))] at hy
      obtain ⟨z, hz, e⟩ := List.mem_map.mp hy
      subst e
      have q := s.el z hz
      exact row_ints (by omega) q.2
    · rw [← List.map_cons (f := fun xs : List Int => D.lst (xs.map D.int))] at hy
      obtain ⟨z, hz, e⟩ := List.mem_map.mp hy
      subst e
      have q := (s.el z hz).1
      have q2 := (s.el x List.mem_cons_self).1
      simp [lenD, q, q2]
theorem grid_T {d : D} (h : isGrid d = true) : isGrid (rowsT d) = true ∧ rowsT (rowsT d) = rowsT d := by
  obtain ⟨e, g⟩ := grid_el h
  have hr := gridL_row g
  have key : ∀ y ∈ elD d, isRow (toT y) = isRow y ∧ lenD (toT y) = lenD y ∧ toT (toT y) = toT y := fun y _ => by cases y <;> exact ⟨rfl, rfl, rfl⟩
  refine ⟨?_, ?_⟩
  · show gridL ((elD d).map toT) = true
    cases e2 : elD d with
    | nil => rw [e2] at g; cases g
    | cons x xs =>
      rw [e2] at g key
      rw [gl_cons] at g
      simp only [Bool.and_eq_true, List.all_eq_true] at g
      rw [List.map_cons, gl_cons, ← List.map_cons]
      simp only [Bool.and_eq_true, List.all_eq_true]
      refine ⟨fun y hy => ?_, fun y hy => ?_⟩
      · obtain ⟨z, hz, e⟩ := List.mem_map.mp hy
        subst e
        rw [(key z hz).1]
        exact g.1 z hz
      · obtain ⟨z, hz, e⟩ := List.mem_map.mp hy
        subst e
        rw [(key z hz).2.1, (key x List.mem_cons_self).2.1]
        exact g.2 z hz
  · show D.tup (((elD d).map toT).map toT) = D.tup ((elD d).map toT)
    rw [List.map_map]
    congr 1
    exact List.map_congr_left fun y hy => (key y hy).2.2
theorem noL_all : ∀ {xs : List D}, (∀ x ∈ xs, noLst x = true) → noLstL xs = true
  | [], _ => rfl
  | x :: xs, h => by
    simp only [noLstL, h x List.mem_cons_self, noL_all (xs := xs) fun y hy => h y (List.mem_cons_of_mem _ hy), Bool.and_self]
theorem noL_rows : noLst (rowsT (rowsD xss)) = true := by
  show noLst (.tup ((xss.map fun xs => D.lst (xs.map D.int)).map toT)) = true
  simp only [noLst]
  refine noL_all fun x hx => ?_
  obtain ⟨z, hz, e⟩ := List.mem_map.mp hx
  subst e
  obtain ⟨y, hy, e⟩ := List.mem_map.mp hz
  subst e
  simp only [toT, noLst]
  refine noL_all fun x hx => ?_
  obtain ⟨i, _, e⟩ := List.mem_map.mp hx
  subst e
  rfl
end
end K01

set_option Elab.async false
set_option linter.all false
set_option maxRecDepth 100000
set_option maxHeartbeats 4000000
namespace K01
open PySem PySem.Spec PyProof.Rows L2 DL

def fixedD : List D := [D.non, D.lst [], D.tup [], D.lst [D.lst []], D.lst [D.tup []], D.str "", D.str "12", D.int 5, D.dic [] [], D.lst [D.lst [D.int 1], D.lst []], D.lst [D.lst [D.int 1], D.lst [D.int 1, D.int 2]], D.lst [D.int 1, D.int 2], D.tup [D.tup [D.bl true]],
  D.tup [D.tup [D.int 0]], D.lst [D.int 5, D.lst [D.int 1]], D.lst [D.non, D.lst [D.int 1]], D.lst [D.bl true, D.tup [D.int 1]], D.lst [D.lst [D.int 1], D.int 5]]
theorem fixed_th : ∀ d ∈ fixedD, Th d := by
  have e : (fixedD.all fun d => okD d && decide (wgD d ≤ 100000) && decide (dpD d ≤ 50)) = true := by decide +kernel
  intro d hd
  have q := List.all_eq_true.mp e d hd
  simp only [Bool.and_eq_true, decide_eq_true_eq] at q
  exact ⟨q.1.1, q.1.2, q.2⟩
theorem ne_self {d : D} {p : PyData} (e : toPy d = some p) (c : p.canLay0 = true) (l : p.depth ≤ 64) {P : D → Prop} (h : P (.bl false)) : wNe' d d P := by
  refine .inl ⟨p, p, e, e, ?_, ?_, ?_⟩
  · unfold SeqAt.shaped; rw [c]; simp; exact l
  · unfold SeqAt.shaped; rw [c]; simp; exact l
  · rw [eqvR p c]
    exact h
theorem w_peq {d e : D} {p : PyData} (he : rowsT e = rowsT d) (ep : toPy (rowsT d) = some p) (c : p.canLay0 = true) (l : p.depth ≤ 64) {O : OH} {P : D → OH → Prop} {R : Exn → OH → Prop} (h : P (.bl true) O) : g_Picture_eq_ [picD d, picD e] O P R := by
  unfold g_Picture_eq_ m_Picture_eq_ picD
  simp only [bodyF, sRet, mAndV, mIsiC]
  ((simp only [gNm, wipeD, List.map_cons, List.map_nil, List.replicate, if_true, List.set_cons_succ, List.set_cons_zero, mCall, mCons, mNil, mVar, mC, mNot, mTest, mBin, mFn, List.getElem?_cons_succ, List.getElem?_cons_zero, Option.some.injEq, exists_eq_left', List.cons_append, List.nil_append, List.append_nil, List.length_cons, List.length_nil, Nat.zero_add, true_and, List.cons.injEq, and_true]))
  refine ⟨true, (show (if ("Picture" : Str) = "Picture" then some true else none) = some true from if_pos rfl), true, rfl, ?_⟩
  simp only [if_true]
  rw [he]
  exact ⟨_, rfl, _, _, _, rfl, if_pos rfl, _, rfl, _, _, _, rfl, if_pos rfl, eq_self ep c l h⟩
theorem w_peqT {d : D} {xs : List D} {O : OH} {P : D → OH → Prop} {R : Exn → OH → Prop} (h : P (.bl false) O) : g_Picture_eq_ [picD d, .tup xs] O P R := by
  unfold g_Picture_eq_ m_Picture_eq_ picD
  simp only [bodyF, sRet, mAndV, mIsiC]
  ((simp only [gNm, wipeD, List.map_cons, List.map_nil, List.replicate, if_true, List.set_cons_succ, List.set_cons_zero, mCall, mCons, mNil, mVar, mC, mNot, mTest, mBin, mFn, List.getElem?_cons_succ, List.getElem?_cons_zero, Option.some.injEq, exists_eq_left', List.cons_append, List.nil_append, List.append_nil, List.length_cons, List.length_nil, Nat.zero_add, true_and, List.cons.injEq, and_true]))
  exact ⟨false, rfl, false, rfl, h⟩
/-- the shape of the law's names -/
def Sh9 (ns : List Int) (ρ : Rho) (O : OH) : Prop := (∃ y1 y2 y3 y4 y5 y6 y7 y8, ρ = [some (.frz (ns.map D.int)), y1, y2, y3, y4, y5, y6, y7, y8]) ∧ Flat O
section
variable {ns : List Int} {p r : Addr} {as : List Addr} {xss : List (List Int)} {w : Nat} {O : OH} {k : Int} {y1 y2 y6 y7 y8 : Option D} {M : MEnds OH}
theorem w_end (s : Small xss w) (H : Held p r as xss w O) (hn : ∀ ρ O', Sh9 ns ρ O' → M.nx ρ O') :
    (sSeq (sAsg (mC D.non) (gSubO (mIxO (mVar 5) (mC (D.int 0))) (mC (D.int 0)))) (sSeq (sDrop (mApp (mVar 5) (mC D.non)))
      (sIf (mOr (mTest (mBin wNe' (mProp "Picture" g_Picture_rows (mVar 7)) (mVar 8))) (mOr (mNot (mTest (mEqI "Picture" g_Picture_eq_ ok_Picture (mVar 7) (mMake "Picture" g_Picture_init_ 2 [] (mCons (mVar 8) mNil)))))
        (mTest (mEqI "Picture" g_Picture_eq_ ok_Picture (mVar 7) (mVar 8))))) (sRet (mC (D.bl false))) sNil)))
      M [some (.frz (ns.map D.int)), y1, y2, some (.int k), some (.loc p), some (.loc r), y6, some (picD (rowsD xss)), some (rowsT (rowsD xss))] O := by
  simp only [sSeq, sAsg, sDrop, sIf]
  unfold mApp gSubO
  ((simp only [gNm, wipeD, List.map_cons, List.map_nil, List.replicate, if_true, List.set_cons_succ, List.set_cons_zero, mCall, mCons, mNil, mVar, mC, mNot, mTest, mBin, mFn, List.getElem?_cons_succ, List.getElem?_cons_zero, Option.some.injEq, exists_eq_left', List.cons_append, List.nil_append, List.append_nil, List.length_cons, List.length_nil, Nat.zero_add, true_and, List.cons.injEq, and_true]))
  have t := s.th
  have g := s.grid
  obtain ⟨t2, n2⟩ := rows_th t g
  obtain ⟨g2, r2⟩ := grid_T g
  obtain ⟨q, a⟩ := ok_pd t2.ok
  obtain ⟨py, cl⟩ := a.py n2
  have dq : q.depth ≤ 64 := by
    have := a.dp
    have := t2.dp
    omega
  have la : 0 < as.length := by rw [H.rws.len]; exact s.h0
  obtain ⟨b0, bs, eb⟩ : ∃ b bs, as = b :: bs := by cases as with | nil => simp at la | cons b bs => exact ⟨b, bs, rfl⟩
  obtain ⟨z0, zs, ez⟩ : ∃ b bs, xss = b :: bs := by
    have := s.h0
    cases xss with | nil => simp at this | cons b bs => exact ⟨b, bs, rfl⟩
  have hrow := H.rws.row 0 b0 z0 (by rw [eb]; rfl) (by rw [ez]; rfl)
  have hz : z0.length = w := (s.el z0 (by rw [ez]; exact List.mem_cons_self)).1
  obtain ⟨i0, is, ei⟩ : ∃ b bs, z0 = b :: bs := by
    have := s.w0
    cases z0 with | nil => simp at hz; omega | cons b bs => exact ⟨b, bs, rfl⟩
  have rb : r ≠ b0 := fun e => by
    have q := H.rws.top
    rw [e, hrow, eb, ei] at q
    simp at q
  have top2 : (O.put b0 (.lst ((z0.map D.int).set 0 D.non))) r = some (.lst (as.map D.loc)) := by
    rw [OH.put_ne rb]
    exact H.rws.top
  have sz := sizeLine_eq
  have l4 : as.length ≤ 4 := by rw [H.rws.len]; exact s.h4
  refine ixO rfl H.rws.top (by rw [eb]; exact ix0) ⟨b0, 0, _, 0, rfl, rfl, hrow, by rw [ei]; unfold ixN; simp, ?_⟩
  refine ⟨_, rfl, r, rfl, ⟨_, top2⟩, _, top2, by rw [List.length_map]; omega, ?_⟩
  have fl : Flat ((O.put b0 (.lst ((z0.map D.int).set 0 D.non))).put r (.lst (as.map D.loc ++ [D.non]))) := by
    refine (H.flat.put ?_).put ?_
    · rw [ei]
      exact flat_ints is
    · have e : ∀ bs : List Addr, flatL (bs.map D.loc ++ [D.non]) = true := fun bs => by
        induction bs with
        | nil => rfl
        | cons b bs ih => simp only [List.map_cons, List.cons_append, flatL, ih, Bool.and_self]
      exact e as
  simp only [sIf, mOr, mTest, mNot, mBin, mProp, mEqI, mMake]
  ((simp only [gNm, wipeD, List.map_cons, List.map_nil, List.replicate, if_true, List.set_cons_succ, List.set_cons_zero, mCall, mCons, mNil, mVar, mC, mNot, mTest, mBin, mFn, List.getElem?_cons_succ, List.getElem?_cons_zero, Option.some.injEq, exists_eq_left', List.cons_append, List.nil_append, List.append_nil, List.length_cons, List.length_nil, Nat.zero_add, true_and, List.cons.injEq, and_true]))
  refine ⟨_, _, rfl, w_prows (ne_self py cl dq ⟨false, rfl, ?_⟩)⟩
  simp only [Bool.false_eq_true, if_false]
  intro x hx
  refine w_make t2.gd g2 hx ⟨_, _, rfl, ?_, w_peq r2 py cl dq ⟨true, rfl, true, rfl, ?_⟩⟩
  · exact (rfl : ("Picture" : Str) = "Picture")
  simp only [Bool.not_true, Bool.false_eq_true, if_false]
  refine ⟨_, _, rfl, trivial, w_peqT ⟨false, rfl, false, rfl, ?_⟩⟩
  simp only [Bool.false_eq_true, if_false]
  exact hn _ _ ⟨⟨_, _, _, _, _, _, _, _, rfl⟩, fl⟩
/-- a turn of the law's second loop -/
theorem w_turn {k : Int} (hk : 0 ≤ k) (hk2 : k < 100) {y3 y4 y5 y6 y7 y8 : Option D} (hf : Flat O) (hn : ∀ ρ O', Sh9 ns ρ O' → M.nx ρ O') :
    (sSeq (sSet 4 (mCall g_l_pool 2 [] (mCons (mVar 0) (mCons (mVar 3) mNil)))) (sSeq (sSet 5 (mCall g_l_random_picture 3 [] (mCons (mVar 4) (mCons (mC (D.int 4)) (mCons (mC (D.int 5)) mNil)))))
      (sSeq (sIf (mBorT 5 (mOr (mNot (mTest (mCall g_l_holds 1 [] (mCons (mVar 5) mNil)))) (mNot (mTest (mCall g_l_holds 1 [] (mCons (mCall g_l_tuples 1 [] (mCons (mVar 5) mNil)) mNil)))))) (sRet (mC (D.bl false))) sNil)
      (sSeq (sFor (iRg1 (mCons (mC (D.int 6)) mNil)) (gNm 6) (sIf (mBorT 5 (mNot (mTest (mCall g_l_holds 1 [] (mCons (mCall g_l_mutated 2 [] (mCons (mVar 4) (mCons (mVar 5) mNil))) mNil))))) (sRet (mC (D.bl false))) sNil))
      (sSeq (sPar 7 8 (mCons (mBor 5 (mMake "Picture" g_Picture_init_ 2 [] (mCons (mVar 5) mNil))) (mCons (mBor 5 (mCall g_l_tuples 1 [] (mCons (mVar 5) mNil))) mNil)))
      (sSeq (sAsg (mC D.non) (gSubO (mIxO (mVar 5) (mC (D.int 0))) (mC (D.int 0)))) (sSeq (sDrop (mApp (mVar 5) (mC D.non)))
      (sIf (mOr (mTest (mBin wNe' (mProp "Picture" g_Picture_rows (mVar 7)) (mVar 8))) (mOr (mNot (mTest (mEqI "Picture" g_Picture_eq_ ok_Picture (mVar 7) (mMake "Picture" g_Picture_init_ 2 [] (mCons (mVar 8) mNil)))))
        (mTest (mEqI "Picture" g_Picture_eq_ ok_Picture (mVar 7) (mVar 8))))) (sRet (mC (D.bl false))) sNil))))))))
      M [some (.frz (ns.map D.int)), y1, y2, some (.int k), y4, y5, y6, y7, y8] O := by
  refine ⟨_, rfl, _, rfl, rfl, w_pool hk hk2 fun p a b hp => ?_⟩
  refine ⟨_, rfl, rfl, w_random ⟨a, b, OH.put_same⟩ (hf.put rfl) fun h w r as xss O' h0 h4 w0 w4 hl rws el np pl fl => ?_⟩
  have s : Small xss w := ⟨by omega, by omega, w0, w4, el⟩
  have H : Held p r as xss w O' := ⟨rws, np, pl, fl⟩
  have t := s.th
  have g := s.grid
  obtain ⟨t2, n2⟩ := rows_th t g
  refine w_borT (R := R0) (c := false) H rfl (fun O1 f1 p1 K hK => ?_) fun O1 H1 => ?_
  · refine ⟨_, rfl, rfl, w_holds t fun O2 l2 => ⟨true, rfl, ?_⟩⟩
    refine ⟨_, rfl, rfl, w_tuples t g ⟨rfl, w_holds t2 fun O3 l3 => ⟨true, rfl, ?_⟩⟩⟩
    exact hK _ (l3.flat (l2.flat f1)) (l3.pool (l2.pool p1))
  simp only [Bool.false_eq_true, if_false]
  refine ⟨6, rfl, ⟨by decide, by decide⟩, ?_⟩
  refine wforI (I := fun ρ O2 => (∃ y, ρ = [some (.frz (ns.map D.int)), y1, y2, some (.int k), some (.loc p), some (.loc r), y, y7, y8]) ∧ Held p r as xss w O2) _ _ _ ⟨⟨_, rfl⟩, H1⟩ (fun d _ ρ O2 ⟨⟨y, e⟩, H2⟩ M' hM => ?_) (fun ρ O2 ⟨⟨y, e⟩, H2⟩ => ?_)
  · subst e
    refine w_borT (R := R0) (c := false) H2 rfl (fun O1 f1 p1 K hK => ?_) fun O1 H1 => ?_
    · refine ⟨_, rfl, _, rfl, rfl, w_mutated p1 s.h0 s.h4 s.w0 s.w4 s.el fun d a b td => ⟨rfl, w_holds td fun O2 l2 => ⟨true, rfl, ?_⟩⟩⟩
      exact hK _ (l2.flat (f1.put rfl)) (l2.pool ⟨a, b, OH.put_same⟩)
    · simp only [Bool.false_eq_true, if_false]
      exact hM _ _ ⟨⟨_, rfl⟩, H1⟩
  · subst e
    refine w_bor (R := R0) H2 rfl (d := picD (rowsD xss)) ?_ (fun O1 f1 p1 K hK => ?_) fun O3 H3 => ?_
    · show noLst (.ins _ _ [rowsT (rowsD xss)]) = true
      simp only [noLst, noLstL, noL_rows, Bool.and_self]
    · refine ⟨_, rfl, rfl, fun x hx => w_make t.gd g hx (hK _ f1 p1)⟩
    refine w_bor (R := R0) H3 rfl (d := rowsT (rowsD xss)) noL_rows (fun O1 f1 p1 K hK => ?_) fun O4 H4 => ?_
    · exact ⟨_, rfl, rfl, w_tuples t g (hK _ f1 p1)⟩
    refine ⟨_, _, rfl, ?_⟩
    exact w_end s H4 hn
end
theorem law_m (ns : List Int) (hl : ns.length ≤ 63) : bodyF m_law 8 [.frz (ns.map D.int)] (fun _ => none) (fun d _ => d = .bl true) R0 := by
  have sz := sizeLine_eq
  have f0 : Flat fun _ => none := fun b y e => nomatch e
  unfold m_law
  simp only [bodyF, sSeq, sSet, sFor, mSeq, iRg1, sRet]
  unfold mLst mTup
  ((simp only [gNm, wipeD, List.map_cons, List.map_nil, List.replicate, if_true, List.set_cons_succ, List.set_cons_zero, mCall, mCons, mNil, mVar, mC, mNot, mTest, mBin, mFn, List.getElem?_cons_succ, List.getElem?_cons_zero, Option.some.injEq, exists_eq_left', List.cons_append, List.nil_append, List.append_nil, List.length_cons, List.length_nil, Nat.zero_add, true_and, List.cons.injEq, and_true]))
  iterate 27 refine ⟨by rw [sz]; decide, ?_⟩
  refine ⟨by rw [sz]; decide, .inl ⟨fixedD, rfl, ?_⟩⟩
  refine wforI (I := Sh9 ns) _ _ _ ⟨⟨_, _, _, _, _, _, _, _, rfl⟩, f0⟩ (fun d hd ρ O ⟨⟨y1, y2, y3, y4, y5, y6, y7, y8, e⟩, hf⟩ M' hM => ?_) (fun ρ O ⟨⟨y1, y2, y3, y4, y5, y6, y7, y8, e⟩, hf⟩ => ?_)
  · subst e
    refine ⟨_, rfl, rfl, w_holds (fixed_th d hd) fun O2 l2 => ⟨true, rfl, ?_⟩⟩
    simp only [Bool.not_true, Bool.false_eq_true, if_false]
    exact hM _ _ ⟨⟨_, _, _, _, _, _, _, _, rfl⟩, l2.flat hf⟩
  · subst e
    have key : ∀ j : Int, j ≤ 8 → -(2 ^ 62) ≤ j → ∀ (b : MS OH) (M : MEnds OH), (∀ ρ O, Sh9 ns ρ O → M.nx ρ O) →
        (∀ (k : Int), 0 ≤ k → k < 100 → ∀ (y1 y2 y4 y5 y6 y7 y8 : Option D) (O : OH) (M' : MEnds OH), Flat O → (∀ ρ O', Sh9 ns ρ O' → M'.nx ρ O') → b M' [some (.frz (ns.map D.int)), y1, y2, some (.int k), y4, y5, y6, y7, y8] O) →
        wFor (gNm 3) b (rngD 0 j.toNat) M [some (.frz (ns.map D.int)), y1, y2, y3, y4, y5, y6, y7, y8] O := by
      intro j j8 j0 b M hM hb
      refine wforI (I := Sh9 ns) _ _ _ ⟨⟨_, _, _, _, _, _, _, _, rfl⟩, hf⟩ (fun d hd ρ O ⟨⟨y1, y2, y3, y4, y5, y6, y7, y8, e⟩, hf⟩ M' hM => ?_) hM
      subst e
      obtain ⟨i, hi, ed⟩ := List.mem_map.mp hd
      subst ed
      have hi' := List.mem_range.mp hi
      exact hb (0 + i) (by omega) (by omega) _ _ _ _ _ _ _ _ _ hf hM
    have rng : ∀ l : Nat, (if (if (8 : Int) < (l : Int) then 8 else (l : Int)) > 1 then (if (8 : Int) < (l : Int) then 8 else (l : Int)) else 1) ≤ 8 ∧ -(2 ^ 62 : Int) ≤ (if (if (8 : Int) < (l : Int) then 8 else (l : Int)) > 1 then (if (8 : Int) < (l : Int) then 8 else (l : Int)) else 1) := by
      intro l
      split <;> split <;> omega
    refine ⟨_, rfl, _, rfl, _, _, rfl, _, _, rfl, _, rfl, ⟨(rng _).2, Int.lt_of_le_of_lt (rng _).1 (by decide)⟩, key _ (rng _).1 (rng _).2 _ _ (fun ρ O _ => rfl) fun k k0 k1 y1 y2 y4 y5 y6 y7 y8 O M' hf hn => w_turn (y3 := none) k0 k1 hf hn⟩
end K01

set_option Elab.async false
set_option linter.all false
set_option maxRecDepth 100000
set_option maxHeartbeats 4000000
namespace K01
open PySem PySem.Spec PyProof.Rows L2 DL
theorem exm_own {K : PySem.W.Frag} {S : Addr} (h1 : PySem.W.subIn K (.ref S) (.type "BaseException") = some true) (h2 : PySem.W.isClsIn K S = true) (h3 : PySem.W.typeIn K (.ref S) = some (.type "type")) (h4 : PySem.W.subIn K (.ref S) (.ref S) = some true) :
    PySem.W.exmOne K (.ref S) (.ref S) = some true := by
  have h2' : (PySem.W.clsIn K S).isSome = true := h2
  unfold PySem.W.exmOne PySem.W.kitCls
  simp [h1, h2', h3, h4]
theorem kit_own {K : PySem.W.Frag} {t : Value} {S : Addr} {b : Bool} (h2 : PySem.W.isClsIn K S = true) (h3 : PySem.W.typeIn K (.ref S) = some (.type "type")) (h4 : PySem.W.subIn K t (.ref S) = some b) (hb : t = .ref S → b = true) : PySem.W.kitOne K t (.ref S) = some b := by
  have h2' : (PySem.W.clsIn K S).isSome = true := h2
  unfold PySem.W.kitOne PySem.W.kitCls
  by_cases e : t = .ref S
  · rw [if_pos (by rw [e]; exact beq_self_eq_true _), hb e]
  · rw [if_neg (by simpa using e)]
    simp [h2', h3, h4]
set_option maxHeartbeats 8000000 in
theorem all_mk {l : PySem.W.OpenLaw} {w : World} {K : PySem.W.Frag} {h : Heap} {mg : Str → Option Value} {fa c_PictureError c_InvalidPicture c_Picture f_is_whole f_is_count f_is_colour f_is_row f_is_grid f_InvalidPicture_init_ f_Picture_init_ f_Picture_rows p_Picture_rows f_Picture_height p_Picture_height f_Picture_width p_Picture_width f_Picture_eq_ f_Picture_repr_ f_l_pool f_l_draw f_l_random_picture f_l_tuples f_l_colour f_l_line f_l_grid f_l_mutated f_l_outcome f_l_holds f_law : Addr} (X : K.In h) (G : h.Ns mainGlobals mg) (hfa : mg "law" = some (.ref fa))
    {oc_is_whole kV_is_whole dc_is_whole pm_is_whole cd_is_whole ct_is_whole oc_is_count kV_is_count dc_is_count pm_is_count cd_is_count ct_is_count oc_is_colour kV_is_colour dc_is_colour pm_is_colour cd_is_colour ct_is_colour oc_is_row kV_is_row dc_is_row pm_is_row cd_is_row ct_is_row oc_is_grid kV_is_grid dc_is_grid pm_is_grid cd_is_grid ct_is_grid oc_InvalidPicture_init_ kV_InvalidPicture_init_ dc_InvalidPicture_init_ pm_InvalidPicture_init_ cd_InvalidPicture_init_ ct_InvalidPicture_init_ oc_Picture_init_ kV_Picture_init_ dc_Picture_init_ pm_Picture_init_ cd_Picture_init_ ct_Picture_init_ oc_Picture_rows kV_Picture_rows dc_Picture_rows pm_Picture_rows cd_Picture_rows ct_Picture_rows oc_Picture_height kV_Picture_height dc_Picture_height pm_Picture_height cd_Picture_height ct_Picture_height oc_Picture_width kV_Picture_width dc_Picture_width pm_Picture_width cd_Picture_width ct_Picture_width oc_Picture_eq_ kV_Picture_eq_ dc_Picture_eq_ pm_Picture_eq_ cd_Picture_eq_ ct_Picture_eq_ oc_Picture_repr_ kV_Picture_repr_ dc_Picture_repr_ pm_Picture_repr_ cd_Picture_repr_ ct_Picture_repr_ oc_l_pool kV_l_pool dc_l_pool pm_l_pool cd_l_pool ct_l_pool oc_l_draw kV_l_draw dc_l_draw pm_l_draw cd_l_draw ct_l_draw oc_l_random_picture kV_l_random_picture dc_l_random_picture pm_l_random_picture cd_l_random_picture ct_l_random_picture oc_l_tuples kV_l_tuples dc_l_tuples pm_l_tuples cd_l_tuples ct_l_tuples oc_l_colour kV_l_colour dc_l_colour pm_l_colour cd_l_colour ct_l_colour oc_l_line kV_l_line dc_l_line pm_l_line cd_l_line ct_l_line oc_l_grid kV_l_grid dc_l_grid pm_l_grid cd_l_grid ct_l_grid oc_l_mutated kV_l_mutated dc_l_mutated pm_l_mutated cd_l_mutated ct_l_mutated oc_l_outcome kV_l_outcome dc_l_outcome pm_l_outcome cd_l_outcome ct_l_outcome oc_l_holds kV_l_holds dc_l_holds pm_l_holds cd_l_holds ct_l_holds oc_law kV_law dc_law pm_law cd_law ct_law : Value} {od_is_whole an_is_whole od_is_count an_is_count od_is_colour an_is_colour od_is_row an_is_row od_is_grid an_is_grid od_InvalidPicture_init_ an_InvalidPicture_init_ od_Picture_init_ an_Picture_init_ od_Picture_rows an_Picture_rows od_Picture_height an_Picture_height od_Picture_width an_Picture_width od_Picture_eq_ an_Picture_eq_ od_Picture_repr_ an_Picture_repr_ od_l_pool an_l_pool od_l_draw an_l_draw od_l_random_picture an_l_random_picture od_l_tuples an_l_tuples od_l_colour an_l_colour od_l_line an_l_line od_l_grid an_l_grid od_l_mutated an_l_mutated od_l_outcome an_l_outcome od_l_holds an_l_holds od_law an_law : Option Addr} {sl_is_whole sl_is_count sl_is_colour sl_is_row sl_is_grid sl_InvalidPicture_init_ sl_Picture_init_ sl_Picture_rows sl_Picture_height sl_Picture_width sl_Picture_eq_ sl_Picture_repr_ sl_l_pool sl_l_draw sl_l_random_picture sl_l_tuples sl_l_colour sl_l_line sl_l_grid sl_l_mutated sl_l_outcome sl_l_holds sl_law : Array (Option Value)} {nm_InvalidPicture q_InvalidPicture : Str} {N_InvalidPicture : Addr} {bs_InvalidPicture bm_InvalidPicture : List Value} {sn_InvalidPicture : List Str} {sub_InvalidPicture : List Value} {ab_InvalidPicture : Bool} {col_InvalidPicture : Option Bool} {dd_InvalidPicture : Option Addr} {m0_InvalidPicture m1_InvalidPicture m2_InvalidPicture m3_InvalidPicture m5_InvalidPicture : Option Value} {r_Picture_rows : List Value} {r_Picture_height : List Value} {r_Picture_width : List Value}
    (a_PictureError : PySem.W.nsIn K mainGlobals "PictureError" = some (some (.ref c_PictureError)))
    (a_InvalidPicture : PySem.W.nsIn K mainGlobals "InvalidPicture" = some (some (.ref c_InvalidPicture)))
    (x1_InvalidPicture : K.lookup c_InvalidPicture = some (excClassObj nm_InvalidPicture q_InvalidPicture c_InvalidPicture N_InvalidPicture bs_InvalidPicture bm_InvalidPicture true sn_InvalidPicture sub_InvalidPicture ab_InvalidPicture col_InvalidPicture dd_InvalidPicture m0_InvalidPicture m1_InvalidPicture m2_InvalidPicture m3_InvalidPicture m5_InvalidPicture "ValueError.__new__"))
    (x0_InvalidPicture : PySem.HandSPX.refsVE bm_InvalidPicture = true)
    (x2_InvalidPicture : PySem.W.findIn K (.ref c_InvalidPicture) "__setattr__" = some (some (.builtin "object.__setattr__")))
    (x3_InvalidPicture : PySem.W.findIn K (.ref c_InvalidPicture) "__getattribute__" = some (some (.builtin "BaseException.__getattribute__")))
    (x4_InvalidPicture : PySem.W.findIn K (.ref c_InvalidPicture) "__getattr__" = some none)
    (x5_InvalidPicture : PySem.W.findIn K (.ref c_InvalidPicture) "value" = some none)
    (x6_InvalidPicture : PySem.W.keepIn K (.ref c_InvalidPicture) = true)
    (x7_InvalidPicture : PySem.W.subIn K (.ref c_InvalidPicture) (.type "BaseException") = some true)
    (x8_InvalidPicture : PySem.W.typeIn K (.ref c_InvalidPicture) = some (.type "type"))
    (x9_InvalidPicture : PySem.W.hasDictIn K c_InvalidPicture = true)
    (xa_InvalidPicture : PySem.W.isClsIn K c_InvalidPicture = true)
    (xb_InvalidPicture : PySem.W.subIn K (.ref c_InvalidPicture) (.ref c_InvalidPicture) = some true)
    (xc_InvalidPicture : PySem.W.findIn K (.ref c_InvalidPicture) "__class__" = some (some (.builtin "object.__class__")))
    (xd_InvalidPicture : PySem.W.specialIn K (.builtin "object.__class__") "__get__" = some (some (.builtin "getset_descriptor.__get__")))
    (xe_InvalidPicture : PySem.W.takesIn K (.builtin "object.__class__") = some true)
    (xf_InvalidPicture : PySem.W.mroIn K c_InvalidPicture (.type "object") = some true)
    (y1_InvalidPicture_PictureError : PySem.W.isClsIn K c_PictureError = true)
    (y2_InvalidPicture_PictureError : PySem.W.typeIn K (.ref c_PictureError) = some (.type "type"))
    (y3_InvalidPicture_PictureError : PySem.W.subIn K (.ref c_InvalidPicture) (.ref c_PictureError) = some true)
    (a_Picture : PySem.W.nsIn K mainGlobals "Picture" = some (some (.ref c_Picture)))
    (g1_Picture : PySem.W.plainGet K c_Picture Str.empty = true)
    (g2_Picture : PySem.W.hasDictIn K c_Picture = true)
    (g3_Picture : PySem.W.plainOver K c_Picture = true)
    (g4_Picture : PySem.W.findIn K (.ref c_Picture) "__setattr__" = some (some (.builtin "object.__setattr__")))
    (g5_Picture : PySem.W.makesIn K c_Picture = true)
    (g6_Picture : PySem.W.keepIn K (.ref c_Picture) = true)
    (n_Picture_rows : PySem.W.findIn K (.ref c_Picture) "_rows" = some none)
    (g9_Picture : PySem.W.findIn K (.ref c_Picture) "__class__" = some (some (.builtin "object.__class__")))
    (ga_Picture : PySem.W.specialIn K (.builtin "object.__class__") "__get__" = some (some (.builtin "getset_descriptor.__get__")))
    (gb_Picture : PySem.W.takesIn K (.builtin "object.__class__") = some true)
    (gd_Picture : PySem.W.mroIn K c_Picture (.type "object") = some true)
    (g7_Picture : PySem.W.isClsIn K c_Picture = true)
    (g8_Picture : PySem.W.typeIn K (.ref c_Picture) = some (.type "type"))
    (u_Picture_tuple : PySem.W.subIn K (.type "tuple") (.ref c_Picture) = some false)
    (b_is_whole : PySem.W.nsIn K mainGlobals "is_whole" = some (some (.ref f_is_whole)))
    (l_is_whole : K.lookup f_is_whole = some ⟨oc_is_whole, od_is_whole, .func (PySem.W.fnOf "is_whole" "is_whole" (defArgs s_is_whole) (defBody s_is_whole) (defScope s_is_whole) .none kV_is_whole dc_is_whole pm_is_whole an_is_whole cd_is_whole ct_is_whole), sl_is_whole⟩)
    (d_is_whole : PySem.W.codeIn K cd_is_whole "is_whole" = true)
    (k_is_whole : PySem.W.keepIn K (.ref f_is_whole) = true)
    (b_is_count : PySem.W.nsIn K mainGlobals "is_count" = some (some (.ref f_is_count)))
    (l_is_count : K.lookup f_is_count = some ⟨oc_is_count, od_is_count, .func (PySem.W.fnOf "is_count" "is_count" (defArgs s_is_count) (defBody s_is_count) (defScope s_is_count) .none kV_is_count dc_is_count pm_is_count an_is_count cd_is_count ct_is_count), sl_is_count⟩)
    (d_is_count : PySem.W.codeIn K cd_is_count "is_count" = true)
    (k_is_count : PySem.W.keepIn K (.ref f_is_count) = true)
    (b_is_colour : PySem.W.nsIn K mainGlobals "is_colour" = some (some (.ref f_is_colour)))
    (l_is_colour : K.lookup f_is_colour = some ⟨oc_is_colour, od_is_colour, .func (PySem.W.fnOf "is_colour" "is_colour" (defArgs s_is_colour) (defBody s_is_colour) (defScope s_is_colour) .none kV_is_colour dc_is_colour pm_is_colour an_is_colour cd_is_colour ct_is_colour), sl_is_colour⟩)
    (d_is_colour : PySem.W.codeIn K cd_is_colour "is_colour" = true)
    (k_is_colour : PySem.W.keepIn K (.ref f_is_colour) = true)
    (b_is_row : PySem.W.nsIn K mainGlobals "_is_row" = some (some (.ref f_is_row)))
    (l_is_row : K.lookup f_is_row = some ⟨oc_is_row, od_is_row, .func (PySem.W.fnOf "_is_row" "_is_row" (defArgs s_is_row) (defBody s_is_row) (defScope s_is_row) .none kV_is_row dc_is_row pm_is_row an_is_row cd_is_row ct_is_row), sl_is_row⟩)
    (d_is_row : PySem.W.codeIn K cd_is_row "_is_row" = true)
    (k_is_row : PySem.W.keepIn K (.ref f_is_row) = true)
    (b_is_grid : PySem.W.nsIn K mainGlobals "_is_grid" = some (some (.ref f_is_grid)))
    (l_is_grid : K.lookup f_is_grid = some ⟨oc_is_grid, od_is_grid, .func (PySem.W.fnOf "_is_grid" "_is_grid" (defArgs s_is_grid) (defBody s_is_grid) (defScope s_is_grid) .none kV_is_grid dc_is_grid pm_is_grid an_is_grid cd_is_grid ct_is_grid), sl_is_grid⟩)
    (d_is_grid : PySem.W.codeIn K cd_is_grid "_is_grid" = true)
    (k_is_grid : PySem.W.keepIn K (.ref f_is_grid) = true)
    (b_InvalidPicture_init_ : PySem.W.findIn K (.ref c_InvalidPicture) "__init__" = some (some (.ref f_InvalidPicture_init_)))
    (t_InvalidPicture_init_ : PySem.W.typeIn K (.ref f_InvalidPicture_init_) = some (.type "function"))
    (l_InvalidPicture_init_ : K.lookup f_InvalidPicture_init_ = some ⟨oc_InvalidPicture_init_, od_InvalidPicture_init_, .func (PySem.W.fnOf "__init__" "InvalidPicture.__init__" (defArgs s_InvalidPicture_init_) (defBody s_InvalidPicture_init_) (defScope s_InvalidPicture_init_) .none kV_InvalidPicture_init_ dc_InvalidPicture_init_ pm_InvalidPicture_init_ an_InvalidPicture_init_ cd_InvalidPicture_init_ ct_InvalidPicture_init_), sl_InvalidPicture_init_⟩)
    (d_InvalidPicture_init_ : PySem.W.codeIn K cd_InvalidPicture_init_ "InvalidPicture.__init__" = true)
    (k_InvalidPicture_init_ : PySem.W.keepIn K (.ref f_InvalidPicture_init_) = true)
    (b_Picture_init_ : PySem.W.findIn K (.ref c_Picture) "__init__" = some (some (.ref f_Picture_init_)))
    (t_Picture_init_ : PySem.W.typeIn K (.ref f_Picture_init_) = some (.type "function"))
    (l_Picture_init_ : K.lookup f_Picture_init_ = some ⟨oc_Picture_init_, od_Picture_init_, .func (PySem.W.fnOf "__init__" "Picture.__init__" (defArgs s_Picture_init_) (defBody s_Picture_init_) (defScope s_Picture_init_) .none kV_Picture_init_ dc_Picture_init_ pm_Picture_init_ an_Picture_init_ cd_Picture_init_ ct_Picture_init_), sl_Picture_init_⟩)
    (d_Picture_init_ : PySem.W.codeIn K cd_Picture_init_ "Picture.__init__" = true)
    (k_Picture_init_ : PySem.W.keepIn K (.ref f_Picture_init_) = true)
    (b_Picture_rows : PySem.W.findIn K (.ref c_Picture) "rows" = some (some (.ref p_Picture_rows)))
    (p1_Picture_rows : PySem.W.specialIn K (.ref p_Picture_rows) "__get__" = some (some (.builtin "property.__get__")))
    (p2_Picture_rows : PySem.W.takesIn K (.ref p_Picture_rows) = some true)
    (p3_Picture_rows : PySem.W.recIn K p_Picture_rows "property" = some (.ref f_Picture_rows :: r_Picture_rows))
    (l_Picture_rows : K.lookup f_Picture_rows = some ⟨oc_Picture_rows, od_Picture_rows, .func (PySem.W.fnOf "rows" "Picture.rows" (defArgs s_Picture_rows) (defBody s_Picture_rows) (defScope s_Picture_rows) .none kV_Picture_rows dc_Picture_rows pm_Picture_rows an_Picture_rows cd_Picture_rows ct_Picture_rows), sl_Picture_rows⟩)
    (d_Picture_rows : PySem.W.codeIn K cd_Picture_rows "Picture.rows" = true)
    (k_Picture_rows : PySem.W.keepIn K (.ref f_Picture_rows) = true)
    (b_Picture_height : PySem.W.findIn K (.ref c_Picture) "height" = some (some (.ref p_Picture_height)))
    (p1_Picture_height : PySem.W.specialIn K (.ref p_Picture_height) "__get__" = some (some (.builtin "property.__get__")))
    (p2_Picture_height : PySem.W.takesIn K (.ref p_Picture_height) = some true)
    (p3_Picture_height : PySem.W.recIn K p_Picture_height "property" = some (.ref f_Picture_height :: r_Picture_height))
    (l_Picture_height : K.lookup f_Picture_height = some ⟨oc_Picture_height, od_Picture_height, .func (PySem.W.fnOf "height" "Picture.height" (defArgs s_Picture_height) (defBody s_Picture_height) (defScope s_Picture_height) .none kV_Picture_height dc_Picture_height pm_Picture_height an_Picture_height cd_Picture_height ct_Picture_height), sl_Picture_height⟩)
    (d_Picture_height : PySem.W.codeIn K cd_Picture_height "Picture.height" = true)
    (k_Picture_height : PySem.W.keepIn K (.ref f_Picture_height) = true)
    (b_Picture_width : PySem.W.findIn K (.ref c_Picture) "width" = some (some (.ref p_Picture_width)))
    (p1_Picture_width : PySem.W.specialIn K (.ref p_Picture_width) "__get__" = some (some (.builtin "property.__get__")))
    (p2_Picture_width : PySem.W.takesIn K (.ref p_Picture_width) = some true)
    (p3_Picture_width : PySem.W.recIn K p_Picture_width "property" = some (.ref f_Picture_width :: r_Picture_width))
    (l_Picture_width : K.lookup f_Picture_width = some ⟨oc_Picture_width, od_Picture_width, .func (PySem.W.fnOf "width" "Picture.width" (defArgs s_Picture_width) (defBody s_Picture_width) (defScope s_Picture_width) .none kV_Picture_width dc_Picture_width pm_Picture_width an_Picture_width cd_Picture_width ct_Picture_width), sl_Picture_width⟩)
    (d_Picture_width : PySem.W.codeIn K cd_Picture_width "Picture.width" = true)
    (k_Picture_width : PySem.W.keepIn K (.ref f_Picture_width) = true)
    (b_Picture_eq_ : PySem.W.findIn K (.ref c_Picture) "__eq__" = some (some (.ref f_Picture_eq_)))
    (t_Picture_eq_ : PySem.W.typeIn K (.ref f_Picture_eq_) = some (.type "function"))
    (l_Picture_eq_ : K.lookup f_Picture_eq_ = some ⟨oc_Picture_eq_, od_Picture_eq_, .func (PySem.W.fnOf "__eq__" "Picture.__eq__" (defArgs s_Picture_eq_) (defBody s_Picture_eq_) (defScope s_Picture_eq_) .none kV_Picture_eq_ dc_Picture_eq_ pm_Picture_eq_ an_Picture_eq_ cd_Picture_eq_ ct_Picture_eq_), sl_Picture_eq_⟩)
    (d_Picture_eq_ : PySem.W.codeIn K cd_Picture_eq_ "Picture.__eq__" = true)
    (k_Picture_eq_ : PySem.W.keepIn K (.ref f_Picture_eq_) = true)
    (b_Picture_repr_ : PySem.W.findIn K (.ref c_Picture) "__repr__" = some (some (.ref f_Picture_repr_)))
    (t_Picture_repr_ : PySem.W.typeIn K (.ref f_Picture_repr_) = some (.type "function"))
    (l_Picture_repr_ : K.lookup f_Picture_repr_ = some ⟨oc_Picture_repr_, od_Picture_repr_, .func (PySem.W.fnOf "__repr__" "Picture.__repr__" (defArgs s_Picture_repr_) (defBody s_Picture_repr_) (defScope s_Picture_repr_) .none kV_Picture_repr_ dc_Picture_repr_ pm_Picture_repr_ an_Picture_repr_ cd_Picture_repr_ ct_Picture_repr_), sl_Picture_repr_⟩)
    (d_Picture_repr_ : PySem.W.codeIn K cd_Picture_repr_ "Picture.__repr__" = true)
    (k_Picture_repr_ : PySem.W.keepIn K (.ref f_Picture_repr_) = true)
    (b_l_pool : PySem.W.nsIn K mainGlobals "_law_pool" = some (some (.ref f_l_pool)))
    (l_l_pool : K.lookup f_l_pool = some ⟨oc_l_pool, od_l_pool, .func (PySem.W.fnOf "_law_pool" "_law_pool" (defArgs s_l_pool) (defBody s_l_pool) (defScope s_l_pool) .none kV_l_pool dc_l_pool pm_l_pool an_l_pool cd_l_pool ct_l_pool), sl_l_pool⟩)
    (d_l_pool : PySem.W.codeIn K cd_l_pool "_law_pool" = true)
    (k_l_pool : PySem.W.keepIn K (.ref f_l_pool) = true)
    (b_l_draw : PySem.W.nsIn K mainGlobals "_law_draw" = some (some (.ref f_l_draw)))
    (l_l_draw : K.lookup f_l_draw = some ⟨oc_l_draw, od_l_draw, .func (PySem.W.fnOf "_law_draw" "_law_draw" (defArgs s_l_draw) (defBody s_l_draw) (defScope s_l_draw) .none kV_l_draw dc_l_draw pm_l_draw an_l_draw cd_l_draw ct_l_draw), sl_l_draw⟩)
    (d_l_draw : PySem.W.codeIn K cd_l_draw "_law_draw" = true)
    (k_l_draw : PySem.W.keepIn K (.ref f_l_draw) = true)
    (b_l_random_picture : PySem.W.nsIn K mainGlobals "_law_random_picture" = some (some (.ref f_l_random_picture)))
    (l_l_random_picture : K.lookup f_l_random_picture = some ⟨oc_l_random_picture, od_l_random_picture, .func (PySem.W.fnOf "_law_random_picture" "_law_random_picture" (defArgs s_l_random_picture) (defBody s_l_random_picture) (defScope s_l_random_picture) .none kV_l_random_picture dc_l_random_picture pm_l_random_picture an_l_random_picture cd_l_random_picture ct_l_random_picture), sl_l_random_picture⟩)
    (d_l_random_picture : PySem.W.codeIn K cd_l_random_picture "_law_random_picture" = true)
    (k_l_random_picture : PySem.W.keepIn K (.ref f_l_random_picture) = true)
    (b_l_tuples : PySem.W.nsIn K mainGlobals "_law_tuples" = some (some (.ref f_l_tuples)))
    (l_l_tuples : K.lookup f_l_tuples = some ⟨oc_l_tuples, od_l_tuples, .func (PySem.W.fnOf "_law_tuples" "_law_tuples" (defArgs s_l_tuples) (defBody s_l_tuples) (defScope s_l_tuples) .none kV_l_tuples dc_l_tuples pm_l_tuples an_l_tuples cd_l_tuples ct_l_tuples), sl_l_tuples⟩)
    (d_l_tuples : PySem.W.codeIn K cd_l_tuples "_law_tuples" = true)
    (k_l_tuples : PySem.W.keepIn K (.ref f_l_tuples) = true)
    (b_l_colour : PySem.W.nsIn K mainGlobals "_law_colour" = some (some (.ref f_l_colour)))
    (l_l_colour : K.lookup f_l_colour = some ⟨oc_l_colour, od_l_colour, .func (PySem.W.fnOf "_law_colour" "_law_colour" (defArgs s_l_colour) (defBody s_l_colour) (defScope s_l_colour) .none kV_l_colour dc_l_colour pm_l_colour an_l_colour cd_l_colour ct_l_colour), sl_l_colour⟩)
    (d_l_colour : PySem.W.codeIn K cd_l_colour "_law_colour" = true)
    (k_l_colour : PySem.W.keepIn K (.ref f_l_colour) = true)
    (b_l_line : PySem.W.nsIn K mainGlobals "_law_line" = some (some (.ref f_l_line)))
    (l_l_line : K.lookup f_l_line = some ⟨oc_l_line, od_l_line, .func (PySem.W.fnOf "_law_line" "_law_line" (defArgs s_l_line) (defBody s_l_line) (defScope s_l_line) .none kV_l_line dc_l_line pm_l_line an_l_line cd_l_line ct_l_line), sl_l_line⟩)
    (d_l_line : PySem.W.codeIn K cd_l_line "_law_line" = true)
    (k_l_line : PySem.W.keepIn K (.ref f_l_line) = true)
    (b_l_grid : PySem.W.nsIn K mainGlobals "_law_grid" = some (some (.ref f_l_grid)))
    (l_l_grid : K.lookup f_l_grid = some ⟨oc_l_grid, od_l_grid, .func (PySem.W.fnOf "_law_grid" "_law_grid" (defArgs s_l_grid) (defBody s_l_grid) (defScope s_l_grid) .none kV_l_grid dc_l_grid pm_l_grid an_l_grid cd_l_grid ct_l_grid), sl_l_grid⟩)
    (d_l_grid : PySem.W.codeIn K cd_l_grid "_law_grid" = true)
    (k_l_grid : PySem.W.keepIn K (.ref f_l_grid) = true)
    (b_l_mutated : PySem.W.nsIn K mainGlobals "_law_mutated" = some (some (.ref f_l_mutated)))
    (l_l_mutated : K.lookup f_l_mutated = some ⟨oc_l_mutated, od_l_mutated, .func (PySem.W.fnOf "_law_mutated" "_law_mutated" (defArgs s_l_mutated) (defBody s_l_mutated) (defScope s_l_mutated) .none kV_l_mutated dc_l_mutated pm_l_mutated an_l_mutated cd_l_mutated ct_l_mutated), sl_l_mutated⟩)
    (d_l_mutated : PySem.W.codeIn K cd_l_mutated "_law_mutated" = true)
    (k_l_mutated : PySem.W.keepIn K (.ref f_l_mutated) = true)
    (b_l_outcome : PySem.W.nsIn K mainGlobals "_law_outcome" = some (some (.ref f_l_outcome)))
    (l_l_outcome : K.lookup f_l_outcome = some ⟨oc_l_outcome, od_l_outcome, .func (PySem.W.fnOf "_law_outcome" "_law_outcome" (defArgs s_l_outcome) (defBody s_l_outcome) (defScope s_l_outcome) .none kV_l_outcome dc_l_outcome pm_l_outcome an_l_outcome cd_l_outcome ct_l_outcome), sl_l_outcome⟩)
    (d_l_outcome : PySem.W.codeIn K cd_l_outcome "_law_outcome" = true)
    (k_l_outcome : PySem.W.keepIn K (.ref f_l_outcome) = true)
    (b_l_holds : PySem.W.nsIn K mainGlobals "_law_holds" = some (some (.ref f_l_holds)))
    (l_l_holds : K.lookup f_l_holds = some ⟨oc_l_holds, od_l_holds, .func (PySem.W.fnOf "_law_holds" "_law_holds" (defArgs s_l_holds) (defBody s_l_holds) (defScope s_l_holds) .none kV_l_holds dc_l_holds pm_l_holds an_l_holds cd_l_holds ct_l_holds), sl_l_holds⟩)
    (d_l_holds : PySem.W.codeIn K cd_l_holds "_law_holds" = true)
    (k_l_holds : PySem.W.keepIn K (.ref f_l_holds) = true)
    (b_law : PySem.W.nsIn K mainGlobals "law" = some (some (.ref f_law)))
    (l_law : K.lookup f_law = some ⟨oc_law, od_law, .func (PySem.W.fnOf "law" "law" (defArgs s_law) (defBody s_law) (defScope s_law) .none kV_law dc_law pm_law an_law cd_law ct_law), sl_law⟩)
    (d_law : PySem.W.codeIn K cd_law "law" = true)
    (k_law : PySem.W.keepIn K (.ref f_law) = true)
    (z_isinstance : PySem.W.nsIn K mainGlobals "isinstance" = some none)
    (z_len : PySem.W.nsIn K mainGlobals "len" = some none)
    (z_all : PySem.W.nsIn K mainGlobals "all" = some none)
    (z_tuple : PySem.W.nsIn K mainGlobals "tuple" = some none)
    (z_repr : PySem.W.nsIn K mainGlobals "repr" = some none)
    (z_abs : PySem.W.nsIn K mainGlobals "abs" = some none)
    (z_int : PySem.W.nsIn K mainGlobals "int" = some none)
    (z_bool : PySem.W.nsIn K mainGlobals "bool" = some none)
    (z_list : PySem.W.nsIn K mainGlobals "list" = some none)
    (z_sum : PySem.W.nsIn K mainGlobals "sum" = some none)
    (z_range : PySem.W.nsIn K mainGlobals "range" = some none)
    (z_max : PySem.W.nsIn K mainGlobals "max" = some none)
    (z_min : PySem.W.nsIn K mainGlobals "min" = some none)
    : ∃ fd : FuncData, (∀ (s : Shared) (v : Value), BindsTo s fd ⟨[v], []⟩ [("script", v)]) ∧ ∀ base : Heap, K.In base → base.Ns mainGlobals mg → (∃ mm, base.Ns sysModules mm) → FnS l.prog w K mg base 11 fa fd ["script"] (spLawD K) := by
  have e := hfa.symm.trans (PySem.W.mg_of X G b_law)
  cases e
  let A : Ad := { a_is_whole := f_is_whole, fd_is_whole := PySem.W.fnOf "is_whole" "is_whole" (defArgs s_is_whole) (defBody s_is_whole) (defScope s_is_whole) .none kV_is_whole dc_is_whole pm_is_whole an_is_whole cd_is_whole ct_is_whole, a_is_count := f_is_count, fd_is_count := PySem.W.fnOf "is_count" "is_count" (defArgs s_is_count) (defBody s_is_count) (defScope s_is_count) .none kV_is_count dc_is_count pm_is_count an_is_count cd_is_count ct_is_count, a_is_colour := f_is_colour, fd_is_colour := PySem.W.fnOf "is_colour" "is_colour" (defArgs s_is_colour) (defBody s_is_colour) (defScope s_is_colour) .none kV_is_colour dc_is_colour pm_is_colour an_is_colour cd_is_colour ct_is_colour, a_is_row := f_is_row, fd_is_row := PySem.W.fnOf "_is_row" "_is_row" (defArgs s_is_row) (defBody s_is_row) (defScope s_is_row) .none kV_is_row dc_is_row pm_is_row an_is_row cd_is_row ct_is_row, a_is_grid := f_is_grid, fd_is_grid := PySem.W.fnOf "_is_grid" "_is_grid" (defArgs s_is_grid) (defBody s_is_grid) (defScope s_is_grid) .none kV_is_grid dc_is_grid pm_is_grid an_is_grid cd_is_grid ct_is_grid, a_InvalidPicture_init_ := f_InvalidPicture_init_, fd_InvalidPicture_init_ := PySem.W.fnOf "__init__" "InvalidPicture.__init__" (defArgs s_InvalidPicture_init_) (defBody s_InvalidPicture_init_) (defScope s_InvalidPicture_init_) .none kV_InvalidPicture_init_ dc_InvalidPicture_init_ pm_InvalidPicture_init_ an_InvalidPicture_init_ cd_InvalidPicture_init_ ct_InvalidPicture_init_, a_Picture_init_ := f_Picture_init_, fd_Picture_init_ := PySem.W.fnOf "__init__" "Picture.__init__" (defArgs s_Picture_init_) (defBody s_Picture_init_) (defScope s_Picture_init_) .none kV_Picture_init_ dc_Picture_init_ pm_Picture_init_ an_Picture_init_ cd_Picture_init_ ct_Picture_init_, a_Picture_rows := f_Picture_rows, fd_Picture_rows := PySem.W.fnOf "rows" "Picture.rows" (defArgs s_Picture_rows) (defBody s_Picture_rows) (defScope s_Picture_rows) .none kV_Picture_rows dc_Picture_rows pm_Picture_rows an_Picture_rows cd_Picture_rows ct_Picture_rows, a_Picture_height := f_Picture_height, fd_Picture_height := PySem.W.fnOf "height" "Picture.height" (defArgs s_Picture_height) (defBody s_Picture_height) (defScope s_Picture_height) .none kV_Picture_height dc_Picture_height pm_Picture_height an_Picture_height cd_Picture_height ct_Picture_height, a_Picture_width := f_Picture_width, fd_Picture_width := PySem.W.fnOf "width" "Picture.width" (defArgs s_Picture_width) (defBody s_Picture_width) (defScope s_Picture_width) .none kV_Picture_width dc_Picture_width pm_Picture_width an_Picture_width cd_Picture_width ct_Picture_width, a_Picture_eq_ := f_Picture_eq_, fd_Picture_eq_ := PySem.W.fnOf "__eq__" "Picture.__eq__" (defArgs s_Picture_eq_) (defBody s_Picture_eq_) (defScope s_Picture_eq_) .none kV_Picture_eq_ dc_Picture_eq_ pm_Picture_eq_ an_Picture_eq_ cd_Picture_eq_ ct_Picture_eq_, a_Picture_repr_ := f_Picture_repr_, fd_Picture_repr_ := PySem.W.fnOf "__repr__" "Picture.__repr__" (defArgs s_Picture_repr_) (defBody s_Picture_repr_) (defScope s_Picture_repr_) .none kV_Picture_repr_ dc_Picture_repr_ pm_Picture_repr_ an_Picture_repr_ cd_Picture_repr_ ct_Picture_repr_, a_l_pool := f_l_pool, fd_l_pool := PySem.W.fnOf "_law_pool" "_law_pool" (defArgs s_l_pool) (defBody s_l_pool) (defScope s_l_pool) .none kV_l_pool dc_l_pool pm_l_pool an_l_pool cd_l_pool ct_l_pool, a_l_draw := f_l_draw, fd_l_draw := PySem.W.fnOf "_law_draw" "_law_draw" (defArgs s_l_draw) (defBody s_l_draw) (defScope s_l_draw) .none kV_l_draw dc_l_draw pm_l_draw an_l_draw cd_l_draw ct_l_draw, a_l_random_picture := f_l_random_picture, fd_l_random_picture := PySem.W.fnOf "_law_random_picture" "_law_random_picture" (defArgs s_l_random_picture) (defBody s_l_random_picture) (defScope s_l_random_picture) .none kV_l_random_picture dc_l_random_picture pm_l_random_picture an_l_random_picture cd_l_random_picture ct_l_random_picture, a_l_tuples := f_l_tuples, fd_l_tuples := PySem.W.fnOf "_law_tuples" "_law_tuples" (defArgs s_l_tuples) (defBody s_l_tuples) (defScope s_l_tuples) .none kV_l_tuples dc_l_tuples pm_l_tuples an_l_tuples cd_l_tuples ct_l_tuples, a_l_colour := f_l_colour, fd_l_colour := PySem.W.fnOf "_law_colour" "_law_colour" (defArgs s_l_colour) (defBody s_l_colour) (defScope s_l_colour) .none kV_l_colour dc_l_colour pm_l_colour an_l_colour cd_l_colour ct_l_colour, a_l_line := f_l_line, fd_l_line := PySem.W.fnOf "_law_line" "_law_line" (defArgs s_l_line) (defBody s_l_line) (defScope s_l_line) .none kV_l_line dc_l_line pm_l_line an_l_line cd_l_line ct_l_line, a_l_grid := f_l_grid, fd_l_grid := PySem.W.fnOf "_law_grid" "_law_grid" (defArgs s_l_grid) (defBody s_l_grid) (defScope s_l_grid) .none kV_l_grid dc_l_grid pm_l_grid an_l_grid cd_l_grid ct_l_grid, a_l_mutated := f_l_mutated, fd_l_mutated := PySem.W.fnOf "_law_mutated" "_law_mutated" (defArgs s_l_mutated) (defBody s_l_mutated) (defScope s_l_mutated) .none kV_l_mutated dc_l_mutated pm_l_mutated an_l_mutated cd_l_mutated ct_l_mutated, a_l_outcome := f_l_outcome, fd_l_outcome := PySem.W.fnOf "_law_outcome" "_law_outcome" (defArgs s_l_outcome) (defBody s_l_outcome) (defScope s_l_outcome) .none kV_l_outcome dc_l_outcome pm_l_outcome an_l_outcome cd_l_outcome ct_l_outcome, a_l_holds := f_l_holds, fd_l_holds := PySem.W.fnOf "_law_holds" "_law_holds" (defArgs s_l_holds) (defBody s_l_holds) (defScope s_l_holds) .none kV_l_holds dc_l_holds pm_l_holds an_l_holds cd_l_holds ct_l_holds, a_law := fa, fd_law := PySem.W.fnOf "law" "law" (defArgs s_law) (defBody s_law) (defScope s_law) .none kV_law dc_law pm_law an_law cd_law ct_law, c_PictureError := c_PictureError, c_InvalidPicture := c_InvalidPicture, c_Picture := c_Picture, p_Picture_rows := p_Picture_rows, p_Picture_height := p_Picture_height, p_Picture_width := p_Picture_width }
  have gP := PySem.W.mg_of X G a_Picture
  have gI := PySem.W.mg_of X G a_InvalidPicture
  have kP : PySem.W.kitOne K (.ref c_Picture) (.ref c_Picture) = some true := by
    unfold PySem.W.kitOne
    rw [if_pos (beq_self_eq_true _)]
  have kT : PySem.W.kitOne K (.type "tuple") (.ref c_Picture) = some false := kit_own g7_Picture g8_Picture u_Picture_tuple fun z => nomatch z
  have nP : PySem.W.notFirst K c_Picture (.ref c_Picture) = true := by
    unfold PySem.W.notFirst
    rw [beq_self_eq_true]
    rfl
  have nT : PySem.W.notFirst K c_Picture (.type "tuple") = true := by
    unfold PySem.W.notFirst
    rw [u_Picture_tuple]
    simp
  have insP : ∀ (G0 H0 : Hp) (v : V) (ns : List Str) (ds : List D), Same G0 H0 → Rp K mg G0 v (.ins "Picture" ns ds) → TyX K H0 v (.ref c_Picture) := by
    intro G0 H0 v ns ds sm r
    cases r with
    | ins hm hg hl hr =>
      rw [gP] at hm
      cases hm
      exact .base (.ins (sm _ _ hg) ⟨g1_Picture, g2_Picture, g3_Picture, g4_Picture⟩ g9_Picture ga_Picture gb_Picture gd_Picture)
  have is0_Picture : IsiC K mg c_Picture is_Picture := by
    refine ⟨fun G0 H0 v d b sm r h => ?_⟩
    cases d with
    | ins C ns ds =>
      simp only [is_Picture] at h
      split at h
      · rename_i e
        subst e
        cases h
        exact ⟨_, insP G0 H0 v ns ds sm r, kP⟩
      · cases h
    | tup xs =>
      cases h
      exact ⟨_, rp_tyX sm r rfl, kT⟩
    | _ => cases h
  have ty0_Picture : EqT K mg c_Picture ok_Picture := by
    refine ⟨fun G0 H0 v d sm r h => ?_⟩
    cases d with
    | ins C ns ds =>
      have e : C = "Picture" := h
      subst e
      exact ⟨_, insP G0 H0 v ns ds sm r, nP⟩
    | tup xs => exact ⟨_, rp_tyX sm r rfl, nT⟩
    | _ => exact h.elim
  have clx_InvalidPicture : ∀ (x : Exn) (b : Bool) (cls : Value), mg x.cls = some cls → cl_InvalidPicture x = some b → PySem.W.exmOne K cls (.ref c_InvalidPicture) = some b := by
    intro x b cls hm h
    unfold cl_InvalidPicture at h
    split at h
    · rename_i e
      rw [e, gI] at hm
      cases hm
      cases h
      exact exm_own x7_InvalidPicture xa_InvalidPicture x8_InvalidPicture xb_InvalidPicture
    · cases h
  have xkx_InvalidPicture_PictureError : ∀ (x : Exn) (b : Bool), xk_InvalidPicture_PictureError x = some b → PySem.W.kitOne K (.ref c_InvalidPicture) (.ref c_PictureError) = some b := by
    intro x b h
    unfold xk_InvalidPicture_PictureError at h
    split at h
    · cases h
      exact kit_own y1_InvalidPicture_PictureError y2_InvalidPicture_PictureError y3_InvalidPicture_PictureError fun _ => rfl
    · cases h
  have F_is_whole := fun_mk (st := s_is_whole) l_is_whole d_is_whole k_is_whole
  have B_is_whole := F_is_whole.binds (ps := ["value"]) fun _ _ _ _ _ _ us hl => match us, hl with | [_], _ => rfl
  have F_is_count := fun_mk (st := s_is_count) l_is_count d_is_count k_is_count
  have B_is_count := F_is_count.binds (ps := ["value"]) fun _ _ _ _ _ _ us hl => match us, hl with | [_], _ => rfl
  have F_is_colour := fun_mk (st := s_is_colour) l_is_colour d_is_colour k_is_colour
  have B_is_colour := F_is_colour.binds (ps := ["value"]) fun _ _ _ _ _ _ us hl => match us, hl with | [_], _ => rfl
  have F_is_row := fun_mk (st := s_is_row) l_is_row d_is_row k_is_row
  have B_is_row := F_is_row.binds (ps := ["value"]) fun _ _ _ _ _ _ us hl => match us, hl with | [_], _ => rfl
  have F_is_grid := fun_mk (st := s_is_grid) l_is_grid d_is_grid k_is_grid
  have B_is_grid := F_is_grid.binds (ps := ["value"]) fun _ _ _ _ _ _ us hl => match us, hl with | [_], _ => rfl
  have F_InvalidPicture_init_ := fun_mk (st := s_InvalidPicture_init_) l_InvalidPicture_init_ d_InvalidPicture_init_ k_InvalidPicture_init_
  have B_InvalidPicture_init_ := F_InvalidPicture_init_.binds (ps := ["self", "value"]) fun _ _ _ _ _ _ us hl => match us, hl with | [_, _], _ => rfl
  have F_Picture_init_ := fun_mk (st := s_Picture_init_) l_Picture_init_ d_Picture_init_ k_Picture_init_
  have B_Picture_init_ := F_Picture_init_.binds (ps := ["self", "rows"]) fun _ _ _ _ _ _ us hl => match us, hl with | [_, _], _ => rfl
  have F_Picture_rows := fun_mk (st := s_Picture_rows) l_Picture_rows d_Picture_rows k_Picture_rows
  have B_Picture_rows := F_Picture_rows.binds (ps := ["self"]) fun _ _ _ _ _ _ us hl => match us, hl with | [_], _ => rfl
  have F_Picture_height := fun_mk (st := s_Picture_height) l_Picture_height d_Picture_height k_Picture_height
  have B_Picture_height := F_Picture_height.binds (ps := ["self"]) fun _ _ _ _ _ _ us hl => match us, hl with | [_], _ => rfl
  have F_Picture_width := fun_mk (st := s_Picture_width) l_Picture_width d_Picture_width k_Picture_width
  have B_Picture_width := F_Picture_width.binds (ps := ["self"]) fun _ _ _ _ _ _ us hl => match us, hl with | [_], _ => rfl
  have F_Picture_eq_ := fun_mk (st := s_Picture_eq_) l_Picture_eq_ d_Picture_eq_ k_Picture_eq_
  have B_Picture_eq_ := F_Picture_eq_.binds (ps := ["self", "other"]) fun _ _ _ _ _ _ us hl => match us, hl with | [_, _], _ => rfl
  have F_Picture_repr_ := fun_mk (st := s_Picture_repr_) l_Picture_repr_ d_Picture_repr_ k_Picture_repr_
  have B_Picture_repr_ := F_Picture_repr_.binds (ps := ["self"]) fun _ _ _ _ _ _ us hl => match us, hl with | [_], _ => rfl
  have F_l_pool := fun_mk (st := s_l_pool) l_l_pool d_l_pool k_l_pool
  have B_l_pool := F_l_pool.binds (ps := ["script", "k"]) fun _ _ _ _ _ _ us hl => match us, hl with | [_, _], _ => rfl
  have F_l_draw := fun_mk (st := s_l_draw) l_l_draw d_l_draw k_l_draw
  have B_l_draw := F_l_draw.binds (ps := ["pool", "many"]) fun _ _ _ _ _ _ us hl => match us, hl with | [_, _], _ => rfl
  have F_l_random_picture := fun_mk (st := s_l_random_picture) l_l_random_picture d_l_random_picture k_l_random_picture
  have B_l_random_picture := F_l_random_picture.binds (ps := ["pool", "most", "colours"]) fun _ _ _ _ _ _ us hl => match us, hl with | [_, _, _], _ => rfl
  have F_l_tuples := fun_mk (st := s_l_tuples) l_l_tuples d_l_tuples k_l_tuples
  have B_l_tuples := F_l_tuples.binds (ps := ["rows"]) fun _ _ _ _ _ _ us hl => match us, hl with | [_], _ => rfl
  have F_l_colour := fun_mk (st := s_l_colour) l_l_colour d_l_colour k_l_colour
  have B_l_colour := F_l_colour.binds (ps := ["thing"]) fun _ _ _ _ _ _ us hl => match us, hl with | [_], _ => rfl
  have F_l_line := fun_mk (st := s_l_line) l_l_line d_l_line k_l_line
  have B_l_line := F_l_line.binds (ps := ["thing"]) fun _ _ _ _ _ _ us hl => match us, hl with | [_], _ => rfl
  have F_l_grid := fun_mk (st := s_l_grid) l_l_grid d_l_grid k_l_grid
  have B_l_grid := F_l_grid.binds (ps := ["thing"]) fun _ _ _ _ _ _ us hl => match us, hl with | [_], _ => rfl
  have F_l_mutated := fun_mk (st := s_l_mutated) l_l_mutated d_l_mutated k_l_mutated
  have B_l_mutated := F_l_mutated.binds (ps := ["pool", "rows"]) fun _ _ _ _ _ _ us hl => match us, hl with | [_, _], _ => rfl
  have F_l_outcome := fun_mk (st := s_l_outcome) l_l_outcome d_l_outcome k_l_outcome
  have B_l_outcome := F_l_outcome.binds (ps := ["thing"]) fun _ _ _ _ _ _ us hl => match us, hl with | [_], _ => rfl
  have F_l_holds := fun_mk (st := s_l_holds) l_l_holds d_l_holds k_l_holds
  have B_l_holds := F_l_holds.binds (ps := ["thing"]) fun _ _ _ _ _ _ us hl => match us, hl with | [_], _ => rfl
  have F_law := fun_mk (st := s_law) l_law d_law k_law
  have B_law := F_law.binds (ps := ["script"]) fun _ _ _ _ _ _ us hl => match us, hl with | [_], _ => rfl
  have Tt : ∀ base : Heap, (∃ mm, base.Ns sysModules mm) → Tx K mg base A := fun base sm => { mods := sm, F_is_whole := F_is_whole, b_is_whole := B_is_whole, g_is_whole := PySem.W.mg_of X G b_is_whole, F_is_count := F_is_count, b_is_count := B_is_count, g_is_count := PySem.W.mg_of X G b_is_count, F_is_colour := F_is_colour, b_is_colour := B_is_colour, g_is_colour := PySem.W.mg_of X G b_is_colour, F_is_row := F_is_row, b_is_row := B_is_row, g_is_row := PySem.W.mg_of X G b_is_row, F_is_grid := F_is_grid, b_is_grid := B_is_grid, g_is_grid := PySem.W.mg_of X G b_is_grid, F_InvalidPicture_init_ := F_InvalidPicture_init_, b_InvalidPicture_init_ := B_InvalidPicture_init_, F_Picture_init_ := F_Picture_init_, b_Picture_init_ := B_Picture_init_, F_Picture_rows := F_Picture_rows, b_Picture_rows := B_Picture_rows, F_Picture_height := F_Picture_height, b_Picture_height := B_Picture_height, F_Picture_width := F_Picture_width, b_Picture_width := B_Picture_width, F_Picture_eq_ := F_Picture_eq_, b_Picture_eq_ := B_Picture_eq_, F_Picture_repr_ := F_Picture_repr_, b_Picture_repr_ := B_Picture_repr_, F_l_pool := F_l_pool, b_l_pool := B_l_pool, g_l_pool := PySem.W.mg_of X G b_l_pool, F_l_draw := F_l_draw, b_l_draw := B_l_draw, g_l_draw := PySem.W.mg_of X G b_l_draw, F_l_random_picture := F_l_random_picture, b_l_random_picture := B_l_random_picture, g_l_random_picture := PySem.W.mg_of X G b_l_random_picture, F_l_tuples := F_l_tuples, b_l_tuples := B_l_tuples, g_l_tuples := PySem.W.mg_of X G b_l_tuples, F_l_colour := F_l_colour, b_l_colour := B_l_colour, g_l_colour := PySem.W.mg_of X G b_l_colour, F_l_line := F_l_line, b_l_line := B_l_line, g_l_line := PySem.W.mg_of X G b_l_line, F_l_grid := F_l_grid, b_l_grid := B_l_grid, g_l_grid := PySem.W.mg_of X G b_l_grid, F_l_mutated := F_l_mutated, b_l_mutated := B_l_mutated, g_l_mutated := PySem.W.mg_of X G b_l_mutated, F_l_outcome := F_l_outcome, b_l_outcome := B_l_outcome, g_l_outcome := PySem.W.mg_of X G b_l_outcome, F_l_holds := F_l_holds, b_l_holds := B_l_holds, g_l_holds := PySem.W.mg_of X G b_l_holds, F_law := F_law, b_law := B_law, g_law := PySem.W.mg_of X G b_law, mg_PictureError := PySem.W.mg_of X G a_PictureError, mg_InvalidPicture := PySem.W.mg_of X G a_InvalidPicture, ox_InvalidPicture := ⟨⟨_, _, _, _, _, _, _, _, _, _, _, _, _, _, _, x1_InvalidPicture, x0_InvalidPicture⟩, x2_InvalidPicture, x7_InvalidPicture, x8_InvalidPicture, x6_InvalidPicture⟩, oi_InvalidPicture := b_InvalidPicture_init_, ot_InvalidPicture := t_InvalidPicture_init_, no_InvalidPicture := x5_InvalidPicture, xc_InvalidPicture := ⟨x3_InvalidPicture, x4_InvalidPicture, x5_InvalidPicture, x7_InvalidPicture, x9_InvalidPicture⟩, xi_InvalidPicture := ⟨x3_InvalidPicture, x4_InvalidPicture, x7_InvalidPicture, x9_InvalidPicture, xc_InvalidPicture, xd_InvalidPicture, xe_InvalidPicture, xf_InvalidPicture⟩, cl'_InvalidPicture := clx_InvalidPicture, xk_InvalidPicture_PictureError := xkx_InvalidPicture_PictureError, mg_Picture := PySem.W.mg_of X G a_Picture, cl_Picture := ⟨g1_Picture, g2_Picture, g3_Picture, g4_Picture⟩, mk_Picture := ⟨g5_Picture, b_Picture_init_, (by unfold PySem.W.isFn; rw [t_Picture_init_]; rfl), g6_Picture⟩, na_Picture_rows := n_Picture_rows, pr_Picture_rows := ⟨b_Picture_rows, p1_Picture_rows, p2_Picture_rows, ⟨_, p3_Picture_rows⟩⟩, pr_Picture_height := ⟨b_Picture_height, p1_Picture_height, p2_Picture_height, ⟨_, p3_Picture_height⟩⟩, pr_Picture_width := ⟨b_Picture_width, p1_Picture_width, p2_Picture_width, ⟨_, p3_Picture_width⟩⟩, eq_Picture := b_Picture_eq_, fn_Picture_eq_ := (by unfold PySem.W.isFn; rw [t_Picture_eq_]; rfl), ty_Picture := ty0_Picture, is_Picture := is0_Picture, re_Picture := b_Picture_repr_, fn_Picture_repr_ := (by unfold PySem.W.isFn; rw [t_Picture_repr_]; rfl), n_isinstance := PySem.W.mg_none_of X G z_isinstance, n_len := PySem.W.mg_none_of X G z_len, n_all := PySem.W.mg_none_of X G z_all, n_tuple := PySem.W.mg_none_of X G z_tuple, n_repr := PySem.W.mg_none_of X G z_repr, n_abs := PySem.W.mg_none_of X G z_abs, n_int := PySem.W.mg_none_of X G z_int, n_bool := PySem.W.mg_none_of X G z_bool, n_list := PySem.W.mg_none_of X G z_list, n_sum := PySem.W.mg_none_of X G z_sum, n_range := PySem.W.mg_none_of X G z_range, n_max := PySem.W.mg_none_of X G z_max, n_min := PySem.W.mg_none_of X G z_min }
  exact ⟨_, fun s v => .of_eq rfl, fun base _ _ sm => ok_law (P := l.prog) (w := w) (base := base) (Tt base sm) law_m⟩
end K01

open PySem PySem.W PyProof.Rows in
set_option maxRecDepth 100000 in
set_option maxHeartbeats 0 in
theorem PySem.Challenge.cw_pictureframes_k01_valid_pictures_holds : PySem.Challenge.rw_pictureframes_k01_valid_pictures.Holds := by
  w_on; o_law; k_head; (case hw => w_witness2)
  k_fill
  refine DL.walk_D (l := PySem.Challenge.rw_pictureframes_k01_valid_pictures) (k := 11) (x := "script") rfl (by decide +kernel) rfl ⟨rfl, by decide, by decide⟩ (fun w h Y => PySem.W.kIn_of Y) ?F
  case F =>
    intro w mg fa h KX G hmg
    refine' K01.all_mk KX G hmg ?a_PictureError ?a_InvalidPicture ?x1_InvalidPicture ?x0_InvalidPicture ?x2_InvalidPicture ?x3_InvalidPicture ?x4_InvalidPicture ?x5_InvalidPicture ?x6_InvalidPicture ?x7_InvalidPicture ?x8_InvalidPicture ?x9_InvalidPicture ?xa_InvalidPicture ?xb_InvalidPicture ?xc_InvalidPicture ?xd_InvalidPicture ?xe_InvalidPicture ?xf_InvalidPicture ?y1_InvalidPicture_PictureError ?y2_InvalidPicture_PictureError ?y3_InvalidPicture_PictureError ?a_Picture ?g1_Picture ?g2_Picture ?g3_Picture ?g4_Picture ?g5_Picture ?g6_Picture ?n_Picture_rows ?g9_Picture ?ga_Picture ?gb_Picture ?gd_Picture ?g7_Picture ?g8_Picture ?u_Picture_tuple ?b_is_whole ?l_is_whole ?d_is_whole ?k_is_whole ?b_is_count ?l_is_count ?d_is_count ?k_is_count ?b_is_colour ?l_is_colour ?d_is_colour ?k_is_colour ?b_is_row ?l_is_row ?d_is_row ?k_is_row ?b_is_grid ?l_is_grid ?d_is_grid ?k_is_grid ?b_InvalidPicture_init_ ?t_InvalidPicture_init_ ?l_InvalidPicture_init_ ?d_InvalidPicture_init_ ?k_InvalidPicture_init_ ?b_Picture_init_ ?t_Picture_init_ ?l_Picture_init_ ?d_Picture_init_ ?k_Picture_init_ ?b_Picture_rows ?p1_Picture_rows ?p2_Picture_rows ?p3_Picture_rows ?l_Picture_rows ?d_Picture_rows ?k_Picture_rows ?b_Picture_height ?p1_Picture_height ?p2_Picture_height ?p3_Picture_height ?l_Picture_height ?d_Picture_height ?k_Picture_height ?b_Picture_width ?p1_Picture_width ?p2_Picture_width ?p3_Picture_width ?l_Picture_width ?d_Picture_width ?k_Picture_width ?b_Picture_eq_ ?t_Picture_eq_ ?l_Picture_eq_ ?d_Picture_eq_ ?k_Picture_eq_ ?b_Picture_repr_ ?t_Picture_repr_ ?l_Picture_repr_ ?d_Picture_repr_ ?k_Picture_repr_ ?b_l_pool ?l_l_pool ?d_l_pool ?k_l_pool ?b_l_draw ?l_l_draw ?d_l_draw ?k_l_draw ?b_l_random_picture ?l_l_random_picture ?d_l_random_picture ?k_l_random_picture ?b_l_tuples ?l_l_tuples ?d_l_tuples ?k_l_tuples ?b_l_colour ?l_l_colour ?d_l_colour ?k_l_colour ?b_l_line ?l_l_line ?d_l_line ?k_l_line ?b_l_grid ?l_l_grid ?d_l_grid ?k_l_grid ?b_l_mutated ?l_l_mutated ?d_l_mutated ?k_l_mutated ?b_l_outcome ?l_l_outcome ?d_l_outcome ?k_l_outcome ?b_l_holds ?l_l_holds ?d_l_holds ?k_l_holds ?b_law ?l_law ?d_law ?k_law ?z_isinstance ?z_len ?z_all ?z_tuple ?z_repr ?z_abs ?z_int ?z_bool ?z_list ?z_sum ?z_range ?z_max ?z_min
    (case a_PictureError => k_is)
    (case a_InvalidPicture => k_is)
    (case x1_InvalidPicture => k_is)
    (case x0_InvalidPicture => decide +kernel)
    (case x2_InvalidPicture => k_is)
    (case x3_InvalidPicture => k_is)
    (case x4_InvalidPicture => k_is)
    (case x5_InvalidPicture => k_is)
    (case x6_InvalidPicture => k_is)
    (case x7_InvalidPicture => k_is)
    (case x8_InvalidPicture => k_is)
    (case x9_InvalidPicture => k_is)
    (case xa_InvalidPicture => k_is)
    (case xb_InvalidPicture => k_is)
    (case xc_InvalidPicture => k_is)
    (case xd_InvalidPicture => k_is)
    (case xe_InvalidPicture => k_is)
    (case xf_InvalidPicture => k_is)
    (case y1_InvalidPicture_PictureError => k_is)
    (case y2_InvalidPicture_PictureError => k_is)
    (case y3_InvalidPicture_PictureError => k_is)
    (case a_Picture => k_is)
    (case g1_Picture => k_is)
    (case g2_Picture => k_is)
    (case g3_Picture => k_is)
    (case g4_Picture => k_is)
    (case g5_Picture => k_is)
    (case g6_Picture => k_is)
    (case n_Picture_rows => k_is)
    (case g9_Picture => k_is)
    (case ga_Picture => k_is)
    (case gb_Picture => k_is)
    (case gd_Picture => k_is)
    (case g7_Picture => k_is)
    (case g8_Picture => k_is)
    (case u_Picture_tuple => k_is)
    (case b_is_whole => k_is)
    (case l_is_whole => k_is)
    (case d_is_whole => k_is)
    (case k_is_whole => k_is)
    (case b_is_count => k_is)
    (case l_is_count => k_is)
    (case d_is_count => k_is)
    (case k_is_count => k_is)
    (case b_is_colour => k_is)
    (case l_is_colour => k_is)
    (case d_is_colour => k_is)
    (case k_is_colour => k_is)
    (case b_is_row => k_is)
    (case l_is_row => k_is)
    (case d_is_row => k_is)
    (case k_is_row => k_is)
    (case b_is_grid => k_is)
    (case l_is_grid => k_is)
    (case d_is_grid => k_is)
    (case k_is_grid => k_is)
    (case b_InvalidPicture_init_ => k_is)
    (case t_InvalidPicture_init_ => k_is)
    (case l_InvalidPicture_init_ => k_is)
    (case d_InvalidPicture_init_ => k_is)
    (case k_InvalidPicture_init_ => k_is)
    (case b_Picture_init_ => k_is)
    (case t_Picture_init_ => k_is)
    (case l_Picture_init_ => k_is)
    (case d_Picture_init_ => k_is)
    (case k_Picture_init_ => k_is)
    (case b_Picture_rows => k_is)
    (case p1_Picture_rows => k_is)
    (case p2_Picture_rows => k_is)
    (case p3_Picture_rows => k_is)
    (case l_Picture_rows => k_is)
    (case d_Picture_rows => k_is)
    (case k_Picture_rows => k_is)
    (case b_Picture_height => k_is)
    (case p1_Picture_height => k_is)
    (case p2_Picture_height => k_is)
    (case p3_Picture_height => k_is)
    (case l_Picture_height => k_is)
    (case d_Picture_height => k_is)
    (case k_Picture_height => k_is)
    (case b_Picture_width => k_is)
    (case p1_Picture_width => k_is)
    (case p2_Picture_width => k_is)
    (case p3_Picture_width => k_is)
    (case l_Picture_width => k_is)
    (case d_Picture_width => k_is)
    (case k_Picture_width => k_is)
    (case b_Picture_eq_ => k_is)
    (case t_Picture_eq_ => k_is)
    (case l_Picture_eq_ => k_is)
    (case d_Picture_eq_ => k_is)
    (case k_Picture_eq_ => k_is)
    (case b_Picture_repr_ => k_is)
    (case t_Picture_repr_ => k_is)
    (case l_Picture_repr_ => k_is)
    (case d_Picture_repr_ => k_is)
    (case k_Picture_repr_ => k_is)
    (case b_l_pool => k_is)
    (case l_l_pool => k_is)
    (case d_l_pool => k_is)
    (case k_l_pool => k_is)
    (case b_l_draw => k_is)
    (case l_l_draw => k_is)
    (case d_l_draw => k_is)
    (case k_l_draw => k_is)
    (case b_l_random_picture => k_is)
    (case l_l_random_picture => k_is)
    (case d_l_random_picture => k_is)
    (case k_l_random_picture => k_is)
    (case b_l_tuples => k_is)
    (case l_l_tuples => k_is)
    (case d_l_tuples => k_is)
    (case k_l_tuples => k_is)
    (case b_l_colour => k_is)
    (case l_l_colour => k_is)
    (case d_l_colour => k_is)
    (case k_l_colour => k_is)
    (case b_l_line => k_is)
    (case l_l_line => k_is)
    (case d_l_line => k_is)
    (case k_l_line => k_is)
    (case b_l_grid => k_is)
    (case l_l_grid => k_is)
    (case d_l_grid => k_is)
    (case k_l_grid => k_is)
    (case b_l_mutated => k_is)
    (case l_l_mutated => k_is)
    (case d_l_mutated => k_is)
    (case k_l_mutated => k_is)
    (case b_l_outcome => k_is)
    (case l_l_outcome => k_is)
    (case d_l_outcome => k_is)
    (case k_l_outcome => k_is)
    (case b_l_holds => k_is)
    (case l_l_holds => k_is)
    (case d_l_holds => k_is)
    (case k_l_holds => k_is)
    (case b_law => k_is)
    (case l_law => k_is)
    (case d_law => k_is)
    (case k_law => k_is)
    (case z_isinstance => k_is)
    (case z_len => k_is)
    (case z_all => k_is)
    (case z_tuple => k_is)
    (case z_repr => k_is)
    (case z_abs => k_is)
    (case z_int => k_is)
    (case z_bool => k_is)
    (case z_list => k_is)
    (case z_sum => k_is)
    (case z_range => k_is)
    (case z_max => k_is)
    (case z_min => k_is)

